import PyProof.Rows.All
import Wide.All
import OpenK.AllK
import Wide.FinOn
import KE.KSuper
import KE.KExcSuper
import HandS.ForMost
import HandS.ForExc
import HandS.ExcInit
import HandS.Defaults
import KE.KIsAll
import KE.KTryMore
import KE.KExcIs
import HandS.ExcIs
import HandS.ExcField
import HandS.Lambda
import HandS.Words
import HandS.WordsExc
import HandS.IsInst
import HandS.FStr
import HandS.Comp
import HandS.Zip
import HandS.TupAny
import HandS.Iter
import HandS.Text
import HandS.SetTxt0
import HandS.SetFor
import HandS.Set
import HandS.Strs
import PyProof.Rows.SortShellAny
import PyProof.AutoSeq1
import KE.DataMinMax
import KE.LtData
import PyProof.StrOps2
import HandS.Wide
import HandS.Gcd
import HandS.Flow
import HandS.More
import HandS.Star
import HandS.Codes
import HandS.ExcOwn
import KE.Datum
import HandS.HeadWalk
import PyProof.P3Eq
import KE.KStateDown
import Lean
import HandS.Ends
import HandS.Head0
import HandS.Head1
import HandS.Head2
import HandS.Head3
import HandS.HeadEnd
import HandS.HeadHook1
import HandS.HeadHook2
import HandS.HeadHook3
import HandS.HeadHook4
import KE.KExcInit
import PySem.Challenge.RW_behindtaps_k12_texts_of_nets_there_and_b
set_option Elab.async false
set_option linter.all false
set_option maxRecDepth 100000
set_option maxHeartbeats 2000000
/-! own errors whose __init__ says super().__init__(e), over ValueError, one own class or more between -/
namespace Hx
open PySem PySem.Spec PyProof.Rows L2
abbrev initEnv (qual : Str) (sc : Scope) (s : Shared) (f cda cc : Addr) : Env := PySem.W.ksEnv qual sc s.heap.objs.size f (.ref cda) cc
/-- the body of such an __init__, entered at s -/
def cloCx (P : Program) (w : World) (K : PySem.W.Frag) (mg : Str → Option Value) (base : Heap) (N : List Str) (qual : Str) (sc : Scope) (f cda cc : Addr)
    (A : Around) (outer : List Env) (s : Shared) (H : Hp) : Cx :=
  { prog := P, w := w, K := K, mg := mg, base := base, A := A.deeper (initEnv qual sc s f cda cc), N := N, s_0 := s, H_0 := H, env := initEnv qual sc s f cda cc,
    outer := outer, stack := initEnv qual sc s f cda cc :: outer, ex := [], fn := fun _ => false, calm := true, pn := [], xe := fun _ _ => False }
section
variable {P : Program} {w : World} {K : PySem.W.Frag} {mg : Str → Option Value} {base : Heap} {qual x y : Str} {sc : Scope} {f cda cc : Addr}
  {A : Around} {outer : List Env} {s : Shared} {H : Hp}
theorem clo_start {v1 v2 : V} {u1 u2 : Value} {h1 : Heap} {tk : Nat} {oc : Obj} {vc : Option Value} (hk : sc.kind = .function) (hx : sc.names.lookup x = some .local) (hy : sc.names.lookup y = some .local) (nxy : x ≠ y)
    (nocell : ∀ z ∈ sc.names, z.2 ≠ .cell) (hfree : ∀ z ∈ sc.names, z.2 = .free → z.1 = "__class__") (hcc : base.get? cc = some oc) (hoc : oc.data = .cell vc)
    (hd : A.handled = none) (e0 : Env0 P w K mg base A outer s H) (r1 : RelV v1 u1) (r2 : RelV v2 u2)
    (hns : h1.Ns s.heap.objs.size fun z => ([(x, u1), (y, u2)] : List (Str × Value)).reverse.lookup z) (kp : ∀ b o, s.heap.get? b = some o → h1.get? b = some o) :
    Inv (cloCx P w K mg base [x, y] qual sc f cda cc A outer s H) [] [some v1, some v2] H { s with heap := h1, toks := tk } := by
  have none_ex : ∀ b : Addr, b ∉ (cloCx P w K mg base [x, y] qual sc f cda cc A outer s H).ex := fun b z => nomatch z
  have only : ∀ z c, ([("__class__", cc)] : List (Str × Addr)).lookup z = some c → z = "__class__" ∧ c = cc := fun z c e => by
    have m := PySem.mem_of_lookup e
    simp only [List.mem_singleton, Prod.mk.injEq] at m
    exact m
  have okX : (cloCx P w K mg base [x, y] qual sc f cda cc A outer s H).Ok := {
    mod := e0.mod
    kind := hk
    glob := rfl
    blt := rfl
    above := Nat.le_refl _
    inj := fun z z' c e e' => (only z c e).1.trans (only z' c e').1.symm
    has := fun z hz => by
      have hz' : sc.names.lookup z = some .cell ∨ sc.names.lookup z = some .free := hz
      rcases hz' with q | q
      · exact absurd rfl (nocell _ (PySem.mem_of_lookup q))
      · have e := hfree _ (PySem.mem_of_lookup q) rfl
        exact ⟨cc, by rw [show z = "__class__" from e]; rfl⟩
    cab := fun z c q _ => nomatch q
    hd := fun _ => hd
    frames := Around.frames_deeper e0.frames
    stk := .inr ⟨rfl, rfl⟩
    exf := fun b z => absurd z (none_ex b)
    bs := e0.bs
    bsz := e0.bsz
    noex := fun b _ _ => none_ex b
    exfs := fun b z => absurd z (none_ex b)
    funs := e0.funs
    frf := e0.frf }
  refine { ok := okX, os := rfl, bare := e0.bare, base := Un.kept kp, loc := ⟨_, hns, fun i z v e1 e2 e3 => ?_⟩, cell := fun z c e => ?_, free := e0.hok.fresh (Nat.le_refl _), freeC := fun z c e => ?_, pin := fun p hp => ?_, hok := e0.hok.kept kp, len := rfl }
  · match i, e1, e2 with
    | 0, e1, e2 =>
      cases e1
      cases e2
      refine ⟨u1, r1, .inl ⟨hx, ?_⟩⟩
      show ([(y, u2), (x, u1)] : List (Str × Value)).lookup x = some u1
      rw [List.lookup_cons]
      have : (x == y) = false := by simpa using nxy
      rw [this]
      simp [List.lookup]
    | 1, e1, e2 =>
      cases e1
      cases e2
      refine ⟨u2, r2, .inl ⟨hy, ?_⟩⟩
      show ([(y, u2), (x, u1)] : List (Str × Value)).lookup y = some u2
      simp [List.lookup]
  · obtain ⟨_, rfl⟩ := only z c e
    exact ⟨vc, oc, kp _ _ (e0.bs _ _ hcc).1, hoc⟩
  · obtain ⟨_, rfl⟩ := only z c e
    exact (e0.bs _ _ hcc).2
  · exact nomatch (show p ∈ ([] : List (Addr × Obj)) from hp)
end
/-- what the written part says of the error's class at C, its __init__ at f and that one's code object at cda -/
structure SupC (P : Program) (K : PySem.W.Frag) (C f cda cc : Addr) (fd : FuncData) : Prop where
  T : OexC K C
  fn : ∃ oc od osl, K.lookup f = some ⟨oc, od, .func fd, osl⟩
  code : ∃ c d vs sl file t, K.lookup cda = some ⟨c, d, .fields vs, sl⟩ ∧ vs[2]? = some (.str file t) ∧ ((P.main.file : Str) == file) = true
  cell : ∃ c d sl, K.lookup cc = some ⟨c, d, .cell (some (.ref C)), sl⟩
  cls : ∃ cd, PySem.W.clsIn K C = some cd
  own : PySem.W.mroIn K C (.ref C) = some true
  noop : PySem.W.nsIn K cStatics "thirdparty.any" = some none
  sup : PySem.W.ks_superIn K C C "__init__" = some (some (.builtin "ValueError.__init__"))
  ve : PySem.W.subIn K (.ref C) (.type "ValueError") = some true
section
variable {X : Cx} {pins : List (Addr × Obj)} {σ : L2.St} {H : Hp} {s : Shared} {a C u : Addr} {A : Around} {E : Value → Shared → Prop}
/-- the bound built-in __init__, called -/
theorem mw_call {us : List Value} {Q : Value → Shared → Prop} (T : OexC X.K C) (I : Inv X pins σ H s) (e : H a = some (exo a C none)) (hu : s.heap.get? u = some (PySem.W.kxs_mw "ValueError.__init__" a)) (hl : us.length ≤ sizeLine)
    (h : ∀ s', Inv X pins σ H s' → Q .none s') : wpAny (model X.prog X.w) A (call (.ref u) us) Q E s := by
  obtain ⟨nm, q, N, bs, bm, sn, sub, ab, col, dd, k0, k1, k2, k3, k5, hC, hbm⟩ := T.cls
  obtain ⟨t1, ho⟩ := exo_at I.hok e
  have FB := PySem.F.excBase_ValueError
  have hC' := I.kIn _ _ hC
  have fin : ∀ h', (∀ b o, b ≠ a → s.heap.get? b = some o → h'.get? b = some o) →
      h'.get? a = some ({ cls := .ref C, dict := none, data := .fields #[.ref s.heap.objs.size, .none, .none, .none, .bool false, .none] } : Obj) → ∀ t', Q .none { s with heap := h', toks := t' } := fun h' k hx t' => by
    have J := I.write (t' := t') (x := a) (e := a) (o := exo a C none) (by rw [e]; exact True.intro) (.inl rfl) k ⟨_, hx⟩ (exo_ok hx)
    have same : upd H a (exo a C none) = H := funext fun b => by
      by_cases hb : b = a
      · subst hb; rw [upd_same, e]
      · rw [upd_ne hb]
    rw [same] at J
    exact h _ J
  obtain ⟨hh, g, d, t, os⟩ := s
  refine wpAny_call (codeAny_of_tree ?_)
  show wpAny _ A.in1 (callAny (.ref u) ⟨us, []⟩) _ _ _
  simp only [callAny]
  refine wpAny_bind (wpAny_load hu ?_)
  simp only [PySem.W.kxs_mw, show (Value.type "method-wrapper" == Value.type "method" || Value.type "method-wrapper" == Value.type "builtin_function_or_method" || Value.type "method-wrapper" == Value.type "method-wrapper") = true by decide, if_true]
  refine PySem.W.KFB.if_so (by decide) ?_
  refine wpAny_bind (PySem.W.check_bound_init FB.toExcCallFacts hC' ho rfl ?_)
  refine wpAny_bind (wpAny_pure (wpAny_pure ?_))
  refine ⟨plainId_quiet FB.init.plain _, codeAny_builtin FB.initEntry ?_⟩
  exact PySem.W.exc_init_tree (cls := .ref C) (t0 := t1) (dv := none) (c2 := .none) (c3 := .none) (b4 := .bool false) ho hl fun h' k hx _ => fin h' k hx _

/-- super() in such an __init__ -/
theorem super_at {body : List Stmt} {p0 p1 : Pos} {whole : Sem Value} {f cda cc : Addr} {fd : FuncData} {ar : Arg} {Q : Value → Shared → Prop} (S : SupC X.prog X.K C f cda cc fd) (I : Inv X pins σ H s) (e : H a = some (exo a C none))
    (hf : X.env.func = some f) (hc : X.env.code = .ref cda) (hcl : X.env.cells.lookup ("__class__" : Str) = some cc) (hp : (fd.params.posonlyargs ++ fd.params.args).head? = some ar) (hN : X.N[0]? = some ar.arg) (h0 : σ[0]? = some (some (.ref a)))
    (hka : X.env.scope.names.lookup ar.arg = some .local) (hks : X.env.scope.names.lookup ("super" : Str) = some .globalImplicit) (hkc : X.env.scope.names.lookup ("__class__" : Str) = some .free) (hm : X.mg "super" = none)
    (htop : (X.prog.main.scope.names.lookup ("super" : Str)).isSome = false) (h : ∀ so h', (∀ b o, s.heap.get? b = some o → h'.get? b = some o) → h'.get? so = some (PySem.W.ks_superObj C a C) → s.heap.objs.size ≤ so → Q (.ref so) { s with heap := h' }) :
    _root_.PySem.wpAt (model X.prog X.w) X.A (.func body X.env) (attributeBase (.Call (.Name "super" p0) [] [] p1) "__init__" X.env whole) Q E s := by
  obtain ⟨oc, od, osl, lf⟩ := S.fn
  obtain ⟨c1, d1, vs, sl1, file, tf, lc, hvs, hfile⟩ := S.code
  obtain ⟨c2, d2, sl2, lcc⟩ := S.cell
  obtain ⟨cd, hcd⟩ := S.cls
  obtain ⟨t1, ho⟩ := exo_at I.hok e
  have KX := I.kIn
  obtain ⟨mb, hb, hbb⟩ := I.ok.mod.blt
  have nb := hb.keeps I.bk
  have ng := I.ok.mod.glob.keeps I.bk
  obtain ⟨m, hns, hloc⟩ := I.loc
  obtain ⟨us, ru, look⟩ := hloc 0 ar.arg (.ref a) hN h0 (.inl hka)
  obtain rfl : us = Value.ref a := ru
  have hself : m ar.arg = some (.ref a) := by
    rcases look with ⟨_, z⟩ | ⟨k, _⟩
    · exact z
    · have k' : X.env.scope.names.lookup ar.arg = some .cell ∨ X.env.scope.names.lookup ar.arg = some .free := k
      rw [hka] at k'
      rcases k' with k' | k' <;> cases k'
  obtain ⟨oD, hD1, hD2⟩ : ∃ oD, s.heap.get? C = some oD ∧ oD.data = .cls cd := by
    unfold PySem.W.clsIn at hcd
    split at hcd
    · rename_i z1 z2 z3 z4 hz
      cases hcd
      exact ⟨_, KX _ _ hz, rfl⟩
    · cases hcd
  refine PySem.ks_wpAt_super_base (env := X.env) hks hkc (by decide) hf (KX _ _ lf) rfl hp hc (KX _ _ lc) rfl hvs hfile htop ?_
  refine PySem.W.ks_loadName_global I.ok.kind hks (PySem.Calls.loadGlobal_builtin (env := X.env) (by rw [I.ok.glob]; exact ng) hm (by rw [I.ok.blt]; exact nb) ((hbb _ (by decide +kernel)).trans (by decide +kernel)) ⟨rfl, ?_⟩)
  refine wpAny_loadName_free I.ok.kind hkc hcl ⟨_, KX _ _ lcc, rfl⟩ ?_
  refine wpAny_loadName_local I.ok.kind hka hns hself ?_
  refine PySem.ks_wpAny_isType_cls hD1 hD2 ⟨rfl, ?_⟩
  obtain ⟨hh, g, d, t, os⟩ := s
  exact PySem.ks_wpAny_call_super hD1 hD2 ho rfl (fun c z => nomatch z) (PySem.W.looks_mroIn KX S.own) (fun h' q k => h _ h' k q (Nat.le_refl _))
/-- .__init__ of it -/
theorem super_meth {pl : Sem Bool} {so : Addr} {f cda cc : Addr} {fd : FuncData} {Q : Value × List Value → Shared → Prop} (S : SupC X.prog X.K C f cda cc fd) (I : Inv X pins σ H s) (e : H a = some (exo a C none)) (hso : s.heap.get? so = some (PySem.W.ks_superObj C a C))
    (h : ∀ q h', (∀ b o, s.heap.get? b = some o → h'.get? b = some o) → s.heap.objs.size ≤ q → h'.get? q = some (PySem.W.kxs_mw "ValueError.__init__" a) → Q (.ref q, []) { s with heap := h', toks := s.toks + 1 }) :
    wpAny (model X.prog X.w) A (getMethod (.ref so) "__init__" pl) Q E s := by
  obtain ⟨cd, hcd⟩ := S.cls
  obtain ⟨t1, ho⟩ := exo_at I.hok e
  have KX := I.kIn
  have J : PySem.W.InstAt s.heap a { cls := .ref C, dict := none, data := .fields #[.ref t1, .none, .none, .none, .bool false, .none] } C none := ⟨ho, rfl, rfl, trivial⟩
  have hm := S.sup
  unfold PySem.W.ks_superIn at hm
  rw [hcd] at hm
  have hI : PySem.W.Looks (model X.prog X.w) s.heap (isInstance (.ref a) (.type "ValueError")) true := J.type.andThen (PySem.W.looks_subIn KX S.ve)
  obtain ⟨hh, g, d, t, os⟩ := s
  refine PySem.W.kxs_getMethod PySem.W.kxs_ValueError hso (PySem.W.looks_opaque KX S.noop) (l₀ := cd.mro) ?_ rfl KX hm hI (PySem.W.ks_ne KX J hcd) (by decide) ?_
  · exact fun A Q E s k q => wpAny_bind ((PySem.W.looks_clsIn KX hcd) A _ E s k (wpAny_pure q))
  · exact h _ _ (fun b o z => Heap.get?_push_of_some _ z) (Nat.le_refl _) (Heap.get?_push_at rfl rfl)
/-- the statement super().__init__(e) -/
theorem super_stmt {pl : Sem Bool} {body : List Stmt} {p0 p1 p2 p3 p4 : Pos} {ex : Expr} {ta : TA} {f cda cc : Addr} {fd : FuncData} {ar : Arg} {Q : Flow → Shared → Prop} (S : SupC X.prog X.K C f cda cc fd) (I : Inv X [] σ H s) (e : H a = some (exo a C none))
    (hf : X.env.func = some f) (hc : X.env.code = .ref cda) (hcl : X.env.cells.lookup ("__class__" : Str) = some cc) (hp : (fd.params.posonlyargs ++ fd.params.args).head? = some ar) (hN : X.N[0]? = some ar.arg) (h0 : σ[0]? = some (some (.ref a)))
    (hka : X.env.scope.names.lookup ar.arg = some .local) (hks : X.env.scope.names.lookup ("super" : Str) = some .globalImplicit) (hkc : X.env.scope.names.lookup ("__class__" : Str) = some .free) (hm : X.mg "super" = none)
    (htop : (X.prog.main.scope.names.lookup ("super" : Str)).isSome = false) (ha : PA X [ex] ta) (hxe : X.xe = E) (hi : interactive X.env = false)
    (h : ta σ H fun vs H1 => H1 a = some (exo a C none) ∧ vs.length ≤ 1000 ∧ ∀ s', Inv X [] σ H1 s' → Q .next s')
    (hs : swapsWith (.Call (.Attribute (.Call (.Name "super" p0) [] [] p1) "__init__" p2) [ex] [] p3) none p4.line X.env = pure false := by rfl)
    (hst : starEach [ex] X.env = [(false, eval ex X.env)] := by rfl)
    (hev : eval (.Call (.Attribute (.Call (.Name "super" p0) [] [] p1) "__init__" p2) [ex] [] p3) X.env = (do
      let ov ← attributeBase (.Call (.Name "super" p0) [] [] p1) "__init__" X.env (eval (.Call (.Name "super" p0) [] [] p1) X.env)
      standAt p2.atName
      let (g, first) ← holding [ov] (getMethod ov "__init__" pl)
      callWith p3 g first (backTo p3 (starEach [ex] X.env)) []) := by rfl) :
    _root_.PySem.wpAt (model X.prog X.w) X.A (.func body X.env) (exec (.Expr (.Call (.Attribute (.Call (.Name "super" p0) [] [] p1) "__init__" p2) [ex] [] p3) p4) X.env) Q E s := by
  subst hxe
  refine PySem.ks_wpAt_Expr_any ?_ hi hs
  refine PySem.ks_wpAt_MethodCall ?_ hev
  refine super_at S I e hf hc hcl hp hN h0 hka hks hkc hm htop fun so h' k hso hsz => ?_
  have I1 : Inv X [] σ H { s with heap := h' } := I.kept (t' := s.toks) k
  refine super_meth S I1 e hso fun q h2 k2 hsz2 hq => ?_
  have I2 : Inv X [] σ H { s with heap := h2, toks := s.toks + 1 } := I1.kept (t' := s.toks + 1) k2
  have nq : H q = none := I1.hok.fresh hsz2
  have I3 : Inv X [(q, PySem.W.kxs_mw "ValueError.__init__" a)] σ H { s with heap := h2, toks := s.toks + 1 } := I2.pins_of fun p hp' => by
    obtain rfl : p = (q, PySem.W.kxs_mw "ValueError.__init__" a) := List.mem_singleton.mp hp'
    exact ⟨hq, nq, fun z => absurd (Nat.lt_of_lt_of_le I1.lt hsz2) (by rw [show q = X.env.locals from z]; exact Nat.lt_irrefl _), I1.nofs hsz2, fun v z => nomatch z⟩
  refine PySem.W.kxs_callWith (i := "ValueError.__init__") (u := q) (x := a) (by rw [hst]; rfl) ?_
  have hrun := ha.run p3 _ _ σ H _ I3 h
  rw [hst] at hrun ⊢
  refine PySem.Calls.evalArgs_plain (f := .ref q) (x := eval ex X.env) (rest := []) ?_
  refine wpAny_mono hrun (fun us s3 hh => ?_) fun _ _ z => z
  obtain ⟨vs, H1, I4, r, e1, hl, k4⟩ := hh
  have hu : s3.heap.get? q = some (PySem.W.kxs_mw "ValueError.__init__" a) := (I4.pin _ (List.mem_append_right _ (List.mem_singleton.mpr rfl))).1
  refine ⟨hu, ?_⟩
  have hlen : us.length ≤ sizeLine := by
    rw [← r.length, sizeLine_eq]
    omega
  exact mw_call (us := us) S.T (I4.pins_of fun p hp' => absurd hp' (by simp)) e1 hu hlen k4
end
/-- an error's own __init__(self, y): super().__init__(ex); self.fld = y -/
def spIni (C : Addr) (fld : Str) (ok : V → Prop) : Sp := fun vs H Q _ => ∃ (a : Addr) (v : V), vs = [.ref a, v] ∧ ok v ∧ H a = some (exo a C none) ∧
  ∀ (d : Addr) (H' : Hp), H d = none → d ≠ a → H' = upd (upd H d (exd d [(fld, v)])) a (exo a C (some d)) → Q .non H'
section
variable {P : Program} {w : World} {K : PySem.W.Frag} {mg : Str → Option Value} {base : Heap} {x y fld qual : Str} {sc : Scope} {f cda cc C : Addr} {params : Arguments} {dV kV doc pm ct : Value} {an : Option Addr} {ok : V → Prop} {k : Nat}
  {ex : Expr} {ta : TA} {p0 p1 p2 p3 p4 p5 p6 p7 p8 : Pos} {ar : Arg} {pl : Sem Bool}
theorem ini_ok (S : SupC P K C f cda cc (PySem.W.ksFn "__init__" qual params [.Expr (.Call (.Attribute (.Call (.Name "super" p0) [] [] p1) "__init__" p2) [ex] [] p3) p4, .Assign [.Attribute (.Name x p5) fld p6] (.Name y p7) p8] sc dV kV doc pm an (.ref cda) ct cc))
    (hcd : PySem.W.codeIn K (.ref cda) qual = true) (hk : sc.kind = .function) (hco : sc.isCoroutine = false) (hge : sc.isGenerator = false) (hx : sc.names.lookup x = some .local) (hy : sc.names.lookup y = some .local) (nxy : x ≠ y)
    (nocell : ∀ z ∈ sc.names, z.2 ≠ .cell) (hfree : ∀ z ∈ sc.names, z.2 = .free → z.1 = "__class__") (hks : sc.names.lookup ("super" : Str) = some .globalImplicit) (hkc : sc.names.lookup ("__class__" : Str) = some .free) (hm : mg "super" = none)
    (htop : (P.main.scope.names.lookup ("super" : Str)).isSome = false) (hp : (params.posonlyargs ++ params.args).head? = some ar) (har : ar.arg = x) (hf : PySem.W.findIn K (.ref C) fld = some none)
    (ha : ∀ (A : Around) (outer : List Env) (s : Shared) (H : Hp), PA (cloCx P w K mg base [x, y] qual sc f cda cc A outer s H) [ex] ta)
    (hta : ∀ (a : Addr) (v : V) (H : Hp), ok v → ∀ Q : List V → Hp → Prop, (∀ z, Q [z] H) → ta [some (.ref a), some v] H Q)
    (hd1 : (x == ("__debug__" : Str)) = false) (hd2 : (x == ("__classdict__" : Str)) = false) (hd3 : (y == ("__debug__" : Str)) = false) (hd4 : (y == ("__classdict__" : Str)) = false)
    (hi : ∀ s : Shared, interactive (initEnv qual sc s f cda cc) = false) (hsw : ∀ s : Shared, swapsWith (.Call (.Attribute (.Call (.Name "super" p0) [] [] p1) "__init__" p2) [ex] [] p3) none p4.line (initEnv qual sc s f cda cc) = pure false)
    (hst : ∀ s : Shared, starEach [ex] (initEnv qual sc s f cda cc) = [(false, eval ex (initEnv qual sc s f cda cc))])
    (hev : ∀ s : Shared, eval (.Call (.Attribute (.Call (.Name "super" p0) [] [] p1) "__init__" p2) [ex] [] p3) (initEnv qual sc s f cda cc) = (do
      let ov ← attributeBase (.Call (.Name "super" p0) [] [] p1) "__init__" (initEnv qual sc s f cda cc) (eval (.Call (.Name "super" p0) [] [] p1) (initEnv qual sc s f cda cc))
      standAt p2.atName
      let (g, first) ← holding [ov] (getMethod ov "__init__" pl)
      callWith p3 g first (backTo p3 (starEach [ex] (initEnv qual sc s f cda cc))) []))
    (hs2 : ∀ s : Shared, swapsWith (.Name y p7) (some (.Attribute (.Name x p5) fld p6)) p8.line (initEnv qual sc s f cda cc) = pure false) (CX : CXT) :
    FnOk P w K mg base CX (k + 1) f (PySem.W.ksFn "__init__" qual params [.Expr (.Call (.Attribute (.Call (.Name "super" p0) [] [] p1) "__init__" p2) [ex] [] p3) p4, .Assign [.Attribute (.Name x p5) fld p6] (.Name y p7) p8] sc dV kV doc pm an (.ref cda) ct cc) [x, y] (spIni C fld ok) := by
  refine ⟨fun vs H Q E h => ?_, fun A outer s H args us vs Q E hr e0 hb r hsp => ?_⟩
  · obtain ⟨a, v, rfl, _⟩ := h
    rfl
  obtain ⟨a, v, rfl, hok, hea, hQ⟩ := hsp
  cases r with
  | @cons _ u1 _ _ r1 r' =>
  cases r' with
  | @cons _ u2 _ _ r2 r'' =>
  cases r''
  have KX : K.In s.heap := e0.mod.kin.keeps fun b o e => (e0.bs b o e).1
  have lim : s.heap.NoLimit := e0.mod.nolimit.keeps fun b o e => (e0.bs b o e).1
  obtain ⟨oc, od, osl, lk⟩ := S.fn
  obtain ⟨c2, d2, sl2, lcc⟩ := S.cell
  subst har
  refine PySem.ks_codeAny_call_defAt hr.depth (KX _ _ lk) rfl lim (PySem.W.codeRec_of KX hcd) rfl hb nocell (fun z hz => ?_) (fun h1 hns kp => ?_) hco hge hk
  · rcases List.mem_cons.mp hz with rfl | hz
    · exact hx
    · rcases List.mem_cons.mp hz with rfl | hz
      · exact hy
      · cases hz
  have I0 : Inv (cloCx P w K mg base [ar.arg, y] qual sc f cda cc A outer s H) [] [some (.ref a), some v] H { s with heap := h1, toks := s.toks + 2 } :=
    clo_start hk hx hy nxy nocell hfree (e0.mod.kin _ _ lcc) rfl hr.hd e0 r1 r2 hns kp
  show _root_.PySem.wpAt _ ((cloCx P w K mg base [ar.arg, y] qual sc f cda cc A outer s H).A) (.func _ (cloCx P w K mg base [ar.arg, y] qual sc f cda cc A outer s H).env) (execs _ (cloCx P w K mg base [ar.arg, y] qual sc f cda cc A outer s H).env) _ _ _
  refine PySem.ks_wpAt_mono (E := (cloCx P w K mg base [ar.arg, y] qual sc f cda cc A outer s H).xe) (Q := fun fl s' => fl = .next ∧ ∃ σ' H', Inv (cloCx P w K mg base [ar.arg, y] qual sc f cda cc A outer s H) [] σ' H' s' ∧ Q .non H') ?_ (fun fl s' hh => ?_) fun _ _ z => False.elim z
  · refine PySem.ks_wpAt_execs_cons ?_
    refine super_stmt (pl := pl) (ta := ta) S I0 hea rfl rfl rfl hp rfl rfl hx hks hkc hm htop (ha A outer s H) rfl (hi s) (hta a v H hok _ fun z => ⟨hea, by simp, fun s' J => ?_⟩) (hsw s) (hst s) (hev s)
    refine wpAt_of_wpAny ?_
    have q := (pss_one (ps_ost (f := fld) (p' := p6) (pos := p8) (pe_var (X := cloCx P w K mg base [ar.arg, y] qual sc f cda cc A outer s H) (i := 0) (pos := p5) rfl (.inl hx) hd1 hd2) (pe_var (i := 1) (pos := p7) rfl (.inl hy) hd3 hd4) (hs2 s))).run [] s' _ H { nx := fun _ H' => Q .non H', rt := fun _ _ => False, bk := fun _ _ => False, ct := fun _ _ => False } J ?_
    · refine wpAny_mono q (fun fl s2 hh => ?_) fun _ _ z => z
      cases fl with
      | next =>
        obtain ⟨σ', H', J', q'⟩ := hh
        exact ⟨rfl, σ', H', J', q'⟩
      | ret u =>
        obtain ⟨_, _, _, _, _, z⟩ := hh
        exact z.elim
      | brk =>
        obtain ⟨_, _, _, z⟩ := hh
        exact z.elim
      | cont =>
        obtain ⟨_, _, _, z⟩ := hh
        exact z.elim
    · exact ⟨v, rfl, .ref a, rfl, a, C, rfl, S.T, hf, .inl ⟨hea, fun d hd nd => hQ d _ hd nd rfl⟩⟩
  · obtain ⟨rfl, σ', H', J, q⟩ := hh
    exact ⟨.non, H', J.os, J.bare, J.base, J.hok, rfl, q⟩
end
end Hx
set_option maxHeartbeats 4000000
/-! an error that an except clause catches, kept in a local name behind the suite: known from then on -/
namespace Hx
open PySem PySem.Spec PyProof.Rows L2
/-- at z: a caught error of the class cls, its own dict (none | at d) -/
def ExK (cls : Value) (d : Option Addr) (z : Addr) : HO := .ext fun h => ∃ (oe : Obj) (vs : Array Value), h.get? z = some oe ∧ Zc cls d oe ∧ oe.data = .fields vs
theorem exK_ok {P : Program} {w : World} {H : Hp} {h : Heap} {z : Addr} {cls : Value} {d : Option Addr} {oe : Obj} {vs : Array Value} (e : h.get? z = some oe) (q : Zc cls d oe) (hd : oe.data = .fields vs) : ObjOk P w H h z (ExK cls d z) :=
  ⟨⟨oe, vs, e, q, hd⟩, ⟨oe, e⟩, fun h1 h2 ⟨o, v, r, k⟩ m => ⟨o, v, m o r, k⟩⟩
theorem exK_at {P : Program} {w : World} {H : Hp} {h : Heap} {z : Addr} {cls : Value} {d : Option Addr} (ok : HOk P w H h) (e : H z = some (ExK cls d z)) : ∃ (oe : Obj) (vs : Array Value), h.get? z = some oe ∧ Zc cls d oe ∧ oe.data = .fields vs := (ok z _ e).1
section
variable {X : Cx} {pins : List (Addr × Obj)} {σ : L2.St} {H : Hp} {s : Shared}
/-- an object of ours, known from now on -/
theorem known {z : Addr} {o : HO} {oe : Obj} {vs : Array Value} (I : Inv X pins σ H s) (e : s.heap.get? z = some oe) (hd : oe.data = .fields vs) (nz : H z = none) (n0 : X.s_0.heap.get? z = none) (nL : z ≠ X.env.locals) (np : ∀ p ∈ X.pn ++ pins, p.1 ≠ z)
    (ok : ObjOk X.prog X.w (upd H z o) s.heap z o) : Inv X pins σ (upd H z o) s := by
  have old : ∀ {b : Addr} {u : HO}, H b = some u → upd H z o b = some u := fun q => by rw [upd_ne (ne_of_none q nz)]; exact q
  refine { ok := I.ok, os := I.os, bare := I.bare, base := ?_, loc := I.loc, cell := I.cell, free := ?_, freeC := fun y c q => ?_, pin := fun p hp => ?_, hok := fun b u q => ?_, len := I.len }
  · exact { keep := I.base.keep, slot := I.base.slot, there := I.base.there
            free := fun b u q n hx => by rw [upd_ne (fun y => by rw [y, n0] at q; cases q)]; exact I.base.free b u q n hx
            tups := fun b xs q => old (I.base.tups b xs q)
            frzs := fun b u v q => old (I.base.frzs b u v q)
            tbls := fun b ps q => by
              obtain ⟨m, r⟩ := I.base.tbls b ps q
              exact ⟨m, old r⟩ }
  · rw [upd_ne (Ne.symm nL)]; exact I.free
  · have nc : c ≠ z := fun y2 => by
      obtain ⟨v, oc, hc, hcd⟩ := I.cell y c q
      rw [y2, e] at hc
      cases hc
      rw [hd] at hcd
      cases hcd
    rw [upd_ne nc]; exact I.freeC y c q
  · obtain ⟨q1, q2, q3, q4, q5⟩ := I.pin p hp
    exact ⟨q1, by rw [upd_ne (np p hp)]; exact q2, q3, q4, q5⟩
  · by_cases hb : b = z
    · subst hb
      rw [upd_same] at q
      cases q
      exact ok
    · rw [upd_ne hb] at q
      exact (I.hok b u q).stay (fun _ _ _ r => r) (fun c r => old r) fun c xs r => old r
end
/-- what the clause wishes of an error of the body: it stands at slot j behind, known -/
def wKeep (K : PySem.W.Frag) (len : Nat) (c : Value) (i j : Nat) (Wo : WX) (D : Ends) : WX := fun cls d σ H =>
  ∃ b, PySem.W.exmOne K cls c = some b ∧ (b = true → ∀ z, H z = none → σ.length = len → D.nx (((σ.set i (some (.ref z))).set j (some (.ref z))).set i none) (upd H z (ExK cls d z))) ∧ (b = false → Wo cls d σ H)
section
variable {X : Cx} {x n g : Str} {c : Value} {i j : Nat} {body : List Stmt} {np p1 p2 p3 pos pos' : Pos} {tb : WX → TS} {Wo : WX}
theorem ps_try_keep (hs : X.stack = X.env :: X.outer) (hf : X.env.frame = some X.env.locals) (hex : X.ex = []) (hN : X.N.Nodup) (hi : X.N[i]? = some n) (hln : X.env.kindOf n = some .local) (hj : X.N[j]? = some g) (hlg : X.env.kindOf g = some .local) (hij : i ≠ j) (hil : i < X.N.length) (hc : Names X x c) (tk : Takes X Wo)
    (hb : ∀ (W : WX) (pn : List (Addr × Obj)) (xe : Value → Shared → Prop), Takes (X.tr pn xe) W → PassesOwn (model X.prog X.w) X.A X.env xe → PSs (X.tr pn xe) body (tb W))
    (hd1 : (n == ("__debug__" : Str)) = false) (hd2 : (n == ("__classdict__" : Str)) = false) (hd3 : (g == ("__debug__" : Str)) = false)
    (hsw : swapsWith (.Name n p2) (some (.Name g p1)) p3.line X.env = pure false) :
    PS X (.Try body [.ExceptHandler (some (.Name x np)) (some n) [.Assign [.Name g p1] (.Name n p2) p3] pos'] [] [] pos) (fun D σ H => tb (wKeep X.K X.N.length c i j Wo D) D σ H) := by
  refine ⟨fun pins s σ H D I h => ?_⟩
  have ok := I.ok
  have frames2 : X.A.frames = some (X.env :: X.outer) := ok.frames.trans (by rw [hs])
  refine wpAny_Try_except ?_
  have inner := (hb (wKeep X.K X.N.length c i j Wo D) (X.pn ++ pins) (fun e s₁ => wpAny (model X.prog X.w) X.A (noteFrame e X.env) (fun _ s₂ => wpAny (model X.prog X.w) X.A (setFlight e none)
    (fun _ s₃ => wpAny (model X.prog X.w) X.A (handleBy e X.env [.ExceptHandler (some (.Name x np)) (some n) [.Assign [.Name g p1] (.Name n p2) p3] pos']) (SP X pins D) X.xe s₃) X.xe s₂) X.xe s₁) (fun u s' xx => ?_) PassesOwn.looking).run [] s σ H D (I.toTry _) h
  · refine wpAny_mono inner (fun fl s1 hsp => ?_) (fun _ _ he => he)
    cases fl with
    | next =>
      obtain ⟨σ', H', J', q⟩ := hsp
      exact wpAny_execs_nil ⟨σ', H', J'.ofTry ok, q⟩
    | ret u =>
      obtain ⟨v, σ', H', J', r, q⟩ := hsp
      exact ⟨v, σ', H', J'.ofTry ok, r, q⟩
    | brk =>
      obtain ⟨σ', H', J', q⟩ := hsp
      exact ⟨σ', H', J'.ofTry ok, q⟩
    | cont =>
      obtain ⟨σ', H', J', q⟩ := hsp
      exact ⟨σ', H', J'.ofTry ok, q⟩
  · obtain ⟨z, G, t0, pins1, σ1, H1, cls, d, rfl, J0, ng, upS, sky, nz, oss, agg, b, hb1, yes, no⟩ := xx
    have J : Inv X pins σ1 H1 t0 := J0.ofTry ok
    have sky2 : Sky G (X.env :: X.outer) z (Zc cls d) X.env.locals s'.heap := hs ▸ sky
    show wpAny (model X.prog X.w) X.A (noteFrame (.ref z) X.env) _ _ _
    refine Sky.land Zc.steady frames2 hf sky2 fun h3 fl3 up3 => ?_
    have J3 : Inv X pins σ1 H1 { s' with heap := h3 } := J.landed ng fl3.1 (upS.trans up3) oss agg
    obtain ⟨oe3, vs3, he3, hz3, hd3'⟩ := fl3.there
    have nfr : z ∉ frs (X.env :: X.outer) := fun hm => by
      obtain ⟨_, o', e', hnf⟩ := fl3.2.2.1.mem hm
      rw [he3] at e'
      cases e'
      exact hnf _ hd3'
    have nL : z ≠ X.env.locals := fun q => nfr (List.mem_filterMap.mpr ⟨X.env, List.mem_cons_self, by rw [hf, q]⟩)
    have nF : z ∉ X.fs := fun hm => by
      obtain ⟨ev, hev, q⟩ := List.mem_filterMap.mp hm
      exact nfr (List.mem_filterMap.mpr ⟨ev, List.mem_cons_of_mem _ hev, q⟩)
    have nT : t0.heap.get? z = none := by
      cases q : t0.heap.get? z with
      | none => rfl
      | some o =>
        have q2 := ng z o q (by rw [hs]; exact nfr)
        rw [fl3.2.1] at q2
        cases q2
    have n0 : X.s_0.heap.get? z = none := by
      cases q : X.s_0.heap.get? z with
      | none => rfl
      | some o =>
        obtain ⟨o', q2⟩ := J.base.there z o q (by rw [hex]; exact fun y => nomatch y)
        rw [nT] at q2
        cases q2
    have nP : ∀ p ∈ X.pn ++ pins, p.1 ≠ z := fun p hp y => by
      have q := (J.pin p hp).1
      rw [y, nT] at q
      cases q
    refine wpAny_handleBy_cons (codeAny_handlers_test ?_) (by intro q; cases q)
    have ty : PySem.W.Looks (model X.prog X.w) h3 (typeOf (.ref z)) cls := fun A Q E s k q => wpAny_typeOf_ref (k _ _ he3) (by rw [hz3.1]; exact q)
    have mt := PySem.W.exm_one (M := model X.prog X.w) J3.kIn ty hb1
    have S3 := J3.suite he3 hd3' nz nL nF
    have test : ∀ {Q : Value → Shared → Prop} {E : Value → Shared → Prop}, Q c { s' with heap := h3 } → wpAny (model X.prog X.w) (X.A.mark (some (.ref z))) (eval (.Name x np) X.env) Q E { s' with heap := h3 } := fun q => by
      obtain ⟨hg, hdbg, hm | ⟨hm, hv, hnn⟩⟩ := hc
      · exact ld_glob (X := X.suite z ((z, oe3) :: (X.pn ++ pins))) S3 hg hm q hdbg
      · exact ld_blt (X := X.suite z ((z, oe3) :: (X.pn ++ pins))) S3 hg hm hv q hnn hdbg
    refine test (mt.here ?_)
    cases b with
    | true =>
      refine codeAny_handlers_suite_as ?_
      refine HandSPX.lands_againZ fl3 fun h4 fl4 up4 => ?_
      have J4 : Inv X pins σ1 H1 { s' with heap := h4 } := J.landed ng fl4.1 ((upS.trans up3).trans up4) oss agg
      obtain ⟨oe4, vs4, he4, hz4, hd4⟩ := fl4.there
      have S4 := J4.suite he4 hd4 nz nL nF
      refine store_ok (X := X.suite z ((z, oe4) :: (X.pn ++ pins))) (v := .ref z) S4 hN hi (.inl hln) rfl (fun s5 S5 => ?_) (.inr hln)
      have iσ : i < (σ1.set i (some (V.ref z))).length := by rw [List.length_set, J.len]; exact hil
      have step := (pss_one (ps_asg (X := X.suite z ((z, oe4) :: (X.pn ++ pins))) (pos := p3) (pe_var (i := i) (pos := p2) hi (.inl hln) hd1 hd2) (pg_name (i := j) (pos := p1) hN hj (.inl hlg) (hf := .inr hlg)) hsw)).run [] s5 (σ1.set i (some (.ref z))) H1
        { nx := fun σ6 H6 => σ6 = (σ1.set i (some (.ref z))).set j (some (.ref z)) ∧ H6 = H1, rt := fun _ _ => False, bk := fun _ _ => False, ct := fun _ _ => False } S5
        ⟨.ref z, by rw [List.getElem?_set_self (by rw [J.len]; exact hil)], rfl, rfl⟩
      refine wpAny_mono step (fun fl s6 hsp => ?_) (fun _ _ q => False.elim q)
      cases fl with
      | next =>
        obtain ⟨σ6, H6, S6, rfl, rfl⟩ := hsp
        refine gone_ok (X := X.suite z ((z, oe4) :: (X.pn ++ pins))) S6 hN hi hln fun s7 S7 => ?_
        have hp7 := S7.pin (z, oe4) (List.mem_append_left _ List.mem_cons_self)
        exact ⟨_, _, known (S7.unsuite ok) hp7.1 hd4 nz n0 nL nP (exK_ok hp7.1 hz4 hd4), yes rfl z nz J.len⟩
      | ret u =>
        obtain ⟨_, _, _, _, _, q⟩ := hsp
        exact q.elim
      | brk =>
        obtain ⟨_, _, _, q⟩ := hsp
        exact q.elim
      | cont =>
        obtain ⟨_, _, _, q⟩ := hsp
        exact q.elim
    | false =>
      show wpAny _ X.A (handleBy (.ref z) X.env []) _ _ _
      refine wpAny_handleBy_nil ?_
      obtain ⟨k1, k2, k3, oe, vs, T, oT, ts', he, hz, hd, h1, hr⟩ := id fl3
      unfold PySem.passOn
      refine wpAny_bind (wpAny_field he hd h1 ?_)
      rw [if_neg (show ¬ ((Value.ref T == Value.none) = true) by simp)]
      have goOn : wpAny (model X.prog X.w) X.A (setFlight (.ref z) X.env.frame) (fun _ s4 => wpAny (model X.prog X.w) X.A (throw (.ref z) : Sem Flow) (SP X pins D) X.xe s4) X.xe { s' with heap := h3 } := by
        rw [hf]
        refine HandSPX.setFlight_upZ fl3 fun h4 hh4 up4 => wpAny_throw (tk _ _ ?_)
        exact ⟨z, G, t0, pins, σ1, H1, cls, d, rfl, J, ng, (upS.trans up3).trans up4, .inr (.inr (by rw [hs]; exact hh4)), nz, oss, agg, no rfl⟩
      first
        | exact wpAny_bind (wpAny_pure (wpAny_bind goOn))
        | exact wpAny_bind goOn
end
/-! ### what is asked of such an error behind -/
section
variable {X : Cx} {pins : List (Addr × Obj)} {σ : L2.St} {H : Hp} {s : Shared}
/-- it is an instance of its class, its own dict (if there is one) an error's dict -/
theorem inst_of {z D : Addr} {d : Option Addr} (I : Inv X pins σ H s) (e : H z = some (ExK (.ref D) d z)) (hd : ∀ y, d = some y → ∃ fs, H y = some (.xd fs)) :
    ∃ oe od, PySem.W.InstAt s.heap z oe D od := by
  obtain ⟨oe, vs, ho, ⟨z1, z2⟩, hf⟩ := exK_at I.hok e
  cases d with
  | none =>
    refine ⟨oe, none, ho, z1, ?_, by rw [z2]; trivial⟩
    unfold PySem.W.notCls
    rw [hf] <;> rfl
  | some y =>
    obtain ⟨fs, hy⟩ := hd y rfl
    have q : ObjOk X.prog X.w H s.heap y (.xd fs) := I.hok y _ hy
    obtain ⟨mA, hns, _⟩ := q
    obtain ⟨od, hod, _⟩ := lookIn_ns hns
    refine ⟨oe, some od, ho, z1, ?_, by rw [z2]; exact hod⟩
    unfold PySem.W.notCls
    rw [hf] <;> rfl
end
/-- isinstance(e, c), e known as above -/
def rIsK (K : PySem.W.Frag) : List V → Hp → VK → Prop := fun xs H Q => ∃ (z D : Addr) (d : Option Addr) (c : V) (cv : Value) (b : Bool), xs = [.ref z, c] ∧ H z = some (ExK (.ref D) d z) ∧ (∀ y, d = some y → ∃ fs, H y = some (.xd fs)) ∧
  ExcC K D ∧ (∀ u, RelV c u → u = cv) ∧ PySem.W.kitOne K (.ref D) cv = some b ∧ Q (.bl b) H
theorem call_isK {X : Cx} : CallR X (.builtin "isinstance") (rIsK X.K) := by
  intro pins s σ H xs us Q I r h
  obtain ⟨z, D, d, c, cv, b, rfl, e, hd, C, hcv, kb, q⟩ := h
  cases r with
  | cons rx rr =>
    cases rr with
    | cons rt rr =>
      cases rr
      cases rx
      obtain rfl := hcv _ rt
      obtain ⟨oe, od, J⟩ := inst_of I e hd
      have cl : (PySem.W.clsIn X.K D).isSome = true := by
        obtain ⟨cd, hc, _⟩ := PySem.W.any_some C.hd
        rw [hc] <;> rfl
      exact PySem.W.kia_one (PySem.W.kitx_exc cl C.hg C.hk C.hs C.ha C.hn C.ht C.hm) I.kIn J kb (fun y => nomatch y) fun tk => ⟨.bl b, H, I.kept (t' := tk) fun _ _ y => y, rfl, q⟩
/-- e.n -/
def tKf (K : PySem.W.Frag) (n : Str) (te : TE) : TE := fun σ H Q => te σ H fun x H1 => ∃ (z D y : Addr) (fs : List (Str × V)) (v : V), x = .ref z ∧ H1 z = some (ExK (.ref D) (some y) z) ∧ XfC K D ∧ PySem.W.findIn K (.ref D) n = some none ∧
  H1 y = some (.xd fs) ∧ fs.lookup n = some v ∧ Q v H1
theorem pe_kf {X : Cx} {e : Expr} {te : TE} {pos : Pos} {n : Str} (he : PE X e te) (hb : attributeBase e n X.env (eval e X.env) = eval e X.env := by rfl) : PE X (.Attribute e n pos) (tKf X.K n te) := by
  refine ⟨fun pins s σ H Q I h => ?_⟩
  refine attr_of hb (thn (he.run pins s σ H _ I h) fun u s1 hh => ?_)
  obtain ⟨x, H1, I1, rx, z, D, y, fs, v, rfl, ez, T, hno, ey, l, q⟩ := hh
  obtain rfl : u = Value.ref z := rx
  obtain ⟨oe, vs, ho, ⟨z1, z2⟩, hf⟩ := exK_at I1.hok ez
  have hx : ObjOk X.prog X.w H1 s1.heap y (.xd fs) := I1.hok y _ ey
  obtain ⟨mA, hns, hr⟩ := hx
  obtain ⟨od, hod, hl⟩ := lookIn_ns hns
  obtain ⟨u2, hu, ru⟩ := RelO.some_of (v := v) (o := mA n) (by rw [← l]; exact hr n)
  have J : PySem.W.InstAt s1.heap z oe D (some od) := ⟨ho, z1, by unfold PySem.W.notCls; rw [hf] <;> rfl, by rw [z2]; exact hod⟩
  exact HandSPX.exc_get I1.kIn J T.ga T.gg T.exC (PySem.W.findObj_own T.hdC hno rfl (by rw [hl, hu])) (handed_of ru) ⟨v, H1, I1.tok _, ru, q⟩
end Hx
set_option maxHeartbeats 4000000
/-! x(lambda: body), x's def: found = None; try: a() except T as error: found = error; return found -/
namespace Hx
open PySem PySem.Spec PyProof.Rows L2 LamX
/-- what comes of it: None, or the error, known -/
def TCaught (K : PySem.W.Frag) (CT : Addr) : (XK → Hp → VK → Prop) → Hp → VK → Prop := fun tl H Q =>
  tl (fun cls d H' => ∃ b, PySem.W.exmOne K cls (.ref CT) = some b ∧ (b = true → ∀ z, H' z = none → Q (.ref z) (upd H' z (ExK cls d z))) ∧ (b = false → False)) H (fun _ H' => Q .non H')
section
variable {X : Cx}
theorem caught_gives {x a g n t q : Str} {sg : Scope} {f0 CT : Addr} {cdg : Value} {j : Nat} {p1 p2 p3 p4 p5 p6 p7 p8 p9 p10 p11 p12 p13 p14 p15 : Pos} (hge : sg.names.lookup t = some .globalImplicit) (hme : X.mg t = some (.ref CT)) (hde : (t == ("__debug__" : Str)) = false)
    (ha : sg.names.lookup a = some .local) (hg : sg.names.lookup g = some .local) (hn : sg.names.lookup n = some .local) (nd : ([a, g, n] : List Str).Nodup)
    (b1 : (n == ("__debug__" : Str)) = false) (b2 : (n == ("__classdict__" : Str)) = false) (b3 : (g == ("__debug__" : Str)) = false) (b4 : (g == ("__classdict__" : Str)) = false)
    (hsw : ∀ (s : Shared), swapsWith (.Name n p10) (some (.Name g p9)) p11.line (envOfC x sg s.heap.objs.size f0 cdg) = pure false) (hsw1 : ∀ (s : Shared), swapsWith (.Constant .none j p2) (some (.Name g p1)) p3.line (envOfC x sg s.heap.objs.size f0 cdg) = pure false) :
    GivesTo X [a, g, n] x sg f0 cdg [.Assign [.Name g p1] (.Constant .none j p2) p3,
      .Try [.Expr (.Call (.Name a p4) [] [] p5) p6] [.ExceptHandler (some (.Name t p7)) (some n) [.Assign [.Name g p9] (.Name n p10) p11] p12] [] [] p13, .Return (some (.Name g p14)) p15] a q (TCaught X.K CT) := by
  intro f c' s H Q tl act hc h
  have hgl : Gl (cxOf C8.CX0 X.prog X.w X.K X.mg X.base [a, g, n] x sg f0 cdg X.A X.stack s H C8.E0).nox t := hge
  refine ⟨_, pss_cons (ps_asg pe_non (pg_name (i := 1) nd rfl (.inl hg) (hf := .inr hg)) (hsw1 s)) (pss_cons (ps_try_keep (X := (cxOf C8.CX0 X.prog X.w X.K X.mg X.base [a, g, n] x sg f0 cdg X.A X.stack s H C8.E0).nox) (c := .ref CT) (i := 2) (j := 1)
      (tb := fun W D σ H => ∃ Ech : XK, (∀ cls d σ' H', Ech cls d H' → W cls d σ' H') ∧ σ[0]? = some (some (.ref f)) ∧ H c' = some (CodeO c' q) ∧ tl Ech H (fun _ H1 => D.nx σ H1))
      rfl rfl rfl nd rfl hn rfl hg (by decide) (by show 2 < 3; decide) ⟨hgl, hde, .inl hme⟩ LamX.takes0 (fun W pn xe tk _ => ?_) b1 b2 b3 (hsw s)) (pss_one (ps_ret (pe_var (i := 1) rfl (.inl hg) b3 b4)))), ?_⟩
  · refine ⟨fun pins s' σ H' D I h' => ?_⟩
    obtain ⟨Ech, hW, h1, h2, h3⟩ := h'
    exact (pss_one (ps_expr (pos := p6) (act W pn xe Ech p4 p5 tk hW))).run pins s' σ H' D I ⟨h1, h2, h3⟩
  · have e : (fun (_ : V) (H1 : Hp) => tRet (tVar 1) { nx := fun _ H' => Q .non H', rt := Q } (List.set (L2.start [a, g, n] [V.ref f]) 1 (some V.non)) H1) = fun (_ : V) (H1 : Hp) => Q .non H1 :=
      funext fun _ => funext fun H1 => propext ⟨fun ⟨v, hv, r⟩ => by cases hv; exact r, fun r => ⟨.non, rfl, r⟩⟩
    refine ⟨fun cls d H' => ∃ b, PySem.W.exmOne X.K cls (.ref CT) = some b ∧ (b = true → ∀ z, H' z = none → Q (.ref z) (upd H' z (ExK cls d z))) ∧ (b = false → False), fun cls d σ' H' hE => ?_, rfl, hc, ?_⟩
    rotate_left
    · show tl _ H (fun (_ : V) (H1 : Hp) => tRet (tVar 1) { nx := fun _ H' => Q .non H', rt := Q } (List.set (L2.start [a, g, n] [V.ref f]) 1 (some V.non)) H1)
      rw [e]
      exact h
    obtain ⟨b, e1, e2, e3⟩ := hE
    refine ⟨b, e1, fun hb z nz hl => ?_, fun hb => (e3 hb).elim⟩
    have hl' : σ'.length = 3 := hl
    refine ⟨.ref z, ?_, e2 hb z nz⟩
    match σ', hl' with
    | [s0, s1, s2], _ => rfl
end
end Hx
set_option maxHeartbeats 4000000
/-! data that stands in the heap: kept, compared -/
namespace Hx
open PySem PySem.Spec PyProof.Rows L2
theorem same_seqT {K : PySem.W.Frag} {H H' : Hp} {a : Addr} {xs : List V} (e : Same H H') (h : SqT K H a xs) : SqT K H' a xs := by
  rcases h with (h | ⟨o, h⟩) | h
  · exact .inl (.inl (e _ _ h))
  · exact .inl (.inr ⟨o, e _ _ h⟩)
  · exact .inr h
mutual
theorem dp_same {K : PySem.W.Frag} {H H' : Hp} (e : Same H H') : ∀ {v : V} {d : PyData}, Dp K H v d → Dp K H' v d
  | _, _, .non => .non
  | _, _, .bl b => .bl b
  | _, _, .int i => .int i
  | _, _, .str x => .str x
  | _, _, .lst h r => .lst (e.seq h) (dpAll_same e r)
  | _, _, .tup h r => .tup (same_seqT e h) (dpAll_same e r)
theorem dpAll_same {K : PySem.W.Frag} {H H' : Hp} (e : Same H H') : ∀ {vs : List V} {ds : List PyData}, DpAll K H vs ds → DpAll K H' vs ds
  | _, _, .nil => .nil
  | _, _, .cons h r => .cons (dp_same e h) (dpAll_same e r)
end
section
variable {K : PySem.W.Frag} {H : Hp}
theorem dpAll_ints : ∀ ns : List Int, DpAll K H (ns.map V.int) (ns.map PyData.int)
  | [] => .nil
  | n :: r => .cons (.int n) (dpAll_ints r)
theorem dpAll_strs : ∀ ns : List Str, DpAll K H (ns.map V.str) (ns.map PyData.str)
  | [] => .nil
  | n :: r => .cons (.str n) (dpAll_strs r)
theorem dpAll_len : ∀ {vs : List V} {ds : List PyData}, DpAll K H vs ds → vs.length = ds.length
  | _, _, .nil => rfl
  | _, _, .cons _ r => by simp [dpAll_len r]
theorem dpAll_app : ∀ {vs us : List V} {ds es : List PyData}, DpAll K H vs ds → DpAll K H us es → DpAll K H (vs ++ us) (ds ++ es)
  | _, _, _, _, .nil, h => h
  | _, _, _, _, .cons a r, h => .cons a (dpAll_app r h)
theorem dpAll_get : ∀ {vs : List V} {ds : List PyData} {i : Nat} {v : V}, DpAll K H vs ds → vs[i]? = some v → ∃ d, ds[i]? = some d ∧ Dp K H v d
  | _, _, 0, _, .cons a _, e => by cases e; exact ⟨_, rfl, a⟩
  | _, _, i + 1, v, .cons _ r, e => dpAll_get (i := i) r e
theorem dpAll_at : ∀ {vs : List V} {ds : List PyData} {i : Nat} {d : PyData}, DpAll K H vs ds → ds[i]? = some d → ∃ v, vs[i]? = some v ∧ Dp K H v d
  | _, _, 0, _, .cons a _, e => by cases e; exact ⟨_, rfl, a⟩
  | _, _, i + 1, v, .cons _ r, e => dpAll_at (i := i) r e
theorem dpAll_erase : ∀ {vs : List V} {ds : List PyData} (i : Nat), DpAll K H vs ds → DpAll K H (vs.eraseIdx i) (ds.eraseIdx i)
  | _, _, _, .nil => .nil
  | _, _, 0, .cons _ r => r
  | _, _, i + 1, .cons a r => .cons a (dpAll_erase i r)
theorem dpAll_take : ∀ {vs : List V} {ds : List PyData} (i : Nat), DpAll K H vs ds → DpAll K H (vs.take i) (ds.take i)
  | _, _, 0, _ => by simp; exact .nil
  | _, _, _ + 1, .nil => .nil
  | _, _, i + 1, .cons a r => .cons a (dpAll_take i r)
theorem dpAll_drop : ∀ {vs : List V} {ds : List PyData} (i : Nat), DpAll K H vs ds → DpAll K H (vs.drop i) (ds.drop i)
  | _, _, 0, h => h
  | _, _, _ + 1, .nil => .nil
  | _, _, i + 1, .cons _ r => dpAll_drop i r
end
/-- what may be compared: plain data, n deep at most -/
def Sh (n : Nat) (d : PyData) : Prop := d.canLay0 = true ∧ d.depth ≤ n
theorem Sh.up {n m : Nat} {d : PyData} (h : Sh n d) (l : n ≤ m) : Sh m d := ⟨h.1, Nat.le_trans h.2 l⟩
theorem Sh.shaped {n : Nat} {d : PyData} (h : Sh n d) (l : n ≤ 64) : SeqAt.shaped d = true := by
  simp [SeqAt.shaped, h.1, Nat.le_trans h.2 l]
theorem sh_int (i : Int) : Sh 0 (.int i) := ⟨rfl, by simp [PyData.depth]⟩
theorem sh_all {n : Nat} : ∀ {ds : List PyData}, (∀ d ∈ ds, Sh n d) → PyData.canLayAll0 ds = true ∧ PyData.depthAll ds ≤ n
  | [], _ => ⟨rfl, by simp [PyData.depthAll]⟩
  | d :: r, h => by
    obtain ⟨a, b⟩ := sh_all (ds := r) fun x hx => h x (List.mem_cons_of_mem _ hx)
    obtain ⟨c, e⟩ := h d List.mem_cons_self
    refine ⟨by simp [PyData.canLayAll0, c, a], ?_⟩
    simp only [PyData.depthAll]
    exact Nat.max_le.mpr ⟨e, b⟩
theorem sh_list {n : Nat} {ds : List PyData} (h : ∀ d ∈ ds, Sh n d) : Sh (n + 1) (.list ds) := by
  obtain ⟨a, b⟩ := sh_all h
  exact ⟨by simp [PyData.canLay0, a], by simp only [PyData.depth]; omega⟩
theorem sh_tup {n : Nat} {ds : List PyData} (h : ∀ d ∈ ds, Sh n d) : Sh (n + 1) (.tuple ds) := by
  obtain ⟨a, b⟩ := sh_all h
  exact ⟨by simp [PyData.canLay0, a], by simp only [PyData.depth]; omega⟩
theorem eqv_nil (ds : List PyData) : PyData.eqv (.list ds) (.list []) = ds.isEmpty := by
  cases ds <;> simp [PyData.eqv, PyData.eqvAll]
theorem idx0 {n : Nat} (h : 0 < n) : seqIndex? 0 n = some 0 := by
  unfold seqIndex?
  first | rfl | (simp; omega) | (split <;> simp <;> omega)
theorem idxN {n i : Nat} (h : i < n) : seqIndex? (i : Int) n = some i := by
  unfold seqIndex?
  first | (simp; omega) | (split <;> simp <;> omega)
/-! ### data without lists: it stays whatever is done -/
/-- tuples, and what is locked, stay -/
def TK (H H' : Hp) : Prop := (∀ b xs, H b = some (.tup xs) → H' b = some (.tup xs)) ∧ ∀ b o u, H b = some (.frz o u) → H' b = some (.frz o u)
theorem TK.refl (H : Hp) : TK H H := ⟨fun _ _ h => h, fun _ _ _ h => h⟩
theorem TK.trans {H H1 H2 : Hp} (a : TK H H1) (b : TK H1 H2) : TK H H2 := ⟨fun c xs h => b.1 c xs (a.1 c xs h), fun c o u h => b.2 c o u (a.2 c o u h)⟩
theorem TK.of {H H' : Hp} (e : Same H H') : TK H H' := ⟨fun b _ h => e b _ h, fun b _ _ h => e b _ h⟩
theorem TK.new {H : Hp} {a : Addr} {o : HO} (h : H a = none) : TK H (upd H a o) := .of fun b u e => by rw [upd_ne (ne_of_none e h)]; exact e
theorem TK.lst {H : Hp} {a : Addr} {o : HO} {xs : List V} (h : H a = some (.lst xs)) : TK H (upd H a o) :=
  ⟨fun b _ e => by rw [upd_ne (ne_of e h (by intro z; cases z))]; exact e, fun b _ _ e => by rw [upd_ne (ne_of e h (by intro z; cases z))]; exact e⟩
theorem TK.dct {H : Hp} {a : Addr} {o : HO} {xs : List (Key × V)} (h : H a = some (.dK xs)) : TK H (upd H a o) :=
  ⟨fun b _ e => by rw [upd_ne (ne_of e h (by intro z; cases z))]; exact e, fun b _ _ e => by rw [upd_ne (ne_of e h (by intro z; cases z))]; exact e⟩
theorem tk_seqT {K : PySem.W.Frag} {H H' : Hp} {a : Addr} {xs : List V} (e : TK H H') (h : SqT K H a xs) : SqT K H' a xs := by
  rcases h with (h | ⟨o, h⟩) | h
  · exact .inl (.inl (e.1 _ _ h))
  · exact .inl (.inr ⟨o, e.2 _ _ _ h⟩)
  · exact .inr h
mutual
inductive Dt (K : PySem.W.Frag) (H : Hp) : V → PyData → Prop
  | non : Dt K H .non .none
  | bl (b : Bool) : Dt K H (.bl b) (.bool b)
  | int (i : Int) : Dt K H (.int i) (.int i)
  | str (x : Str) : Dt K H (.str x) (.str x)
  | tup {a : Addr} {xs : List V} {ds : List PyData} : SqT K H a xs → DtAll K H xs ds → Dt K H (.ref a) (.tuple ds)
inductive DtAll (K : PySem.W.Frag) (H : Hp) : List V → List PyData → Prop
  | nil : DtAll K H [] []
  | cons {v : V} {vs : List V} {d : PyData} {ds : List PyData} : Dt K H v d → DtAll K H vs ds → DtAll K H (v :: vs) (d :: ds)
end
section
variable {K : PySem.W.Frag} {H H' : Hp}
mutual
theorem Dt.keep (e : TK H H') : ∀ {v : V} {d : PyData}, Dt K H v d → Dt K H' v d
  | _, _, .non => .non
  | _, _, .bl b => .bl b
  | _, _, .int i => .int i
  | _, _, .str x => .str x
  | _, _, .tup h r => .tup (tk_seqT e h) (DtAll.keep e r)
theorem DtAll.keep (e : TK H H') : ∀ {vs : List V} {ds : List PyData}, DtAll K H vs ds → DtAll K H' vs ds
  | _, _, .nil => .nil
  | _, _, .cons h r => .cons (Dt.keep e h) (DtAll.keep e r)
end
mutual
theorem Dt.dp : ∀ {v : V} {d : PyData}, Dt K H v d → Dp K H v d
  | _, _, .non => .non
  | _, _, .bl b => .bl b
  | _, _, .int i => .int i
  | _, _, .str x => .str x
  | _, _, .tup h r => .tup h (DtAll.dp r)
theorem DtAll.dp : ∀ {vs : List V} {ds : List PyData}, DtAll K H vs ds → DpAll K H vs ds
  | _, _, .nil => .nil
  | _, _, .cons h r => .cons (Dt.dp h) (DtAll.dp r)
end
theorem DtAll.ints : ∀ ns : List Int, DtAll K H (ns.map V.int) (ns.map PyData.int)
  | [] => .nil
  | n :: r => .cons (.int n) (DtAll.ints r)
theorem DtAll.strs : ∀ ns : List Str, DtAll K H (ns.map V.str) (ns.map PyData.str)
  | [] => .nil
  | n :: r => .cons (.str n) (DtAll.strs r)
theorem DtAll.len {vs : List V} {ds : List PyData} (h : DtAll K H vs ds) : vs.length = ds.length := dpAll_len h.dp
theorem DtAll.app : ∀ {vs us : List V} {ds es : List PyData}, DtAll K H vs ds → DtAll K H us es → DtAll K H (vs ++ us) (ds ++ es)
  | _, _, _, _, .nil, h => h
  | _, _, _, _, .cons a r, h => .cons a (DtAll.app r h)
theorem DtAll.get : ∀ {vs : List V} {ds : List PyData} {i : Nat} {v : V}, DtAll K H vs ds → vs[i]? = some v → ∃ d, ds[i]? = some d ∧ Dt K H v d
  | _, _, 0, _, .cons a _, e => by cases e; exact ⟨_, rfl, a⟩
  | _, _, i + 1, v, .cons _ r, e => DtAll.get (i := i) r e
theorem DtAll.at_ : ∀ {vs : List V} {ds : List PyData} {i : Nat} {d : PyData}, DtAll K H vs ds → ds[i]? = some d → ∃ v, vs[i]? = some v ∧ Dt K H v d
  | _, _, 0, _, .cons a _, e => by cases e; exact ⟨_, rfl, a⟩
  | _, _, i + 1, v, .cons _ r, e => DtAll.at_ (i := i) r e
theorem DtAll.erase : ∀ {vs : List V} {ds : List PyData} (i : Nat), DtAll K H vs ds → DtAll K H (vs.eraseIdx i) (ds.eraseIdx i)
  | _, _, _, .nil => .nil
  | _, _, 0, .cons _ r => r
  | _, _, i + 1, .cons a r => .cons a (DtAll.erase i r)
theorem DtAll.take : ∀ {vs : List V} {ds : List PyData} (i : Nat), DtAll K H vs ds → DtAll K H (vs.take i) (ds.take i)
  | _, _, 0, _ => by simp; exact .nil
  | _, _, _ + 1, .nil => .nil
  | _, _, i + 1, .cons a r => .cons a (DtAll.take i r)
theorem DtAll.drop : ∀ {vs : List V} {ds : List PyData} (i : Nat), DtAll K H vs ds → DtAll K H (vs.drop i) (ds.drop i)
  | _, _, 0, h => h
  | _, _, _ + 1, .nil => .nil
  | _, _, i + 1, .cons _ r => DtAll.drop i r
end
end Hx
set_option maxHeartbeats 4000000
/-! isinstance of data; comprehensions whose element is told apart -/
namespace Hx
open PySem PySem.Spec PyProof.Rows L2
inductive Tg | non | bl | int | str | tup | lst
  deriving DecidableEq
def tagOf : PyData → Tg
  | .none => .non
  | .bool _ => .bl
  | .int _ => .int
  | .str _ => .str
  | .tuple _ => .tup
  | .list _ => .lst
  | .dict _ => .lst
def isTy : Tg → String → Bool
  | .non, _ => false
  | .bl, T => T == "bool" || T == "int"
  | .int, T => T == "int"
  | .str, T => T == "str"
  | .tup, T => T == "tuple"
  | .lst, T => T == "list"
def tgN : Tg → String
  | .non => "NoneType"
  | .bl => "bool"
  | .int => "int"
  | .str => "str"
  | .tup => "tuple"
  | .lst => "list"
theorem tg_kit {K : PySem.W.Frag} (g : Tg) {T : String} (h : T = "int" ∨ T = "bool" ∨ T = "str" ∨ T = "tuple" ∨ T = "list") : PySem.W.kitOne K (.type (tgN g)) (.type T) = some (isTy g T) := by
  rcases h with rfl | rfl | rfl | rfl | rfl <;> cases g <;> exact kit_ty (by decide +kernel)
theorem tyX_dp {K : PySem.W.Frag} {H : Hp} {v : V} {d : PyData} (h : Dp K H v d) : TyX K H v (.type (tgN (tagOf d))) := by
  cases h with
  | non => exact .base .non
  | bl b => exact .base (.bl b)
  | int i => exact .base (.int i)
  | str x => exact .base (.str x)
  | lst h r =>
    rcases h with (h | ⟨o, h⟩) | ⟨o, _, _, h, c, _⟩
    · exact .base (.lst h)
    · exact .base (.frz h)
    · exact .kList h c
  | tup h r =>
    rcases h with (h | ⟨o, h⟩) | ⟨o, _, _, h, c, _⟩
    · exact .base (.tup h)
    · exact .fTuple h
    · exact .kTuple h c
/-- isinstance(x, T), x data -/
def rIsD (K : PySem.W.Frag) : List V → Hp → VK → Prop := fun xs H Q => ∃ (x : V) (d : PyData) (T : String), xs = [x, .ty T] ∧ Dp K H x d ∧ (T = "int" ∨ T = "bool" ∨ T = "str" ∨ T = "tuple" ∨ T = "list") ∧ Q (.bl (isTy (tagOf d) T)) H
theorem call_isD {X : Cx} : CallR X (.builtin "isinstance") (rIsD X.K) := by
  intro pins s σ H xs us Q I r h
  obtain ⟨x, d, T, rfl, hd, hT, q⟩ := h
  exact call_isi pins s σ H _ us Q I r ⟨x, .ty T, _, .type T, _, rfl, .ty T, tyX_dp hd, tg_kit _ hT, q⟩
/-- isinstance(e, T) -/
def tIsD (K : PySem.W.Frag) (T : String) (te : TE) : TE := fun σ H Q => te σ H fun x H1 => ∃ d, Dp K H1 x d ∧ Q (.bl (isTy (tagOf d) T)) H1
theorem pe_isD {X : Cx} {K : PySem.W.Frag} (T : String) {e : Expr} {te : TE} {p p2 pos : Pos} (hK : X.K = K) (hm : X.mg "isinstance" = none) (hm2 : X.mg (Str.ofString T) = none) (he : PE X e te)
    (hT : T = "int" ∨ T = "bool" ∨ T = "str" ∨ T = "tuple" ∨ T = "list" := by decide) (hg : Gl X "isinstance" := by rfl) (hg2 : Gl X (Str.ofString T) := by rfl) (hv : bootBuiltins (Str.ofString T) = some (.type T) := by decide +kernel)
    (hn2 : Str.ofString T ≠ "__name__" := by decide) (hd2 : (Str.ofString T == ("__debug__" : Str)) = false := by decide) (hs : starEach [e, .Name (Str.ofString T) p2] X.env = (false, eval e X.env) :: starEach [.Name (Str.ofString T) p2] X.env := by rfl)
    (hs2 : starEach [.Name (Str.ofString T) p2] X.env = (false, eval (.Name (Str.ofString T) p2) X.env) :: starEach [] X.env := by rfl) (hpl : (backTo pos (starEach [.Name (Str.ofString T) p2] X.env)).any (·.1) = false := by rfl) :
    PE X (.Call (.Name "isinstance" p) [e, .Name (Str.ofString T) p2] [] pos) (tIsD K T te) := by
  subst hK
  have q := pe_callB (X := X) (x := "isinstance") (p := p) (pos := pos) (call_isD (X := X)) hg hm (by decide +kernel) (pa_cons he (pa_cons (pe_bltn (v := .ty T) (pos := p2) hg2 hm2 hv rfl hn2 hd2) pa_nil hs2) hs) (he := hs) (hpl := hpl)
  refine ⟨fun pins s σ H Q I h => q.run pins s σ H Q I ?_⟩
  have e0 : (fun (x : V) (H1 : Hp) => ∃ d, Dp X.K H1 x d ∧ Q (.bl (isTy (tagOf d) T)) H1) = fun (x : V) (H1 : Hp) => rIsD X.K [x, .ty T] H1 Q := funext fun x => funext fun H1 => propext
    ⟨fun ⟨d, a, b⟩ => ⟨x, d, T, rfl, a, hT, b⟩, fun ⟨x', d, T', e, a, _, b⟩ => by
      simp only [List.cons.injEq, V.ty.injEq, and_true] at e
      obtain ⟨rfl, rfl⟩ := e
      exact ⟨d, a, b⟩⟩
  show te σ H (fun x H1 => rIsD X.K [x, .ty T] H1 Q)
  rw [← e0]
  exact h
/-- len(e), e a list or a tuple -/
def tLenS (K : PySem.W.Frag) (te : TE) : TE := fun σ H Q => te σ H fun x H1 => ∃ p ys, x = .ref p ∧ (SqL K H1 p ys ∨ SqT K H1 p ys) ∧ Q (.int ys.length) H1
theorem pe_lenS {X : Cx} {K : PySem.W.Frag} {e : Expr} {te : TE} {p pos : Pos} (hK : X.K = K) (hm : X.mg "len" = none) (he : PE X e te) (hg : Gl X "len" := by rfl)
    (hs : starEach [e] X.env = (false, eval e X.env) :: starEach [] X.env := by rfl) (hpl : (backTo pos (starEach [] X.env)).any (·.1) = false := by rfl) : PE X (.Call (.Name "len" p) [e] [] pos) (tLenS K te) := by
  subst hK
  have q := pe_callB (X := X) (x := "len") (p := p) (pos := pos) (call_len_seq (X := X)) hg hm (by decide +kernel) (pa_cons he pa_nil hs) (he := hs) (hpl := hpl)
  refine ⟨fun pins s σ H Q I h => q.run pins s σ H Q I ?_⟩
  have e0 : (fun (x : V) (H1 : Hp) => ∃ p ys, x = .ref p ∧ (SqL X.K H1 p ys ∨ SqT X.K H1 p ys) ∧ Q (.int ys.length) H1) = fun (x : V) (H1 : Hp) => (∃ p ys, [x] = [V.ref p] ∧ (SqL X.K H1 p ys ∨ SqT X.K H1 p ys) ∧ Q (.int ys.length) H1) :=
    funext fun x => funext fun H1 => by simp only [List.cons.injEq, and_true]
  show te σ H (fun x H1 => (∃ p ys, [x] = [V.ref p] ∧ (SqL X.K H1 p ys ∨ SqT X.K H1 p ys) ∧ Q (.int ys.length) H1))
  rw [← e0]
  exact h
/-! ### comprehensions whose turns keep all that stands -/
section
variable {J : It} {n : Nat} {g : TG} {tt : TT} {te : TE} {vs : List Nat} {σ : L2.St} {H1 : Hp} {D : Addr} {Qd : Hp → Prop}
abbrev LcGoal (J : It) (g : TG) (tt : TT) (te : TE) (vs : List Nat) (σ : L2.St) (H1 : Hp) (D : Addr) (Qd : Hp → Prop) : Prop := ∃ W : Nat → Nat → Hp → Prop, (∃ m, W 0 m (upd H1 D (.lst []))) ∧ ∀ i m H, W i m H →
  (J.stop i H ∧ Qd H) ∨ (J.go i H ∧ ∃ Nx : Hp → Prop, (∀ H', Nx H' → ∃ m', m' < m ∧ W (i + 1) m' H') ∧ ∀ x H', J.yld i H x H' → g x (wipe σ vs) H' fun σ2 H2 => wipe σ2 vs = wipe σ vs ∧ tt σ2 H2 fun b H3 =>
    if b = true then te σ2 H3 fun y H4 => ∃ acc, H4 D = some (.lst acc) ∧ acc.length < sizeLine ∧ Nx (upd H4 D (.lst (acc ++ [y]))) else Nx H3)
theorem lc_any (Pv : Nat → Hp → Prop) (h0 : Pv 0 (upd H1 D (.lst []))) (go : ∀ i H, i < n → Pv i H → J.go i H) (stop : ∀ H, Pv n H → J.stop n H)
    (turn : ∀ i x H H', i < n → Pv i H → J.yld i H x H' → g x (wipe σ vs) H' fun σ2 H2 => wipe σ2 vs = wipe σ vs ∧ tt σ2 H2 fun b H3 =>
      if b = true then te σ2 H3 fun y H4 => ∃ acc, H4 D = some (.lst acc) ∧ acc.length < sizeLine ∧ Pv (i + 1) (upd H4 D (.lst (acc ++ [y]))) else Pv (i + 1) H3)
    (hd : ∀ H, Pv n H → Qd H) : LcGoal J g tt te vs σ H1 D Qd := by
  refine ⟨fun i m H => m = n - i ∧ i ≤ n ∧ Pv i H, ⟨n, by simp, Nat.zero_le _, h0⟩, ?_⟩
  rintro i m H ⟨rfl, hi, p⟩
  by_cases hlt : i < n
  · exact .inr ⟨go i H hlt p, Pv (i + 1), fun H' p' => ⟨n - (i + 1), by omega, rfl, hlt, p'⟩, fun x H' y => turn i x H H' hlt p y⟩
  · obtain rfl : i = n := by omega
    exact .inl ⟨stop H p, hd H p⟩
/-- .. and no test: the items by what they are -/
theorem lc_rel (Y : Nat → V → Hp → Prop) (hY : ∀ i y H H', TK H H' → Y i y H → Y i y H') (hn : H1 D = none) (hsz : n < sizeLine) (go : ∀ i H, i < n → Same H1 H → J.go i H) (stop : ∀ H, Same H1 H → J.stop n H)
    (turn : ∀ (i : Nat) (x : V) (H H' : Hp) (F : VK), i < n → Same H1 H → J.yld i H x H' → (∀ y H4, Y i y H4 → Same H H4 → F y H4) → g x (wipe σ vs) H' fun σ2 H2 => wipe σ2 vs = wipe σ vs ∧ te σ2 H2 F)
    (hd : ∀ acc H, Same H1 H → H D = some (.lst acc) → acc.length = n → (∀ i y, acc[i]? = some y → Y i y H) → Qd H) : LcGoal J g tYes te vs σ H1 D Qd := by
  have s1 : ∀ {H : Hp} {o : HO}, Same H1 H → Same H1 (upd H D o) := fun s b u e => by rw [upd_ne (ne_of_none e hn)]; exact s b u e
  refine lc_any (fun i H => ∃ acc, Same H1 H ∧ H D = some (.lst acc) ∧ acc.length = i ∧ ∀ j y, acc[j]? = some y → Y j y H) ⟨[], s1 (Same.refl H1), upd_same, rfl, fun j y e => by simp at e⟩ (fun i H hi ⟨_, s, _⟩ => go i H hi s) (fun H ⟨_, s, _⟩ => stop H s) ?_ fun H ⟨acc, s, e, l, k⟩ => hd acc H s e l k
  rintro i x H H' hi ⟨acc, s, e, l, k⟩ y
  have q := turn i x H H' (fun y H4 => ∃ acc, H4 D = some (.lst acc) ∧ acc.length < sizeLine ∧ ∃ acc', Same H1 (upd H4 D (.lst (acc ++ [y]))) ∧ (upd H4 D (.lst (acc ++ [y]))) D = some (.lst acc') ∧ acc'.length = i + 1 ∧ ∀ j y', acc'[j]? = some y' → Y j y' (upd H4 D (.lst (acc ++ [y])))) hi s y (fun z H4 yz s4 => ?_)
  · exact q
  have e4 := s4 _ _ e
  refine ⟨acc, e4, by omega, acc ++ [z], s1 (s.trans s4), upd_same, by simp [l], fun j y' ej => ?_⟩
  have tk : TK H4 (upd H4 D (.lst (acc ++ [z]))) := .lst e4
  by_cases hj : j < acc.length
  · rw [List.getElem?_append_left hj] at ej
    exact hY _ _ _ _ ((TK.of s4).trans tk) (k j y' ej)
  · have hj2 : j = acc.length := by
      have := (List.getElem?_eq_some_iff.mp ej).1
      simp at this
      omega
    subst hj2
    simp at ej
    subst ej
    rw [l]
    exact hY _ _ _ _ tk yz
end
end Hx
set_option maxHeartbeats 4000000
namespace Hx
open PySem PySem.Spec PyProof.Rows L2 RZ
/-! ### slices of tuples and lists, zip of two tuples -/
theorem cutV_whole {xs : List V} {lo hi : Option Int} (h : HT.sIx xs.length 0 lo = 0 ∧ HT.sIx xs.length xs.length hi = xs.length) : cutV xs lo hi = xs := by
  unfold cutV
  rw [h.1, h.2]
  simp
theorem rSlA_any {K : PySem.W.Frag} {H : Hp} {a : Addr} {xs ys : List V} {lo hi : Option Int} {Q : VK} (ha : SqT K H a xs) (hy : cutV xs lo hi = ys) (q : ∀ p H', Same H H' → SqT K H' p ys → Q (.ref p) H') : rSlA K (.ref a) lo hi H Q := by
  refine ⟨a, xs, rfl, ha, fun hw => ?_, fun _ p hp => ?_⟩
  · rw [cutV_whole hw] at hy
    subst hy
    exact q a H (Same.refl H) ha
  · refine q p _ (fun b u e => by rw [upd_ne (ne_of_none e hp)]; exact e) (SqT.of ?_)
    rw [upd_same, hy]
theorem cut_from {xs : List V} (k : Nat) : cutV xs (some (k : Int)) none = xs.drop k := by
  unfold cutV
  rw [HT.sIx_nat, HT.sIx_none]
  rcases Nat.le_total k xs.length with h | h
  · rw [Nat.min_eq_left h, List.take_of_length_le (by rw [List.length_drop]; omega)]
  · rw [Nat.min_eq_right h, List.drop_of_length_le (Nat.le_refl _), List.drop_of_length_le h]
    simp
theorem cut_between {xs : List V} (k m : Nat) (hm : m ≤ xs.length) : cutV xs (some (k : Int)) (some (m : Int)) = (xs.take m).drop k := by
  unfold cutV
  rw [HT.sIx_nat, HT.sIx_nat, Nat.min_eq_left hm, List.drop_take]
  rcases Nat.le_total k xs.length with h | h
  · rw [Nat.min_eq_left h]
  · rw [Nat.min_eq_right h, List.drop_of_length_le (Nat.le_refl _), List.drop_of_length_le h]
    simp
theorem cut_less1 {xs : List V} (k : Nat) : cutV xs (some (k : Int)) (some (-1)) = (xs.take (xs.length - 1)).drop k := by
  have e : HT.sIx xs.length xs.length (some (-1)) = xs.length - 1 := by
    show (if (-1 : Int) < 0 then ((-1 : Int) + (xs.length : Int)).toNat else min (-1 : Int).toNat xs.length) = _
    rw [if_pos (by decide)]
    omega
  unfold cutV
  rw [HT.sIx_nat, e, List.drop_take]
  rcases Nat.le_total k xs.length with h | h
  · rw [Nat.min_eq_left h]
  · rw [Nat.min_eq_right h, List.drop_of_length_le (Nat.le_refl _), List.drop_of_length_le h]
    simp
theorem zipT_same {H : Hp} {T : Addr} {x y : V} (h : H T = none) : Same H (upd H T (.tup [x, y])) := fun b u e => by rw [upd_ne (ne_of_none e h)]; exact e
/-- a comprehension over zip(a, b), tuples, the second the shorter one -/
theorem lc_zip {g : TG} {te : TE} {vs : List Nat} {σ : L2.St} {H1 : Hp} {D : Addr} {Qd : Hp → Prop} {K : PySem.W.Frag} {a b : Addr} {xs ys : List V} (ha : SqT K H1 a xs) (hb : SqT K H1 b ys) (hle : ys.length ≤ xs.length) (hsz : ys.length < sizeLine)
    (Y : Nat → V → Hp → Prop) (hY : ∀ i y H H', TK H H' → Y i y H → Y i y H') (hn : H1 D = none)
    (turn : ∀ (i : Nat) (x y : V) (T : Addr) (H H' : Hp) (F : VK), xs[i]? = some x → ys[i]? = some y → Same H1 H' → Same H H' → H' T = some (.tup [x, y]) → (∀ z H4, Y i z H4 → Same H H4 → F z H4) →
      g (.ref T) (wipe σ vs) H' fun σ2 H2 => wipe σ2 vs = wipe σ vs ∧ te σ2 H2 F)
    (hd : ∀ acc H, Same H1 H → H D = some (.lst acc) → acc.length = ys.length → (∀ i y, acc[i]? = some y → Y i y H) → Qd H) : LcGoal (ItzT K a b) g tYes te vs σ H1 D Qd := by
  refine lc_rel Y hY hn hsz (fun i H hi s => ?_) (fun H s => ?_) ?_ hd
  · exact ⟨_, _, _, _, same_seqT s ha, same_seqT s hb, List.getElem?_eq_getElem (show i < xs.length by omega), List.getElem?_eq_getElem hi⟩
  · exact ⟨_, _, same_seqT s ha, same_seqT s hb, .inr (Nat.le_refl _)⟩
  · rintro i _ H _ F hi s ⟨T, x, y, rfl, hT, rfl, qx, qy⟩ kk
    exact turn i x y T H _ F (qx _ (same_seqT s ha)) (qy _ (same_seqT s hb)) (s.trans (zipT_same hT)) (zipT_same hT) upd_same kk
/-- .. over a tuple -/
theorem lc_tup1 {g : TG} {te : TE} {vs : List Nat} {σ : L2.St} {H1 : Hp} {D : Addr} {Qd : Hp → Prop} {K : PySem.W.Frag} {a : Addr} {xs : List V} (ha : SqT K H1 a xs) (hsz : xs.length < sizeLine)
    (Y : Nat → V → Hp → Prop) (hY : ∀ i y H H', TK H H' → Y i y H → Y i y H') (hn : H1 D = none)
    (turn : ∀ (i : Nat) (x : V) (H : Hp) (F : VK), xs[i]? = some x → Same H1 H → (∀ z H4, Y i z H4 → Same H H4 → F z H4) →
      g x (wipe σ vs) H fun σ2 H2 => wipe σ2 vs = wipe σ vs ∧ te σ2 H2 F)
    (hd : ∀ acc H, Same H1 H → H D = some (.lst acc) → acc.length = xs.length → (∀ i y, acc[i]? = some y → Y i y H) → Qd H) : LcGoal (Itt K a) g tYes te vs σ H1 D Qd := by
  refine lc_rel Y hY hn hsz (fun i H hi s => ?_) (fun H s => ?_) ?_ hd
  · exact ⟨_, _, same_seqT s ha, List.getElem?_eq_getElem hi⟩
  · exact ⟨_, same_seqT s ha, Nat.le_refl _⟩
  · rintro i x H H' F hi s ⟨e, qx⟩ kk
    rw [e]
    exact turn i x H F (qx _ (same_seqT s ha)) s kk
/-- .. over a list that no turn touches -/
theorem same_seqL {K : PySem.W.Frag} {H H' : Hp} {a : Addr} {xs : List V} (e : Same H H') (h : SqL K H a xs) : SqL K H' a xs := by
  rcases h with (q | ⟨o, q⟩) | ⟨o, q⟩
  · exact .inl (.inl (e _ _ q))
  · exact .inl (.inr ⟨o, e _ _ q⟩)
  · exact .inr ⟨o, q⟩
theorem lc_lst1 {g : TG} {te : TE} {vs : List Nat} {σ : L2.St} {H1 : Hp} {D : Addr} {Qd : Hp → Prop} {K : PySem.W.Frag} {a : Addr} {xs : List V} (ha : SqL K H1 a xs) (hsz : xs.length < sizeLine)
    (Y : Nat → V → Hp → Prop) (hY : ∀ i y H H', TK H H' → Y i y H → Y i y H') (hn : H1 D = none)
    (turn : ∀ (i : Nat) (x : V) (H : Hp) (F : VK), xs[i]? = some x → Same H1 H → (∀ z H4, Y i z H4 → Same H H4 → F z H4) →
      g x (wipe σ vs) H fun σ2 H2 => wipe σ2 vs = wipe σ vs ∧ te σ2 H2 F)
    (hd : ∀ acc H, Same H1 H → H D = some (.lst acc) → acc.length = xs.length → (∀ i y, acc[i]? = some y → Y i y H) → Qd H) : LcGoal (Itl K a) g tYes te vs σ H1 D Qd := by
  refine lc_rel Y hY hn hsz (fun i H hi s => ?_) (fun H s => ?_) ?_ hd
  · exact ⟨_, _, same_seqL s ha, List.getElem?_eq_getElem hi⟩
  · exact ⟨_, same_seqL s ha, Nat.le_refl _⟩
  · rintro i x H H' F hi s ⟨e, qx⟩ kk
    rw [e]
    exact turn i x H F (qx _ (same_seqL s ha)) s kk
/-- what a comprehension of truths comes to -/
theorem bools_are {acc : List V} {bs : List Bool} (hl : acc.length = bs.length) (h : ∀ (i : Nat) (y : V), acc[i]? = some y → bs[i]?.map V.bl = some y) : acc = bs.map V.bl := by
  refine List.ext_getElem? fun i => ?_
  rw [List.getElem?_map]
  by_cases hi : i < acc.length
  · rw [List.getElem?_eq_getElem hi, h i _ (List.getElem?_eq_getElem hi)]
  · rw [List.getElem?_eq_none (by omega), List.getElem?_eq_none (by omega)]
    rfl
end Hx
set_option maxHeartbeats 4000000
/-! ### sets of texts: set(list), set(tuple), sorted(set) -/
namespace Hx
open PySem PySem.Spec PyProof.Rows L2 PySem.Froz
/-- the walk over the set is told -/
def Told (w : World) (t : SetTable) : Prop := w.params.followText "set-order" = true ∨ t.led = true
/-- the set at a holds just the texts l, each once -/
def TxR (P : Program) (w : World) (h : Heap) (a : Addr) (l : List Str) : Prop :=
  ∃ D : SD, h.get? a = some (sObj "set" D) ∧ TxOk P w D l ∧ l.Nodup ∧ Ris D.2.2.place.toList ∧ Told w D.2.2
theorem TxR.at {P : Program} {w : World} {h h' : Heap} {a : Addr} {l : List Str} (R : TxR P w h a l) (k : ∀ o, h.get? a = some o → h'.get? a = some o) : TxR P w h' a l := by
  obtain ⟨D, e, r⟩ := R
  exact ⟨D, k _ e, r⟩
theorem told_add {w : World} {D : SD} {x : Int} {v : Value} (r : Ris D.2.2.place.toList) (q : Told w D.2.2) : Ris (addTx x v D).2.2.place.toList ∧ Told w (addTx x v D).2.2 := by
  obtain ⟨es, ep, t⟩ := D
  have r1 := layNew_ris t es x v r
  have l1 := layNew_led t es x v
  have q1 : Told w (layNew t es x v).2.1 := q.imp id fun z => by rw [l1]; exact z
  unfold addTx
  generalize layNew t es x v = Z at r1 q1
  obtain ⟨es1, t1, wd, gv⟩ := Z
  dsimp only at r1 q1 ⊢
  have both : ∀ t2 : SetTable, t2.place = t1.place → t2.led = t1.led → Ris (tailTx ep es1 t2 wd).2.2.place.toList ∧ Told w (tailTx ep es1 t2 wd).2.2 := fun t2 p2 l2 => by
    have r2 : Ris t2.place.toList := by rw [p2]; exact r1
    have q2 : Told w t2 := q1.imp id fun z => by rw [l2]; exact z
    unfold tailTx
    split
    · exact ⟨relayAll_ris t2 es1 _, q2.imp id fun z => by rw [relayAll_led t2 es1 _]; exact z⟩
    · exact ⟨r2, q2⟩
  split
  · exact both _ rfl rfl
  · exact both _ rfl rfl
section
variable {P : Program} {w : World} {A : Around} {E : Value → Shared → Prop} {s : Shared}
/-- a text that is in -/
theorem had_x {a : Addr} {T : String} {D : SD} {l : List Str} {y : Str} {u : Tok} {Q : Bool → Shared → Prop} (ho : s.heap.get? a = some (sObj T D)) (F : TxOk P w D l) (hy : y ∈ l) (hb : l.length < scanBound) (h : Q false s) :
    wpAny (model P w) A (setAddHashed a (.str y u) (hashStr w y)) Q E s := by
  obtain ⟨arr, c0, tb⟩ := D
  have nb : arr.size < scanBound := by rw [F.sz]; exact hb
  obtain ⟨e0, me, qe⟩ := (F.mem y).mp hy
  unfold setAddHashed setAddHashedIn
  refine wpAny_holding (wpAny_bind (wpAny_setState_of ho rfl F.fit ?_))
  dsimp only
  rw [byScan_of rfl nb F.el]
  simp only [↓reduceIte]
  unfold setAddByScan
  refine wpAny_bind (wpAny_bind (wpAny_rule (wpAny_bind (wpAny_setScan_of (knd := strKind P w) (k := y) (is_str y u) ho rfl F.fit F.el ?_))))
  cases hf : List.findIdx? (fun e => (strKind P w).is y e.2) arr.toList with
  | none =>
    have c := List.findIdx?_eq_none_iff.mp hf e0 me
    rw [qe] at c
    cases c
  | some j =>
    dsimp only
    exact wpAny_pure (wpAny_pure h)
/-- a text more -/
theorem addR {a : Addr} {l : List Str} {y : Str} {u : Tok} {Q : Bool → Shared → Prop} (R : TxR P w s.heap a l) (hb : l.length + 1 < scanBound)
    (h : ∀ b h' l', Heap.SameBut a s.heap h' → TxR P w h' a l' → (∀ z, z ∈ l' ↔ z = y ∨ z ∈ l) → l'.length ≤ l.length + 1 → Q b { s with heap := h' }) :
    wpAny (model P w) A (setAddHashed a (.str y u) (hashStr w y)) Q E s := by
  obtain ⟨D, ho, F, nd, r, q⟩ := R
  by_cases hy : y ∈ l
  · exact had_x ho F hy (by omega) (h false s.heap l (Heap.SameBut.refl a s.heap) ⟨D, ho, F, nd, r, q⟩ (fun z => ⟨.inr, fun e => e.elim (fun e => e ▸ hy) id⟩) (Nat.le_succ _))
  · refine add_x ho F hy hb (h true _ (y :: l) (Heap.SameBut.update s.heap a _) ⟨_, get_upd _ ho rfl, add_ok u F, List.nodup_cons.mpr ⟨hy, nd⟩, told_add r q⟩ (fun z => List.mem_cons) (by simp))
theorem fresh_tx {h : Heap} {a : Addr} (ho : h.get? a = some { cls := .type "set", dict := none, data := .set #[] 0 (.fresh 0 0 (!w.params.followText "set-order")) }) : TxR P w h a [] :=
  ⟨(#[], 0, .fresh 0 0 (!w.params.followText "set-order")), ho, TxOk.nil (by rfl), .nil, List.Pairwise.nil, by
    show _ ∨ (!w.params.followText "set-order") = true
    cases w.params.followText "set-order" <;> simp⟩
/-- the adds of all that an iterator gives -/
theorem update_tx {I : Addr} {fp wr : List Addr} {G : Array GenState → Array GenState → Prop} {n : Nat} {Pv : Nat → Value → Prop} {St : Nat → Shared → Prop} {R : Result → Shared → Prop}
    (W : WalksS P w A.in1 I fp wr G n Pv St) (Z : Addr) (hZ : Z ∉ fp) (xs : List Str) (hn : n = xs.length) (hb : xs.length + 1 < scanBound) (hv : ∀ i v, Pv i v → ∃ x t, xs[i]? = some x ∧ v = .str x t) :
    ∀ (m i : Nat) (s : Shared) (l : List Str), n - i = m → i ≤ n → St i s → TxR P w s.heap Z l → (∀ z, z ∈ l ↔ z ∈ xs.take i) → l.length ≤ i →
      (∀ s' l', Moved (Z :: wr) G s s' → TxR P w s'.heap Z l' → (∀ z, z ∈ l' ↔ z ∈ xs) → l'.length ≤ n → R (.ok (.ret .none)) s') →
      codeAny (model P w) A (.builtin "set.update.loop" ⟨[.ref Z, .ref I], []⟩) R s := by
  have nw : Z ∉ wr := fun q => hZ (W.sub _ q)
  have up : ∀ b ∈ wr, b ∈ Z :: wr := fun b => List.mem_cons_of_mem _
  intro m
  induction m with
  | zero =>
    intro i s l e0 hi st T hl ln k
    obtain rfl : i = n := by omega
    refine codeAny_builtin F.entry_set_update_loop ?_
    rw [Around.under_plainId F.plain_set_update_loop _]
    refine wpAny_bind (m := pyNext (.ref I)) (W.done s _ _ st fun s1 mv => ?_)
    show wpAny _ A.in1 (ret .none) _ _ s1
    refine wpAny_pure (k s1 l (mv.mono up) (T.at fun o => mv.heap Z o nw) (fun z => ?_) ln)
    rw [hl, List.take_of_length_le (by omega)]
  | succ m ih =>
    intro i s l e0 hi st T hl ln k
    have lt : i < n := by omega
    refine codeAny_builtin F.entry_set_update_loop ?_
    rw [Around.under_plainId F.plain_set_update_loop _]
    refine wpAny_bind (m := pyNext (.ref I)) (W.item i s _ _ lt st fun v s1 pv st1 mv => ?_)
    obtain ⟨x, t, hx, rfl⟩ := hv i v pv
    refine wpAny_bind (m := holding [Value.str x t] (setAdd Z (.str x t))) (wpAny_holding ?_)
    unfold setAdd
    refine wpAny_holding (wpAny_bind ((strKind P w).pyHash (k := x) (is_str x t) ?_))
    refine addR (s := { s1 with toks := s1.toks + 1 }) (T.at fun o => mv.heap Z o nw) (by omega) fun b h2 l2 sb T2 m2 n2 => ?_
    refine wpAny_pure ⟨plainId_quiet F.plain_set_update_loop _, ih (i + 1) _ l2 (by omega) lt (W.frame _ s1 _ _ st1 (Nat.le_succ _) fun c hc o e => ?_) T2 (fun z => ?_) (by omega) fun s3 l3 mv3 T3 m3 n3 => k s3 l3 (Moved.trans W.gtrans ((mv.mono up).then_heap (Nat.le_succ _) fun c o nc e => ?_) mv3) T3 m3 n3⟩
    · rw [sb.2 c (fun q => hZ (q ▸ hc))]
      exact e
    · rw [m2, hl, List.take_add_one, hx, List.mem_append]
      simp [or_comm]
    · rw [sb.2 c (fun q => nc (q ▸ List.mem_cons_self))]
      exact e
abbrev newSet (w : World) : Obj := { cls := .type "set", dict := none, data := .set #[] 0 (.fresh 0 0 (!w.params.followText "set-order")) }
set_option maxHeartbeats 8000000 in
/-- set(v), by what its __init__ does -/
theorem call_set_by {v : Value} {Q : Value → Shared → Prop} (Good : Shared → Prop)
    (hi : ∀ A' : Around, A'.handled = A.handled → codeAny (model P w) A' (.call (.builtin "set.__init__") ⟨[.ref s.heap.objs.size, v], []⟩) (wants (fun r s2 => r = .none ∧ Good s2) E) { s with heap := s.heap.push (newSet w) })
    (k : ∀ s2, Good s2 → Q (.ref s.heap.objs.size) s2) : wpAny (model P w) A (call (.type "set") [v]) Q E s := by
  have am := F.called_set.made
  have as := F.called_set.sub
  have an := F.called_set.notType
  have ac := F.called_set.canCreate
  have at1 := F.typeCall_set_1 v
  obtain ⟨cx, tl, mro⟩ := F.called_set.mro
  refine wpAny_call (codeAny_of_tree ?_)
  show wpAny _ _ (callAny (.type "set") _) _ _ s
  refine wpAny_pure ⟨Code.quiet_builtin _ (by decide +kernel), codeAny_builtin F.entry_type_call ?_⟩
  rw [Around.under_plain (weight_type_call_type "set" [v] []) rfl]
  repeat (any_goals (first | assumption | wp_step))
  refine codeAny_mono (code_set_led1 v (E := E) (Q₁ := fun x s₁ => x = .ref s.heap.objs.size ∧ s₁ = { s with heap := s.heap.push (newSet w) }) ⟨rfl, rfl⟩) fun r s₁ d => ?_
  match r, d with
  | .error _, d => exact d
  | .ok (.ret x), d =>
    obtain ⟨rfl, rfl⟩ := d
    have ob : (s.heap.push (newSet w)).get? s.heap.objs.size = some (newSet w) := Heap.get?_push_size _ rfl
    have ty : Shared.TypeIs { s with heap := s.heap.push (newSet w) } (.ref s.heap.objs.size) "set" := ⟨_, ob, rfl⟩
    have il := F.called_set.init.lookup
    have ib := F.called_set.init.bind (.ref s.heap.objs.size)
    repeat (any_goals (first | assumption | wp_step))
    refine codeAny_mono (hi A.in1 rfl) fun r2 s2 d2 => ?_
    match r2, d2 with
    | .error _, d2 => exact d2
    | .ok (.ret y), d2 =>
      obtain ⟨rfl, g⟩ := d2
      repeat (any_goals (first | assumption | wp_step))
      exact k _ g
    | .ok .brk, d2 => exact d2.elim
    | .ok .cont, d2 => exact d2.elim
    | .ok .next, d2 => exact d2.elim
  | .ok .brk, d => exact d.elim
  | .ok .cont, d => exact d.elim
  | .ok .next, d => exact d.elim
theorem str_val {its : Array Value} {xs : List Str} (hs : StrsAre its.toList xs) : ∀ (i : Nat) (v : Value), its[i]? = some v → ∃ x t, xs[i]? = some x ∧ v = .str x t := fun i v e => by
  obtain ⟨x, t, e1, e2⟩ := hs.item i v (by rw [Array.getElem?_toList]; exact e)
  exact ⟨x, t, e2, e1⟩
/-- what set(v) leaves -/
def Made (P : Program) (w : World) (s : Shared) (xs : List Str) (s2 : Shared) : Prop :=
  ∃ (g : Heap) (k : Nat) (l : List Str), s2 = { s with heap := g, toks := k } ∧ TxR P w g s.heap.objs.size l ∧ (∀ z, z ∈ l ↔ z ∈ xs) ∧ l.length ≤ xs.length ∧ ∀ b o, s.heap.get? b = some o → g.get? b = some o
theorem made_end {xs : List Str} {s' : Shared} {l : List Str} {it : Obj} {n : Nat} (mv : Moved (s.heap.objs.size :: [(s.heap.push (newSet w)).objs.size]) (fun a b => b = a) { s with heap := (s.heap.push (newSet w)).push it } s')
    (T : TxR P w s'.heap s.heap.objs.size l) (m : ∀ z, z ∈ l ↔ z ∈ xs) (hl : l.length ≤ n) (hn : n = xs.length) : Made P w s xs s' := by
  have eg : s'.gens = s.gens := mv.gens
  have ed : s'.drawn = s.drawn := mv.drawn
  have eo : s'.os = s.os := mv.os
  obtain ⟨g, ge, dr, tk, os⟩ := s'
  simp only at eg ed eo
  subst eg ed eo
  refine ⟨g, tk, l, rfl, T, m, by omega, fun b o e => ?_⟩
  have lt := Heap.lt_size e
  refine mv.heap b o (fun q => ?_) (Heap.get?_push_of_some _ (Heap.get?_push_of_some _ e))
  rw [Heap.size_push] at q
  simp only [List.mem_cons, List.mem_singleton, List.not_mem_nil, or_false] at q
  rcases q with q | q
  · exact Nat.lt_irrefl _ (q ▸ lt)
  · exact Nat.lt_irrefl _ (Nat.lt_of_lt_of_le (q ▸ lt) (Nat.le_succ _))
set_option maxHeartbeats 8000000 in
theorem init_tupS {p : Addr} {its : Array Value} (xs : List Str) (hh : A.handled = none) (hp : s.heap.IsTuple p its) (hs : StrsAre its.toList xs) (hb : xs.length + 1 < scanBound) :
    codeAny (model P w) A (.call (.builtin "set.__init__") ⟨[.ref s.heap.objs.size, .ref p], []⟩) (wants (fun r s2 => r = .none ∧ Made P w s xs s2) E) { s with heap := s.heap.push (newSet w) } := by
  have ne : its.size = xs.length := by have q := hs.length; rwa [Array.length_toList] at q
  have ob : (s.heap.push (newSet w)).get? s.heap.objs.size = some (newSet w) := Heap.get?_push_size _ rfl
  refine codeAny_call_builtin F.called_set.init.plain F.entry_set_init (check_set_init_1 ⟨_, ob, rfl⟩ ?_)
  obtain ⟨⟨cl, dc, da, sl⟩, ho, ec, nn, ed⟩ := hp
  simp only at ec ed
  subst ec ed
  have ho2 : (s.heap.push (newSet w)).get? p = some { cls := .type "tuple", dict := dc, data := .seq its nn, slots := sl } := Heap.get?_push_of_some _ ho
  have pt : (s.heap.push (newSet w)).IsTuple p its := ⟨_, ho2, rfl, nn, rfl⟩
  have n1 := F.sub_tuple_set
  have n2 := F.sub_tuple_frozenset
  have n3 : (Value.type "tuple" == Value.type "dict") = false := by decide
  unfold Builtin.«set.__init__» noKeywords Builtin.Frozenset.updateFrom
  generalize hI : pyIter = PI
  wp_walk
  subst hI
  refine wpAny_pyIter_tuple pt (wpAny_bind (wpAny_runValue ?_))
  have lp : p < s.heap.objs.size := Heap.lt_size ho
  have np : p ≠ (s.heap.push (newSet w)).objs.size := by rw [Heap.size_push]; exact Nat.ne_of_lt (Nat.lt_succ_of_lt lp)
  have hZ : s.heap.objs.size ∉ [(s.heap.push (newSet w)).objs.size, p] := by
    rw [Heap.size_push]
    simp only [List.mem_cons, List.not_mem_nil, or_false, not_or]
    exact ⟨fun q => Nat.lt_irrefl _ (Nat.lt_of_lt_of_le (Nat.lt_succ_self _) (Nat.le_of_eq q.symm)), fun q => Nat.lt_irrefl _ (Nat.lt_of_le_of_lt (Nat.le_of_eq q) lp)⟩
  refine update_tx ((Walks.tuple (by simpa using hh) _ p np its).toS) s.heap.objs.size hZ xs ne hb (str_val hs) (its.size - 0) 0 _ [] rfl (Nat.zero_le _) ⟨⟨_, Heap.get?_push_size _ rfl, rfl, rfl⟩, pt.push _⟩ (fresh_tx (Heap.get?_push_of_some _ ob)) (fun z => by simp) (Nat.le_refl 0) fun s3 l3 mv T m3 n3 => ?_
  exact wpAny_pure (wpAny_pure ⟨rfl, made_end mv T m3 n3 ne⟩)
theorem call_set_tupS {p : Addr} {its : Array Value} (xs : List Str) {Q : Value → Shared → Prop} (hh : A.handled = none) (hp : s.heap.IsTuple p its) (hs : StrsAre its.toList xs) (hb : xs.length + 1 < scanBound)
    (k : ∀ s2, Made P w s xs s2 → Q (.ref s.heap.objs.size) s2) : wpAny (model P w) A (call (.type "set") [.ref p]) Q E s :=
  call_set_by (Made P w s xs) (fun A' e => init_tupS xs (e.trans hh) hp hs hb) k
set_option maxHeartbeats 8000000 in
theorem init_listS {p : Addr} {its : Array Value} (xs : List Str) (hh : A.handled = none) (hp : s.heap.IsList p its) (hs : StrsAre its.toList xs) (hb : xs.length + 1 < scanBound) :
    codeAny (model P w) A (.call (.builtin "set.__init__") ⟨[.ref s.heap.objs.size, .ref p], []⟩) (wants (fun r s2 => r = .none ∧ Made P w s xs s2) E) { s with heap := s.heap.push (newSet w) } := by
  have ne : its.size = xs.length := by have q := hs.length; rwa [Array.length_toList] at q
  have ob : (s.heap.push (newSet w)).get? s.heap.objs.size = some (newSet w) := Heap.get?_push_size _ rfl
  refine codeAny_call_builtin F.called_set.init.plain F.entry_set_init (check_set_init_1 ⟨_, ob, rfl⟩ ?_)
  obtain ⟨⟨cl, dc, da, sl⟩, ho, ec, nn, ed⟩ := hp
  simp only at ec ed
  subst ec ed
  have ho2 : (s.heap.push (newSet w)).get? p = some { cls := .type "list", dict := dc, data := .seq its nn, slots := sl } := Heap.get?_push_of_some _ ho
  have pt : (s.heap.push (newSet w)).IsList p its := ⟨_, ho2, rfl, nn, rfl⟩
  have n1 := F.sub_list_set
  have n2 := F.sub_list_frozenset
  have n3 : (Value.type "list" == Value.type "dict") = false := by decide
  unfold Builtin.«set.__init__» noKeywords Builtin.Frozenset.updateFrom
  generalize hI : pyIter = PI
  wp_walk
  subst hI
  refine wpAny_pyIter_list pt (wpAny_bind (wpAny_runValue ?_))
  have lp : p < s.heap.objs.size := Heap.lt_size ho
  have np : p ≠ (s.heap.push (newSet w)).objs.size := by rw [Heap.size_push]; exact Nat.ne_of_lt (Nat.lt_succ_of_lt lp)
  have hZ : s.heap.objs.size ∉ [(s.heap.push (newSet w)).objs.size, p] := by
    rw [Heap.size_push]
    simp only [List.mem_cons, List.not_mem_nil, or_false, not_or]
    exact ⟨fun q => Nat.lt_irrefl _ (Nat.lt_of_lt_of_le (Nat.lt_succ_self _) (Nat.le_of_eq q.symm)), fun q => Nat.lt_irrefl _ (Nat.lt_of_le_of_lt (Nat.le_of_eq q) lp)⟩
  refine update_tx ((Walks.list (by simpa using hh) _ p np its).toS) s.heap.objs.size hZ xs ne hb (str_val hs) (its.size - 0) 0 _ [] rfl (Nat.zero_le _) ⟨⟨_, Heap.get?_push_size _ rfl, rfl, rfl⟩, pt.push _⟩ (fresh_tx (Heap.get?_push_of_some _ ob)) (fun z => by simp) (Nat.le_refl 0) fun s3 l3 mv T m3 n3 => ?_
  exact wpAny_pure (wpAny_pure ⟨rfl, made_end mv T m3 n3 ne⟩)
theorem call_set_lstS {p : Addr} {its : Array Value} (xs : List Str) {Q : Value → Shared → Prop} (hh : A.handled = none) (hp : s.heap.IsList p its) (hs : StrsAre its.toList xs) (hb : xs.length + 1 < scanBound)
    (k : ∀ s2, Made P w s xs s2 → Q (.ref s.heap.objs.size) s2) : wpAny (model P w) A (call (.type "set") [.ref p]) Q E s :=
  call_set_by (Made P w s xs) (fun A' e => init_listS xs (e.trans hh) hp hs hb) k
end
end Hx
set_option maxHeartbeats 4000000
/-! ### sorted(set of texts), and the rules -/
namespace Hx
open PySem PySem.Spec PyProof.Rows L2 PySem.Froz
theorem perm_of_sub {α : Type} [BEq α] [LawfulBEq α] : ∀ {l m : List α}, l.Nodup → (∀ x ∈ l, x ∈ m) → m.length ≤ l.length → l.Perm m
  | [], m, _, _, h => by
    have : m = [] := List.length_eq_zero_iff.mp (Nat.le_zero.mp h)
    rw [this]
  | x :: l, m, nd, sub, h => by
    have nx := (List.nodup_cons.mp nd).1
    have hm := sub x List.mem_cons_self
    have p := List.perm_cons_erase hm
    have hl : (m.erase x).length ≤ l.length := by
      rw [List.length_erase_of_mem hm]
      simp at h
      omega
    refine (List.Perm.cons x (perm_of_sub (List.nodup_cons.mp nd).2 (fun y hy => ?_) hl)).trans p.symm
    exact (List.mem_erase_of_ne (a := y) (b := x) fun e => nx (by rw [← e]; exact hy)).mpr (sub y (List.mem_cons_of_mem _ hy))
theorem strs_in {P : Program} {w : World} {D : SD} {l : List Str} (F : TxOk P w D l) {v : Value} (hv : v ∈ D.1.toList.map (·.2)) : ∃ x t, v = .str x t := by
  obtain ⟨e, he, rfl⟩ := List.mem_map.mp hv
  obtain ⟨⟨k, hk, _⟩, _⟩ := F.el e he
  have hk2 : Value.isStrOf k e.2 = true := hk
  cases e2 : e.2 with
  | str x t => exact ⟨x, t, rfl⟩
  | _ => rw [e2] at hk2; cases hk2
theorem texts_perm {P : Program} {w : World} {D : SD} {l : List Str} (F : TxOk P w D l) (nd : l.Nodup) : l.Perm ((D.1.toList.map (·.2)).map strOf) := by
  refine perm_of_sub nd (fun x hx => ?_) (by rw [List.length_map, List.length_map, Array.length_toList, F.sz]; exact Nat.le_refl _)
  obtain ⟨e, he, hk⟩ := (F.mem x).mp hx
  have hm : e.2 ∈ D.1.toList.map (·.2) := List.mem_map.mpr ⟨e, he, rfl⟩
  obtain ⟨y, t, e2⟩ := strs_in F hm
  refine List.mem_map.mpr ⟨e.2, hm, ?_⟩
  have hk2 : Value.isStrOf x e.2 = true := hk
  rw [e2] at hk2 ⊢
  have q : (y == x) = true ∨ (x == y) = true := by
    first
      | exact .inl hk2
      | exact .inr hk2
  show y = x
  rcases q with q | q
  · exact eq_of_beq q
  · exact (eq_of_beq q).symm
section
variable {P : Program} {w : World} {A : Around} {E : Value → Shared → Prop} {s : Shared}
theorem sorted_tx {a : Addr} {l : List Str} {Q : Value → Shared → Prop} (R : TxR P w s.heap a l) (hh : A.handled = none) (hb : l.length < scanBound)
    (k : ∀ (s' : Shared) (p : Addr) (out : Array Value) (c : Nat) (ys : List Str), (∀ b o, s.heap.get? b = some o → s'.heap.get? b = some o) → s'.gens = s.gens → s'.os = s.os → s.heap.objs.size ≤ p →
      s'.heap.get? p = some (seqObj "list" out c) → StrsAre out.toList ys → ys.Perm l → sortedS ys = true → Q (.ref p) s') : wpAny (model P w) A (call (.builtin "sorted") [.ref a]) Q E s := by
  obtain ⟨D, ho, F, nd, r, q⟩ := R
  have nb : D.1.size < scanBound := by rw [F.sz]; exact hb
  refine Calls.call_function_entry kind_sorted plain_sorted entry_sorted (args_sorted1 _) ?_
  unfold Builtin.«sorted»
  refine wpAny_bind (m := checkCount "sorted" 1 1 _) (wpAny_pure (wpAny_bind (collect_set (A := A.in1) hh ⟨_, ho, rfl, rfl⟩ F.fit nb r q fun s1 vs k1 z1 g1 o1 pm => ?_)))
  have hl : vs.length = l.length := by rw [pm.length_eq, List.length_map, Array.length_toList, F.sz]
  have sv : StrsAre vs (vs.map strOf) := strsAre_map vs fun v hv => strs_in F (pm.mem_iff.mp hv)
  have pl : (vs.map strOf).Perm l := (pm.map strOf).trans (texts_perm F nd).symm
  have small : vs.length ≤ sizeLine := by
    rw [hl, sizeLine_eq]
    exact Nat.le_of_lt (Nat.lt_of_lt_of_le hb (by decide))
  refine wpAny_bind (wpAny_newList ?_ small)
  have hx : (s1.heap.push (seqObj "list" vs.toArray 0)).get? s1.heap.objs.size = some (seqObj "list" vs.toArray 0) := Heap.get?_push_size _ rfl
  refine wpAny_bind (wpAny_holding (wpAny_call_entry slot_list_sort ⟨_, hx, rfl⟩ entry_list_sort (list_sort_treeKAny strKind_oneLt hx sv.keysOf (fun v₁ v₂ rest e => keyKind_strs (by rw [← e]; exact sv)) small fun st hp hs => ?_) (args_list_sort _)))
  obtain ⟨ys, y1, y2, y3⟩ := sorted_out_str sv hp hs
  obtain ⟨c, hc⟩ := sortedHeap_at (vs := vs) (out := (arrOf st).map (·.2)) hx
  refine ⟨_, rfl, wpAny_pure ⟨_, rfl, k _ s1.heap.objs.size _ c ys (fun b u e => ?_) g1 o1 z1 hc y1 (y2.trans pl) y3⟩⟩
  have e1 := k1 b u e
  have lt := Heap.lt_size e1
  show (sortedHeap (s1.heap.push (seqObj "list" vs.toArray 0)) _ vs _).get? b = some u
  rw [sortedHeap_old (Nat.ne_of_lt lt) (by rw [size_push']; exact Nat.lt_succ_of_lt lt)]
  exact Heap.get?_push_of_some _ e1
end
/-- the set of texts at a -/
def TxO (P : Program) (w : World) (a : Addr) (l : List Str) : HO := .ext fun h => TxR P w h a l
section
variable {X : Cx}
theorem txO_new {P : Program} {w : World} {H : Hp} {h : Heap} {a : Addr} {l : List Str} (R : TxR P w h a l) : ObjOk P w H h a (TxO P w a l) := by
  obtain ⟨D, ho, _⟩ := id R
  exact ⟨R, ⟨_, ho⟩, fun h1 h2 p k => TxR.at p k⟩
theorem txO_get {pins : List (Addr × Obj)} {σ : L2.St} {H : Hp} {s : Shared} {a : Addr} {l : List Str} (I : Inv X pins σ H s) (ha : H a = some (TxO X.prog X.w a l)) : TxR X.prog X.w s.heap a l := (I.hok a _ ha).1
/-- set(xs), xs a list or a tuple of texts -/
def rSetS (K : PySem.W.Frag) (P : Program) (w : World) : List V → Hp → VK → Prop := fun vs H Q => ∃ (p : Addr) (xs : List Str), vs = [V.ref p] ∧ (SqL K H p (xs.map V.str) ∨ SqT K H p (xs.map V.str)) ∧ xs.length + 1 < scanBound ∧
  ∀ (l : List Str) (q : Addr), l.Nodup → (∀ z, z ∈ l ↔ z ∈ xs) → l.length ≤ xs.length → H q = none → Q (.ref q) (upd H q (TxO P w q l))
theorem cr_setS (hc : X.calm = true) : CallR X (.type "set") (rSetS X.K X.prog X.w) := by
  intro pins s σ H vs us Q I r h
  obtain ⟨p, xs, rfl, hp, hb, k⟩ := h
  rw [Vals.ref1 r]
  have fin : ∀ s2, Made X.prog X.w s xs s2 → EP X pins σ Q (.ref s.heap.objs.size) s2 := fun s2 md => by
    obtain ⟨g, tk, l, rfl, T, m, hl, kp⟩ := md
    have hn : H s.heap.objs.size = none := I.hok.fresh (Nat.le_refl _)
    have nd : l.Nodup := T.elim fun D z => z.2.2.1
    exact ⟨.ref _, upd H s.heap.objs.size (TxO X.prog X.w s.heap.objs.size l), I.laid (t' := tk) kp (Nat.le_refl _) (txO_new T), rfl, k l _ nd m hl hn⟩
  rcases hp with hp | hp
  · obtain ⟨its, rv, pl, _⟩ := I.list hp
    exact call_set_lstS xs (I.ok.hd hc) pl.isList (by simpa using strsAre_of rv) hb fin
  · obtain ⟨its, rv, pl, _⟩ := I.tuple hp
    exact call_set_tupS xs (I.ok.hd hc) pl (by simpa using strsAre_of rv) hb fin
/-- sorted(found) -/
def rSortTx (P : Program) (w : World) : List V → Hp → VK → Prop := fun vs H Q => ∃ (a : Addr) (l : List Str), vs = [V.ref a] ∧ H a = some (TxO P w a l) ∧ l.length < scanBound ∧
  ∀ (ys : List Str) (p : Addr), ys.Perm l → sortedS ys = true → H p = none → Q (.ref p) (upd H p (.lst (ys.map V.str)))
theorem cr_sortTx (hc : X.calm = true) : CallR X (.builtin "sorted") (rSortTx X.prog X.w) := by
  intro pins s σ H vs us Q I r h
  obtain ⟨a, l, rfl, ha, hb, k⟩ := h
  rw [Vals.ref1 r]
  refine sorted_tx (txO_get I ha) (I.ok.hd hc) hb fun s2 p out c ys kp eg eo hp hg hs pm so => ?_
  have hn : H p = none := I.hok.fresh hp
  have len : (ys.map V.str).length ≤ sizeLine := by
    rw [List.length_map, pm.length_eq, sizeLine_eq]
    exact Nat.le_of_lt (Nat.lt_of_lt_of_le hb (by decide))
  obtain ⟨h2, g2, d2, t2, o2⟩ := s2
  simp only at eg eo
  subst eg eo
  exact ⟨.ref p, upd H p (.lst (ys.map V.str)), I.call (ch := []) (Un.laid kp hp hn) (I.hok.laid kp hp ⟨len, out.toList, c, vals_of_strs hs, hg⟩) I.bare (fun _ z => nomatch z), rfl, k ys p pm so hn⟩
end
end Hx
set_option maxHeartbeats 4000000
/-! ### found.extend(t), t a tuple; for x in a list or a tuple -/
namespace Hx
open PySem PySem.Spec PyProof.Rows L2
set_option maxRecDepth 8000 in
theorem ext_tup (p : Addr) (xs : Array Value) (k : Nat) (t : Addr) (ys : Array Value) (m : Nat) (dc : Option Addr) (sl : Array (Option Value)) (h0 : ¬(!xs.isEmpty && Builtin.List.listTooLong (xs.size + ys.size)) = true) (h1 : xs.size ≤ sizeLine) (h2 : xs.size + ys.size ≤ sizeLine + 1) :
    Meets (Builtin.«list.extend» ⟨[.ref p, .ref t], []⟩) (fun _ R s => s.heap.get? p = some { cls := .type "list", dict := none, data := .seq xs k, slots := #[] } ∧ s.heap.get? t = some { cls := .type "tuple", dict := dc, data := .seq ys m, slots := sl } ∧ R (.ok (.ret .none)) { s with heap := s.heap.update p (Obj.mapSeq fun x => x ++ ys), toks := s.toks }) :=
  .of_wp fun prog w A R s h => by
    obtain ⟨hp, g, d, tk, os⟩ := s
    obtain ⟨ep, et, h⟩ := h
    have f2 := AutoSeq1.sub_tuple_tuple
    have f3 := AutoSeq1.sub_list_list
    have f4 := AutoSeq1.sub_tuple_list
    have f5 := AutoSeq1.sub_list_tuple
    have fz : (xs ++ ys).size ≤ sizeLine + 1 := by rw [Array.size_append]; exact h2
    wp_walk using (wpAny_updateSeq ep rfl (hz := h1) (_hz' := fz)), AutoSeq1.wpAny_loadPart' ep, AutoSeq1.wpAny_loadPart' et
    exact ⟨_, rfl, h⟩
section
variable {X : Cx}
def rExtT (K : PySem.W.Frag) : V → List V → Hp → VK → Prop := fun x vs H Q => ∃ l b xs zs, x = .ref l ∧ vs = [.ref b] ∧ H l = some (.lst xs) ∧ SqT K H b zs ∧ xs.length + zs.length ≤ sizeLine ∧ Q .non (upd H l (.lst (xs ++ zs)))
theorem mt_extT : MtM X "list.extend" (rExtT X.K) := by
  intro pins s σ H x vs v us Q I rx rv h
  obtain ⟨l, b, xs, zs, rfl, rfl, hl, hb, hz, q⟩ := h
  cases rx
  obtain ⟨u, rfl, ru⟩ := rv.one
  cases ru
  obtain ⟨zl, its, n, r, el, e⟩ := I.lstM hl
  obtain ⟨jts, r2, ⟨⟨cl, dc, da, sl⟩, e2, ec, n2, ed⟩, _⟩ := I.tuple hb
  simp only at ec ed
  subst ec ed
  have l2 : jts.length = zs.length := r2.length.symm
  have sz : its.toArray.size + jts.toArray.size ≤ sizeLine := by rw [List.size_toArray, List.size_toArray]; omega
  have nl : ¬ (!its.toArray.isEmpty && Builtin.List.listTooLong (its.toArray.size + jts.toArray.size)) = true := by
    rw [notLongL sz, Bool.and_false]
    exact Bool.false_ne_true
  refine call_meets F.slot_list_extend ⟨_, e, rfl⟩ F.entry_list_extend (F.args_list_extend_2 _ _) (ext_tup l its.toArray n b jts.toArray n2 dc sl nl (by rw [List.size_toArray]; omega) (by omega)) ⟨e, e2, ?_⟩
  refine ⟨.non, _, I.lset (its' := its ++ jts) hl e (by simp) (r.append r2) ?_, rfl, q⟩
  rw [List.length_append]
  omega
variable {tg : Expr}
/-- a list or a tuple, walked -/
def iSeq (K : PySem.W.Frag) (tl : TE) : TI := fun σ H R => tl σ H fun x H1 => ∃ a xs, x = .ref a ∧ ((SqL K H1 a xs ∧ R (Itl K a) H1) ∨ (SqT K H1 a xs ∧ R (Itt K a) H1))
theorem pi_seq {l : Expr} {tl : TE} (hl : PE X l tl) : PI X tg l (iSeq X.K tl) := by
  refine ⟨fun pins s σ H R I h => ?_⟩
  refine thn (hl.run pins s σ H _ I h) fun v s1 ⟨x, H1, I1, r1, q1⟩ => ?_
  obtain ⟨a, xs, e, q⟩ := q1
  subst e
  cases r1
  have off : ∀ b, b ∈ [s1.heap.objs.size] → ∀ i : Nat, b = s1.heap.objs.size := fun b hb _ => by simpa using hb
  rcases q with ⟨hq, q⟩ | ⟨hq, q⟩
  · obtain ⟨its, rv, p, hz⟩ := I1.list hq
    refine wpAny_pyIter_list p.isList ⟨s1.heap.objs.size, [s1.heap.objs.size], _, _, H1, rfl, I1.kept (t' := s1.toks) fun b o e => Heap.get?_push_of_some _ e, turn_list a _, ⟨_, Heap.get?_push_size _ rfl, rfl, rfl⟩, fun b hb => ?_, q⟩
    rw [off b hb 0]
    exact I1.fpOk (Nat.le_refl _) (I1.hok.fresh (Nat.le_refl _))
  · obtain ⟨its, rv, p, hz⟩ := I1.tuple hq
    refine wpAny_pyIter_tuple (show s1.heap.IsTuple a its.toArray from p) ⟨s1.heap.objs.size, [s1.heap.objs.size], _, _, H1, rfl, I1.kept (t' := s1.toks) fun b o e => Heap.get?_push_of_some _ e, turn_tuple a _, ⟨_, Heap.get?_push_size _ rfl, rfl, rfl⟩, fun b hb => ?_, q⟩
    rw [off b hb 0]
    exact I1.fpOk (Nat.le_refl _) (I1.hok.fresh (Nat.le_refl _))
end
end Hx
set_option maxHeartbeats 1000000
/-! ### [1 for x in xs if t], held against [] -/
namespace Hx
open PySem PySem.Spec PyProof.Rows L2
section
variable {J : It} {n : Nat} {g : TG} {tt : TT} {vs : List Nat} {σ : L2.St} {H1 : Hp} {D : Addr} {Qd : Hp → Prop}
theorem lc_ones (f : Nat → Bool) (hn : H1 D = none) (hsz : n < sizeLine) (go : ∀ i H, i < n → Same H1 H → J.go i H) (stop : ∀ H, Same H1 H → J.stop n H)
    (turn : ∀ (i : Nat) (x : V) (H H' : Hp) (F : Bool → Hp → Prop), i < n → Same H1 H → J.yld i H x H' → (∀ H4, Same H H4 → F (f i) H4) → g x (wipe σ vs) H' fun σ2 H2 => wipe σ2 vs = wipe σ vs ∧ tt σ2 H2 F)
    (hd : ∀ c H, Same H1 H → H D = some (.lst (List.replicate c (.int 1))) → c ≤ n → (c = 0 ↔ ∀ i, i < n → f i = false) → Qd H) : LcGoal J g tt (tC (.int 1)) vs σ H1 D Qd := by
  have s1 : ∀ {H : Hp} {o : HO}, Same H1 H → Same H1 (upd H D o) := fun s b u e => by rw [upd_ne (ne_of_none e hn)]; exact s b u e
  refine lc_any (fun i H => ∃ c, Same H1 H ∧ H D = some (.lst (List.replicate c (.int 1))) ∧ c ≤ i ∧ (c = 0 ↔ ∀ j, j < i → f j = false)) ⟨0, s1 (Same.refl H1), upd_same, Nat.le_refl _, ⟨fun _ j hj => by omega, fun _ => rfl⟩⟩ (fun i H hi ⟨_, s, _⟩ => go i H hi s) (fun H ⟨_, s, _⟩ => stop H s) ?_ fun H ⟨c, s, e, l, k⟩ => hd c H s e l k
  rintro i x H H' hi ⟨c, s, e, l, k⟩ y
  have q := turn i x H H' (fun b H3 => if b = true then ∃ acc, H3 D = some (.lst acc) ∧ acc.length < sizeLine ∧ ∃ c, Same H1 (upd H3 D (.lst (acc ++ [.int 1]))) ∧ (upd H3 D (.lst (acc ++ [.int 1]))) D = some (.lst (List.replicate c (.int 1))) ∧ c ≤ i + 1 ∧ (c = 0 ↔ ∀ j, j < i + 1 → f j = false)
    else ∃ c, Same H1 H3 ∧ H3 D = some (.lst (List.replicate c (.int 1))) ∧ c ≤ i + 1 ∧ (c = 0 ↔ ∀ j, j < i + 1 → f j = false)) hi s y fun H4 s4 => ?_
  · exact q
  have e4 := s4 _ _ e
  cases hf : f i with
  | true =>
    rw [if_pos rfl]
    refine ⟨_, e4, by rw [List.length_replicate]; omega, c + 1, s1 (s.trans s4), ?_, by omega, ⟨fun z => by omega, fun z => by rw [z i (by omega)] at hf; cases hf⟩⟩
    rw [upd_same, List.replicate_succ']
  | false =>
    rw [if_neg (by decide)]
    refine ⟨c, s.trans s4, e4, by omega, ?_⟩
    rw [k]
    exact ⟨fun z j hj => by
      by_cases q : j = i
      · rw [q]; exact hf
      · exact z j (by omega), fun z j hj => z j (by omega)⟩
end
theorem ones_sh (c : Nat) : SeqAt.shaped (.list (List.replicate c (.int 1))) = true := (sh_list (n := 0) fun d hd => by rw [(List.mem_replicate.mp hd).2]; exact sh_int 1).shaped (by decide)
theorem nil_sh : SeqAt.shaped (.list []) = true := (sh_list (n := 0) fun d hd => by simp at hd).shaped (by decide)
theorem ones_dp {K : PySem.W.Frag} {H : Hp} {D : Addr} {c : Nat} (e : H D = some (.lst (List.replicate c (.int 1)))) : Dp K H (.ref D) (.list (List.replicate c (.int 1))) := by
  have q := dpAll_ints (K := K) (H := H) (List.replicate c 1)
  rw [List.map_replicate, List.map_replicate] at q
  exact .lst (SqL.of e) q
theorem ones_nil (c : Nat) : PyData.eqv (.list (List.replicate c (.int 1))) (.list []) = decide (c = 0) := by
  rw [eqv_nil]
  cases c <;> simp
/-- .. != [] -/
theorem ones_ne {K : PySem.W.Frag} {H : Hp} {D : Addr} {c : Nat} {Q : VK} (e : H D = some (.lst (List.replicate c (.int 1)))) (k : ∀ H', Same H H' → Q (.bl (!decide (c = 0))) H') :
    ([] : List V).length ≤ sizeLine ∧ ∀ p, H p = none → rNeD K (.ref D) (.ref p) (upd H p (.lst [])) Q := by
  refine ⟨by simp, fun p hp => ?_⟩
  have s : Same H (upd H p (.lst [])) := fun b u q => by rw [upd_ne (ne_of_none q hp)]; exact q
  refine ⟨_, .list [], ones_dp (s _ _ e), .lst (SqL.of upd_same) .nil, ones_sh c, nil_sh, ?_⟩
  rw [ones_nil]
  exact k _ s
/-- .. == [] -/
theorem ones_eq {K : PySem.W.Frag} {H : Hp} {D : Addr} {c : Nat} {Q : VK} (e : H D = some (.lst (List.replicate c (.int 1)))) (k : ∀ H', Same H H' → Q (.bl (decide (c = 0))) H') :
    ([] : List V).length ≤ sizeLine ∧ ∀ p, H p = none → rEqD K (.ref D) (.ref p) (upd H p (.lst [])) Q := by
  refine ⟨by simp, fun p hp => ?_⟩
  have s : Same H (upd H p (.lst [])) := fun b u q => by rw [upd_ne (ne_of_none q hp)]; exact q
  refine ⟨_, .list [], ones_dp (s _ _ e), .lst (SqL.of upd_same) .nil, ones_sh c, nil_sh, ?_⟩
  rw [ones_nil]
  exact k _ s
end Hx
set_option maxHeartbeats 1000000
/-! ### sorted(list of texts), any size -/
namespace Hx
open PySem PySem.Spec PyProof.Rows L2
section
variable {X : Cx}
def rSrtS (K : PySem.W.Frag) : List V → Hp → VK → Prop := fun vs H Q => ∃ (a : Addr) (xs : List Str), vs = [V.ref a] ∧ SqL K H a (xs.map V.str) ∧ xs.length ≤ sizeLine ∧
  ∀ (ys : List Str) (p : Addr), ys.Perm xs → sortedS ys = true → H p = none → Q (.ref p) (upd H p (.lst (ys.map V.str)))
theorem cr_srtS : CallR X (.builtin "sorted") (rSrtS X.K) := by
  intro pins s σ H vs us Q I r h
  obtain ⟨a, xs, rfl, hs, hz, q⟩ := h
  obtain ⟨its, rv, hl, _⟩ := I.list hs
  rw [Vals.ref1 r]
  have le := rv.length
  rw [List.length_map] at le
  refine PyProof.Rows.sorted_strsAny hl.isList rv.strs (by rw [← le]; exact hz) fun out ys y1 y2 y3 => ?_
  obtain ⟨c, hc⟩ := PyProof.Rows.sortedAll_at s.heap its out
  have hz2 : (ys.map V.str).length ≤ sizeLine := by rw [List.length_map, y2.length_eq]; exact hz
  exact ⟨.ref _, upd H (s.heap.objs.size + 1) (.lst (ys.map V.str)), I.laid (t' := s.toks) (fun _ _ => PyProof.Rows.sortedAll_old) (Nat.le_succ _) ⟨hz2, out.toList, c, vals_of_strs y1, hc⟩, rfl, q ys _ y2 y3 (I.hok.fresh (Nat.le_succ _))⟩
end
theorem inV_strs {z : Str} : ∀ fs : List Str, inV (.str z) (fs.map V.str) = decide (z ∈ fs)
  | [] => by simp [inV]
  | f :: fs => by
    have ih := inV_strs (z := z) fs
    have e : inV (.str z) ((f :: fs).map V.str) = ((f == z) || inV (.str z) (fs.map V.str)) := rfl
    rw [e, ih]
    by_cases h : f = z
    · subst h; simp
    · have h2 : ¬ z = f := fun q => h q.symm
      simp [h, h2]
theorem flat_strs (fs : List Str) : (fs.map V.str).all flatV = true := by
  rw [List.all_eq_true]
  intro v hv
  obtain ⟨x, _, rfl⟩ := List.mem_map.mp hv
  rfl
end Hx
set_option maxHeartbeats 1000000
/-! ### min and max of a list of two texts -/
namespace Hx
open PySem PySem.Spec PyProof.Rows L2
section
variable {X : Cx}
def lessS (x y : Str) : Bool := decide (x.cps.toList < y.cps.toList)
def minS (x y : Str) : Str := if lessS y x then y else x
def maxS (x y : Str) : Str := if lessS x y then y else x
def rTwo (K : PySem.W.Frag) (f : Str → Str → Str) : List V → Hp → VK → Prop := fun vs H Q => ∃ (a : Addr) (x y : Str), vs = [V.ref a] ∧ SqL K H a [.str x, .str y] ∧ Q (.str (f x y)) H
theorem str_of_reads {h : Heap} {v : Value} {m : Str} {bs : List Addr} (r : Reads h v (.str m) bs) : ∃ t, v = .str m t := by
  cases r
  exact ⟨_, rfl⟩
theorem two_alike (x y : Str) : PySem.W.AlikeAll [.str x, .str y] := by
  refine ⟨fun a ha b hb => ?_, fun a ha => ?_⟩
  · simp at ha hb
    rcases ha with e | e <;> rcases hb with e2 | e2 <;> rw [e, e2] <;> rfl
  · simp at ha
    rcases ha with e | e <;> rw [e] <;> simp
theorem two_depth {A : Around} (x y : Str) (hu : A.units + 64 < cLine) : A.units + 1 + PyData.depthAll [.str x, .str y] < cLine := by
  have e : PyData.depthAll [.str x, .str y] = 0 := by simp [PyData.depthAll, PyData.depth]
  rw [e]
  omega
theorem cr_min2S (hc : X.calm = true) (hu : X.A.units + 64 < cLine) : CallR X (.builtin "min") (rTwo X.K minS) := by
  intro pins s σ H vs us Q I r h
  obtain ⟨a, x, y, rfl, hs, q⟩ := h
  obtain ⟨its, rv, pl, _⟩ := I.list hs
  rw [Vals.ref1 r]
  obtain ⟨as, ra⟩ := Dp.readsAll I [.str x, .str y] [.str x, .str y] its (.cons (.str x) (.cons (.str y) .nil)) rv
  refine PySem.W.min_list_data (vs := its.toArray) (I.ok.hd hc) pl.isList ra (two_alike x y) (two_depth x y hu) fun i v h' tk bs _ rd k => ?_
  have e : PySem.W.minD (.str x) [.str y] = .str (minS x y) := by
    show (if PySem.W.dataLt (.str y) (.str x) then PyData.str y else PyData.str x) = _
    rw [PySem.W.dataLt_str]
    unfold minS lessS
    split <;> rfl
  rw [e] at rd
  obtain ⟨t, rfl⟩ := str_of_reads rd
  exact ⟨.str _, H, I.kept (t' := tk) k, ⟨t, rfl⟩, q⟩
theorem cr_max2S (hc : X.calm = true) (hu : X.A.units + 64 < cLine) : CallR X (.builtin "max") (rTwo X.K maxS) := by
  intro pins s σ H vs us Q I r h
  obtain ⟨a, x, y, rfl, hs, q⟩ := h
  obtain ⟨its, rv, pl, _⟩ := I.list hs
  rw [Vals.ref1 r]
  obtain ⟨as, ra⟩ := Dp.readsAll I [.str x, .str y] [.str x, .str y] its (.cons (.str x) (.cons (.str y) .nil)) rv
  refine PySem.W.max_list_data (vs := its.toArray) (I.ok.hd hc) pl.isList ra (two_alike x y) (two_depth x y hu) fun i v h' tk bs _ rd k => ?_
  have e : PySem.W.maxD (.str x) [.str y] = .str (maxS x y) := by
    show (if PySem.W.dataLt (.str x) (.str y) then PyData.str y else PyData.str x) = _
    rw [PySem.W.dataLt_str]
    unfold maxS lessS
    split <;> rfl
  rw [e] at rd
  obtain ⟨t, rfl⟩ := str_of_reads rd
  exact ⟨.str _, H, I.kept (t' := tk) k, ⟨t, rfl⟩, q⟩
end
end Hx
set_option maxHeartbeats 1000000
/-! ### a text times a whole -/
namespace Hx
open PySem PySem.Spec PyProof.Rows L2
section
variable {X : Cx}
def mulS (x : Str) (n : Nat) : Str := ⟨(List.replicate n x.cps).foldl (· ++ ·) #[]⟩
theorem joined_size (z : Array Nat) : ∀ (n : Nat) (a : Array Nat), ((List.replicate n z).foldl (· ++ ·) a).size = a.size + n * z.size
  | 0, a => by simp
  | n + 1, a => by
    rw [List.replicate_succ, List.foldl_cons, joined_size z n (a ++ z), Array.size_append, Nat.succ_mul]
    omega
theorem mulS_length (x : Str) (n : Nat) : (mulS x n).length = n * x.length := by
  unfold mulS Str.length
  rw [joined_size]
  simp
theorem joined_toList (z : Array Nat) : ∀ (n : Nat) (a : Array Nat), ((List.replicate n z).foldl (· ++ ·) a).toList = a.toList ++ (List.replicate n z.toList).flatten
  | 0, a => by simp
  | n + 1, a => by
    rw [List.replicate_succ, List.foldl_cons, joined_toList z n (a ++ z), Array.toList_append, List.replicate_succ, List.flatten_cons, List.append_assoc]
theorem mulS_toList (x : Str) (n : Nat) : (mulS x n).cps.toList = (List.replicate n x.cps.toList).flatten := by
  unfold mulS
  rw [joined_toList]
  simp
/-- one sign, n times -/
theorem mulS_one (c n : Nat) : (mulS ⟨#[c]⟩ n).cps.toList = List.replicate n c := by
  rw [mulS_toList]
  simp
theorem op_mul_str : OpR X (binaryOp .Mult) (fun x y H Q => ∃ i n, x = .str i ∧ y = .int n ∧ 2 ≤ n ∧ n ≤ 4096 ∧ 1 ≤ i.length ∧ i.length ≤ 4096 ∧ Q (.str (mulS i n.toNat)) H) := by
  intro pins s σ H x y v u Q I rx ry h
  obtain ⟨i, n, rfl, rfl, h2, h3, l1, l2, q⟩ := h
  obtain ⟨t, rfl⟩ := rx
  obtain ⟨t', rfl⟩ := ry
  have e1 : ¬ n < 1 := by omega
  have e2 : (n == 1 || i.length == 0) = false := by
    rw [Bool.or_eq_false_iff]
    exact ⟨by simp; omega, by simp; omega⟩
  refine PySem.P.mul_str ?_ (fun _ _ => ?_) (fun _ _ => ?_) ?_
  · rw [Bool.or_eq_false_iff]
    exact ⟨decide_eq_false (by omega), decide_eq_false (by omega)⟩
  · have : (4096 : Int) ≤ (2 ^ 63 - 1) / n := (Int.le_ediv_iff_mul_le (by omega)).mpr (by omega)
    omega
  · have hm : i.length * n.toNat ≤ 4096 * 4096 := Nat.mul_le_mul l2 (by omega)
    unfold Builtin.Str.tooLong sizeLine
    simp
    omega
  · rw [if_neg e1, if_neg (by rw [e2]; decide)]
    refine ⟨?_, .str (mulS i n.toNat), H, I.tok _, ⟨_, rfl⟩, q⟩
    have hm : n.toNat * i.length ≤ 4096 * 4096 := Nat.mul_le_mul (by omega) l2
    have e := mulS_length i n.toNat
    unfold mulS at e
    rw [e]
    unfold sizeLine
    omega
end
end Hx
set_option maxHeartbeats 1000000
/-! ### f(k = v, ..): keywords only -/
namespace Hx
open PySem PySem.Spec PyProof.Rows L2
section
variable {X : Cx} {CX : CXT} {k : Nat} {f : Addr} {fd : FuncData} {ps ks : List Str} {sp : Sp} {E : XK} {x : Str} {p pos : Pos} {kws : List Keyword} {tk : TA} {g : List Value → List Value → List Value} {gV : List V → List V → List V}
theorem pe_callKw (F : FnOk X.prog X.w X.K X.mg X.base CX k f fd ps sp) (hr : Room k X.A) (hg : Gl X x) (hm : X.mg x = some (.ref f)) (hk : PySem.W.keepIn X.K (.ref f) = true) (hb : KBn X.K fd ps 0 ks g gV) (hx : Passes CX X E)
    (hkw : PK X kws tk) (hall : (backToKw pos (keywordEach kws X.env)).all (·.1.isSome) = true := by rfl) (hks : (backToKw pos (keywordEach kws X.env)).filterMap (·.1) = ks := by rfl) (hdb : (x == ("__debug__" : Str)) = false := by decide)
    (hpl : ((backTo pos (starEach [] X.env)).any (·.1) || (backToKw pos (keywordEach kws X.env)).any (·.1.isNone)) = false := by rfl) :
    PE X (.Call (.Name x p) [] kws pos) (fun σ H Q => tk σ H fun zs H2 => zs.length = ks.length ∧ sp (gV [] zs) H2 Q E) := by
  refine ⟨fun pins s σ H Q I h => ?_⟩
  refine wpAny_Call_Name_kw (ld_glob I hg hm ?_ hdb)
  refine PySem.W.callWith_KW0 (h₀ := X.base) I.ok.mod.kin hk hall ?_ hpl
  refine thn (hkw.run pos pins s σ H _ I h) fun ws s2 ⟨zs, H2, I2, rz, l2, q2⟩ => ⟨I2.kIn, ?_⟩
  rw [hks]
  exact run_fnN (us := []) (vs := []) F hr hb hx I2 .nil rz rfl l2 q2
/-- one parameter, no defaults, called by its name -/
theorem kb_one {K : PySem.W.Frag} {fd : FuncData} {q : Str} (h : ∀ (s : Shared) (u : Value), BindsTo s fd ⟨[], [(q, u)]⟩ [(q, u)]) : KBn K fd [q] 0 [q] (fun _ ws => ws) (fun _ zs => zs) where
  to := fun s us ws X l1 l2 => by
    match ws, l2 with
    | [u], _ =>
      obtain rfl : us = [] := List.length_eq_zero_iff.mp l1
      exact h s u
  rel := fun _ r => r
end
end Hx
set_option maxHeartbeats 4000000
namespace K12
open PySem PySem.Spec PyProof.Rows L2
/-! the text by places -/
def top (i : Nat) : Stmt := PySem.Challenge.pw_behindtaps_k12_texts_of_nets_there_and_b.main.body.getD i (.Pass ⟨0, 0, 0, 0⟩)
abbrev sBadText_init : Stmt := inClass (top 4) 0
abbrev sis_name : Stmt := top 11
abbrev sare_names : Stmt := top 12
abbrev sare_taps : Stmt := top 13
abbrev sis_whole : Stmt := top 17
abbrev sis_number : Stmt := top 18
abbrev sis_number_from_0 : Stmt := top 19
abbrev stop_of : Stmt := top 20
abbrev snumber_text : Stmt := top 21
abbrev sread_number : Stmt := top 22
abbrev sread_whole : Stmt := top 23
abbrev sis_net : Stmt := top 27
abbrev sis_part : Stmt := top 28
abbrev splaces_of_part : Stmt := top 29
abbrev splaces_in : Stmt := top 30
abbrev shas_kind : Stmt := top 31
abbrev smixes_leads_and_hubs : Stmt := top 32
abbrev scheck_net : Stmt := top 33
abbrev snet_text : Stmt := top 35
abbrev sread_net : Stmt := top 36
abbrev sread_taps_line : Stmt := top 37
abbrev sread_part_line : Stmt := top 38
abbrev sfits_behind : Stmt := top 39
abbrev sL_begun : Stmt := top 41
abbrev sL_blended : Stmt := top 42
abbrev sL_draw : Stmt := top 43
abbrev sL_pick : Stmt := top 44
abbrev sL_shuffled : Stmt := top 45
abbrev sL_caught : Stmt := top 46
abbrev sL_ct_gcd : Stmt := top 47
abbrev sL_ct_made : Stmt := top 48
abbrev sL_ct_top : Stmt := top 49
abbrev sL_ct_low : Stmt := top 50
abbrev sL_ct_less : Stmt := top 51
abbrev sL_ct_is_number : Stmt := top 52
abbrev sL_ct_number : Stmt := top 53
abbrev sL_ct_taps : Stmt := top 54
abbrev sL_ct_part : Stmt := top 55
abbrev sL_ct_net : Stmt := top 56
abbrev sL_an_every : Stmt := top 57
abbrev sL_an_ends : Stmt := top 58
abbrev sL_an_width : Stmt := top 59
abbrev sL_an_net : Stmt := top 60
abbrev sL_an_drawn : Stmt := top 61
abbrev sL_an_is_word : Stmt := top 62
abbrev sL_an_rising : Stmt := top 63
abbrev sL_an_is_wide : Stmt := top 64
abbrev sL_an_is_part : Stmt := top 65
abbrev sL_an_is_net : Stmt := top 66
abbrev sL_an_number_words : Stmt := top 67
abbrev sL_an_written : Stmt := top 68
abbrev sL_an_digits : Stmt := top 69
abbrev sL_an_read_number : Stmt := top 70
abbrev sL_an_read_part : Stmt := top 71
abbrev sL_an_read : Stmt := top 72
abbrev sL_an_near_text : Stmt := top 73
abbrev slaw : Stmt := top 74
/-! a def of the text, where the top left it; its promise -/
abbrev FnD (K : PySem.W.Frag) (x : Str) (st : Stmt) (f : Addr) (fd : FuncData) : Prop := FunD K x x (defArgs st) (defBody st) (defScope st) [] [] f fd
def Dn (K : PySem.W.Frag) (mg : Str → Option Value) (x : Str) (st : Stmt) : Prop := ∃ f fd, mg x = some (.ref f) ∧ FnD K x st f fd
structure Ok (P : Program) (w : World) (K : PySem.W.Frag) (mg : Str → Option Value) (base : Heap) (CX : CXT) (k : Nat) (x : Str) (ps : List Str) (sp : Sp) : Prop where
  ex : ∃ f fd, mg x = some (.ref f) ∧ PySem.W.keepIn K (.ref f) = true ∧ Binds K fd ps [] ∧ FnOk P w K mg base CX k f fd ps sp
section
variable {P : Program} {w : World} {K : PySem.W.Frag} {mg : Str → Option Value} {base : Heap}
/-- the rule for a def that lets nothing out -/
theorem Ok.mk0 {x : Str} {st : Stmt} {N ps : List Str} {k : Nat} {sp : Sp} (D : Dn K mg x st) (S : FnScope N ps (defScope st)) (len : ∀ vs H Q E, sp vs H Q E → vs.length = ps.length)
    (hb : ∀ (kV doc pm : Value) (an : Option Addr) (cdv ct : Value) (us : List Value), us.length = ps.length → bindArgs (PySem.W.fnOf x x (defArgs st) (defBody st) (defScope st) .none kV doc pm an cdv ct) ⟨us, []⟩ = pure (ps.zip us))
    (hbody : ∀ (f : Addr) (cdv : Value) (A : Around) (outer : List Env) (s : Shared) (H : Hp) (vs : List V) (Q : VK) (E : XK), Room k (A.deeper (envOfC x (defScope st) s.heap.objs.size f cdv)) → sp vs H Q E →
      ∃ t, PSs (cxOf L2.CX0 P w K mg base N x (defScope st) f cdv A outer s H E).nox (defBody st) t ∧ t { nx := fun _ H' => Q .non H', rt := Q } (L2.start N vs) H) : Ok P w K mg base L2.CX0 (k + 1) x ps sp := by
  obtain ⟨f, fd, g, F⟩ := D
  refine ⟨f, fd, g, F.kp, F.bindsN hb, F.ok S len fun cdv A outer s H vs Q E hr h => ?_⟩
  obtain ⟨t, ht, q⟩ := hbody f cdv A outer s H vs Q E hr h
  exact ⟨t, ht.nox, q⟩
/-- the same of a def that may raise -/
theorem Ok.mkX {x : Str} {st : Stmt} {N ps : List Str} {k : Nat} {sp : Sp} (D : Dn K mg x st) (S : FnScope N ps (defScope st)) (len : ∀ vs H Q E, sp vs H Q E → vs.length = ps.length)
    (hb : ∀ (kV doc pm : Value) (an : Option Addr) (cdv ct : Value) (us : List Value), us.length = ps.length → bindArgs (PySem.W.fnOf x x (defArgs st) (defBody st) (defScope st) .none kV doc pm an cdv ct) ⟨us, []⟩ = pure (ps.zip us))
    (hbody : ∀ (f : Addr) (cdv : Value) (A : Around) (outer : List Env) (s : Shared) (H : Hp) (vs : List V) (Q : VK) (E : XK), Room k (A.deeper (envOfC x (defScope st) s.heap.objs.size f cdv)) → sp vs H Q E →
      ∃ t, PSs (cxOf (L2.CX P w) P w K mg base N x (defScope st) f cdv A outer s H E) (defBody st) t ∧ t { nx := fun _ H' => Q .non H', rt := Q } (L2.start N vs) H) : Ok P w K mg base (L2.CX P w) (k + 1) x ps sp := by
  obtain ⟨f, fd, g, F⟩ := D
  exact ⟨f, fd, g, F.kp, F.bindsN hb, F.ok S len fun cdv A outer s H vs Q E hr h => hbody f cdv A outer s H vs Q E hr h⟩
end
end K12
set_option maxHeartbeats 4000000
namespace K12
open PySem PySem.Spec PyProof.Rows L2 Hx
theorem fmod_in (a : Int) {p : Int} (h : 0 < p) : 0 ≤ a.fmod p ∧ a.fmod p < p := by
  rw [Int.fmod_eq_emod_of_nonneg a (by omega)]
  exact ⟨Int.emod_nonneg _ (by omega), Int.emod_lt_of_pos _ h⟩
/-! ### the law's draws: its state -/
def kvS (g c : Addr) (r t : Int) : List (Key × V) := [(.inr "great", .ref g), (.inr "cells", .ref c), (.inr "rest", .int r), (.inr "turn", .int t)]
theorem kvS_great {g c : Addr} {r t : Int} : valV (kvS g c r t) (.inr "great") = some (.ref g) := rfl
theorem kvS_cells {g c : Addr} {r t : Int} : valV (kvS g c r t) (.inr "cells") = some (.ref c) := by
  have n1 : ¬ ((Sum.inr "great" : Key) = .inr "cells") := by decide
  unfold kvS
  rw [valV_neg n1, valV_pos rfl]
theorem kvS_rest {g c : Addr} {r t : Int} : valV (kvS g c r t) (.inr "rest") = some (.int r) := by
  have n1 : ¬ ((Sum.inr "great" : Key) = .inr "rest") := by decide
  have n2 : ¬ ((Sum.inr "cells" : Key) = .inr "rest") := by decide
  unfold kvS
  rw [valV_neg n1, valV_neg n2, valV_pos rfl]
theorem kvS_turn {g c : Addr} {r t : Int} : valV (kvS g c r t) (.inr "turn") = some (.int t) := by
  have n1 : ¬ ((Sum.inr "great" : Key) = .inr "turn") := by decide
  have n2 : ¬ ((Sum.inr "cells" : Key) = .inr "turn") := by decide
  have n3 : ¬ ((Sum.inr "rest" : Key) = .inr "turn") := by decide
  unfold kvS
  rw [valV_neg n1, valV_neg n2, valV_neg n3, valV_pos rfl]
theorem kvS_putR {g c : Addr} {r t z : Int} : putK (kvS g c r t) (.inr "rest") (.int z) = kvS g c z t := by
  have e1 : ¬ ((Sum.inr "great" : Key) = .inr "rest") := by decide
  have e2 : ¬ ((Sum.inr "cells" : Key) = .inr "rest") := by decide
  have e3 : ¬ ((Sum.inr "turn" : Key) = .inr "rest") := by decide
  simp [putK, kvS, e1, e2, e3]
theorem kvS_putT {g c : Addr} {r t z : Int} : putK (kvS g c r t) (.inr "turn") (.int z) = kvS g c r z := by
  have e1 : ¬ ((Sum.inr "great" : Key) = .inr "turn") := by decide
  have e2 : ¬ ((Sum.inr "cells" : Key) = .inr "turn") := by decide
  have e3 : ¬ ((Sum.inr "rest" : Key) = .inr "turn") := by decide
  simp [putK, kvS, e1, e2, e3]
/-- the state at d, its great ones at g; n draws are still let -/
def St (H : Hp) (d g c : Addr) (n : Nat) : Prop := ∃ (gs cs : List Int) (r t : Int), H d = some (.dK (kvS g c r t)) ∧ H g = some (.lst (gs.map V.int)) ∧ H c = some (.lst (cs.map V.int)) ∧ c ≠ g ∧ cs.length ≤ 63 ∧ 0 ≤ t ∧ t + n ≤ 1000000000
theorem sget {H1 : Hp} {d : Addr} {x : Str} {v : V} {g c : Addr} {r t : Int} (e : H1 d = some (.dK (kvS g c r t))) (q : valV (kvS g c r t) (.inr x) = some v) : DGet H1 d (.str x) (some v) := by
  have z := DGet.k (k := Sum.inr x) e
  rw [q] at z
  exact z
theorem St.less {H : Hp} {d g c : Addr} {n m : Nat} (h : St H d g c n) (l : m ≤ n) : St H d g c m := by
  obtain ⟨gs, cs, r, t, h1, h2, h3, h4, h5, h6, h7⟩ := h
  exact ⟨gs, cs, r, t, h1, h2, h3, h4, h5, h6, by omega⟩
theorem St.same {H H' : Hp} {d g c : Addr} {n : Nat} (h : St H d g c n) (e : Same H H') : St H' d g c n := by
  obtain ⟨gs, cs, r, t, h1, h2, h3, h4, h5, h6, h7⟩ := h
  exact ⟨gs, cs, r, t, e _ _ h1, e _ _ h2, e _ _ h3, h4, h5, h6, h7⟩
theorem St.ne {H : Hp} {d g c : Addr} {n : Nat} (h : St H d g c n) : d ≠ g := by
  obtain ⟨gs, cs, r, t, h1, h2, h3, h4, h5, h6, h7⟩ := h
  exact ne_of h1 h2 (by intro z; cases z)
/-- all but the state's two objects is kept -/
def Kp (d g : Addr) (H H' : Hp) : Prop := ∀ b o, H b = some o → b ≠ d → b ≠ g → H' b = some o
theorem Kp.refl {d g : Addr} (H : Hp) : Kp d g H H := fun _ _ h _ _ => h
theorem Kp.trans {d g : Addr} {H H1 H2 : Hp} (a : Kp d g H H1) (b : Kp d g H1 H2) : Kp d g H H2 := fun c o h n m => b c o (a c o h n m) n m
theorem Kp.of {d g : Addr} {H H' : Hp} (e : Same H H') : Kp d g H H' := fun b o h _ _ => e b o h
section
variable {P : Program} {w : World} {K : PySem.W.Frag} {mg : Str → Option Value} {base : Heap}
/-! blended -/
def spBlended : Sp := fun vs H Q _ => ∃ (d g c : Addr) (n : Nat), vs = [.ref d] ∧ St H d g c (n + 1) ∧ ∀ (z : Int) H', St H' d g c n → Kp d g H H' → Q (.int z) H'
theorem sc_blended : FnScope ["state", "turn", "found", "prime", "blend", "cell"] ["state"] (defScope sL_blended) := ⟨rfl, rfl, rfl, by decide +kernel, rfl, by decide +kernel, by decide +kernel⟩
theorem ok_blended (D : Dn K mg "_law_blended" sL_blended) (h_int : mg "int" = none) : Ok P w K mg base L2.CX0 1 "_law_blended" ["state"] spBlended := by
  refine Ok.mk0 D sc_blended (fun vs H Q E h => ?_) (fun _ _ _ _ _ _ us hl => match us, hl with | [_], _ => rfl) (fun f cdv A outer s H vs Q E hr h => ?_)
  · obtain ⟨d, g, c, n, rfl, _⟩ := h
    rfl
  obtain ⟨d, g, c, n, rfl, hS, k⟩ := h
  have hu := hu_of hr
  have nd := sc_blended.nd
  obtain ⟨gs, cs, r, t, h1, h2, h3, h4, h5, h6, h7⟩ := hS
  have ndg : d ≠ g := ne_of h1 h2 (by intro z; cases z)
  have ndc : d ≠ c := ne_of h1 h3 (by intro z; cases z)
  refine ⟨_, (pss_cons (ps_par (i := 1) (j := 2) (by rfl) nd rfl rfl (by decide) rfl rfl (pa_cons (pe_op op_add (pe_dget hu (pv 0) pe_str (fun _ _ => rfl)) pe_int) (pa_cons pe_int pa_nil)) (by rfl))
    (pss_cons (ps_dput hu (pv 0) pe_str (pv 1) rfl)
    (pss_cons (ps_for PassesOwn.never rfl (pi_list (pe_lst (pa_cons pe_int (pa_cons pe_int (pa_cons pe_int pa_nil))))) (pg_name (i := 3) nd rfl (Or.inl rfl))
      (pss_cons (ps_set (i := 4) nd rfl (Or.inl rfl) (pe_op op_add (pe_op op_mul pe_int (pv 1)) (pe_op op_fdivN (pv 3) pe_int)))
      (pss_cons (ps_for PassesOwn.never rfl (pi_list (pe_dget hu (pv 0) pe_str (fun _ _ => rfl))) (pg_name (i := 5) nd rfl (Or.inl rfl))
        (pss_one (ps_set (i := 4) nd rfl (Or.inl rfl) (pe_op op_modN (pe_callTy call_int1 (by rfl) h_int (by decide +kernel) (pa_cons (pe_op op_add (pe_op op_add (pe_op op_mul (pv 4) pe_int) (pv 5)) (pv 1)) pa_nil)) (pv 3)))))
      (pss_one (ps_set (i := 2) nd rfl (Or.inl rfl) (pe_op op_add (pe_op op_mul (pv 2) pe_int) (pe_op op_modN (pe_callTy call_int1 (by rfl) h_int (by decide +kernel) (pa_cons (pe_op op_pow (pv 4) pe_int) pa_nil)) (pv 3))))))))
    (pss_one (ps_ret (pv 2)))))), ?_⟩
  -- turn, found
  refine ⟨.ref d, rfl, d, _, rfl, sget h1 kvS_turn, _, _, rfl, rfl, _, _, rfl, ?_⟩
  -- state['turn'] = turn
  refine ⟨_, rfl, _, rfl, d, _, rfl, DPut.k (k := Sum.inr "turn") h1 (by show 4 < sizeLine; decide), ?_⟩
  rw [kvS_putT]
  -- the primes
  refine ⟨by show 3 ≤ sizeLine; decide, fun l hl => ?_⟩
  have nl : ∀ {b o}, (upd H d (.dK (kvS g c r (t + 1)))) b = some o → b ≠ l := fun e => ne_of_none e hl
  have hdl : d ≠ l := nl upd_same
  refine ⟨l, rfl, ⟨_, SqL.of upd_same⟩, for_list (K := K) (a := l) (xs := [.int 2147483579, .int 2147483629, .int 2147483563]) (fun i σ H2 => H2 = upd (upd H d (.dK (kvS g c r (t + 1)))) l (.lst [.int 2147483579, .int 2147483629, .int 2147483563]) ∧
    ∃ (f : Int) (v3 v4 v5 : Option V), σ = [some (.ref d), some (.int (t + 1)), some (.int f), v3, v4, v5]) ⟨rfl, 0, _, _, _, rfl⟩ (fun i σ H2 _ ⟨e, _⟩ => by rw [e]; exact SqL.of upd_same) ?_ ?_⟩
  · rintro i x σ H2 hx ⟨rfl, f, v3, v4, v5, rfl⟩
    obtain ⟨p, rfl, p1, p2⟩ : ∃ p : Int, x = .int p ∧ 2147483563 ≤ p ∧ p ≤ 2147483629 := by
      match i, hx with
      | 0, hx => cases hx; exact ⟨_, rfl, by decide, by decide⟩
      | 1, hx => cases hx; exact ⟨_, rfl, by decide, by decide⟩
      | 2, hx => cases hx; exact ⟨_, rfl, by decide, by decide⟩
    have at1 : (upd (upd H d (.dK (kvS g c r (t + 1)))) l (.lst [.int 2147483579, .int 2147483629, .int 2147483563])) d = some (.dK (kvS g c r (t + 1))) := by rw [upd_ne hdl, upd_same]
    have at2 : (upd (upd H d (.dK (kvS g c r (t + 1)))) l (.lst [.int 2147483579, .int 2147483629, .int 2147483563])) c = some (.lst (cs.map V.int)) := by
      rw [upd_ne (nl (by rw [upd_ne ndc.symm]; exact h3)), upd_ne ndc.symm]
      exact h3
    refine ⟨_, rfl, _, _, rfl, rfl, .inl ⟨by decide, by decide⟩, _, rfl, _, _, rfl, rfl, ⟨by decide, by decide⟩, _, _, rfl, rfl, ?_⟩
    refine ⟨.ref d, rfl, d, _, rfl, sget at1 kvS_cells, c, rfl, ⟨_, SqL.of at2⟩, for_list (K := K) (a := c) (xs := cs.map V.int) (fun i σ H2 => H2 = upd (upd H d (.dK (kvS g c r (t + 1)))) l (.lst [.int 2147483579, .int 2147483629, .int 2147483563]) ∧
      ∃ (b : Int) (v5 : Option V), σ = [some (.ref d), some (.int (t + 1)), some (.int f), some (.int p), some (.int b), v5] ∧ b.natAbs < 2 ^ 64) ⟨rfl, _, _, rfl, ?_⟩ (fun i σ H2 _ ⟨e, _⟩ => by rw [e]; exact SqL.of at2) ?_ ?_⟩
    · show (48271 * (t + 1) + Int.fdiv p 53).natAbs < 2 ^ 64
      rw [Int.fdiv_eq_ediv_of_nonneg _ (by decide)]
      omega
    · rintro j y σ H3 hy ⟨rfl, b, v5, rfl, hb⟩
      obtain ⟨z, rfl⟩ : ∃ z, y = V.int z := by
        rw [List.getElem?_map] at hy
        cases e : cs[j]? with
        | none => rw [e] at hy; cases hy
        | some z => rw [e] at hy; exact ⟨z, (Option.some.inj hy).symm⟩
      refine ⟨_, rfl, _, _, rfl, rfl, .inr ⟨by decide, by decide⟩, _, rfl, _, _, rfl, rfl, _, rfl, _, _, rfl, rfl, .inl ⟨_, rfl, ?_⟩⟩
      refine ⟨_, rfl, _, _, rfl, rfl, by omega, ?_⟩
      refine ⟨rfl, _, _, rfl, ?_⟩
      obtain ⟨q1, q2⟩ := fmod_in (b * 69621 + z + (t + 1)) (show 0 < p by omega)
      omega
    · rintro σ H3 ⟨rfl, b, v5, rfl, hb⟩
      refine ⟨_, rfl, _, _, rfl, rfl, .inr ⟨by decide, by decide⟩, _, rfl, _, _, rfl, rfl, ⟨by decide, by decide, hb⟩, .inl ⟨_, rfl, ?_⟩⟩
      exact ⟨_, rfl, _, _, rfl, rfl, by omega, _, _, rfl, rfl, rfl, _, _, _, _, rfl⟩
  · rintro σ H2 ⟨rfl, f, v3, v4, v5, rfl⟩
    refine ⟨_, rfl, k f _ ⟨gs, cs, r, t + 1, by rw [upd_ne hdl, upd_same], ?_, ?_, h4, h5, by omega, by omega⟩ fun b o e n1 n2 => ?_⟩
    · rw [upd_ne (nl (by rw [upd_ne ndg.symm]; exact h2)), upd_ne ndg.symm]; exact h2
    · rw [upd_ne (nl (by rw [upd_ne ndc.symm]; exact h3)), upd_ne ndc.symm]; exact h3
    · have e' : (upd H d (.dK (kvS g c r (t + 1)))) b = some o := by rw [upd_ne n1]; exact e
      rw [upd_ne (nl e')]; exact e'
/-! draw -/
def spDraw : Sp := fun vs H Q _ => ∃ (d g c : Addr) (n : Nat) (room : Int), vs = [.ref d, .int room] ∧ St H d g c (n + 1) ∧ 0 < room ∧ room.natAbs < 2 ^ 9000 ∧ ∀ (z : Int) H', 0 ≤ z → z < room → St H' d g c n → Kp d g H H' → Q (.int z) H'
theorem sc_draw : FnScope ["state", "room", "found"] ["state", "room"] (defScope sL_draw) := ⟨rfl, rfl, rfl, by decide +kernel, rfl, by decide +kernel, by decide +kernel⟩
theorem ok_draw (D : Dn K mg "_law_draw" sL_draw) (B : Ok P w K mg base L2.CX0 1 "_law_blended" ["state"] spBlended) (h_int : mg "int" = none) : Ok P w K mg base L2.CX0 2 "_law_draw" ["state", "room"] spDraw := by
  obtain ⟨fB, fdB, g_blended, k_blended, b_blended, F_blended⟩ := B.ex
  refine Ok.mk0 D sc_draw (fun vs H Q E h => ?_) (fun _ _ _ _ _ _ us hl => match us, hl with | [_, _], _ => rfl) (fun f cdv A outer s H vs Q E hr h => ?_)
  · obtain ⟨d, g, c, n, room, rfl, _⟩ := h
    rfl
  obtain ⟨d, g, c, n, room, rfl, hS, hpos, hbits, k⟩ := h
  have hu := hu_of hr
  have hu64 := hr.units
  have nd := sc_draw.nd
  obtain ⟨gs, cs, r, t, h1, h2, h3, h4, h5, h6, h7⟩ := id hS
  have ndg : d ≠ g := hS.ne
  have ndc : d ≠ c := ne_of h1 h3 (by intro z; cases z)
  refine ⟨_, (C8.pss_cut (ps_if (pt_cmpR op_eq (pe_dget hu (pv 0) pe_str (fun _ _ => rfl)) pe_int (nomark _))
      (pss_one (ps_dput hu (pv 0) pe_str (pe_ifExp (pt_cmpR (op_neD hu64) (pe_dget hu (pv 0) pe_str (fun _ _ => rfl)) (pe_lst pa_nil) (nomark _)) (pe_bm PySem.F.plainAttrs_list PySem.F.slot_list_pop PySem.F.type_list_pop mt_popAt (pe_dget hu (pv 0) pe_str (fun _ _ => rfl)) (pa_cons pe_int pa_nil)) (pe_call F_blended hr rfl g_blended k_blended b_blended .nil pass0 (pa_cons (pv 0) pa_nil))) rfl))
      pss_nil)
    (pss_cons (ps_set (i := 2) nd rfl (Or.inl rfl) (pe_op op_modN (pe_callTy call_int1 (by rfl) h_int (by decide +kernel) (pa_cons (pe_dget hu (pv 0) pe_str (fun _ _ => rfl)) pa_nil)) (pv 1)))
    (pss_cons (ps_dput hu (pv 0) pe_str (pe_op op_fdivW (pe_dget hu (pv 0) pe_str (fun _ _ => rfl)) (pv 1)) rfl)
    (pss_one (ps_ret (pv 2)))))), ?_⟩
  refine ⟨fun σ H1 => σ = [some (.ref d), some (.int room), none] ∧ St H1 d g c n ∧ Kp d g H H1, ?_, ?_⟩
  · -- the rest is 0
    refine ⟨.ref d, rfl, d, _, rfl, sget h1 kvS_rest, rfl, _, rfl, ?_⟩
    refine ite2 (fun _ => ?_) (fun _ => ?_)
    · refine ⟨.ref d, rfl, d, _, rfl, sget h1 kvS_great, by decide, fun l hl => ?_⟩
      have nl : ∀ {b o}, H b = some o → b ≠ l := fun e => ne_of_none e hl
      have s1 : Same H (upd H l (.lst [])) := fun b o e => by rw [upd_ne (nl e)]; exact e
      have g1 : (upd H l (.lst [])) g = some (.lst (gs.map V.int)) := s1 _ _ h2
      have d1 : (upd H l (.lst [])) d = some (.dK (kvS g c r t)) := s1 _ _ h1
      refine ⟨.list (gs.map PyData.int), .list [], .lst (SqL.of g1) (dpAll_ints gs), .lst (SqL.of upd_same) .nil, (sh_list (n := 0) fun d hd => ?_).shaped (by decide), (sh_list (n := 0) fun d hd => absurd hd (by simp)).shaped (by decide), _, rfl, ?_⟩
      · obtain ⟨i, _, rfl⟩ := List.mem_map.mp hd
        exact sh_int i
      rw [eqv_nil]
      cases gs with
      | nil =>
        refine iteF ?_
        refine ⟨.ref d, rfl, d, g, c, n, rfl, hS.same s1, fun z H2 S2 k2 => ?_⟩
        obtain ⟨gs', cs', r', t', a1, a2, a3, a4, a5, a6, a7⟩ := S2
        refine ⟨_, rfl, d, _, rfl, DPut.k (k := Sum.inr "rest") a1 (by show 4 < sizeLine; decide), ?_⟩
        rw [kvS_putR]
        exact ⟨rfl, ⟨gs', cs', z, t', upd_same, by rw [upd_ne ndg.symm]; exact a2, by rw [upd_ne (fun e => by rw [e, a1] at a3; cases a3)]; exact a3, a4, a5, a6, a7⟩, fun b o e n1 n2 => by rw [upd_ne n1]; exact k2 b o (s1 b o e) n1 n2⟩
      | cons z zs =>
        refine iteT ?_
        refine ⟨.ref d, rfl, d, _, rfl, sget d1 kvS_great, .inl ⟨rfl, _, SqL.of g1⟩, g, _, 0, 0, .int z, rfl, rfl, g1, by decide, by decide, idx0 (by simp), rfl, ?_⟩
        refine ⟨_, rfl, d, _, rfl, DPut.k (k := Sum.inr "rest") (by rw [upd_ne ndg]; exact d1) (by show 4 < sizeLine; decide), ?_⟩
        rw [kvS_putR]
        exact ⟨rfl, ⟨zs, cs, z, t, upd_same, by rw [upd_ne ndg.symm, upd_same]; rfl, by rw [upd_ne ndc.symm, upd_ne h4]; exact s1 _ _ h3, h4, h5, h6, by omega⟩, fun b o e n1 n2 => by rw [upd_ne n1, upd_ne n2]; exact s1 b o e⟩
    · exact ⟨rfl, hS.less (by omega), Kp.refl H⟩
  · rintro σ H1 ⟨rfl, hS1, kp⟩
    obtain ⟨gs, cs, r, t, h1, h2, h3, h4, h5, h6, h7⟩ := hS1
    have ndc : d ≠ c := ne_of h1 h3 (by intro z; cases z)
    refine ⟨.ref d, rfl, d, _, rfl, sget h1 kvS_rest, .inl ⟨_, rfl, _, rfl, _, _, rfl, rfl, by omega, ?_⟩⟩
    refine ⟨.ref d, rfl, d, _, rfl, sget h1 kvS_rest, _, rfl, _, _, rfl, rfl, wide_div hpos hbits (by decide) (by decide), _, rfl, d, _, rfl, DPut.k (k := Sum.inr "rest") h1 (by show 4 < sizeLine; decide), ?_⟩
    rw [kvS_putR]
    obtain ⟨q1, q2⟩ := fmod_in r hpos
    exact ⟨_, rfl, k _ _ q1 q2 ⟨gs, cs, r / room, t, upd_same, by rw [upd_ne ndg.symm]; exact h2, by rw [upd_ne ndc.symm]; exact h3, h4, h5, h6, h7⟩ fun b o e n1 n2 => by rw [upd_ne n1]; exact kp b o e n1 n2⟩
/-! pick -/
theorem Kp.tk {d g c : Addr} {H H' : Hp} {n : Nat} (e : Kp d g H H') (S : St H d g c n) : TK H H' := by
  obtain ⟨gs, cs, r, t, h1, h2, _⟩ := S
  exact ⟨fun b xs q => e _ _ q (ne_of q h1 (by intro z; cases z)) (ne_of q h2 (by intro z; cases z)), fun b o u q => e _ _ q (ne_of q h1 (by intro z; cases z)) (ne_of q h2 (by intro z; cases z))⟩
theorem Kp.seq {K : PySem.W.Frag} {d g c a : Addr} {H H' : Hp} {n : Nat} {xs : List V} (e : Kp d g H H') (S : St H d g c n) (na : a ≠ g) (h : SqL K H a xs) : SqL K H' a xs := by
  obtain ⟨gs, cs, r, t, h1, h2, _⟩ := S
  rcases h with (h | ⟨o, h⟩) | h
  · exact .inl (.inl (e _ _ h (ne_of h h1 (by intro z; cases z)) na))
  · exact .inl (.inr ⟨o, e _ _ h (ne_of h h1 (by intro z; cases z)) na⟩)
  · exact .inr h
theorem Kp.new {d g a : Addr} {H H' : Hp} {o : HO} (e : Kp d g H H') (n : H a = none) : Kp d g H (upd H' a o) := fun b u q n1 n2 => by
  rw [upd_ne (ne_of_none q n)]
  exact e b u q n1 n2
def spPick (K : PySem.W.Frag) : Sp := fun vs H Q _ => ∃ (d g c a : Addr) (n : Nat) (xs : List V), vs = [.ref d, .ref a] ∧ St H d g c (n + 1) ∧ SqL K H a xs ∧ a ≠ g ∧ 0 < xs.length ∧ xs.length ≤ 100000 ∧
  ∀ (i : Nat) (x : V) H', xs[i]? = some x → St H' d g c n → Kp d g H H' → Q x H'
theorem sc_pick : FnScope ["state", "some"] ["state", "some"] (defScope sL_pick) := ⟨rfl, rfl, rfl, by decide +kernel, rfl, by decide +kernel, by decide +kernel⟩
theorem small9000 {n : Nat} (h : n ≤ 100000) : (n : Int).natAbs < 2 ^ 9000 := Nat.lt_of_lt_of_le (show n < 2 ^ 17 by omega) (Nat.pow_le_pow_right (by decide) (by decide))
theorem ok_pick (D : Dn K mg "_law_pick" sL_pick) (B : Ok P w K mg base L2.CX0 2 "_law_draw" ["state", "room"] spDraw) (h_len : mg "len" = none) : Ok P w K mg base L2.CX0 3 "_law_pick" ["state", "some"] (spPick K) := by
  obtain ⟨fB, fdB, g_draw, k_draw, b_draw, F_draw⟩ := B.ex
  refine Ok.mk0 D sc_pick (fun vs H Q E h => ?_) (fun _ _ _ _ _ _ us hl => match us, hl with | [_, _], _ => rfl) (fun f cdv A outer s H vs Q E hr h => ?_)
  · obtain ⟨d, g, c, a, n, xs, rfl, _⟩ := h
    rfl
  obtain ⟨d, g, c, a, n, xs, rfl, hS, hxs, na, h0, hm, k⟩ := h
  refine ⟨_, (pss_one (ps_ret (pe_ix ix_list (pv 1) (pe_call F_draw hr rfl g_draw k_draw b_draw .nil pass0 (pa_cons (pv 0) (pa_cons (pe_callB call_len_seq (by rfl) h_len (by decide +kernel) (pa_cons (pv 1) pa_nil)) pa_nil))) (fun _ _ => rfl)))), ?_⟩
  refine ⟨.ref a, rfl, .ref d, rfl, .ref a, rfl, a, xs, rfl, .inl hxs, d, g, c, n, _, rfl, hS, by omega, small9000 hm, fun z H' z0 z1 S' kp => ?_⟩
  obtain ⟨i, rfl⟩ := Int.eq_ofNat_of_zero_le z0
  have hi : i < xs.length := by omega
  exact ⟨a, xs, _, xs[i], rfl, rfl, kp.seq hS na hxs, atI_nat (List.getElem?_eq_getElem hi), k i _ H' (List.getElem?_eq_getElem hi) S' kp⟩
/-! shuffled -/
def spShuffled (K : PySem.W.Frag) : Sp := fun vs H Q _ => ∃ (d g c a : Addr) (n : Nat) (xs : List V) (ds : List PyData), vs = [.ref d, .ref a] ∧ St H d g c (n + xs.length) ∧ SqL K H a xs ∧ DtAll K H xs ds ∧ (∀ x ∈ ds, Sh 60 x) ∧ xs.length ≤ 100000 ∧
  ∀ (l : Addr) (ys : List V) H', ys.Perm xs → H l = none → H' l = some (.lst ys) → St H' d g c n → Kp d g H H' → Q (.ref l) H'
theorem sc_shuffled : FnScope ["state", "some", "left", "found"] ["state", "some"] (defScope sL_shuffled) := ⟨rfl, rfl, rfl, by decide +kernel, rfl, by decide +kernel, by decide +kernel⟩
theorem erase_perm {α : Type} {x : α} : ∀ {l : List α} {i : Nat}, l[i]? = some x → (x :: l.eraseIdx i).Perm l
  | [], _, h => by simp at h
  | y :: r, 0, h => by cases h; exact List.Perm.refl _
  | y :: r, i + 1, h => (List.Perm.swap y x _).trans ((erase_perm (l := r) (i := i) h).cons y)
theorem ok_shuffled (D : Dn K mg "_law_shuffled" sL_shuffled) (B : Ok P w K mg base L2.CX0 2 "_law_draw" ["state", "room"] spDraw) (h_len : mg "len" = none) (h_list : mg "list" = none) :
    Ok P w K mg base L2.CX0 3 "_law_shuffled" ["state", "some"] (spShuffled K) := by
  obtain ⟨fB, fdB, g_draw, k_draw, b_draw, F_draw⟩ := B.ex
  refine Ok.mk0 D sc_shuffled (fun vs H Q E h => ?_) (fun _ _ _ _ _ _ us hl => match us, hl with | [_, _], _ => rfl) (fun f cdv A outer s H vs Q E hr h => ?_)
  · obtain ⟨d, g, c, a, n, xs, ds, rfl, _⟩ := h
    rfl
  obtain ⟨d, g, c, a, n, xs, ds, rfl, hS, hxs, hds, hsh, hm, k⟩ := h
  have hu := hu_of hr
  have hu64 := hr.units
  have nd := sc_shuffled.nd
  refine ⟨_, (pss_cons (ps_par (i := 2) (j := 3) (by rfl) nd rfl rfl (by decide) rfl rfl (pa_cons (pe_callTy call_list_of (by rfl) h_list (by decide +kernel) (pa_cons (pv 1) pa_nil)) (pa_cons (pe_lst pa_nil) pa_nil)) (by rfl))
    (pss_cons (ps_while PassesOwn.never (pt_cmpR (op_neD hu64) (pv 2) (pe_lst pa_nil) (nomark _))
      (pss_one (ps_expr (pe_bm PySem.F.plainAttrs_list PySem.F.slot_list_append PySem.F.type_list_append mt_append (pv 3) (pa_cons (pe_bm PySem.F.plainAttrs_list PySem.F.slot_list_pop PySem.F.type_list_pop mt_popAt (pv 2) (pa_cons (pe_call F_draw hr rfl g_draw k_draw b_draw .nil pass0 (pa_cons (pv 0) (pa_cons (pe_callB call_len_seq (by rfl) h_len (by decide +kernel) (pa_cons (pv 2) pa_nil)) pa_nil))) pa_nil)) pa_nil)))))
    (pss_one (ps_ret (pv 3))))), ?_⟩
  refine ⟨.ref a, rfl, a, xs, rfl, .inl hxs, fun L hL => ⟨by decide, fun F hF => ⟨_, _, rfl, ?_⟩⟩⟩
  have nFL : F ≠ L := fun e => by rw [e, upd_same] at hF; cases hF
  have hF0 : H F = none := by rw [upd_ne nFL] at hF; exact hF
  have base0 : ∀ {b o}, H b = some o → (upd (upd H L (.lst xs)) F (.lst [])) b = some o := fun e => by rw [upd_ne (ne_of_none e hF0), upd_ne (ne_of_none e hL)]; exact e
  refine while_by (fun σ H1 => ∃ (ls fs : List V) (es : List PyData), σ = [some (.ref d), some (.ref a), some (.ref L), some (.ref F)] ∧ H1 L = some (.lst ls) ∧ H1 F = some (.lst fs) ∧ (fs ++ ls).Perm xs ∧ St H1 d g c (n + ls.length) ∧ Kp d g H H1 ∧
      DtAll K H1 ls es ∧ (∀ x ∈ es, Sh 60 x)) (fun _ H1 => match H1 L with | some (.lst ls) => ls.length | _ => 0) ?_ ?_ ?_
  · exact ⟨xs, [], ds, rfl, by rw [upd_ne nFL.symm, upd_same], upd_same, by simp, hS.same fun b o e => base0 e, Kp.of fun b o e => base0 e, hds.keep (.of fun b o e => base0 e), hsh⟩
  · rintro σ H1 ⟨ls, fs, es, rfl, eL, eF, pm, S1, kp, des, esh⟩
    have ll : ls.length + fs.length = xs.length := by have := pm.length_eq; simp at this; omega
    refine ⟨.ref L, rfl, by decide, fun z hz => ?_⟩
    have sz : Same H1 (upd H1 z (.lst [])) := fun b o e => by rw [upd_ne (ne_of_none e hz)]; exact e
    refine ⟨.list es, .list [], .lst (SqL.of (sz _ _ eL)) (dpAll_same sz des.dp), .lst (SqL.of upd_same) .nil, (sh_list esh).shaped (by decide), (sh_list (n := 0) fun d hd => absurd hd (by simp)).shaped (by decide), _, rfl, ?_⟩
    rw [eqv_nil]
    cases des with
    | nil =>
      refine iteF ⟨.ref F, rfl, ?_⟩
      have eF' := sz _ _ eF
      exact k F fs _ (by simpa using pm) hF0 eF' (S1.less (by omega) |>.same sz) fun b o e n1 n2 => sz _ _ (kp b o e n1 n2)
    | @cons v vs e es' dv dvs =>
      refine iteT ?_
      have S2 := S1.same sz
      have nLg : L ≠ g := fun q => by
        obtain ⟨gs, cs, r, t, q1, q2, _⟩ := hS
        rw [q, q2] at hL
        cases hL
      have nFg : F ≠ g := fun q => by
        obtain ⟨gs, cs, r, t, q1, q2, _⟩ := hS
        rw [q, q2] at hF0
        cases hF0
      have nLd : L ≠ d := fun q => by
        obtain ⟨gs, cs, r, t, q1, q2, _⟩ := hS
        rw [q, q1] at hL
        cases hL
      have nFd : F ≠ d := fun q => by
        obtain ⟨gs, cs, r, t, q1, q2, _⟩ := hS
        rw [q, q1] at hF0
        cases hF0
      refine ⟨.ref F, rfl, .inl ⟨rfl, _, SqL.of (sz _ _ eF)⟩, .ref L, rfl, .inl ⟨rfl, _, SqL.of (sz _ _ eL)⟩, .ref d, rfl, .ref L, rfl, L, _, rfl, .inl (SqL.of (sz _ _ eL)), d, g, c, n + vs.length, _, rfl, S2.less (by simp only [List.length_cons]; omega), by simp, small9000 (by simp at ll ⊢; omega), fun z' H2 z0 z1 S3 kp3 => ?_⟩
      obtain ⟨i, rfl⟩ := Int.eq_ofNat_of_zero_le z0
      have hi : i < (v :: vs).length := by omega
      have e2L : H2 L = some (.lst (v :: vs)) := kp3 _ _ (sz _ _ eL) nLd nLg
      have e2F : H2 F = some (.lst fs) := kp3 _ _ (sz _ _ eF) nFd nFg
      refine ⟨L, _, _, i, (v :: vs)[i], rfl, rfl, e2L, by omega, by simp at hi ll; omega, idxN hi, List.getElem?_eq_getElem hi, ?_⟩
      refine ⟨F, fs, _, rfl, rfl, by rw [upd_ne nFL]; exact e2F, by simp at ll; rw [sizeLine_eq]; omega, ?_⟩
      have t2 : TK H1 H2 := (TK.of sz).trans (kp3.tk S2)
      have tk : TK H1 (upd (upd H2 L (.lst ((v :: vs).eraseIdx i))) F (.lst (fs ++ [(v :: vs)[i]]))) := t2.trans ((TK.lst e2L).trans (TK.lst (by rw [upd_ne nFL]; exact e2F)))
      have lene : ((v :: vs).eraseIdx i).length = vs.length := by rw [List.length_eraseIdx_of_lt hi]; simp
      refine ⟨⟨(v :: vs).eraseIdx i, fs ++ [(v :: vs)[i]], (e :: es').eraseIdx i, rfl, by rw [upd_ne nFL.symm, upd_same], upd_same, ?_, ?_, fun b o q n1 n2 => ?_, ?_, fun x hx => esh x (List.mem_of_mem_eraseIdx hx)⟩, ?_⟩
      · refine List.Perm.trans ?_ pm
        rw [List.append_assoc]
        exact (erase_perm (List.getElem?_eq_getElem hi)).append_left fs
      · rw [lene]
        have nLc : L ≠ c := fun q => by
          obtain ⟨gs, cs, r, t, q1, q2, q3, _⟩ := hS
          rw [q, q3] at hL
          cases hL
        have nFc : F ≠ c := fun q => by
          obtain ⟨gs, cs, r, t, q1, q2, q3, _⟩ := hS
          rw [q, q3] at hF0
          cases hF0
        obtain ⟨gs, cs, r, t, q1, q2, q3, q4, q5, q6, q7⟩ := S3
        have away : ∀ {b}, b ≠ L → b ≠ F → (upd (upd H2 L (.lst ((v :: vs).eraseIdx i))) F (.lst (fs ++ [(v :: vs)[i]]))) b = H2 b := fun n1 n2 => by rw [upd_ne n2, upd_ne n1]
        exact ⟨gs, cs, r, t, by rw [away nLd.symm nFd.symm]; exact q1, by rw [away nLg.symm nFg.symm]; exact q2, by rw [away nLc.symm nFc.symm]; exact q3, q4, q5, q6, q7⟩
      · rw [upd_ne (ne_of_none q hF0), upd_ne (ne_of_none q hL)]
        exact kp3 _ _ (sz _ _ (kp b o q n1 n2)) n1 n2
      · exact (DtAll.cons dv dvs).erase i |>.keep tk
      · show (match (upd (upd H2 L _) F _) L with | some (.lst ls) => ls.length | _ => 0) < (match H1 L with | some (.lst ls) => ls.length | _ => 0)
        rw [upd_ne nFL.symm, upd_same, eL]
        show ((v :: vs).eraseIdx i).length < (v :: vs).length
        rw [lene]
        simp
  · intro σ H1 Q1 Q2 m h
    obtain ⟨v, e, h1, h2⟩ := h
    refine ⟨v, e, h1, fun z hz => ?_⟩
    obtain ⟨d1, d2, a1, a2, a3, a4, b, a5, a6⟩ := h2 z hz
    exact ⟨d1, d2, a1, a2, a3, a4, b, a5, m _ _ a6⟩
end
end K12
set_option maxHeartbeats 4000000
namespace K12
open PySem PySem.Spec PyProof.Rows L2 Hx
/-! ### numbers -/
inductive Num | w (i : Int) | q (t b : Int)
  deriving DecidableEq
def Num.data : Num → PyData
  | .w i => .int i
  | .q t b => .tuple [.int t, .int b]
def Num.top : Num → Int
  | .w i => i
  | .q t _ => t
def Num.low : Num → Int
  | .w _ => 1
  | .q _ b => b
def Num.ok : Num → Bool
  | .w _ => true
  | .q t b => decide (2 ≤ b) && decide ((Nat.gcd t.natAbs b.natAbs : Int) = 1)
def NumAt (K : PySem.W.Frag) (H : Hp) (v : V) : Num → Prop
  | .w i => v = .int i
  | .q t b => ∃ a, v = .ref a ∧ SqT K H a [.int t, .int b]
theorem NumAt.dt {K : PySem.W.Frag} {H : Hp} {v : V} : ∀ {n : Num}, NumAt K H v n → Dt K H v n.data
  | .w i, h => by
    obtain rfl : v = .int i := h
    exact .int i
  | .q t b, h => by
    obtain ⟨a, rfl, h⟩ := h
    exact .tup h (.cons (.int t) (.cons (.int b) .nil))
theorem NumAt.keep {K : PySem.W.Frag} {H H' : Hp} {v : V} (e : TK H H') : ∀ {n : Num}, NumAt K H v n → NumAt K H' v n
  | .w i, h => h
  | .q t b, ⟨a, h1, h2⟩ => ⟨a, h1, tk_seqT e h2⟩
def made (t b : Int) : Num := if b / (Nat.gcd t.natAbs b.natAbs : Int) = 1 then .w (t / (Nat.gcd t.natAbs b.natAbs : Int)) else .q (t / (Nat.gcd t.natAbs b.natAbs : Int)) (b / (Nat.gcd t.natAbs b.natAbs : Int))
section
variable {P : Program} {w : World} {K : PySem.W.Frag} {mg : Str → Option Value} {base : Heap}
/-! gcd -/
def spGcd : Sp := fun vs H Q _ => ∃ i j : Int, vs = [.int i, .int j] ∧ Q (.int (Nat.gcd i.natAbs j.natAbs : Nat)) H
theorem sc_ct_gcd : FnScope ["one", "other", "a", "b"] ["one", "other"] (defScope sL_ct_gcd) := ⟨rfl, rfl, rfl, by decide +kernel, rfl, by decide +kernel, by decide +kernel⟩
theorem ok_ct_gcd (D : Dn K mg "_law_ct_gcd" sL_ct_gcd) (h_abs : mg "abs" = none) (h_int : mg "int" = none) : Ok P w K mg base L2.CX0 1 "_law_ct_gcd" ["one", "other"] spGcd := by
  refine Ok.mk0 D sc_ct_gcd (fun vs H Q E h => ?_) (fun _ _ _ _ _ _ us hl => match us, hl with | [_, _], _ => rfl) (fun f cdv A outer s H vs Q E hr h => ?_)
  · obtain ⟨i, j, rfl, _⟩ := h
    rfl
  obtain ⟨i, j, rfl, k⟩ := h
  have nd := sc_ct_gcd.nd
  refine ⟨_, (pss_cons (ps_par (i := 2) (j := 3) (by rfl) nd rfl rfl (by decide) rfl rfl (pa_cons (pe_callB call_abs (by rfl) h_abs (by decide +kernel) (pa_cons (pv 0) pa_nil)) (pa_cons (pe_callB call_abs (by rfl) h_abs (by decide +kernel) (pa_cons (pv 1) pa_nil)) pa_nil)) (by rfl))
    (pss_cons (ps_while PassesOwn.never (pt_cmpR op_ne (pv 3) pe_int (nomark _))
      (pss_one (ps_par (i := 2) (j := 3) (by rfl) nd rfl rfl (by decide) rfl rfl (pa_cons (pv 3) (pa_cons (pe_op op_modN (pe_callTy call_int1 (by rfl) h_int (by decide +kernel) (pa_cons (pv 2) pa_nil)) (pv 3)) pa_nil)) (by rfl))))
    (pss_one (ps_ret (pv 2))))), ?_⟩
  refine ⟨_, rfl, _, rfl, _, rfl, _, rfl, _, _, rfl, ?_⟩
  have ab : ∀ z : Int, (if z < 0 then -z else z) = (z.natAbs : Int) := fun z => by split <;> omega
  rw [ab, ab]
  refine while_by (fun σ H1 => H1 = H ∧ ∃ a b : Nat, σ = [some (.int i), some (.int j), some (.int a), some (.int b)] ∧ Nat.gcd a b = Nat.gcd i.natAbs j.natAbs) (fun σ _ => match σ with | [_, _, _, some (.int b)] => b.natAbs | _ => 0) ⟨rfl, _, _, rfl, rfl⟩ ?_ ?_
  · rintro σ H1 ⟨rfl, a, b, rfl, e⟩
    refine ⟨_, rfl, rfl, _, rfl, ?_⟩
    by_cases hb : b = 0
    · subst hb
      refine iteNS rfl ⟨_, rfl, ?_⟩
      rw [Nat.gcd_zero_right] at e
      rw [e]
      exact k
    · have nb : decide (V.int (b : Int) = V.int 0) = false := decide_eq_false fun q => hb (by have := V.int.inj q; omega)
      rw [nb]
      refine iteT ⟨_, rfl, _, rfl, .inl ⟨_, rfl, _, rfl, _, _, rfl, rfl, by omega, _, _, rfl, ?_⟩⟩
      have em : (a : Int).fmod b = ((a % b : Nat) : Int) := by rw [Int.fmod_eq_emod_of_nonneg _ (by omega)]; rfl
      refine ⟨⟨rfl, b, a % b, ?_, ?_⟩, ?_⟩
      · show [some (V.int i), some (V.int j), some (V.int b), some (V.int ((a : Int).fmod b))] = [some (V.int i), some (V.int j), some (V.int b), some (V.int ((a % b : Nat) : Int))]
        rw [em]
      · rw [← e, Nat.gcd_comm b (a % b), ← Nat.gcd_rec, Nat.gcd_comm]
      · show ((a : Int).fmod b).natAbs < (b : Int).natAbs
        rw [em]
        have := Nat.mod_lt a (Nat.pos_of_ne_zero hb)
        omega
  · intro σ H1 Q1 Q2 m h
    obtain ⟨v, e, h1, b, h2, h3⟩ := h
    exact ⟨v, e, h1, b, h2, m _ _ h3⟩
/-! top, low -/
def spTop (K : PySem.W.Frag) (f : Num → Int) : Sp := fun vs H Q _ => ∃ (v : V) (n : Num), vs = [v] ∧ NumAt K H v n ∧ Q (.int (f n)) H
theorem sc_ct_top : FnScope ["item"] ["item"] (defScope sL_ct_top) := ⟨rfl, rfl, rfl, by decide +kernel, rfl, by decide +kernel, by decide +kernel⟩
theorem ok_ct_top (D : Dn K mg "_law_ct_top" sL_ct_top) (h_isinstance : mg "isinstance" = none) (h_tuple : mg "tuple" = none) : Ok P w K mg base L2.CX0 1 "_law_ct_top" ["item"] (spTop K Num.top) := by
  refine Ok.mk0 D sc_ct_top (fun vs H Q E h => ?_) (fun _ _ _ _ _ _ us hl => match us, hl with | [_], _ => rfl) (fun f cdv A outer s H vs Q E hr h => ?_)
  · obtain ⟨v, n, rfl, _⟩ := h
    rfl
  obtain ⟨v, n, rfl, hn, k⟩ := h
  refine ⟨_, (pss_one (ps_ret (pe_ifExp (pt_val (pe_isD "tuple" rfl h_isinstance h_tuple (pv 0))) (pe_ix ix_tup (pv 0) pe_int (fun _ _ => rfl)) (pv 0)))), ?_⟩
  cases n with
  | w i =>
    obtain rfl : v = .int i := hn
    exact ⟨_, rfl, .int i, .int i, false, rfl, iteF ⟨_, rfl, k⟩⟩
  | q t b =>
    have hn' := hn.dt.dp
    obtain ⟨a, rfl, ha⟩ := hn
    exact ⟨_, rfl, .tuple [.int t, .int b], hn', true, rfl, iteT ⟨_, rfl, a, _, 0, _, rfl, rfl, ha, rfl, k⟩⟩
theorem sc_ct_low : FnScope ["item"] ["item"] (defScope sL_ct_low) := ⟨rfl, rfl, rfl, by decide +kernel, rfl, by decide +kernel, by decide +kernel⟩
theorem ok_ct_low (D : Dn K mg "_law_ct_low" sL_ct_low) (h_isinstance : mg "isinstance" = none) (h_tuple : mg "tuple" = none) : Ok P w K mg base L2.CX0 1 "_law_ct_low" ["item"] (spTop K Num.low) := by
  refine Ok.mk0 D sc_ct_low (fun vs H Q E h => ?_) (fun _ _ _ _ _ _ us hl => match us, hl with | [_], _ => rfl) (fun f cdv A outer s H vs Q E hr h => ?_)
  · obtain ⟨v, n, rfl, _⟩ := h
    rfl
  obtain ⟨v, n, rfl, hn, k⟩ := h
  refine ⟨_, (pss_one (ps_ret (pe_ifExp (pt_val (pe_isD "tuple" rfl h_isinstance h_tuple (pv 0))) (pe_ix ix_tup (pv 0) pe_int (fun _ _ => rfl)) pe_int))), ?_⟩
  cases n with
  | w i =>
    obtain rfl : v = .int i := hn
    exact ⟨_, rfl, .int i, .int i, false, rfl, iteF k⟩
  | q t b =>
    have hn' := hn.dt.dp
    obtain ⟨a, rfl, ha⟩ := hn
    exact ⟨_, rfl, .tuple [.int t, .int b], hn', true, rfl, iteT ⟨_, rfl, a, _, 1, _, rfl, rfl, ha, rfl, k⟩⟩
/-! less than a small whole -/
def spLess0 (K : PySem.W.Frag) : Sp := fun vs H Q _ => ∃ (v : V) (n : Num) (j : Int), vs = [v, .int j] ∧ NumAt K H v n ∧ j.natAbs < 1000 ∧ Q (.bl (decide (n.top * 1 < j * n.low))) H
theorem sc_ct_less : FnScope ["one", "other"] ["one", "other"] (defScope sL_ct_less) := ⟨rfl, rfl, rfl, by decide +kernel, rfl, by decide +kernel, by decide +kernel⟩
theorem ok_ct_less (D : Dn K mg "_law_ct_less" sL_ct_less) (B1 : Ok P w K mg base L2.CX0 1 "_law_ct_top" ["item"] (spTop K Num.top)) (B2 : Ok P w K mg base L2.CX0 1 "_law_ct_low" ["item"] (spTop K Num.low)) :
    Ok P w K mg base L2.CX0 2 "_law_ct_less" ["one", "other"] (spLess0 K) := by
  obtain ⟨_, _, g_ct_top, k_ct_top, b_ct_top, F_ct_top⟩ := B1.ex
  obtain ⟨_, _, g_ct_low, k_ct_low, b_ct_low, F_ct_low⟩ := B2.ex
  refine Ok.mk0 D sc_ct_less (fun vs H Q E h => ?_) (fun _ _ _ _ _ _ us hl => match us, hl with | [_, _], _ => rfl) (fun f cdv A outer s H vs Q E hr h => ?_)
  · obtain ⟨v, n, j, rfl, _⟩ := h
    rfl
  obtain ⟨v, n, j, rfl, hn, hj, k⟩ := h
  refine ⟨_, (pss_one (ps_ret (pe_cmpR op_lt (pe_op op_mul (pe_call F_ct_top hr rfl g_ct_top k_ct_top b_ct_top .nil pass0 (pa_cons (pv 0) pa_nil)) (pe_call F_ct_low hr rfl g_ct_low k_ct_low b_ct_low .nil pass0 (pa_cons (pv 1) pa_nil))) (pe_op op_mul (pe_call F_ct_top hr rfl g_ct_top k_ct_top b_ct_top .nil pass0 (pa_cons (pv 1) pa_nil)) (pe_call F_ct_low hr rfl g_ct_low k_ct_low b_ct_low .nil pass0 (pa_cons (pv 0) pa_nil))) (nomark _)))), ?_⟩
  exact ⟨_, rfl, v, n, rfl, hn, _, rfl, _, .w j, rfl, rfl, _, _, rfl, rfl, (.inr ⟨by show -(2 ^ 64) < (1 : Int); decide, by show (1 : Int) < 2 ^ 64; decide⟩), _, rfl, _, .w j, rfl, rfl, _, rfl, v, n, rfl, hn, _, _, rfl, rfl, .inl ⟨by show -(2 ^ 64) < j; omega, by show j < 2 ^ 64; omega⟩, _, _, rfl, rfl, k⟩
/-! made -/
theorem gcd_pos {t b : Int} (h : 0 < b) : 0 < (Nat.gcd t.natAbs b.natAbs : Int) := by
  have := Nat.gcd_pos_of_pos_right t.natAbs (show 0 < b.natAbs by omega)
  omega
theorem gcd_le {t b : Int} (h : 0 < b) : (Nat.gcd t.natAbs b.natAbs : Int).natAbs ≤ b.natAbs := by
  have := Nat.gcd_le_right (n := b.natAbs) t.natAbs (by omega)
  omega
def spMade (K : PySem.W.Frag) : Sp := fun vs H Q _ => ∃ t b : Int, vs = [.int t, .int b] ∧ 0 < b ∧ b.natAbs < 2 ^ 9000 ∧ ∀ v H', Same H H' → NumAt K H' v (made t b) → Q v H'
theorem sc_ct_made : FnScope ["top", "bottom", "common", "high", "low"] ["top", "bottom"] (defScope sL_ct_made) := ⟨rfl, rfl, rfl, by decide +kernel, rfl, by decide +kernel, by decide +kernel⟩
theorem ok_ct_made (D : Dn K mg "_law_ct_made" sL_ct_made) (B1 : Ok P w K mg base L2.CX0 1 "_law_ct_gcd" ["one", "other"] spGcd) : Ok P w K mg base L2.CX0 2 "_law_ct_made" ["top", "bottom"] (spMade K) := by
  obtain ⟨_, _, g_ct_gcd, k_ct_gcd, b_ct_gcd, F_ct_gcd⟩ := B1.ex
  refine Ok.mk0 D sc_ct_made (fun vs H Q E h => ?_) (fun _ _ _ _ _ _ us hl => match us, hl with | [_, _], _ => rfl) (fun f cdv A outer s H vs Q E hr h => ?_)
  · obtain ⟨t, b, rfl, _⟩ := h
    rfl
  obtain ⟨t, b, rfl, hb, h9, k⟩ := h
  have nd := sc_ct_made.nd
  refine ⟨_, (pss_cons (ps_set (i := 2) nd rfl (Or.inl rfl) (pe_call F_ct_gcd hr rfl g_ct_gcd k_ct_gcd b_ct_gcd .nil pass0 (pa_cons (pv 0) (pa_cons (pv 1) pa_nil))))
    (pss_cons (ps_set (i := 2) nd rfl (Or.inl rfl) (pe_ifExp (pt_cmpR op_gt (pv 1) pe_int (nomark _)) (pv 2) (pe_op op_sub pe_int (pv 2))))
    (pss_cons (ps_par (i := 3) (j := 4) (by rfl) nd rfl rfl (by decide) rfl rfl (pa_cons (pe_op op_fdivW (pv 0) (pv 2)) (pa_cons (pe_op op_fdivW (pv 1) (pv 2)) pa_nil)) (by rfl))
    (pss_one (ps_ret (pe_ifExp (pt_cmpR op_eq (pv 4) pe_int (nomark _)) (pv 3) (pe_tup (pa_cons (pv 3) (pa_cons (pv 4) pa_nil))))))))), ?_⟩
  have gp := gcd_pos (t := t) hb
  have g9 : (Nat.gcd t.natAbs b.natAbs : Int).natAbs < 2 ^ 9000 := Nat.lt_of_le_of_lt (gcd_le hb) h9
  refine ⟨_, rfl, _, rfl, t, b, rfl, _, rfl, _, _, rfl, rfl, _, rfl, ?_⟩
  rw [decide_eq_true hb]
  refine iteT ⟨_, rfl, ?_⟩
  refine ⟨_, rfl, _, rfl, _, _, rfl, rfl, wide_div gp g9 (by decide) (by decide), _, rfl, _, rfl, _, _, rfl, rfl, wide_div gp g9 (by decide) (by decide), _, _, rfl, ?_⟩
  refine ⟨_, rfl, rfl, _, rfl, ?_⟩
  by_cases h1 : b / (Nat.gcd t.natAbs b.natAbs : Int) = 1
  · rw [decide_eq_true (congrArg V.int h1)]
    refine iteT ⟨_, rfl, k _ H (Same.refl H) ?_⟩
    unfold made
    rw [if_pos h1]
    rfl
  · rw [decide_eq_false (fun q => h1 (V.int.inj q))]
    refine iteF ⟨_, rfl, _, rfl, (by show 2 ≤ sizeLine; decide), fun p hp => k _ _ (fun b o e => by rw [upd_ne (ne_of_none e hp)]; exact e) ?_⟩
    unfold made
    rw [if_neg h1]
    exact ⟨p, rfl, .inl (.inl upd_same)⟩
/-! is_number -/
def spIsNum (K : PySem.W.Frag) : Sp := fun vs H Q _ => ∃ (v : V) (n : Num), vs = [v] ∧ NumAt K H v n ∧ ∀ H', Same H H' → Q (.bl n.ok) H'
theorem sc_ct_is_number : FnScope ["item", "one"] ["item"] (defScope sL_ct_is_number) := ⟨rfl, rfl, rfl, by decide +kernel, rfl, by decide +kernel, by decide +kernel⟩
theorem ok_ct_is_number (D : Dn K mg "_law_ct_is_number" sL_ct_is_number) (B1 : Ok P w K mg base L2.CX0 1 "_law_ct_gcd" ["one", "other"] spGcd) (h_isinstance : mg "isinstance" = none) (h_tuple : mg "tuple" = none) (h_int : mg "int" = none) (h_bool : mg "bool" = none) (h_len : mg "len" = none) :
    Ok P w K mg base L2.CX0 2 "_law_ct_is_number" ["item"] (spIsNum K) := by
  obtain ⟨_, _, g_ct_gcd, k_ct_gcd, b_ct_gcd, F_ct_gcd⟩ := B1.ex
  refine Ok.mk0 D sc_ct_is_number (fun vs H Q E h => ?_) (fun _ _ _ _ _ _ us hl => match us, hl with | [_], _ => rfl) (fun f cdv A outer s H vs Q E hr h => ?_)
  · obtain ⟨v, n, rfl, _⟩ := h
    rfl
  obtain ⟨v, n, rfl, hn, k⟩ := h
  have nd := sc_ct_is_number.nd
  have hu64 := hr.units
  refine ⟨_, (pss_cons (ps_if (pt_val (pe_isD "int" rfl h_isinstance h_int (pv 0)))
      (pss_one (ps_ret (pe_not (pe_isD "bool" rfl h_isinstance h_bool (pv 0)))))
      pss_nil)
    (pss_cons (ps_if (PW.pt (pw_or (pt_not (pt_val (pe_isD "tuple" rfl h_isinstance h_tuple (pv 0)))) (pw_or1 (pt_cmpR op_ne (pe_lenS rfl h_len (pv 0)) pe_int (nomark _)))))
      (pss_one (ps_ret pe_bl))
      pss_nil)
    (pss_cons (ps_if (pt_cmpR (op_neD hu64) (pe_lc (own := [("one", 1)]) (g := gName 1) rfl nd (pi_tup (pv 0)) (blkOk_by (own := [("one", 1)]) (N := ["item", "one"]) (sc := defScope sL_ct_is_number) (by decide +kernel)) (fun _ _ _ _ _ => pg_name (i := 1) nd rfl (Or.inl rfl)) (fun _ _ _ _ _ => pts_one (PW.pt (pw_or (pt_not (pt_val (pe_isD "int" rfl h_isinstance h_int (pv 1)))) (pw_or1 (pt_val (pe_isD "bool" rfl h_isinstance h_bool (pv 1))))))) (fun _ _ _ _ _ => pe_int)) (pe_lst pa_nil) (nomark _))
      (pss_one (ps_ret pe_bl))
      pss_nil)
    (pss_one (ps_ret (pe_and (pe_cmpR op_ge (pe_ix ix_tup (pv 0) pe_int (fun _ _ => rfl)) pe_int (nomark _)) (pe_one (pe_cmpR op_eq (pe_call F_ct_gcd hr rfl g_ct_gcd k_ct_gcd b_ct_gcd .nil pass0 (pa_cons (pe_ix ix_tup (pv 0) pe_int (fun _ _ => rfl)) (pa_cons (pe_ix ix_tup (pv 0) pe_int (fun _ _ => rfl)) pa_nil))) pe_int (nomark _))))))))), ?_⟩
  cases n with
  | w i =>
    obtain rfl : v = .int i := hn
    exact ⟨_, rfl, .int i, .int i, true, rfl, iteT ⟨_, rfl, .int i, .int i, false, rfl, k H (Same.refl H)⟩⟩
  | q t b =>
    have hn' := hn.dt.dp
    obtain ⟨a, rfl, ha⟩ := hn
    refine ⟨_, rfl, .tuple [.int t, .int b], hn', false, rfl, iteF ?_⟩
    refine ⟨_, rfl, .tuple [.int t, .int b], hn', true, rfl, iteF ?_⟩
    refine ⟨_, rfl, a, _, rfl, .inr ha, rfl, _, rfl, iteF ?_⟩
    refine ⟨_, rfl, a, rfl, ⟨_, ha⟩, fun l hl => lc_tup (K := K) (a := a) (xs := [.int t, .int b]) (fun _ H1 => H1 = upd H l (.lst [])) rfl (fun i H1 _ e => by rw [e]; exact same_seqT (fun b o q => by rw [upd_ne (ne_of_none q hl)]; exact q) ha) ?_ ?_⟩
    · rintro i x H1 hx rfl
      obtain ⟨z, rfl⟩ : ∃ z : Int, x = .int z := by
        match i, hx with
        | 0, hx => cases hx; exact ⟨_, rfl⟩
        | 1, hx => cases hx; exact ⟨_, rfl⟩
      exact ⟨rfl, _, rfl, .int z, .int z, true, rfl, iteF ⟨_, rfl, .int z, .int z, false, rfl, iteF rfl⟩⟩
    · rintro H1 rfl
      have sl : Same H (upd H l (.lst [])) := fun b o q => by rw [upd_ne (ne_of_none q hl)]; exact q
      refine ⟨by decide, fun p hp => ?_⟩
      have sp : Same (upd H l (.lst [])) (upd (upd H l (.lst [])) p (.lst [])) := fun b o q => by rw [upd_ne (ne_of_none q hp)]; exact q
      have sh0 : Sh 1 (.list []) := sh_list (n := 0) fun d hd => absurd hd (by simp)
      refine ⟨.list [], .list [], .lst (SqL.of (sp _ _ upd_same)) .nil, .lst (SqL.of upd_same) .nil, sh0.shaped (by decide), sh0.shaped (by decide), _, rfl, iteF ?_⟩
      have ss := sl.trans sp
      have ha' := same_seqT ss ha
      refine ⟨_, rfl, a, _, 1, _, rfl, rfl, ha', rfl, _, _, rfl, rfl, _, rfl, ?_⟩
      have ek : Num.ok (.q t b) = (decide (2 ≤ b) && decide ((Nat.gcd t.natAbs b.natAbs : Int) = 1)) := rfl
      by_cases h2 : 2 ≤ b
      · rw [decide_eq_true h2] at ek ⊢
        refine iteT ⟨_, rfl, a, _, 0, _, rfl, rfl, ha', rfl, _, rfl, a, _, 1, _, rfl, rfl, ha', rfl, t, b, rfl, rfl, ?_⟩
        have z := k _ ss
        rw [ek] at z
        have e3 : decide (V.int (Nat.gcd t.natAbs b.natAbs : Nat) = V.int 1) = decide (((Nat.gcd t.natAbs b.natAbs : Nat) : Int) = 1) := by
          by_cases q : ((Nat.gcd t.natAbs b.natAbs : Nat) : Int) = 1
          · rw [decide_eq_true q, decide_eq_true (congrArg V.int q)]
          · rw [decide_eq_false q, decide_eq_false (fun y => q (V.int.inj y))]
        show Q (.bl (decide (V.int (Nat.gcd t.natAbs b.natAbs : Nat) = V.int 1))) _
        rw [e3]
        exact z
      · rw [decide_eq_false h2] at ek ⊢
        refine iteF ?_
        have z := k _ ss
        rw [ek] at z
        exact z
end
end K12
set_option maxHeartbeats 4000000
namespace K12
open PySem PySem.Spec PyProof.Rows L2 Hx RZ
/-! ### names -/
abbrev LET : Str := "abcdefghijklmnopqrstuvwxyz"
abbrev LED : Str := "abcdefghijklmnopqrstuvwxyz0123456789"
def nameS (x : Str) : Bool := decide (1 ≤ x.length) && decide (x.length ≤ 8) && (match x.cps.toList with
  | [] => false
  | c :: _ => decide (c ∈ LET.cps.toList)) && x.cps.toList.all fun c => decide (c ∈ LED.cps.toList)
theorem str_bool {a b : Bool} : V.bl a = V.bl b ↔ a = b := ⟨V.bl.inj, congrArg _⟩
theorem bools_of {acc : List V} {bs : List Bool} (hl : acc.length = bs.length) (h : ∀ (i : Nat) (y : V), acc[i]? = some y → bs[i]?.map V.bl = some y) : acc = bs.map V.bl := by
  refine List.ext_getElem? fun i => ?_
  rw [List.getElem?_map]
  by_cases hi : i < acc.length
  · rw [List.getElem?_eq_getElem hi, h i _ (List.getElem?_eq_getElem hi)]
  · rw [List.getElem?_eq_none (by omega), List.getElem?_eq_none (by omega)]
    rfl
section
variable {P : Program} {w : World} {K : PySem.W.Frag} {mg : Str → Option Value} {base : Heap}
def spName (f : Str → Bool) : Sp := fun vs H Q _ => ∃ x : Str, vs = [.str x] ∧ x.length ≤ 100000 ∧ ∀ H', Same H H' → Q (.bl (f x)) H'
theorem sc_is_name : FnScope ["value", "sign"] ["value"] (defScope sis_name) := ⟨rfl, rfl, rfl, by decide +kernel, rfl, by decide +kernel, by decide +kernel⟩
theorem ok_is_name (D : Dn K mg "is_name" sis_name) (h_isinstance : mg "isinstance" = none) (h_str : mg "str" = none) (h_len : mg "len" = none) (h_all : mg "all" = none) (c1 : ∃ t, mg "LETTERS" = some (.str LET t)) (c2 : ∃ t, mg "LETTERS_AND_DIGITS" = some (.str LED t)) (c3 : ∃ t, mg "LONGEST_NAME" = some (.int 8 t)) :
    Ok P w K mg base L2.CX0 1 "is_name" ["value"] (spName nameS) := by
  obtain ⟨_, gLETTERS⟩ := c1
  obtain ⟨_, gLETTERS_AND_DIGITS⟩ := c2
  obtain ⟨_, gLONGEST_NAME⟩ := c3
  refine Ok.mk0 D sc_is_name (fun vs H Q E h => ?_) (fun _ _ _ _ _ _ us hl => match us, hl with | [_], _ => rfl) (fun f cdv A outer s H vs Q E hr h => ?_)
  · obtain ⟨x, rfl, _⟩ := h
    rfl
  obtain ⟨x, rfl, hx, k⟩ := h
  have nd := sc_is_name.nd
  refine ⟨_, (pss_cons (ps_if (PW.pt (pw_or (pt_not (pt_val (pe_isD "str" rfl h_isinstance h_str (pv 0)))) (pw_or1 (pt_not (pt_chain op_le op_le pe_int (pe_callB call_len_str (by rfl) h_len (by decide +kernel) (pa_cons (pv 0) pa_nil)) (pe_glob (v := .int 8) rfl gLONGEST_NAME ⟨_, rfl⟩))))))
      (pss_one (ps_ret pe_bl))
      pss_nil)
    (pss_one (ps_ret (pe_and (pe_cmpR op_in_sign (pe_ix ix_str (pv 0) pe_int (fun _ _ => rfl)) (pe_glob (v := .str LET) rfl gLETTERS ⟨_, rfl⟩) (by rfl)) (pe_one (pe_callB (cr_all rfl) (by rfl) h_all (by decide +kernel) (pa_cons (pe_lc (own := [("sign", 1)]) (g := gName 1) (tt := tYes) rfl nd (pi_str (pv 0)) (blkOk_by (own := [("sign", 1)]) (N := ["value", "sign"]) (sc := defScope sis_name) (by decide +kernel)) (fun _ _ _ _ _ => pg_name (i := 1) nd rfl (Or.inl rfl)) (fun _ _ _ _ _ => pts_nil) (fun _ _ _ _ _ => (pe_cmpR op_in_sign (pv 1) (pe_glob (v := .str LED) rfl gLETTERS_AND_DIGITS ⟨_, rfl⟩) (by rfl)))) pa_nil))))))), ?_⟩
  refine ⟨_, rfl, .str x, .str x, true, rfl, ?_⟩
  refine iteF ?_
  have hsz : x.length ≤ sizeLine := by rw [sizeLine_eq]; omega
  have hcs : x.cps.toList.length = x.length := by simp [Str.length]
  have fal : nameS x = false → Q (.bl false) H := fun e => by
    have z := k H (Same.refl H)
    rw [e] at z
    exact z
  refine ⟨_, rfl, _, rfl, hsz, _, _, rfl, rfl, _, rfl, ?_⟩
  by_cases h1 : 1 ≤ (x.length : Int)
  · rw [decide_eq_true h1]
    refine iteT ⟨_, _, rfl, rfl, _, rfl, ?_⟩
    by_cases h8 : (x.length : Int) ≤ 8
    · rw [decide_eq_true h8]
      refine iteF ?_
      obtain ⟨c, r, hcr⟩ : ∃ c r, x.cps.toList = c :: r := by
        cases e : x.cps.toList with
        | nil => rw [e] at hcs; simp at hcs; omega
        | cons c r => exact ⟨c, r, rfl⟩
      have hnm : nameS x = (decide (c ∈ LET.cps.toList) && x.cps.toList.all fun c => decide (c ∈ LED.cps.toList)) := by
        unfold nameS
        rw [decide_eq_true (show 1 ≤ x.length by omega), decide_eq_true (show x.length ≤ 8 by omega), hcr]
        rfl
      refine ⟨_, rfl, x, 0, c, rfl, rfl, hsz, ?_, c, _, rfl, rfl, _, rfl, ?_⟩
      · have z := atI_nat (xs := x.cps.toList) (j := 0) (v := c) (by rw [hcr]; rfl)
        exact z
      by_cases hc : c ∈ LET.cps.toList
      · rw [decide_eq_true hc] at hnm ⊢
        refine iteT ⟨_, rfl, x, rfl, fun D hD => ?_⟩
        have n8 : x.cps.size ≤ 8 := by have := hcs; simp at this; omega
        refine lc_rel (n := x.cps.size) (J := Its x) (fun i y _ => (x.cps.toList.map fun c => decide (c ∈ LED.cps.toList))[i]?.map V.bl = some y) (fun _ _ _ _ _ h => h) hD (by rw [sizeLine_eq]; omega) (fun i H hi _ => hi) (fun H _ => Nat.le_refl _) ?_ ?_
        · rintro i y H1 H' F hi s1 ⟨rfl, c, hc, rfl⟩ kk
          refine ⟨rfl, _, rfl, c, _, rfl, rfl, kk _ _ ?_ (Same.refl _)⟩
          rw [List.getElem?_map, Array.getElem?_toList, hc]
          rfl
        · intro acc H1 s1 e hl hy
          have eb : acc = (x.cps.toList.map fun c => decide (c ∈ LED.cps.toList)).map V.bl := bools_of (by simp [hl]) hy
          subst eb
          refine ⟨D, _, rfl, SqL.of e, ?_⟩
          have z := k H1 s1
          rw [hnm, Bool.true_and] at z
          rw [List.all_map]
          exact z
      · rw [decide_eq_false hc] at hnm ⊢
        exact iteF (fal (by rw [hnm]; rfl))
    · rw [decide_eq_false h8]
      refine iteT (fal ?_)
      unfold nameS
      rw [decide_eq_false (show ¬ x.length ≤ 8 by omega)]
      simp
  · rw [decide_eq_false h1]
    refine iteF ⟨_, rfl, iteT (fal ?_)⟩
    unfold nameS
    rw [decide_eq_false (show ¬ 1 ≤ x.length by omega)]
    simp
/-! names in a tuple -/
def riseS (ns : List Str) : Bool := (ns.zip (ns.drop 1)).all fun p => decide (p.1.cps.toList < p.2.cps.toList)
def namesS (ns : List Str) : Bool := ns.all nameS && riseS ns
def Sm (ns : List Str) : Prop := ns.length ≤ 100000 ∧ ∀ x ∈ ns, x.length ≤ 100000
def spNames (K : PySem.W.Frag) (f : List Str → Bool) : Sp := fun vs H Q _ => ∃ (a : Addr) (ns : List Str), vs = [.ref a] ∧ SqT K H a (ns.map V.str) ∧ Sm ns ∧ ∀ H', Same H H' → Q (.bl (f ns)) H'
theorem strs_at {ns : List Str} {i : Nat} {x : V} (h : (ns.map V.str)[i]? = some x) : ∃ y, ns[i]? = some y ∧ x = .str y := by
  rw [List.getElem?_map] at h
  cases e : ns[i]? with
  | none => rw [e] at h; cases h
  | some y => rw [e] at h; exact ⟨y, rfl, (Option.some.inj h).symm⟩
theorem same_new {H : Hp} {a : Addr} {o : HO} (h : H a = none) : Same H (upd H a o) := fun b u e => by rw [upd_ne (ne_of_none e h)]; exact e
theorem sqT_eq {K : PySem.W.Frag} {H : Hp} {a : Addr} {xs ys : List V} (h : H a = some (.tup xs)) (q : SqT K H a ys) (nk : ∀ o, K.lookup a = some o → False) : ys = xs := by
  rcases q with (q | ⟨o, q⟩) | ⟨o, _, _, q, _⟩
  · rw [h] at q; cases q; rfl
  · rw [h] at q; cases q
  · exact (nk _ q).elim
theorem sc_are_names : FnScope ["value", "name", "one", "other"] ["value"] (defScope sare_names) := ⟨rfl, rfl, rfl, by decide +kernel, rfl, by decide +kernel, by decide +kernel⟩
theorem ok_are_names (D : Dn K mg "are_names" sare_names) (B : Ok P w K mg base L2.CX0 1 "is_name" ["value"] (spName nameS)) (h_isinstance : mg "isinstance" = none) (h_tuple : mg "tuple" = none) (h_all : mg "all" = none) (h_zip : mg "zip" = none) :
    Ok P w K mg base L2.CX0 2 "are_names" ["value"] (spNames K namesS) := by
  obtain ⟨_, _, g_is_name, k_is_name, b_is_name, F_is_name⟩ := B.ex
  refine Ok.mk0 D sc_are_names (fun vs H Q E h => ?_) (fun _ _ _ _ _ _ us hl => match us, hl with | [_], _ => rfl) (fun f cdv A outer s H vs Q E hr h => ?_)
  · obtain ⟨x, ns, rfl, _⟩ := h
    rfl
  obtain ⟨a, ns, rfl, ha, ⟨hl, hm⟩, k⟩ := h
  have nd := sc_are_names.nd
  refine ⟨_, (pss_cons (ps_if (PW.pt (pw_or (pt_not (pt_val (pe_isD "tuple" rfl h_isinstance h_tuple (pv 0)))) (pw_or1 (pt_not (pt_val (pe_callB (cr_all rfl) (by rfl) h_all (by decide +kernel) (pa_cons (pe_lc (own := [("name", 1)]) (g := gName 1) (tt := tYes) rfl nd (pi_tup (pv 0)) (blkOk_by (own := [("name", 1)]) (N := ["value", "name", "one", "other"]) (sc := defScope sare_names) (by decide +kernel)) (fun _ _ _ _ _ => pg_name (i := 1) nd rfl (Or.inl rfl)) (fun _ _ _ _ _ => pts_nil) (fun _ _ _ _ _ => (pe_call F_is_name hr rfl g_is_name k_is_name b_is_name .nil pass0 (pa_cons (pv 1) pa_nil)))) pa_nil)))))))
      (pss_one (ps_ret pe_bl))
      pss_nil)
    (pss_one (ps_ret (pe_callB (cr_all rfl) (by rfl) h_all (by decide +kernel) (pa_cons (pe_lc (own := [("one", 2), ("other", 3)]) (g := gTup K 2 (gCons (gName 2) (gCons (gName 3) gNil))) (tt := tYes) rfl nd (pi_zipA (by rfl) h_zip (pa_cons (pv 0) (pa_cons (pe_slice sl_tupA (pv 0) (po_some pe_int) po_none) pa_nil))) (blkOk_by (own := [("one", 2), ("other", 3)]) (N := ["value", "name", "one", "other"]) (sc := defScope sare_names) (by decide +kernel)) (fun _ _ _ _ _ => pg_tup (by rfl) (pgs_cons (pg_name (i := 2) nd rfl (Or.inl rfl)) (pgs_cons (pg_name (i := 3) nd rfl (Or.inl rfl)) pgs_nil))) (fun _ _ _ _ _ => pts_nil) (fun _ _ _ _ _ => (pe_cmpR op_lt_str (pv 2) (pv 3) (nomark _)))) pa_nil))))), ?_⟩
  refine ⟨_, rfl, .tuple (ns.map PyData.str), .tup ha (dpAll_strs ns), true, rfl, ?_⟩
  refine iteF ?_
  refine ⟨_, rfl, a, rfl, ⟨_, ha⟩, fun L hL => ?_⟩
  refine lc_rel (n := ns.length) (J := Itt K a) (fun i y _ => (ns.map nameS)[i]?.map V.bl = some y) (fun _ _ _ _ _ h => h) hL (by rw [sizeLine_eq]; omega) (fun i H1 hi s1 => ?_) (fun H1 s1 => ?_) ?_ ?_
  · exact ⟨_, _, same_seqT s1 ha, List.getElem?_eq_getElem (by simpa using hi)⟩
  · exact ⟨_, same_seqT s1 ha, by simp⟩
  · rintro i y H1 H' F hi s1 ⟨rfl, yx⟩ kk
    have e := yx _ (same_seqT s1 ha)
    obtain ⟨z, hz, rfl⟩ := strs_at e
    refine ⟨rfl, .str z, rfl, z, rfl, hm z (List.mem_of_getElem? hz), fun H4 s4 => kk _ _ ?_ s4⟩
    rw [List.getElem?_map, hz]
    rfl
  · intro acc H1 s1 e hacc hy
    have eb : acc = (ns.map nameS).map V.bl := bools_of (by simp [hacc]) hy
    subst eb
    refine ⟨L, _, rfl, SqL.of e, _, rfl, ?_⟩
    have ea : (ns.map nameS).all id = ns.all nameS := by rw [List.all_map]; rfl
    rw [ea]
    cases hall : ns.all nameS with
    | false =>
      refine iteT ?_
      have z := k H1 s1
      unfold namesS at z
      rw [hall] at z
      exact z
    | true =>
      refine iteF ?_
      refine ⟨_, rfl, _, rfl, _, rfl, ?_⟩
      show tNoPart _ _ _
      unfold tNoPart
      refine rSlA_any (same_seqT s1 ha) (cut_from 1) fun b H2 s2 hb => ?_
      rw [← List.map_drop] at hb
      refine ⟨a, b, _, _, rfl, .inr ⟨same_seqT (s1.trans s2) ha, hb, fun Z hZ => ?_⟩⟩
      refine lc_zip (same_seqT (s1.trans s2) ha) hb (by simp) (by rw [sizeLine_eq]; simp; omega) (fun i y _ => (((ns.zip (ns.drop 1)).map fun p => decide (p.1.cps.toList < p.2.cps.toList))[i]?.map V.bl) = some y) (fun _ _ _ _ _ h => h) hZ ?_ ?_
      · intro i x y T H3 H4 F hx hy s3 s4 hT kk
        obtain ⟨x, ex, rfl⟩ := strs_at hx
        obtain ⟨y, ey, rfl⟩ := strs_at hy
        refine ⟨T, _, rfl, SqT.of hT, rfl, _, _, rfl, _, _, rfl, ⟨rfl, rfl, _, rfl, _, rfl, _, _, rfl, rfl, ?_⟩⟩
        refine kk _ _ ?_ s4
        rw [List.getElem?_map, List.getElem?_zip_eq_some (z := (x, y)) |>.mpr ⟨ex, ey⟩]
        rfl
      · intro acc H3 s3 e3 hl3 hy3
        have eb : acc = ((ns.zip (ns.drop 1)).map fun p => decide (p.1.cps.toList < p.2.cps.toList)).map V.bl := bools_of (by simp [hl3]) hy3
        subst eb
        refine ⟨Z, _, rfl, SqL.of e3, ?_⟩
        have z := k H3 (s1.trans (s2.trans s3))
        unfold namesS riseS at z
        rw [hall, Bool.true_and] at z
        rw [List.all_map]
        exact z
end
end K12
set_option maxHeartbeats 4000000
namespace K12
open PySem PySem.Spec PyProof.Rows L2 Hx RZ
/-! ### taps, numbers, texts of numbers: the program -/
def tapsS (ns : List Str) : Bool := namesS ns && (decide (2 ≤ ns.length) && decide (ns.length ≤ 6))
abbrev natS (n : Int) : Str := Str.ofString (toString n)
def Num.text : Num → Str
  | .w i => natS i
  | .q t b => natS t ++ "/" ++ natS b
def Num.low30 (n : Num) : Prop := n.top.natAbs < 10 ^ 31 ∧ n.low.natAbs < 10 ^ 31
def Num.ok0 (n : Num) : Bool := n.ok && decide (0 ≤ n.top)
theorem log_small {n : Nat} (h : n < 10 ^ 31) : n.log2 < 1920 := by
  by_cases e : n = 0
  · subst e; decide
  · exact (Nat.log2_lt e).mpr (Nat.lt_trans h (by decide +kernel))
theorem natS_len {i : Int} (h0 : 0 ≤ i) (h : i < 10 ^ 31) : (natS i).length ≤ 31 := PyProof.Rows.toString_length_le h0 (by decide) h
theorem dle {a : Nat} {k : Nat} : decide ((k : Int) ≤ (a : Int)) = decide (k ≤ a) := by
  by_cases h : k ≤ a
  · rw [decide_eq_true h, decide_eq_true (by omega)]
  · rw [decide_eq_false h, decide_eq_false (by omega)]
theorem deq_int {i j : Int} : decide (V.int i = V.int j) = decide (i = j) := by
  by_cases q : i = j
  · rw [decide_eq_true q, decide_eq_true (congrArg V.int q)]
  · rw [decide_eq_false q, decide_eq_false (fun y => q (V.int.inj y))]
theorem deq_str {i j : Str} : decide (V.str i = V.str j) = decide (i = j) := by
  by_cases q : i = j
  · rw [decide_eq_true q, decide_eq_true (congrArg V.str q)]
  · rw [decide_eq_false q, decide_eq_false (fun y => q (V.str.inj y))]
section
variable {P : Program} {w : World} {K : PySem.W.Frag} {mg : Str → Option Value} {base : Heap}
theorem sc_are_taps : FnScope ["value"] ["value"] (defScope sare_taps) := ⟨rfl, rfl, rfl, by decide +kernel, rfl, by decide +kernel, by decide +kernel⟩
theorem ok_are_taps (D : Dn K mg "are_taps" sare_taps) (B : Ok P w K mg base L2.CX0 2 "are_names" ["value"] (spNames K namesS)) (h_len : mg "len" = none) (c1 : ∃ t, mg "FEWEST_TAPS" = some (.int 2 t)) (c2 : ∃ t, mg "MOST_TAPS" = some (.int 6 t)) :
    Ok P w K mg base L2.CX0 3 "are_taps" ["value"] (spNames K tapsS) := by
  obtain ⟨_, gFEWEST_TAPS⟩ := c1
  obtain ⟨_, gMOST_TAPS⟩ := c2
  obtain ⟨_, _, g_are_names, k_are_names, b_are_names, F_are_names⟩ := B.ex
  refine Ok.mk0 D sc_are_taps (fun vs H Q E h => ?_) (fun _ _ _ _ _ _ us hl => match us, hl with | [_], _ => rfl) (fun f cdv A outer s H vs Q E hr h => ?_)
  · obtain ⟨x, ns, rfl, _⟩ := h
    rfl
  obtain ⟨a, ns, rfl, ha, hm, k⟩ := h
  refine ⟨_, (pss_one (ps_ret (pe_and (pe_call F_are_names hr rfl g_are_names k_are_names b_are_names .nil pass0 (pa_cons (pv 0) pa_nil)) (pe_one (pe_chain op_le op_le (pe_glob (v := .int 2) rfl gFEWEST_TAPS ⟨_, rfl⟩) (pe_lenS rfl h_len (pv 0)) (pe_glob (v := .int 6) rfl gMOST_TAPS ⟨_, rfl⟩)))))), ?_⟩
  refine ⟨_, rfl, a, ns, rfl, ha, hm, fun H1 s1 => ⟨_, rfl, ?_⟩⟩
  have z := k H1 s1
  unfold tapsS at z
  cases hn : namesS ns with
  | false =>
    rw [hn] at z
    exact iteF z
  | true =>
    rw [hn, Bool.true_and] at z
    refine iteT ⟨_, rfl, a, _, rfl, .inr (same_seqT s1 ha), _, _, rfl, rfl, _, rfl, ?_⟩
    rw [List.length_map]
    by_cases h2 : 2 ≤ ns.length
    · rw [show decide (2 ≤ (ns.length : Int)) = true from decide_eq_true (by omega)]
      refine iteT ⟨_, _, rfl, rfl, ?_⟩
      rw [decide_eq_true h2, Bool.true_and] at z
      rw [← dle] at z
      exact z
    · rw [show decide (2 ≤ (ns.length : Int)) = false from decide_eq_false (by omega)]
      rw [decide_eq_false h2] at z
      exact iteF z
/-! whole -/
def isW (d : PyData) : Bool := isTy (tagOf d) "int" && !isTy (tagOf d) "bool"
def spWhole (K : PySem.W.Frag) : Sp := fun vs H Q _ => ∃ (v : V) (d : PyData), vs = [v] ∧ Dp K H v d ∧ Q (.bl (isW d)) H
theorem sc_is_whole : FnScope ["value"] ["value"] (defScope sis_whole) := ⟨rfl, rfl, rfl, by decide +kernel, rfl, by decide +kernel, by decide +kernel⟩
theorem ok_is_whole (D : Dn K mg "is_whole" sis_whole) (h_isinstance : mg "isinstance" = none) (h_int : mg "int" = none) (h_bool : mg "bool" = none) :
    Ok P w K mg base L2.CX0 1 "is_whole" ["value"] (spWhole K) := by
  refine Ok.mk0 D sc_is_whole (fun vs H Q E h => ?_) (fun _ _ _ _ _ _ us hl => match us, hl with | [_], _ => rfl) (fun f cdv A outer s H vs Q E hr h => ?_)
  · obtain ⟨x, ns, rfl, _⟩ := h
    rfl
  obtain ⟨v, d, rfl, hd, k⟩ := h
  refine ⟨_, (pss_one (ps_ret (pe_and (pe_isD "int" rfl h_isinstance h_int (pv 0)) (pe_one (pe_not (pe_isD "bool" rfl h_isinstance h_bool (pv 0))))))), ?_⟩
  refine ⟨_, rfl, d, hd, _, rfl, ?_⟩
  unfold isW at k
  cases e : isTy (tagOf d) "int" with
  | false =>
    rw [e] at k
    exact iteF k
  | true =>
    rw [e, Bool.true_and] at k
    exact iteT ⟨_, rfl, d, hd, _, rfl, k⟩
/-! number -/
theorem sc_is_number : FnScope ["value", "top", "bottom"] ["value"] (defScope sis_number) := ⟨rfl, rfl, rfl, by decide +kernel, rfl, by decide +kernel, by decide +kernel⟩
theorem ok_is_number (D : Dn K mg "is_number" sis_number) (B : Ok P w K mg base L2.CX0 1 "is_whole" ["value"] (spWhole K)) (h_isinstance : mg "isinstance" = none) (h_tuple : mg "tuple" = none) (h_len : mg "len" = none) (g_gcd : mg "gcd" = some (.builtin "math.gcd")) :
    Ok P w K mg base L2.CX0 2 "is_number" ["value"] (spIsNum K) := by
  obtain ⟨_, _, g_is_whole, k_is_whole, b_is_whole, F_is_whole⟩ := B.ex
  refine Ok.mk0 D sc_is_number (fun vs H Q E h => ?_) (fun _ _ _ _ _ _ us hl => match us, hl with | [_], _ => rfl) (fun f cdv A outer s H vs Q E hr h => ?_)
  · obtain ⟨x, ns, rfl, _⟩ := h
    rfl
  obtain ⟨v, n, rfl, hn, k⟩ := h
  have nd := sc_is_number.nd
  refine ⟨_, (pss_cons (ps_if (pt_val (pe_call F_is_whole hr rfl g_is_whole k_is_whole b_is_whole .nil pass0 (pa_cons (pv 0) pa_nil)))
      (pss_one (ps_ret pe_bl))
      pss_nil)
    (pss_cons (ps_if (PW.pt (pw_or (pt_not (pt_val (pe_isD "tuple" rfl h_isinstance h_tuple (pv 0)))) (pw_or1 (pt_cmpR op_ne (pe_lenS rfl h_len (pv 0)) pe_int (nomark _)))))
      (pss_one (ps_ret pe_bl))
      pss_nil)
    (pss_cons (ps_asg (pv 0) (pg_tup (by rfl) (pgs_cons (pg_name (i := 1) nd rfl (Or.inl rfl)) (pgs_cons (pg_name (i := 2) nd rfl (Or.inl rfl)) pgs_nil))))
    (pss_one (ps_ret (pe_and (pe_call F_is_whole hr rfl g_is_whole k_is_whole b_is_whole .nil pass0 (pa_cons (pv 1) pa_nil)) (pe_and (pe_call F_is_whole hr rfl g_is_whole k_is_whole b_is_whole .nil pass0 (pa_cons (pv 2) pa_nil)) (pe_and (pe_cmpR op_ge (pv 2) pe_int (nomark _)) (pe_one (pe_cmpR op_eq (pe_callBfun cr_gcd (by rfl) g_gcd (pa_cons (pv 1) (pa_cons (pv 2) pa_nil))) pe_int (nomark _))))))))))), ?_⟩
  cases n with
  | w i =>
    obtain rfl : v = .int i := hn
    exact ⟨_, rfl, .int i, .int i, rfl, .int i, _, rfl, iteT (k H (Same.refl H))⟩
  | q t b =>
    have hn' := hn.dt.dp
    obtain ⟨a, rfl, ha⟩ := hn
    refine ⟨_, rfl, .ref a, .tuple [.int t, .int b], rfl, hn', _, rfl, iteF ?_⟩
    refine ⟨_, rfl, .tuple [.int t, .int b], hn', true, rfl, iteF ?_⟩
    refine ⟨_, rfl, a, _, rfl, .inr ha, rfl, _, rfl, iteF ?_⟩
    refine ⟨_, rfl, a, _, rfl, ha, rfl, _, _, rfl, _, _, rfl, rfl, ?_⟩
    refine ⟨_, rfl, .int t, .int t, rfl, .int t, _, rfl, iteT ?_⟩
    refine ⟨_, rfl, .int b, .int b, rfl, .int b, _, rfl, iteT ?_⟩
    have ek : Num.ok (.q t b) = (decide (2 ≤ b) && decide ((Nat.gcd t.natAbs b.natAbs : Int) = 1)) := rfl
    refine ⟨_, rfl, _, _, rfl, rfl, _, rfl, ?_⟩
    have z := k _ (Same.refl H)
    rw [ek] at z
    by_cases h2 : 2 ≤ b
    · rw [decide_eq_true h2] at z ⊢
      rw [Bool.true_and, ← deq_int] at z
      refine iteT ⟨_, rfl, _, rfl, t, b, rfl, rfl, z⟩
    · rw [decide_eq_false h2] at z ⊢
      exact iteF z
/-! its top; from 0 on -/
theorem sc_top_of : FnScope ["value"] ["value"] (defScope stop_of) := ⟨rfl, rfl, rfl, by decide +kernel, rfl, by decide +kernel, by decide +kernel⟩
theorem ok_top_of (D : Dn K mg "top_of" stop_of) (h_isinstance : mg "isinstance" = none) (h_tuple : mg "tuple" = none) : Ok P w K mg base L2.CX0 1 "top_of" ["value"] (spTop K Num.top) := by
  refine Ok.mk0 D sc_top_of (fun vs H Q E h => ?_) (fun _ _ _ _ _ _ us hl => match us, hl with | [_], _ => rfl) (fun f cdv A outer s H vs Q E hr h => ?_)
  · obtain ⟨x, ns, rfl, _⟩ := h
    rfl
  obtain ⟨v, n, rfl, hn, k⟩ := h
  refine ⟨_, (pss_one (ps_ret (pe_ifExp (pt_val (pe_isD "tuple" rfl h_isinstance h_tuple (pv 0))) (pe_ix ix_tup (pv 0) pe_int (fun _ _ => rfl)) (pv 0)))), ?_⟩
  cases n with
  | w i =>
    obtain rfl : v = .int i := hn
    exact ⟨_, rfl, .int i, .int i, _, rfl, iteF ⟨_, rfl, k⟩⟩
  | q t b =>
    have hn' := hn.dt.dp
    obtain ⟨a, rfl, ha⟩ := hn
    exact ⟨_, rfl, .tuple [.int t, .int b], hn', _, rfl, iteT ⟨_, rfl, a, _, 0, _, rfl, rfl, ha, rfl, k⟩⟩
theorem sc_is_number_from_0 : FnScope ["value"] ["value"] (defScope sis_number_from_0) := ⟨rfl, rfl, rfl, by decide +kernel, rfl, by decide +kernel, by decide +kernel⟩
def spIsNum0 (K : PySem.W.Frag) : Sp := fun vs H Q _ => ∃ (v : V) (n : Num), vs = [v] ∧ NumAt K H v n ∧ ∀ H', Same H H' → Q (.bl n.ok0) H'
theorem ok_is_number_from_0 (D : Dn K mg "is_number_from_0" sis_number_from_0) (B1 : Ok P w K mg base L2.CX0 2 "is_number" ["value"] (spIsNum K)) (B2 : Ok P w K mg base L2.CX0 1 "top_of" ["value"] (spTop K Num.top)) : Ok P w K mg base L2.CX0 3 "is_number_from_0" ["value"] (spIsNum0 K) := by
  obtain ⟨_, _, g_is_number, k_is_number, b_is_number, F_is_number⟩ := B1.ex
  obtain ⟨_, _, g_top_of, k_top_of, b_top_of, F_top_of⟩ := B2.ex
  refine Ok.mk0 D sc_is_number_from_0 (fun vs H Q E h => ?_) (fun _ _ _ _ _ _ us hl => match us, hl with | [_], _ => rfl) (fun f cdv A outer s H vs Q E hr h => ?_)
  · obtain ⟨x, ns, rfl, _⟩ := h
    rfl
  obtain ⟨v, n, rfl, hn, k⟩ := h
  refine ⟨_, (pss_one (ps_ret (pe_and (pe_call F_is_number hr rfl g_is_number k_is_number b_is_number .nil pass0 (pa_cons (pv 0) pa_nil)) (pe_one (pe_cmpR op_ge (pe_call F_top_of (hr.mono (by decide)) rfl g_top_of k_top_of b_top_of .nil pass0 (pa_cons (pv 0) pa_nil)) pe_int (nomark _)))))), ?_⟩
  refine ⟨_, rfl, v, n, rfl, hn, fun H1 s1 => ⟨_, rfl, ?_⟩⟩
  have z := k H1 s1
  unfold Num.ok0 at z
  cases e : n.ok with
  | false =>
    rw [e] at z
    exact iteF z
  | true =>
    rw [e, Bool.true_and] at z
    exact iteT ⟨_, rfl, v, n, rfl, hn.keep (.of s1), _, _, rfl, rfl, z⟩
/-! the text of a number -/
def spNumText (K : PySem.W.Frag) : Sp := fun vs H Q _ => ∃ (v : V) (n : Num), vs = [v] ∧ NumAt K H v n ∧ 0 ≤ n.top ∧ n.top < 10 ^ 31 ∧ 0 ≤ n.low ∧ n.low < 10 ^ 31 ∧ Q (.str n.text) H
theorem sc_number_text : FnScope ["value"] ["value"] (defScope snumber_text) := ⟨rfl, rfl, rfl, by decide +kernel, rfl, by decide +kernel, by decide +kernel⟩
theorem ok_number_text (D : Dn K mg "number_text" snumber_text) (h_isinstance : mg "isinstance" = none) (h_tuple : mg "tuple" = none) (h_str : mg "str" = none) : Ok P w K mg base L2.CX0 1 "number_text" ["value"] (spNumText K) := by
  refine Ok.mk0 D sc_number_text (fun vs H Q E h => ?_) (fun _ _ _ _ _ _ us hl => match us, hl with | [_], _ => rfl) (fun f cdv A outer s H vs Q E hr h => ?_)
  · obtain ⟨x, ns, rfl, _⟩ := h
    rfl
  obtain ⟨v, n, rfl, hn, t0, t1, l0, l1, k⟩ := h
  refine ⟨_, (pss_cons (ps_if (pt_val (pe_isD "tuple" rfl h_isinstance h_tuple (pv 0)))
      (pss_one (ps_ret (pe_joined (.cons (pe_fmt (pe_ix ix_tup (pv 0) pe_int (fun _ _ => rfl))) (.cons pe_str (.cons (pe_fmt (pe_ix ix_tup (pv 0) pe_int (fun _ _ => rfl))) .nil))))))
      pss_nil)
    (pss_one (ps_ret (pe_callTy call_str_int (by rfl) h_str (by decide +kernel) (pa_cons (pv 0) pa_nil))))), ?_⟩
  cases n with
  | w i =>
    obtain rfl : v = .int i := hn
    exact ⟨_, rfl, .int i, .int i, _, rfl, iteF ⟨_, rfl, i, rfl, log_small (by simp only [Num.top] at t0 t1; omega), k⟩⟩
  | q t b =>
    have hn' := hn.dt.dp
    obtain ⟨a, rfl, ha⟩ := hn
    simp only [Num.top, Num.low] at t0 t1 l0 l1
    refine ⟨_, rfl, .tuple [.int t, .int b], hn', _, rfl, iteT ?_⟩
    have l1' := natS_len t0 t1
    have l2' := natS_len l0 l1
    have e0 : Str.empty ++ natS t = natS t := TL.ext_tl (by rw [TL.tl_append]; rfl)
    have sz : ∀ n : Nat, n ≤ 100 → n ≤ sizeLine := fun n h => by rw [sizeLine_eq]; omega
    refine ⟨_, rfl, a, _, 0, _, rfl, rfl, ha, rfl, .inr ⟨t, rfl, log_small (by omega), natS t, rfl, ?_, Str.ofString "/", rfl, ?_, _, rfl, a, _, 1, _, rfl, rfl, ha, rfl, .inr ⟨b, rfl, log_small (by omega), natS b, rfl, ?_, ?_⟩⟩⟩
    · rw [e0]
      exact sz _ (by omega)
    · rw [e0]
      exact sz _ (by rw [TL.len_tl, TL.tl_append, List.length_append, ← TL.len_tl, ← TL.len_tl]; have : (Str.ofString "/").length = 1 := rfl; omega)
    · rw [e0]
      exact sz _ (by rw [TL.len_tl, TL.tl_append, TL.tl_append, List.length_append, List.length_append, ← TL.len_tl, ← TL.len_tl, ← TL.len_tl]; have : (Str.ofString "/").length = 1 := rfl; omega)
    · rw [e0]
      exact k
end
end K12
set_option maxHeartbeats 4000000
namespace K12
open PySem PySem.Spec PyProof.Rows L2 Hx RZ
/-! ### texts of numbers read: the program -/
abbrev DIG : Str := "0123456789"
def wholeS (x : Str) : Option Nat :=
  if (1 ≤ x.length ∧ x.length ≤ 30) ∧ (x.cps.toList.all fun c => decide (c ∈ DIG.cps.toList)) = true ∧ ¬ (1 < x.length ∧ x.cps.toList[0]? = some 48) then some (NumText.digitsVal x.cps.toList) else none
def optI : Option Nat → V
  | none => .non
  | some n => .int n
theorem all_map_id {α : Type} (f : α → Bool) (l : List α) : (l.map f).all id = l.all f := by rw [List.all_map]; rfl
theorem dig_mem {c : Nat} (h : c ∈ DIG.cps.toList) : 48 ≤ c ∧ c ≤ 57 := by
  have e : DIG.cps.toList = [48, 49, 50, 51, 52, 53, 54, 55, 56, 57] := by decide +kernel
  rw [e] at h
  simp at h
  omega
theorem int_digits {x : Str} (h1 : 1 ≤ x.length) (h30 : x.length ≤ 30) (h : (x.cps.toList.all fun c => decide (c ∈ DIG.cps.toList)) = true) : intText? x = some ((NumText.digitsVal x.cps.toList : Nat) : Int) := by
  refine intText_digits (fun c hc => dig_mem (of_decide_eq_true (List.all_eq_true.mp h c hc))) (fun e => ?_) (by omega)
  have : x.cps.toList.length = x.length := by simp [Str.length]
  rw [e] at this
  simp at this
  omega
section
variable {P : Program} {w : World} {K : PySem.W.Frag} {mg : Str → Option Value} {base : Heap}
def spReadWhole : Sp := fun vs H Q _ => ∃ x : Str, vs = [.str x] ∧ x.length ≤ 100000 ∧ ∀ H', Same H H' → Q (optI (wholeS x)) H'
theorem sc_read_whole : FnScope ["text", "sign"] ["text"] (defScope sread_whole) := ⟨rfl, rfl, rfl, by decide +kernel, rfl, by decide +kernel, by decide +kernel⟩
theorem ok_read_whole (D : Dn K mg "read_whole" sread_whole) (h_len : mg "len" = none) (h_all : mg "all" = none) (h_int : mg "int" = none) (c1 : ∃ t, mg "MOST_DIGITS" = some (.int 30 t)) (c2 : ∃ t, mg "DIGITS" = some (.str DIG t)) :
    Ok P w K mg base L2.CX0 1 "read_whole" ["text"] spReadWhole := by
  obtain ⟨_, gMOST_DIGITS⟩ := c1
  obtain ⟨_, gDIGITS⟩ := c2
  refine Ok.mk0 D sc_read_whole (fun vs H Q E h => ?_) (fun _ _ _ _ _ _ us hl => match us, hl with | [_], _ => rfl) (fun f cdv A outer s H vs Q E hr h => ?_)
  · obtain ⟨x, rfl, _⟩ := h
    rfl
  obtain ⟨x, rfl, hx, k⟩ := h
  have nd := sc_read_whole.nd
  refine ⟨_, (pss_cons (ps_if (PW.pt (pw_or (pt_not (pt_chain op_le op_le pe_int (pe_callB call_len_str (by rfl) h_len (by decide +kernel) (pa_cons (pv 0) pa_nil)) (pe_glob (v := .int 30) rfl gMOST_DIGITS ⟨_, rfl⟩))) (pw_or1 (pt_not (pt_val (pe_callB (cr_all rfl) (by rfl) h_all (by decide +kernel) (pa_cons (pe_lc (own := [("sign", 1)]) (g := gName 1) (tt := tYes) rfl nd (pi_str (pv 0)) (blkOk_by (own := [("sign", 1)]) (N := ["text", "sign"]) (sc := defScope sread_whole) (by decide +kernel)) (fun _ _ _ _ _ => pg_name (i := 1) nd rfl (Or.inl rfl)) (fun _ _ _ _ _ => pts_nil) (fun _ _ _ _ _ => (pe_cmpR op_in_sign (pv 1) (pe_glob (v := .str DIG) rfl gDIGITS ⟨_, rfl⟩) (by rfl)))) pa_nil)))))))
      (pss_one (ps_ret pe_non))
      pss_nil)
    (pss_cons (ps_if (PW.pt (pw_and (pt_cmpR op_gt (pe_callB call_len_str (by rfl) h_len (by decide +kernel) (pa_cons (pv 0) pa_nil)) pe_int (nomark _)) (pw_and1 (pt_cmpR op_eq (pe_ix ix_str (pv 0) pe_int (fun _ _ => rfl)) pe_str (nomark _)))))
      (pss_one (ps_ret pe_non))
      pss_nil)
    (pss_one (ps_ret (pe_callTy call_int_str (by rfl) h_int (by decide +kernel) (pa_cons (pv 0) pa_nil)))))), ?_⟩
  have hcs : x.cps.toList.length = x.length := by simp [Str.length]
  have hsz : x.length ≤ sizeLine := by rw [sizeLine_eq]; omega
  have no : ∀ H', Same H H' → wholeS x = none → Q .non H' := fun H' s e => by
    have z := k H' s
    rw [e] at z
    exact z
  refine ⟨_, rfl, x, rfl, hsz, _, _, rfl, rfl, _, rfl, ?_⟩
  by_cases h1 : 1 ≤ (x.length : Int)
  · rw [decide_eq_true h1]
    refine iteT ⟨_, _, rfl, rfl, _, rfl, ?_⟩
    by_cases h30 : (x.length : Int) ≤ 30
    · rw [decide_eq_true h30]
      refine iteF ⟨_, rfl, x, rfl, fun Z hZ => ?_⟩
      have n30 : x.cps.size ≤ 30 := by have := hcs; simp at this; omega
      refine lc_rel (n := x.cps.size) (J := Its x) (fun i y _ => (x.cps.toList.map fun c => decide (c ∈ DIG.cps.toList))[i]?.map V.bl = some y) (fun _ _ _ _ _ h => h) hZ (by rw [sizeLine_eq]; omega) (fun i H hi _ => hi) (fun H _ => Nat.le_refl _) ?_ ?_
      · rintro i y H1 H' F hi s1 ⟨rfl, c, hc, rfl⟩ kk
        refine ⟨rfl, _, rfl, c, _, rfl, rfl, kk _ _ ?_ (Same.refl _)⟩
        rw [List.getElem?_map, Array.getElem?_toList, hc]
        rfl
      · intro acc H1 s1 e hl hy
        have eb : acc = (x.cps.toList.map fun c => decide (c ∈ DIG.cps.toList)).map V.bl := bools_of (by simp [hl]) hy
        subst eb
        refine ⟨Z, _, rfl, SqL.of e, _, rfl, ?_⟩
        rw [all_map_id]
        cases hall : x.cps.toList.all fun c => decide (c ∈ DIG.cps.toList) with
        | false =>
          refine iteT (no _ s1 ?_)
          unfold wholeS
          rw [if_neg (fun h => by rw [hall] at h; exact absurd h.2.1 (by decide))]
        | true =>
          refine iteF ?_
          have fin : ¬ (1 < x.length ∧ x.cps.toList[0]? = some 48) → tRet (tCB (fun xs H Q => ∃ a n, xs = [.str a] ∧ PySem.intText? a = some n ∧ a.length ≤ 640 ∧ Q (.int n) H) (tCons (tVar 0) tNil)) { nx := fun _ H' => Q .non H', rt := Q } (L2.start ["text", "sign"] [.str x]) H1 := fun h => by
            refine ⟨_, rfl, x, _, rfl, int_digits (by omega) (by omega) hall, by omega, ?_⟩
            have z := k H1 s1
            unfold wholeS at z
            rw [if_pos ⟨⟨by omega, by omega⟩, hall, h⟩] at z
            exact z
          refine ⟨_, rfl, x, rfl, hsz, _, _, rfl, rfl, _, rfl, ?_⟩
          obtain ⟨c, r, hcr⟩ : ∃ c r, x.cps.toList = c :: r := by
            cases e : x.cps.toList with
            | nil => rw [e] at hcs; simp at hcs; omega
            | cons c r => exact ⟨c, r, rfl⟩
          by_cases hl1 : (1 : Int) < x.length
          · rw [decide_eq_true hl1]
            refine iteT ⟨_, rfl, x, 0, c, rfl, rfl, hsz, ?_, rfl, _, rfl, ?_⟩
            · exact atI_nat (xs := x.cps.toList) (j := 0) (v := c) (by rw [hcr]; rfl)
            rw [deq_str]
            by_cases h0 : c = 48
            · subst h0
              rw [decide_eq_true (show (⟨#[48]⟩ : Str) = Str.ofString "0" by decide +kernel)]
              refine iteT (no _ s1 ?_)
              unfold wholeS
              rw [if_neg (fun h => h.2.2 ⟨by omega, by rw [hcr]; rfl⟩)]
            · rw [decide_eq_false (fun q => h0 (by have e := congrArg (fun z : Str => z.cps.toList) q; rw [show (Str.ofString "0").cps.toList = [48] by decide +kernel] at e; simpa using e))]
              exact iteF (fin fun h => h0 (by have := h.2; rw [hcr] at this; simpa using this))
          · rw [decide_eq_false hl1]
            exact iteF (fin fun h => hl1 (by omega))
    · rw [decide_eq_false h30]
      refine iteT (no H (Same.refl H) ?_)
      unfold wholeS
      rw [if_neg (fun h => by omega)]
  · rw [decide_eq_false h1]
    refine iteF ⟨_, rfl, iteT (no H (Same.refl H) ?_)⟩
    unfold wholeS
    rw [if_neg (fun h => by omega)]
end
end K12
set_option maxHeartbeats 4000000
namespace K12
open PySem PySem.Spec PyProof.Rows L2 Hx RZ
/-! ### read_number -/
abbrev SL : Str := "/"
def numRead (x : Str) : Option Num :=
  match wholeS (Txt.partition x SL).1 with
  | none => none
  | some t => if (Txt.partition x SL).2.1.length = 0 then some (.w t) else
    match wholeS (Txt.partition x SL).2.2 with
    | none => none
    | some b => if Num.ok (.q t b) = true then some (.q t b) else none
def OptNum (K : PySem.W.Frag) (H : Hp) (v : V) : Option Num → Prop
  | none => v = .non
  | some n => NumAt K H v n
theorem OptNum.keep {K : PySem.W.Frag} {H H' : Hp} {v : V} (e : TK H H') : ∀ {n : Option Num}, OptNum K H v n → OptNum K H' v n
  | none, h => h
  | some _, h => NumAt.keep e h
section
variable {P : Program} {w : World} {K : PySem.W.Frag} {mg : Str → Option Value} {base : Heap}
def spReadNum (K : PySem.W.Frag) (f : Str → Option Num) : Sp := fun vs H Q _ => ∃ x : Str, vs = [.str x] ∧ x.length ≤ 100000 ∧ ∀ v H', Same H H' → OptNum K H' v (f x) → Q v H'
theorem same_upd {H : Hp} {a : Addr} {o : HO} (h : H a = none) : Same H (upd H a o) := fun b u e => by rw [upd_ne (ne_of_none e h)]; exact e
theorem sc_read_number : FnScope ["text", "top_text", "stroke", "bottom_text", "top", "bottom"] ["text"] (defScope sread_number) := ⟨rfl, rfl, rfl, by decide +kernel, rfl, by decide +kernel, by decide +kernel⟩
theorem ok_read_number (D : Dn K mg "read_number" sread_number) (B1 : Ok P w K mg base L2.CX0 1 "read_whole" ["text"] spReadWhole) (B2 : Ok P w K mg base L2.CX0 2 "is_number" ["value"] (spIsNum K)) :
    Ok P w K mg base L2.CX0 3 "read_number" ["text"] (spReadNum K numRead) := by
  obtain ⟨_, _, g_read_whole, k_read_whole, b_read_whole, F_read_whole⟩ := B1.ex
  obtain ⟨_, _, g_is_number, k_is_number, b_is_number, F_is_number⟩ := B2.ex
  refine Ok.mk0 D sc_read_number (fun vs H Q E h => ?_) (fun _ _ _ _ _ _ us hl => match us, hl with | [_], _ => rfl) (fun f cdv A outer s H vs Q E hr h => ?_)
  · obtain ⟨x, rfl, _⟩ := h
    rfl
  obtain ⟨x, rfl, hx, k⟩ := h
  have nd := sc_read_number.nd
  have hr1 := hr.mono (show 1 ≤ 2 by decide)
  refine ⟨_, (pss_cons (ps_asg (pe_partition (pv 0) pe_str) (pg_tup (by rfl) (pgs_cons (pg_name (i := 1) nd rfl (Or.inl rfl)) (pgs_cons (pg_name (i := 2) nd rfl (Or.inl rfl)) (pgs_cons (pg_name (i := 3) nd rfl (Or.inl rfl)) pgs_nil)))))
    (pss_cons (ps_set (i := 4) nd rfl (Or.inl rfl) (pe_call F_read_whole hr1 rfl g_read_whole k_read_whole b_read_whole .nil pass0 (pa_cons (pv 1) pa_nil)))
    (pss_cons (ps_if (PW.pt (pw_or (pt_not (pt_truth (pv 2) (by intro _; rfl))) (pw_or1 (pt_cmpR op_isN (pv 4) pe_non (nomark _)))))
      (pss_one (ps_ret (pv 4)))
      pss_nil)
    (pss_cons (ps_set (i := 5) nd rfl (Or.inl rfl) (pe_call F_read_whole hr1 rfl g_read_whole k_read_whole b_read_whole .nil pass0 (pa_cons (pv 3) pa_nil)))
    (pss_cons (ps_if (PW.pt (pw_or (pt_cmpR op_isN (pv 5) pe_non (nomark _)) (pw_or1 (pt_not (pt_val (pe_call F_is_number hr rfl g_is_number k_is_number b_is_number .nil pass0 (pa_cons (pe_tup (pa_cons (pv 4) (pa_cons (pv 5) pa_nil))) pa_nil)))))))
      (pss_one (ps_ret pe_non))
      pss_nil)
    (pss_one (ps_ret (pe_tup (pa_cons (pv 4) (pa_cons (pv 5) pa_nil)))))))))), ?_⟩
  obtain ⟨q1, q2, q3⟩ := PyProof.Rows.fact_partition x SL
  have sz : ∀ n : Nat, n ≤ x.length → n ≤ sizeLine := fun n h => by rw [sizeLine_eq]; omega
  refine ⟨_, rfl, ⟨_, rfl⟩, x, SL, rfl, rfl, by decide +kernel, sz _ (Nat.le_refl _), fun p hp => ?_⟩
  have s1 := same_upd (o := .tup [.str (Txt.partition x SL).1, .str (Txt.partition x SL).2.1, .str (Txt.partition x SL).2.2]) hp
  refine ⟨p, _, rfl, SqT.of upd_same, rfl, _, _, rfl, _, _, rfl, _, _, rfl, rfl, ?_⟩
  refine ⟨_, rfl, _, rfl, by omega, fun H2 s2 => ?_⟩
  have s12 := s1.trans s2
  have out : ∀ v H', Same H2 H' → OptNum K H' v (numRead x) → Q v H' := fun v H' s => k v H' (s12.trans s)
  generalize hA : wholeS (Txt.partition x SL).1 = oA
  refine ⟨_, rfl, _, ⟨sz _ q2, rfl⟩, ?_⟩
  by_cases hs : (Txt.partition x SL).2.1.length = 0
  · rw [show ((((Txt.partition x SL).2.1.length : Int)) != 0) = false by rw [hs]; rfl]
    refine iteT ⟨_, rfl, out _ _ (Same.refl _) ?_⟩
    unfold numRead
    rw [hA]
    cases oA with
    | none => rfl
    | some t =>
      show OptNum K H2 _ (if _ then _ else _)
      rw [if_pos hs]
      rfl
  · rw [show ((((Txt.partition x SL).2.1.length : Int)) != 0) = true by simp; omega]
    refine iteF ⟨_, rfl, rfl, _, rfl, ?_⟩
    cases oA with
    | none =>
      refine iteT ⟨_, rfl, out _ _ (Same.refl _) ?_⟩
      unfold numRead
      rw [hA]
      rfl
    | some t =>
      refine iteF ⟨_, rfl, _, rfl, by omega, fun H3 s3 => ?_⟩
      generalize hB : wholeS (Txt.partition x SL).2.2 = oB
      refine ⟨_, rfl, rfl, _, rfl, ?_⟩
      cases oB with
      | none =>
        refine iteT (out _ _ s3 ?_)
        unfold numRead
        rw [hA]
        show OptNum K H3 _ (if _ then _ else _)
        rw [if_neg hs, hB]
        rfl
      | some b =>
        refine iteF ?_
        refine ⟨_, rfl, _, rfl, (by show 2 ≤ sizeLine; rw [sizeLine_eq]; decide), fun p2 hp2 => ?_⟩
        have s4 := same_upd (o := .tup [.int t, .int b]) hp2
        refine ⟨_, .q t b, rfl, ⟨p2, rfl, SqT.of upd_same⟩, fun H5 s5 => ?_⟩
        refine ⟨_, rfl, ?_⟩
        cases ho : Num.ok (.q t b) with
        | false =>
          refine iteT (out _ _ (s3.trans (s4.trans s5)) ?_)
          unfold numRead
          rw [hA]
          show OptNum K H5 _ (if _ then _ else _)
          rw [if_neg hs, hB]
          show OptNum K H5 _ (if _ then _ else _)
          rw [ho, if_neg (by decide)]
          rfl
        | true =>
          refine iteF ⟨_, rfl, _, rfl, (by show 2 ≤ sizeLine; rw [sizeLine_eq]; decide), fun p6 hp6 => out _ _ (s3.trans (s4.trans (s5.trans (same_upd hp6)))) ?_⟩
          unfold numRead
          rw [hA]
          show OptNum K _ _ (if _ then _ else _)
          rw [if_neg hs, hB]
          show OptNum K _ _ (if _ then _ else _)
          rw [ho, if_pos rfl]
          exact ⟨p6, rfl, SqT.of upd_same⟩
end
end K12
set_option maxHeartbeats 4000000
namespace K12
open PySem PySem.Spec PyProof.Rows L2 Hx RZ
/-! ### parts of nets -/
abbrev HUB : Str := "hub"
abbrev PIPE : Str := "pipe"
abbrev LEAD : Str := "lead"
/-- a part, right or wrong: words and a number, or a hub -/
inductive Raw | flat (ws : List Str) (n : Num) | hub (ns : List Str) (n : Num)
  deriving DecidableEq
def Raw.num : Raw → Num
  | .flat _ n => n
  | .hub _ n => n
def Raw.ends : Raw → List Str
  | .flat (_ :: x :: y :: _) _ => [x, y]
  | .flat _ _ => []
  | .hub ns _ => ns
def Raw.word : Raw → Str
  | .flat (k :: _) _ => k
  | .flat [] _ => ""
  | .hub _ _ => HUB
def Raw.ok : Raw → Bool
  | .flat [k, x, y] n => (nameS x && nameS y) && ((decide (k = PIPE) && decide (x.cps.toList < y.cps.toList)) || (decide (k = LEAD) && decide (x ≠ y))) && n.ok0
  | .flat _ _ => false
  | .hub ns n => namesS ns && decide (2 ≤ ns.length) && n.ok0
def RawAt (K : PySem.W.Frag) (H : Hp) (v : V) : Raw → Prop
  | .flat ws n => ∃ a u, v = .ref a ∧ SqT K H a (ws.map V.str ++ [u]) ∧ NumAt K H u n
  | .hub ns n => ∃ a b u, v = .ref a ∧ SqT K H a [.str HUB, .ref b, u] ∧ SqT K H b (ns.map V.str) ∧ NumAt K H u n
theorem RawAt.keep {K : PySem.W.Frag} {H H' : Hp} {v : V} (e : TK H H') : ∀ {r : Raw}, RawAt K H v r → RawAt K H' v r
  | .flat ws n, ⟨a, u, h1, h2, h3⟩ => ⟨a, u, h1, tk_seqT e h2, h3.keep e⟩
  | .hub ns n, ⟨a, b, u, h1, h2, h3, h4⟩ => ⟨a, b, u, h1, tk_seqT e h2, tk_seqT e h3, h4.keep e⟩
inductive RawsAt (K : PySem.W.Frag) (H : Hp) : List V → List Raw → Prop
  | nil : RawsAt K H [] []
  | cons {v : V} {r : Raw} {vs : List V} {rs : List Raw} (h : RawAt K H v r) (t : RawsAt K H vs rs) : RawsAt K H (v :: vs) (r :: rs)
section
variable {K : PySem.W.Frag} {H H' : Hp}
theorem RawsAt.keep (e : TK H H') : ∀ {vs : List V} {rs : List Raw}, RawsAt K H vs rs → RawsAt K H' vs rs
  | _, _, .nil => .nil
  | _, _, .cons h t => .cons (h.keep e) (t.keep e)
theorem RawsAt.len : ∀ {vs : List V} {rs : List Raw}, RawsAt K H vs rs → vs.length = rs.length
  | _, _, .nil => rfl
  | _, _, .cons _ t => by simp [t.len]
theorem RawsAt.get : ∀ {vs : List V} {rs : List Raw} {i : Nat} {v : V}, RawsAt K H vs rs → vs[i]? = some v → ∃ r, rs[i]? = some r ∧ RawAt K H v r
  | _, _, 0, _, .cons h _, e => by simp at e; subst e; exact ⟨_, rfl, h⟩
  | _, _, i + 1, _, .cons _ t, e => by simpa using t.get (i := i) (by simpa using e)
theorem RawsAt.app : ∀ {vs us : List V} {rs qs : List Raw}, RawsAt K H vs rs → RawsAt K H us qs → RawsAt K H (vs ++ us) (rs ++ qs)
  | _, _, _, _, .nil, u => u
  | _, _, _, _, .cons h t, u => .cons h (t.app u)
end
/-- a right part -/
inductive Right : Raw → Prop
  | two (k x y : Str) (n : Num) (hx : nameS x = true) (hy : nameS y = true) (hk : (k = PIPE ∧ x.cps.toList < y.cps.toList) ∨ (k = LEAD ∧ x ≠ y)) (hn : n.ok0 = true) : Right (.flat [k, x, y] n)
  | hub (ns : List Str) (n : Num) (h : namesS ns = true) (h2 : 2 ≤ ns.length) (hn : n.ok0 = true) : Right (.hub ns n)
theorem no_ok {b : Bool} (e : b = false) (h : b = true) : False := by rw [e] at h; cases h
theorem Raw.right {r : Raw} (ok : r.ok = true) : Right r := by
  cases r with
  | hub ns n =>
    have h : ((namesS ns && decide (2 ≤ ns.length)) && n.ok0) = true := ok
    rw [Bool.and_eq_true, Bool.and_eq_true, decide_eq_true_eq] at h
    exact .hub ns n h.1.1 h.1.2 h.2
  | flat ws n =>
    rcases ws with _ | ⟨k, _ | ⟨x, _ | ⟨y, _ | ⟨z, t⟩⟩⟩⟩
    · exact (no_ok rfl ok).elim
    · exact (no_ok rfl ok).elim
    · exact (no_ok rfl ok).elim
    · have h : ((nameS x && nameS y) && ((decide (k = PIPE) && decide (x.cps.toList < y.cps.toList)) || (decide (k = LEAD) && decide (x ≠ y))) && n.ok0) = true := ok
      rw [Bool.and_eq_true, Bool.and_eq_true, Bool.and_eq_true, Bool.or_eq_true, Bool.and_eq_true, Bool.and_eq_true, decide_eq_true_eq, decide_eq_true_eq, decide_eq_true_eq, decide_eq_true_eq] at h
      exact .two k x y n h.1.1.1 h.1.1.2 h.1.2 h.2
    · exact (no_ok rfl ok).elim
theorem pipe_hub : PIPE ≠ HUB := by decide +kernel
theorem lead_hub : LEAD ≠ HUB := by decide +kernel
theorem pipe_lead : PIPE ≠ LEAD := by decide +kernel
/-- a right part has its first word and its number -/
theorem raw_first {K : PySem.W.Frag} {H : Hp} {v : V} {r : Raw} (h : RawAt K H v r) (ok : Right r) : ∃ a xs, v = .ref a ∧ SqT K H a xs ∧ atI xs 0 = some (.str r.word) ∧ (∃ u, atI xs (-1) = some u ∧ NumAt K H u r.num) := by
  cases ok with
  | two k x y n hx hy hk hn =>
    obtain ⟨a, u, e, ha, hu⟩ := h
    exact ⟨a, _, e, ha, rfl, u, rfl, hu⟩
  | hub ns n _ _ _ =>
    obtain ⟨a, b, u, e, ha, hb, hu⟩ := h
    exact ⟨a, _, e, ha, rfl, u, rfl, hu⟩
section
variable {P : Program} {w : World} {K : PySem.W.Frag} {mg : Str → Option Value} {base : Heap}
end
end K12
set_option maxHeartbeats 1000000
namespace K12
open PySem PySem.Spec PyProof.Rows L2 Hx RZ
theorem ix_tupK {X : Cx} {K : PySem.W.Frag} (h : X.K = K) : IxR X (rIxT K) := by subst h; exact ix_tup
section
variable {P : Program} {w : World} {K : PySem.W.Frag} {mg : Str → Option Value} {base : Heap}
def spEnds (K : PySem.W.Frag) : Sp := fun vs H Q _ => ∃ (v : V) (r : Raw), vs = [v] ∧ RawAt K H v r ∧ Right r ∧ ∀ p H', Same H H' → SqT K H' p (r.ends.map V.str) → Q (.ref p) H'
theorem sc_places_of_part : FnScope ["part"] ["part"] (defScope splaces_of_part) := ⟨rfl, rfl, rfl, by decide +kernel, rfl, by decide +kernel, by decide +kernel⟩
theorem ok_places_of_part (D : Dn K mg "places_of_part" splaces_of_part) : Ok P w K mg base L2.CX0 1 "places_of_part" ["part"] (spEnds K) := by
  refine Ok.mk0 D sc_places_of_part (fun vs H Q E h => ?_) (fun _ _ _ _ _ _ us hl => match us, hl with | [_], _ => rfl) (fun f cdv A outer s H vs Q E hr h => ?_)
  · obtain ⟨x, ns, rfl, _⟩ := h
    rfl
  obtain ⟨v, r, rfl, hv, ok, k⟩ := h
  refine ⟨_, (pss_one (ps_ret (pe_ifExp (pt_cmpR op_eq (pe_ix ix_tup (pv 0) pe_int (fun _ _ => rfl)) pe_str (nomark _)) (pe_ix ix_tup (pv 0) pe_int (fun _ _ => rfl)) (pe_slice sl_tupA (pv 0) (po_some pe_int) (po_some pe_int))))), ?_⟩
  cases ok with
  | hub ns n _ _ _ =>
    obtain ⟨a, b, u, rfl, ha, hb, hu⟩ := hv
    refine ⟨_, rfl, a, _, 0, _, rfl, rfl, ha, rfl, rfl, _, rfl, ?_⟩
    exact iteT ⟨_, rfl, a, _, 1, _, rfl, rfl, ha, rfl, k b H (Same.refl H) hb⟩
  | two kw x y n hx hy hk hn =>
    obtain ⟨a, u, rfl, ha, hu⟩ := hv
    have nk : kw ≠ HUB := by
      rcases hk with ⟨e, _⟩ | ⟨e, _⟩ <;> rw [e]
      · exact pipe_hub
      · exact lead_hub
    refine ⟨_, rfl, a, _, 0, _, rfl, rfl, ha, rfl, rfl, _, rfl, ?_⟩
    rw [decide_eq_false (fun q => nk (V.str.inj q))]
    refine iteF ⟨_, rfl, _, rfl, _, rfl, ?_⟩
    show rSlA K (.ref a) (some ((1 : Nat) : Int)) (some ((3 : Nat) : Int)) H _
    exact rSlA_any ha (ys := [.str x, .str y]) (cut_between 1 3 (by simp)) fun p H' s q => k p H' s q
/-! has_kind -/
def hasK (w : Str) (rs : List Raw) : Bool := rs.any fun r => decide (r.word = w)
def spHas (K : PySem.W.Frag) : Sp := fun vs H Q _ => ∃ (a : Addr) (us : List V) (rs : List Raw) (x : Str), vs = [.ref a, .str x] ∧ (SqL K H a us ∨ SqT K H a us) ∧ us.length ≤ 100000 ∧ RawsAt K H us rs ∧ (∀ r ∈ rs, Right r) ∧ ∀ H', Same H H' → Q (.bl (hasK x rs)) H'
theorem sc_has_kind : FnScope ["parts", "kind", "part"] ["parts", "kind"] (defScope shas_kind) := ⟨rfl, rfl, rfl, by decide +kernel, rfl, by decide +kernel, by decide +kernel⟩
theorem any_map_id {α : Type} (f : α → Bool) (l : List α) : (l.map f).any id = l.any f := by rw [List.any_map]; rfl
theorem ok_has_kind (D : Dn K mg "has_kind" shas_kind) (h_any : mg "any" = none) : Ok P w K mg base L2.CX0 1 "has_kind" ["parts", "kind"] (spHas K) := by
  refine Ok.mk0 D sc_has_kind (fun vs H Q E h => ?_) (fun _ _ _ _ _ _ us hl => match us, hl with | [_, _], _ => rfl) (fun f cdv A outer s H vs Q E hr h => ?_)
  · obtain ⟨a, us, rs, x, rfl, _⟩ := h
    rfl
  obtain ⟨a, us, rs, x, rfl, ha, hl, hu, ok, k⟩ := h
  have nd := sc_has_kind.nd
  refine ⟨_, (pss_one (ps_ret (pe_callB (cr_any rfl) (by rfl) h_any (by decide +kernel) (pa_cons (pe_lc (own := [("part", 2)]) (g := gName 2) (tt := tYes) rfl nd (pi_seq (pv 0)) (blkOk_by (own := [("part", 2)]) (N := ["parts", "kind", "part"]) (sc := defScope shas_kind) (by decide +kernel)) (fun _ _ _ _ _ => pg_name (i := 2) nd rfl (Or.inl rfl)) (fun _ _ _ _ _ => pts_nil) (fun _ _ _ _ _ => (pe_cmpR op_eq (pe_ix (ix_tupK (K := K) rfl) (pv 2) pe_int (fun _ _ => rfl)) (pv 1) (nomark _)))) pa_nil)))), ?_⟩
  refine ⟨_, rfl, a, us, rfl, ?_⟩
  have size : us.length < sizeLine := by rw [sizeLine_eq]; omega
  rcases ha with ha | ha
  all_goals first
    | refine .inl ⟨ha, fun D hD => lc_lst1 ha size (fun i y _ => (rs.map fun r => decide (r.word = x))[i]?.map V.bl = some y) (fun _ _ _ _ _ h => h) hD ?_ ?_⟩
    | refine .inr ⟨ha, fun D hD => lc_tup1 ha size (fun i y _ => (rs.map fun r => decide (r.word = x))[i]?.map V.bl = some y) (fun _ _ _ _ _ h => h) hD ?_ ?_⟩
  all_goals first
    | (intro i v H1 F hv s1 kk
       obtain ⟨r, hr2, hraw⟩ := hu.get hv
       obtain ⟨b, ys, rfl, hb, h0, _⟩ := raw_first hraw (ok r (List.mem_of_getElem? hr2))
       refine ⟨rfl, _, rfl, b, ys, 0, _, rfl, rfl, same_seqT s1 hb, h0, _, rfl, rfl, kk _ _ ?_ (Same.refl _)⟩
       rw [List.getElem?_map, hr2, deq_str]
       rfl)
    | (intro acc H1 s1 e hl1 hy1
       have eb : acc = (rs.map fun r => decide (r.word = x)).map V.bl := bools_of (by simp [hl1, hu.len]) hy1
       subst eb
       refine ⟨D, _, rfl, SqL.of e, ?_⟩
       have z := k H1 s1
       rw [any_map_id]
       exact z)
/-! both kinds -/
def mixS (rs : List Raw) : Bool := hasK LEAD rs && hasK HUB rs
def spMix (K : PySem.W.Frag) : Sp := fun vs H Q _ => ∃ (a : Addr) (us : List V) (rs : List Raw), vs = [.ref a] ∧ (SqL K H a us ∨ SqT K H a us) ∧ us.length ≤ 100000 ∧ RawsAt K H us rs ∧ (∀ r ∈ rs, Right r) ∧ ∀ H', Same H H' → Q (.bl (mixS rs)) H'
theorem sc_mixes_leads_and_hubs : FnScope ["parts"] ["parts"] (defScope smixes_leads_and_hubs) := ⟨rfl, rfl, rfl, by decide +kernel, rfl, by decide +kernel, by decide +kernel⟩
theorem ok_mixes (D : Dn K mg "mixes_leads_and_hubs" smixes_leads_and_hubs) (B : Ok P w K mg base L2.CX0 1 "has_kind" ["parts", "kind"] (spHas K)) : Ok P w K mg base L2.CX0 2 "mixes_leads_and_hubs" ["parts"] (spMix K) := by
  obtain ⟨_, _, g_has_kind, k_has_kind, b_has_kind, F_has_kind⟩ := B.ex
  refine Ok.mk0 D sc_mixes_leads_and_hubs (fun vs H Q E h => ?_) (fun _ _ _ _ _ _ us hl => match us, hl with | [_], _ => rfl) (fun f cdv A outer s H vs Q E hr h => ?_)
  · obtain ⟨a, us, rs, rfl, _⟩ := h
    rfl
  obtain ⟨a, us, rs, rfl, ha, hl, hu, ok, k⟩ := h
  refine ⟨_, (pss_one (ps_ret (pe_and (pe_call F_has_kind hr rfl g_has_kind k_has_kind b_has_kind .nil pass0 (pa_cons (pv 0) (pa_cons pe_str pa_nil))) (pe_one (pe_call F_has_kind hr rfl g_has_kind k_has_kind b_has_kind .nil pass0 (pa_cons (pv 0) (pa_cons pe_str pa_nil))))))), ?_⟩
  refine ⟨_, rfl, a, us, rs, LEAD, rfl, ha, hl, hu, ok, fun H1 s1 => ⟨_, rfl, ?_⟩⟩
  have ha1 : SqL K H1 a us ∨ SqT K H1 a us := ha.imp (same_seqL s1) (same_seqT s1)
  unfold mixS at k
  cases e : hasK LEAD rs with
  | false =>
    have z := k H1 s1
    rw [e] at z
    exact iteF z
  | true =>
    refine iteT ⟨_, rfl, a, us, rs, HUB, rfl, ha1, hl, hu.keep (.of s1), ok, fun H2 s2 => ?_⟩
    have z := k H2 (s1.trans s2)
    rw [e, Bool.true_and] at z
    exact z
end
end K12
set_option maxHeartbeats 1000000
namespace K12
open PySem PySem.Spec PyProof.Rows L2 Hx RZ
/-! ### all places -/
def allEnds (taps : List Str) (rs : List Raw) : List Str := taps ++ rs.flatMap Raw.ends
/-- the list of the places at p -/
def Places (ys ends : List Str) : Prop := ys.Nodup ∧ (∀ z, z ∈ ys ↔ z ∈ ends) ∧ sortedS ys = true
theorem ends_step {taps : List Str} {rs : List Raw} {i : Nat} {r : Raw} (h : rs[i]? = some r) : allEnds taps (rs.take i) ++ r.ends = allEnds taps (rs.take (i + 1)) := by
  unfold allEnds
  rw [List.take_add_one, h, List.flatMap_append, List.append_assoc]
  simp
theorem ends_le {taps : List Str} {rs : List Raw} (i : Nat) : (allEnds taps (rs.take i)).length ≤ (allEnds taps rs).length := by
  have e : rs = rs.take i ++ rs.drop i := (List.take_append_drop i rs).symm
  have q : allEnds taps rs = allEnds taps (rs.take i) ++ (rs.drop i).flatMap Raw.ends := by
    unfold allEnds
    rw [List.append_assoc, ← List.flatMap_append, ← e]
  rw [q, List.length_append]
  omega
section
variable {P : Program} {w : World} {K : PySem.W.Frag} {mg : Str → Option Value} {base : Heap}
def spPlaces (K : PySem.W.Frag) : Sp := fun vs H Q _ => ∃ (t a : Addr) (taps : List Str) (us : List V) (rs : List Raw), vs = [.ref t, .ref a] ∧ SqT K H t (taps.map V.str) ∧ (SqL K H a us ∨ SqT K H a us) ∧ RawsAt K H us rs ∧ (∀ r ∈ rs, Right r) ∧
  (allEnds taps rs).length + 1 < scanBound ∧ ∀ p ys H', Same H H' → H' p = some (.lst (ys.map V.str)) → H p = none → Places ys (allEnds taps rs) → Q (.ref p) H'
theorem sc_places_in : FnScope ["taps", "parts", "found", "part"] ["taps", "parts"] (defScope splaces_in) := ⟨rfl, rfl, rfl, by decide +kernel, rfl, by decide +kernel, by decide +kernel⟩
theorem scan_line {n : Nat} (h : n + 1 < scanBound) : n ≤ sizeLine := by
  rw [sizeLine_eq]
  have e : scanBound ≤ 16777216 := by decide
  omega
theorem ok_places_in (D : Dn K mg "places_in" splaces_in) (B : Ok P w K mg base L2.CX0 1 "places_of_part" ["part"] (spEnds K)) (h_list : mg "list" = none) (h_set : mg "set" = none) (h_sorted : mg "sorted" = none) : Ok P w K mg base L2.CX0 2 "places_in" ["taps", "parts"] (spPlaces K) := by
  obtain ⟨_, _, g_places_of_part, k_places_of_part, b_places_of_part, F_places_of_part⟩ := B.ex
  refine Ok.mk0 D sc_places_in (fun vs H Q E h => ?_) (fun _ _ _ _ _ _ us hl => match us, hl with | [_, _], _ => rfl) (fun f cdv A outer s H vs Q E hr h => ?_)
  · obtain ⟨t, a, taps, us, rs, rfl, _⟩ := h
    rfl
  obtain ⟨t, a, taps, us, rs, rfl, ht, ha, hu, ok, hb, k⟩ := h
  have nd := sc_places_in.nd
  refine ⟨_, (pss_cons (ps_set (i := 2) nd rfl (Or.inl rfl) (pe_callTy call_list_of (by rfl) h_list (by decide +kernel) (pa_cons (pv 0) pa_nil)))
    (pss_cons (ps_for PassesOwn.never rfl (pi_seq (pv 1)) (pg_name (i := 3) nd rfl (Or.inl rfl))
      (pss_one (ps_expr (pe_bm PySem.F.plainAttrs_list PySem.F.slot_list_extend PySem.F.type_list_extend mt_extT (pv 2) (pa_cons (pe_call F_places_of_part hr rfl g_places_of_part k_places_of_part b_places_of_part .nil pass0 (pa_cons (pv 3) pa_nil)) pa_nil)))))
    (pss_one (ps_ret (pe_callB (cr_sortTx rfl) (by rfl) h_sorted (by decide +kernel) (pa_cons (pe_callTy (cr_setS rfl) (by rfl) h_set (by decide +kernel) (pa_cons (pv 2) pa_nil)) pa_nil)))))), ?_⟩
  refine ⟨_, rfl, t, _, rfl, .inr ht, fun l hl => ?_⟩
  have s0 : Same H (upd H l (.lst (taps.map V.str))) := same_upd hl
  refine ⟨_, rfl, a, us, rfl, ?_⟩
  let Pv : Nat → L2.St → Hp → Prop := fun i σ H' => (∃ o, σ = [some (.ref t), some (.ref a), some (.ref l), o]) ∧ Same H H' ∧ H' l = some (.lst ((allEnds taps (rs.take i)).map V.str))
  have h0 : Pv 0 [some (.ref t), some (.ref a), some (.ref l), none] (upd H l (.lst (taps.map V.str))) := ⟨⟨_, rfl⟩, s0, by rw [upd_same]; unfold allEnds; simp⟩
  have fin : ∀ σ H', Pv us.length σ H' → tRet (tCB (rSortTx P w) (tCons (tCB (rSetS K P w) (tCons (tVar 2) tNil)) tNil)) { nx := fun _ H' => Q .non H', rt := Q } σ H' := by
    rintro σ H' ⟨⟨o, rfl⟩, s1, el⟩
    rw [hu.len, List.take_length] at el
    refine ⟨_, rfl, l, _, rfl, .inl (SqL.of el), hb, fun ls q nd2 m2 l2 hq => ?_⟩
    refine ⟨q, ls, rfl, upd_same, by omega, fun ys p pm so hp => ?_⟩
    have s2 : Same H' (upd (upd H' q (TxO P w q ls)) p (.lst (ys.map V.str))) := (same_upd hq).trans (same_upd hp)
    have hpH : H p = none := by
      cases e : H p with
      | none => rfl
      | some o2 => rw [((s1.trans (same_upd hq)) p o2 e)] at hp; cases hp
    exact k p ys _ (s1.trans s2) upd_same hpH ⟨pm.nodup_iff.mpr nd2, fun z => by rw [pm.mem_iff, m2], so⟩
  have len : ∀ (i : Nat) (r : Raw), rs[i]? = some r → ((allEnds taps (rs.take i)).map V.str).length + (r.ends.map V.str).length ≤ sizeLine := fun i r h => by
    have q := ends_le (taps := taps) (rs := rs) (i + 1)
    rw [← ends_step h, List.length_append] at q
    rw [List.length_map, List.length_map]
    have := scan_line hb
    omega
  rcases ha with ha | ha
  all_goals first
    | refine .inl ⟨same_seqL s0 ha, for_list Pv h0 (fun i σ H' _ z => same_seqL z.2.1 ha) ?_ fin⟩
    | refine .inr ⟨same_seqT s0 ha, for_tup Pv h0 (fun i σ H' _ z => same_seqT z.2.1 ha) ?_ fin⟩
  all_goals
    rintro i x σ H' hx ⟨⟨o, rfl⟩, s1, el⟩
    obtain ⟨r, hr2, hraw⟩ := hu.get hx
    refine ⟨_, rfl, ?_, _, rfl, x, r, rfl, hraw.keep (.of s1), ok r (List.mem_of_getElem? hr2), fun p H2 s2 hp => ?_⟩
    · exact .inl ⟨rfl, _, SqL.of el⟩
    have e2 := s2 _ _ el
    refine ⟨l, p, _, _, rfl, rfl, e2, hp, len i r hr2, ⟨_, rfl⟩, fun b u e => ?_, ?_⟩
    · rw [upd_ne (ne_of_none e hl)]
      exact s2 _ _ (s1 _ _ e)
    · rw [upd_same, ← List.map_append, ends_step hr2]
end
end K12
set_option maxHeartbeats 1000000
namespace K12
open PySem PySem.Spec PyProof.Rows L2 Hx RZ
/-! ### is_part, is_net -/
theorem scan_strs {xs : List V} (h : xs.all (fun x => match x with | .str _ => true | .int _ => true | _ => false) = true) : True := trivial
section
variable {P : Program} {w : World} {K : PySem.W.Frag} {mg : Str → Option Value} {base : Heap}
def spRight (K : PySem.W.Frag) : Sp := fun vs H Q _ => ∃ (v : V) (r : Raw), vs = [v] ∧ RawAt K H v r ∧ Right r ∧ (∀ x ∈ r.ends, x.length ≤ 100000) ∧ r.ends.length ≤ 100000 ∧ ∀ H', Same H H' → Q (.bl true) H'
theorem sc_is_part : FnScope ["value", "kind", "start", "end", "_"] ["value"] (defScope sis_part) := ⟨rfl, rfl, rfl, by decide +kernel, rfl, by decide +kernel, by decide +kernel⟩
theorem ok_is_part (D : Dn K mg "is_part" sis_part) (B0 : Ok P w K mg base L2.CX0 3 "is_number_from_0" ["value"] (spIsNum0 K)) (B1 : Ok P w K mg base L2.CX0 2 "are_names" ["value"] (spNames K namesS)) (B2 : Ok P w K mg base L2.CX0 1 "is_name" ["value"] (spName nameS))
    (h_isinstance : mg "isinstance" = none) (h_tuple : mg "tuple" = none) (h_len : mg "len" = none) : Ok P w K mg base L2.CX0 4 "is_part" ["value"] (spRight K) := by
  obtain ⟨_, _, g_is_number_from_0, k_is_number_from_0, b_is_number_from_0, F_is_number_from_0⟩ := B0.ex
  obtain ⟨_, _, g_are_names, k_are_names, b_are_names, F_are_names⟩ := B1.ex
  obtain ⟨_, _, g_is_name, k_is_name, b_is_name, F_is_name⟩ := B2.ex
  refine Ok.mk0 D sc_is_part (fun vs H Q E h => ?_) (fun _ _ _ _ _ _ us hl => match us, hl with | [_], _ => rfl) (fun f cdv A outer s H vs Q E hr h => ?_)
  · obtain ⟨x, r, rfl, _⟩ := h
    rfl
  obtain ⟨v, r, rfl, hv, ok, hx, hl, k⟩ := h
  have nd := sc_is_part.nd
  have hr2 := hr.mono (show 2 ≤ 3 by decide)
  have hr1 := hr.mono (show 1 ≤ 3 by decide)
  refine ⟨_, (pss_cons (ps_if (PW.pt (pw_or (pt_not (pt_val (pe_isD "tuple" rfl h_isinstance h_tuple (pv 0)))) (pw_or (pt_cmpR op_notIn_seq (pe_lenS rfl h_len (pv 0)) (pe_tup (pa_cons pe_int (pa_cons pe_int pa_nil))) (by rfl)) (pw_or1 (pt_not (pt_val (pe_call F_is_number_from_0 hr rfl g_is_number_from_0 k_is_number_from_0 b_is_number_from_0 .nil pass0 (pa_cons (pe_ix ix_tup (pv 0) (pe_un un_neg pe_int) (fun _ _ => rfl)) pa_nil))))))))
      (pss_one (ps_ret pe_bl))
      pss_nil)
    (pss_cons (ps_if (pt_cmpR op_eq (pe_lenS rfl h_len (pv 0)) pe_int (nomark _))
      (pss_one (ps_ret (pe_and (pe_cmpR op_eq (pe_ix ix_tup (pv 0) pe_int (fun _ _ => rfl)) pe_str (nomark _)) (pe_and (pe_call F_are_names hr2 rfl g_are_names k_are_names b_are_names .nil pass0 (pa_cons (pe_ix ix_tup (pv 0) pe_int (fun _ _ => rfl)) pa_nil)) (pe_one (pe_cmpR op_ge (pe_lenS rfl h_len (pe_ix ix_tup (pv 0) pe_int (fun _ _ => rfl))) pe_int (nomark _)))))))
      pss_nil)
    (pss_cons (ps_asg (pv 0) (pg_tup (by rfl) (pgs_cons (pg_name (i := 1) nd rfl (Or.inl rfl)) (pgs_cons (pg_name (i := 2) nd rfl (Or.inl rfl)) (pgs_cons (pg_name (i := 3) nd rfl (Or.inl rfl)) (pgs_cons (pg_name (i := 4) nd rfl (Or.inl rfl)) pgs_nil))))))
    (pss_cons (ps_if (PW.pt (pw_or (pt_not (pt_val (pe_call F_is_name hr1 rfl g_is_name k_is_name b_is_name .nil pass0 (pa_cons (pv 2) pa_nil)))) (pw_or1 (pt_not (pt_val (pe_call F_is_name hr1 rfl g_is_name k_is_name b_is_name .nil pass0 (pa_cons (pv 3) pa_nil)))))))
      (pss_one (ps_ret pe_bl))
      pss_nil)
    (pss_one (ps_ret (pe_or (pe_and (pe_cmpR op_eq (pv 1) pe_str (nomark _)) (pe_one (pe_cmpR op_lt_str (pv 2) (pv 3) (nomark _)))) (pe_one (pe_and (pe_cmpR op_eq (pv 1) pe_str (nomark _)) (pe_one (pe_cmpR op_ne (pv 2) (pv 3) (nomark _)))))))))))), ?_⟩
  cases ok with
  | hub ns n h1 h2 h0 =>
    obtain ⟨a, b, u, rfl, ha, hb, hu⟩ := hv
    refine ⟨_, rfl, .tuple [.str HUB, .tuple (ns.map .str), n.data], .tup ha (.cons (.str _) (.cons (.tup hb (dpAll_strs ns)) (.cons hu.dt.dp .nil))), true, rfl, iteF ?_⟩
    refine ⟨_, rfl, a, _, rfl, .inr ha, ?_⟩
    refine ⟨(by show 2 ≤ sizeLine; rw [sizeLine_eq]; decide), fun p hp => ?_⟩
    have s1 := same_upd (o := .tup [.int 3, .int 4]) hp
    refine ⟨p, _, rfl, .inr (SqT.of upd_same), rfl, rfl, false, rfl, iteF ?_⟩
    have ha1 := same_seqT s1 ha
    refine ⟨_, rfl, _, rfl, a, _, -1, u, rfl, rfl, ha1, rfl, u, n, rfl, hu.keep (.of s1), fun H2 s2 => ⟨_, rfl, ?_⟩⟩
    rw [h0]
    have s12 := s1.trans s2
    have ha2 := same_seqT s12 ha
    refine iteF ⟨_, rfl, a, _, rfl, .inr ha2, rfl, true, rfl, iteT ?_⟩
    refine ⟨_, rfl, a, _, 0, _, rfl, rfl, ha2, rfl, rfl, true, rfl, iteT ?_⟩
    refine ⟨_, rfl, a, _, 1, _, rfl, rfl, ha2, rfl, b, ns, rfl, same_seqT s12 hb, ⟨hl, hx⟩, fun H3 s3 => ⟨_, rfl, ?_⟩⟩
    have s13 := s12.trans s3
    rw [h1]
    refine iteT ⟨_, rfl, a, _, 1, _, rfl, rfl, same_seqT s13 ha, rfl, b, _, rfl, .inr (same_seqT s13 hb), _, _, rfl, rfl, ?_⟩
    have z := k H3 s13
    rw [show true = decide ((2 : Int) ≤ ((ns.map V.str).length : Int)) from (decide_eq_true (by rw [List.length_map]; omega)).symm] at z
    exact z
  | two kw x y n n1 n2 hk h0 =>
    obtain ⟨a, u, rfl, ha, hu⟩ := hv
    refine ⟨_, rfl, .tuple [.str kw, .str x, .str y, n.data], .tup ha (.cons (.str _) (.cons (.str _) (.cons (.str _) (.cons hu.dt.dp .nil)))), true, rfl, iteF ?_⟩
    refine ⟨_, rfl, a, _, rfl, .inr ha, (by show 2 ≤ sizeLine; rw [sizeLine_eq]; decide), fun p hp => ?_⟩
    have s1 := same_upd (o := .tup [.int 3, .int 4]) hp
    refine ⟨p, _, rfl, .inr (SqT.of upd_same), rfl, rfl, false, rfl, iteF ?_⟩
    have ha1 := same_seqT s1 ha
    refine ⟨_, rfl, _, rfl, a, _, -1, u, rfl, rfl, ha1, rfl, u, n, rfl, hu.keep (.of s1), fun H2 s2 => ⟨_, rfl, ?_⟩⟩
    rw [h0]
    have s12 := s1.trans s2
    have ha2 := same_seqT s12 ha
    refine iteF ⟨_, rfl, a, _, rfl, .inr ha2, rfl, false, rfl, iteF ?_⟩
    refine ⟨_, rfl, a, _, rfl, ha2, rfl, _, _, rfl, _, _, rfl, _, _, rfl, _, _, rfl, rfl, ?_⟩
    refine ⟨_, rfl, x, rfl, hx x (by show x ∈ [x, y]; simp), fun H3 s3 => ⟨_, rfl, ?_⟩⟩
    rw [n1]
    refine iteF ⟨_, rfl, y, rfl, hx y (by show y ∈ [x, y]; simp), fun H4 s4 => ⟨_, rfl, ?_⟩⟩
    rw [n2]
    refine iteF ?_
    have z := k H4 (s12.trans (s3.trans s4))
    rcases hk with ⟨rfl, lt⟩ | ⟨rfl, ne⟩
    · refine ⟨_, rfl, rfl, true, congrArg V.bl (decide_eq_true rfl), iteT ⟨_, rfl, _, rfl, x, y, rfl, rfl, ?_⟩⟩
      rw [decide_eq_true lt]
      exact ⟨true, rfl, iteT z⟩
    · refine ⟨_, rfl, rfl, false, congrArg V.bl (decide_eq_false fun q => pipe_lead (V.str.inj q).symm), iteF ?_⟩
      refine ⟨false, rfl, iteF ⟨_, rfl, rfl, true, congrArg V.bl (decide_eq_true rfl), iteT ⟨_, rfl, _, rfl, rfl, ?_⟩⟩⟩
      rw [decide_eq_false (fun q => ne (V.str.inj q))]
      exact z
/-! is_net -/
structure NetOk (taps : List Str) (rs : List Raw) : Prop where
  tp : tapsS taps = true
  right : ∀ r ∈ rs, Right r
  few : rs.length ≤ 200
  mix : mixS rs = false
  places : ∀ ys, Places ys (allEnds taps rs) → ys.length ≤ 40
  tsz : Sm taps
  esz : ∀ r ∈ rs, (∀ x ∈ r.ends, x.length ≤ 100000) ∧ r.ends.length ≤ 100000
  sum : (allEnds taps rs).length + 1 < scanBound
def NetAt (K : PySem.W.Frag) (H : Hp) (v : V) (taps : List Str) (rs : List Raw) : Prop := ∃ a t b us, v = .ref a ∧ SqT K H a [.ref t, .ref b] ∧ SqT K H t (taps.map V.str) ∧ SqT K H b us ∧ RawsAt K H us rs
theorem NetAt.keep {K : PySem.W.Frag} {H H' : Hp} {v : V} {taps : List Str} {rs : List Raw} (e : TK H H') : NetAt K H v taps rs → NetAt K H' v taps rs
  | ⟨a, t, b, us, h1, h2, h3, h4, h5⟩ => ⟨a, t, b, us, h1, tk_seqT e h2, tk_seqT e h3, tk_seqT e h4, h5.keep e⟩
def Raw.data : Raw → PyData
  | .flat ws n => .tuple (ws.map .str ++ [n.data])
  | .hub ns n => .tuple [.str HUB, .tuple (ns.map .str), n.data]
def netData (taps : List Str) (rs : List Raw) : PyData := .tuple [.tuple (taps.map .str), .tuple (rs.map Raw.data)]
theorem RawAt.dt {H : Hp} {v : V} : ∀ {r : Raw}, RawAt K H v r → Dt K H v r.data
  | .flat ws n, ⟨a, u, e, h2, h3⟩ => by
    subst e
    exact .tup h2 ((DtAll.strs ws).app (.cons h3.dt .nil))
  | .hub ns n, ⟨a, b, u, e, h2, h3, h4⟩ => by
    subst e
    exact .tup h2 (.cons (.str _) (.cons (.tup h3 (DtAll.strs ns)) (.cons h4.dt .nil)))
theorem RawsAt.dt {H : Hp} : ∀ {vs : List V} {rs : List Raw}, RawsAt K H vs rs → DtAll K H vs (rs.map Raw.data)
  | _, _, .nil => .nil
  | _, _, .cons h t => .cons h.dt t.dt
theorem NetAt.dt {H : Hp} {v : V} {taps : List Str} {rs : List Raw} : NetAt K H v taps rs → Dt K H v (netData taps rs)
  | ⟨a, t, b, us, e, h2, h3, h4, h5⟩ => by
    subst e
    exact .tup h2 (.cons (.tup h3 (DtAll.strs taps)) (.cons (.tup h4 h5.dt) .nil))
def spIsNet (K : PySem.W.Frag) : Sp := fun vs H Q _ => (∃ x : Str, vs = [.str x] ∧ Q (.bl false) H) ∨ ∃ (v : V) (taps : List Str) (rs : List Raw), vs = [v] ∧ NetAt K H v taps rs ∧ NetOk taps rs ∧ ∀ H', Same H H' → Q (.bl true) H'
theorem sc_is_net : FnScope ["value", "taps", "parts", "part"] ["value"] (defScope sis_net) := ⟨rfl, rfl, rfl, by decide +kernel, rfl, by decide +kernel, by decide +kernel⟩
theorem ok_is_net (D : Dn K mg "is_net" sis_net) (B0 : Ok P w K mg base L2.CX0 3 "are_taps" ["value"] (spNames K tapsS)) (B1 : Ok P w K mg base L2.CX0 4 "is_part" ["value"] (spRight K)) (B2 : Ok P w K mg base L2.CX0 2 "mixes_leads_and_hubs" ["parts"] (spMix K)) (B3 : Ok P w K mg base L2.CX0 2 "places_in" ["taps", "parts"] (spPlaces K))
    (h_isinstance : mg "isinstance" = none) (h_tuple : mg "tuple" = none) (h_len : mg "len" = none) (h_all : mg "all" = none) (c1 : ∃ t, mg "MOST_PARTS" = some (.int 200 t)) (c2 : ∃ t, mg "MOST_PLACES" = some (.int 40 t)) : Ok P w K mg base L2.CX0 5 "is_net" ["value"] (spIsNet K) := by
  obtain ⟨_, gMOST_PARTS⟩ := c1
  obtain ⟨_, gMOST_PLACES⟩ := c2
  obtain ⟨_, _, g_are_taps, k_are_taps, b_are_taps, F_are_taps⟩ := B0.ex
  obtain ⟨_, _, g_is_part, k_is_part, b_is_part, F_is_part⟩ := B1.ex
  obtain ⟨_, _, g_mixes_leads_and_hubs, k_mixes_leads_and_hubs, b_mixes_leads_and_hubs, F_mixes_leads_and_hubs⟩ := B2.ex
  obtain ⟨_, _, g_places_in, k_places_in, b_places_in, F_places_in⟩ := B3.ex
  refine Ok.mk0 D sc_is_net (fun vs H Q E h => ?_) (fun _ _ _ _ _ _ us hl => match us, hl with | [_], _ => rfl) (fun f cdv A outer s H vs Q E hr h => ?_)
  · rcases h with ⟨x, rfl, _⟩ | ⟨v, taps, rs, rfl, _⟩ <;> rfl
  have nd := sc_is_net.nd
  have hr3 := hr.mono (show 3 ≤ 4 by decide)
  have hr2 := hr.mono (show 2 ≤ 4 by decide)
  refine ⟨_, (pss_cons (ps_if (PW.pt (pw_or (pt_not (pt_val (pe_isD "tuple" rfl h_isinstance h_tuple (pv 0)))) (pw_or1 (pt_cmpR op_ne (pe_lenS rfl h_len (pv 0)) pe_int (nomark _)))))
      (pss_one (ps_ret pe_bl))
      pss_nil)
    (pss_cons (ps_asg (pv 0) (pg_tup (by rfl) (pgs_cons (pg_name (i := 1) nd rfl (Or.inl rfl)) (pgs_cons (pg_name (i := 2) nd rfl (Or.inl rfl)) pgs_nil))))
    (pss_cons (ps_if (PW.pt (pw_or (pt_not (pt_val (pe_call F_are_taps hr3 rfl g_are_taps k_are_taps b_are_taps .nil pass0 (pa_cons (pv 1) pa_nil)))) (pw_or (pt_not (pt_val (pe_isD "tuple" rfl h_isinstance h_tuple (pv 2)))) (pw_or1 (pt_cmpR op_gt (pe_lenS rfl h_len (pv 2)) (pe_glob (v := .int 200) rfl gMOST_PARTS ⟨_, rfl⟩) (nomark _))))))
      (pss_one (ps_ret pe_bl))
      pss_nil)
    (pss_cons (ps_if (PW.pt (pw_or (pt_not (pt_val (pe_callB (cr_all rfl) (by rfl) h_all (by decide +kernel) (pa_cons (pe_lc (own := [("part", 3)]) (g := gName 3) (tt := tYes) rfl nd (pi_tup (pv 2)) (blkOk_by (own := [("part", 3)]) (N := ["value", "taps", "parts", "part"]) (sc := defScope sis_net) (by decide +kernel)) (fun _ _ _ _ _ => pg_name (i := 3) nd rfl (Or.inl rfl)) (fun _ _ _ _ _ => pts_nil) (fun _ _ _ _ _ => (pe_call F_is_part hr rfl g_is_part k_is_part b_is_part .nil pass0 (pa_cons (pv 3) pa_nil)))) pa_nil)))) (pw_or1 (pt_val (pe_call F_mixes_leads_and_hubs hr2 rfl g_mixes_leads_and_hubs k_mixes_leads_and_hubs b_mixes_leads_and_hubs .nil pass0 (pa_cons (pv 2) pa_nil))))))
      (pss_one (ps_ret pe_bl))
      pss_nil)
    (pss_one (ps_ret (pe_cmpR op_le (pe_lenS rfl h_len (pe_call F_places_in hr2 rfl g_places_in k_places_in b_places_in .nil pass0 (pa_cons (pv 1) (pa_cons (pv 2) pa_nil)))) (pe_glob (v := .int 40) rfl gMOST_PLACES ⟨_, rfl⟩) (nomark _)))))))), ?_⟩
  rcases h with ⟨x, rfl, k⟩ | ⟨v, taps, rs, rfl, ⟨a, t, b, us, rfl, ha, ht, hb, hu⟩, ok, k⟩
  · exact ⟨_, rfl, .str x, .str x, false, rfl, iteT k⟩
  have ll := hu.len
  have few := ok.few
  refine ⟨_, rfl, netData taps rs, (NetAt.dt ⟨a, t, b, us, rfl, ha, ht, hb, hu⟩).dp, true, rfl, iteF ?_⟩
  refine ⟨_, rfl, a, _, rfl, .inr ha, rfl, false, rfl, iteF ?_⟩
  refine ⟨_, rfl, a, _, rfl, ha, rfl, _, _, rfl, _, _, rfl, rfl, ?_⟩
  refine ⟨_, rfl, t, taps, rfl, ht, ok.tsz, fun H1 s1 => ⟨_, rfl, ?_⟩⟩
  rw [ok.tp]
  refine iteF ⟨_, rfl, .tuple (rs.map Raw.data), .tup (same_seqT s1 hb) (dpAll_same s1 hu.dt.dp), true, rfl, iteF ?_⟩
  refine ⟨_, rfl, b, us, rfl, .inr (same_seqT s1 hb), _, _, rfl, rfl, _, rfl, ?_⟩
  rw [decide_eq_false (by omega)]
  refine iteF ⟨_, rfl, b, rfl, ⟨_, same_seqT s1 hb⟩, fun L hL => lc_tup1 (same_seqT s1 hb) (by rw [sizeLine_eq]; omega) (fun i y _ => y = .bl true) (fun _ _ _ _ _ h => h) hL ?_ ?_⟩
  · intro i v H2 F hv s2 kk
    obtain ⟨r, hr5, hraw⟩ := hu.get hv
    have mr := List.mem_of_getElem? hr5
    exact ⟨rfl, _, rfl, v, r, rfl, hraw.keep (.of (s1.trans s2)), ok.right r mr, (ok.esz r mr).1, (ok.esz r mr).2, fun H3 s3 => kk _ _ rfl s3⟩
  · intro acc H2 s2 e hl hy
    have eb : acc = (List.replicate us.length true).map V.bl := bools_of (by simp [hl]) fun i y hi => by
      have q := (List.getElem?_eq_some_iff.mp hi).1
      rw [hy i y hi, List.getElem?_replicate, if_pos (by omega)]
      rfl
    subst eb
    have s12 := s1.trans s2
    refine ⟨L, _, rfl, SqL.of e, _, rfl, ?_⟩
    rw [show (List.replicate us.length true).all id = true by simp]
    refine iteF ⟨_, rfl, b, us, rs, rfl, .inr (same_seqT s12 hb), by omega, hu.keep (.of s12), ok.right, fun H3 s3 => ⟨_, rfl, ?_⟩⟩
    rw [ok.mix]
    have s13 := s12.trans s3
    refine iteF ⟨_, rfl, _, rfl, t, b, taps, us, rs, rfl, same_seqT s13 ht, .inr (same_seqT s13 hb), hu.keep (.of s13), ok.right, ok.sum, fun p ys H4 s4 hp _ pl => ?_⟩
    refine ⟨p, _, rfl, .inl (SqL.of hp), _, _, rfl, rfl, ?_⟩
    have z := k H4 (s13.trans s4)
    have q := ok.places ys pl
    rw [show true = decide (((ys.map V.str).length : Int) ≤ 40) from (decide_eq_true (by rw [List.length_map]; omega)).symm] at z
    exact z
end
end K12
set_option maxHeartbeats 1000000
namespace K12
open PySem PySem.Spec PyProof.Rows L2 Hx RZ
/-! ### check_net -/
structure OwnE (K : PySem.W.Frag) (mg : Str → Option Value) (x : Str) (C : Addr) : Prop where
  q : ∃ B newId initId bmB, ExcBaseFacts B newId initId bmB ∧ PySem.W.excIn K C bmB newId = true
  g : mg x = some (.ref C)
  k : PySem.W.keepIn K (.ref C) = true
  b : PySem.W.subIn K (.ref C) (.type "BaseException") = some true
  t : PySem.W.typeIn K (.ref C) = some (.type "type")
section
variable {P : Program} {w : World} {K : PySem.W.Frag} {mg : Str → Option Value} {base : Heap}
def spCheck (K : PySem.W.Frag) (C : Addr) : Sp := fun vs H Q E => (∃ x : Str, vs = [.str x] ∧ E (.ref C) none H) ∨ ∃ (v : V) (taps : List Str) (rs : List Raw), vs = [v] ∧ NetAt K H v taps rs ∧ NetOk taps rs ∧ ∀ H', Same H H' → Q .non H'
theorem sc_check_net : FnScope ["net"] ["net"] (defScope scheck_net) := ⟨rfl, rfl, rfl, by decide +kernel, rfl, by decide +kernel, by decide +kernel⟩
theorem ok_check_net {C : Addr} (T : OwnE K mg "BadNet" C) (D : Dn K mg "check_net" scheck_net) (B : Ok P w K mg base L2.CX0 5 "is_net" ["value"] (spIsNet K)) : Ok P w K mg base (L2.CX P w) 6 "check_net" ["net"] (spCheck K C) := by
  obtain ⟨_, _, g_is_net, k_is_net, b_is_net, F_is_net⟩ := B.ex
  obtain ⟨b0, nI, iI, bm, fx, qx⟩ := T.q
  refine Ok.mkX D sc_check_net (fun vs H Q E h => ?_) (fun _ _ _ _ _ _ us hl => match us, hl with | [_], _ => rfl) (fun f cdv A outer s H vs Q E hr h => ?_)
  · rcases h with ⟨x, rfl, _⟩ | ⟨v, taps, rs, rfl, _⟩ <;> rfl
  refine ⟨_, (pss_one (ps_if (pt_not (pt_val (pe_call F_is_net hr rfl g_is_net k_is_net b_is_net .nil pass0 (pa_cons (pv 0) pa_nil))))
    (pss_one (ps_raise rfl (takes_of rfl rfl rfl rfl) (pmk_own fx qx T.g T.k (raises_own T.b T.t) (by exact rfl))))
    pss_nil)), ?_⟩
  rcases h with ⟨x, rfl, k⟩ | ⟨v, taps, rs, rfl, hn, ok, k⟩
  · exact ⟨_, rfl, .inl ⟨x, rfl, _, rfl, iteT k⟩⟩
  · exact ⟨_, rfl, .inr ⟨v, taps, rs, rfl, hn, ok, fun H1 s1 => ⟨_, rfl, iteF (k H1 s1)⟩⟩⟩
end
end K12
set_option maxHeartbeats 1000000
namespace K12
open PySem PySem.Spec PyProof.Rows L2 Hx RZ
/-! ### the text of a net -/
abbrev SPC : Str := " "
abbrev NL : Str := "\n"
abbrev TAPS : Str := "taps"
def tapsLine (taps : List Str) : Str := Txt.join SPC (TAPS :: taps)
def partLine (r : Raw) : Str := Txt.join SPC (r.word :: (r.ends ++ [r.num.text]))
def netLines (taps : List Str) (rs : List Raw) : List Str := tapsLine taps :: rs.map partLine
def netText (taps : List Str) (rs : List Raw) : Str := Txt.join "" ((netLines taps rs).map (· ++ NL))
def NumFit (n : Num) : Prop := 0 ≤ n.top ∧ n.top < 10 ^ 31 ∧ 0 ≤ n.low ∧ n.low < 10 ^ 31
theorem append_len (x y : Str) : (x ++ y).length = x.length + y.length := by rw [TL.len_tl, TL.tl_append, List.length_append, ← TL.len_tl, ← TL.len_tl]
theorem num_len {n : Num} (h : NumFit n) : n.text.length ≤ 63 := by
  obtain ⟨t0, t1, l0, l1⟩ := h
  cases n with
  | w i =>
    have := natS_len t0 t1
    show (natS i).length ≤ 63
    simp only [Num.top] at this
    omega
  | q t b =>
    have h1 := natS_len t0 t1
    have h2 := natS_len l0 l1
    show (natS t ++ "/" ++ natS b).length ≤ 63
    rw [append_len, append_len]
    simp only [Num.top, Num.low] at h1 h2
    have : (Str.ofString "/").length = 1 := rfl
    omega
theorem joinL_len (S : List Nat) : ∀ ps : List (List Nat), (TL.joinL S ps).length ≤ (ps.map (·.length)).sum + ps.length * S.length
  | [] => by simp [TL.joinL]
  | [p] => by simp [TL.joinL]
  | p :: q :: r => by
    have ih := joinL_len S (q :: r)
    show (p ++ (S ++ TL.joinL S (q :: r))).length ≤ _
    rw [List.length_append, List.length_append]
    simp only [List.map_cons, List.sum_cons, List.length_cons] at ih ⊢
    rw [Nat.add_mul (r.length + 1) 1]
    omega
theorem join_len (y : Str) (ps : List Str) : (Txt.join y ps).length ≤ (ps.map (·.length)).sum + ps.length * y.length := by
  rw [TL.join_eq, TL.len_tl, TL.tl_join]
  refine Nat.le_trans (joinL_len _ _) ?_
  rw [List.map_map, List.length_map, ← TL.len_tl]
  have e : (List.length ∘ TL.tl) = fun x : Str => x.length := funext fun x => (TL.len_tl x).symm
  rw [e]
  exact Nat.le_refl _
theorem sum_le {α : Type} (f : α → Nat) (c : Nat) : ∀ l : List α, (∀ x ∈ l, f x ≤ c) → (l.map f).sum ≤ l.length * c
  | [], _ => by simp
  | x :: l, h => by
    have a := h x List.mem_cons_self
    have b := sum_le f c l fun y hy => h y (List.mem_cons_of_mem _ hy)
    rw [List.map_cons, List.sum_cons, List.length_cons, Nat.add_mul]
    omega
theorem name_len {x : Str} (h : nameS x = true) : x.length ≤ 8 := by
  unfold nameS at h
  simp only [Bool.and_eq_true, decide_eq_true_eq] at h
  exact h.1.1.2
theorem right_ends {r : Raw} (h : Right r) : ∀ x ∈ r.ends, nameS x = true := by
  cases h with
  | two k x y n hx hy hk hn =>
    intro z hz
    have e : z = x ∨ z = y := by simpa [Raw.ends] using hz
    rcases e with e | e <;> rw [e] <;> assumption
  | hub ns n h1 h2 hn =>
    intro z hz
    unfold namesS at h1
    rw [Bool.and_eq_true] at h1
    exact List.all_eq_true.mp h1.1 z hz
theorem right_word {r : Raw} (h : Right r) : r.word.length ≤ 4 := by
  cases h with
  | two k x y n hx hy hk hn =>
    rcases hk with ⟨e, _⟩ | ⟨e, _⟩ <;> rw [show Raw.word (.flat [k, x, y] n) = k from rfl, e] <;> decide +kernel
  | hub ns n h1 h2 hn => rw [show Raw.word (.hub ns n) = HUB from rfl]; decide +kernel
/-- what a part's line is joined of -/
theorem part_sum {r : Raw} (h : Right r) (hn : NumFit r.num) : ((r.word :: (r.ends ++ [r.num.text])).map (·.length)).sum ≤ 67 + r.ends.length * 8 := by
  have a := right_word h
  have b := num_len hn
  have c := sum_le (fun x : Str => x.length) 8 r.ends fun x hx => name_len (right_ends h x hx)
  simp only [List.map_cons, List.sum_cons, List.map_append, List.sum_append, List.map_nil, List.sum_nil]
  omega
theorem part_len {r : Raw} (h : Right r) (hn : NumFit r.num) : (partLine r).length ≤ 69 + r.ends.length * 9 := by
  have a := join_len SPC (r.word :: (r.ends ++ [r.num.text]))
  have b := part_sum h hn
  have e : SPC.length = 1 := rfl
  rw [e, List.length_cons, List.length_append] at a
  simp only [List.length_cons, List.length_nil] at a
  unfold partLine
  omega
theorem taps_sum {taps : List Str} (h : tapsS taps = true) : ((TAPS :: taps).map (·.length)).sum ≤ 4 + taps.length * 8 ∧ taps.length ≤ 6 := by
  unfold tapsS at h
  simp only [Bool.and_eq_true, decide_eq_true_eq] at h
  obtain ⟨h1, _, h6⟩ := h
  unfold namesS at h1
  rw [Bool.and_eq_true] at h1
  have c := sum_le (fun x : Str => x.length) 8 taps fun x hx => name_len (List.all_eq_true.mp h1.1 x hx)
  have e : TAPS.length = 4 := rfl
  simp only [List.map_cons, List.sum_cons]
  exact ⟨by omega, h6⟩
theorem taps_len {taps : List Str} (h : tapsS taps = true) : (tapsLine taps).length ≤ 59 := by
  have a := join_len SPC (TAPS :: taps)
  have b := taps_sum h
  have e : SPC.length = 1 := rfl
  rw [e, List.length_cons] at a
  unfold tapsLine
  omega
theorem ends_sum : ∀ rs : List Raw, (rs.map fun r => r.ends.length).sum = (rs.flatMap Raw.ends).length
  | [] => rfl
  | r :: rs => by
    rw [List.map_cons, List.sum_cons, List.flatMap_cons, List.length_append, ends_sum rs]
theorem parts_sum : ∀ rs : List Raw, (∀ r ∈ rs, Right r ∧ NumFit r.num) → ((rs.map partLine).map (fun x => (x ++ NL).length)).sum ≤ rs.length * 70 + (rs.flatMap Raw.ends).length * 9
  | [], _ => by simp
  | r :: rs, h => by
    have a := part_len (h r List.mem_cons_self).1 (h r List.mem_cons_self).2
    have b := parts_sum rs fun q hq => h q (List.mem_cons_of_mem _ hq)
    have e : NL.length = 1 := rfl
    simp only [List.map_cons, List.sum_cons, List.length_cons, List.flatMap_cons, List.length_append, append_len, e] at b ⊢
    omega
/-- the whole text is small -/
theorem text_small {taps : List Str} {rs : List Raw} (ok : NetOk taps rs) (hn : ∀ r ∈ rs, NumFit r.num) : (((netLines taps rs).map (· ++ NL)).map (·.length)).sum ≤ 60000 := by
  have a := taps_len ok.tp
  have b := parts_sum rs fun r h => ⟨ok.right r h, hn r h⟩
  have c := ok.sum
  have d := ok.few
  have e : NL.length = 1 := rfl
  have f : scanBound = 4096 := rfl
  unfold allEnds at c
  rw [List.length_append, f] at c
  unfold netLines
  rw [List.map_cons, List.map_cons, List.sum_cons, append_len, List.map_map]
  have g : (List.map ((fun x : Str => x.length) ∘ fun x => x ++ NL) (rs.map partLine)).sum = ((rs.map partLine).map (fun x => (x ++ NL).length)).sum := rfl
  rw [g]
  omega
end K12
set_option maxHeartbeats 1000000
/-! ### a def of one parameter that may also be called by its name -/
namespace K12
open PySem PySem.Spec PyProof.Rows L2 Hx RZ
structure OkW (P : Program) (w : World) (K : PySem.W.Frag) (mg : Str → Option Value) (base : Heap) (CX : CXT) (k : Nat) (x q : Str) (sp : Sp) : Prop where
  ex : ∃ f fd, mg x = some (.ref f) ∧ PySem.W.keepIn K (.ref f) = true ∧ Binds K fd [q] [] ∧ FnOk P w K mg base CX k f fd [q] sp ∧ KBn K fd [q] 0 [q] (fun _ ws => ws) (fun _ zs => zs)
section
variable {P : Program} {w : World} {K : PySem.W.Frag} {mg : Str → Option Value} {base : Heap}
theorem OkW.ok {CX : CXT} {k : Nat} {x q : Str} {sp : Sp} (O : OkW P w K mg base CX k x q sp) : Ok P w K mg base CX k x [q] sp := by
  obtain ⟨f, fd, g, kp, b, F, _⟩ := O.ex
  exact ⟨f, fd, g, kp, b, F⟩
theorem FnD.byName {x : Str} {st : Stmt} {f : Addr} {fd : FuncData} {q : Str} (F : FnD K x st f fd)
    (h : ∀ (kV doc pm : Value) (an : Option Addr) (cdv ct u : Value), bindArgs (PySem.W.fnOf x x (defArgs st) (defBody st) (defScope st) .none kV doc pm an cdv ct) ⟨[], [(q, u)]⟩ = pure [(q, u)]) (s : Shared) (u : Value) : BindsTo s fd ⟨[], [(q, u)]⟩ [(q, u)] := by
  obtain ⟨oc, od, dV, kV, doc, pm, an, cdv, ct, osl, rfl, lk, hcd, hD, hK⟩ := F.ex
  rcases hD with ⟨_, rfl⟩ | ⟨e, _⟩
  · exact .of_eq (h kV doc pm an cdv ct u)
  · exact absurd rfl e
theorem OkW.mkX {x q : Str} {st : Stmt} {N : List Str} {k : Nat} {sp : Sp} (D : Dn K mg x st) (S : FnScope N [q] (defScope st))
    (hq : ∀ (kV doc pm : Value) (an : Option Addr) (cdv ct u : Value), bindArgs (PySem.W.fnOf x x (defArgs st) (defBody st) (defScope st) .none kV doc pm an cdv ct) ⟨[], [(q, u)]⟩ = pure [(q, u)])
    (len : ∀ vs H Q E, sp vs H Q E → vs.length = 1)
    (hb : ∀ (kV doc pm : Value) (an : Option Addr) (cdv ct : Value) (us : List Value), us.length = 1 → bindArgs (PySem.W.fnOf x x (defArgs st) (defBody st) (defScope st) .none kV doc pm an cdv ct) ⟨us, []⟩ = pure ([q].zip us))
    (hbody : ∀ (f : Addr) (cdv : Value) (A : Around) (outer : List Env) (s : Shared) (H : Hp) (vs : List V) (Q : VK) (E : XK), Room k (A.deeper (envOfC x (defScope st) s.heap.objs.size f cdv)) → sp vs H Q E →
      ∃ t, PSs (cxOf (L2.CX P w) P w K mg base N x (defScope st) f cdv A outer s H E) (defBody st) t ∧ t { nx := fun _ H' => Q .non H', rt := Q } (L2.start N vs) H) : OkW P w K mg base (L2.CX P w) (k + 1) x q sp := by
  obtain ⟨f, fd, g, F⟩ := D
  exact ⟨f, fd, g, F.kp, F.bindsN hb, F.ok S len fun cdv A outer s H vs Q E hr h => hbody f cdv A outer s H vs Q E hr h, kb_one (FnD.byName F hq)⟩
end
end K12
set_option maxHeartbeats 1000000
namespace K12
open PySem PySem.Spec PyProof.Rows L2 Hx RZ
theorem strs_are {acc : List V} {ss : List Str} (hl : acc.length = ss.length) (h : ∀ (i : Nat) (y : V), acc[i]? = some y → ss[i]?.map V.str = some y) : acc = ss.map V.str := by
  refine List.ext_getElem? fun i => ?_
  rw [List.getElem?_map]
  by_cases hi : i < acc.length
  · rw [List.getElem?_eq_getElem hi, h i _ (List.getElem?_eq_getElem hi)]
  · rw [List.getElem?_eq_none (by omega), List.getElem?_eq_none (by omega)]
    rfl
theorem ends_few {taps : List Str} {rs : List Raw} (ok : NetOk taps rs) {r : Raw} (h : r ∈ rs) : r.ends.length < 4096 := by
  obtain ⟨i, hi⟩ := List.getElem?_of_mem h
  have q := ok.sum
  have q2 := ends_le (taps := taps) (rs := rs) (i + 1)
  rw [← ends_step hi, List.length_append] at q2
  rw [show scanBound = 4096 from rfl] at q
  omega
section
variable {P : Program} {w : World} {K : PySem.W.Frag} {mg : Str → Option Value} {base : Heap}
def spText (K : PySem.W.Frag) (C : Addr) : Sp := fun vs H Q E => (∃ x : Str, vs = [.str x] ∧ E (.ref C) none H) ∨ ∃ (v : V) (taps : List Str) (rs : List Raw), vs = [v] ∧ NetAt K H v taps rs ∧ NetOk taps rs ∧ (∀ r ∈ rs, NumFit r.num) ∧ ∀ H', Same H H' → Q (.str (netText taps rs)) H'
theorem sc_net_text : FnScope ["net", "lines", "part", "line"] ["net"] (defScope snet_text) := ⟨rfl, rfl, rfl, by decide +kernel, rfl, by decide +kernel, by decide +kernel⟩
theorem len_app1 (l : List V) (x : V) : (l ++ [x]).length = l.length + 1 := by simp
theorem okw_net_text {C : Addr} (D : Dn K mg "net_text" snet_text) (B0 : Ok P w K mg base (L2.CX P w) 6 "check_net" ["net"] (spCheck K C)) (B1 : Ok P w K mg base L2.CX0 1 "places_of_part" ["part"] (spEnds K)) (B2 : Ok P w K mg base L2.CX0 1 "number_text" ["value"] (spNumText K)) : OkW P w K mg base (L2.CX P w) 7 "net_text" "net" (spText K C) := by
  obtain ⟨_, _, g_check_net, k_check_net, b_check_net, F_check_net⟩ := B0.ex
  obtain ⟨_, _, g_places_of_part, k_places_of_part, b_places_of_part, F_places_of_part⟩ := B1.ex
  obtain ⟨_, _, g_number_text, k_number_text, b_number_text, F_number_text⟩ := B2.ex
  refine OkW.mkX D sc_net_text (fun _ _ _ _ _ _ _ => rfl) (fun vs H Q E h => ?_) (fun _ _ _ _ _ _ us hl => match us, hl with | [_], _ => rfl) (fun f cdv A outer s H vs Q E hr h => ?_)
  · rcases h with ⟨x, rfl, _⟩ | ⟨v, taps, rs, rfl, _⟩ <;> rfl
  have nd := sc_net_text.nd
  have hr1 := hr.mono (show 1 ≤ 6 by decide)
  refine ⟨_, (pss_cons (ps_expr (pe_callS F_check_net hr rfl g_check_net k_check_net b_check_net (fun σ => passAt (takes_of rfl rfl rfl rfl) σ) (pa_cons (pv 0) pa_nil)))
    (PSs.nox (pss_cons (ps_set (i := 1) nd rfl (Or.inl rfl) (pe_lst (pa_cons (pe_join pe_str (pe_lst (pa_cons pe_str (StX.pa_star (pe_ix ix_tup (pv 0) pe_int (fun _ _ => rfl)) pa_nil)))) pa_nil)))
    (pss_cons (ps_for PassesOwn.never rfl (pi_tup (pe_ix ix_tup (pv 0) pe_int (fun _ _ => rfl))) (pg_name (i := 2) nd rfl (Or.inl rfl))
      (pss_one (ps_expr (pe_bm PySem.F.plainAttrs_list PySem.F.slot_list_append PySem.F.type_list_append mt_append (pv 1) (pa_cons (pe_join pe_str (pe_lst (pa_cons (pe_ix ix_tup (pv 2) pe_int (fun _ _ => rfl)) (StX.pa_star (pe_call F_places_of_part hr1 rfl g_places_of_part k_places_of_part b_places_of_part .nil pass0 (pa_cons (pv 2) pa_nil)) (pa_cons (pe_call F_number_text hr1 rfl g_number_text k_number_text b_number_text .nil pass0 (pa_cons (pe_ix ix_tup (pv 2) (pe_un un_neg pe_int) (fun _ _ => rfl)) pa_nil)) pa_nil))))) pa_nil)))))
    (pss_one (ps_ret (pe_join pe_str (pe_lc (own := [("line", 3)]) (g := gName 3) (tt := tYes) rfl nd (pi_list (pv 1)) (blkOk_by (own := [("line", 3)]) (N := ["net", "lines", "part", "line"]) (sc := defScope snet_text) (by decide +kernel)) (fun _ _ _ _ _ => pg_name (i := 3) nd rfl (Or.inl rfl)) (fun _ _ _ _ _ => pts_nil) (fun _ _ _ _ _ => (pe_op op_add_str (pv 3) pe_str)))))))))), ?_⟩
  rcases h with ⟨x, rfl, k⟩ | ⟨v, taps, rs, rfl, hv, ok, hn, k⟩
  · exact ⟨_, rfl, .inl ⟨x, rfl, k⟩⟩
  refine ⟨_, rfl, .inr ⟨v, taps, rs, rfl, hv, ok, fun H1 s1 => ?_⟩⟩
  have hv1 := hv.keep (.of s1)
  obtain ⟨a, t, b, us, rfl, ha, ht, hb, hu⟩ := hv1
  have few := ok.few
  have ll := hu.len
  have line : ∀ n : Nat, n ≤ 100000 → n ≤ sizeLine := fun n h => by rw [sizeLine_eq]; omega
  have tl := taps_sum ok.tp
  have e1 : SPC.length = 1 := rfl
  refine ⟨⟨_, rfl⟩, _, rfl, a, _, 0, _, rfl, rfl, ha, rfl, t, _, rfl, .inl ht, line _ (by simp; omega), fun p hp => ?_⟩
  have s2 := same_upd (o := .lst (.str TAPS :: (taps.map V.str ++ []))) hp
  refine ⟨SPC, p, TAPS :: taps, rfl, rfl, .inl (SqL.of (by rw [upd_same]; simp)), (by rw [List.length_cons, e1]; omega), line _ (by simp), fun l hl => ?_⟩
  have s3 := s2.trans (same_upd (o := .lst [.str (Txt.join SPC (TAPS :: taps))]) hl)
  have nl1 : H1 l = none := by
    cases e : H1 l with
    | none => rfl
    | some o2 => rw [s2 l o2 e] at hl; cases hl
  let Pv : Nat → L2.St → Hp → Prop := fun i σ H' => (∃ o, σ = [some (.ref a), some (.ref l), o, none]) ∧ Same H1 H' ∧ H' l = some (.lst ((netLines taps (rs.take i)).map V.str))
  refine ⟨_, rfl, a, _, 1, _, rfl, rfl, same_seqT s3 ha, rfl, b, rfl, ⟨_, same_seqT s3 hb⟩, ?_⟩
  refine for_tup Pv ⟨⟨_, rfl⟩, s3, upd_same⟩ (fun i σ H' _ z => same_seqT z.2.1 hb) ?_ ?_
  · rintro i x σ H' hx ⟨⟨o, rfl⟩, s4, el⟩
    obtain ⟨r, hr2, hraw⟩ := hu.get hx
    have mr := List.mem_of_getElem? hr2
    have hraw4 := hraw.keep (.of s4)
    obtain ⟨pa, xs, rfl, hpa, h0, u, hu1, hnu⟩ := raw_first hraw4 (ok.right r mr)
    refine ⟨_, rfl, .inl ⟨rfl, _, SqL.of el⟩, ⟨_, rfl⟩, _, rfl, ?_⟩
    have fit := hn r mr
    have er := (ok.esz r mr).2
    have ee : r.ends.length < 4096 := by
      have q := ok.sum
      have q2 := ends_le (taps := taps) (rs := rs) (i + 1)
      rw [← ends_step hr2, List.length_append] at q2
      rw [show scanBound = 4096 from rfl] at q
      omega
    refine ⟨pa, xs, 0, _, rfl, rfl, hpa, h0, _, rfl, .ref pa, r, rfl, hraw4, ok.right r mr, fun q H5 s5 hq => ⟨q, _, rfl, .inl hq, ?_⟩⟩
    refine ⟨_, rfl, _, rfl, pa, xs, -1, u, rfl, rfl, same_seqT s5 hpa, hu1, u, r.num, rfl, hnu.keep (.of s5), fit.1, fit.2.1, fit.2.2.1, fit.2.2.2, line _ (by simp; omega), fun p2 hp2 => ?_⟩
    have s6 := s5.trans (same_upd (o := .lst (.str r.word :: (r.ends.map V.str ++ [.str r.num.text]))) hp2)
    refine ⟨SPC, p2, r.word :: (r.ends ++ [r.num.text]), rfl, rfl, .inl (SqL.of (by rw [upd_same]; simp)), ?_, ?_⟩
    · have ps := part_sum (ok.right r mr) fit
      rw [List.length_cons, List.length_append, e1]
      simp only [List.length_cons, List.length_nil]
      omega
    · have el6 := s6 _ _ el
      refine ⟨l, _, _, rfl, rfl, el6, ?_, ⟨_, rfl⟩, fun b2 o2 e => ?_, ?_⟩
      · have q : (rs.take i).length ≤ rs.length := by rw [List.length_take]; omega
        rw [sizeLine_eq, List.length_map]
        unfold netLines
        rw [List.length_cons, List.length_map]
        omega
      · rw [upd_ne (ne_of_none e nl1)]
        exact s6 _ _ (s4 _ _ e)
      · rw [upd_same]
        unfold netLines
        rw [List.take_add_one, hr2]
        simp
        rfl
  · rintro σ H' ⟨⟨o, rfl⟩, s4, el⟩
    rw [ll, List.take_length] at el
    refine ⟨⟨_, rfl⟩, _, rfl, l, rfl, ⟨_, SqL.of el⟩, fun Z hZ => ?_⟩
    have nlen : (netLines taps rs).length = rs.length + 1 := by unfold netLines; simp
    refine lc_lst1 (SqL.of el) (by rw [List.length_map, nlen, sizeLine_eq]; omega) (fun i y _ => ((netLines taps rs).map (· ++ NL))[i]?.map V.str = some y) (fun _ _ _ _ _ h => h) hZ ?_ ?_
    · intro i v H6 F hv s6 kk
      obtain ⟨z, hz, rfl⟩ := strs_at hv
      have zl : z.length ≤ 60000 := by
        have mz : z ∈ tapsLine taps :: rs.map partLine := List.mem_of_getElem? hz
        rcases List.mem_cons.mp mz with e | e
        · rw [e]
          have := taps_len ok.tp
          omega
        · obtain ⟨r, mr, rfl⟩ := List.mem_map.mp e
          have := part_len (ok.right r mr) (hn r mr)
          have := ends_few ok mr
          omega
      refine ⟨rfl, _, rfl, z, NL, rfl, rfl, ?_, kk _ _ ?_ (Same.refl _)⟩
      · have e2 : NL.length = 1 := rfl
        exact line _ (by omega)
      · rw [List.getElem?_map, hz]
        rfl
    · intro acc H6 s6 e hl6 hy6
      have eb : acc = ((netLines taps rs).map (· ++ NL)).map V.str := by
        exact strs_are (by rw [hl6, List.length_map, List.length_map]) hy6
      subst eb
      refine ⟨"", Z, _, rfl, rfl, .inl (SqL.of e), ?_, ?_⟩
      · have q := text_small ok hn
        have e0 : (Str.ofString "").length = 0 := rfl
        rw [e0]
        omega
      · exact k _ (s1.trans (s4.trans s6))
theorem ok_net_text {C : Addr} (D : Dn K mg "net_text" snet_text) (B0 : Ok P w K mg base (L2.CX P w) 6 "check_net" ["net"] (spCheck K C)) (B1 : Ok P w K mg base L2.CX0 1 "places_of_part" ["part"] (spEnds K)) (B2 : Ok P w K mg base L2.CX0 1 "number_text" ["value"] (spNumText K)) : Ok P w K mg base (L2.CX P w) 7 "net_text" ["net"] (spText K C) := (okw_net_text D B0 B1 B2).ok
end
end K12
set_option maxHeartbeats 1000000
namespace K12
open PySem PySem.Spec PyProof.Rows L2 Hx RZ
/-! ### lines read: the program -/
theorem spl_part_len (S : List Nat) : ∀ (l : List Nat) (k : Nat) (acc : List Nat), ∀ p ∈ TL.spl S k acc l, p.length ≤ acc.length + l.length
  | [], k, acc, p, h => by
    have e : TL.spl S k acc [] = [acc] := TL.spl_nil S k acc
    rw [e] at h
    rw [List.mem_singleton.mp h]
    simp
  | c :: r, 0, acc, p, h => by
    have e : TL.spl S 0 acc (c :: r) = if TL.pre S (c :: r) = true then acc :: TL.spl S (S.length - 1) [] r else TL.spl S 0 (acc ++ [c]) r := rfl
    rw [e] at h
    split at h
    · rcases List.mem_cons.mp h with q | q
      · rw [q]; omega
      · have := spl_part_len S r _ [] p q
        simp at this ⊢
        omega
    · have := spl_part_len S r 0 (acc ++ [c]) p h
      simp at this ⊢
      omega
  | c :: r, k + 1, acc, p, h => by
    have := spl_part_len S r k acc p h
    simp at this ⊢
    omega
/-- split at one plain sign -/
def One (y : Str) : Prop := ∃ c, TL.tl y = [c] ∧ c < 256
theorem One.kind {y : Str} (h : One y) : y.cps.all (· < 256) = true := by
  obtain ⟨c, e, hc⟩ := h
  have e2 : y.cps = #[c] := Array.toList_inj.mp e
  rw [e2]
  simp [hc]
theorem split_tl {x y : Str} (h : One y) : (Txt.split x y).map TL.tl = TL.spl (TL.tl y) 0 [] (TL.tl x) :=
  TL.split_spl x y (by obtain ⟨c, e, _⟩ := h; rw [e]; simp) (TL.kind_ok h.kind)
theorem split_len {x y : Str} (h : One y) : ∀ p ∈ Txt.split x y, p.length ≤ x.length := fun p hp => by
  have m : TL.tl p ∈ TL.spl (TL.tl y) 0 [] (TL.tl x) := by
    rw [← split_tl h]
    exact List.mem_map.mpr ⟨p, hp, rfl⟩
  have q := spl_part_len _ _ _ _ _ m
  rw [TL.len_tl, TL.len_tl x]
  simpa using q
theorem one_spc : One SPC := ⟨32, by decide +kernel, by decide⟩
theorem one_nl : One NL := ⟨10, by decide +kernel, by decide⟩
theorem one_sl : One SL := ⟨47, by decide +kernel, by decide⟩
theorem split_cons (x y : Str) : ∃ a l, Txt.split x y = a :: l := by
  have q := PyProof.Rows.split_pos x y
  cases e : Txt.split x y with
  | nil => rw [e] at q; simp at q
  | cons a l => exact ⟨a, l, rfl⟩
/-- the words of a line -/
abbrev wordsOf (x : Str) : List Str := Txt.split x SPC
theorem words_sm {x : Str} (hx : x.length ≤ 90000) (k m : Nat) : Sm (((wordsOf x).take m).drop k) := by
  have q : (wordsOf x).length ≤ x.length + 2 := PyProof.Rows.split_le x SPC
  refine ⟨?_, fun p hp => ?_⟩
  · rw [List.length_drop, List.length_take]
    omega
  · have := split_len (x := x) one_spc p (List.mem_of_mem_take (List.mem_of_mem_drop hp))
    omega
def readTaps (x : Str) : Option (List Str) := if (wordsOf x)[0]? = some TAPS ∧ tapsS ((wordsOf x).drop 1) = true then some ((wordsOf x).drop 1) else none
def OptTaps (K : PySem.W.Frag) (H : Hp) (v : V) : Option (List Str) → Prop
  | none => v = .non
  | some ts => ∃ t, v = .ref t ∧ SqT K H t (ts.map V.str)
theorem rSlL_any {K : PySem.W.Frag} {H : Hp} {a : Addr} {xs ys : List V} {lo hi : Option Int} {Q : VK} (ha : SqL K H a xs) (hy : cutV xs lo hi = ys) (q : ∀ p, H p = none → Q (.ref p) (upd H p (.lst ys))) : rSlL K (.ref a) lo hi H Q :=
  ⟨a, xs, rfl, ha, fun p hp => by rw [hy]; exact q p hp⟩
section
variable {P : Program} {w : World} {K : PySem.W.Frag} {mg : Str → Option Value} {base : Heap}
def spReadTaps (K : PySem.W.Frag) : Sp := fun vs H Q _ => ∃ x : Str, vs = [.str x] ∧ x.length ≤ 90000 ∧ ∀ v H', Same H H' → OptTaps K H' v (readTaps x) → Q v H'
theorem sc_read_taps_line : FnScope ["line", "words", "taps"] ["line"] (defScope sread_taps_line) := ⟨rfl, rfl, rfl, by decide +kernel, rfl, by decide +kernel, by decide +kernel⟩
theorem ok_read_taps_line (D : Dn K mg "read_taps_line" sread_taps_line) (B : Ok P w K mg base L2.CX0 3 "are_taps" ["value"] (spNames K tapsS)) (h_tuple : mg "tuple" = none) : Ok P w K mg base L2.CX0 4 "read_taps_line" ["line"] (spReadTaps K) := by
  obtain ⟨_, _, g_are_taps, k_are_taps, b_are_taps, F_are_taps⟩ := B.ex
  refine Ok.mk0 D sc_read_taps_line (fun vs H Q E h => ?_) (fun _ _ _ _ _ _ us hl => match us, hl with | [_], _ => rfl) (fun f cdv A outer s H vs Q E hr h => ?_)
  · obtain ⟨x, rfl, _⟩ := h
    rfl
  obtain ⟨x, rfl, hx, k⟩ := h
  have nd := sc_read_taps_line.nd
  refine ⟨_, (pss_cons (ps_set (i := 1) nd rfl (Or.inl rfl) (pe_split (pv 0) pe_str))
    (pss_cons (ps_set (i := 2) nd rfl (Or.inl rfl) (pe_callTy call_tuple_of (by rfl) h_tuple (by decide +kernel) (pa_cons (pe_slice sl_list (pv 1) (po_some pe_int) po_none) pa_nil)))
    (pss_cons (ps_if (PW.pt (pw_or (pt_cmpR op_ne (pe_ix ix_list (pv 1) pe_int (fun _ _ => rfl)) pe_str (nomark _)) (pw_or1 (pt_not (pt_val (pe_call F_are_taps hr rfl g_are_taps k_are_taps b_are_taps .nil pass0 (pa_cons (pv 2) pa_nil)))))))
      (pss_one (ps_ret pe_non))
      pss_nil)
    (pss_one (ps_ret (pv 2)))))), ?_⟩
  obtain ⟨w0, ws, ew⟩ := split_cons x SPC
  refine ⟨_, rfl, ⟨_, rfl⟩, x, SPC, rfl, rfl, by decide +kernel, (by rw [sizeLine_eq]; omega), fun p hp => ?_⟩
  have s1 := same_upd (o := .lst ((Txt.split x SPC).map V.str)) hp
  refine ⟨_, rfl, _, rfl, ?_⟩
  show tNoPart _ _ _
  unfold tNoPart
  refine rSlL_any (SqL.of upd_same) (cut_from 1) fun q hq => ?_
  rw [← List.map_drop]
  have s2 := s1.trans (same_upd (o := .lst (((Txt.split x SPC).drop 1).map V.str)) hq)
  refine ⟨q, _, rfl, .inl ⟨SqL.of upd_same, fun t ht => ?_⟩⟩
  have s3 := s2.trans (same_upd (o := .tup (((Txt.split x SPC).drop 1).map V.str)) ht)
  have out : ∀ v H', Same _ H' → OptTaps K H' v (readTaps x) → Q v H' := fun v H' s => k v H' (s3.trans s)
  have dt : Sm ((Txt.split x SPC).drop 1) := by
    have z := words_sm hx 1 (wordsOf x).length
    rw [List.take_length] at z
    exact z
  have ewl := same_seqL (K := K) ((same_upd (o := .lst (((Txt.split x SPC).drop 1).map V.str)) hq).trans (same_upd (o := .tup (((Txt.split x SPC).drop 1).map V.str)) ht)) (SqL.of (upd_same (H := H) (a := p) (o := .lst ((Txt.split x SPC).map V.str))))
  rw [ew] at s3 dt out ewl ⊢
  refine ⟨_, rfl, p, _, 0, .str w0, rfl, rfl, ewl, atI_nat (j := 0) rfl, rfl, _, rfl, ?_⟩
  have ed : (wordsOf x)[0]? = some w0 := by rw [show wordsOf x = w0 :: ws from ew]; rfl
  have e1 : (wordsOf x).drop 1 = ws := by rw [show wordsOf x = w0 :: ws from ew]; rfl
  rw [deq_str]
  by_cases h0 : w0 = TAPS
  · rw [decide_eq_true h0]
    refine iteF ⟨_, rfl, t, ws, rfl, SqT.of upd_same, dt, fun H6 s6 => ⟨_, rfl, ?_⟩⟩
    cases ht2 : tapsS ws with
    | false =>
      refine iteT (out _ _ s6 ?_)
      unfold readTaps
      rw [if_neg (fun h => by rw [e1, ht2] at h; exact absurd h.2 (by decide))]
      rfl
    | true =>
      refine iteF ⟨_, rfl, out _ _ s6 ?_⟩
      unfold readTaps
      rw [if_pos ⟨by rw [ed, h0], by rw [e1, ht2]⟩, e1]
      exact ⟨t, rfl, same_seqT s6 (SqT.of upd_same)⟩
  · rw [decide_eq_false h0]
    refine iteT (out _ _ (Same.refl _) ?_)
    unfold readTaps
    rw [if_neg (fun h => h0 (by rw [ed] at h; exact Option.some.inj h.1))]
    rfl
end
end K12
set_option maxHeartbeats 1000000
namespace K12
open PySem PySem.Spec PyProof.Rows L2 Hx RZ
/-! ### read_part_line: the program -/
/-- of the first word, the words between, and the number -/
def partOf (kw : Str) (pl : List Str) (n : Num) : Option Raw :=
  if kw = HUB then (if namesS pl = true ∧ 2 ≤ pl.length then some (.hub pl n) else none)
  else match pl with
    | [x, y] => if (nameS x = true ∧ nameS y = true) ∧ ((kw = PIPE ∧ x.cps.toList < y.cps.toList) ∨ (kw = LEAD ∧ x ≠ y)) then some (.flat [kw, x, y] n) else none
    | _ => none
/-- the words of a line, the last one apart -/
def readPart (x : Str) : Option Raw := match wordsOf x with
  | [] => none
  | kw :: ws => match numRead ((kw :: ws).getLast (by simp)) with
    | none => none
    | some n => partOf kw (((kw :: ws).take ws.length).drop 1) n
def OptRaw (K : PySem.W.Frag) (H : Hp) (v : V) : Option Raw → Prop
  | none => v = .non
  | some r => RawAt K H v r
theorem at_last {xs : List V} (h : xs ≠ []) : atI xs (-1) = some (xs.getLast h) := by
  have e := atI_last xs.dropLast (xs.getLast h)
  rw [List.dropLast_concat_getLast] at e
  exact e
theorem num_not {K : PySem.W.Frag} {H : Hp} {v : V} {n : Num} (h : NumAt K H v n) : v ≠ .non := by
  cases n with
  | w i => rw [show v = .int i from h]; simp
  | q t b => obtain ⟨a, e, _⟩ := h; rw [e]; simp
section
variable {P : Program} {w : World} {K : PySem.W.Frag} {mg : Str → Option Value} {base : Heap}
def spReadPart (K : PySem.W.Frag) : Sp := fun vs H Q _ => ∃ x : Str, vs = [.str x] ∧ x.length ≤ 90000 ∧ ∀ v H', Same H H' → OptRaw K H' v (readPart x) → Q v H'
theorem sc_read_part_line : FnScope ["line", "words", "width", "places", "start", "end"] ["line"] (defScope sread_part_line) := ⟨rfl, rfl, rfl, by decide +kernel, rfl, by decide +kernel, by decide +kernel⟩
theorem ok_read_part_line (D : Dn K mg "read_part_line" sread_part_line) (B0 : Ok P w K mg base L2.CX0 3 "read_number" ["text"] (spReadNum K numRead)) (B1 : Ok P w K mg base L2.CX0 2 "are_names" ["value"] (spNames K namesS)) (B2 : Ok P w K mg base L2.CX0 1 "is_name" ["value"] (spName nameS))
    (h_tuple : mg "tuple" = none) (h_len : mg "len" = none) : Ok P w K mg base L2.CX0 4 "read_part_line" ["line"] (spReadPart K) := by
  obtain ⟨_, _, g_read_number, k_read_number, b_read_number, F_read_number⟩ := B0.ex
  obtain ⟨_, _, g_are_names, k_are_names, b_are_names, F_are_names⟩ := B1.ex
  obtain ⟨_, _, g_is_name, k_is_name, b_is_name, F_is_name⟩ := B2.ex
  refine Ok.mk0 D sc_read_part_line (fun vs H Q E h => ?_) (fun _ _ _ _ _ _ us hl => match us, hl with | [_], _ => rfl) (fun f cdv A outer s H vs Q E hr h => ?_)
  · obtain ⟨x, rfl, _⟩ := h
    rfl
  obtain ⟨x, rfl, hx, k⟩ := h
  have nd := sc_read_part_line.nd
  have hr2 := hr.mono (show 2 ≤ 3 by decide)
  have hr1 := hr.mono (show 1 ≤ 3 by decide)
  refine ⟨_, (pss_cons (ps_set (i := 1) nd rfl (Or.inl rfl) (pe_split (pv 0) pe_str))
    (pss_cons (ps_set (i := 2) nd rfl (Or.inl rfl) (pe_call F_read_number hr rfl g_read_number k_read_number b_read_number .nil pass0 (pa_cons (pe_ix ix_list (pv 1) (pe_un un_neg pe_int) (fun _ _ => rfl)) pa_nil)))
    (pss_cons (ps_if (pt_cmpR op_isN (pv 2) pe_non (nomark _))
      (pss_one (ps_ret pe_non))
      pss_nil)
    (pss_cons (ps_set (i := 3) nd rfl (Or.inl rfl) (pe_callTy call_tuple_of (by rfl) h_tuple (by decide +kernel) (pa_cons (pe_slice sl_list (pv 1) (po_some pe_int) (po_some (pe_un un_neg pe_int))) pa_nil)))
    (pss_cons (ps_if (pt_cmpR op_eq (pe_ix ix_list (pv 1) pe_int (fun _ _ => rfl)) pe_str (nomark _))
      (pss_one (ps_ret (pe_ifExp (PW.pt (pw_and (pt_val (pe_call F_are_names hr2 rfl g_are_names k_are_names b_are_names .nil pass0 (pa_cons (pv 3) pa_nil))) (pw_and1 (pt_cmpR op_ge (pe_lenS rfl h_len (pv 3)) pe_int (nomark _))))) (pe_tup (pa_cons pe_str (pa_cons (pv 3) (pa_cons (pv 2) pa_nil)))) pe_non)))
      pss_nil)
    (pss_cons (ps_if (PW.pt (pw_or (pt_cmpR op_ne (pe_lenS rfl h_len (pv 3)) pe_int (nomark _)) (pw_or (pt_not (pt_val (pe_call F_is_name hr1 rfl g_is_name k_is_name b_is_name .nil pass0 (pa_cons (pe_ix ix_tup (pv 3) pe_int (fun _ _ => rfl)) pa_nil)))) (pw_or1 (pt_not (pt_val (pe_call F_is_name hr1 rfl g_is_name k_is_name b_is_name .nil pass0 (pa_cons (pe_ix ix_tup (pv 3) pe_int (fun _ _ => rfl)) pa_nil))))))))
      (pss_one (ps_ret pe_non))
      pss_nil)
    (pss_cons (ps_asg (pv 3) (pg_tup (by rfl) (pgs_cons (pg_name (i := 4) nd rfl (Or.inl rfl)) (pgs_cons (pg_name (i := 5) nd rfl (Or.inl rfl)) pgs_nil))))
    (pss_cons (ps_if (PW.pt (pw_or (PW.pt (pw_and (pt_cmpR op_eq (pe_ix ix_list (pv 1) pe_int (fun _ _ => rfl)) pe_str (nomark _)) (pw_and1 (pt_cmpR op_lt_str (pv 4) (pv 5) (nomark _))))) (pw_or1 (PW.pt (pw_and (pt_cmpR op_eq (pe_ix ix_list (pv 1) pe_int (fun _ _ => rfl)) pe_str (nomark _)) (pw_and1 (pt_cmpR op_ne (pv 4) (pv 5) (nomark _))))))))
      (pss_one (ps_ret (pe_tup (pa_cons (pe_ix ix_list (pv 1) pe_int (fun _ _ => rfl)) (pa_cons (pv 4) (pa_cons (pv 5) (pa_cons (pv 2) pa_nil)))))))
      pss_nil)
    (pss_one (ps_ret pe_non)))))))))), ?_⟩
  obtain ⟨w0, ws, ew⟩ := split_cons x SPC
  refine ⟨_, rfl, ⟨_, rfl⟩, x, SPC, rfl, rfl, by decide +kernel, (by rw [sizeLine_eq]; omega), fun p hp => ?_⟩
  have s1 := same_upd (o := .lst ((Txt.split x SPC).map V.str)) hp
  have ewl := SqL.of (K := K) (upd_same (H := H) (a := p) (o := .lst ((Txt.split x SPC).map V.str)))
  have wl := split_len (x := x) one_spc
  rw [ew] at s1 ewl wl ⊢
  have hlast : ((w0 :: ws).getLast (by simp)).length ≤ 100000 := by
    have := wl _ (List.getLast_mem (l := w0 :: ws) (by simp))
    omega
  have erd : readPart x = match numRead ((w0 :: ws).getLast (by simp)) with | none => none | some n => partOf w0 (((w0 :: ws).take ws.length).drop 1) n := by
    unfold readPart
    rw [show wordsOf x = w0 :: ws from ew]
  refine ⟨_, rfl, _, rfl, p, _, -1, .str ((w0 :: ws).getLast (by simp)), rfl, rfl, ewl, ?_, _, rfl, hlast, fun v H2 s2 hv => ?_⟩
  · rw [at_last (by simp), List.getLast_map]
  have s12 := s1.trans s2
  generalize hN : numRead ((w0 :: ws).getLast (by simp)) = oN at hv erd
  have out : ∀ u H', Same H2 H' → OptRaw K H' u (readPart x) → Q u H' := fun u H' s => k u H' (s12.trans s)
  refine ⟨_, rfl, rfl, _, rfl, ?_⟩
  cases oN with
  | none =>
    obtain rfl : v = .non := hv
    exact iteT (out _ _ (Same.refl _) (by rw [erd]; rfl))
  | some n =>
    have nv : NumAt K H2 v n := hv
    rw [decide_eq_false (num_not nv)]
    refine iteF ⟨_, rfl, ?_⟩
    have ewl2 := same_seqL s2 ewl
    generalize hpl : ((w0 :: ws).take ws.length).drop 1 = pl at erd
    have hcut : cutV ((w0 :: ws).map V.str) (some ((1 : Nat) : Int)) (some (-1)) = pl.map V.str := by
      rw [cut_less1, List.length_map, ← List.map_take, ← List.map_drop, ← hpl]
      rfl
    show tPart _ _ _ _
    refine ⟨_, rfl, _, rfl, _, rfl, ?_⟩
    refine rSlL_any ewl2 hcut fun q hq => ?_
    have s3 := s2.trans (same_upd (o := .lst (pl.map V.str)) hq)
    refine ⟨q, _, rfl, .inl ⟨SqL.of upd_same, fun t ht => ?_⟩⟩
    have s4 := (same_upd (o := .lst (pl.map V.str)) hq).trans (same_upd (o := .tup (pl.map V.str)) ht)
    have htt : SqT K _ t (pl.map V.str) := SqT.of (upd_same (H := upd H2 q (.lst (pl.map V.str))) (a := t) (o := .tup (pl.map V.str)))
    generalize upd (upd H2 q (.lst (pl.map V.str))) t (.tup (pl.map V.str)) = H4 at s4 htt ⊢
    have ewl4 := same_seqL s4 ewl2
    have nv4 := nv.keep (.of s4)
    have smp : Sm pl := by
      have z := words_sm hx 1 ws.length
      rw [show wordsOf x = w0 :: ws from ew, hpl] at z
      exact z
    have fin : ∀ u H', Same H4 H' → OptRaw K H' u (partOf w0 pl n) → Q u H' := fun u H' s h => out u H' (s4.trans s) (by rw [erd]; exact h)
    have sz : ∀ m : Nat, m ≤ 100 → m ≤ sizeLine := fun m h => by rw [sizeLine_eq]; omega
    refine ⟨_, rfl, p, _, 0, .str w0, rfl, rfl, ewl4, atI_nat (j := 0) rfl, rfl, _, rfl, ?_⟩
    rw [deq_str]
    by_cases hh : w0 = HUB
    · rw [decide_eq_true hh]
      refine iteT ⟨_, rfl, t, pl, rfl, htt, smp, fun H5 s5 => ⟨_, rfl, ?_⟩⟩
      cases hn : namesS pl with
      | false =>
        refine iteF (iteF (fin _ _ s5 ?_))
        unfold partOf
        rw [if_pos hh, if_neg (fun h => by rw [hn] at h; exact absurd h.1 (by decide))]
        rfl
      | true =>
        refine iteT ⟨_, rfl, t, _, rfl, .inr (same_seqT s5 htt), _, _, rfl, rfl, _, rfl, ?_⟩
        rw [List.length_map]
        by_cases h2 : 2 ≤ pl.length
        · rw [show decide ((2 : Int) ≤ (pl.length : Int)) = true from decide_eq_true (by omega)]
          refine iteT ⟨_, rfl, _, rfl, sz 3 (by decide), fun u hu => fin _ _ (s5.trans (same_upd hu)) ?_⟩
          unfold partOf
          rw [if_pos hh, if_pos ⟨hn, h2⟩]
          have s6 := s5.trans (same_upd (o := .tup [.str HUB, .ref t, v]) hu)
          exact ⟨u, t, v, rfl, SqT.of upd_same, same_seqT s6 htt, nv4.keep (.of s6)⟩
        · rw [show decide ((2 : Int) ≤ (pl.length : Int)) = false from decide_eq_false (by omega)]
          refine iteF (fin _ _ s5 ?_)
          unfold partOf
          rw [if_pos hh, if_neg (fun h => h2 h.2)]
          rfl
    · rw [decide_eq_false hh]
      refine iteF ⟨_, rfl, t, _, rfl, .inr htt, rfl, _, rfl, ?_⟩
      rw [deq_int, List.length_map]
      have non : ∀ H', Same H4 H' → partOf w0 pl n = none → Q .non H' := fun H' s e => fin _ _ s (by rw [e]; rfl)
      by_cases h2 : pl.length = 2
      · rw [show decide ((pl.length : Int) = 2) = true from decide_eq_true (by omega)]
        obtain ⟨a, b, rfl⟩ : ∃ a b, pl = [a, b] := by
          match pl, h2 with
          | [a, b], _ => exact ⟨a, b, rfl⟩
        have la := smp.2 a (by simp)
        have lb := smp.2 b (by simp)
        have ep : partOf w0 [a, b] n = if (nameS a = true ∧ nameS b = true) ∧ ((w0 = PIPE ∧ a.cps.toList < b.cps.toList) ∨ (w0 = LEAD ∧ a ≠ b)) then some (.flat [w0, a, b] n) else none := by
          unfold partOf
          rw [if_neg hh]
        refine iteF ⟨_, rfl, t, _, 0, _, rfl, rfl, htt, rfl, a, rfl, la, fun H5 s5 => ⟨_, rfl, ?_⟩⟩
        cases na : nameS a with
        | false => exact iteT (non _ s5 (by rw [ep, if_neg (fun h => by rw [na] at h; exact absurd h.1.1 (by decide))]))
        | true =>
          refine iteF ⟨_, rfl, t, _, 1, _, rfl, rfl, same_seqT s5 htt, rfl, b, rfl, lb, fun H6 s6 => ⟨_, rfl, ?_⟩⟩
          have s56 := s5.trans s6
          cases nb : nameS b with
          | false => exact iteT (non _ s56 (by rw [ep, if_neg (fun h => by rw [nb] at h; exact absurd h.1.2 (by decide))]))
          | true =>
            refine iteF ⟨_, rfl, t, _, rfl, same_seqT s56 htt, rfl, _, _, rfl, _, _, rfl, rfl, ?_⟩
            have ewl6 := same_seqL s56 ewl4
            have no6 : ¬ ((w0 = PIPE ∧ a.cps.toList < b.cps.toList) ∨ (w0 = LEAD ∧ a ≠ b)) → Q .non H6 := fun h => non _ s56 (by rw [ep, if_neg (fun z => h z.2)])
            have yes : ((w0 = PIPE ∧ a.cps.toList < b.cps.toList) ∨ (w0 = LEAD ∧ a ≠ b)) → ∀ u, H6 u = none → Q (.ref u) (upd H6 u (.tup [.str w0, .str a, .str b, v])) := fun h u hu => by
              refine fin _ _ (s56.trans (same_upd hu)) ?_
              rw [ep, if_pos ⟨⟨na, nb⟩, h⟩]
              exact ⟨u, v, rfl, SqT.of upd_same, nv4.keep (.of (s56.trans (same_upd hu)))⟩
            refine ⟨_, rfl, p, _, 0, .str w0, rfl, rfl, ewl6, atI_nat (j := 0) rfl, rfl, _, rfl, ?_⟩
            rw [deq_str]
            by_cases hp1 : w0 = PIPE
            · have hl1 : ¬ w0 = LEAD := fun q => pipe_lead (hp1.symm.trans q)
              rw [decide_eq_true hp1]
              refine iteT ⟨_, rfl, _, rfl, a, b, rfl, rfl, _, rfl, ?_⟩
              by_cases hlt : a.cps.toList < b.cps.toList
              · rw [decide_eq_true hlt]
                refine iteT (iteT ?_)
                refine ⟨_, rfl, p, _, 0, .str w0, rfl, rfl, ewl6, atI_nat (j := 0) rfl, _, rfl, _, rfl, _, rfl, sz 4 (by decide), fun u hu => yes (.inl ⟨hp1, hlt⟩) u hu⟩
              · rw [decide_eq_false hlt]
                refine iteF ⟨_, rfl, p, _, 0, .str w0, rfl, rfl, ewl6, atI_nat (j := 0) rfl, rfl, _, rfl, ?_⟩
                rw [deq_str, decide_eq_false hl1]
                exact iteF (iteF (no6 fun h => h.elim (fun z => hlt z.2) (fun z => hl1 z.1)))
            · rw [decide_eq_false hp1]
              refine iteF (iteF ⟨_, rfl, p, _, 0, .str w0, rfl, rfl, ewl6, atI_nat (j := 0) rfl, rfl, _, rfl, ?_⟩)
              rw [deq_str]
              by_cases hl1 : w0 = LEAD
              · rw [decide_eq_true hl1]
                refine iteT ⟨_, rfl, _, rfl, rfl, _, rfl, ?_⟩
                by_cases hab : a = b
                · rw [decide_eq_true (congrArg V.str hab)]
                  exact iteF (no6 fun h => h.elim (fun z => hp1 z.1) (fun z => z.2 hab))
                · rw [decide_eq_false (fun q => hab (V.str.inj q))]
                  refine iteT ⟨_, rfl, p, _, 0, .str w0, rfl, rfl, ewl6, atI_nat (j := 0) rfl, _, rfl, _, rfl, _, rfl, sz 4 (by decide), fun u hu => yes (.inr ⟨hl1, hab⟩) u hu⟩
              · rw [decide_eq_false hl1]
                exact iteF (iteF (no6 fun h => h.elim (fun z => hp1 z.1) (fun z => hl1 z.1)))
      · rw [show decide ((pl.length : Int) = 2) = false from decide_eq_false (by omega)]
        refine iteT (non _ (Same.refl _) ?_)
        unfold partOf
        rw [if_neg hh]
        split
        · simp at h2
        · rfl
end
end K12
set_option maxHeartbeats 1000000
namespace K12
open PySem PySem.Spec PyProof.Rows L2 Hx RZ
/-! ### fits_behind: the program -/
def ded : List Str → List Str
  | [] => []
  | x :: l => if x ∈ ded l then ded l else x :: ded l
theorem ded_mem : ∀ (l : List Str) (z : Str), z ∈ ded l ↔ z ∈ l
  | [], z => Iff.rfl
  | x :: l, z => by
    unfold ded
    split
    · next h =>
      rw [ded_mem l z, List.mem_cons]
      exact ⟨.inr, fun q => q.elim (fun e => by rw [e]; exact (ded_mem l x).mp h) id⟩
    · rw [List.mem_cons, List.mem_cons, ded_mem l z]
theorem ded_nodup : ∀ l : List Str, (ded l).Nodup
  | [] => .nil
  | x :: l => by
    unfold ded
    split
    · exact ded_nodup l
    · next h => exact List.nodup_cons.mpr ⟨h, ded_nodup l⟩
theorem nodup_le {l m : List Str} (nd : l.Nodup) (sub : ∀ x ∈ l, x ∈ m) : l.length ≤ m.length := by
  induction l generalizing m with
  | nil => exact Nat.zero_le _
  | cons x l ih =>
    have n2 := List.nodup_cons.mp nd
    have hx := sub x List.mem_cons_self
    have q := ih (m := m.erase x) n2.2 fun y hy => (List.mem_erase_of_ne fun e => n2.1 (by rw [← e]; exact hy)).mpr (sub y (List.mem_cons_of_mem _ hy))
    rw [List.length_erase_of_mem hx] at q
    have := List.length_pos_of_mem hx
    simp
    omega
theorem dle2 {a : Nat} {k : Nat} : decide ((a : Int) ≤ (k : Int)) = decide (a ≤ k) := dle
def cntU (l : List Str) : Nat := (ded l).length
theorem places_len {ys ends : List Str} (h : Places ys ends) : ys.length = cntU ends :=
  Nat.le_antisymm (nodup_le h.1 fun x hx => (ded_mem _ _).mpr ((h.2.1 x).mp hx)) (nodup_le (ded_nodup _) fun x hx => (h.2.1 x).mpr ((ded_mem _ _).mp hx))
def fitsS (taps : List Str) (rs : List Raw) : Bool := decide (rs.length ≤ 200) && (!mixS rs && decide (cntU (allEnds taps rs) ≤ 40))
section
variable {P : Program} {w : World} {K : PySem.W.Frag} {mg : Str → Option Value} {base : Heap}
def spFits (K : PySem.W.Frag) : Sp := fun vs H Q _ => ∃ (t l : Addr) (v : V) (taps : List Str) (us : List V) (rs : List Raw) (r : Raw), vs = [.ref t, .ref l, v] ∧ SqT K H t (taps.map V.str) ∧ SqL K H l us ∧ RawsAt K H us rs ∧ RawAt K H v r ∧ (∀ q ∈ rs ++ [r], Right q) ∧
  rs.length ≤ 1000 ∧ (allEnds taps (rs ++ [r])).length + 1 < scanBound ∧ ∀ H', Same H H' → Q (.bl (fitsS taps (rs ++ [r]))) H'
theorem sc_fits_behind : FnScope ["taps", "parts", "part", "more"] ["taps", "parts", "part"] (defScope sfits_behind) := ⟨rfl, rfl, rfl, by decide +kernel, rfl, by decide +kernel, by decide +kernel⟩
theorem ok_fits_behind (D : Dn K mg "fits_behind" sfits_behind) (B0 : Ok P w K mg base L2.CX0 2 "mixes_leads_and_hubs" ["parts"] (spMix K)) (B1 : Ok P w K mg base L2.CX0 2 "places_in" ["taps", "parts"] (spPlaces K))
    (h_len : mg "len" = none) (c1 : ∃ t, mg "MOST_PARTS" = some (.int 200 t)) (c2 : ∃ t, mg "MOST_PLACES" = some (.int 40 t)) : Ok P w K mg base L2.CX0 3 "fits_behind" ["taps", "parts", "part"] (spFits K) := by
  obtain ⟨_, gMOST_PARTS⟩ := c1
  obtain ⟨_, gMOST_PLACES⟩ := c2
  obtain ⟨_, _, g_mixes_leads_and_hubs, k_mixes_leads_and_hubs, b_mixes_leads_and_hubs, F_mixes_leads_and_hubs⟩ := B0.ex
  obtain ⟨_, _, g_places_in, k_places_in, b_places_in, F_places_in⟩ := B1.ex
  refine Ok.mk0 D sc_fits_behind (fun vs H Q E h => ?_) (fun _ _ _ _ _ _ us hl => match us, hl with | [_, _, _], _ => rfl) (fun f cdv A outer s H vs Q E hr h => ?_)
  · obtain ⟨t, l, v, taps, us, rs, r, rfl, _⟩ := h
    rfl
  obtain ⟨t, l, v, taps, us, rs, r, rfl, ht, hl, hu, hv, ok, few, sum, k⟩ := h
  have nd := sc_fits_behind.nd
  refine ⟨_, (pss_cons (ps_set (i := 3) nd rfl (Or.inl rfl) (pe_lst (StX.pa_star (pv 1) (pa_cons (pv 2) pa_nil))))
    (pss_cons (ps_if (PW.pt (pw_or (pt_cmpR op_gt (pe_lenS rfl h_len (pv 3)) (pe_glob (v := .int 200) rfl gMOST_PARTS ⟨_, rfl⟩) (nomark _)) (pw_or1 (pt_val (pe_call F_mixes_leads_and_hubs hr rfl g_mixes_leads_and_hubs k_mixes_leads_and_hubs b_mixes_leads_and_hubs .nil pass0 (pa_cons (pv 3) pa_nil))))))
      (pss_one (ps_ret pe_bl))
      pss_nil)
    (pss_one (ps_ret (pe_cmpR op_le (pe_lenS rfl h_len (pe_call F_places_in hr rfl g_places_in k_places_in b_places_in .nil pass0 (pa_cons (pv 0) (pa_cons (pv 3) pa_nil)))) (pe_glob (v := .int 40) rfl gMOST_PLACES ⟨_, rfl⟩) (nomark _)))))), ?_⟩
  have ll := hu.len
  refine ⟨_, rfl, l, us, rfl, .inr hl, _, rfl, (by rw [sizeLine_eq]; simp; omega), fun p hp => ?_⟩
  have s1 := same_upd (o := .lst (us ++ [v])) hp
  have hm : SqL K (upd H p (.lst (us ++ [v]))) p (us ++ [v]) := SqL.of upd_same
  generalize upd H p (.lst (us ++ [v])) = H1 at s1 hm ⊢
  have hraws : RawsAt K H1 (us ++ [v]) (rs ++ [r]) := (hu.keep (.of s1)).app (.cons (hv.keep (.of s1)) .nil)
  have ln : (us ++ [v]).length = (rs ++ [r]).length := hraws.len
  have lnb : (us ++ [v]).length ≤ 1001 := by simp; omega
  generalize us ++ [v] = ws at hm hraws ln lnb ⊢
  generalize rs ++ [r] = qs at hraws ln ok sum k ⊢
  have no : ∀ H', Same H1 H' → fitsS taps qs = false → Q (.bl false) H' := fun H' s e => by
    have z := k H' (s1.trans s)
    rw [e] at z
    exact z
  refine ⟨_, rfl, p, _, rfl, .inl hm, _, _, rfl, rfl, _, rfl, ?_⟩
  by_cases h2 : qs.length ≤ 200
  · rw [decide_eq_false (by omega)]
    refine iteF ⟨_, rfl, p, ws, qs, rfl, .inl hm, by omega, hraws, ok, fun H2 s2 => ⟨_, rfl, ?_⟩⟩
    cases em : mixS qs with
    | true =>
      refine iteT (no _ s2 ?_)
      unfold fitsS
      rw [em]
      simp
    | false =>
      refine iteF ⟨_, rfl, _, rfl, t, p, taps, ws, qs, rfl, same_seqT (s1.trans s2) ht, .inl (same_seqL s2 hm), hraws.keep (.of s2), ok, sum, fun p2 ys H3 s3 hp2 _ pl => ?_⟩
      refine ⟨p2, _, rfl, .inl (SqL.of hp2), _, _, rfl, rfl, ?_⟩
      have z := k H3 (s1.trans (s2.trans s3))
      unfold fitsS at z
      rw [em, decide_eq_true h2, ← places_len pl, Bool.true_and, Bool.not_false, Bool.true_and] at z
      rw [show decide (ys.length ≤ 40) = decide (((ys.map V.str).length : Int) ≤ 40) from by rw [List.length_map]; exact (dle2 (k := 40)).symm] at z
      exact z
  · rw [decide_eq_true (by omega)]
    refine iteT (no _ (Same.refl _) ?_)
    unfold fitsS
    rw [decide_eq_false h2]
    rfl
end
end K12
set_option maxHeartbeats 1000000
namespace K12
open PySem PySem.Spec PyProof.Rows L2 Hx RZ
/-! ### read_net: the program -/
/-- the parts of the lines behind the first one, or the number of the first wrong line -/
def readParts (taps : List Str) : Nat → List Raw → List Str → Nat ⊕ List Raw
  | _, done, [] => .inr done
  | at_, done, x :: rest => match readPart x with
    | none => .inl (at_ + 1)
    | some r => if fitsS taps (done ++ [r]) = true then readParts taps (at_ + 1) (done ++ [r]) rest else .inl (at_ + 1)
abbrev linesOf (x : Str) : List Str := Txt.split x NL
def middle (ls : List Str) : List Str := (ls.take (ls.length - 1)).drop 1
def readNet (x : Str) : Nat ⊕ (List Str × List Raw) := match linesOf x with
  | [] => .inl 1
  | l0 :: ls => match readTaps l0 with
    | none => .inl 1
    | some taps => match readParts taps 1 [] (middle (l0 :: ls)) with
      | .inl n => .inl n
      | .inr rs => if (l0 :: ls).getLast (by simp) = "" then .inr (taps, rs) else .inl (ls.length + 1)
theorem spl_sum (S : List Nat) : ∀ (l : List Nat) (k : Nat) (acc : List Nat), ((TL.spl S k acc l).map (·.length)).sum ≤ acc.length + l.length
  | [], k, acc => by
    have e : TL.spl S k acc [] = [acc] := TL.spl_nil S k acc
    rw [e]
    simp
  | c :: r, 0, acc => by
    have e : TL.spl S 0 acc (c :: r) = if TL.pre S (c :: r) = true then acc :: TL.spl S (S.length - 1) [] r else TL.spl S 0 (acc ++ [c]) r := rfl
    rw [e]
    split
    · have := spl_sum S r (S.length - 1) []
      simp at this ⊢
      omega
    · have := spl_sum S r 0 (acc ++ [c])
      simp at this ⊢
      omega
  | c :: r, k + 1, acc => by
    have := spl_sum S r k acc
    have e : TL.spl S (k + 1) acc (c :: r) = TL.spl S k acc r := rfl
    rw [e]
    simp at this ⊢
    omega
theorem split_sum {x y : Str} (h : One y) : ((Txt.split x y).map (·.length)).sum ≤ x.length := by
  have q := spl_sum (TL.tl y) (TL.tl x) 0 []
  rw [← split_tl h, List.map_map] at q
  have e : ((fun l : List Nat => l.length) ∘ TL.tl) = fun z : Str => z.length := funext fun z => (TL.len_tl z).symm
  rw [e, ← TL.len_tl] at q
  simpa using q
theorem sum_take (l : List Str) (k : Nat) : ((l.take k).map (·.length)).sum ≤ (l.map (·.length)).sum := by
  have e : l.map (·.length) = (l.take k).map (·.length) ++ (l.drop k).map (·.length) := by rw [← List.map_append, List.take_append_drop]
  rw [e, List.sum_append]
  omega
theorem sum_drop (l : List Str) (k : Nat) : ((l.drop k).map (·.length)).sum ≤ (l.map (·.length)).sum := by
  have e : l.map (·.length) = (l.take k).map (·.length) ++ (l.drop k).map (·.length) := by rw [← List.map_append, List.take_append_drop]
  rw [e, List.sum_append]
  omega
theorem numRead_ok {x : Str} {n : Num} (h : numRead x = some n) : n.ok0 = true := by
  unfold numRead at h
  split at h
  · cases h
  · next t _ =>
    split at h
    · cases h
      show (true && decide ((0 : Int) ≤ (t : Int))) = true
      rw [decide_eq_true (by omega)]
      rfl
    · split at h
      · cases h
      · next b _ =>
        split at h
        · next hok =>
          cases h
          show (Num.ok (.q t b) && decide ((0 : Int) ≤ (t : Int))) = true
          rw [hok, decide_eq_true (by omega)]
          rfl
        · cases h
theorem partOf_right {kw : Str} {pl : List Str} {n : Num} {r : Raw} (hn : n.ok0 = true) (h : partOf kw pl n = some r) : Right r ∧ r.ends.length ≤ pl.length := by
  unfold partOf at h
  split at h
  · split at h
    · next hc =>
      cases h
      exact ⟨.hub _ _ hc.1 hc.2 hn, Nat.le_refl _⟩
    · cases h
  · split at h
    · next x y =>
      split at h
      · next hc =>
        cases h
        exact ⟨.two _ _ _ _ hc.1.1 hc.1.2 hc.2 hn, Nat.le_refl _⟩
      · cases h
    · cases h
theorem readPart_right {x : Str} {r : Raw} (h : readPart x = some r) : Right r ∧ r.ends.length ≤ x.length + 2 := by
  unfold readPart at h
  split at h
  · cases h
  · next kw ws ew =>
    split at h
    · cases h
    · next n hn =>
      obtain ⟨q1, q2⟩ := partOf_right (numRead_ok hn) h
      refine ⟨q1, Nat.le_trans q2 ?_⟩
      have q3 : (wordsOf x).length ≤ x.length + 2 := PyProof.Rows.split_le x SPC
      rw [ew] at q3
      rw [List.length_drop, List.length_take]
      simp at q3 ⊢
      omega
/-- raise BadText(e) -/
abbrev okLine : V → Prop := fun v => ∃ n : Nat, v = .int n ∧ n ≤ 1000000
structure BadT (P : Program) (w : World) (K : PySem.W.Frag) (mg : Str → Option Value) (base : Heap) (C : Addr) : Prop where
  T : OexC K C
  g : mg "BadText" = some (.ref C)
  ex : ∃ fI fd, PySem.W.findIn K (.ref C) "__init__" = some (some (.ref fI)) ∧ PySem.W.typeIn K (.ref fI) = some (.type "function") ∧ FnOk P w K mg base L2.CX0 1 fI fd ["self", "line"] (spIni C "line" okLine) ∧ Binds K fd ["self", "line"] []
/-- the way out of it -/
def Raised (C : Addr) (E : XK) (H : Hp) (n : Nat) : Prop := ∀ d H', Same H H' → H d = none → H' d = some (.xd [("line", .int n)]) → E (.ref C) (some d) H'
theorem raised_mk {C : Addr} {E : XK} {H H1 : Hp} {n : Nat} (s : Same H H1) (hn : n ≤ 1000000) (k : Raised C E H n) {a : Addr} (ha : H1 a = none) :
    spIni C "line" okLine (.ref a :: ([V.int n] ++ [])) (upd H1 a (exo a C none)) (fun v H2 => v = .non ∧ ∃ (d : Addr) (fs : List (Str × V)), H2 a = some (exo a C (some d)) ∧ H2 d = some (exd d fs) ∧ H1 d = none ∧ E (.ref C) (some d) (upd (del H2 a) d (.xd fs))) (fun _ _ _ => False) := by
  refine ⟨a, .int n, rfl, ⟨n, rfl, hn⟩, upd_same, fun d H' hd nda e => ⟨rfl, d, [("line", .int n)], ?_, ?_, ?_, ?_⟩⟩
  · rw [e]; exact upd_same
  · rw [e, upd_ne nda]; exact upd_same
  · rw [upd_ne nda] at hd; exact hd
  · have hd1 : H1 d = none := by rw [upd_ne nda] at hd; exact hd
    have hd0 : H d = none := by
      cases q : H d with
      | none => rfl
      | some o => rw [s d o q] at hd1; cases hd1
    refine k d _ (fun b o q => ?_) hd0 upd_same
    have q1 := s b o q
    have nb : b ≠ d := ne_of_none q1 hd1
    have na : b ≠ a := ne_of_none q1 ha
    rw [upd_ne nb, del_ne na, e, upd_ne na, upd_ne nb, upd_ne na]
    exact q1
section
variable {P : Program} {w : World} {K : PySem.W.Frag} {mg : Str → Option Value} {base : Heap}
def spReadNet (K : PySem.W.Frag) (C : Addr) : Sp := fun vs H Q E => (∃ (v : V) (d : PyData), vs = [v] ∧ Dp K H v d ∧ isTy (tagOf d) "str" = false ∧ Raised C E H 1) ∨
  ∃ x : Str, vs = [.str x] ∧ x.length ≤ 3000 ∧ match readNet x with
    | .inl n => Raised C E H n
    | .inr (taps, rs) => ∀ v H', Same H H' → NetAt K H' v taps rs → Q v H'
theorem sc_read_net : FnScope ["text", "lines", "taps", "parts", "at", "part"] ["text"] (defScope sread_net) := ⟨rfl, rfl, rfl, by decide +kernel, rfl, by decide +kernel, by decide +kernel⟩
theorem okw_read_net {C : Addr} (T : BadT P w K mg base C) (D : Dn K mg "read_net" sread_net) (B0 : Ok P w K mg base L2.CX0 4 "read_taps_line" ["line"] (spReadTaps K)) (B1 : Ok P w K mg base L2.CX0 4 "read_part_line" ["line"] (spReadPart K)) (B2 : Ok P w K mg base L2.CX0 3 "fits_behind" ["taps", "parts", "part"] (spFits K))
    (h_isinstance : mg "isinstance" = none) (h_str : mg "str" = none) (h_len : mg "len" = none) (h_range : mg "range" = none) (h_tuple : mg "tuple" = none) : OkW P w K mg base (L2.CX P w) 5 "read_net" "text" (spReadNet K C) := by
  obtain ⟨_, _, g_read_taps_line, k_read_taps_line, b_read_taps_line, F_read_taps_line⟩ := B0.ex
  obtain ⟨_, _, g_read_part_line, k_read_part_line, b_read_part_line, F_read_part_line⟩ := B1.ex
  obtain ⟨_, _, g_fits_behind, k_fits_behind, b_fits_behind, F_fits_behind⟩ := B2.ex
  obtain ⟨fI, fd, iC, tI, F1, hbI⟩ := T.ex
  refine OkW.mkX D sc_read_net (fun _ _ _ _ _ _ _ => rfl) (fun vs H Q E h => ?_) (fun _ _ _ _ _ _ us hl => match us, hl with | [_], _ => rfl) (fun f cdv A outer s H vs Q E hr h => ?_)
  · rcases h with ⟨v, d, rfl, _⟩ | ⟨x, rfl, _⟩ <;> rfl
  have nd := sc_read_net.nd
  have hr3 := hr.mono (show 3 ≤ 4 by decide)
  have hrI := hr.mono (show 2 ≤ 4 by decide)
  refine ⟨_, (pss_cons (ps_if (pt_not (pt_val (pe_isD "str" rfl h_isinstance h_str (pv 0))))
      (pss_one (ps_raise rfl (takes_of rfl rfl rfl rfl) (pmk_oex T.T iC tI F1 hrI hbI .nil pass0 rfl T.g (pa_cons pe_int pa_nil))))
      pss_nil)
    (pss_cons (ps_set (i := 1) nd rfl (Or.inl rfl) (pe_split (pv 0) pe_str))
    (pss_cons (ps_set (i := 2) nd rfl (Or.inl rfl) (pe_call F_read_taps_line hr rfl g_read_taps_line k_read_taps_line b_read_taps_line .nil pass0 (pa_cons (pe_ix ix_list (pv 1) pe_int (fun _ _ => rfl)) pa_nil)))
    (pss_cons (ps_if (pt_cmpR op_isN (pv 2) pe_non (nomark _))
      (pss_one (ps_raise rfl (takes_of rfl rfl rfl rfl) (pmk_oex T.T iC tI F1 hrI hbI .nil pass0 rfl T.g (pa_cons pe_int pa_nil))))
      pss_nil)
    (pss_cons (ps_set (i := 3) nd rfl (Or.inl rfl) (pe_lst pa_nil))
    (pss_cons (ps_for (passes_of rfl) rfl (pi_range2 rfl h_range (pa_cons pe_int (pa_cons (pe_op op_sub (pe_lenS rfl h_len (pv 1)) pe_int) pa_nil))) (pg_name (i := 4) nd rfl (Or.inl rfl))
      (pss_cons (ps_set (i := 5) nd rfl (Or.inl rfl) (pe_call F_read_part_line hr rfl g_read_part_line k_read_part_line b_read_part_line .nil pass0 (pa_cons (pe_ix ix_list (pv 1) (pv 4) (fun _ _ => rfl)) pa_nil)))
      (pss_cons (ps_if (PW.pt (pw_or (pt_cmpR op_isN (pv 5) pe_non (nomark _)) (pw_or1 (pt_not (pt_val (pe_call F_fits_behind hr3 rfl g_fits_behind k_fits_behind b_fits_behind .nil pass0 (pa_cons (pv 2) (pa_cons (pv 3) (pa_cons (pv 5) pa_nil)))))))))
        (pss_one (ps_raise rfl (takes_of rfl rfl rfl rfl) (pmk_oex T.T iC tI F1 hrI hbI .nil pass0 rfl T.g (pa_cons (pe_op op_add (pv 4) pe_int) pa_nil))))
        pss_nil)
      (pss_one (ps_expr (pe_bm PySem.F.plainAttrs_list PySem.F.slot_list_append PySem.F.type_list_append mt_append (pv 3) (pa_cons (pv 5) pa_nil)))))))
    (pss_cons (ps_if (pt_cmpR op_ne (pe_ix ix_list (pv 1) (pe_un un_neg pe_int) (fun _ _ => rfl)) pe_str (nomark _))
      (pss_one (ps_raise rfl (takes_of rfl rfl rfl rfl) (pmk_oex T.T iC tI F1 hrI hbI .nil pass0 rfl T.g (pa_cons (pe_lenS rfl h_len (pv 1)) pa_nil))))
      pss_nil)
    (pss_one (ps_ret (pe_tup (pa_cons (pv 2) (pa_cons (pe_callTy call_tuple_of (by rfl) h_tuple (by decide +kernel) (pa_cons (pv 3) pa_nil)) pa_nil)))))))))))), ?_⟩
  rcases h with ⟨v, d, rfl, hd, hns, k⟩ | ⟨x, rfl, hx, k⟩
  · refine ⟨_, rfl, d, hd, _, rfl, ?_⟩
    rw [hns]
    exact iteT ⟨by simp, fun a ha => raised_mk (Same.refl H) (by decide) k ha⟩
  have outl : ∀ n, readNet x = .inl n → Raised C E H n := fun n e => by rw [e] at k; exact k
  have outr : ∀ taps rs, readNet x = .inr (taps, rs) → ∀ v H', Same H H' → NetAt K H' v taps rs → Q v H' := fun taps rs e => by rw [e] at k; exact k
  refine ⟨_, rfl, .str x, .str x, true, rfl, iteF ?_⟩
  obtain ⟨l0, ls, ew⟩ := split_cons x NL
  refine ⟨_, rfl, ⟨_, rfl⟩, x, NL, rfl, rfl, by decide +kernel, (by rw [sizeLine_eq]; omega), fun l hl => ?_⟩
  have s1 := same_upd (o := .lst ((Txt.split x NL).map V.str)) hl
  have hls := SqL.of (K := K) (upd_same (H := H) (a := l) (o := .lst ((Txt.split x NL).map V.str)))
  have wl := split_len (x := x) one_nl
  have wsum := split_sum (x := x) one_nl
  have wcnt := PyProof.Rows.split_le x NL
  rw [ew] at s1 hls wl wsum wcnt ⊢
  generalize upd H l (.lst ((l0 :: ls).map V.str)) = H1 at s1 hls ⊢
  have hl0 : l0.length ≤ 90000 := by have := wl l0 (by simp); omega
  refine ⟨_, rfl, l, _, 0, .str l0, rfl, rfl, hls, atI_nat (j := 0) rfl, l0, rfl, hl0, fun tv H2 s2 htv => ?_⟩
  have s12 := s1.trans s2
  have eN : readNet x = match readTaps l0 with
    | none => .inl 1
    | some taps => match readParts taps 1 [] (middle (l0 :: ls)) with
      | .inl n => .inl n
      | .inr rs => if (l0 :: ls).getLast (List.cons_ne_nil _ _) = "" then .inr (taps, rs) else .inl (ls.length + 1) := by
    unfold readNet
    rw [show linesOf x = l0 :: ls from ew]
  generalize hT : readTaps l0 = oT at htv eN
  cases oT with
  | none =>
    obtain rfl : tv = .non := htv
    exact ⟨_, rfl, rfl, true, rfl, iteT ⟨by simp, fun a ha => raised_mk s12 (by decide) (outl 1 eN) ha⟩⟩
  | some taps =>
    obtain ⟨t, rfl, ht⟩ := htv
    have tsok : tapsS taps = true := by
      unfold readTaps at hT
      split at hT
      · next hc => cases hT; exact hc.2
      · cases hT
    have t6 := (taps_sum tsok).2
    refine ⟨_, rfl, rfl, false, rfl, iteF ⟨by rw [sizeLine_eq]; simp, fun p hp => ?_⟩⟩
    have s3 := same_upd (o := .lst []) hp
    have hls2 := same_seqL s2 hls
    generalize hmid : middle (l0 :: ls) = mids at eN
    have lmid : mids.length = ls.length - 1 := by
      rw [← hmid]
      unfold middle
      rw [List.length_drop, List.length_take]
      simp
    have gmid : ∀ i, i < mids.length → (l0 :: ls)[i + 1]? = mids[i]? := fun i hi => by
      rw [← hmid]
      unfold middle
      rw [List.getElem?_drop, List.getElem?_take_of_lt (by simp; omega), Nat.add_comm]
    have summid : (mids.map (·.length)).sum ≤ 3000 := by
      rw [← hmid]
      unfold middle
      exact Nat.le_trans (sum_drop _ 1) (Nat.le_trans (sum_take _ _) (Nat.le_trans wsum hx))
    refine ⟨_, rfl, l, _, rfl, .inl (same_seqL s3 hls2), _, _, rfl, rfl, 1, _, rfl, ?_, ?_⟩
    · rw [List.length_map]
      simp at wcnt ⊢
      omega
    have en : (((((l0 :: ls).map V.str).length : Int) - 1) - 1).toNat = mids.length := by
      rw [List.length_map, lmid]
      simp
    rw [en]
    let Pv : Nat → L2.St → Hp → Prop := fun i σ H' => ∃ o1 o2 us done, σ = [some (.str x), some (.ref l), some (.ref t), some (.ref p), o1, o2] ∧ Same H2 H' ∧ H' p = some (.lst us) ∧ RawsAt K H' us done ∧ (∀ r ∈ done, Right r) ∧ done.length = i ∧ i ≤ 200 ∧
      (done.map fun r => r.ends.length).sum ≤ ((mids.take i).map (·.length)).sum + 2 * i ∧ readParts taps 1 [] mids = readParts taps (1 + i) done (mids.drop i)
    refine for_range Pv ⟨_, _, [], [], rfl, s3, upd_same, .nil, fun r hr => by simp at hr, rfl, Nat.zero_le _, by simp, rfl⟩ ?_ ?_
    · rintro i σ H' hi ⟨o1, o2, us, done, rfl, s4, hup, hus, rok, dl, d200, dsum, erp⟩
      obtain ⟨ln, hln⟩ : ∃ ln, mids[i]? = some ln := ⟨_, List.getElem?_eq_getElem hi⟩
      have mln : ln ∈ l0 :: ls := List.mem_of_getElem? (by rw [gmid i hi]; exact hln)
      have lln := wl ln mln
      have edrop : mids.drop i = ln :: mids.drop (i + 1) := by
        rw [List.drop_eq_getElem_cons hi]
        congr 1
        rw [List.getElem?_eq_getElem hi] at hln
        exact Option.some.inj hln
      have hls4 := same_seqL s4 hls2
      rw [edrop] at erp
      refine ⟨_, rfl, _, rfl, l, _, ((i + 1 : Nat) : Int), .str ln, rfl, ?_, hls4, atI_nat (by rw [List.getElem?_map, gmid i hi, hln]; rfl), ln, rfl, by omega, fun v H5 s5 hv => ?_⟩
      · exact congrArg V.int (by omega)
      have s45 := s4.trans s5
      have s125 := s12.trans s45
      have eN1 : readNet x = (match readParts taps 1 [] mids with | .inl n => .inl n | .inr rs => if (l0 :: ls).getLast (List.cons_ne_nil _ _) = "" then .inr (taps, rs) else .inl (ls.length + 1)) := eN
      have bad : readParts taps (1 + i) done (ln :: mids.drop (i + 1)) = .inl (1 + i + 1) → ∀ H6, Same H5 H6 → ∀ a, H6 a = none → spIni C "line" okLine (.ref a :: ([V.int (1 + (i : Int) + 1)] ++ [])) (upd H6 a (exo a C none)) (fun v H2 => v = .non ∧ ∃ (d : Addr) (fs : List (Str × V)), H2 a = some (exo a C (some d)) ∧ H2 d = some (exd d fs) ∧ H6 d = none ∧ E (.ref C) (some d) (upd (del H2 a) d (.xd fs))) (fun _ _ _ => False) := fun e H6 s6 a ha => by
        rw [erp, e] at eN1
        have z := raised_mk (s125.trans s6) (n := 1 + i + 1) (by omega) (outl _ eN1) ha
        rw [show (((1 + i + 1 : Nat)) : Int) = 1 + (i : Int) + 1 by omega] at z
        exact z
      have estep : readParts taps (1 + i) done (ln :: mids.drop (i + 1)) = (match readPart ln with | none => .inl (1 + i + 1) | some r => if fitsS taps (done ++ [r]) = true then readParts taps (1 + i + 1) (done ++ [r]) (mids.drop (i + 1)) else .inl (1 + i + 1)) := rfl
      generalize hR : readPart ln = oR at hv estep
      cases oR with
      | none =>
        obtain rfl : v = .non := hv
        exact ⟨_, rfl, rfl, true, rfl, iteT ⟨_, rfl, _, _, rfl, rfl, by simp, fun a ha => bad estep H5 (Same.refl _) a ha⟩⟩
      | some r =>
        have hraw : RawAt K H5 v r := hv
        obtain ⟨rr, re⟩ := readPart_right hR
        have vn : v ≠ .non := by
          cases r with
          | flat ws n => obtain ⟨a, u, e, _⟩ := hraw; rw [e]; simp
          | hub ns n => obtain ⟨a, b, u, e, _⟩ := hraw; rw [e]; simp
        refine ⟨_, rfl, rfl, _, rfl, ?_⟩
        rw [decide_eq_false vn]
        have rok2 : ∀ q ∈ done ++ [r], Right q := fun q hq => by
          rcases List.mem_append.mp hq with e | e
          · exact rok q e
          · rw [List.mem_singleton.mp e]; exact rr
        have tsum : ((mids.take (i + 1)).map (·.length)).sum = ((mids.take i).map (·.length)).sum + ln.length := by
          rw [List.take_add_one, hln]
          simp
        have tle : ((mids.take (i + 1)).map (·.length)).sum ≤ 3000 := Nat.le_trans (sum_take mids (i + 1)) summid
        have dsum2 : ((done ++ [r]).map fun r => r.ends.length).sum ≤ ((mids.take (i + 1)).map (·.length)).sum + 2 * (i + 1) := by
          rw [List.map_append, List.sum_append, List.map_cons, List.map_nil, List.sum_cons, List.sum_nil, tsum]
          omega
        have asum : (allEnds taps (done ++ [r])).length + 1 < scanBound := by
          unfold allEnds
          rw [List.length_append, ← ends_sum, show scanBound = 4096 from rfl]
          omega
        refine iteF ⟨_, rfl, _, rfl, _, rfl, t, p, v, taps, us, done, r, rfl, same_seqT (s45) ht, SqL.of (s5 _ _ hup), hus.keep (.of s5), hraw, rok2, by omega, asum, fun H6 s6 => ⟨_, rfl, ?_⟩⟩
        have estep2 : readParts taps (1 + i) done (ln :: mids.drop (i + 1)) = (if fitsS taps (done ++ [r]) = true then readParts taps (1 + i + 1) (done ++ [r]) (mids.drop (i + 1)) else .inl (1 + i + 1)) := estep
        cases hf : fitsS taps (done ++ [r]) with
        | false =>
          rw [hf, if_neg (by decide)] at estep2
          refine iteT ⟨_, rfl, _, _, rfl, rfl, by simp, fun a ha => bad estep2 H6 s6 a ha⟩
        | true =>
          rw [hf, if_pos rfl] at estep2
          have hup6 := s6 _ _ (s5 _ _ hup)
          have ul := hus.len
          have few2 : (done ++ [r]).length ≤ 200 := by
            unfold fitsS at hf
            rw [Bool.and_eq_true, decide_eq_true_eq] at hf
            exact hf.1
          rw [List.length_append] at few2
          simp at few2
          have s46 := s45.trans s6
          have rest : RawsAt K (upd H6 p (.lst (us ++ [v]))) (us ++ [v]) (done ++ [r]) := (hus.keep (.of (s5.trans s6))).keep (.lst hup6) |>.app (.cons ((hraw.keep (.of s6)).keep (.lst hup6)) .nil)
          refine iteF ⟨_, rfl, .inl ⟨rfl, _, SqL.of hup6⟩, _, rfl, p, us, v, rfl, rfl, hup6, by rw [sizeLine_eq]; omega, ?_⟩
          refine ⟨_, _, us ++ [v], done ++ [r], rfl, fun b o e => ?_, upd_same, rest, rok2, by rw [List.length_append, dl]; rfl, by omega, dsum2, ?_⟩
          · rw [upd_ne (ne_of_none e hp)]
            exact s46 _ _ e
          · rw [erp, estep2]
            congr 1
    · rintro σ H' ⟨o1, o2, us, done, rfl, s4, hup, hus, rok, dl, d200, dsum, erp⟩
      rw [List.drop_length] at erp
      have er : readParts taps 1 [] mids = .inr done := erp
      have hls4 := same_seqL s4 hls2
      have eN1 : readNet x = (match readParts taps 1 [] mids with | .inl n => .inl n | .inr rs => if (l0 :: ls).getLast (List.cons_ne_nil _ _) = "" then .inr (taps, rs) else .inl (ls.length + 1)) := eN
      rw [er] at eN1
      refine ⟨_, rfl, _, rfl, l, _, -1, .str ((l0 :: ls).getLast (List.cons_ne_nil _ _)), rfl, rfl, hls4, ?_, rfl, _, rfl, ?_⟩
      · rw [at_last (by simp), List.getLast_map]
      rw [deq_str]
      have eN2 : readNet x = if (l0 :: ls).getLast (List.cons_ne_nil _ _) = "" then .inr (taps, done) else .inl (ls.length + 1) := eN1
      by_cases hz : (l0 :: ls).getLast (List.cons_ne_nil _ _) = ""
      · rw [decide_eq_true hz]
        rw [if_pos hz] at eN2
        refine iteF ⟨_, rfl, _, rfl, p, us, rfl, .inl ⟨SqL.of hup, fun q hq => ⟨by rw [sizeLine_eq]; simp, fun m hm => ?_⟩⟩⟩
        have s5 := same_upd (o := .tup us) hq
        have s6 := s5.trans (same_upd (o := .tup [.ref t, .ref q]) hm)
        refine outr _ _ eN2 _ _ (s12.trans (s4.trans s6)) ⟨m, t, q, us, rfl, SqT.of upd_same, same_seqT (s4.trans s6) ht, ?_, hus.keep (.of s6)⟩
        exact same_seqT (same_upd hm) (SqT.of upd_same)
      · rw [decide_eq_false hz]
        rw [if_neg hz] at eN2
        refine iteT ⟨_, rfl, l, _, rfl, .inl hls4, by simp, fun a ha => ?_⟩
        have z := raised_mk (s12.trans s4) (n := ls.length + 1) (by simp at wcnt; omega) (outl _ eN2) ha
        rw [show ((((l0 :: ls).map V.str).length : Nat) : Int) = ((ls.length + 1 : Nat) : Int) by simp]
        exact z
theorem ok_read_net {C : Addr} (T : BadT P w K mg base C) (D : Dn K mg "read_net" sread_net) (B0 : Ok P w K mg base L2.CX0 4 "read_taps_line" ["line"] (spReadTaps K)) (B1 : Ok P w K mg base L2.CX0 4 "read_part_line" ["line"] (spReadPart K)) (B2 : Ok P w K mg base L2.CX0 3 "fits_behind" ["taps", "parts", "part"] (spFits K))
    (h_isinstance : mg "isinstance" = none) (h_str : mg "str" = none) (h_len : mg "len" = none) (h_range : mg "range" = none) (h_tuple : mg "tuple" = none) : Ok P w K mg base (L2.CX P w) 5 "read_net" ["text"] (spReadNet K C) := (okw_read_net T D B0 B1 B2 h_isinstance h_str h_len h_range h_tuple).ok
end
end K12
set_option maxHeartbeats 1000000
namespace K12
open PySem PySem.Spec PyProof.Rows L2 Hx RZ
/-! ### the law's judges: names -/
section
variable {P : Program} {w : World} {K : PySem.W.Frag} {mg : Str → Option Value} {base : Heap}
theorem sc_an_is_word : FnScope ["thing", "signs", "sign"] ["thing"] (defScope sL_an_is_word) := ⟨rfl, rfl, rfl, by decide +kernel, rfl, by decide +kernel, by decide +kernel⟩
theorem led_cut : cutS LED none (some 26) = LET := by decide +kernel
theorem ok_an_is_word (D : Dn K mg "_law_an_is_word" sL_an_is_word) (h_isinstance : mg "isinstance" = none) (h_str : mg "str" = none) (h_len : mg "len" = none) : Ok P w K mg base L2.CX0 1 "_law_an_is_word" ["thing"] (spName nameS) := by
  refine Ok.mk0 D sc_an_is_word (fun vs H Q E h => ?_) (fun _ _ _ _ _ _ us hl => match us, hl with | [_], _ => rfl) (fun f cdv A outer s H vs Q E hr h => ?_)
  · obtain ⟨x, rfl, _⟩ := h
    rfl
  obtain ⟨x, rfl, hx, k⟩ := h
  have nd := sc_an_is_word.nd
  have hu64 := hr.units
  refine ⟨_, (pss_cons (ps_if (PW.pt (pw_or (pt_not (pt_val (pe_isD "str" rfl h_isinstance h_str (pv 0)))) (pw_or1 (pt_not (pt_chain op_le op_le pe_int (pe_callB call_len_str (by rfl) h_len (by decide +kernel) (pa_cons (pv 0) pa_nil)) pe_int)))))
      (pss_one (ps_ret pe_bl))
      pss_nil)
    (pss_cons (ps_set (i := 1) nd rfl (Or.inr rfl) pe_str)
    (pss_one (ps_ret (pe_and (pe_cmpR op_in_sign (pe_ix ix_str (pv 0) pe_int (fun _ _ => rfl)) (pe_slice sl_str (pv 1) po_none (po_some pe_int)) (by rfl)) (pe_one (pe_cmpR (op_eqD hu64) (pe_lc (own := [("sign", 2)]) (g := gName 2) rfl nd (pi_str (pv 0)) (blkOk_by (own := [("sign", 2)]) (N := ["thing", "signs", "sign"]) (sc := defScope sL_an_is_word) (by decide +kernel)) (fun _ _ _ _ _ => pg_name (i := 2) nd rfl (Or.inl rfl)) (fun _ _ _ _ _ => pts_one (pt_cmpR op_notIn_sign (pv 2) (pv 1) (by rfl))) (fun _ _ _ _ _ => pe_int)) (pe_lst pa_nil) (nomark _)))))))), ?_⟩
  refine ⟨_, rfl, .str x, .str x, true, rfl, ?_⟩
  refine iteF ?_
  have hsz : x.length ≤ sizeLine := by rw [sizeLine_eq]; omega
  have hcs : x.cps.toList.length = x.length := by simp [Str.length]
  have fal : ∀ H', Same H H' → nameS x = false → Q (.bl false) H' := fun H' s e => by
    have z := k H' s
    rw [e] at z
    exact z
  refine ⟨_, rfl, x, rfl, hsz, _, _, rfl, rfl, _, rfl, ?_⟩
  by_cases h1 : 1 ≤ (x.length : Int)
  · rw [decide_eq_true h1]
    refine iteT ⟨_, _, rfl, rfl, _, rfl, ?_⟩
    by_cases h8 : (x.length : Int) ≤ 8
    · rw [decide_eq_true h8]
      refine iteF ?_
      obtain ⟨c, r, hcr⟩ : ∃ c r, x.cps.toList = c :: r := by
        cases e : x.cps.toList with
        | nil => rw [e] at hcs; simp at hcs; omega
        | cons c r => exact ⟨c, r, rfl⟩
      have hnm : nameS x = (decide (c ∈ LET.cps.toList) && x.cps.toList.all fun c => decide (c ∈ LED.cps.toList)) := by
        unfold nameS
        rw [decide_eq_true (show 1 ≤ x.length by omega), decide_eq_true (show x.length ≤ 8 by omega), hcr]
        rfl
      have led : LED.length ≤ sizeLine := by rw [sizeLine_eq]; decide +kernel
      refine ⟨_, rfl, x, 0, c, rfl, rfl, hsz, ?_, _, rfl, 26, rfl, LED, rfl, led, c, LET, rfl, ?_, _, rfl, ?_⟩
      · exact atI_nat (xs := x.cps.toList) (j := 0) (v := c) (by rw [hcr]; rfl)
      · exact congrArg V.str led_cut
      by_cases hc : c ∈ LET.cps.toList
      · rw [decide_eq_true hc] at hnm ⊢
        refine iteT ⟨_, rfl, x, rfl, fun Z hZ => ?_⟩
        have n8 : x.cps.size ≤ 8 := by have := hcs; simp at this; omega
        have lx : x.cps.toList.length = x.cps.size := by simp
        refine lc_ones (n := x.cps.size) (J := Its x) (fun i => match x.cps.toList[i]? with | some c => !decide (c ∈ LED.cps.toList) | none => false) hZ (by rw [sizeLine_eq]; omega) (fun i H hi _ => hi) (fun H _ => Nat.le_refl _) ?_ ?_
        · rintro i y H1 H' F hi s1 ⟨rfl, c, hc, rfl⟩ kk
          have hc2 : x.cps.toList[i]? = some c := by rw [Array.getElem?_toList]; exact hc
          have z := kk _ (Same.refl _)
          rw [hc2] at z
          exact ⟨rfl, _, rfl, _, rfl, c, LED, rfl, rfl, _, rfl, z⟩
        · intro n H1 s1 e hn hz
          refine ones_eq e fun H2 s2 => ?_
          have z := k H2 (s1.trans s2)
          rw [hnm, Bool.true_and] at z
          have ee : (x.cps.toList.all fun c => decide (c ∈ LED.cps.toList)) = decide (n = 0) := by
            rw [Bool.eq_iff_iff, decide_eq_true_eq, hz, List.all_eq_true]
            constructor
            · intro h i hi
              rw [List.getElem?_eq_getElem (by omega)]
              show (!decide _) = false
              rw [h _ (List.getElem_mem _)]
              rfl
            · intro h c hm
              obtain ⟨i, hi⟩ := List.getElem?_of_mem hm
              have q := h i (by have := (List.getElem?_eq_some_iff.mp hi).1; omega)
              rw [hi] at q
              simpa using q
          rw [ee] at z
          exact z
      · rw [decide_eq_false hc] at hnm ⊢
        exact iteF (fal _ (Same.refl _) (by rw [hnm]; rfl))
    · rw [decide_eq_false h8]
      refine iteT (fal _ (Same.refl _) ?_)
      unfold nameS
      rw [decide_eq_false (show ¬ x.length ≤ 8 by omega)]
      simp
  · rw [decide_eq_false h1]
    refine iteF ⟨_, rfl, iteT (fal _ (Same.refl _) ?_)⟩
    unfold nameS
    rw [decide_eq_false (show ¬ 1 ≤ x.length by omega)]
    simp
end
end K12
set_option maxHeartbeats 1000000
namespace K12
open PySem PySem.Spec PyProof.Rows L2 Hx RZ
/-! ### rising lists of names -/
abbrev tl (x : Str) : List Nat := x.cps.toList
theorem tl_inj {x y : Str} (h : tl x = tl y) : x = y := TL.ext_tl h
def Asc (l : List Str) : Prop := l.Pairwise fun a b => tl a < tl b
theorem lt_tr {a b c : List Nat} (h : a < b) (k : b < c) : a < c := List.lt_trans h k
theorem lt_ir (a : List Nat) : ¬ a < a := List.lt_irrefl a
theorem lt_or {a b : List Nat} (h : ¬ b < a) (ne : a ≠ b) : a < b := by
  rcases Classical.em (a < b) with q | q
  · exact q
  · exact absurd (List.le_antisymm (show a ≤ b from h) (show b ≤ a from q)) ne
theorem rise_asc : ∀ {l : List Str}, riseS l = true → Asc l
  | [], _ => .nil
  | [x], _ => by simp [Asc]
  | x :: y :: r, h => by
    have e : riseS (x :: y :: r) = (decide (tl x < tl y) && riseS (y :: r)) := by
      unfold riseS
      rfl
    rw [e, Bool.and_eq_true, decide_eq_true_eq] at h
    have q := rise_asc h.2
    refine List.pairwise_cons.mpr ⟨fun z hz => ?_, q⟩
    rcases List.mem_cons.mp hz with e | e
    · rw [e]; exact h.1
    · exact lt_tr h.1 ((List.pairwise_cons.mp q).1 z e)
theorem asc_rise : ∀ {l : List Str}, Asc l → riseS l = true
  | [], _ => rfl
  | [x], _ => rfl
  | x :: y :: r, h => by
    have e : riseS (x :: y :: r) = (decide (tl x < tl y) && riseS (y :: r)) := by
      unfold riseS
      rfl
    have q := List.pairwise_cons.mp h
    rw [e, asc_rise q.2, decide_eq_true (q.1 y List.mem_cons_self)]
    rfl
theorem asc_eq : ∀ {l m : List Str}, Asc l → Asc m → (∀ z, z ∈ l ↔ z ∈ m) → l = m
  | [], m, _, _, h => by
    cases m with
    | nil => rfl
    | cons y m => exact absurd ((h y).mpr List.mem_cons_self) (by simp)
  | x :: l, [], _, _, h => absurd ((h x).mp List.mem_cons_self) (by simp)
  | x :: l, y :: m, hl, hm, h => by
    have ql := List.pairwise_cons.mp hl
    have qm := List.pairwise_cons.mp hm
    have exy : x = y := by
      have hx := (h x).mp List.mem_cons_self
      have hy := (h y).mpr List.mem_cons_self
      rcases List.mem_cons.mp hx with e | e
      · exact e
      · rcases List.mem_cons.mp hy with e2 | e2
        · exact e2.symm
        · exact absurd (lt_tr (qm.1 x e) (ql.1 y e2)) (lt_ir _)
    subst exy
    congr 1
    refine asc_eq ql.2 qm.2 fun z => ⟨fun hz => ?_, fun hz => ?_⟩
    · rcases List.mem_cons.mp ((h z).mp (List.mem_cons_of_mem _ hz)) with e | e
      · exact absurd (ql.1 z hz) (by rw [e]; exact lt_ir _)
      · exact e
    · rcases List.mem_cons.mp ((h z).mpr (List.mem_cons_of_mem _ hz)) with e | e
      · exact absurd (qm.1 z hz) (by rw [e]; exact lt_ir _)
      · exact e
theorem rising_of : ∀ {p : Str} {l : List Str}, risingS p l = true → (p :: l).Nodup → Asc (p :: l)
  | p, [], _, _ => by simp [Asc]
  | p, x :: r, h, nd => by
    have e : risingS p (x :: r) = (!ltCps x.cps.toList p.cps.toList && risingS x r) := rfl
    rw [e, Bool.and_eq_true, ltCps_eq, Bool.not_eq_true', decide_eq_false_iff_not] at h
    have n2 := List.nodup_cons.mp nd
    have q := rising_of h.2 n2.2
    have pl : tl p < tl x := lt_or h.1 fun e => n2.1 (by rw [tl_inj e]; exact List.mem_cons_self)
    refine List.pairwise_cons.mpr ⟨fun z hz => ?_, q⟩
    rcases List.mem_cons.mp hz with e | e
    · rw [e]; exact pl
    · exact lt_tr pl ((List.pairwise_cons.mp q).1 z e)
theorem places_asc {ys ends : List Str} (h : Places ys ends) : Asc ys := by
  obtain ⟨nd, _, so⟩ := h
  cases ys with
  | nil => exact .nil
  | cons x r => exact rising_of so nd
/-- list(ns) == sorted(set(ns)) -/
theorem rise_iff {ns ys : List Str} (h : Places ys ns) : decide (ns = ys) = riseS ns := by
  rw [Bool.eq_iff_iff, decide_eq_true_eq]
  constructor
  · intro e
    rw [e]
    exact asc_rise (places_asc h)
  · intro e
    exact asc_eq (rise_asc e) (places_asc h) fun z => (h.2.1 z).symm
theorem eqv_strs (xs ys : List Str) : PyData.eqv (.list (xs.map .str)) (.list (ys.map .str)) = decide (xs = ys) := PySem.W.eqvAll_map xs ys
theorem name_signs {x : Str} (h : nameS x = true) : ∀ c ∈ x.cps.toList, c < 128 := by
  unfold nameS at h
  simp only [Bool.and_eq_true] at h
  intro c hc
  have q := List.all_eq_true.mp h.2 c hc
  rw [decide_eq_true_eq] at q
  have e : (LED.cps.toList.all fun c => decide (c < 128)) = true := by decide +kernel
  exact of_decide_eq_true (List.all_eq_true.mp e c q)
theorem name_ok {x : Str} (h : nameS x = true) : PyData.canLay0 (.str x) = true := by
  have q := name_signs h
  show (x.cps.all fun c => decide (c < 0x110000)) = true
  rw [← Array.all_toList, List.all_eq_true]
  intro c hc
  rw [decide_eq_true_eq]
  have := q c hc
  omega
theorem names_sh {xs : List Str} (h : ∀ x ∈ xs, nameS x = true) : SeqAt.shaped (.list (xs.map .str)) = true := (sh_list (n := 0) fun d hd => by
  obtain ⟨x, hx, rfl⟩ := List.mem_map.mp hd
  exact ⟨name_ok (h x hx), by simp [PyData.depth]⟩).shaped (by decide)
end K12
set_option maxHeartbeats 1000000
namespace K12
open PySem PySem.Spec PyProof.Rows L2 Hx RZ
section
variable {P : Program} {w : World} {K : PySem.W.Frag} {mg : Str → Option Value} {base : Heap}
/-! ### an_rising -/
def risS (m : Nat) (ns : List Str) : Bool := decide (m ≤ ns.length) && namesS ns
def spRising (K : PySem.W.Frag) : Sp := fun vs H Q _ => ∃ (a : Addr) (ns : List Str) (m : Nat), vs = [.ref a, .int m] ∧ SqT K H a (ns.map V.str) ∧ ns.length ≤ 4000 ∧ (∀ x ∈ ns, x.length ≤ 100000) ∧ ∀ H', Same H H' → Q (.bl (risS m ns)) H'
theorem sc_an_rising : FnScope ["thing", "least", "word"] ["thing", "least"] (defScope sL_an_rising) := ⟨rfl, rfl, rfl, by decide +kernel, rfl, by decide +kernel, by decide +kernel⟩
theorem ok_an_rising (D : Dn K mg "_law_an_rising" sL_an_rising) (B : Ok P w K mg base L2.CX0 1 "_law_an_is_word" ["thing"] (spName nameS)) (h_isinstance : mg "isinstance" = none) (h_tuple : mg "tuple" = none) (h_len : mg "len" = none) (h_list : mg "list" = none) (h_set : mg "set" = none) (h_sorted : mg "sorted" = none) :
    Ok P w K mg base L2.CX0 2 "_law_an_rising" ["thing", "least"] (spRising K) := by
  obtain ⟨_, _, g_an_is_word, k_an_is_word, b_an_is_word, F_an_is_word⟩ := B.ex
  refine Ok.mk0 D sc_an_rising (fun vs H Q E h => ?_) (fun _ _ _ _ _ _ us hl => match us, hl with | [_, _], _ => rfl) (fun f cdv A outer s H vs Q E hr h => ?_)
  · obtain ⟨a, ns, m, rfl, _⟩ := h
    rfl
  obtain ⟨a, ns, m, rfl, ha, hl, hm, k⟩ := h
  have nd := sc_an_rising.nd
  have hu64 := hr.units
  refine ⟨_, (pss_cons (ps_if (PW.pt (pw_or (pt_not (pt_val (pe_isD "tuple" rfl h_isinstance h_tuple (pv 0)))) (pw_or1 (pt_cmpR op_lt (pe_lenS rfl h_len (pv 0)) (pv 1) (nomark _)))))
      (pss_one (ps_ret pe_bl))
      pss_nil)
    (pss_cons (ps_if (pt_cmpR (op_neD hu64) (pe_lc (own := [("word", 2)]) (g := gName 2) rfl nd (pi_tup (pv 0)) (blkOk_by (own := [("word", 2)]) (N := ["thing", "least", "word"]) (sc := defScope sL_an_rising) (by decide +kernel)) (fun _ _ _ _ _ => pg_name (i := 2) nd rfl (Or.inl rfl)) (fun _ _ _ _ _ => pts_one (pt_not (pt_val (pe_call F_an_is_word hr rfl g_an_is_word k_an_is_word b_an_is_word .nil pass0 (pa_cons (pv 2) pa_nil))))) (fun _ _ _ _ _ => pe_int)) (pe_lst pa_nil) (nomark _))
      (pss_one (ps_ret pe_bl))
      pss_nil)
    (pss_one (ps_ret (pe_cmpR (op_eqD hu64) (pe_callTy call_list_of (by rfl) h_list (by decide +kernel) (pa_cons (pv 0) pa_nil)) (pe_callB (cr_sortTx rfl) (by rfl) h_sorted (by decide +kernel) (pa_cons (pe_callTy (cr_setS rfl) (by rfl) h_set (by decide +kernel) (pa_cons (pv 0) pa_nil)) pa_nil)) (nomark _)))))), ?_⟩
  have no : ∀ H', Same H H' → risS m ns = false → Q (.bl false) H' := fun H' s e => by
    have z := k H' s
    rw [e] at z
    exact z
  refine ⟨_, rfl, .tuple (ns.map .str), .tup ha (dpAll_strs ns), true, rfl, iteF ?_⟩
  refine ⟨_, rfl, a, _, rfl, .inr ha, _, rfl, _, _, rfl, rfl, _, rfl, ?_⟩
  rw [List.length_map]
  by_cases hlen : m ≤ ns.length
  · rw [decide_eq_false (by omega)]
    refine iteF ⟨_, rfl, a, rfl, ⟨_, ha⟩, fun Z hZ => ?_⟩
    refine lc_ones (n := ns.length) (J := Itt K a) (fun i => match ns[i]? with | some x => !nameS x | none => false) hZ (by rw [sizeLine_eq]; omega) (fun i H1 hi s1 => ⟨_, _, same_seqT s1 ha, List.getElem?_eq_getElem (by simpa using hi)⟩) (fun H1 s1 => ⟨_, same_seqT s1 ha, by simp⟩) ?_ ?_
    · rintro i y H1 H' F hi s1 ⟨rfl, yx⟩ kk
      obtain ⟨z, hz, rfl⟩ := strs_at (yx _ (same_seqT s1 ha))
      refine ⟨rfl, .str z, rfl, z, rfl, hm z (List.mem_of_getElem? hz), fun H4 s4 => ⟨_, rfl, ?_⟩⟩
      have q := kk H4 s4
      rw [hz] at q
      exact q
    · intro n H1 s1 e hn hz
      have eall : ns.all nameS = decide (n = 0) := by
        rw [Bool.eq_iff_iff, decide_eq_true_eq, hz, List.all_eq_true]
        constructor
        · intro h i hi
          rw [List.getElem?_eq_getElem hi]
          show (!nameS _) = false
          rw [h _ (List.getElem_mem _)]
          rfl
        · intro h c hm
          obtain ⟨i, hi⟩ := List.getElem?_of_mem hm
          have q := h i (List.getElem?_eq_some_iff.mp hi).1
          rw [hi] at q
          simpa using q
      refine ones_ne e fun H2 s2 => ⟨_, rfl, ?_⟩
      have s12 := s1.trans s2
      have er : risS m ns = (ns.all nameS && riseS ns) := by
        unfold risS namesS
        rw [decide_eq_true hlen]
        rfl
      rw [← eall]
      cases hall : ns.all nameS with
      | false => exact iteT (no _ s12 (by rw [er, hall]; rfl))
      | true =>
        rw [hall, Bool.true_and] at er
        have ha2 := same_seqT s12 ha
        refine iteF ⟨_, rfl, a, _, rfl, .inr ha2, fun l hl2 => ?_⟩
        have s3 := same_upd (o := .lst (ns.map V.str)) hl2
        refine ⟨_, rfl, a, ns, rfl, .inr (same_seqT s3 ha2), by rw [show scanBound = 4096 from rfl]; omega, fun ls q nd2 m2 l2 hq => ?_⟩
        have s4 := same_upd (o := TxO P w q ls) hq
        refine ⟨q, ls, rfl, upd_same, by rw [show scanBound = 4096 from rfl]; omega, fun ys p pm so hp => ?_⟩
        have s5 := same_upd (o := .lst (ys.map V.str)) hp
        have pl : Places ys ns := ⟨pm.nodup_iff.mpr nd2, fun z => by rw [pm.mem_iff, m2], so⟩
        have an : ∀ x ∈ ns, nameS x = true := fun x hx => List.all_eq_true.mp hall x hx
        refine ⟨.list (ns.map .str), .list (ys.map .str), .lst (SqL.of (s5 _ _ (s4 _ _ upd_same))) (dpAll_strs ns), .lst (SqL.of upd_same) (dpAll_strs ys), names_sh an, names_sh (fun x hx => an x ((pl.2.1 x).mp hx)), ?_⟩
        rw [eqv_strs, rise_iff pl, ← er]
        exact k _ (s12.trans (s3.trans (s4.trans s5)))
  · rw [decide_eq_true (by omega)]
    refine iteT (no _ (Same.refl _) ?_)
    unfold risS
    rw [decide_eq_false hlen]
    rfl
/-! an_is_wide -/
theorem sc_an_is_wide : FnScope ["thing"] ["thing"] (defScope sL_an_is_wide) := ⟨rfl, rfl, rfl, by decide +kernel, rfl, by decide +kernel, by decide +kernel⟩
theorem ok_an_is_wide (D : Dn K mg "_law_an_is_wide" sL_an_is_wide) (B1 : Ok P w K mg base L2.CX0 2 "_law_ct_is_number" ["item"] (spIsNum K)) (B2 : Ok P w K mg base L2.CX0 2 "_law_ct_less" ["one", "other"] (spLess0 K)) : Ok P w K mg base L2.CX0 3 "_law_an_is_wide" ["thing"] (spIsNum0 K) := by
  obtain ⟨_, _, g_ct_is_number, k_ct_is_number, b_ct_is_number, F_ct_is_number⟩ := B1.ex
  obtain ⟨_, _, g_ct_less, k_ct_less, b_ct_less, F_ct_less⟩ := B2.ex
  refine Ok.mk0 D sc_an_is_wide (fun vs H Q E h => ?_) (fun _ _ _ _ _ _ us hl => match us, hl with | [_], _ => rfl) (fun f cdv A outer s H vs Q E hr h => ?_)
  · obtain ⟨x, ns, rfl, _⟩ := h
    rfl
  obtain ⟨v, n, rfl, hn, k⟩ := h
  refine ⟨_, (pss_one (ps_ret (pe_and (pe_call F_ct_is_number hr rfl g_ct_is_number k_ct_is_number b_ct_is_number .nil pass0 (pa_cons (pv 0) pa_nil)) (pe_one (pe_not (pe_call F_ct_less hr rfl g_ct_less k_ct_less b_ct_less .nil pass0 (pa_cons (pv 0) (pa_cons pe_int pa_nil)))))))), ?_⟩
  refine ⟨_, rfl, v, n, rfl, hn, fun H1 s1 => ⟨_, rfl, ?_⟩⟩
  have z := k H1 s1
  unfold Num.ok0 at z
  cases e : n.ok with
  | false =>
    rw [e] at z
    exact iteF z
  | true =>
    rw [e, Bool.true_and] at z
    refine iteT ⟨_, rfl, v, n, 0, rfl, hn.keep (.of s1), by decide, _, rfl, ?_⟩
    rw [show decide ((0 : Int) ≤ n.top) = !decide (n.top * 1 < 0 * n.low) by rw [Int.mul_one, Int.zero_mul]; by_cases q : 0 ≤ n.top <;> simp [q] <;> omega] at z
    exact z
end
end K12
set_option maxHeartbeats 1000000
namespace K12
open PySem PySem.Spec PyProof.Rows L2 Hx RZ
/-! ### an_is_part -/
theorem beq_dec {x y : Str} : (x == y) = decide (y = x) := by
  by_cases h : y = x
  · rw [decide_eq_true h, h]; exact beq_self_eq_true x
  · rw [decide_eq_false h]; exact beq_eq_false_iff_ne.mpr fun e => h e.symm
theorem in3 {x a b c : Str} : inV (.str x) [.str a, .str b, .str c] = (decide (x = a) || (decide (x = b) || decide (x = c))) := by
  show (a == x || (b == x || (c == x || false))) = _
  rw [beq_dec, beq_dec, beq_dec, Bool.or_false]
theorem flat_bad {kw : Str} {ws : List Str} {n : Num} (h : ∀ x y, ws = [x, y] → False) : Raw.ok (.flat (kw :: ws) n) = false := by
  rcases ws with _ | ⟨x, _ | ⟨y, _ | ⟨z, t⟩⟩⟩
  · rfl
  · rfl
  · exact (h x y rfl).elim
  · rfl
theorem flat_ok (kw x y : Str) (n : Num) : Raw.ok (.flat [kw, x, y] n) = ((nameS x && nameS y) && ((decide (kw = PIPE) && decide (x.cps.toList < y.cps.toList)) || (decide (kw = LEAD) && decide (x ≠ y))) && n.ok0) := rfl
section
variable {P : Program} {w : World} {K : PySem.W.Frag} {mg : Str → Option Value} {base : Heap}
/-- what is asked of a raw part -/
def RawFit : Raw → Prop
  | .flat [] _ => False
  | .flat (kw :: ws) _ => kw ≠ HUB ∧ ws.length ≤ 4000 ∧ ∀ x ∈ ws, x.length ≤ 100000
  | .hub ns _ => ns.length ≤ 4000 ∧ ∀ x ∈ ns, x.length ≤ 100000
def spIsPart (K : PySem.W.Frag) : Sp := fun vs H Q _ => ∃ (v : V) (r : Raw), vs = [v] ∧ RawAt K H v r ∧ RawFit r ∧ ∀ H', Same H H' → Q (.bl r.ok) H'
theorem sc_an_is_part : FnScope ["thing"] ["thing"] (defScope sL_an_is_part) := ⟨rfl, rfl, rfl, by decide +kernel, rfl, by decide +kernel, by decide +kernel⟩
theorem ok_an_is_part (D : Dn K mg "_law_an_is_part" sL_an_is_part) (B0 : Ok P w K mg base L2.CX0 2 "_law_an_rising" ["thing", "least"] (spRising K)) (B1 : Ok P w K mg base L2.CX0 3 "_law_an_is_wide" ["thing"] (spIsNum0 K)) (B2 : Ok P w K mg base L2.CX0 1 "_law_an_is_word" ["thing"] (spName nameS))
    (h_isinstance : mg "isinstance" = none) (h_tuple : mg "tuple" = none) (h_len : mg "len" = none) : Ok P w K mg base L2.CX0 4 "_law_an_is_part" ["thing"] (spIsPart K) := by
  obtain ⟨_, _, g_an_rising, k_an_rising, b_an_rising, F_an_rising⟩ := B0.ex
  obtain ⟨_, _, g_an_is_wide, k_an_is_wide, b_an_is_wide, F_an_is_wide⟩ := B1.ex
  obtain ⟨_, _, g_an_is_word, k_an_is_word, b_an_is_word, F_an_is_word⟩ := B2.ex
  refine Ok.mk0 D sc_an_is_part (fun vs H Q E h => ?_) (fun _ _ _ _ _ _ us hl => match us, hl with | [_], _ => rfl) (fun f cdv A outer s H vs Q E hr h => ?_)
  · obtain ⟨x, ns, rfl, _⟩ := h
    rfl
  obtain ⟨v, r, rfl, hv, fit, k⟩ := h
  have hr2 := hr.mono (show 2 ≤ 3 by decide)
  have hr1 := hr.mono (show 1 ≤ 3 by decide)
  refine ⟨_, (pss_cons (ps_if (PW.pt (pw_or (pt_not (pt_val (pe_isD "tuple" rfl h_isinstance h_tuple (pv 0)))) (pw_or (pt_cmpR op_eq (pe_lenS rfl h_len (pv 0)) pe_int (nomark _)) (pw_or1 (pt_cmpR op_notIn_seq (pe_ix ix_tup (pv 0) pe_int (fun _ _ => rfl)) (pe_lst (pa_cons pe_str (pa_cons pe_str (pa_cons pe_str pa_nil)))) (by rfl))))))
      (pss_one (ps_ret pe_bl))
      pss_nil)
    (pss_cons (ps_if (pt_cmpR op_eq (pe_ix ix_tup (pv 0) pe_int (fun _ _ => rfl)) pe_str (nomark _))
      (pss_one (ps_ret (pe_and (pe_cmpR op_eq (pe_lenS rfl h_len (pv 0)) pe_int (nomark _)) (pe_and (pe_call F_an_rising hr2 rfl g_an_rising k_an_rising b_an_rising .nil pass0 (pa_cons (pe_ix ix_tup (pv 0) pe_int (fun _ _ => rfl)) (pa_cons pe_int pa_nil))) (pe_one (pe_call F_an_is_wide hr rfl g_an_is_wide k_an_is_wide b_an_is_wide .nil pass0 (pa_cons (pe_ix ix_tup (pv 0) pe_int (fun _ _ => rfl)) pa_nil)))))))
      pss_nil)
    (pss_cons (ps_if (PW.pt (pw_or (pt_cmpR op_ne (pe_lenS rfl h_len (pv 0)) pe_int (nomark _)) (pw_or (pt_not (pt_val (pe_call F_an_is_word hr1 rfl g_an_is_word k_an_is_word b_an_is_word .nil pass0 (pa_cons (pe_ix ix_tup (pv 0) pe_int (fun _ _ => rfl)) pa_nil)))) (pw_or1 (pt_not (pt_val (pe_call F_an_is_word hr1 rfl g_an_is_word k_an_is_word b_an_is_word .nil pass0 (pa_cons (pe_ix ix_tup (pv 0) pe_int (fun _ _ => rfl)) pa_nil))))))))
      (pss_one (ps_ret pe_bl))
      pss_nil)
    (pss_cons (ps_if (PW.pt (pw_or (pt_cmpR op_eq (pe_ix ix_tup (pv 0) pe_int (fun _ _ => rfl)) (pe_ix ix_tup (pv 0) pe_int (fun _ _ => rfl)) (nomark _)) (pw_or1 (PW.pt (pw_and (pt_cmpR op_eq (pe_ix ix_tup (pv 0) pe_int (fun _ _ => rfl)) pe_str (nomark _)) (pw_and1 (pt_cmpR op_gt_str (pe_ix ix_tup (pv 0) pe_int (fun _ _ => rfl)) (pe_ix ix_tup (pv 0) pe_int (fun _ _ => rfl)) (nomark _))))))))
      (pss_one (ps_ret pe_bl))
      pss_nil)
    (pss_one (ps_ret (pe_call F_an_is_wide hr rfl g_an_is_wide k_an_is_wide b_an_is_wide .nil pass0 (pa_cons (pe_ix ix_tup (pv 0) pe_int (fun _ _ => rfl)) pa_nil)))))))), ?_⟩
  cases r with
  | hub ns n =>
    obtain ⟨a, b, u, rfl, ha, hb, hu⟩ := hv
    obtain ⟨hl, hm⟩ := fit
    refine ⟨_, rfl, .tuple [.str HUB, .tuple (ns.map .str), n.data], .tup ha (.cons (.str _) (.cons (.tup hb (dpAll_strs ns)) (.cons hu.dt.dp .nil))), true, rfl, iteF ?_⟩
    refine ⟨_, rfl, a, _, rfl, .inr ha, rfl, false, rfl, iteF ?_⟩
    refine ⟨_, rfl, a, _, 0, _, rfl, rfl, ha, rfl, (by show 3 ≤ sizeLine; rw [sizeLine_eq]; decide), fun p hp => ?_⟩
    have s1 := same_upd (o := .lst [.str PIPE, .str LEAD, .str HUB]) hp
    refine ⟨p, _, rfl, .inl (SqL.of upd_same), rfl, rfl, false, congrArg V.bl (by show (!inV (.str HUB) [.str PIPE, .str LEAD, .str HUB]) = false; decide +kernel), iteF ?_⟩
    have ha1 := same_seqT s1 ha
    refine ⟨_, rfl, a, _, 0, _, rfl, rfl, ha1, rfl, rfl, true, rfl, iteT ?_⟩
    refine ⟨_, rfl, a, _, rfl, .inr ha1, rfl, true, rfl, iteT ?_⟩
    refine ⟨_, rfl, a, _, 1, _, rfl, rfl, ha1, rfl, b, ns, 2, rfl, same_seqT s1 hb, hl, hm, fun H2 s2 => ⟨_, rfl, ?_⟩⟩
    have ek : Raw.ok (.hub ns n) = (risS 2 ns && n.ok0) := by
      show (namesS ns && decide (2 ≤ ns.length) && n.ok0) = _
      unfold risS
      rw [Bool.and_comm (namesS ns)]
    have s12 := s1.trans s2
    cases e : risS 2 ns with
    | false =>
      have z := k H2 s12
      rw [ek, e] at z
      exact iteF z
    | true =>
      refine iteT ⟨_, rfl, a, _, 2, u, rfl, rfl, same_seqT s12 ha, rfl, u, n, rfl, hu.keep (.of s12), fun H3 s3 => ?_⟩
      have z := k H3 (s12.trans s3)
      rw [ek, e, Bool.true_and] at z
      exact z
  | flat fs n =>
    cases fs with
    | nil => exact fit.elim
    | cons kw ws =>
      obtain ⟨a, u, rfl, ha, hu⟩ := hv
      obtain ⟨nh, hl, hm⟩ := fit
      have no : ∀ H', Same H H' → Raw.ok (.flat (kw :: ws) n) = false → Q (.bl false) H' := fun H' s e => by
        have z := k H' s
        rw [e] at z
        exact z
      have ht : Dp K H (.ref a) (Raw.data (.flat (kw :: ws) n)) := (RawAt.dt (K := K) (H := H) (r := .flat (kw :: ws) n) ⟨a, u, rfl, ha, hu⟩).dp
      refine ⟨_, rfl, _, ht, true, rfl, iteF ?_⟩
      refine ⟨_, rfl, a, _, rfl, .inr ha, rfl, _, rfl, ?_⟩
      rw [deq_int, decide_eq_false (by simp; omega)]
      refine iteF ⟨_, rfl, a, _, 0, .str kw, rfl, rfl, ha, atI_nat (j := 0) rfl, (by show 3 ≤ sizeLine; rw [sizeLine_eq]; decide), fun p hp => ?_⟩
      have s1 := same_upd (o := .lst [.str PIPE, .str LEAD, .str HUB]) hp
      refine ⟨p, _, rfl, .inl (SqL.of upd_same), rfl, rfl, _, congrArg V.bl (congrArg Bool.not in3), ?_⟩
      rw [decide_eq_false nh, Bool.or_false]
      have ha1 := same_seqT s1 ha
      by_cases hk : kw = PIPE ∨ kw = LEAD
      · rw [show (decide (kw = PIPE) || decide (kw = LEAD)) = true by rcases hk with e | e <;> simp [e]]
        refine iteF ⟨_, rfl, a, _, 0, .str kw, rfl, rfl, ha1, atI_nat (j := 0) rfl, rfl, false, congrArg V.bl (decide_eq_false fun q => nh (V.str.inj q)), iteF ?_⟩
        refine ⟨_, rfl, a, _, rfl, .inr ha1, rfl, _, rfl, ?_⟩
        rw [deq_int]
        by_cases h2 : ws.length = 2
        · obtain ⟨x, y, rfl⟩ : ∃ x y, ws = [x, y] := by
            match ws, h2 with
            | [x, y], _ => exact ⟨x, y, rfl⟩
          have lx := hm x (by simp)
          have ly := hm y (by simp)
          refine iteF ⟨_, rfl, a, _, 1, .str x, rfl, rfl, ha1, rfl, x, rfl, lx, fun H2 s2 => ⟨_, rfl, ?_⟩⟩
          have s12 := s1.trans s2
          have ek := flat_ok kw x y n
          cases nx : nameS x with
          | false => exact iteT (no _ s12 (by rw [ek, nx]; rfl))
          | true =>
            refine iteF ⟨_, rfl, a, _, 2, .str y, rfl, rfl, same_seqT s12 ha, rfl, y, rfl, ly, fun H3 s3 => ⟨_, rfl, ?_⟩⟩
            have s13 := s12.trans s3
            cases ny : nameS y with
            | false => exact iteT (no _ s13 (by rw [ek, nx, ny]; rfl))
            | true =>
              have ha3 := same_seqT s13 ha
              refine iteF ⟨_, rfl, a, _, 1, .str x, rfl, rfl, ha3, rfl, _, rfl, a, _, 2, .str y, rfl, rfl, ha3, rfl, rfl, _, rfl, ?_⟩
              rw [deq_str]
              by_cases exy : x = y
              · rw [decide_eq_true exy]
                refine iteT (no _ s13 ?_)
                rw [ek, exy, decide_eq_false (show ¬ (y ≠ y) from fun h => h rfl), decide_eq_false (lt_ir _)]
                simp
              · rw [decide_eq_false exy]
                have wide : ((decide (kw = PIPE) && decide (x.cps.toList < y.cps.toList)) || (decide (kw = LEAD) && decide (x ≠ y))) = true → tRet (tCall (spIsNum0 K) [] E0 (tCons (tOp (rIxT K) (tVar 0) (tC (.int 3))) tNil)) { nx := fun _ H' => Q .non H', rt := Q } (L2.start ["thing"] [.ref a]) H3 := fun h => by
                  refine ⟨_, rfl, a, _, 3, u, rfl, rfl, ha3, rfl, u, n, rfl, hu.keep (.of s13), fun H4 s4 => ?_⟩
                  have z := k H4 (s13.trans s4)
                  rw [ek, nx, ny, h] at z
                  exact z
                refine iteF ⟨_, rfl, a, _, 0, .str kw, rfl, rfl, ha3, rfl, rfl, _, rfl, ?_⟩
                rw [deq_str]
                rcases hk with e | e
                · have nl : ¬ kw = LEAD := fun q => pipe_lead (e.symm.trans q)
                  rw [decide_eq_true e]
                  refine iteT ⟨_, rfl, a, _, 1, .str x, rfl, rfl, ha3, rfl, _, rfl, a, _, 2, .str y, rfl, rfl, ha3, rfl, x, y, rfl, rfl, _, rfl, ?_⟩
                  by_cases hlt : y.cps.toList < x.cps.toList
                  · rw [decide_eq_true hlt]
                    refine iteT (no _ s13 ?_)
                    rw [ek, decide_eq_false (fun q => lt_ir _ (lt_tr q hlt)), decide_eq_false nl]
                    simp
                  · rw [decide_eq_false hlt]
                    refine iteF (wide ?_)
                    rw [decide_eq_true e, decide_eq_true (lt_or hlt fun q => exy (tl_inj q))]
                    rfl
                · have np : ¬ kw = PIPE := fun q => pipe_lead (q.symm.trans e)
                  rw [decide_eq_false np]
                  refine iteF (iteF (wide ?_))
                  rw [decide_eq_true e, decide_eq_true (show x ≠ y from exy), Bool.true_and, Bool.or_true]
        · have e4 : decide ((((kw :: ws).map V.str ++ [u]).length : Int) = 4) = false := decide_eq_false (by simp; omega)
          rw [e4]
          exact iteT (no _ s1 (flat_bad fun x y e => h2 (by rw [e]; rfl)))
      · have np : ¬ kw = PIPE := fun q => hk (.inl q)
        have nl : ¬ kw = LEAD := fun q => hk (.inr q)
        rw [decide_eq_false np, decide_eq_false nl]
        refine iteT (no _ s1 ?_)
        by_cases h2 : ∃ x y, ws = [x, y]
        · obtain ⟨x, y, rfl⟩ := h2
          rw [flat_ok, decide_eq_false np, decide_eq_false nl]
          simp
        · exact flat_bad fun x y e => h2 ⟨x, y, e⟩
end
end K12
set_option maxHeartbeats 1000000
namespace K12
open PySem PySem.Spec PyProof.Rows L2 Hx RZ
/-! ### an_ends, an_every -/
section
variable {P : Program} {w : World} {K : PySem.W.Frag} {mg : Str → Option Value} {base : Heap}
theorem right_hub {r : Raw} (h : Right r) {H : Hp} {v : V} (hv : RawAt K H v r) : (∃ a xs b, v = .ref a ∧ SqT K H a xs ∧ atI xs 0 = some (.str HUB) ∧ atI xs 1 = some (.ref b) ∧ SqT K H b (r.ends.map V.str)) ∨
    (∃ a xs kw, v = .ref a ∧ SqT K H a xs ∧ atI xs 0 = some (.str kw) ∧ kw ≠ HUB ∧ cutV xs (some ((1 : Nat) : Int)) (some ((3 : Nat) : Int)) = r.ends.map V.str) := by
  cases h with
  | hub ns n _ _ _ =>
    obtain ⟨a, b, u, rfl, ha, hb, hu⟩ := hv
    exact .inl ⟨a, _, b, rfl, ha, rfl, rfl, hb⟩
  | two kw x y n hx hy hk hn =>
    obtain ⟨a, u, rfl, ha, hu⟩ := hv
    refine .inr ⟨a, _, kw, rfl, ha, rfl, ?_, cut_between 1 3 (by simp)⟩
    rcases hk with ⟨e, _⟩ | ⟨e, _⟩ <;> rw [e]
    · exact pipe_hub
    · exact lead_hub
theorem sc_an_ends : FnScope ["part"] ["part"] (defScope sL_an_ends) := ⟨rfl, rfl, rfl, by decide +kernel, rfl, by decide +kernel, by decide +kernel⟩
theorem ok_an_ends (D : Dn K mg "_law_an_ends" sL_an_ends) : Ok P w K mg base L2.CX0 1 "_law_an_ends" ["part"] (spEnds K) := by
  refine Ok.mk0 D sc_an_ends (fun vs H Q E h => ?_) (fun _ _ _ _ _ _ us hl => match us, hl with | [_], _ => rfl) (fun f cdv A outer s H vs Q E hr h => ?_)
  · obtain ⟨x, ns, rfl, _⟩ := h
    rfl
  obtain ⟨v, r, rfl, hv, ok, k⟩ := h
  refine ⟨_, (pss_one (ps_ret (pe_ifExp (pt_cmpR op_eq (pe_ix ix_tup (pv 0) pe_int (fun _ _ => rfl)) pe_str (nomark _)) (pe_ix ix_tup (pv 0) pe_int (fun _ _ => rfl)) (pe_slice sl_tupA (pv 0) (po_some pe_int) (po_some pe_int))))), ?_⟩
  rcases right_hub ok hv with ⟨a, xs, b, rfl, ha, h0, h1, hb⟩ | ⟨a, xs, kw, rfl, ha, h0, nk, hc⟩
  · exact ⟨_, rfl, a, _, 0, _, rfl, rfl, ha, h0, rfl, true, congrArg V.bl (decide_eq_true rfl), iteT ⟨_, rfl, a, _, 1, _, rfl, rfl, ha, h1, k b H (Same.refl H) hb⟩⟩
  · refine ⟨_, rfl, a, _, 0, _, rfl, rfl, ha, h0, rfl, false, congrArg V.bl (decide_eq_false (fun q => nk (V.str.inj q))), iteF ⟨_, rfl, _, rfl, _, rfl, ?_⟩⟩
    show rSlA K (.ref a) (some ((1 : Nat) : Int)) (some ((3 : Nat) : Int)) H _
    exact rSlA_any ha hc fun p H' s q => k p H' s q
theorem allEnds_app (taps : List Str) (rs : List Raw) (r : Raw) : allEnds taps (rs ++ [r]) = allEnds taps rs ++ r.ends := by
  unfold allEnds
  rw [List.flatMap_append, List.append_assoc]
  simp
def spEvery (K : PySem.W.Frag) : Sp := fun vs H Q _ => ∃ (v : V) (taps : List Str) (rs : List Raw), vs = [v] ∧ NetAt K H v taps rs ∧ taps.Nodup ∧ (∀ r ∈ rs, Right r) ∧ (allEnds taps rs).length ≤ 4000 ∧
  ∀ p ys H', Same H H' → H' p = some (.lst (ys.map V.str)) → Places ys (allEnds taps rs) → Q (.ref p) H'
theorem sc_an_every : FnScope ["net_here", "found", "part", "place"] ["net_here"] (defScope sL_an_every) := ⟨rfl, rfl, rfl, by decide +kernel, rfl, by decide +kernel, by decide +kernel⟩
theorem ok_an_every (D : Dn K mg "_law_an_every" sL_an_every) (h_list : mg "list" = none) (h_sorted : mg "sorted" = none) : Ok P w K mg base L2.CX0 1 "_law_an_every" ["net_here"] (spEvery K) := by
  refine Ok.mk0 D sc_an_every (fun vs H Q E h => ?_) (fun _ _ _ _ _ _ us hl => match us, hl with | [_], _ => rfl) (fun f cdv A outer s H vs Q E hr h => ?_)
  · obtain ⟨x, t, r, rfl, _⟩ := h
    rfl
  obtain ⟨v, taps, rs, rfl, ⟨a, t, b, us, rfl, ha, ht, hb, hu⟩, tnd, ok, hl, k⟩ := h
  have nd := sc_an_every.nd
  refine ⟨_, (pss_cons (ps_set (i := 1) nd rfl (Or.inl rfl) (pe_callTy call_list_of (by rfl) h_list (by decide +kernel) (pa_cons (pe_ix ix_tup (pv 0) pe_int (fun _ _ => rfl)) pa_nil)))
    (pss_cons (ps_for PassesOwn.never rfl (pi_tup (pe_ix ix_tup (pv 0) pe_int (fun _ _ => rfl))) (pg_name (i := 2) nd rfl (Or.inl rfl))
      (pss_one (ps_for PassesOwn.never rfl (pi_tup (pe_ifExp (pt_cmpR op_eq (pe_ix ix_tup (pv 2) pe_int (fun _ _ => rfl)) pe_str (nomark _)) (pe_ix ix_tup (pv 2) pe_int (fun _ _ => rfl)) (pe_slice sl_tupA (pv 2) (po_some pe_int) (po_some pe_int)))) (pg_name (i := 3) nd rfl (Or.inl rfl))
        (pss_one (ps_if (pt_cmpR op_notIn_seq (pv 3) (pv 1) (by rfl))
          (pss_one (ps_expr (pe_bm PySem.F.plainAttrs_list PySem.F.slot_list_append PySem.F.type_list_append mt_append (pv 1) (pa_cons (pv 3) pa_nil))))
          pss_nil)))))
    (pss_one (ps_ret (pe_callB cr_srtS (by rfl) h_sorted (by decide +kernel) (pa_cons (pv 1) pa_nil)))))), ?_⟩
  refine ⟨_, rfl, a, _, 0, _, rfl, rfl, ha, rfl, t, _, rfl, .inr ht, fun l hl0 => ?_⟩
  have s0 : Same H (upd H l (.lst (taps.map V.str))) := same_upd hl0
  refine ⟨_, rfl, a, _, 1, _, rfl, rfl, same_seqT s0 ha, rfl, b, rfl, ⟨_, same_seqT s0 hb⟩, ?_⟩
  let Pv : Nat → L2.St → Hp → Prop := fun i σ H' => ∃ (o1 o2 : Option V) (fs : List Str), σ = [some (.ref a), some (.ref l), o1, o2] ∧ Same H H' ∧ H' l = some (.lst (fs.map V.str)) ∧ fs.Nodup ∧ ∀ z, z ∈ fs ↔ z ∈ allEnds taps (rs.take i)
  refine for_tup Pv ⟨_, _, taps, rfl, s0, upd_same, tnd, fun z => by unfold allEnds; simp⟩ (fun i σ H' _ ⟨_, _, _, z⟩ => same_seqT z.2.1 hb) ?_ ?_
  · rintro i x σ H' hx ⟨o1, o2, fs, rfl, s4, el, fnd, fm⟩
    obtain ⟨r, hr2, hraw⟩ := hu.get hx
    have mr := List.mem_of_getElem? hr2
    have hraw4 := hraw.keep (.of s4)
    let Pw : Hp → Nat → L2.St → Hp → Prop := fun H6 j σ H5 => ∃ (o2 : Option V) (fs : List Str), σ = [some (.ref a), some (.ref l), some x, o2] ∧ TK H6 H5 ∧ Same H H5 ∧ H5 l = some (.lst (fs.map V.str)) ∧ fs.Nodup ∧ ∀ z, z ∈ fs ↔ z ∈ allEnds taps (rs.take i) ++ r.ends.take j
    have h0 : ∀ H5, Same H' H5 → Pw H5 0 [some (.ref a), some (.ref l), some x, o2] H5 := fun H5 s5 => ⟨_, fs, rfl, .refl _, s4.trans s5, s5 _ _ el, fnd, fun z => by rw [fm]; simp⟩
    have bound : ∀ j (gs : List Str), gs.Nodup → (∀ z, z ∈ gs ↔ z ∈ allEnds taps (rs.take i) ++ r.ends.take j) → gs.length ≤ 4000 := fun j gs g1 g2 => by
      refine Nat.le_trans (nodup_le (m := allEnds taps rs) g1 fun z hz => ?_) hl
      have q := (g2 z).mp hz
      have e : z ∈ allEnds taps (rs.take (i + 1)) := by
        rw [← ends_step hr2]
        rcases List.mem_append.mp q with q | q
        · exact List.mem_append_left _ q
        · exact List.mem_append_right _ (List.mem_of_mem_take q)
      unfold allEnds at e ⊢
      rcases List.mem_append.mp e with q | q
      · exact List.mem_append_left _ q
      · obtain ⟨r2, hr2, hz2⟩ := List.mem_flatMap.mp q
        exact List.mem_append_right _ (List.mem_flatMap.mpr ⟨r2, List.mem_of_mem_take hr2, hz2⟩)
    rcases right_hub (ok r mr) hraw4 with ⟨pa, xs, pb, rfl, hpa, e0, e1, hpb⟩ | ⟨pa, xs, kw, rfl, hpa, e0, nk, hc⟩
    all_goals first
      | refine ⟨_, rfl, pa, _, 0, _, rfl, rfl, hpa, e0, rfl, true, congrArg V.bl (decide_eq_true rfl), iteT ⟨_, rfl, pa, _, 1, _, rfl, rfl, hpa, e1, pb, rfl, ⟨_, hpb⟩, for_tup (xs := r.ends.map V.str) (Pw H') (h0 _ (Same.refl _)) (fun j σ H5 _ ⟨_, _, _, z⟩ => tk_seqT z.1 hpb) ?_ ?_⟩⟩
      | (refine ⟨_, rfl, pa, _, 0, _, rfl, rfl, hpa, e0, rfl, false, congrArg V.bl (decide_eq_false (fun q => nk (V.str.inj q))), iteF ⟨_, rfl, _, rfl, _, rfl, ?_⟩⟩
         show rSlA K (.ref pa) (some ((1 : Nat) : Int)) (some ((3 : Nat) : Int)) H' _
         refine rSlA_any hpa hc fun q H5 s5 hq => ⟨q, rfl, ⟨_, hq⟩, for_tup (xs := r.ends.map V.str) (Pw H5) (h0 _ s5) (fun j σ H5 _ ⟨_, _, _, z⟩ => tk_seqT z.1 hq) ?_ ?_⟩)
    all_goals first
      | (intro σ H6 pw
         obtain ⟨o3, gs, e9, tk, s6, el6, gnd, gm⟩ := pw
         have gm2 : ∀ u, u ∈ gs ↔ u ∈ allEnds taps (rs.take (i + 1)) := fun u => by
           rw [gm u, List.length_map, List.take_length, ends_step hr2]
         exact ⟨_, _, gs, e9, s6, el6, gnd, gm2⟩)
      | (rintro j y σ H6 hy ⟨o3, gs, rfl, tk, s6, el6, gnd, gm⟩
         obtain ⟨z, hz, rfl⟩ := strs_at hy
         have eT : ∀ u, u ∈ allEnds taps (rs.take i) ++ r.ends.take (j + 1) ↔ u ∈ allEnds taps (rs.take i) ++ r.ends.take j ∨ u = z := fun u => by
           rw [List.take_add_one, hz, ← List.append_assoc, List.mem_append (t := Option.toList _)]
           simp
         refine ⟨_, rfl, _, rfl, l, _, rfl, .inl (SqL.of el6), rfl, Hx.flat_strs gs, _, congrArg V.bl (congrArg Bool.not (inV_strs gs)), ?_⟩
         by_cases hin : z ∈ gs
         · rw [decide_eq_true hin]
           exact iteF ⟨_, gs, rfl, tk, s6, el6, gnd, fun u => by
             rw [eT, ← gm]
             exact ⟨.inl, fun q => q.elim id fun e => by rw [e]; exact hin⟩⟩
         · rw [decide_eq_false hin]
           have gl := bound j gs gnd gm
           refine iteT ⟨_, rfl, .inl ⟨rfl, _, SqL.of el6⟩, _, rfl, l, _, _, rfl, rfl, el6, by rw [sizeLine_eq, List.length_map]; omega, ?_⟩
           refine ⟨_, gs ++ [z], rfl, tk.trans (.lst el6), fun b2 o e => ?_, ?_, ?_, fun u => ?_⟩
           · rw [upd_ne (ne_of_none e hl0)]
             exact s6 _ _ e
           · rw [upd_same, List.map_append]
             rfl
           · exact List.nodup_append.mpr ⟨gnd, by simp, fun u hu v hv e => hin (by rw [List.mem_singleton.mp hv] at e; rw [← e]; exact hu)⟩
           · rw [eT, ← gm, List.mem_append, List.mem_singleton])
  · rintro σ H' ⟨o1, o2, fs, rfl, s4, el, fnd, fm⟩
    rw [hu.len, List.take_length] at fm
    have fl : fs.length ≤ 4000 := Nat.le_trans (nodup_le fnd fun x hx => (fm x).mp hx) hl
    refine ⟨_, rfl, l, fs, rfl, SqL.of el, by rw [sizeLine_eq]; omega, fun ys p pm so hp => ?_⟩
    exact k p ys _ (s4.trans (same_upd hp)) upd_same ⟨pm.nodup_iff.mpr fnd, fun z => by rw [pm.mem_iff, fm], so⟩
end
end K12
set_option maxHeartbeats 1000000
namespace K12
open PySem PySem.Spec PyProof.Rows L2 Hx RZ
/-! ### an_is_net -/
theorem asc_nodup {l : List Str} (h : Asc l) : l.Nodup := List.Pairwise.imp (fun {a b} (q : tl a < tl b) (e : a = b) => lt_ir _ (by rw [e] at q; exact q)) h
def netS (taps : List Str) (rs : List Raw) : Bool := tapsS taps && (decide (rs.length ≤ 200) && (rs.all Raw.ok && (!mixS rs && decide (cntU (allEnds taps rs) ≤ 40))))
section
variable {P : Program} {w : World} {K : PySem.W.Frag} {mg : Str → Option Value} {base : Heap}
def spLawNet (K : PySem.W.Frag) : Sp := fun vs H Q _ => ∃ (v : V) (taps : List Str) (rs : List Raw), vs = [v] ∧ NetAt K H v taps rs ∧ taps.length ≤ 4000 ∧ (∀ x ∈ taps, x.length ≤ 100000) ∧ (∀ r ∈ rs, RawFit r) ∧ rs.length ≤ 1000 ∧ (allEnds taps rs).length ≤ 4000 ∧ ∀ H', Same H H' → Q (.bl (netS taps rs)) H'
theorem sc_an_is_net : FnScope ["thing", "part", "words_here"] ["thing"] (defScope sL_an_is_net) := ⟨rfl, rfl, rfl, by decide +kernel, rfl, by decide +kernel, by decide +kernel⟩
theorem ok_an_is_net (D : Dn K mg "_law_an_is_net" sL_an_is_net) (B0 : Ok P w K mg base L2.CX0 2 "_law_an_rising" ["thing", "least"] (spRising K)) (B1 : Ok P w K mg base L2.CX0 4 "_law_an_is_part" ["thing"] (spIsPart K)) (B2 : Ok P w K mg base L2.CX0 1 "_law_an_every" ["net_here"] (spEvery K))
    (h_isinstance : mg "isinstance" = none) (h_tuple : mg "tuple" = none) (h_len : mg "len" = none) : Ok P w K mg base L2.CX0 5 "_law_an_is_net" ["thing"] (spLawNet K) := by
  obtain ⟨_, _, g_an_rising, k_an_rising, b_an_rising, F_an_rising⟩ := B0.ex
  obtain ⟨_, _, g_an_is_part, k_an_is_part, b_an_is_part, F_an_is_part⟩ := B1.ex
  obtain ⟨_, _, g_an_every, k_an_every, b_an_every, F_an_every⟩ := B2.ex
  refine Ok.mk0 D sc_an_is_net (fun vs H Q E h => ?_) (fun _ _ _ _ _ _ us hl => match us, hl with | [_], _ => rfl) (fun f cdv A outer s H vs Q E hr h => ?_)
  · obtain ⟨x, t, r, rfl, _⟩ := h
    rfl
  obtain ⟨v, taps, rs, rfl, ⟨a, t, b, us, rfl, ha, ht, hb, hu⟩, tl0, tm, fit, few, hl, k⟩ := h
  have nd := sc_an_is_net.nd
  have hu64 := hr.units
  have hr2 := hr.mono (show 2 ≤ 4 by decide)
  have hr1 := hr.mono (show 1 ≤ 4 by decide)
  refine ⟨_, (pss_cons (ps_if (PW.pt (pw_or (pt_not (pt_val (pe_isD "tuple" rfl h_isinstance h_tuple (pv 0)))) (pw_or1 (pt_cmpR op_ne (pe_lenS rfl h_len (pv 0)) pe_int (nomark _)))))
      (pss_one (ps_ret pe_bl))
      pss_nil)
    (pss_cons (ps_if (PW.pt (pw_or (pt_not (pt_val (pe_call F_an_rising hr2 rfl g_an_rising k_an_rising b_an_rising .nil pass0 (pa_cons (pe_ix ix_tup (pv 0) pe_int (fun _ _ => rfl)) (pa_cons pe_int pa_nil))))) (pw_or (pt_cmpR op_gt (pe_lenS rfl h_len (pe_ix ix_tup (pv 0) pe_int (fun _ _ => rfl))) pe_int (nomark _)) (pw_or1 (pt_not (pt_val (pe_isD "tuple" rfl h_isinstance h_tuple (pe_ix ix_tup (pv 0) pe_int (fun _ _ => rfl)))))))))
      (pss_one (ps_ret pe_bl))
      pss_nil)
    (pss_cons (ps_if (PW.pt (pw_or (pt_cmpR op_gt (pe_lenS rfl h_len (pe_ix ix_tup (pv 0) pe_int (fun _ _ => rfl))) pe_int (nomark _)) (pw_or1 (pt_cmpR (op_neD hu64) (pe_lc (own := [("part", 1)]) (g := gName 1) rfl nd (pi_tup (pe_ix ix_tup (pv 0) pe_int (fun _ _ => rfl))) (blkOk_by (own := [("part", 1)]) (N := ["thing", "part", "words_here"]) (sc := defScope sL_an_is_net) (by decide +kernel)) (fun _ _ _ _ _ => pg_name (i := 1) nd rfl (Or.inl rfl)) (fun _ _ _ _ _ => pts_one (pt_not (pt_val (pe_call F_an_is_part hr rfl g_an_is_part k_an_is_part b_an_is_part .nil pass0 (pa_cons (pv 1) pa_nil))))) (fun _ _ _ _ _ => pe_int)) (pe_lst pa_nil) (nomark _)))))
      (pss_one (ps_ret pe_bl))
      pss_nil)
    (pss_cons (ps_setLc (i := 2) (own := [("part", 1)]) (g := gName 1) (tt := tYes) rfl nd rfl rfl (sw_true rfl rfl rfl (by decide +kernel)) (pi_tup (pe_ix ix_tup (pv 0) pe_int (fun _ _ => rfl))) (blkOk_by (own := [("part", 1)]) (N := ["thing", "part", "words_here"]) (sc := defScope sL_an_is_net) (by decide +kernel)) (fun _ _ _ _ _ => pg_name (i := 1) nd rfl (Or.inl rfl)) (fun _ _ _ _ _ => pts_nil) (fun _ _ _ _ _ => (pe_ix (ix_tupK (K := K) rfl) (pv 1) pe_int (fun _ _ => rfl))))
    (pss_one (ps_ret (pe_and (pe_not (pe_and (pe_cmpR op_in_seq pe_str (pv 2) (by rfl)) (pe_one (pe_cmpR op_in_seq pe_str (pv 2) (by rfl))))) (pe_one (pe_cmpR op_le (pe_lenS rfl h_len (pe_call F_an_every hr1 rfl g_an_every k_an_every b_an_every .nil pass0 (pa_cons (pv 0) pa_nil))) pe_int (nomark _)))))))))), ?_⟩
  have no : ∀ H', Same H H' → netS taps rs = false → Q (.bl false) H' := fun H' s e => by
    have z := k H' s
    rw [e] at z
    exact z
  have ll := hu.len
  refine ⟨_, rfl, netData taps rs, (NetAt.dt ⟨a, t, b, us, rfl, ha, ht, hb, hu⟩).dp, true, rfl, iteF ?_⟩
  refine ⟨_, rfl, a, _, rfl, .inr ha, rfl, false, rfl, iteF ?_⟩
  refine ⟨_, rfl, a, _, 0, _, rfl, rfl, ha, rfl, t, taps, 2, rfl, ht, tl0, tm, fun H1 s1 => ⟨_, rfl, ?_⟩⟩
  have et : tapsS taps = (risS 2 taps && decide (taps.length ≤ 6)) := by
    unfold tapsS risS
    cases namesS taps <;> cases decide (2 ≤ taps.length) <;> rfl
  cases e1 : risS 2 taps with
  | false => exact iteT (no _ s1 (by unfold netS; rw [et, e1]; rfl))
  | true =>
    rw [e1, Bool.true_and] at et
    have ha1 := same_seqT s1 ha
    have ht1 := same_seqT s1 ht
    have hb1 := same_seqT s1 hb
    refine iteF ⟨_, rfl, a, _, 0, _, rfl, rfl, ha1, rfl, t, _, rfl, .inr ht1, _, _, rfl, rfl, _, rfl, ?_⟩
    rw [List.length_map]
    by_cases h6 : taps.length ≤ 6
    · rw [decide_eq_false (show ¬ ((6 : Int) < (taps.length : Int)) by omega)]
      rw [decide_eq_true h6] at et
      refine iteF ⟨_, rfl, a, _, 1, _, rfl, rfl, ha1, rfl, .tuple (rs.map Raw.data), .tup hb1 (dpAll_same s1 hu.dt.dp), true, rfl, iteF ?_⟩
      refine ⟨_, rfl, a, _, 1, _, rfl, rfl, ha1, rfl, b, _, rfl, .inr hb1, _, _, rfl, rfl, _, rfl, ?_⟩
      by_cases h200 : rs.length ≤ 200
      · rw [decide_eq_false (show ¬ ((200 : Int) < (us.length : Int)) by omega)]
        refine iteF ⟨_, rfl, a, _, 1, _, rfl, rfl, ha1, rfl, b, rfl, ⟨_, hb1⟩, fun Z hZ => ?_⟩
        refine lc_ones (n := us.length) (J := Itt K b) (fun i => match rs[i]? with | some r => !r.ok | none => false) hZ (by rw [sizeLine_eq]; omega) (fun i H2 hi s2 => ⟨_, _, same_seqT s2 hb1, List.getElem?_eq_getElem hi⟩) (fun H2 s2 => ⟨_, same_seqT s2 hb1, Nat.le_refl _⟩) ?_ ?_
        · rintro i y H2 H' F hi s2 ⟨rfl, yx⟩ kk
          obtain ⟨r, hr5, hraw⟩ := hu.get (yx _ (same_seqT s2 hb1))
          refine ⟨rfl, _, rfl, y, r, rfl, hraw.keep (.of (s1.trans s2)), fit r (List.mem_of_getElem? hr5), fun H4 s4 => ⟨_, rfl, ?_⟩⟩
          have q := kk H4 s4
          rw [hr5] at q
          exact q
        · intro n H2 s2 e hn hz
          have eall : rs.all Raw.ok = decide (n = 0) := by
            rw [Bool.eq_iff_iff, decide_eq_true_eq, hz, List.all_eq_true]
            constructor
            · intro h i hi
              rw [List.getElem?_eq_getElem (by omega)]
              show (!Raw.ok _) = false
              rw [h _ (List.getElem_mem _)]
              rfl
            · intro h c hm
              obtain ⟨i, hi⟩ := List.getElem?_of_mem hm
              have q := h i (by have := (List.getElem?_eq_some_iff.mp hi).1; omega)
              rw [hi] at q
              simpa using q
          refine ones_ne e fun H3 s3 => ⟨_, rfl, ?_⟩
          have s13 := s1.trans (s2.trans s3)
          rw [← eall]
          cases hall : rs.all Raw.ok with
          | false => exact iteT (no _ s13 (by unfold netS; rw [hall]; simp))
          | true =>
            have right : ∀ r ∈ rs, Right r := fun r hr6 => Raw.right (List.all_eq_true.mp hall r hr6)
            have ha3 := same_seqT s13 ha
            have hb3 := same_seqT s13 hb
            have hu3 := hu.keep (.of s13)
            refine iteF ⟨_, rfl, a, _, 1, _, rfl, rfl, ha3, rfl, b, rfl, ⟨_, hb3⟩, fun W hW => ?_⟩
            refine lc_tup1 hb3 (by rw [sizeLine_eq]; omega) (fun i y _ => (rs.map Raw.word)[i]?.map V.str = some y) (fun _ _ _ _ _ h => h) hW ?_ ?_
            · intro i v H4 F hv s4 kk
              obtain ⟨r, hr6, hraw⟩ := hu3.get hv
              obtain ⟨c, ys, rfl, hc, h0, _⟩ := raw_first hraw (right r (List.mem_of_getElem? hr6))
              refine ⟨rfl, _, rfl, c, ys, 0, _, rfl, rfl, same_seqT s4 hc, h0, kk _ _ ?_ (Same.refl _)⟩
              rw [List.getElem?_map, hr6]
              rfl
            · intro acc H4 s4 e4 hl4 hy4
              have eb : acc = (rs.map Raw.word).map V.str := strs_are (by rw [hl4, List.length_map, ll]) hy4
              subst eb
              have s14 := s13.trans s4
              have hk : ∀ x : Str, decide (x ∈ rs.map Raw.word) = hasK x rs := fun x => by
                unfold hasK
                rw [Bool.eq_iff_iff, decide_eq_true_eq, List.any_eq_true, List.mem_map]
                constructor
                · rintro ⟨r, m, e⟩; exact ⟨r, m, decide_eq_true e⟩
                · rintro ⟨r, m, e⟩; exact ⟨r, m, of_decide_eq_true e⟩
              have inL := (Hx.inV_strs (z := LEAD) (rs.map Raw.word)).trans (hk LEAD)
              have inH := (Hx.inV_strs (z := HUB) (rs.map Raw.word)).trans (hk HUB)
              have eS : netS taps rs = (!mixS rs && decide (cntU (allEnds taps rs) ≤ 40)) := by
                unfold netS
                rw [et, hall, decide_eq_true h200]
                simp
              have tnd : taps.Nodup := by
                have q : namesS taps = true := by
                  unfold risS at e1
                  rw [Bool.and_eq_true] at e1
                  exact e1.2
                unfold namesS at q
                rw [Bool.and_eq_true] at q
                exact asc_nodup (rise_asc q.2)
              have fin : mixS rs = false → ∃ b' : Bool, V.bl true = V.bl b' ∧ (if b' = true then (tOp (rI0 fun i j => V.bl (decide (i ≤ j))) (tLenS K (tCall (spEvery K) [] E0 (tCons (tVar 0) tNil))) (tC (.int 40))) [some (.ref a), none, some (.ref W)] H4 Q else Q (.bl false) H4) := fun hmx => by
                refine ⟨true, rfl, iteT ⟨_, rfl, .ref a, taps, rs, rfl, ⟨a, t, b, us, rfl, same_seqT s14 ha, same_seqT s14 ht, same_seqT s14 hb, hu.keep (.of s14)⟩, tnd, right, hl, fun p ys H5 s5 hp pl => ⟨p, _, rfl, .inl (SqL.of hp), _, _, rfl, rfl, ?_⟩⟩⟩
                have z := k H5 (s14.trans s5)
                rw [eS, hmx, ← places_len pl, Bool.not_false, Bool.true_and] at z
                rw [show decide (ys.length ≤ 40) = decide (((ys.map V.str).length : Int) ≤ 40) from by rw [List.length_map]; exact (dle2 (k := 40)).symm] at z
                exact z
              refine ⟨_, rfl, W, _, rfl, .inl (SqL.of e4), rfl, Hx.flat_strs _, hasK LEAD rs, congrArg V.bl inL, ?_⟩
              cases hL : hasK LEAD rs with
              | false =>
                have hmx : mixS rs = false := by unfold mixS; rw [hL]; rfl
                exact iteF ⟨false, rfl, fin hmx⟩
              | true =>
                refine iteT ⟨_, rfl, W, _, rfl, .inl (SqL.of e4), rfl, Hx.flat_strs _, hasK HUB rs, congrArg V.bl inH, ?_⟩
                cases hH : hasK HUB rs with
                | false =>
                  have hmx : mixS rs = false := by unfold mixS; rw [hL, hH]; rfl
                  exact fin hmx
                | true =>
                  have hmx : mixS rs = true := by unfold mixS; rw [hL, hH]; rfl
                  refine ⟨false, rfl, iteF (no _ s14 ?_)⟩
                  rw [eS, hmx]
                  rfl
      · rw [decide_eq_true (show (200 : Int) < (us.length : Int) by omega)]
        exact iteT (no _ s1 (by unfold netS; rw [decide_eq_false h200]; simp))
    · rw [decide_eq_true (show (6 : Int) < (taps.length : Int) by omega)]
      rw [decide_eq_false h6] at et
      exact iteT (no _ s1 (by unfold netS; rw [et]; rfl))
end
end K12
set_option maxHeartbeats 1000000
namespace K12
open PySem PySem.Spec PyProof.Rows L2 Hx RZ
/-! ### the law writes a net -/
theorem taps_line (t : Str) (ts : List Str) : Str.ofString "taps " ++ Txt.join SPC (t :: ts) = tapsLine (t :: ts) := by
  unfold tapsLine
  rw [TL.join_eq, TL.join_eq]
  refine TL.ext_tl ?_
  rw [TL.tl_append, TL.tl_join, TL.tl_join]
  show _ = TL.joinL _ (TL.tl TAPS :: TL.tl t :: ts.map TL.tl)
  have e : TL.joinL (TL.tl SPC) (TL.tl TAPS :: TL.tl t :: ts.map TL.tl) = TL.tl TAPS ++ (TL.tl SPC ++ TL.joinL (TL.tl SPC) (TL.tl t :: ts.map TL.tl)) := rfl
  rw [e, ← List.append_assoc]
  rfl
section
variable {P : Program} {w : World} {K : PySem.W.Frag} {mg : Str → Option Value} {base : Heap}
theorem sc_an_number_words : FnScope ["item"] ["item"] (defScope sL_an_number_words) := ⟨rfl, rfl, rfl, by decide +kernel, rfl, by decide +kernel, by decide +kernel⟩
theorem ok_an_number_words (D : Dn K mg "_law_an_number_words" sL_an_number_words) (h_isinstance : mg "isinstance" = none) (h_tuple : mg "tuple" = none) (h_str : mg "str" = none) : Ok P w K mg base L2.CX0 1 "_law_an_number_words" ["item"] (spNumText K) := by
  refine Ok.mk0 D sc_an_number_words (fun vs H Q E h => ?_) (fun _ _ _ _ _ _ us hl => match us, hl with | [_], _ => rfl) (fun f cdv A outer s H vs Q E hr h => ?_)
  · obtain ⟨x, ns, rfl, _⟩ := h
    rfl
  obtain ⟨v, n, rfl, hn, t0, t1, l0, l1, k⟩ := h
  refine ⟨_, (pss_one (ps_ret (pe_ifExp (pt_not (pt_val (pe_isD "tuple" rfl h_isinstance h_tuple (pv 0)))) (pe_callTy call_str_int (by rfl) h_str (by decide +kernel) (pa_cons (pv 0) pa_nil)) (pe_op op_add_str (pe_op op_add_str (pe_callTy call_str_int (by rfl) h_str (by decide +kernel) (pa_cons (pe_ix ix_tup (pv 0) pe_int (fun _ _ => rfl)) pa_nil)) pe_str) (pe_callTy call_str_int (by rfl) h_str (by decide +kernel) (pa_cons (pe_ix ix_tup (pv 0) pe_int (fun _ _ => rfl)) pa_nil)))))), ?_⟩
  cases n with
  | w i =>
    obtain rfl : v = .int i := hn
    exact ⟨_, rfl, .int i, .int i, _, rfl, iteT ⟨_, rfl, i, rfl, log_small (by simp only [Num.top] at t0 t1; omega), k⟩⟩
  | q t b =>
    have hn' := hn.dt.dp
    obtain ⟨a, rfl, ha⟩ := hn
    simp only [Num.top, Num.low] at t0 t1 l0 l1
    have l1' := natS_len t0 t1
    have l2' := natS_len l0 l1
    have e1 : (Str.ofString "/").length = 1 := rfl
    have sz : ∀ n : Nat, n ≤ 100 → n ≤ sizeLine := fun n h => by rw [sizeLine_eq]; omega
    refine ⟨_, rfl, .tuple [.int t, .int b], hn', true, rfl, iteF ⟨_, rfl, a, _, 0, _, rfl, rfl, ha, rfl, t, rfl, log_small (by omega), natS t, Str.ofString "/", rfl, rfl, sz _ (by omega), ?_⟩⟩
    refine ⟨_, rfl, a, _, 1, _, rfl, rfl, ha, rfl, b, rfl, log_small (by omega), natS t ++ "/", natS b, rfl, rfl, sz _ (by rw [append_len]; omega), k⟩
def spWritten (K : PySem.W.Frag) : Sp := fun vs H Q _ => ∃ (v : V) (taps : List Str) (rs : List Raw), vs = [v] ∧ NetAt K H v taps rs ∧ NetOk taps rs ∧ (∀ r ∈ rs, NumFit r.num) ∧ ∀ H', Same H H' → Q (.str (netText taps rs)) H'
theorem sc_an_written : FnScope ["net_here", "lines_here", "part", "line"] ["net_here"] (defScope sL_an_written) := ⟨rfl, rfl, rfl, by decide +kernel, rfl, by decide +kernel, by decide +kernel⟩
theorem ok_an_written (D : Dn K mg "_law_an_written" sL_an_written) (B0 : Ok P w K mg base L2.CX0 1 "_law_an_ends" ["part"] (spEnds K)) (B1 : Ok P w K mg base L2.CX0 1 "_law_an_number_words" ["item"] (spNumText K)) (h_list : mg "list" = none) : Ok P w K mg base L2.CX0 2 "_law_an_written" ["net_here"] (spWritten K) := by
  obtain ⟨_, _, g_an_ends, k_an_ends, b_an_ends, F_an_ends⟩ := B0.ex
  obtain ⟨_, _, g_an_number_words, k_an_number_words, b_an_number_words, F_an_number_words⟩ := B1.ex
  refine Ok.mk0 D sc_an_written (fun vs H Q E h => ?_) (fun _ _ _ _ _ _ us hl => match us, hl with | [_], _ => rfl) (fun f cdv A outer s H vs Q E hr h => ?_)
  · obtain ⟨x, t, r, rfl, _⟩ := h
    rfl
  obtain ⟨v, taps, rs, rfl, ⟨a, t, b, us, rfl, ha, ht, hb, hu⟩, ok, hn, k⟩ := h
  have nd := sc_an_written.nd
  refine ⟨_, (pss_cons (ps_set (i := 1) nd rfl (Or.inl rfl) (pe_lst (pa_cons (pe_op op_add_str pe_str (pe_join pe_str (pe_callTy call_list_of (by rfl) h_list (by decide +kernel) (pa_cons (pe_ix ix_tup (pv 0) pe_int (fun _ _ => rfl)) pa_nil)))) pa_nil)))
    (pss_cons (ps_for PassesOwn.never rfl (pi_tup (pe_ix ix_tup (pv 0) pe_int (fun _ _ => rfl))) (pg_name (i := 2) nd rfl (Or.inl rfl))
      (pss_one (ps_expr (pe_bm PySem.F.plainAttrs_list PySem.F.slot_list_append PySem.F.type_list_append mt_append (pv 1) (pa_cons (pe_join pe_str (pe_op op_cat (pe_op op_cat (pe_lst (pa_cons (pe_ix ix_tup (pv 2) pe_int (fun _ _ => rfl)) pa_nil)) (pe_callTy call_list_of (by rfl) h_list (by decide +kernel) (pa_cons (pe_call F_an_ends hr rfl g_an_ends k_an_ends b_an_ends .nil pass0 (pa_cons (pv 2) pa_nil)) pa_nil))) (pe_lst (pa_cons (pe_call F_an_number_words hr rfl g_an_number_words k_an_number_words b_an_number_words .nil pass0 (pa_cons (pe_ix ix_tup (pv 2) (pe_un un_neg pe_int) (fun _ _ => rfl)) pa_nil)) pa_nil)))) pa_nil)))))
    (pss_one (ps_ret (pe_join pe_str (pe_lc (own := [("line", 3)]) (g := gName 3) (tt := tYes) rfl nd (pi_list (pv 1)) (blkOk_by (own := [("line", 3)]) (N := ["net_here", "lines_here", "part", "line"]) (sc := defScope sL_an_written) (by decide +kernel)) (fun _ _ _ _ _ => pg_name (i := 3) nd rfl (Or.inl rfl)) (fun _ _ _ _ _ => pts_nil) (fun _ _ _ _ _ => (pe_op op_add_str (pv 3) pe_str)))))))), ?_⟩
  have few := ok.few
  have ll := hu.len
  have line : ∀ n : Nat, n ≤ 100000 → n ≤ sizeLine := fun n h => by rw [sizeLine_eq]; omega
  have tls := taps_sum ok.tp
  have e1 : SPC.length = 1 := rfl
  obtain ⟨t0, tr, rfl⟩ : ∃ t0 tr, taps = t0 :: tr := by
    cases taps with
    | nil => exact absurd ok.tp (by decide)
    | cons t0 tr => exact ⟨t0, tr, rfl⟩
  have esum : ((t0 :: tr).map (fun x : Str => x.length)).sum ≤ 60 := by
    have q := tls.1
    rw [List.map_cons, List.sum_cons] at q
    have := tls.2
    omega
  have jl := join_len SPC (t0 :: tr)
  refine ⟨⟨_, rfl⟩, _, rfl, a, _, 0, _, rfl, rfl, ha, rfl, t, _, rfl, .inr ht, fun m hm => ?_⟩
  have s2 := same_upd (o := .lst ((t0 :: tr).map V.str)) hm
  have e5 : (Str.ofString "taps ").length = 5 := rfl
  refine ⟨SPC, m, t0 :: tr, rfl, rfl, .inl (SqL.of upd_same), (by rw [e1]; have := tls.2; omega), Str.ofString "taps ", _, rfl, rfl, (by rw [e5]; have := tls.2; rw [e1] at jl; exact line _ (by omega)), line _ (by simp), fun l hl => ?_⟩
  rw [taps_line]
  have s3 := s2.trans (same_upd (o := .lst [.str (tapsLine (t0 :: tr))]) hl)
  have nl1 : H l = none := by
    cases e : H l with
    | none => rfl
    | some o2 => rw [s2 l o2 e] at hl; cases hl
  let Pv : Nat → L2.St → Hp → Prop := fun i σ H' => ∃ (o : Option V), σ = [some (.ref a), some (.ref l), o, none] ∧ Same H H' ∧ H' l = some (.lst ((netLines (t0 :: tr) (rs.take i)).map V.str))
  refine ⟨_, rfl, a, _, 1, _, rfl, rfl, same_seqT s3 ha, rfl, b, rfl, ⟨_, same_seqT s3 hb⟩, ?_⟩
  refine for_tup Pv ⟨_, rfl, s3, upd_same⟩ (fun i σ H' _ ⟨_, z⟩ => same_seqT z.2.1 hb) ?_ ?_
  · rintro i x σ H' hx ⟨o, rfl, s4, el⟩
    obtain ⟨r, hr2, hraw⟩ := hu.get hx
    have mr := List.mem_of_getElem? hr2
    have hraw4 := hraw.keep (.of s4)
    obtain ⟨pa, xs, rfl, hpa, h0, u, hu1, hnu⟩ := raw_first hraw4 (ok.right r mr)
    have fit := hn r mr
    have ee := ends_few ok mr
    refine ⟨_, rfl, .inl ⟨rfl, _, SqL.of el⟩, ⟨_, rfl⟩, _, rfl, pa, xs, 0, _, rfl, rfl, hpa, h0, line _ (by simp), fun p1 hp1 => ?_⟩
    have s5 := same_upd (o := .lst [.str r.word]) hp1
    refine ⟨_, rfl, .ref pa, r, rfl, hraw4.keep (.of s5), ok.right r mr, fun q H6 s6 hq => ⟨q, _, rfl, .inr hq, fun p2 hp2 => ?_⟩⟩
    have s7 := same_upd (o := .lst (r.ends.map V.str)) hp2
    have e7 : (upd H6 p2 (.lst (r.ends.map V.str))) p1 = some (.lst [.str r.word]) := s7 _ _ (s6 _ _ upd_same)
    refine ⟨p1, p2, [.str r.word], r.ends.map V.str, rfl, rfl, e7, upd_same, line _ (by simp; omega), fun p3 hp3 => ?_⟩
    have s8 := same_upd (o := .lst ([.str r.word] ++ r.ends.map V.str)) hp3
    have s48 := s5.trans (s6.trans (s7.trans s8))
    refine ⟨_, rfl, _, rfl, pa, xs, -1, u, rfl, rfl, same_seqT s48 hpa, hu1, u, r.num, rfl, hnu.keep (.of s48), fit.1, fit.2.1, fit.2.2.1, fit.2.2.2, line _ (by simp), fun p4 hp4 => ?_⟩
    have s9 := same_upd (o := .lst [.str r.num.text]) hp4
    refine ⟨p3, p4, [.str r.word] ++ r.ends.map V.str, [.str r.num.text], rfl, rfl, s9 _ _ upd_same, upd_same, line _ (by simp; omega), fun p5 hp5 => ?_⟩
    have s10 := same_upd (o := .lst ([.str r.word] ++ r.ends.map V.str ++ [.str r.num.text])) hp5
    have sall := s48.trans (s9.trans s10)
    refine ⟨SPC, p5, r.word :: (r.ends ++ [r.num.text]), rfl, rfl, .inl (SqL.of (by rw [upd_same]; simp)), ?_, ?_⟩
    · have ps := part_sum (ok.right r mr) fit
      rw [List.length_cons, List.length_append, e1]
      simp only [List.length_cons, List.length_nil]
      omega
    · have el6 := sall _ _ el
      refine ⟨l, _, _, rfl, rfl, el6, ?_, ⟨_, rfl, fun b2 o2 e => ?_, ?_⟩⟩
      · have q : (rs.take i).length ≤ rs.length := by rw [List.length_take]; omega
        rw [sizeLine_eq, List.length_map]
        unfold netLines
        rw [List.length_cons, List.length_map]
        omega
      · rw [upd_ne (ne_of_none e nl1)]
        exact sall _ _ (s4 _ _ e)
      · rw [upd_same]
        unfold netLines
        rw [List.take_add_one, hr2]
        simp
        rfl
  · rintro σ H' ⟨o, rfl, s4, el⟩
    rw [ll, List.take_length] at el
    refine ⟨⟨_, rfl⟩, _, rfl, l, rfl, ⟨_, SqL.of el⟩, fun Z hZ => ?_⟩
    have nlen : (netLines (t0 :: tr) rs).length = rs.length + 1 := by unfold netLines; simp
    refine lc_lst1 (SqL.of el) (by rw [List.length_map, nlen, sizeLine_eq]; omega) (fun i y _ => ((netLines (t0 :: tr) rs).map (· ++ NL))[i]?.map V.str = some y) (fun _ _ _ _ _ h => h) hZ ?_ ?_
    · intro i v H6 F hv s6 kk
      obtain ⟨z, hz, rfl⟩ := strs_at hv
      have zl : z.length ≤ 60000 := by
        have mz : z ∈ tapsLine (t0 :: tr) :: rs.map partLine := List.mem_of_getElem? hz
        rcases List.mem_cons.mp mz with e | e
        · rw [e]
          have := taps_len ok.tp
          omega
        · obtain ⟨r, mr, rfl⟩ := List.mem_map.mp e
          have := part_len (ok.right r mr) (hn r mr)
          have := ends_few ok mr
          omega
      refine ⟨rfl, _, rfl, z, NL, rfl, rfl, ?_, kk _ _ ?_ (Same.refl _)⟩
      · have e2 : NL.length = 1 := rfl
        exact line _ (by omega)
      · rw [List.getElem?_map, hz]
        rfl
    · intro acc H6 s6 e hl6 hy6
      have eb : acc = ((netLines (t0 :: tr) rs).map (· ++ NL)).map V.str := strs_are (by rw [hl6, List.length_map, List.length_map]) hy6
      subst eb
      refine ⟨"", Z, _, rfl, rfl, .inl (SqL.of e), ?_, ?_⟩
      · have q := text_small ok hn
        have e0 : (Str.ofString "").length = 0 := rfl
        rw [e0]
        omega
      · exact k _ (s4.trans s6)
end
end K12
set_option maxHeartbeats 1000000
namespace K12
open PySem PySem.Spec PyProof.Rows L2 Hx RZ
/-! ### the law reads numbers -/
/-- a text cut at its first stroke -/
theorem cut_or (x : Str) : (47 ∉ TL.tl x ∧ Txt.split x SL = [x] ∧ Txt.partition x SL = (x, Str.empty, Str.empty)) ∨
    ∃ p r, 47 ∉ TL.tl p ∧ x = p ++ SL ++ r ∧ Txt.partition x SL = (p, SL, r) ∧ Txt.split x SL = p :: Txt.split r SL := by
  have ey : TL.tl SL = 47 :: [] := by decide +kernel
  by_cases h : 47 ∈ TL.tl x
  · obtain ⟨p, r, e, hp⟩ := List.eq_append_cons_of_mem h
    refine .inr ⟨⟨p.toArray⟩, ⟨r.toArray⟩, hp, ?_, ?_, ?_⟩
    · refine TL.ext_tl ?_
      rw [TL.tl_append, TL.tl_append, ey, e]
      simp [TL.tl]
    · have ex : x = (⟨p.toArray⟩ : Str) ++ SL ++ ⟨r.toArray⟩ := TL.ext_tl (by rw [TL.tl_append, TL.tl_append, ey, e]; simp [TL.tl])
      rw [ex]
      exact TL.partition_app ey hp
    · refine TL.map_tl_inj ?_
      rw [List.map_cons, split_tl one_sl, split_tl one_sl, ey, e]
      exact TL.spl_part1 (S := []) hp
  · refine .inl ⟨h, TL.map_tl_inj ?_, TL.partition_none ey h⟩
    rw [split_tl one_sl, ey]
    exact TL.spl_last1 h
theorem whole_free {x : Str} {n : Nat} (h : wholeS x = some n) : 47 ∉ TL.tl x := fun m => by
  unfold wholeS at h
  split at h
  · next hc =>
    have q := dig_mem (of_decide_eq_true (List.all_eq_true.mp hc.2.1 47 m))
    omega
  · cases h
def numLaw (x : Str) : Option Num := match (Txt.split x SL).map wholeS with
  | [some t] => some (.w t)
  | [some t, some b] => if Num.ok (.q t b) = true then some (.q t b) else none
  | _ => none
theorem numLaw_eq (x : Str) : numLaw x = numRead x := by
  rcases cut_or x with ⟨_, es, ep⟩ | ⟨p, r, hp, _, ep, es⟩
  · unfold numLaw numRead
    rw [es, ep]
    cases h : wholeS x with
    | none => rw [List.map_cons, List.map_nil, h]
    | some t =>
      rw [List.map_cons, List.map_nil, h]
      show _ = if (Str.empty).length = 0 then _ else _
      rw [if_pos (by rfl)]
  · unfold numLaw numRead
    rw [es, ep]
    have nl : ¬ (SL.length = 0) := by decide +kernel
    cases h : wholeS p with
    | none =>
      rw [List.map_cons, h]
    | some t =>
      rw [List.map_cons, h]
      show _ = if SL.length = 0 then _ else _
      rw [if_neg nl]
      rcases cut_or r with ⟨_, er, _⟩ | ⟨p2, r2, _, e2, _, er⟩
      · rw [er, List.map_cons, List.map_nil]
        cases h2 : wholeS r with
        | none => rfl
        | some b => rfl
      · obtain ⟨a, l, el⟩ := split_cons r2 SL
        rw [er, el, List.map_cons, List.map_cons]
        have hn : wholeS r = none := by
          cases q : wholeS r with
          | none => rfl
          | some b =>
            refine absurd ?_ (whole_free q)
            rw [e2, TL.tl_append, TL.tl_append]
            have ey : TL.tl SL = [47] := by decide +kernel
            rw [ey]
            simp
        rw [hn]
        cases wholeS p2 <;> rfl
section
variable {P : Program} {w : World} {K : PySem.W.Frag} {mg : Str → Option Value} {base : Heap}
theorem sc_an_digits : FnScope ["word", "sign"] ["word"] (defScope sL_an_digits) := ⟨rfl, rfl, rfl, by decide +kernel, rfl, by decide +kernel, by decide +kernel⟩
theorem ok_an_digits (D : Dn K mg "_law_an_digits" sL_an_digits) (h_len : mg "len" = none) (h_int : mg "int" = none) : Ok P w K mg base L2.CX0 1 "_law_an_digits" ["word"] spReadWhole := by
  refine Ok.mk0 D sc_an_digits (fun vs H Q E h => ?_) (fun _ _ _ _ _ _ us hl => match us, hl with | [_], _ => rfl) (fun f cdv A outer s H vs Q E hr h => ?_)
  · obtain ⟨x, rfl, _⟩ := h
    rfl
  obtain ⟨x, rfl, hx, k⟩ := h
  have nd := sc_an_digits.nd
  have hu64 := hr.units
  refine ⟨_, (pss_cons (ps_if (PW.pt (pw_or (pt_cmpR op_eq (pv 0) pe_str (nomark _)) (pw_or (pt_cmpR op_gt (pe_callB call_len_str (by rfl) h_len (by decide +kernel) (pa_cons (pv 0) pa_nil)) pe_int (nomark _)) (pw_or1 (pt_cmpR (op_neD hu64) (pe_lc (own := [("sign", 1)]) (g := gName 1) rfl nd (pi_str (pv 0)) (blkOk_by (own := [("sign", 1)]) (N := ["word", "sign"]) (sc := defScope sL_an_digits) (by decide +kernel)) (fun _ _ _ _ _ => pg_name (i := 1) nd rfl (Or.inl rfl)) (fun _ _ _ _ _ => pts_one (pt_cmpR op_notIn_sign (pv 1) pe_str (by rfl))) (fun _ _ _ _ _ => pe_int)) (pe_lst pa_nil) (nomark _))))))
      (pss_one (ps_ret pe_non))
      pss_nil)
    (pss_one (ps_ret (pe_ifExp (PW.pt (pw_and (pt_cmpR op_gt (pe_callB call_len_str (by rfl) h_len (by decide +kernel) (pa_cons (pv 0) pa_nil)) pe_int (nomark _)) (pw_and1 (pt_cmpR op_eq (pe_ix ix_str (pv 0) pe_int (fun _ _ => rfl)) pe_str (nomark _))))) pe_non (pe_callTy call_int_str (by rfl) h_int (by decide +kernel) (pa_cons (pv 0) pa_nil)))))), ?_⟩
  have hcs : x.cps.toList.length = x.length := by simp [Str.length]
  have hsz : x.length ≤ sizeLine := by rw [sizeLine_eq]; omega
  have no : ∀ H', Same H H' → wholeS x = none → Q .non H' := fun H' s e => by
    have z := k H' s
    rw [e] at z
    exact z
  refine ⟨_, rfl, rfl, _, rfl, ?_⟩
  rw [deq_str]
  by_cases h1 : x = ""
  · rw [decide_eq_true h1]
    refine iteT (no H (Same.refl H) ?_)
    rw [h1]
    decide +kernel
  · rw [decide_eq_false h1]
    have l1 : 1 ≤ x.length := by
      rcases Nat.eq_zero_or_pos x.length with q | q
      · exact absurd (TL.ext_tl (by rw [(TL.len0_tl x).mp q]; rfl)) h1
      · exact q
    refine iteF ⟨_, rfl, x, rfl, hsz, _, _, rfl, rfl, _, rfl, ?_⟩
    by_cases h30 : (x.length : Int) ≤ 30
    · rw [decide_eq_false (by omega)]
      refine iteF ⟨_, rfl, x, rfl, fun Z hZ => ?_⟩
      have n30 : x.cps.size ≤ 30 := by have := hcs; simp at this; omega
      have lx : x.cps.toList.length = x.cps.size := by simp
      refine lc_ones (n := x.cps.size) (J := Its x) (fun i => match x.cps.toList[i]? with | some c => !decide (c ∈ DIG.cps.toList) | none => false) hZ (by rw [sizeLine_eq]; omega) (fun i H hi _ => hi) (fun H _ => Nat.le_refl _) ?_ ?_
      · rintro i y H1 H' F hi s1 ⟨rfl, c, hc, rfl⟩ kk
        have hc2 : x.cps.toList[i]? = some c := by rw [Array.getElem?_toList]; exact hc
        have z := kk _ (Same.refl _)
        rw [hc2] at z
        exact ⟨rfl, _, rfl, c, DIG, rfl, rfl, _, rfl, z⟩
      · intro n H1 s1 e hn hz
        have ee : (x.cps.toList.all fun c => decide (c ∈ DIG.cps.toList)) = decide (n = 0) := by
          rw [Bool.eq_iff_iff, decide_eq_true_eq, hz, List.all_eq_true]
          constructor
          · intro h i hi
            rw [List.getElem?_eq_getElem (by omega)]
            show (!decide _) = false
            rw [h _ (List.getElem_mem _)]
            rfl
          · intro h c hm
            obtain ⟨i, hi⟩ := List.getElem?_of_mem hm
            have q := h i (by have := (List.getElem?_eq_some_iff.mp hi).1; omega)
            rw [hi] at q
            simpa using q
        refine ones_ne e fun H2 s2 => ⟨_, rfl, ?_⟩
        have s12 := s1.trans s2
        rw [← ee]
        cases hall : x.cps.toList.all fun c => decide (c ∈ DIG.cps.toList) with
        | false =>
          refine iteT (no _ s12 ?_)
          unfold wholeS
          rw [if_neg (fun h => by rw [hall] at h; exact absurd h.2.1 (by decide))]
        | true =>
          refine iteF ?_
          have fin : ¬ (1 < x.length ∧ x.cps.toList[0]? = some 48) → ∃ a n, [V.str x] = [.str a] ∧ PySem.intText? a = some n ∧ a.length ≤ 640 ∧ Q (.int n) H2 := fun h => by
            refine ⟨x, _, rfl, int_digits (by omega) (by omega) hall, by omega, ?_⟩
            have z := k H2 s12
            unfold wholeS at z
            rw [if_pos ⟨⟨by omega, by omega⟩, hall, h⟩] at z
            exact z
          refine ⟨_, rfl, x, rfl, hsz, _, _, rfl, rfl, _, rfl, ?_⟩
          obtain ⟨c, r, hcr⟩ : ∃ c r, x.cps.toList = c :: r := by
            cases e : x.cps.toList with
            | nil => rw [e] at hcs; simp at hcs; omega
            | cons c r => exact ⟨c, r, rfl⟩
          by_cases hl1 : (1 : Int) < x.length
          · rw [decide_eq_true hl1]
            refine iteT ⟨_, rfl, x, 0, c, rfl, rfl, hsz, ?_, rfl, _, rfl, ?_⟩
            · exact atI_nat (xs := x.cps.toList) (j := 0) (v := c) (by rw [hcr]; rfl)
            rw [deq_str]
            by_cases h0 : c = 48
            · subst h0
              rw [decide_eq_true (show (⟨#[48]⟩ : Str) = Str.ofString "0" by decide +kernel)]
              refine iteT (no _ s12 ?_)
              unfold wholeS
              rw [if_neg (fun h => h.2.2 ⟨by omega, by rw [hcr]; rfl⟩)]
            · rw [decide_eq_false (fun q => h0 (by have e := congrArg (fun z : Str => z.cps.toList) q; rw [show (Str.ofString "0").cps.toList = [48] by decide +kernel] at e; simpa using e))]
              exact iteF ⟨_, rfl, fin fun h => h0 (by have := h.2; rw [hcr] at this; simpa using this)⟩
          · rw [decide_eq_false hl1]
            exact iteF ⟨_, rfl, fin fun h => hl1 (by omega)⟩
    · rw [decide_eq_true (by omega)]
      refine iteT (no H (Same.refl H) ?_)
      unfold wholeS
      rw [if_neg (fun h => by omega)]
end
end K12
set_option maxHeartbeats 1000000
namespace K12
open PySem PySem.Spec PyProof.Rows L2 Hx RZ
section
variable {P : Program} {w : World} {K : PySem.W.Frag} {mg : Str → Option Value} {base : Heap}
theorem inV_opts : ∀ os : List (Option Nat), inV .non (os.map optI) = decide (none ∈ os)
  | [] => by simp [inV]
  | o :: os => by
    have ih := inV_opts os
    have e : inV .non ((o :: os).map optI) = (eqV (optI o) .non || inV .non (os.map optI)) := rfl
    rw [e, ih]
    cases o with
    | none => simp [optI, eqV]
    | some n => simp [optI, eqV]
theorem flat_opts (os : List (Option Nat)) : (os.map optI).all flatV = true := by
  rw [List.all_eq_true]
  intro v hv
  obtain ⟨o, _, rfl⟩ := List.mem_map.mp hv
  cases o <;> rfl
theorem opts_are {acc : List V} {os : List (Option Nat)} (hl : acc.length = os.length) (h : ∀ (i : Nat) (y : V), acc[i]? = some y → os[i]?.map optI = some y) : acc = os.map optI := by
  refine List.ext_getElem? fun i => ?_
  rw [List.getElem?_map]
  by_cases hi : i < acc.length
  · rw [List.getElem?_eq_getElem hi, h i _ (List.getElem?_eq_getElem hi)]
  · rw [List.getElem?_eq_none (by omega), List.getElem?_eq_none (by omega)]
    rfl
theorem law_none {os : List (Option Nat)} {x : Str} (e : (Txt.split x SL).map wholeS = os) (h : none ∈ os ∨ 2 < os.length) : numLaw x = none := by
  unfold numLaw
  rw [e]
  split
  · simp at h
  · simp at h
  · rfl
theorem sc_an_read_number : FnScope ["word", "some", "one", "found"] ["word"] (defScope sL_an_read_number) := ⟨rfl, rfl, rfl, by decide +kernel, rfl, by decide +kernel, by decide +kernel⟩
theorem ok_an_read_number (D : Dn K mg "_law_an_read_number" sL_an_read_number) (B0 : Ok P w K mg base L2.CX0 1 "_law_an_digits" ["word"] spReadWhole) (B1 : Ok P w K mg base L2.CX0 2 "_law_ct_is_number" ["item"] (spIsNum K)) (h_len : mg "len" = none) : Ok P w K mg base L2.CX0 3 "_law_an_read_number" ["word"] (spReadNum K numRead) := by
  obtain ⟨_, _, g_an_digits, k_an_digits, b_an_digits, F_an_digits⟩ := B0.ex
  obtain ⟨_, _, g_ct_is_number, k_ct_is_number, b_ct_is_number, F_ct_is_number⟩ := B1.ex
  refine Ok.mk0 D sc_an_read_number (fun vs H Q E h => ?_) (fun _ _ _ _ _ _ us hl => match us, hl with | [_], _ => rfl) (fun f cdv A outer s H vs Q E hr h => ?_)
  · obtain ⟨x, rfl, _⟩ := h
    rfl
  obtain ⟨x, rfl, hx, k⟩ := h
  have nd := sc_an_read_number.nd
  have hr1 := hr.mono (show 1 ≤ 2 by decide)
  refine ⟨_, (pss_cons (ps_setLc (i := 1) (own := [("one", 2)]) (g := gName 2) (tt := tYes) rfl nd rfl rfl (sw_true rfl rfl rfl (by decide +kernel)) (pi_list (pe_split (pv 0) pe_str)) (blkOk_by (own := [("one", 2)]) (N := ["word", "some", "one", "found"]) (sc := defScope sL_an_read_number) (by decide +kernel)) (fun _ _ _ _ _ => pg_name (i := 2) nd rfl (Or.inl rfl)) (fun _ _ _ _ _ => pts_nil) (fun _ _ _ _ _ => (pe_call F_an_digits hr1 rfl g_an_digits k_an_digits b_an_digits .nil pass0 (pa_cons (pv 2) pa_nil))))
    (pss_cons (ps_if (PW.pt (pw_or (pt_cmpR op_in_seq pe_non (pv 1) (by rfl)) (pw_or1 (pt_cmpR op_gt (pe_lenS rfl h_len (pv 1)) pe_int (nomark _)))))
      (pss_one (ps_ret pe_non))
      pss_nil)
    (pss_cons (ps_set (i := 3) nd rfl (Or.inl rfl) (pe_ifExp (pt_cmpR op_eq (pe_lenS rfl h_len (pv 1)) pe_int (nomark _)) (pe_ix ix_list (pv 1) pe_int (fun _ _ => rfl)) (pe_tup (pa_cons (pe_ix ix_list (pv 1) pe_int (fun _ _ => rfl)) (pa_cons (pe_ix ix_list (pv 1) pe_int (fun _ _ => rfl)) pa_nil)))))
    (pss_one (ps_ret (pe_ifExp (pt_val (pe_call F_ct_is_number hr rfl g_ct_is_number k_ct_is_number b_ct_is_number .nil pass0 (pa_cons (pv 3) pa_nil))) (pv 3) pe_non)))))), ?_⟩
  have wl := split_len (x := x) one_sl
  have wc := PyProof.Rows.split_le x SL
  obtain ⟨w0, ws, ew⟩ := split_cons x SL
  refine ⟨_, rfl, ⟨_, rfl⟩, x, SL, rfl, rfl, by decide +kernel, (by rw [sizeLine_eq]; omega), fun l hl => ?_⟩
  have s1 := same_upd (o := .lst ((Txt.split x SL).map V.str)) hl
  have hls := SqL.of (K := K) (upd_same (H := H) (a := l) (o := .lst ((Txt.split x SL).map V.str)))
  generalize upd H l (.lst ((Txt.split x SL).map V.str)) = H1 at s1 hls ⊢
  generalize hps : Txt.split x SL = ps at wl wc ew hls
  refine ⟨l, rfl, ⟨_, hls⟩, fun Z hZ => ?_⟩
  refine lc_lst1 hls (by rw [List.length_map, sizeLine_eq]; omega) (fun i y _ => (ps.map wholeS)[i]?.map optI = some y) (fun _ _ _ _ _ h => h) hZ ?_ ?_
  · intro i v H2 F hv s2 kk
    obtain ⟨z, hz, rfl⟩ := strs_at hv
    refine ⟨rfl, .str z, rfl, z, rfl, by have := wl z (List.mem_of_getElem? hz); omega, fun H4 s4 => kk _ _ ?_ s4⟩
    rw [List.getElem?_map, hz]
    rfl
  · intro acc H2 s2 e hl2 hy2
    have eb : acc = (ps.map wholeS).map optI := opts_are (by rw [hl2, List.length_map, List.length_map]) hy2
    subst eb
    have s12 := s1.trans s2
    generalize hos : ps.map wholeS = os at e
    have hos2 : (Txt.split x SL).map wholeS = os := by rw [hps, hos]
    have out : ∀ v H', Same H2 H' → OptNum K H' v (numLaw x) → Q v H' := fun v H' s h => k v H' (s12.trans s) (by rw [← numLaw_eq]; exact h)
    refine ⟨_, rfl, Z, _, rfl, .inl (SqL.of e), rfl, flat_opts os, _, congrArg V.bl (inV_opts os), ?_⟩
    have ne : os ≠ [] := by rw [← hos, ew]; simp
    by_cases hn : none ∈ os
    · rw [decide_eq_true hn]
      exact iteT (out _ _ (Same.refl _) (by rw [law_none hos2 (.inl hn)]; rfl))
    · rw [decide_eq_false hn]
      refine iteF ⟨_, rfl, Z, _, rfl, .inl (SqL.of e), _, _, rfl, rfl, _, rfl, ?_⟩
      rw [List.length_map]
      by_cases h2 : 2 < os.length
      · rw [decide_eq_true (by omega)]
        exact iteT (out _ _ (Same.refl _) (by rw [law_none hos2 (.inr h2)]; rfl))
      · rw [decide_eq_false (by omega)]
        refine iteF ?_
        match os, ne, hn, h2, e, hos2 with
        | [some t], _, _, _, e, hos2 =>
          have eL : numLaw x = some (.w t) := by unfold numLaw; rw [hos2]
          refine ⟨_, rfl, Z, _, rfl, .inl (SqL.of e), rfl, true, rfl, iteT ⟨_, rfl, Z, _, 0, _, rfl, rfl, SqL.of e, rfl, ?_⟩⟩
          refine ⟨_, rfl, .int t, .w t, rfl, rfl, fun H4 s4 => ⟨true, rfl, iteT ⟨_, rfl, out _ _ s4 (by rw [eL]; rfl)⟩⟩⟩
        | [some t, some b], _, _, _, e, hos2 =>
          have eL : numLaw x = if Num.ok (.q t b) = true then some (.q t b) else none := by unfold numLaw; rw [hos2]
          refine ⟨_, rfl, Z, _, rfl, .inl (SqL.of e), rfl, false, rfl, iteF ⟨_, rfl, Z, _, 0, _, rfl, rfl, SqL.of e, rfl, _, rfl, Z, _, 1, _, rfl, rfl, SqL.of e, rfl, (by show 2 ≤ sizeLine; rw [sizeLine_eq]; decide), fun p hp => ?_⟩⟩
          have s3 := same_upd (o := .tup [.int t, .int b]) hp
          have na : NumAt K (upd H2 p (.tup [.int t, .int b])) (.ref p) (.q t b) := ⟨p, rfl, SqT.of upd_same⟩
          refine ⟨_, rfl, .ref p, .q t b, rfl, na, fun H4 s4 => ⟨_, rfl, ?_⟩⟩
          cases ho : Num.ok (.q t b) with
          | true =>
            rw [ho, if_pos rfl] at eL
            exact iteT ⟨_, rfl, out _ _ (s3.trans s4) (by rw [eL]; exact na.keep (.of s4))⟩
          | false =>
            rw [ho, if_neg (by decide)] at eL
            exact iteF (out _ _ (s3.trans s4) (by rw [eL]; rfl))
        | none :: _, _, hn, _, _, _ => exact absurd List.mem_cons_self hn
        | [some _, none], _, hn, _, _, _ => exact absurd (by simp) hn
        | _ :: _ :: _ :: _, _, _, h2, _, _ => exact absurd (by simp) h2
end
end K12
set_option maxHeartbeats 1000000
namespace K12
open PySem PySem.Spec PyProof.Rows L2 Hx RZ
/-! ### the law reads parts -/
theorem cut_to {xs : List V} : cutV xs none (some (-1)) = xs.take (xs.length - 1) := by
  have e : HT.sIx xs.length xs.length (some (-1)) = xs.length - 1 := by
    show (if (-1 : Int) < 0 then ((-1 : Int) + (xs.length : Int)).toNat else min (-1 : Int).toNat xs.length) = _
    rw [if_pos (by decide)]
    omega
  unfold cutV
  rw [e]
  show (xs.drop 0).take (xs.length - 1 - 0) = _
  rw [List.drop_zero, Nat.sub_zero]
def rawOf (kw : Str) (pl : List Str) (n : Num) : Raw := if kw = HUB then .hub pl n else .flat (kw :: pl) n
theorem part_eq {kw : Str} {pl : List Str} {n : Num} (hn : n.ok0 = true) : partOf kw pl n = if 2 ≤ pl.length ∧ (rawOf kw pl n).ok = true then some (rawOf kw pl n) else none := by
  unfold partOf rawOf
  by_cases h : kw = HUB
  · rw [if_pos h, if_pos h]
    have e : Raw.ok (.hub pl n) = (namesS pl && decide (2 ≤ pl.length)) := by
      show (namesS pl && decide (2 ≤ pl.length) && n.ok0) = _
      rw [hn, Bool.and_true]
    rw [e]
    by_cases h2 : 2 ≤ pl.length
    · by_cases h3 : namesS pl = true
      · rw [if_pos ⟨h3, h2⟩, if_pos ⟨h2, by rw [h3, decide_eq_true h2]; rfl⟩]
      · rw [if_neg (fun q => h3 q.1), if_neg (fun q => h3 (by rw [decide_eq_true h2, Bool.and_true] at q; exact q.2))]
    · rw [if_neg (fun q => h2 q.2), if_neg (fun q => h2 q.1)]
  · rw [if_neg h, if_neg h]
    split
    · next x y =>
      rw [flat_ok, hn, Bool.and_true]
      by_cases hc : (nameS x = true ∧ nameS y = true) ∧ ((kw = PIPE ∧ x.cps.toList < y.cps.toList) ∨ (kw = LEAD ∧ x ≠ y))
      · rw [if_pos hc, if_pos ⟨by simp, by rw [hc.1.1, hc.1.2]; rcases hc.2 with q | q <;> simp [q.1, q.2]⟩]
      · rw [if_neg hc, if_neg (fun q => hc ?_)]
        have q2 := q.2
        simp only [Bool.and_eq_true, Bool.or_eq_true, decide_eq_true_eq] at q2
        exact q2
    · next hne =>
      rw [if_neg (fun q => by rw [flat_bad fun x y e => hne x y e] at q; exact absurd q.2 (by decide))]
section
variable {P : Program} {w : World} {K : PySem.W.Frag} {mg : Str → Option Value} {base : Heap}
theorem sc_an_read_part : FnScope ["line", "words_here", "last", "found"] ["line"] (defScope sL_an_read_part) := ⟨rfl, rfl, rfl, by decide +kernel, rfl, by decide +kernel, by decide +kernel⟩
def spLawPart (K : PySem.W.Frag) : Sp := fun vs H Q _ => ∃ x : Str, vs = [.str x] ∧ x.length ≤ 3900 ∧ ∀ v H', Same H H' → OptRaw K H' v (readPart x) → Q v H'
theorem ok_an_read_part (D : Dn K mg "_law_an_read_part" sL_an_read_part) (B0 : Ok P w K mg base L2.CX0 3 "_law_an_read_number" ["word"] (spReadNum K numRead)) (B1 : Ok P w K mg base L2.CX0 4 "_law_an_is_part" ["thing"] (spIsPart K)) (h_len : mg "len" = none) (h_tuple : mg "tuple" = none) : Ok P w K mg base L2.CX0 5 "_law_an_read_part" ["line"] (spLawPart K) := by
  obtain ⟨_, _, g_an_read_number, k_an_read_number, b_an_read_number, F_an_read_number⟩ := B0.ex
  obtain ⟨_, _, g_an_is_part, k_an_is_part, b_an_is_part, F_an_is_part⟩ := B1.ex
  refine Ok.mk0 D sc_an_read_part (fun vs H Q E h => ?_) (fun _ _ _ _ _ _ us hl => match us, hl with | [_], _ => rfl) (fun f cdv A outer s H vs Q E hr h => ?_)
  · obtain ⟨x, rfl, _⟩ := h
    rfl
  obtain ⟨x, rfl, hx, k⟩ := h
  have nd := sc_an_read_part.nd
  have hr3 := hr.mono (show 3 ≤ 4 by decide)
  refine ⟨_, (pss_cons (ps_set (i := 1) nd rfl (Or.inl rfl) (pe_split (pv 0) pe_str))
    (pss_cons (ps_set (i := 2) nd rfl (Or.inl rfl) (pe_call F_an_read_number hr3 rfl g_an_read_number k_an_read_number b_an_read_number .nil pass0 (pa_cons (pe_ix ix_list (pv 1) (pe_un un_neg pe_int) (fun _ _ => rfl)) pa_nil)))
    (pss_cons (ps_if (PW.pt (pw_or (pt_cmpR op_isN (pv 2) pe_non (nomark _)) (pw_or1 (pt_cmpR op_lt (pe_lenS rfl h_len (pv 1)) pe_int (nomark _)))))
      (pss_one (ps_ret pe_non))
      pss_nil)
    (pss_cons (ps_if (pt_cmpR op_eq (pe_ix ix_list (pv 1) pe_int (fun _ _ => rfl)) pe_str (nomark _))
      (pss_one (ps_set (i := 3) nd rfl (Or.inl rfl) (pe_tup (pa_cons pe_str (pa_cons (pe_callTy call_tuple_of (by rfl) h_tuple (by decide +kernel) (pa_cons (pe_slice sl_list (pv 1) (po_some pe_int) (po_some (pe_un un_neg pe_int))) pa_nil)) (pa_cons (pv 2) pa_nil))))))
      (pss_one (ps_set (i := 3) nd rfl (Or.inl rfl) (pe_op op_catA (pe_callTy call_tuple_of (by rfl) h_tuple (by decide +kernel) (pa_cons (pe_slice sl_list (pv 1) po_none (po_some (pe_un un_neg pe_int))) pa_nil)) (pe_tup (pa_cons (pv 2) pa_nil))))))
    (pss_one (ps_ret (pe_ifExp (pt_val (pe_call F_an_is_part hr rfl g_an_is_part k_an_is_part b_an_is_part .nil pass0 (pa_cons (pv 3) pa_nil))) (pv 3) pe_non))))))), ?_⟩
  obtain ⟨w0, ws, ew⟩ := split_cons x SPC
  refine ⟨_, rfl, ⟨_, rfl⟩, x, SPC, rfl, rfl, by decide +kernel, (by rw [sizeLine_eq]; omega), fun p hp => ?_⟩
  have s1 := same_upd (o := .lst ((Txt.split x SPC).map V.str)) hp
  have ewl := SqL.of (K := K) (upd_same (H := H) (a := p) (o := .lst ((Txt.split x SPC).map V.str)))
  have wl := split_len (x := x) one_spc
  have wc := PyProof.Rows.split_le x SPC
  rw [ew] at s1 ewl wl wc ⊢
  generalize upd H p (.lst ((w0 :: ws).map V.str)) = H1 at s1 ewl ⊢
  have hlast : ((w0 :: ws).getLast (List.cons_ne_nil _ _)).length ≤ 100000 := by
    have := wl _ (List.getLast_mem (l := w0 :: ws) (List.cons_ne_nil _ _))
    omega
  have erd : readPart x = match numRead ((w0 :: ws).getLast (List.cons_ne_nil _ _)) with | none => none | some n => partOf w0 (((w0 :: ws).take ws.length).drop 1) n := by
    unfold readPart
    rw [show wordsOf x = w0 :: ws from ew] <;> rfl
  refine ⟨_, rfl, _, rfl, p, _, -1, .str ((w0 :: ws).getLast (List.cons_ne_nil _ _)), rfl, rfl, ewl, ?_, _, rfl, hlast, fun v H2 s2 hv => ?_⟩
  · rw [at_last (by simp), List.getLast_map]
  have s12 := s1.trans s2
  generalize hN : numRead ((w0 :: ws).getLast (List.cons_ne_nil _ _)) = oN at hv erd
  have out : ∀ u H', Same H2 H' → OptRaw K H' u (readPart x) → Q u H' := fun u H' s => k u H' (s12.trans s)
  refine ⟨_, rfl, rfl, _, rfl, ?_⟩
  cases oN with
  | none =>
    obtain rfl : v = .non := hv
    exact iteT (out _ _ (Same.refl _) (by rw [erd]; rfl))
  | some n =>
    have nv : NumAt K H2 v n := hv
    have n0 := numRead_ok hN
    rw [decide_eq_false (num_not nv)]
    have ewl2 := same_seqL s2 ewl
    have epl : ((w0 :: ws).take ws.length).drop 1 = ws.take (ws.length - 1) := by
      cases ws with
      | nil => rfl
      | cons y ys => rfl
    have erd2 : readPart x = partOf w0 (ws.take (ws.length - 1)) n := by rw [← epl]; exact erd
    rw [part_eq n0] at erd2
    refine iteF ⟨_, rfl, p, _, rfl, .inl ewl2, _, _, rfl, rfl, _, rfl, ?_⟩
    by_cases h4 : 3 ≤ ws.length
    · rw [decide_eq_false (by simp; omega)]
      have lpl : (ws.take (ws.length - 1)).length = ws.length - 1 := by rw [List.length_take]; omega
      have mpl : ∀ z ∈ ws.take (ws.length - 1), z.length ≤ 100000 := fun z hz => by
        have := wl z (List.mem_cons_of_mem _ (List.mem_of_mem_take hz))
        omega
      generalize hpl : ws.take (ws.length - 1) = pl at erd2 lpl mpl epl
      have l2 : 2 ≤ pl.length := by omega
      have fit : RawFit (rawOf w0 pl n) := by
        unfold rawOf
        split
        · exact ⟨by simp at wc; omega, mpl⟩
        · next h => exact ⟨h, by simp at wc; omega, mpl⟩
      have fin : ∀ u H3 H4, Same H2 H3 → Same H3 H4 → RawAt K H3 u (rawOf w0 pl n) → ((rawOf w0 pl n).ok = true → Q u H4) ∧ ((rawOf w0 pl n).ok = false → Q .non H4) := fun u H3 H4 s3 s4 hr3 => by
        refine ⟨fun ho => out _ _ (s3.trans s4) ?_, fun ho => out _ _ (s3.trans s4) ?_⟩
        · rw [erd2, if_pos ⟨l2, ho⟩]
          exact hr3.keep (.of s4)
        · rw [erd2, if_neg (fun q => by rw [ho] at q; exact absurd q.2 (by decide))]
          rfl
      refine iteF ⟨_, rfl, p, _, 0, .str w0, rfl, rfl, ewl2, atI_nat (j := 0) rfl, rfl, _, rfl, ?_⟩
      rw [deq_str]
      by_cases hh : w0 = HUB
      · rw [decide_eq_true hh]
        have er : rawOf w0 pl n = .hub pl n := by unfold rawOf; rw [if_pos hh]
        have hcut : cutV ((w0 :: ws).map V.str) (some ((1 : Nat) : Int)) (some (-1)) = pl.map V.str := by
          rw [cut_less1, List.length_map, ← List.map_take, ← List.map_drop]
          exact congrArg (List.map V.str) (epl.trans rfl)
        refine iteT ⟨_, rfl, ?_⟩
        show tPart _ _ _ _
        refine ⟨_, rfl, _, rfl, _, rfl, ?_⟩
        refine rSlL_any ewl2 hcut fun q hq => ?_
        have s3 := same_upd (o := .lst (pl.map V.str)) hq
        refine ⟨q, _, rfl, .inl ⟨SqL.of upd_same, fun t ht => ?_⟩⟩
        have s4 := s3.trans (same_upd (o := .tup (pl.map V.str)) ht)
        refine ⟨_, rfl, (by show 3 ≤ sizeLine; rw [sizeLine_eq]; decide), fun u hu => ?_⟩
        have s5 := same_upd (o := .tup [.str HUB, .ref t, v]) hu
        have hraw : RawAt K (upd (upd (upd H2 q (.lst (pl.map V.str))) t (.tup (pl.map V.str))) u (.tup [.str HUB, .ref t, v])) (.ref u) (rawOf w0 pl n) := by
          rw [er]
          exact ⟨u, t, v, rfl, SqT.of upd_same, same_seqT s5 (SqT.of upd_same), nv.keep (.of (s4.trans s5))⟩
        refine ⟨_, rfl, .ref u, rawOf w0 pl n, rfl, hraw, fit, fun H4 s6 => ⟨_, rfl, ?_⟩⟩
        obtain ⟨f1, f2⟩ := fin _ _ H4 (s4.trans s5) s6 hraw
        cases ho : Raw.ok (rawOf w0 pl n) with
        | true => exact iteT ⟨_, rfl, f1 ho⟩
        | false => exact iteF (f2 ho)
      · rw [decide_eq_false hh]
        have er : rawOf w0 pl n = .flat (w0 :: pl) n := by unfold rawOf; rw [if_neg hh]
        have hcut : cutV ((w0 :: ws).map V.str) none (some (-1)) = (w0 :: pl).map V.str := by
          rw [cut_to, List.length_map, ← List.map_take]
          refine congrArg (List.map V.str) ?_
          rw [← hpl]
          cases ws with
          | nil => simp at h4
          | cons y ys => rfl
        refine iteF ⟨_, rfl, ?_⟩
        show tNoPart _ _ _
        unfold tNoPart
        refine ⟨_, rfl, _, rfl, ?_⟩
        refine rSlL_any ewl2 hcut fun q hq => ?_
        have s3 := same_upd (o := .lst ((w0 :: pl).map V.str)) hq
        refine ⟨q, _, rfl, .inl ⟨SqL.of upd_same, fun t ht => ?_⟩⟩
        have s4 := s3.trans (same_upd (o := .tup ((w0 :: pl).map V.str)) ht)
        refine ⟨_, rfl, (by show 1 ≤ sizeLine; rw [sizeLine_eq]; decide), fun m hm => ?_⟩
        have s5 := same_upd (o := .tup [v]) hm
        refine ⟨t, m, _, [v], rfl, rfl, same_seqT s5 (SqT.of upd_same), SqT.of upd_same, by rw [sizeLine_eq]; simp at wc ⊢; omega, fun h => absurd h (by simp), fun _ h => absurd h (by simp), fun _ _ u hu => ?_⟩
        have s6 := same_upd (o := .tup ((w0 :: pl).map V.str ++ [v])) hu
        have hraw : RawAt K (upd (upd (upd (upd H2 q (.lst ((w0 :: pl).map V.str))) t (.tup ((w0 :: pl).map V.str))) m (.tup [v])) u (.tup ((w0 :: pl).map V.str ++ [v]))) (.ref u) (rawOf w0 pl n) := by
          rw [er]
          exact ⟨u, v, rfl, SqT.of upd_same, nv.keep (.of (s4.trans (s5.trans s6)))⟩
        refine ⟨_, rfl, .ref u, rawOf w0 pl n, rfl, hraw, fit, fun H4 s7 => ⟨_, rfl, ?_⟩⟩
        obtain ⟨f1, f2⟩ := fin _ _ H4 (s4.trans (s5.trans s6)) s7 hraw
        cases ho : Raw.ok (rawOf w0 pl n) with
        | true => exact iteT ⟨_, rfl, f1 ho⟩
        | false => exact iteF (f2 ho)
    · rw [decide_eq_true (by simp; omega)]
      refine iteT (out _ _ (Same.refl _) ?_)
      rw [erd2, if_neg (fun q => by have := q.1; rw [List.length_take] at this; omega)]
      rfl
end
end K12
set_option maxHeartbeats 1000000
namespace K12
open PySem PySem.Spec PyProof.Rows L2 Hx RZ
/-! ### the law reads a net -/
theorem right_ok {r : Raw} (h : Right r) : r.ok = true := by
  cases h with
  | two k x y n hx hy hk hn =>
    rw [flat_ok, hx, hy, hn]
    rcases hk with q | q <;> simp [q.1, q.2]
  | hub ns n h1 h2 hn =>
    show (namesS ns && decide (2 ≤ ns.length) && n.ok0) = true
    rw [h1, hn, decide_eq_true h2]
    rfl
theorem ends_in : ∀ {rs : List Raw} {r : Raw}, r ∈ rs → r.ends.length ≤ (rs.map fun r => r.ends.length).sum
  | q :: rs, r, h => by
    rw [List.map_cons, List.sum_cons]
    rcases List.mem_cons.mp h with e | e
    · rw [e]; omega
    · have := ends_in e
      omega
theorem cntU_le (l : List Str) : cntU l ≤ l.length := nodup_le (ded_nodup l) fun x hx => (ded_mem l x).mp hx
theorem net_nil {taps : List Str} : netS taps [] = tapsS taps := by
  unfold netS
  cases h : tapsS taps with
  | false => rfl
  | true =>
    have q := (taps_sum h).2
    have e : allEnds taps [] = taps := by unfold allEnds; simp
    rw [e, decide_eq_true (Nat.le_trans (cntU_le taps) (by omega))]
    rfl
theorem net_fits {taps : List Str} {rs : List Raw} (ht : tapsS taps = true) (hr : ∀ r ∈ rs, Right r) : netS taps rs = fitsS taps rs := by
  unfold netS fitsS
  rw [ht, show rs.all Raw.ok = true from List.all_eq_true.mpr fun r h => right_ok (hr r h)]
  simp
theorem right_fit {r : Raw} (h : Right r) (hl : r.ends.length ≤ 4000) : RawFit r := by
  cases h with
  | two k x y n hx hy hk hn =>
    refine ⟨?_, by simp, fun z hz => ?_⟩
    · rcases hk with q | q <;> rw [q.1]
      · exact pipe_hub
      · exact lead_hub
    · have e : z = x ∨ z = y := by simpa using hz
      rcases e with e | e <;> rw [e]
      · have := name_len hx; omega
      · have := name_len hy; omega
  | hub ns n h1 h2 hn =>
    refine ⟨hl, fun z hz => ?_⟩
    have q : nameS z = true := right_ends (.hub ns n h1 h2 hn) z hz
    have := name_len q
    omega
theorem rCatA_any {K : PySem.W.Frag} {H : Hp} {a b : Addr} {xs ys : List V} {Q : VK} (ha : SqT K H a xs) (hb : SqT K H b ys) (len : xs.length + ys.length ≤ sizeLine) (q : ∀ p H', Same H H' → SqT K H' p (xs ++ ys) → Q (.ref p) H') : rCatA K (.ref a) (.ref b) H Q :=
  ⟨a, b, xs, ys, rfl, rfl, ha, hb, len, fun e => q b H (Same.refl H) (by rw [e]; exact hb), fun _ e => q a H (Same.refl H) (by rw [e, List.append_nil]; exact ha), fun _ _ p hp => q p _ (same_upd hp) (SqT.of upd_same)⟩
section
variable {P : Program} {w : World} {K : PySem.W.Frag} {mg : Str → Option Value} {base : Heap}
def ReadAt (K : PySem.W.Frag) (H : Hp) (v : V) : Nat ⊕ (List Str × List Raw) → Prop
  | .inl n => v = .int n
  | .inr (taps, rs) => NetAt K H v taps rs
def spRead (K : PySem.W.Frag) : Sp := fun vs H Q _ => ∃ x : Str, vs = [.str x] ∧ x.length ≤ 3000 ∧ ∀ v H', Same H H' → ReadAt K H' v (readNet x) → Q v H'
theorem sc_an_read : FnScope ["told", "lines_here", "words_here", "taps_here", "parts_here", "spot", "part"] ["told"] (defScope sL_an_read) := ⟨rfl, rfl, rfl, by decide +kernel, rfl, by decide +kernel, by decide +kernel⟩
theorem ok_an_read (D : Dn K mg "_law_an_read" sL_an_read) (B0 : Ok P w K mg base L2.CX0 5 "_law_an_is_net" ["thing"] (spLawNet K)) (B1 : Ok P w K mg base L2.CX0 5 "_law_an_read_part" ["line"] (spLawPart K)) (h_len : mg "len" = none) (h_tuple : mg "tuple" = none) (h_range : mg "range" = none) : Ok P w K mg base L2.CX0 6 "_law_an_read" ["told"] (spRead K) := by
  obtain ⟨_, _, g_an_is_net, k_an_is_net, b_an_is_net, F_an_is_net⟩ := B0.ex
  obtain ⟨_, _, g_an_read_part, k_an_read_part, b_an_read_part, F_an_read_part⟩ := B1.ex
  refine Ok.mk0 D sc_an_read (fun vs H Q E h => ?_) (fun _ _ _ _ _ _ us hl => match us, hl with | [_], _ => rfl) (fun f cdv A outer s H vs Q E hr h => ?_)
  · obtain ⟨x, rfl, _⟩ := h
    rfl
  obtain ⟨x, rfl, hx, k⟩ := h
  have nd := sc_an_read.nd
  refine ⟨_, (pss_cons (ps_set (i := 1) nd rfl (Or.inl rfl) (pe_split (pv 0) pe_str))
    (pss_cons (ps_set (i := 2) nd rfl (Or.inl rfl) (pe_split (pe_ix ix_list (pv 1) pe_int (fun _ _ => rfl)) pe_str))
    (pss_cons (ps_set (i := 3) nd rfl (Or.inl rfl) (pe_callTy call_tuple_of (by rfl) h_tuple (by decide +kernel) (pa_cons (pe_slice sl_list (pv 2) (po_some pe_int) po_none) pa_nil)))
    (pss_cons (ps_if (PW.pt (pw_or (pt_cmpR op_ne (pe_ix ix_list (pv 2) pe_int (fun _ _ => rfl)) pe_str (nomark _)) (pw_or (pt_cmpR op_eq (pe_lenS rfl h_len (pv 1)) pe_int (nomark _)) (pw_or1 (pt_not (pt_val (pe_call F_an_is_net hr rfl g_an_is_net k_an_is_net b_an_is_net .nil pass0 (pa_cons (pe_tup (pa_cons (pv 3) (pa_cons (pe_tup pa_nil) pa_nil))) pa_nil))))))))
      (pss_one (ps_ret pe_int))
      pss_nil)
    (pss_cons (ps_set (i := 4) nd rfl (Or.inl rfl) (pe_tup pa_nil))
    (pss_cons (ps_for PassesOwn.never rfl (pi_range2 rfl h_range (pa_cons pe_int (pa_cons (pe_op op_sub (pe_lenS rfl h_len (pv 1)) pe_int) pa_nil))) (pg_name (i := 5) nd rfl (Or.inl rfl))
      (pss_cons (ps_set (i := 6) nd rfl (Or.inl rfl) (pe_call F_an_read_part hr rfl g_an_read_part k_an_read_part b_an_read_part .nil pass0 (pa_cons (pe_ix ix_list (pv 1) (pv 5) (fun _ _ => rfl)) pa_nil)))
      (pss_cons (ps_if (PW.pt (pw_or (pt_cmpR op_isN (pv 6) pe_non (nomark _)) (pw_or1 (pt_not (pt_val (pe_call F_an_is_net hr rfl g_an_is_net k_an_is_net b_an_is_net .nil pass0 (pa_cons (pe_tup (pa_cons (pv 3) (pa_cons (pe_op op_catA (pv 4) (pe_tup (pa_cons (pv 6) pa_nil))) pa_nil))) pa_nil)))))))
        (pss_one (ps_ret (pe_op op_add (pv 5) pe_int)))
        pss_nil)
      (pss_one (ps_set (i := 4) nd rfl (Or.inl rfl) (pe_op op_catA (pv 4) (pe_tup (pa_cons (pv 6) pa_nil))))))))
    (pss_one (ps_ret (pe_ifExp (pt_cmpR op_eq (pe_ix ix_list (pv 1) (pe_un un_neg pe_int) (fun _ _ => rfl)) pe_str (nomark _)) (pe_tup (pa_cons (pv 3) (pa_cons (pv 4) pa_nil))) (pe_lenS rfl h_len (pv 1))))))))))), ?_⟩
  obtain ⟨l0, ls, ew⟩ := split_cons x NL
  refine ⟨_, rfl, ⟨_, rfl⟩, x, NL, rfl, rfl, by decide +kernel, (by rw [sizeLine_eq]; omega), fun l hl => ?_⟩
  have s1 := same_upd (o := .lst ((Txt.split x NL).map V.str)) hl
  have hls := SqL.of (K := K) (upd_same (H := H) (a := l) (o := .lst ((Txt.split x NL).map V.str)))
  have wl := split_len (x := x) one_nl
  have wsum := split_sum (x := x) one_nl
  have wcnt := PyProof.Rows.split_le x NL
  rw [ew] at s1 hls wl wsum wcnt ⊢
  generalize upd H l (.lst ((l0 :: ls).map V.str)) = H1 at s1 hls ⊢
  have hl0 : l0.length ≤ 3000 := by have := wl l0 (by simp); omega
  refine ⟨_, rfl, l, _, 0, .str l0, rfl, rfl, hls, atI_nat (j := 0) rfl, ?_⟩
  obtain ⟨w0, wr, ewl⟩ := split_cons l0 SPC
  refine ⟨⟨_, rfl⟩, l0, SPC, rfl, rfl, by decide +kernel, (by rw [sizeLine_eq]; omega), fun m hm => ?_⟩
  have s2 := same_upd (o := .lst ((Txt.split l0 SPC).map V.str)) hm
  have hws := SqL.of (K := K) (upd_same (H := H1) (a := m) (o := .lst ((Txt.split l0 SPC).map V.str)))
  have wl0 := split_len (x := l0) one_spc
  have wc0 := PyProof.Rows.split_le l0 SPC
  rw [ewl] at s2 hws wl0 wc0 ⊢
  generalize upd H1 m (.lst ((w0 :: wr).map V.str)) = H2 at s2 hws ⊢
  refine ⟨_, rfl, _, rfl, ?_⟩
  show tNoPart _ _ _
  unfold tNoPart
  refine rSlL_any hws (cut_from 1) fun q hq => ?_
  have s3 := same_upd (o := .lst (((w0 :: wr).map V.str).drop 1)) hq
  refine ⟨q, _, rfl, .inl ⟨SqL.of upd_same, fun t ht0 => ?_⟩⟩
  have s4 := s3.trans (same_upd (o := .tup (((w0 :: wr).map V.str).drop 1)) ht0)
  have ht : SqT K (upd (upd H2 q (.lst (((w0 :: wr).map V.str).drop 1))) t (.tup (((w0 :: wr).map V.str).drop 1))) t (wr.map V.str) := SqT.of upd_same
  generalize upd (upd H2 q (.lst (((w0 :: wr).map V.str).drop 1))) t (.tup (((w0 :: wr).map V.str).drop 1)) = H4 at s4 ht ⊢
  have s14 := s1.trans (s2.trans s4)
  have hls4 := same_seqL (s2.trans s4) hls
  have out : ∀ v H', Same H4 H' → ReadAt K H' v (readNet x) → Q v H' := fun v H' s => k v H' (s14.trans s)
  have eT : readTaps l0 = if w0 = TAPS ∧ tapsS wr = true then some wr else none := by
    unfold readTaps
    rw [show wordsOf l0 = w0 :: wr from ewl]
    by_cases hc : w0 = TAPS ∧ tapsS wr = true
    · rw [if_pos hc, if_pos ⟨by rw [hc.1]; rfl, hc.2⟩]; rfl
    · rw [if_neg hc, if_neg (fun z => hc ⟨Option.some.inj z.1, z.2⟩)]
  have eN : readNet x = match readTaps l0 with
    | none => .inl 1
    | some taps => match readParts taps 1 [] (middle (l0 :: ls)) with
      | .inl n => .inl n
      | .inr rs => if (l0 :: ls).getLast (List.cons_ne_nil _ _) = "" then .inr (taps, rs) else .inl (ls.length + 1) := by
    unfold readNet
    rw [show linesOf x = l0 :: ls from ew] <;> rfl
  have one : readNet x = .inl 1 → ∀ H', Same H4 H' → Q (.int 1) H' := fun e H' s => out _ _ s (by rw [e]; rfl)
  have bad : ¬ (w0 = TAPS ∧ tapsS wr = true) → readNet x = .inl 1 := fun h => by rw [eN, eT, if_neg h]
  refine ⟨_, rfl, m, _, 0, .str w0, rfl, rfl, same_seqL s4 hws, atI_nat (j := 0) rfl, rfl, _, rfl, ?_⟩
  rw [deq_str]
  by_cases h0 : w0 = TAPS
  · rw [decide_eq_true h0]
    refine iteF ⟨_, rfl, l, _, rfl, .inl hls4, rfl, _, rfl, ?_⟩
    rw [deq_int]
    have ne0 : l0 ≠ "" := fun e => by
      rw [e] at ewl
      have q : Txt.split (Str.ofString "") SPC = [Str.ofString ""] := by decide +kernel
      rw [q] at ewl
      have := (List.cons.inj ewl).1
      rw [h0] at this
      exact absurd this (by decide +kernel)
    by_cases hone : ls = []
    · subst hone
      rw [decide_eq_true (by rfl)]
      refine iteT (one ?_ H4 (Same.refl _))
      rw [eN, eT]
      split
      · rfl
      · exact if_neg ne0
    · have lpos : 1 ≤ ls.length := by
        cases ls with
        | nil => exact absurd rfl hone
        | cons a b => simp
      rw [decide_eq_false (by simp; omega)]
      have sm : ∀ z ∈ wr, z.length ≤ 100000 := fun z hz => by have := wl0 z (List.mem_cons_of_mem _ hz); omega
      refine iteF ⟨_, rfl, by simp, fun e he => ⟨by show 2 ≤ sizeLine; rw [sizeLine_eq]; decide, fun nn hnn => ?_⟩⟩
      have s5 := (same_upd (o := .tup []) he).trans (same_upd (o := .tup [.ref t, .ref e]) hnn)
      refine ⟨.ref nn, wr, [], rfl, ⟨nn, t, e, [], rfl, SqT.of upd_same, same_seqT s5 ht, same_seqT (same_upd hnn) (SqT.of upd_same), .nil⟩, by simp at wc0; omega, sm, fun r hr9 => by simp at hr9, by simp, by unfold allEnds; simp; simp at wc0; omega, fun H5 s6 => ⟨_, rfl, ?_⟩⟩
      rw [net_nil]
      have s46 := s5.trans s6
      cases htp : tapsS wr with
      | false => exact iteT (one (bad fun z => by rw [htp] at z; exact absurd z.2 (by decide)) H5 s46)
      | true =>
        rw [if_pos ⟨h0, htp⟩] at eT
        have eN1 : readNet x = (match readParts wr 1 [] (middle (l0 :: ls)) with | .inl n => .inl n | .inr rs => if (l0 :: ls).getLast (List.cons_ne_nil _ _) = "" then .inr (wr, rs) else .inl (ls.length + 1)) := by rw [eN, eT]
        have t6 := (taps_sum htp).2
        refine iteF ⟨by simp, fun p hp => ?_⟩
        have s7 := same_upd (o := .tup []) hp
        generalize hmid : middle (l0 :: ls) = mids at eN1
        have lmid : mids.length = ls.length - 1 := by
          rw [← hmid]
          unfold middle
          rw [List.length_drop, List.length_take]
          simp
        have gmid : ∀ i, i < mids.length → (l0 :: ls)[i + 1]? = mids[i]? := fun i hi => by
          rw [← hmid]
          unfold middle
          rw [List.getElem?_drop, List.getElem?_take_of_lt (by simp; omega), Nat.add_comm]
        have summid : (mids.map (·.length)).sum ≤ 3000 := by
          rw [← hmid]
          unfold middle
          exact Nat.le_trans (sum_drop _ 1) (Nat.le_trans (sum_take _ _) (Nat.le_trans wsum hx))
        have hls6 := same_seqL (s46.trans s7) hls4
        have ht6 := same_seqT (s46.trans s7) ht
        have spp : SqT K (upd H5 p (.tup [])) p [] := SqT.of upd_same
        have s67 := s46.trans s7
        generalize upd H5 p (.tup []) = H6 at s67 hls6 ht6 spp ⊢
        refine ⟨_, rfl, l, _, rfl, .inl hls6, _, _, rfl, rfl, 1, _, rfl, ?_, ?_⟩
        · rw [List.length_map]
          simp at wcnt ⊢
          omega
        have en : (((((l0 :: ls).map V.str).length : Int) - 1) - 1).toNat = mids.length := by
          rw [List.length_map, lmid]
          simp
        rw [en]
        let Pv : Nat → L2.St → Hp → Prop := fun i σ H' => ∃ (o1 o2 : Option V) (pq : Addr) (us : List V) (done : List Raw), σ = [some (.str x), some (.ref l), some (.ref m), some (.ref t), some (.ref pq), o1, o2] ∧ Same H6 H' ∧ SqT K H' pq us ∧ RawsAt K H' us done ∧ (∀ r ∈ done, Right r) ∧ done.length = i ∧ i ≤ 200 ∧
          (done.map fun r => r.ends.length).sum ≤ ((mids.take i).map (·.length)).sum + 2 * i ∧ readParts wr 1 [] mids = readParts wr (1 + i) done (mids.drop i)
        refine for_range Pv ⟨_, _, p, [], [], rfl, Same.refl _, spp, .nil, fun r hr9 => by simp at hr9, rfl, Nat.zero_le _, by simp, rfl⟩ ?_ ?_
        · rintro i σ H' hi ⟨o1, o2, pq, us, done, rfl, s8, hpq, hus, rok, dl, d200, dsum, erp⟩
          obtain ⟨ln, hln⟩ : ∃ ln, mids[i]? = some ln := ⟨_, List.getElem?_eq_getElem hi⟩
          have mln : ln ∈ l0 :: ls := List.mem_of_getElem? (by rw [gmid i hi]; exact hln)
          have lln := wl ln mln
          have edrop : mids.drop i = ln :: mids.drop (i + 1) := by
            rw [List.drop_eq_getElem_cons hi]
            congr 1
            rw [List.getElem?_eq_getElem hi] at hln
            exact Option.some.inj hln
          rw [edrop] at erp
          refine ⟨_, rfl, _, rfl, l, _, ((i + 1 : Nat) : Int), .str ln, rfl, ?_, same_seqL s8 hls6, atI_nat (by rw [List.getElem?_map, gmid i hi, hln]; rfl), ln, rfl, by omega, fun v H7 s9 hv => ?_⟩
          · exact congrArg V.int (by omega)
          have estep : readParts wr (1 + i) done (ln :: mids.drop (i + 1)) = (match readPart ln with | none => .inl (1 + i + 1) | some r => if fitsS wr (done ++ [r]) = true then readParts wr (1 + i + 1) (done ++ [r]) (mids.drop (i + 1)) else .inl (1 + i + 1)) := rfl
          have leave : readParts wr (1 + i) done (ln :: mids.drop (i + 1)) = .inl (1 + i + 1) → ∀ H8, Same H' H8 → Q (.int (1 + (i : Int) + 1)) H8 := fun e H8 sx => by
            rw [erp, e] at eN1
            refine out _ _ (s67.trans (s8.trans sx)) ?_
            rw [eN1]
            show V.int _ = V.int _
            congr 1
          generalize hR : readPart ln = oR at hv estep
          cases oR with
          | none =>
            obtain rfl : v = .non := hv
            exact ⟨_, rfl, rfl, true, rfl, iteT ⟨_, rfl, _, _, rfl, rfl, leave estep H7 s9⟩⟩
          | some r =>
            have hraw : RawAt K H7 v r := hv
            obtain ⟨rr, re⟩ := readPart_right hR
            have vn : v ≠ .non := by
              cases r with
              | flat ws n => obtain ⟨a, u, e, _⟩ := hraw; rw [e]; simp
              | hub ns n => obtain ⟨a, b, u, e, _⟩ := hraw; rw [e]; simp
            refine ⟨_, rfl, rfl, _, rfl, ?_⟩
            rw [decide_eq_false vn]
            have rok2 : ∀ q ∈ done ++ [r], Right q := fun q hq => by
              rcases List.mem_append.mp hq with e | e
              · exact rok q e
              · rw [List.mem_singleton.mp e]; exact rr
            have tsum : ((mids.take (i + 1)).map (·.length)).sum = ((mids.take i).map (·.length)).sum + ln.length := by
              rw [List.take_add_one, hln]
              simp
            have tle : ((mids.take (i + 1)).map (·.length)).sum ≤ 3000 := Nat.le_trans (sum_take mids (i + 1)) summid
            have dsum2 : ((done ++ [r]).map fun r => r.ends.length).sum ≤ ((mids.take (i + 1)).map (·.length)).sum + 2 * (i + 1) := by
              rw [List.map_append, List.sum_append, List.map_cons, List.map_nil, List.sum_cons, List.sum_nil, tsum]
              omega
            have asum : (allEnds wr (done ++ [r])).length ≤ 4000 := by
              unfold allEnds
              rw [List.length_append, ← ends_sum]
              omega
            have efit : ∀ q ∈ done ++ [r], RawFit q := fun q hq => right_fit (rok2 q hq) (by
              have := ends_in hq
              omega)
            have ul := hus.len
            have estep2 : readParts wr (1 + i) done (ln :: mids.drop (i + 1)) = (if fitsS wr (done ++ [r]) = true then readParts wr (1 + i + 1) (done ++ [r]) (mids.drop (i + 1)) else .inl (1 + i + 1)) := estep
            have hus7 := hus.keep (.of s9)
            refine iteF ⟨_, rfl, _, rfl, _, rfl, (by show 1 ≤ sizeLine; rw [sizeLine_eq]; decide), fun c hc => ?_⟩
            have sc := same_upd (o := .tup [v]) hc
            refine rCatA_any (same_seqT (s9.trans sc) hpq) (SqT.of upd_same) (by rw [sizeLine_eq]; simp; omega) fun c2 H8 s10 hc2 => ?_
            refine ⟨(by show 2 ≤ sizeLine; rw [sizeLine_eq]; decide), fun n2 hn2 => ?_⟩
            have s11 := same_upd (o := .tup [.ref t, .ref c2]) hn2
            have s711 := sc.trans (s10.trans s11)
            have s8all := s8.trans (s9.trans s711)
            have raws : RawsAt K _ (us ++ [v]) (done ++ [r]) := (hus7.keep (.of s711)).app (.cons (hraw.keep (.of s711)) .nil)
            refine ⟨.ref n2, wr, done ++ [r], rfl, ⟨n2, t, c2, us ++ [v], rfl, SqT.of upd_same, same_seqT s8all ht6, same_seqT s11 hc2, raws⟩, by simp at wc0; omega, sm, efit, by rw [List.length_append]; simp; omega, asum, fun H9 s12 => ⟨_, rfl, ?_⟩⟩
            rw [net_fits htp rok2]
            cases hf : fitsS wr (done ++ [r]) with
            | false =>
              rw [hf, if_neg (by decide)] at estep2
              exact iteT ⟨_, rfl, _, _, rfl, rfl, leave estep2 H9 (s9.trans (s711.trans s12))⟩
            | true =>
              rw [hf, if_pos rfl] at estep2
              have few2 : (done ++ [r]).length ≤ 200 := by
                unfold fitsS at hf
                rw [Bool.and_eq_true, decide_eq_true_eq] at hf
                exact hf.1
              rw [List.length_append] at few2
              simp at few2
              have s79 := s711.trans s12
              refine iteF ⟨_, rfl, _, rfl, (by show 1 ≤ sizeLine; rw [sizeLine_eq]; decide), fun d hd => ?_⟩
              have sd := same_upd (o := .tup [v]) hd
              refine rCatA_any (same_seqT (s9.trans (s79.trans sd)) hpq) (SqT.of upd_same) (by rw [sizeLine_eq]; simp; omega) fun d2 H10 s13 hd2 => ?_
              have s710 := s79.trans (sd.trans s13)
              refine ⟨_, _, d2, us ++ [v], done ++ [r], rfl, s8.trans (s9.trans s710), hd2, (hus7.keep (.of s710)).app (.cons (hraw.keep (.of s710)) .nil), rok2, by rw [List.length_append, dl]; rfl, by omega, dsum2, ?_⟩
              rw [erp, estep2]
              congr 1
        · rintro σ H' ⟨o1, o2, pq, us, done, rfl, s8, hpq, hus, rok, dl, d200, dsum, erp⟩
          rw [List.drop_length] at erp
          have er : readParts wr 1 [] mids = .inr done := erp
          rw [er] at eN1
          have eN2 : readNet x = if (l0 :: ls).getLast (List.cons_ne_nil _ _) = "" then .inr (wr, done) else .inl (ls.length + 1) := eN1
          have hls8 := same_seqL s8 hls6
          have s68 := s67.trans s8
          refine ⟨_, rfl, _, rfl, l, _, -1, .str ((l0 :: ls).getLast (List.cons_ne_nil _ _)), rfl, rfl, hls8, ?_, rfl, _, rfl, ?_⟩
          · rw [at_last (by simp), List.getLast_map]
          rw [deq_str]
          by_cases hz : (l0 :: ls).getLast (List.cons_ne_nil _ _) = ""
          · rw [decide_eq_true hz]
            rw [if_pos hz] at eN2
            refine iteT ⟨_, rfl, _, rfl, (by show 2 ≤ sizeLine; rw [sizeLine_eq]; decide), fun u hu => out _ _ (s68.trans (same_upd hu)) ?_⟩
            rw [eN2]
            have su := same_upd (o := .tup [.ref t, .ref pq]) hu
            exact ⟨u, t, pq, us, rfl, SqT.of upd_same, same_seqT (s8.trans su) ht6, same_seqT su hpq, hus.keep (.of su)⟩
          · rw [decide_eq_false hz]
            rw [if_neg hz] at eN2
            refine iteF ⟨_, rfl, l, _, rfl, .inl hls8, out _ _ s68 ?_⟩
            rw [eN2]
            show V.int _ = V.int _
            rw [List.length_map]
            rfl
  · rw [decide_eq_false h0]
    exact iteT (one (bad fun z => h0 z.1) H4 (Same.refl _))
end
end K12
set_option maxHeartbeats 1000000
namespace K12
open PySem PySem.Spec PyProof.Rows L2 Hx RZ
/-! ### the law draws numbers and taps -/
inductive NumsL (K : PySem.W.Frag) (H : Hp) : List V → List Num → Prop
  | nil : NumsL K H [] []
  | cons {v : V} {n : Num} {vs : List V} {ns : List Num} (h : NumAt K H v n) (t : NumsL K H vs ns) : NumsL K H (v :: vs) (n :: ns)
theorem NumsL.get {K : PySem.W.Frag} {H : Hp} : ∀ {vs : List V} {ns : List Num} {i : Nat} {v : V}, NumsL K H vs ns → vs[i]? = some v → ∃ n, ns[i]? = some n ∧ NumAt K H v n
  | _, _, 0, _, .cons h _, e => by simp at e; subst e; exact ⟨_, rfl, h⟩
  | _, _, i + 1, _, .cons _ t, e => by simpa using t.get (i := i) (by simpa using e)
def smalls : List Num := [.w 1, .w 2, .w 1, .w 3, .w 1, .q 1 2, .w 0, .w 5, .q 3 2, .w 4, .q 2 3, .w 10]
theorem smalls_ok : ∀ n ∈ smalls, n.ok0 = true ∧ NumFit n := by
  unfold NumFit
  decide +kernel
theorem St.off {H : Hp} {d g c l : Addr} {n : Nat} (h : St H d g c n) (hl : H l = none) : l ≠ g ∧ l ≠ d := by
  obtain ⟨gs, cs, r, t, h1, h2, _⟩ := h
  refine ⟨fun e => ?_, fun e => ?_⟩
  · rw [← e, hl] at h2; cases h2
  · rw [← e, hl] at h1; cases h1
section
variable {P : Program} {w : World} {K : PySem.W.Frag} {mg : Str → Option Value} {base : Heap}
def spNumber (K : PySem.W.Frag) : Sp := fun vs H Q _ => ∃ (d g c : Addr) (n : Nat), vs = [.ref d] ∧ St H d g c (n + 1) ∧ ∀ v m H', NumAt K H' v m → m ∈ smalls → St H' d g c n → Kp d g H H' → Q v H'
theorem sc_ct_number : FnScope ["state"] ["state"] (defScope sL_ct_number) := ⟨rfl, rfl, rfl, by decide +kernel, rfl, by decide +kernel, by decide +kernel⟩
theorem ok_ct_number (D : Dn K mg "_law_ct_number" sL_ct_number) (B : Ok P w K mg base L2.CX0 3 "_law_pick" ["state", "some"] (spPick K)) : Ok P w K mg base L2.CX0 4 "_law_ct_number" ["state"] (spNumber K) := by
  obtain ⟨_, _, g_pick, k_pick, b_pick, F_pick⟩ := B.ex
  refine Ok.mk0 D sc_ct_number (fun vs H Q E h => ?_) (fun _ _ _ _ _ _ us hl => match us, hl with | [_], _ => rfl) (fun f cdv A outer s H vs Q E hr h => ?_)
  · obtain ⟨d, g, c, n, rfl, _⟩ := h
    rfl
  obtain ⟨d, g, c, n, rfl, hS, k⟩ := h
  refine ⟨_, (pss_one (ps_ret (pe_call F_pick hr rfl g_pick k_pick b_pick .nil pass0 (pa_cons (pv 0) (pa_cons (pe_lst (pa_cons pe_int (pa_cons pe_int (pa_cons pe_int (pa_cons pe_int (pa_cons pe_int (pa_cons (pe_tup (pa_cons pe_int (pa_cons pe_int pa_nil))) (pa_cons pe_int (pa_cons pe_int (pa_cons (pe_tup (pa_cons pe_int (pa_cons pe_int pa_nil))) (pa_cons pe_int (pa_cons (pe_tup (pa_cons pe_int (pa_cons pe_int pa_nil))) (pa_cons pe_int pa_nil))))))))))))) pa_nil))))), ?_⟩
  have two : (2 : Nat) ≤ sizeLine := by rw [sizeLine_eq]; decide
  refine ⟨_, rfl, two, fun p1 hp1 => ⟨two, fun p2 hp2 => ⟨two, fun p3 hp3 => ⟨by show 12 ≤ sizeLine; rw [sizeLine_eq]; decide, fun l hl => ?_⟩⟩⟩⟩
  have s1 := same_upd (o := .tup [.int 1, .int 2]) hp1
  have s2 := same_upd (o := .tup [.int 3, .int 2]) hp2
  have s3 := same_upd (o := .tup [.int 2, .int 3]) hp3
  have s4 := same_upd (o := .lst [.int 1, .int 2, .int 1, .int 3, .int 1, .ref p1, .int 0, .int 5, .ref p2, .int 4, .ref p3, .int 10]) hl
  have sall := s1.trans (s2.trans (s3.trans s4))
  have o1 := (s2.trans (s3.trans s4)) _ _ (upd_same (H := H) (a := p1) (o := .tup [.int 1, .int 2]))
  have o2 := (s3.trans s4) _ _ (upd_same (a := p2) (o := .tup [.int 3, .int 2]))
  have o3 := s4 _ _ (upd_same (a := p3) (o := .tup [.int 2, .int 3]))
  have S4 := hS.same sall
  have off := (hS.same (s1.trans (s2.trans s3))).off hl
  refine ⟨d, g, c, l, n, _, rfl, S4, SqL.of upd_same, off.1, by simp, by simp, fun i x H' hx S' kp => ?_⟩
  have tk := kp.tk S4
  have nums : NumsL K H' [.int 1, .int 2, .int 1, .int 3, .int 1, .ref p1, .int 0, .int 5, .ref p2, .int 4, .ref p3, .int 10] smalls :=
    .cons rfl (.cons rfl (.cons rfl (.cons rfl (.cons rfl (.cons ⟨p1, rfl, SqT.of (tk.1 _ _ o1)⟩ (.cons rfl (.cons rfl (.cons ⟨p2, rfl, SqT.of (tk.1 _ _ o2)⟩ (.cons rfl (.cons ⟨p3, rfl, SqT.of (tk.1 _ _ o3)⟩ (.cons rfl .nil)))))))))))
  obtain ⟨m, hm, hn⟩ := nums.get hx
  exact k x m H' hn (List.mem_of_getElem? hm) S' ((Kp.of sall).trans kp)
end
end K12
set_option maxHeartbeats 1000000
namespace K12
open PySem PySem.Spec PyProof.Rows L2 Hx RZ
abbrev someA : List Str := ["a", "b", "c", "d", "e", "f"]
abbrev someB : List Str := ["north", "south", "t1", "t2", "u", "west"]
def tapsAll : List Str := someA ++ someB
theorem names_all : (tapsAll.all nameS) = true := by decide +kernel
theorem a_nodup : someA.Nodup := by decide +kernel
theorem b_nodup : someB.Nodup := by decide +kernel
def unS : V → Str
  | .str x => x
  | _ => ""
theorem perm_strs {ys : List V} {A : List Str} (h : ys.Perm (A.map V.str)) : ∃ zs : List Str, zs.Perm A ∧ ys = zs.map V.str := by
  refine ⟨ys.map unS, ?_, ?_⟩
  · have q := h.map unS
    rw [List.map_map] at q
    have e : (unS ∘ V.str) = id := rfl
    rw [e, List.map_id] at q
    exact q
  · have q : ∀ y ∈ ys, V.str (unS y) = y := fun y hy => by
      obtain ⟨x, _, rfl⟩ := List.mem_map.mp (h.mem_iff.mp hy)
      rfl
    rw [List.map_map]
    exact (List.map_id' ys).symm.trans (List.map_congr_left fun y hy => (q y hy).symm)
theorem cut_upto {xs : List V} (k : Nat) : cutV xs none (some (k : Int)) = xs.take k := by
  unfold cutV
  rw [HT.sIx_nat]
  show (xs.drop 0).take (min k xs.length - 0) = _
  rw [List.drop_zero, Nat.sub_zero, ← List.take_eq_take_min]
/-- sorted texts without a double rise -/
theorem sorted_asc {ys : List Str} (nd : ys.Nodup) (so : sortedS ys = true) : Asc ys := places_asc (ends := ys) ⟨nd, fun _ => Iff.rfl, so⟩
section
variable {P : Program} {w : World} {K : PySem.W.Frag} {mg : Str → Option Value} {base : Heap}
def spTaps (K : PySem.W.Frag) : Sp := fun vs H Q _ => ∃ (d g c : Addr) (n : Nat), vs = [.ref d, .int 2, .int 6] ∧ St H d g c (n + 8) ∧ ∀ t taps H', SqT K H' t (taps.map V.str) → tapsS taps = true → (∀ x ∈ taps, x ∈ tapsAll) → St H' d g c n → Kp d g H H' → Q (.ref t) H'
theorem sc_ct_taps : FnScope ["state", "least", "most", "some", "many"] ["state", "least", "most"] (defScope sL_ct_taps) := ⟨rfl, rfl, rfl, by decide +kernel, rfl, by decide +kernel, by decide +kernel⟩
theorem ok_ct_taps (D : Dn K mg "_law_ct_taps" sL_ct_taps) (B0 : Ok P w K mg base L2.CX0 3 "_law_pick" ["state", "some"] (spPick K)) (B1 : Ok P w K mg base L2.CX0 2 "_law_draw" ["state", "room"] spDraw) (B2 : Ok P w K mg base L2.CX0 3 "_law_shuffled" ["state", "some"] (spShuffled K))
    (h_tuple : mg "tuple" = none) (h_sorted : mg "sorted" = none) : Ok P w K mg base L2.CX0 4 "_law_ct_taps" ["state", "least", "most"] (spTaps K) := by
  obtain ⟨_, _, g_pick, k_pick, b_pick, F_pick⟩ := B0.ex
  obtain ⟨_, _, g_draw, k_draw, b_draw, F_draw⟩ := B1.ex
  obtain ⟨_, _, g_shuffled, k_shuffled, b_shuffled, F_shuffled⟩ := B2.ex
  refine Ok.mk0 D sc_ct_taps (fun vs H Q E h => ?_) (fun _ _ _ _ _ _ us hl => match us, hl with | [_, _, _], _ => rfl) (fun f cdv A outer s H vs Q E hr h => ?_)
  · obtain ⟨d, g, c, n, rfl, _⟩ := h
    rfl
  obtain ⟨d, g, c, n, rfl, hS, k⟩ := h
  have nd := sc_ct_taps.nd
  have hr2 := hr.mono (show 2 ≤ 3 by decide)
  refine ⟨_, (pss_cons (ps_set (i := 3) nd rfl (Or.inl rfl) (pe_call F_pick hr rfl g_pick k_pick b_pick .nil pass0 (pa_cons (pv 0) (pa_cons (pe_lst (pa_cons (pe_lst (pa_cons pe_str (pa_cons pe_str (pa_cons pe_str (pa_cons pe_str (pa_cons pe_str (pa_cons pe_str pa_nil))))))) (pa_cons (pe_lst (pa_cons pe_str (pa_cons pe_str (pa_cons pe_str (pa_cons pe_str (pa_cons pe_str (pa_cons pe_str pa_nil))))))) pa_nil))) pa_nil))))
    (pss_cons (ps_set (i := 4) nd rfl (Or.inl rfl) (pe_op op_add (pv 1) (pe_call F_draw hr2 rfl g_draw k_draw b_draw .nil pass0 (pa_cons (pv 0) (pa_cons (pe_op op_add (pe_op op_sub (pv 2) (pv 1)) pe_int) pa_nil)))))
    (pss_one (ps_ret (pe_callTy call_tuple_of (by rfl) h_tuple (by decide +kernel) (pa_cons (pe_callB cr_sortedS (by rfl) h_sorted (by decide +kernel) (pa_cons (pe_slice sl_list (pe_call F_shuffled hr rfl g_shuffled k_shuffled b_shuffled .nil pass0 (pa_cons (pv 0) (pa_cons (pv 3) pa_nil))) po_none (po_some (pv 4))) pa_nil)) pa_nil)))))), ?_⟩
  have six : (6 : Nat) ≤ sizeLine := by rw [sizeLine_eq]; decide
  refine ⟨_, rfl, six, fun a1 ha1 => ⟨six, fun a2 ha2 => ⟨by show 2 ≤ sizeLine; rw [sizeLine_eq]; decide, fun l hl => ?_⟩⟩⟩
  have s1 := same_upd (o := .lst (someA.map V.str)) ha1
  have s2 := same_upd (o := .lst (someB.map V.str)) ha2
  have s3 := same_upd (o := .lst [.ref a1, .ref a2]) hl
  have sall := s1.trans (s2.trans s3)
  have o1 := (s2.trans s3) _ _ (upd_same (H := H) (a := a1) (o := .lst (someA.map V.str)))
  have o2 := s3 _ _ (upd_same (a := a2) (o := .lst (someB.map V.str)))
  have S3 := hS.same sall
  have off1 := hS.off ha1
  have off2 := (hS.same s1).off ha2
  have offl := (hS.same (s1.trans s2)).off hl
  refine ⟨d, g, c, l, n + 7, _, rfl, S3, SqL.of upd_same, offl.1, by simp, by simp, fun i x H2 hx S2 kp => ?_⟩
  have kp0 := (Kp.of sall).trans kp
  obtain ⟨ax, A, rfl, hA, noff, ndA, lA, sub⟩ : ∃ (ax : Addr) (A : List Str), x = .ref ax ∧ H2 ax = some (.lst (A.map V.str)) ∧ ax ≠ g ∧ A.Nodup ∧ A.length = 6 ∧ ∀ z ∈ A, z ∈ tapsAll := by
    match i, hx with
    | 0, hx =>
      cases hx
      exact ⟨a1, someA, rfl, kp _ _ o1 off1.2 off1.1, off1.1, a_nodup, rfl, fun z hz => List.mem_append_left _ hz⟩
    | 1, hx =>
      cases hx
      exact ⟨a2, someB, rfl, kp _ _ o2 off2.2 off2.1, off2.1, b_nodup, rfl, fun z hz => List.mem_append_right _ hz⟩
  refine ⟨_, rfl, _, rfl, _, rfl, _, rfl, _, _, rfl, rfl, _, _, rfl, rfl, d, g, c, n + 6, 5, rfl, S2, by decide, by decide +kernel, fun z H3 z0 z5 S4 kp2 => ?_⟩
  obtain ⟨m, rfl⟩ := Int.eq_ofNat_of_zero_le z0
  have hA3 := kp2 _ _ hA (fun e => by have := S2; obtain ⟨gs, cs, r, t, h1, _⟩ := this; rw [e, h1] at hA; cases hA) noff
  refine ⟨_, _, rfl, rfl, ?_⟩
  refine ⟨_, rfl, _, rfl, d, g, c, ax, n, A.map V.str, A.map .str, rfl, by rw [List.length_map, lA]; exact S4, SqL.of hA3, DtAll.strs A, ?_, by rw [List.length_map, lA]; decide, fun l2 ys H5 pm hl2 e2 S6 kp3 => ?_⟩
  · intro dd hd
    obtain ⟨x, hx2, rfl⟩ := List.mem_map.mp hd
    exact ⟨name_ok (List.all_eq_true.mp names_all x (sub x hx2)), by simp [PyData.depth]⟩
  obtain ⟨zs, pz, rfl⟩ := perm_strs pm
  have zlen : zs.length = 6 := by rw [pz.length_eq, lA]
  have hcut : cutV (zs.map V.str) none (some ((2 : Int) + (m : Int))) = (zs.take (2 + m)).map V.str := by
    rw [show ((2 : Int) + (m : Int)) = ((2 + m : Nat) : Int) by omega, cut_upto, List.map_take]
  show tNoPart _ _ _
  unfold tNoPart
  refine ⟨_, rfl, _, rfl, ?_⟩
  refine rSlL_any (SqL.of e2) hcut fun q hq => ?_
  have s5 := same_upd (o := .lst ((zs.take (2 + m)).map V.str)) hq
  refine ⟨q, zs.take (2 + m), rfl, SqL.of upd_same, by rw [List.length_take]; omega, fun ys p pm2 so hp => ?_⟩
  have s6 := s5.trans (same_upd (o := .lst (ys.map V.str)) hp)
  refine ⟨p, _, rfl, .inl ⟨SqL.of upd_same, fun t ht => ?_⟩⟩
  have s7 := s6.trans (same_upd (o := .tup (ys.map V.str)) ht)
  have inA : ∀ z ∈ ys, z ∈ A := fun z hz => pz.mem_iff.mp (List.mem_of_mem_take (pm2.mem_iff.mp hz))
  have ynd : ys.Nodup := pm2.nodup_iff.mpr ((pz.nodup_iff.mpr ndA).sublist (List.take_sublist _ _))
  have ylen : ys.length = 2 + m := by rw [pm2.length_eq, List.length_take]; omega
  have tok : tapsS ys = true := by
    unfold tapsS namesS
    rw [asc_rise (sorted_asc ynd so), show ys.all nameS = true from List.all_eq_true.mpr fun z hz => List.all_eq_true.mp names_all z (sub z (inA z hz)), decide_eq_true (show 2 ≤ ys.length by omega), decide_eq_true (show ys.length ≤ 6 by omega)]
    rfl
  exact k t ys _ (SqT.of upd_same) tok (fun z hz => sub z (inA z hz)) (S6.same s7) (kp0.trans (kp2.trans (kp3.trans (Kp.of s7))))
end
end K12
set_option maxHeartbeats 1000000
namespace K12
open PySem PySem.Spec PyProof.Rows L2 Hx RZ
abbrev LEADS : Str := "leads"
abbrev HUBS : Str := "hubs"
/-- a drawn part -/
structure Drawn (ps : List Str) (sort : Str) (r : Raw) : Prop where
  right : Right r
  sub : ∀ z ∈ r.ends, z ∈ ps
  few : r.ends.length ≤ 4
  lead : r.word = LEAD → sort = LEADS
  hub : r.word = HUB → sort = HUBS
theorem Drawn.mono {ps : List Str} {sort : Str} {r : Raw} (h : Drawn ps sort r) : r.word = HUB ∨ r.word ≠ HUB := Classical.em _
section
variable {P : Program} {w : World} {K : PySem.W.Frag} {mg : Str → Option Value} {base : Heap}
def spPart (K : PySem.W.Frag) : Sp := fun vs H Q _ => ∃ (d g c pl : Addr) (n : Nat) (ps : List Str) (sort : Str), vs = [.ref d, .ref pl, .str sort] ∧ St H d g c (n + 13) ∧ SqL K H pl (ps.map V.str) ∧ ps.Nodup ∧ (∀ x ∈ ps, nameS x = true) ∧ 2 ≤ ps.length ∧ ps.length ≤ 9 ∧
  ∀ v r H', RawAt K H' v r → Drawn ps sort r → r.num ∈ smalls → St H' d g c n → Kp d g H H' → Q v H'
theorem sc_ct_part : FnScope ["state", "places_here", "sort_here", "some", "width"] ["state", "places_here", "sort_here"] (defScope sL_ct_part) := ⟨rfl, rfl, rfl, by decide +kernel, rfl, by decide +kernel, by decide +kernel⟩
theorem ok_ct_part (D : Dn K mg "_law_ct_part" sL_ct_part) (B0 : Ok P w K mg base L2.CX0 3 "_law_shuffled" ["state", "some"] (spShuffled K)) (B1 : Ok P w K mg base L2.CX0 4 "_law_ct_number" ["state"] (spNumber K)) (B2 : Ok P w K mg base L2.CX0 2 "_law_draw" ["state", "room"] spDraw)
    (h_tuple : mg "tuple" = none) (h_sorted : mg "sorted" = none) (h_len : mg "len" = none) (h_min : mg "min" = none) (h_max : mg "max" = none) : Ok P w K mg base L2.CX0 5 "_law_ct_part" ["state", "places_here", "sort_here"] (spPart K) := by
  obtain ⟨_, _, g_shuffled, k_shuffled, b_shuffled, F_shuffled⟩ := B0.ex
  obtain ⟨_, _, g_ct_number, k_ct_number, b_ct_number, F_ct_number⟩ := B1.ex
  obtain ⟨_, _, g_draw, k_draw, b_draw, F_draw⟩ := B2.ex
  refine Ok.mk0 D sc_ct_part (fun vs H Q E h => ?_) (fun _ _ _ _ _ _ us hl => match us, hl with | [_, _, _], _ => rfl) (fun f cdv A outer s H vs Q E hr h => ?_)
  · obtain ⟨d, g, c, pl, n, ps, sort, rfl, _⟩ := h
    rfl
  obtain ⟨d, g, c, pl, n, ps, sort, rfl, hS, hpl, pnd, pn, p2, p9, k⟩ := h
  have nd := sc_ct_part.nd
  have hu64 := hr.units
  have hr3 := hr.mono (show 3 ≤ 4 by decide)
  have hr2 := hr.mono (show 2 ≤ 4 by decide)
  refine ⟨_, (pss_cons (ps_set (i := 3) nd rfl (Or.inl rfl) (pe_call F_shuffled hr3 rfl g_shuffled k_shuffled b_shuffled .nil pass0 (pa_cons (pv 0) (pa_cons (pv 1) pa_nil))))
    (pss_cons (ps_set (i := 4) nd rfl (Or.inl rfl) (pe_call F_ct_number hr rfl g_ct_number k_ct_number b_ct_number .nil pass0 (pa_cons (pv 0) pa_nil)))
    (C8.pss_cut (ps_if (PW.pt (pw_and (pt_cmpR op_eq (pv 2) pe_str (nomark _)) (pw_and1 (pt_cmpR op_gt (pe_call F_draw hr2 rfl g_draw k_draw b_draw .nil pass0 (pa_cons (pv 0) (pa_cons pe_int pa_nil))) pe_int (nomark _)))))
      (pss_one (ps_ret (pe_tup (pa_cons pe_str (pa_cons (pe_ix ix_list (pv 3) pe_int (fun _ _ => rfl)) (pa_cons (pe_ix ix_list (pv 3) pe_int (fun _ _ => rfl)) (pa_cons (pv 4) pa_nil)))))))
      pss_nil)
    (C8.pss_cut (ps_if (PW.pt (pw_and (pt_cmpR op_eq (pv 2) pe_str (nomark _)) (pw_and (pt_cmpR op_gt (pe_lenS rfl h_len (pv 3)) pe_int (nomark _)) (pw_and1 (pt_cmpR op_gt (pe_call F_draw hr2 rfl g_draw k_draw b_draw .nil pass0 (pa_cons (pv 0) (pa_cons pe_int pa_nil))) pe_int (nomark _))))))
      (pss_one (ps_ret (pe_tup (pa_cons pe_str (pa_cons (pe_callTy call_tuple_of (by rfl) h_tuple (by decide +kernel) (pa_cons (pe_callB cr_sortedS (by rfl) h_sorted (by decide +kernel) (pa_cons (pe_slice sl_list (pv 3) po_none (po_some (pe_op op_add pe_int (pe_call F_draw hr2 rfl g_draw k_draw b_draw .nil pass0 (pa_cons (pv 0) (pa_cons (pe_callB (call_min2 rfl) (by rfl) h_min (by decide +kernel) (pa_cons pe_int (pa_cons (pe_op op_sub (pe_lenS rfl h_len (pv 3)) pe_int) pa_nil))) pa_nil)))))) pa_nil)) pa_nil)) (pa_cons (pv 4) pa_nil))))))
      pss_nil)
    (pss_one (ps_ret (pe_tup (pa_cons pe_str (pa_cons (pe_callB (cr_min2S rfl hu64) (by rfl) h_min (by decide +kernel) (pa_cons (pe_slice sl_list (pv 3) po_none (po_some pe_int)) pa_nil)) (pa_cons (pe_callB (cr_max2S rfl hu64) (by rfl) h_max (by decide +kernel) (pa_cons (pe_slice sl_list (pv 3) po_none (po_some pe_int)) pa_nil)) (pa_cons (pv 4) pa_nil))))))))))), ?_⟩
  refine ⟨_, rfl, _, rfl, d, g, c, pl, n + 13 - ps.length, ps.map V.str, ps.map .str, rfl, (by rw [List.length_map]; exact hS.less (by omega)), hpl, DtAll.strs ps, ?_, by rw [List.length_map]; omega, fun l ys H2 pm hl e2 S2 kp => ?_⟩
  · intro dd hd
    obtain ⟨x, hx2, rfl⟩ := List.mem_map.mp hd
    exact ⟨name_ok (pn x hx2), by simp [PyData.depth]⟩
  obtain ⟨zs, pz, rfl⟩ := perm_strs pm
  have zlen : zs.length = ps.length := pz.length_eq
  have znd : zs.Nodup := pz.nodup_iff.mpr pnd
  have zsub : ∀ z ∈ zs, z ∈ ps := fun z hz => pz.mem_iff.mp hz
  obtain ⟨z0, z1, zr, rfl⟩ : ∃ z0 z1 zr, zs = z0 :: z1 :: zr := by
    match zs, zlen with
    | [], e => simp at e; omega
    | [_], e => simp at e; omega
    | a :: b :: r, _ => exact ⟨a, b, r, rfl⟩
  have offl := hS.off hl
  have S2' : St H2 d g c (n + 3 + 1) := S2.less (by omega)
  refine ⟨_, rfl, d, g, c, n + 3, rfl, S2', fun wv m H3 hm ms S3 kp2 => ?_⟩
  have e3 := kp2 _ _ e2 offl.2 offl.1
  have kp02 := kp.trans kp2
  have n0 := smalls_ok m ms
  have nn : ¬ z0 = z1 := fun e => (List.nodup_cons.mp znd).1 (by rw [e]; exact List.mem_cons_self)
  have nz0 := pn z0 (zsub z0 (by simp))
  have nz1 := pn z1 (zsub z1 (by simp))
  have four : (4 : Nat) ≤ sizeLine := by rw [sizeLine_eq]; decide
  have isz : ∀ {H' : Hp} {k : Nat}, St H' d g c k → Kp d g H3 H' → H' l = some (.lst ((z0 :: z1 :: zr).map V.str)) := fun _ kq => kq _ _ e3 offl.2 offl.1
  let Mid : Nat → L2.St → Hp → Prop := fun k σ H' => σ = [some (.ref d), some (.ref pl), some (.str sort), some (.ref l), some wv] ∧ St H' d g c k ∧ Kp d g H3 H'
  have fin : ∀ v r H', RawAt K H' v r → Drawn ps sort r → r.num = m → ∀ {j : Nat}, St H' d g c (n + j) → Kp d g H3 H' → Q v H' := fun v r H' hraw dr er j S' kq => k v r H' hraw dr (by rw [er]; exact ms) (S'.less (by omega)) (kp02.trans kq)
  refine ⟨Mid (n + 2), ?_, ?_⟩
  · -- leads
    refine ⟨_, rfl, rfl, _, rfl, ?_⟩
    rw [deq_str]
    by_cases hs : sort = LEADS
    · rw [decide_eq_true hs]
      refine iteT ⟨_, rfl, d, g, c, n + 2, 3, rfl, S3, by decide, by decide +kernel, fun z H4 z0' z3' S4 kp3 => ?_⟩
      refine ⟨_, _, rfl, rfl, _, rfl, ?_⟩
      by_cases hz : (0 : Int) < z
      · rw [decide_eq_true hz]
        have hl4 := SqL.of (K := K) (isz S4 kp3)
        refine iteT ⟨_, rfl, l, _, 0, .str z0, rfl, rfl, hl4, atI_nat (j := 0) rfl, _, rfl, l, _, 1, .str z1, rfl, rfl, hl4, atI_nat (j := 1) rfl, _, rfl, four, fun p hp => ?_⟩
        have s5 := same_upd (o := .tup [.str LEAD, .str z0, .str z1, wv]) hp
        refine fin _ (.flat [LEAD, z0, z1] m) _ ⟨p, wv, rfl, SqT.of upd_same, (hm.keep (kp3.tk S3)).keep (.of s5)⟩ ⟨.two _ _ _ _ nz0 nz1 (.inr ⟨rfl, nn⟩) n0.1, fun z hz => ?_, by show 2 ≤ 4; decide, fun _ => hs, fun e => absurd e lead_hub⟩ rfl (S4.same s5) (kp3.trans (Kp.of s5))
        have e : z = z0 ∨ z = z1 := by simpa [Raw.ends] using hz
        rcases e with e | e <;> rw [e]
        · exact zsub z0 (by simp)
        · exact zsub z1 (by simp)
      · rw [decide_eq_false hz]
        exact iteF ⟨rfl, S4, kp3⟩
    · rw [decide_eq_false hs]
      exact iteF (iteF ⟨rfl, S3.less (by omega), Kp.refl _⟩)
  rintro σ H4 ⟨rfl, S4, kp4⟩
  have hl4 := SqL.of (K := K) (isz S4 kp4)
  have hm4 := hm.keep (kp4.tk S3)
  refine ⟨Mid n, ?_, ?_⟩
  · -- hubs
    refine ⟨_, rfl, rfl, _, rfl, ?_⟩
    rw [deq_str]
    by_cases hs : sort = HUBS
    · rw [decide_eq_true hs]
      refine iteT ⟨_, rfl, l, _, rfl, .inl hl4, _, _, rfl, rfl, _, rfl, ?_⟩
      rw [List.length_map]
      by_cases h2 : (2 : Int) < ((z0 :: z1 :: zr).length : Int)
      · rw [decide_eq_true h2]
        refine iteT ⟨_, rfl, d, g, c, n + 1, 3, rfl, S4, by decide, by decide +kernel, fun z H5 z0' z3' S5 kp5 => ?_⟩
        refine ⟨_, _, rfl, rfl, _, rfl, ?_⟩
        have kp45 := kp4.trans kp5
        by_cases hz : (0 : Int) < z
        · rw [decide_eq_true hz]
          have hl5 := SqL.of (K := K) (isz S5 kp45)
          refine iteT ⟨_, rfl, ?_⟩
          show tNoPart _ _ _
          unfold tNoPart
          have ln : 3 ≤ (z0 :: z1 :: zr).length := by omega
          have room : (0 : Int) < (if (((z0 :: z1 :: zr).map V.str).length : Int) - 1 < 3 then (((z0 :: z1 :: zr).map V.str).length : Int) - 1 else 3) ∧ (if (((z0 :: z1 :: zr).map V.str).length : Int) - 1 < 3 then (((z0 :: z1 :: zr).map V.str).length : Int) - 1 else 3) ≤ 3 ∧ (if (((z0 :: z1 :: zr).map V.str).length : Int) - 1 < 3 then (((z0 :: z1 :: zr).map V.str).length : Int) - 1 else 3) ≤ ((z0 :: z1 :: zr).length : Int) - 1 := by
            rw [List.length_map]
            split <;> omega
          generalize hroom : (if (((z0 :: z1 :: zr).map V.str).length : Int) - 1 < 3 then (((z0 :: z1 :: zr).map V.str).length : Int) - 1 else 3) = rm at room
          refine ⟨_, rfl, _, rfl, l, _, rfl, .inl hl5, _, _, rfl, rfl, 3, _, rfl, d, g, c, n, rm, by rw [← hroom]; rfl, S5, room.1, ?_, fun y H6 y0 yr S6 kp6 => ?_⟩
          · obtain ⟨q, rfl⟩ := Int.eq_ofNat_of_zero_le (Int.le_of_lt room.1)
            exact small9000 (by omega)
          obtain ⟨q, rfl⟩ := Int.eq_ofNat_of_zero_le y0
          have kp46 := kp45.trans kp6
          have e6 := isz S6 kp46
          refine ⟨_, _, rfl, rfl, _, rfl, ?_⟩
          have hcut : cutV ((z0 :: z1 :: zr).map V.str) none (some ((2 : Int) + (q : Int))) = ((z0 :: z1 :: zr).take (2 + q)).map V.str := by
            rw [show ((2 : Int) + (q : Int)) = ((2 + q : Nat) : Int) by omega, cut_upto, List.map_take]
          refine rSlL_any (SqL.of e6) hcut fun u hu => ?_
          have s7 := same_upd (o := .lst (((z0 :: z1 :: zr).take (2 + q)).map V.str)) hu
          refine ⟨u, _, rfl, SqL.of upd_same, by rw [List.length_take]; omega, fun ys p pm2 so hp => ?_⟩
          have s8 := s7.trans (same_upd (o := .lst (ys.map V.str)) hp)
          refine ⟨p, _, rfl, .inl ⟨SqL.of upd_same, fun t ht => ?_⟩⟩
          have s9 := s8.trans (same_upd (o := .tup (ys.map V.str)) ht)
          refine ⟨_, rfl, by show 3 ≤ sizeLine; rw [sizeLine_eq]; decide, fun b hb => ?_⟩
          have sb := same_upd (o := .tup [.str HUB, .ref t, wv]) hb
          have inz : ∀ x ∈ ys, x ∈ z0 :: z1 :: zr := fun x hx => List.mem_of_mem_take (pm2.mem_iff.mp hx)
          have ynd : ys.Nodup := pm2.nodup_iff.mpr (znd.sublist (List.take_sublist _ _))
          have ylen : ys.length = 2 + q := by rw [pm2.length_eq, List.length_take]; omega
          have yok : namesS ys = true := by
            unfold namesS
            rw [asc_rise (sorted_asc ynd so), show ys.all nameS = true from List.all_eq_true.mpr fun x hx => pn x (zsub x (inz x hx))]
            rfl
          exact fin _ (.hub ys m) _ ⟨b, t, wv, rfl, SqT.of upd_same, same_seqT sb (SqT.of upd_same), ((hm4.keep (kp5.tk S4)).keep (kp6.tk S5)).keep (.of (s9.trans sb))⟩ ⟨.hub _ _ yok (by omega) n0.1, fun x hx => zsub x (inz x hx), by show ys.length ≤ 4; omega, fun e => absurd e.symm lead_hub, fun _ => hs⟩ rfl (j := 0) (S6.same (s9.trans sb)) (kp46.trans (Kp.of (s9.trans sb)))
        · rw [decide_eq_false hz]
          exact iteF ⟨rfl, S5.less (by omega), kp45⟩
      · rw [decide_eq_false h2]
        exact iteF (iteF ⟨rfl, S4.less (by omega), kp4⟩)
    · rw [decide_eq_false hs]
      exact iteF (iteF ⟨rfl, S4.less (by omega), kp4⟩)
  rintro σ H5 ⟨rfl, S5, kp5⟩
  have e5 := isz S5 kp5
  have hm5 := hm.keep (kp5.tk S3)
  have hcut : cutV ((z0 :: z1 :: zr).map V.str) none (some ((2 : Nat) : Int)) = [.str z0, .str z1] := by
    rw [cut_upto]
    rfl
  refine ⟨_, rfl, ?_⟩
  show tNoPart _ _ _
  unfold tNoPart
  refine ⟨_, rfl, ?_⟩
  refine rSlL_any (SqL.of e5) hcut fun u hu => ?_
  have s6 := same_upd (o := .lst [.str z0, .str z1]) hu
  refine ⟨u, z0, z1, rfl, SqL.of upd_same, _, rfl, ?_⟩
  refine ⟨_, rfl, ?_⟩
  refine rSlL_any (SqL.of (s6 _ _ e5)) hcut fun v hv => ?_
  have s7 := s6.trans (same_upd (o := .lst [.str z0, .str z1]) hv)
  refine ⟨v, z0, z1, rfl, SqL.of upd_same, _, rfl, four, fun b hb => ?_⟩
  have s8 := s7.trans (same_upd (o := .tup [.str PIPE, .str (minS z0 z1), .str (maxS z0 z1), wv]) hb)
  have mm : (minS z0 z1 = z0 ∧ maxS z0 z1 = z1 ∧ tl z0 < tl z1) ∨ (minS z0 z1 = z1 ∧ maxS z0 z1 = z0 ∧ tl z1 < tl z0) := by
    unfold minS maxS lessS
    by_cases q : tl z0 < tl z1
    · have q2 : ¬ tl z1 < tl z0 := fun h => lt_ir _ (lt_tr q h)
      rw [decide_eq_true q, decide_eq_false q2]
      exact .inl ⟨rfl, rfl, q⟩
    · have q2 : tl z1 < tl z0 := lt_or q fun e => nn (tl_inj e).symm
      rw [decide_eq_false q, decide_eq_true q2]
      exact .inr ⟨rfl, rfl, q2⟩
  have base0 : nameS (minS z0 z1) = true ∧ nameS (maxS z0 z1) = true ∧ tl (minS z0 z1) < tl (maxS z0 z1) ∧ minS z0 z1 ∈ ps ∧ maxS z0 z1 ∈ ps := by
    rcases mm with ⟨a1, a2, a3⟩ | ⟨a1, a2, a3⟩ <;> rw [a1, a2]
    · exact ⟨nz0, nz1, a3, zsub z0 (by simp), zsub z1 (by simp)⟩
    · exact ⟨nz1, nz0, a3, zsub z1 (by simp), zsub z0 (by simp)⟩
  obtain ⟨b1, b2, b3, b4, b5⟩ := base0
  refine fin _ (.flat [PIPE, minS z0 z1, maxS z0 z1] m) _ ⟨b, wv, rfl, SqT.of upd_same, hm5.keep (.of s8)⟩ ⟨.two _ _ _ _ b1 b2 (.inl ⟨rfl, b3⟩) n0.1, fun z hz => ?_, by show 2 ≤ 4; decide, fun e => absurd e pipe_lead, fun e => absurd e pipe_hub⟩ rfl (j := 0) (S5.same s8) (kp5.trans (Kp.of s8))
  have e : z = minS z0 z1 ∨ z = maxS z0 z1 := by simpa [Raw.ends] using hz
  rcases e with e | e <;> rw [e]
  · exact b4
  · exact b5
end
end K12
set_option maxHeartbeats 1000000
namespace K12
open PySem PySem.Spec PyProof.Rows L2 Hx RZ
abbrev inA : List Str := ["k", "p", "q"]
abbrev inB : List Str := ["in1", "in2", "z"]
def innerAll : List Str := inA ++ inB
theorem inner_names : (innerAll.all nameS) = true := by decide +kernel
theorem inner_apart : (tapsAll.all fun x => !decide (x ∈ innerAll)) = true := by decide +kernel
theorem inA_nodup : inA.Nodup := by decide +kernel
theorem inB_nodup : inB.Nodup := by decide +kernel
theorem St.offc {H : Hp} {d g c l : Addr} {n : Nat} (h : St H d g c n) (hl : H l = none) : l ≠ c := by
  obtain ⟨gs, cs, r, t, h1, h2, h3, _⟩ := h
  intro e
  rw [← e, hl] at h3
  cases h3
section
variable {P : Program} {w : World} {K : PySem.W.Frag} {mg : Str → Option Value} {base : Heap}
/-- a drawn net: its places' names, its sort -/
structure NetD (taps : List Str) (rs : List Raw) : Prop where
  tp : tapsS taps = true
  ps : ∃ (ps : List Str) (sort : Str), ps.length ≤ 9 ∧ (∀ x ∈ taps, x ∈ ps) ∧ ps.Nodup ∧ ∀ r ∈ rs, Drawn ps sort r
  few : rs.length ≤ 9
def spNet (K : PySem.W.Frag) : Sp := fun vs H Q _ => ∃ (d g c t : Addr) (n : Nat) (taps : List Str) (sort : Str), vs = [.ref d, .ref t, .str sort] ∧ St H d g c (n + 120) ∧ SqT K H t (taps.map V.str) ∧ tapsS taps = true ∧ (∀ x ∈ taps, x ∈ tapsAll) ∧
  ∀ v rs H', NetAt K H' v taps rs → NetD taps rs → (∀ r ∈ rs, r.num ∈ smalls) → St H' d g c n → Kp d g H H' → Q v H'
theorem sc_ct_net : FnScope ["state", "taps_here", "sort_here", "inner", "places_here", "parts_here", "lap"] ["state", "taps_here", "sort_here"] (defScope sL_ct_net) := ⟨rfl, rfl, rfl, by decide +kernel, rfl, by decide +kernel, by decide +kernel⟩
theorem ok_ct_net (D : Dn K mg "_law_ct_net" sL_ct_net) (B0 : Ok P w K mg base L2.CX0 2 "_law_draw" ["state", "room"] spDraw) (B1 : Ok P w K mg base L2.CX0 3 "_law_pick" ["state", "some"] (spPick K)) (B2 : Ok P w K mg base L2.CX0 5 "_law_ct_part" ["state", "places_here", "sort_here"] (spPart K))
    (h_tuple : mg "tuple" = none) (h_list : mg "list" = none) (h_range : mg "range" = none) : Ok P w K mg base L2.CX0 6 "_law_ct_net" ["state", "taps_here", "sort_here"] (spNet K) := by
  obtain ⟨_, _, g_draw, k_draw, b_draw, F_draw⟩ := B0.ex
  obtain ⟨_, _, g_pick, k_pick, b_pick, F_pick⟩ := B1.ex
  obtain ⟨_, _, g_ct_part, k_ct_part, b_ct_part, F_ct_part⟩ := B2.ex
  refine Ok.mk0 D sc_ct_net (fun vs H Q E h => ?_) (fun _ _ _ _ _ _ us hl => match us, hl with | [_, _, _], _ => rfl) (fun f cdv A outer s H vs Q E hr h => ?_)
  · obtain ⟨d, g, c, t, n, taps, sort, rfl, _⟩ := h
    rfl
  obtain ⟨d, g, c, t, n, taps, sort, rfl, hS, ht, tok, tin, k⟩ := h
  have nd := sc_ct_net.nd
  have hr3 := hr.mono (show 3 ≤ 5 by decide)
  have hr2 := hr.mono (show 2 ≤ 5 by decide)
  refine ⟨_, (pss_cons (ps_set (i := 3) nd rfl (Or.inl rfl) (pe_slice sl_list (pe_ix ix_list (pe_lst (pa_cons (pe_lst (pa_cons pe_str (pa_cons pe_str (pa_cons pe_str pa_nil)))) (pa_cons (pe_lst (pa_cons pe_str (pa_cons pe_str (pa_cons pe_str pa_nil)))) pa_nil))) (pe_call F_draw hr2 rfl g_draw k_draw b_draw .nil pass0 (pa_cons (pv 0) (pa_cons pe_int pa_nil))) (fun _ _ => rfl)) po_none (po_some (pe_call F_pick hr3 rfl g_pick k_pick b_pick .nil pass0 (pa_cons (pv 0) (pa_cons (pe_lst (pa_cons pe_int (pa_cons pe_int (pa_cons pe_int (pa_cons pe_int pa_nil))))) pa_nil))))))
    (pss_cons (ps_set (i := 4) nd rfl (Or.inr rfl) (pe_op op_cat (pe_callTy call_list_of (by rfl) h_list (by decide +kernel) (pa_cons (pv 1) pa_nil)) (pv 3)))
    (pss_cons (ps_setLc (i := 5) (own := [("lap", 6)]) (g := gName 6) (tt := tYes) rfl nd rfl rfl (sw_true rfl rfl rfl (by decide +kernel)) (pi_range1 rfl h_range (pa_cons (pe_op op_add pe_int (pe_call F_draw hr2 rfl g_draw k_draw b_draw .nil pass0 (pa_cons (pv 0) (pa_cons pe_int pa_nil)))) pa_nil)) (blkOk_by (own := [("lap", 6)]) (N := ["state", "taps_here", "sort_here", "inner", "places_here", "parts_here", "lap"]) (sc := defScope sL_ct_net) (by decide +kernel)) (fun _ _ _ _ _ => pg_name (i := 6) nd rfl (Or.inl rfl)) (fun _ _ _ _ _ => pts_nil) (fun _ _ _ _ _ => (pe_call F_ct_part hr rfl g_ct_part k_ct_part b_ct_part .nil pass0 (pa_cons (pv 0) (pa_cons (pv 4) (pa_cons (pv 2) pa_nil))))))
    (pss_one (ps_ret (pe_tup (pa_cons (pv 1) (pa_cons (pe_callTy call_tuple_of (by rfl) h_tuple (by decide +kernel) (pa_cons (pv 5) pa_nil)) pa_nil)))))))), ?_⟩
  have three : (3 : Nat) ≤ sizeLine := by rw [sizeLine_eq]; decide
  have two : (2 : Nat) ≤ sizeLine := by rw [sizeLine_eq]; decide
  refine ⟨three, fun a1 ha1 => ⟨three, fun a2 ha2 => ⟨two, fun l hl => ?_⟩⟩⟩
  have s1 := same_upd (o := .lst (inA.map V.str)) ha1
  have s2 := same_upd (o := .lst (inB.map V.str)) ha2
  have s3 := same_upd (o := .lst [.ref a1, .ref a2]) hl
  have sall := s1.trans (s2.trans s3)
  have o1 := (s2.trans s3) _ _ (upd_same (H := H) (a := a1) (o := .lst (inA.map V.str)))
  have o2 := s3 _ _ (upd_same (a := a2) (o := .lst (inB.map V.str)))
  have S3 := hS.same sall
  have off1 := hS.off ha1
  have off2 := (hS.same s1).off ha2
  have offl := (hS.same (s1.trans s2)).off hl
  have ol := upd_same (H := upd (upd H a1 (.lst (inA.map V.str))) a2 (.lst (inB.map V.str))) (a := l) (o := .lst [.ref a1, .ref a2])
  refine ⟨_, rfl, d, g, c, n + 119, 2, rfl, S3, by decide, by decide +kernel, fun z H4 z0 z2 S4 kp => ?_⟩
  obtain ⟨i, rfl⟩ := Int.eq_ofNat_of_zero_le z0
  have ol4 := kp _ _ ol offl.2 offl.1
  obtain ⟨ax, I, hxI, hI, noff, ndI, lI, sub⟩ : ∃ (ax : Addr) (I : List Str), [V.ref a1, .ref a2][i]? = some (.ref ax) ∧ H4 ax = some (.lst (I.map V.str)) ∧ (ax ≠ g ∧ ax ≠ d) ∧ I.Nodup ∧ I.length = 3 ∧ ∀ z ∈ I, z ∈ innerAll := by
    match i, (show i < 2 by omega) with
    | 0, _ => exact ⟨a1, inA, rfl, kp _ _ o1 off1.2 off1.1, off1, inA_nodup, rfl, fun z hz => List.mem_append_left _ hz⟩
    | 1, _ => exact ⟨a2, inB, rfl, kp _ _ o2 off2.2 off2.1, off2, inB_nodup, rfl, fun z hz => List.mem_append_right _ hz⟩
  refine ⟨l, _, (i : Int), _, rfl, rfl, SqL.of ol4, atI_nat hxI, ?_⟩
  show tNoPart _ _ _
  unfold tNoPart
  refine ⟨_, rfl, by show 4 ≤ sizeLine; rw [sizeLine_eq]; decide, fun l2 hl2 => ?_⟩
  have s5 := same_upd (o := .lst [.int 2, .int 1, .int 3, .int 0]) hl2
  have off5 := S4.off hl2
  refine ⟨d, g, c, l2, n + 118, [.int 2, .int 1, .int 3, .int 0], rfl, S4.same s5, SqL.of upd_same, off5.1, by simp, by simp, fun i2 x H6 hx S6 kp2 => ?_⟩
  obtain ⟨m, rfl, m3⟩ : ∃ m : Nat, x = .int (m : Nat) ∧ m ≤ 3 := by
    match i2, hx with
    | 0, hx => cases hx; exact ⟨2, rfl, by decide⟩
    | 1, hx => cases hx; exact ⟨1, rfl, by decide⟩
    | 2, hx => cases hx; exact ⟨3, rfl, by decide⟩
    | 3, hx => cases hx; exact ⟨0, rfl, by decide⟩
  have hI6 := kp2 _ _ (s5 _ _ hI) noff.2 noff.1
  refine ⟨_, rfl, ?_⟩
  refine rSlL_any (SqL.of hI6) (ys := (I.take m).map V.str) (by rw [cut_upto, List.map_take]) fun q hq => ?_
  have s7 := same_upd (o := .lst ((I.take m).map V.str)) hq
  have kp06 := (Kp.of sall).trans (kp.trans ((Kp.of s5).trans kp2))
  have tk06 := kp06.tk hS
  have ht7 := same_seqT s7 (tk_seqT tk06 ht)
  refine ⟨_, rfl, t, _, rfl, .inr ht7, fun p hp => ?_⟩
  have s8 := same_upd (o := .lst (taps.map V.str)) hp
  refine ⟨_, rfl, p, q, taps.map V.str, (I.take m).map V.str, rfl, rfl, upd_same, s8 _ _ upd_same, ?_, fun r hr9 => ?_⟩
  · have := (taps_sum tok).2
    rw [List.length_map, List.length_map, List.length_take, sizeLine_eq]
    omega
  have s9 := same_upd (o := .lst (taps.map V.str ++ (I.take m).map V.str)) hr9
  have s79 := s7.trans (s8.trans s9)
  have er : (upd (upd (upd H6 q (.lst ((I.take m).map V.str))) p (.lst (taps.map V.str))) r (.lst (taps.map V.str ++ (I.take m).map V.str))) r = some (.lst ((taps ++ I.take m).map V.str)) := by rw [upd_same, List.map_append]
  have S9 := S6.same s79
  have offr := (S6.same (s7.trans s8)).off hr9
  have ht9 := same_seqT (s8.trans s9) ht7
  have kp09 := kp06.trans (Kp.of s79)
  generalize upd (upd (upd H6 q (.lst ((I.take m).map V.str))) p (.lst (taps.map V.str))) r (.lst (taps.map V.str ++ (I.take m).map V.str)) = H9 at er S9 ht9 kp09 ⊢
  generalize hps : taps ++ I.take m = ps at er
  have t6 := (taps_sum tok).2
  have t2 : 2 ≤ taps.length := by
    have q := tok
    unfold tapsS at q
    simp only [Bool.and_eq_true, decide_eq_true_eq] at q
    exact q.2.1
  have tnm : namesS taps = true := by
    have q := tok
    unfold tapsS at q
    rw [Bool.and_eq_true] at q
    exact q.1
  unfold namesS at tnm
  rw [Bool.and_eq_true] at tnm
  have pl9 : ps.length ≤ 9 := by rw [← hps, List.length_append, List.length_take]; omega
  have pl2 : 2 ≤ ps.length := by rw [← hps, List.length_append]; omega
  have pnm : ∀ x ∈ ps, nameS x = true := fun x hx => by
    rw [← hps] at hx
    rcases List.mem_append.mp hx with e | e
    · exact List.all_eq_true.mp tnm.1 x e
    · exact List.all_eq_true.mp inner_names x (sub x (List.mem_of_mem_take e))
  have pnd : ps.Nodup := by
    rw [← hps]
    refine List.nodup_append.mpr ⟨asc_nodup (rise_asc tnm.2), ndI.sublist (List.take_sublist _ _), fun x hx y hy e => ?_⟩
    have q := List.all_eq_true.mp inner_apart x (tin x hx)
    rw [e] at q
    simp [sub y (List.mem_of_mem_take hy)] at q
  refine ⟨_, rfl, d, g, c, n + 117, 7, rfl, S9, by decide, by decide +kernel, fun z2 H10 y0 y7 S10 kp3 => ?_⟩
  obtain ⟨w2, rfl⟩ := Int.eq_ofNat_of_zero_le y0
  have er10 := kp3 _ _ er offr.2 offr.1
  refine ⟨_, _, rfl, rfl, _, rfl, by omega, by omega, fun Z hZ => ?_⟩
  have offZ := S10.off hZ
  have en : ((3 : Int) + (w2 : Int)).toNat = 3 + w2 := by omega
  show LcGoal (Itr 0 ((3 : Int) + (w2 : Int)).toNat) _ _ _ _ _ _ _ _
  rw [en]
  refine lc_any (n := 3 + w2) (J := Itr 0 (3 + w2)) (fun i H => ∃ acc rs, H Z = some (.lst acc) ∧ RawsAt K H acc rs ∧ (∀ r ∈ rs, Drawn ps sort r ∧ r.num ∈ smalls) ∧ rs.length = i ∧ St H d g c (n + 13 * (9 - i)) ∧ Kp d g H10 H) ⟨[], [], upd_same, .nil, fun r hr => by simp at hr, rfl, (S10.same (same_upd hZ)).less (by omega), Kp.of (same_upd hZ)⟩ (fun i H hi _ => hi) (fun H _ => Nat.le_refl _) ?_ ?_
  · rintro i x H11 H' hi ⟨acc, rs, ea, hraws, hdr, rl, S11, kp4⟩ ⟨rfl, hx2⟩
    refine ⟨rfl, ?_⟩
    unfold tYes
    simp only [↓reduceIte]
    refine ⟨_, rfl, _, rfl, _, rfl, d, g, c, r, n + 13 * (9 - (i + 1)), ps, sort, rfl, S11.less (by omega), SqL.of (kp4 _ _ er10 offr.2 offr.1), pnd, pnm, pl2, pl9, fun v r5 H12 hraw dr ms S12 kp5 => ?_⟩
    have ea2 := kp5 _ _ ea offZ.2 offZ.1
    have tk5 := kp5.tk S11
    have sl : TK H12 (upd H12 Z (.lst (acc ++ [v]))) := .lst ea2
    have al : acc.length = rs.length := hraws.len
    refine ⟨acc, ea2, by rw [sizeLine_eq]; omega, acc ++ [v], rs ++ [r5], upd_same, ((hraws.keep tk5).keep sl).app (.cons (hraw.keep sl) .nil), fun r7 hr7 => ?_, by rw [List.length_append, rl]; rfl, ?_, ?_⟩
    · rcases List.mem_append.mp hr7 with e | e
      · exact hdr r7 e
      · rw [List.mem_singleton.mp e]; exact ⟨dr, ms⟩
    · obtain ⟨gs, cs, r1, t1, h1, h2, h3, h4⟩ := S12
      exact ⟨gs, cs, r1, t1, by rw [upd_ne offZ.2.symm]; exact h1, by rw [upd_ne offZ.1.symm]; exact h2, by
        have nc : c ≠ Z := fun e => S10.offc hZ e.symm
        rw [upd_ne nc]; exact h3, h4⟩
    · intro b o e n1 n2
      by_cases hb : b = Z
      · rw [hb, hZ] at e; cases e
      · rw [upd_ne hb]
        exact kp5 _ _ (kp4 _ _ e n1 n2) n1 n2
  · rintro H11 ⟨acc, rs, ea, hraws, hdr, rl, S11, kp4⟩
    have kp911 := kp3.trans kp4
    have ht11 := tk_seqT (kp911.tk S9) ht9
    refine ⟨_, rfl, _, rfl, Z, acc, rfl, .inl ⟨SqL.of ea, fun b hb => ⟨two, fun v hv => ?_⟩⟩⟩
    have s12 := same_upd (o := .tup acc) hb
    have s13 := same_upd (o := .tup [.ref t, .ref b]) hv
    have s123 := s12.trans s13
    refine k _ rs _ ⟨v, t, b, acc, rfl, SqT.of upd_same, same_seqT s123 ht11, same_seqT s13 (SqT.of upd_same), hraws.keep (.of s123)⟩ ⟨tok, ⟨ps, sort, pl9, fun x hx => by rw [← hps]; exact List.mem_append_left _ hx, pnd, fun r hr => (hdr r hr).1⟩, by omega⟩ (fun r hr => (hdr r hr).2) ((S11.same s123).less (by omega)) (kp09.trans (kp911.trans (Kp.of s123)))
end
end K12
set_option maxHeartbeats 1000000
namespace K12
open PySem PySem.Spec PyProof.Rows L2 Hx RZ
/-- a number of at most thirty digits, from 0 on -/
structure Num30 (m : Num) : Prop where
  ok : m.ok0 = true
  t0 : 0 ≤ m.top
  t1 : m.top < 10 ^ 30
  l0 : 0 ≤ m.low
  l1 : m.low < 10 ^ 30
theorem Num30.fit {m : Num} (h : Num30 m) : NumFit m := ⟨h.t0, Int.lt_trans h.t1 (by decide), h.l0, Int.lt_trans h.l1 (by decide)⟩
theorem smalls_30 {m : Num} (h : m ∈ smalls) : Num30 m := by
  have q : ∀ n ∈ smalls, n.ok0 = true ∧ 0 ≤ n.top ∧ n.top < 10 ^ 30 ∧ 0 ≤ n.low ∧ n.low < 10 ^ 30 := by decide +kernel
  obtain ⟨a, b, c, d, e⟩ := q m h
  exact ⟨a, b, c, d, e⟩
theorem made_30 {t b : Int} (t0 : 0 ≤ t) (t1 : t < 10 ^ 30) (b1 : 1 ≤ b) (b2 : b < 10 ^ 30) : Num30 (made t b) := by
  obtain ⟨t, rfl⟩ := Int.eq_ofNat_of_zero_le t0
  obtain ⟨b, rfl⟩ := Int.eq_ofNat_of_zero_le (Int.le_trans (by decide) b1)
  have bp : 0 < b := by omega
  have gp : 0 < Nat.gcd t b := Nat.gcd_pos_of_pos_right t bp
  have e1 : ((t : Int) / (Nat.gcd (t : Int).natAbs (b : Int).natAbs : Int)) = ((t / Nat.gcd t b : Nat) : Int) := by simp
  have e2 : ((b : Int) / (Nat.gcd (t : Int).natAbs (b : Int).natAbs : Int)) = ((b / Nat.gcd t b : Nat) : Int) := by simp
  have lt : t / Nat.gcd t b ≤ t := Nat.div_le_self _ _
  have lb : b / Nat.gcd t b ≤ b := Nat.div_le_self _ _
  have pb : 0 < b / Nat.gcd t b := Nat.div_pos (Nat.le_of_dvd bp (Nat.gcd_dvd_right t b)) gp
  unfold made
  rw [e1, e2]
  split
  · next h =>
    refine ⟨?_, ?_, ?_, ?_, ?_⟩
    · show (true && decide (0 ≤ (((t / Nat.gcd t b : Nat) : Int)))) = true
      rw [decide_eq_true (Int.natCast_nonneg _)]
      rfl
    · show (0 : Int) ≤ ((t / Nat.gcd t b : Nat) : Int); exact Int.natCast_nonneg _
    · show ((t / Nat.gcd t b : Nat) : Int) < 10 ^ 30; omega
    · show (0 : Int) ≤ 1; decide
    · show (1 : Int) < 10 ^ 30; decide
  · next h =>
    have ge : 2 ≤ b / Nat.gcd t b := by omega
    have cop : Nat.gcd (t / Nat.gcd t b) (b / Nat.gcd t b) = 1 := Nat.gcd_div_gcd_div_gcd_of_pos_right bp
    refine ⟨?_, ?_, ?_, ?_, ?_⟩
    · show ((decide ((2 : Int) ≤ ((b / Nat.gcd t b : Nat) : Int)) && decide ((Nat.gcd ((t / Nat.gcd t b : Nat) : Int).natAbs ((b / Nat.gcd t b : Nat) : Int).natAbs : Int) = 1)) && decide (0 ≤ (((t / Nat.gcd t b : Nat) : Int)))) = true
      rw [decide_eq_true (show (2 : Int) ≤ ((b / Nat.gcd t b : Nat) : Int) by exact Int.ofNat_le.mpr ge), decide_eq_true (show (0 : Int) ≤ ((t / Nat.gcd t b : Nat) : Int) from Int.natCast_nonneg _)]
      simp only [Int.natAbs_natCast, cop]
      rfl
    · show (0 : Int) ≤ ((t / Nat.gcd t b : Nat) : Int); exact Int.natCast_nonneg _
    · show ((t / Nat.gcd t b : Nat) : Int) < 10 ^ 30; omega
    · show (0 : Int) ≤ ((b / Nat.gcd t b : Nat) : Int); exact Int.natCast_nonneg _
    · show ((b / Nat.gcd t b : Nat) : Int) < 10 ^ 30; omega
section
variable {P : Program} {w : World} {K : PySem.W.Frag} {mg : Str → Option Value} {base : Heap}
def spWidth (K : PySem.W.Frag) : Sp := fun vs H Q _ => ∃ (d g c : Addr) (n : Nat), vs = [.ref d, .bl true] ∧ St H d g c (n + 3) ∧ ∀ v m H', NumAt K H' v m → Num30 m → St H' d g c n → Kp d g H H' → Q v H'
theorem sc_an_width : FnScope ["state", "great"] ["state", "great"] (defScope sL_an_width) := ⟨rfl, rfl, rfl, by decide +kernel, rfl, by decide +kernel, by decide +kernel⟩
theorem ok_an_width (D : Dn K mg "_law_an_width" sL_an_width) (B0 : Ok P w K mg base L2.CX0 4 "_law_ct_number" ["state"] (spNumber K)) (B1 : Ok P w K mg base L2.CX0 2 "_law_draw" ["state", "room"] spDraw) (B2 : Ok P w K mg base L2.CX0 2 "_law_ct_made" ["top", "bottom"] (spMade K)) : Ok P w K mg base L2.CX0 5 "_law_an_width" ["state", "great"] (spWidth K) := by
  obtain ⟨_, _, g_ct_number, k_ct_number, b_ct_number, F_ct_number⟩ := B0.ex
  obtain ⟨_, _, g_draw, k_draw, b_draw, F_draw⟩ := B1.ex
  obtain ⟨_, _, g_ct_made, k_ct_made, b_ct_made, F_ct_made⟩ := B2.ex
  refine Ok.mk0 D sc_an_width (fun vs H Q E h => ?_) (fun _ _ _ _ _ _ us hl => match us, hl with | [_, _], _ => rfl) (fun f cdv A outer s H vs Q E hr h => ?_)
  · obtain ⟨d, g, c, n, rfl, _⟩ := h
    rfl
  obtain ⟨d, g, c, n, rfl, hS, k⟩ := h
  have hr2 := hr.mono (show 2 ≤ 4 by decide)
  refine ⟨_, (pss_cons (ps_if (pt_not (pt_truth (pv 1) (by intro _; rfl)))
      (pss_one (ps_ret (pe_call F_ct_number hr rfl g_ct_number k_ct_number b_ct_number .nil pass0 (pa_cons (pv 0) pa_nil))))
      pss_nil)
    (pss_cons (ps_if (pt_cmpR op_eq (pe_call F_draw hr2 rfl g_draw k_draw b_draw .nil pass0 (pa_cons (pv 0) (pa_cons pe_int pa_nil))) pe_int (nomark _))
      (pss_one (ps_ret (pe_call F_draw hr2 rfl g_draw k_draw b_draw .nil pass0 (pa_cons (pv 0) (pa_cons (pe_op op_pow pe_int pe_int) pa_nil)))))
      pss_nil)
    (pss_one (ps_ret (pe_call F_ct_made hr2 rfl g_ct_made k_ct_made b_ct_made .nil pass0 (pa_cons (pe_call F_draw hr2 rfl g_draw k_draw b_draw .nil pass0 (pa_cons (pv 0) (pa_cons (pe_op op_pow pe_int pe_int) pa_nil))) (pa_cons (pe_op op_add pe_int (pe_call F_draw hr2 rfl g_draw k_draw b_draw .nil pass0 (pa_cons (pv 0) (pa_cons (pe_op op_sub (pe_op op_pow pe_int pe_int) pe_int) pa_nil)))) pa_nil))))))), ?_⟩
  refine ⟨_, rfl, true, rfl, iteF ?_⟩
  refine ⟨_, rfl, d, g, c, n + 2, 2, rfl, hS, by decide, by decide +kernel, fun z H2 z0 z2 S2 kp => ?_⟩
  refine ⟨rfl, _, rfl, ?_⟩
  rw [deq_int]
  by_cases hz : z = 0
  · rw [decide_eq_true hz]
    refine iteT ⟨_, rfl, 10, 30, rfl, rfl, ⟨by decide, by decide, by decide⟩, d, g, c, n + 1, _, rfl, S2, by decide +kernel, by decide +kernel, fun y H3 y0 y1 S3 kp2 => ?_⟩
    exact k _ (.w y) H3 rfl ⟨by show (true && decide (0 ≤ y)) = true; rw [decide_eq_true y0]; rfl, y0, y1, by show (0 : Int) ≤ 1; decide, by show (1 : Int) < 10 ^ 30; decide⟩ (S3.less (by omega)) (kp.trans kp2)
  · rw [decide_eq_false hz]
    refine iteF ⟨_, rfl, 10, 30, rfl, rfl, ⟨by decide, by decide, by decide⟩, d, g, c, n + 1, _, rfl, S2, by decide +kernel, by decide +kernel, fun y H3 y0 y1 S3 kp2 => ?_⟩
    refine ⟨_, rfl, 10, 30, rfl, rfl, ⟨by decide, by decide, by decide⟩, _, _, rfl, rfl, d, g, c, n, _, rfl, S3, by decide +kernel, by decide +kernel, fun x H4 x0 x1 S4 kp3 => ?_⟩
    have x1' : x < 10 ^ 30 - 1 := x1
    refine ⟨_, _, rfl, rfl, y, 1 + x, rfl, by omega, ?_, fun v H5 s5 hv => ?_⟩
    · have e : (1 + x).natAbs < 10 ^ 31 := by omega
      exact Nat.lt_trans e (by decide +kernel)
    · exact k v _ H5 hv (made_30 y0 y1 (by omega) (by omega)) (S4.same s5) (kp.trans (kp2.trans (kp3.trans (Kp.of s5))))
end
end K12
set_option maxHeartbeats 1000000
namespace K12
open PySem PySem.Spec PyProof.Rows L2 Hx RZ
def Raw.withN : Raw → Num → Raw
  | .flat ws _, m => .flat ws m
  | .hub ns _, m => .hub ns m
theorem withN_ends (r : Raw) (m : Num) : (r.withN m).ends = r.ends := by
  cases r with
  | hub ns n => rfl
  | flat ws n =>
    rcases ws with _ | ⟨k, _ | ⟨x, _ | ⟨y, t⟩⟩⟩ <;> rfl
theorem withN_word (r : Raw) (m : Num) : (r.withN m).word = r.word := by
  cases r with
  | hub ns n => rfl
  | flat ws n => cases ws <;> rfl
theorem withN_num (r : Raw) (m : Num) : (r.withN m).num = m := by cases r <;> rfl
theorem withN_right {r : Raw} {m : Num} (h : Right r) (hm : m.ok0 = true) : Right (r.withN m) := by
  cases h with
  | two k x y n hx hy hk hn => exact .two k x y m hx hy hk hm
  | hub ns n h1 h2 hn => exact .hub ns m h1 h2 hm
theorem withN_drawn {ps : List Str} {sort : Str} {r : Raw} {m : Num} (h : Drawn ps sort r) (hm : m.ok0 = true) : Drawn ps sort (r.withN m) where
  right := withN_right h.right hm
  sub := by rw [withN_ends]; exact h.sub
  few := by rw [withN_ends]; exact h.few
  lead := by rw [withN_word]; exact h.lead
  hub := by rw [withN_word]; exact h.hub
/-- all but the last item -/
theorem raw_init {K : PySem.W.Frag} {H : Hp} {v : V} {r : Raw} (h : RawAt K H v r) (ok : Right r) : ∃ a xs ys u, v = .ref a ∧ SqT K H a xs ∧ xs = ys ++ [u] ∧ ys ≠ [] ∧ ys.length ≤ 3 ∧ ∀ (H' : Hp) (b : Addr) (w : V) (m : Num), TK H H' → SqT K H' b (ys ++ [w]) → NumAt K H' w m → RawAt K H' (.ref b) (r.withN m) := by
  cases ok with
  | two k x y n hx hy hk hn =>
    obtain ⟨a, u, e, ha, hu⟩ := h
    exact ⟨a, _, [.str k, .str x, .str y], u, e, ha, rfl, by simp, by simp, fun H' b w m tk hb hw => ⟨b, w, rfl, hb, hw⟩⟩
  | hub ns n _ _ _ =>
    obtain ⟨a, b0, u, e, ha, hb0, hu⟩ := h
    exact ⟨a, _, [.str HUB, .ref b0], u, e, ha, rfl, by simp, by simp, fun H' b w m tk hb hw => ⟨b, b0, w, rfl, hb, tk_seqT tk hb0, hw⟩⟩
theorem sl_tupAK {X : Cx} {K : PySem.W.Frag} (h : X.K = K) : SlR X (rSlA K) := by subst h; exact sl_tupA
theorem op_catAK {X : Cx} {K : PySem.W.Frag} (h : X.K = K) : OpR X (binaryOp .Add) (rCatA K) := by subst h; exact op_catA
section
variable {P : Program} {w : World} {K : PySem.W.Frag} {mg : Str → Option Value} {base : Heap}
def spANet (K : PySem.W.Frag) : Sp := fun vs H Q _ => ∃ (d g c t : Addr) (n : Nat) (taps : List Str) (sort : Str), vs = [.ref d, .ref t, .str sort] ∧ St H d g c (n + 148) ∧ SqT K H t (taps.map V.str) ∧ tapsS taps = true ∧ (∀ x ∈ taps, x ∈ tapsAll) ∧
  ∀ v rs H', NetAt K H' v taps rs → NetD taps rs → (∀ r ∈ rs, Num30 r.num) → St H' d g c n → Kp d g H H' → Q v H'
theorem sc_an_net : FnScope ["state", "taps_here", "sort_here", "drawn", "part"] ["state", "taps_here", "sort_here"] (defScope sL_an_net) := ⟨rfl, rfl, rfl, by decide +kernel, rfl, by decide +kernel, by decide +kernel⟩
theorem ok_an_net (D : Dn K mg "_law_an_net" sL_an_net) (B0 : Ok P w K mg base L2.CX0 6 "_law_ct_net" ["state", "taps_here", "sort_here"] (spNet K)) (B1 : Ok P w K mg base L2.CX0 2 "_law_draw" ["state", "room"] spDraw) (B2 : Ok P w K mg base L2.CX0 5 "_law_an_width" ["state", "great"] (spWidth K)) (h_tuple : mg "tuple" = none) : Ok P w K mg base L2.CX0 7 "_law_an_net" ["state", "taps_here", "sort_here"] (spANet K) := by
  obtain ⟨_, _, g_ct_net, k_ct_net, b_ct_net, F_ct_net⟩ := B0.ex
  obtain ⟨_, _, g_draw, k_draw, b_draw, F_draw⟩ := B1.ex
  obtain ⟨_, _, g_an_width, k_an_width, b_an_width, F_an_width⟩ := B2.ex
  refine Ok.mk0 D sc_an_net (fun vs H Q E h => ?_) (fun _ _ _ _ _ _ us hl => match us, hl with | [_, _, _], _ => rfl) (fun f cdv A outer s H vs Q E hr h => ?_)
  · obtain ⟨d, g, c, t, n, taps, sort, rfl, _⟩ := h
    rfl
  obtain ⟨d, g, c, t, n, taps, sort, rfl, hS, ht, tok, tin, k⟩ := h
  have nd := sc_an_net.nd
  have hr5 := hr.mono (show 5 ≤ 6 by decide)
  have hr2 := hr.mono (show 2 ≤ 6 by decide)
  refine ⟨_, (pss_cons (ps_set (i := 3) nd rfl (Or.inl rfl) (pe_call F_ct_net hr rfl g_ct_net k_ct_net b_ct_net .nil pass0 (pa_cons (pv 0) (pa_cons (pv 1) (pa_cons (pv 2) pa_nil)))))
    (pss_cons (ps_if (pt_cmpR op_gt (pe_call F_draw hr2 rfl g_draw k_draw b_draw .nil pass0 (pa_cons (pv 0) (pa_cons pe_int pa_nil))) pe_int (nomark _))
      (pss_one (ps_ret (pv 3)))
      pss_nil)
    (pss_one (ps_ret (pe_tup (pa_cons (pv 1) (pa_cons (pe_callTy call_tuple_of (by rfl) h_tuple (by decide +kernel) (pa_cons (pe_lc (own := [("part", 4)]) (g := gName 4) (tt := tYes) rfl nd (pi_tup (pe_ix ix_tup (pv 3) pe_int (fun _ _ => rfl))) (blkOk_by (own := [("part", 4)]) (N := ["state", "taps_here", "sort_here", "drawn", "part"]) (sc := defScope sL_an_net) (by decide +kernel)) (fun _ _ _ _ _ => pg_name (i := 4) nd rfl (Or.inl rfl)) (fun _ _ _ _ _ => pts_nil) (fun _ _ _ _ _ => (pe_op (op_catAK (K := K) rfl) (pe_slice (sl_tupAK (K := K) rfl) (pv 4) po_none (po_some (pe_un un_neg pe_int))) (pe_tup (pa_cons (pe_call F_an_width hr5 rfl g_an_width k_an_width b_an_width .nil pass0 (pa_cons (pv 0) (pa_cons pe_bl pa_nil))) pa_nil))))) pa_nil)) pa_nil))))))), ?_⟩
  refine ⟨_, rfl, _, rfl, _, rfl, d, g, c, t, n + 28, taps, sort, rfl, hS, ht, tok, tin, fun v rs H2 hnet hD hsm S2 kp => ?_⟩
  refine ⟨_, rfl, d, g, c, n + 27, 4, rfl, S2, by decide, by decide +kernel, fun z H3 z0 z4 S3 kp2 => ?_⟩
  have hnet3 := hnet.keep (kp2.tk S2)
  have kp02 := kp.trans kp2
  refine ⟨_, _, rfl, rfl, _, rfl, ?_⟩
  by_cases hz : (0 : Int) < z
  · rw [decide_eq_true hz]
    exact iteT ⟨_, rfl, k v rs H3 hnet3 hD (fun r hr => smalls_30 (hsm r hr)) (S3.less (by omega)) kp02⟩
  · rw [decide_eq_false hz]
    obtain ⟨a, t2, b, us, rfl, ha, ht2, hb, hu⟩ := hnet3
    have ht3 := tk_seqT (kp02.tk hS) ht
    obtain ⟨ps, sort2, pl9, psub, pnd, pdr⟩ := hD.ps
    have few := hD.few
    have ll := hu.len
    refine iteF ⟨_, rfl, _, rfl, a, _, 1, _, rfl, rfl, ha, rfl, b, rfl, ⟨_, hb⟩, fun Z hZ => ?_⟩
    have offZ := S3.off hZ
    refine lc_any (n := us.length) (J := Itt K b) (fun i H => ∃ acc rs2, H Z = some (.lst acc) ∧ RawsAt K H acc rs2 ∧ (∀ r ∈ rs2, Drawn ps sort2 r ∧ Num30 r.num) ∧ rs2.length = i ∧ St H d g c (n + 3 * (9 - i)) ∧ Kp d g H3 H) ⟨[], [], upd_same, .nil, fun r hr => by simp at hr, rfl, (S3.same (same_upd hZ)).less (by omega), Kp.of (same_upd hZ)⟩ (fun i H hi ⟨_, _, _, _, _, _, _, kq⟩ => ⟨_, _, tk_seqT (kq.tk S3) hb, List.getElem?_eq_getElem hi⟩) (fun H ⟨_, _, _, _, _, _, _, kq⟩ => ⟨_, tk_seqT (kq.tk S3) hb, Nat.le_refl _⟩) ?_ ?_
    · rintro i x H11 H' hi ⟨acc, rs2, ea, hraws, hdr, rl, S11, kp4⟩ ⟨e9, yx⟩
      subst e9
      have tk4 := kp4.tk S3
      obtain ⟨r, hr2', hraw⟩ := hu.get (yx _ (tk_seqT tk4 hb))
      have dr := pdr r (List.mem_of_getElem? hr2')
      obtain ⟨pa, xs, ys, u, rfl, hpa, exs, yne, y3, mk⟩ := raw_init (hraw.keep tk4) dr.right
      refine ⟨rfl, ?_⟩
      unfold tYes
      simp only [↓reduceIte]
      refine ⟨_, rfl, ?_⟩
      show tNoPart _ _ _
      unfold tNoPart
      refine ⟨_, rfl, _, rfl, ?_⟩
      have hcut : cutV xs none (some (-1)) = ys := by
        rw [cut_to, exs]
        simp
      refine rSlA_any hpa hcut fun q H5 s5 hq => ?_
      have S5 := S11.same s5
      refine ⟨_, rfl, d, g, c, n + 3 * (9 - (i + 1)), rfl, S5.less (by omega), fun wv m H6 hw m30 S6 kp5 => ⟨by show 1 ≤ sizeLine; rw [sizeLine_eq]; decide, fun e he => ?_⟩⟩
      have s6 := same_upd (o := .tup [wv]) he
      have tk5 := kp5.tk S5
      refine rCatA_any (same_seqT s6 (tk_seqT tk5 hq)) (SqT.of upd_same) (by rw [sizeLine_eq]; simp; omega) fun p H7 s7 hp => ?_
      have s67 := s6.trans s7
      have ea2 := s67 _ _ (kp5 _ _ (s5 _ _ ea) offZ.2 offZ.1)
      have tkall : TK H' H7 := (TK.of s5).trans (tk5.trans (.of s67))
      have sl : TK H7 (upd H7 Z (.lst (acc ++ [.ref p]))) := .lst ea2
      have al : acc.length = rs2.length := hraws.len
      have newr := mk H7 p wv m tkall hp (hw.keep (.of s67))
      refine ⟨acc, ea2, by rw [sizeLine_eq]; omega, acc ++ [.ref p], rs2 ++ [r.withN m], upd_same, ((hraws.keep tkall).keep sl).app (.cons (newr.keep sl) .nil), fun r7 hr7 => ?_, by rw [List.length_append, rl]; rfl, ?_, ?_⟩
      · rcases List.mem_append.mp hr7 with e | e
        · exact hdr r7 e
        · rw [List.mem_singleton.mp e]; exact ⟨withN_drawn dr m30.ok, by rw [withN_num]; exact m30⟩
      · obtain ⟨gs, cs, r1, t1, h1, h2, h3, h4⟩ := S6.same s67
        exact ⟨gs, cs, r1, t1, by rw [upd_ne offZ.2.symm]; exact h1, by rw [upd_ne offZ.1.symm]; exact h2, by
          have nc : c ≠ Z := fun e => S3.offc hZ e.symm
          rw [upd_ne nc]; exact h3, h4⟩
      · intro b2 o e n1 n2
        by_cases hb2 : b2 = Z
        · rw [hb2, hZ] at e; cases e
        · rw [upd_ne hb2]
          exact s67 _ _ (kp5 _ _ (s5 _ _ (kp4 _ _ e n1 n2)) n1 n2)
    · rintro H11 ⟨acc, rs2, ea, hraws, hdr, rl, S11, kp4⟩
      refine ⟨Z, acc, rfl, .inl ⟨SqL.of ea, fun b2 hb2 => ⟨by show 2 ≤ sizeLine; rw [sizeLine_eq]; decide, fun v hv => ?_⟩⟩⟩
      have s13 := same_upd (o := .tup [.ref t, .ref b2]) hv
      have s123 := (same_upd (o := .tup acc) hb2).trans s13
      refine k _ rs2 _ ⟨v, t, b2, acc, rfl, SqT.of upd_same, same_seqT s123 (tk_seqT (kp4.tk S3) ht3), same_seqT s13 (SqT.of upd_same), hraws.keep (.of s123)⟩ ⟨tok, ⟨ps, sort2, pl9, psub, pnd, fun r hr => (hdr r hr).1⟩, by omega⟩ (fun r hr => (hdr r hr).2) ((S11.same s123).less (by omega)) (kp02.trans (kp4.trans (Kp.of s123)))
end
end K12
set_option maxHeartbeats 1000000
namespace K12
open PySem PySem.Spec PyProof.Rows L2 Hx RZ
section
variable {P : Program} {w : World} {K : PySem.W.Frag} {mg : Str → Option Value} {base : Heap}
def spDrawn (K : PySem.W.Frag) : Sp := fun vs H Q _ => ∃ (d g c : Addr) (n : Nat), vs = [.ref d, .int 2, .int 6] ∧ St H d g c (n + 157) ∧
  ∀ v taps rs H', NetAt K H' v taps rs → NetD taps rs → (∀ r ∈ rs, Num30 r.num) → St H' d g c n → Kp d g H H' → Q v H'
theorem sc_an_drawn : FnScope ["state", "least", "most", "sort_here"] ["state", "least", "most"] (defScope sL_an_drawn) := ⟨rfl, rfl, rfl, by decide +kernel, rfl, by decide +kernel, by decide +kernel⟩
theorem ok_an_drawn (D : Dn K mg "_law_an_drawn" sL_an_drawn) (B0 : Ok P w K mg base L2.CX0 3 "_law_pick" ["state", "some"] (spPick K)) (B1 : Ok P w K mg base L2.CX0 4 "_law_ct_taps" ["state", "least", "most"] (spTaps K)) (B2 : Ok P w K mg base L2.CX0 7 "_law_an_net" ["state", "taps_here", "sort_here"] (spANet K)) : Ok P w K mg base L2.CX0 8 "_law_an_drawn" ["state", "least", "most"] (spDrawn K) := by
  obtain ⟨_, _, g_pick, k_pick, b_pick, F_pick⟩ := B0.ex
  obtain ⟨_, _, g_ct_taps, k_ct_taps, b_ct_taps, F_ct_taps⟩ := B1.ex
  obtain ⟨_, _, g_an_net, k_an_net, b_an_net, F_an_net⟩ := B2.ex
  refine Ok.mk0 D sc_an_drawn (fun vs H Q E h => ?_) (fun _ _ _ _ _ _ us hl => match us, hl with | [_, _, _], _ => rfl) (fun f cdv A outer s H vs Q E hr h => ?_)
  · obtain ⟨d, g, c, n, rfl, _⟩ := h
    rfl
  obtain ⟨d, g, c, n, rfl, hS, k⟩ := h
  have nd := sc_an_drawn.nd
  have hr3 := hr.mono (show 3 ≤ 7 by decide)
  have hr4 := hr.mono (show 4 ≤ 7 by decide)
  refine ⟨_, (pss_cons (ps_set (i := 3) nd rfl (Or.inl rfl) (pe_call F_pick hr3 rfl g_pick k_pick b_pick .nil pass0 (pa_cons (pv 0) (pa_cons (pe_lst (pa_cons pe_str (pa_cons pe_str (pa_cons pe_str pa_nil)))) pa_nil))))
    (pss_one (ps_ret (pe_call F_an_net hr rfl g_an_net k_an_net b_an_net .nil pass0 (pa_cons (pv 0) (pa_cons (pe_call F_ct_taps hr4 rfl g_ct_taps k_ct_taps b_ct_taps .nil pass0 (pa_cons (pv 0) (pa_cons (pv 1) (pa_cons (pv 2) pa_nil)))) (pa_cons (pv 3) pa_nil))))))), ?_⟩
  refine ⟨_, rfl, by show 3 ≤ sizeLine; rw [sizeLine_eq]; decide, fun l hl => ?_⟩
  have s1 := same_upd (o := .lst [.str "pipes", .str LEADS, .str HUBS]) hl
  have offl := hS.off hl
  refine ⟨d, g, c, l, n + 156, _, rfl, hS.same s1, SqL.of upd_same, offl.1, by simp, by simp, fun i x H2 hx S2 kp => ?_⟩
  obtain ⟨so, rfl⟩ : ∃ so : Str, x = .str so := by
    match i, hx with
    | 0, hx => cases hx; exact ⟨_, rfl⟩
    | 1, hx => cases hx; exact ⟨_, rfl⟩
    | 2, hx => cases hx; exact ⟨_, rfl⟩
  refine ⟨_, rfl, _, rfl, _, rfl, _, rfl, d, g, c, n + 148, rfl, S2, fun t taps H3 ht tok tin S3 kp2 => ?_⟩
  exact ⟨_, rfl, d, g, c, t, n, taps, so, rfl, S3, ht, tok, tin, fun v rs H4 hn hD h30 S4 kp3 => k v taps rs H4 hn hD h30 S4 ((Kp.of s1).trans (kp.trans (kp2.trans kp3)))⟩
/-- a drawn net is one -/
theorem drawn_ok {taps : List Str} {rs : List Raw} (h : NetD taps rs) : NetOk taps rs := by
  obtain ⟨ps, sort, pl9, psub, pnd, dr⟩ := h.ps
  have few := h.few
  have t6 := (taps_sum h.tp).2
  have tn : ∀ x ∈ taps, nameS x = true := by
    have q := h.tp
    unfold tapsS namesS at q
    simp only [Bool.and_eq_true] at q
    exact fun x hx => List.all_eq_true.mp q.1.1 x hx
  have esub : ∀ z ∈ allEnds taps rs, z ∈ ps := fun z hz => by
    unfold allEnds at hz
    rcases List.mem_append.mp hz with e | e
    · exact psub z e
    · obtain ⟨r, hr, hz⟩ := List.mem_flatMap.mp e
      exact (dr r hr).sub z hz
  have esum : ((rs.map fun r => r.ends.length)).sum ≤ rs.length * 4 := sum_le _ 4 rs fun r hr => (dr r hr).few
  refine ⟨h.tp, fun r hr => (dr r hr).right, by omega, ?_, fun ys pl => ?_, ⟨by omega, fun x hx => by have := name_len (tn x hx); omega⟩, fun r hr => ⟨fun x hx => by have := name_len (right_ends (dr r hr).right x hx); omega, by have := (dr r hr).few; omega⟩, ?_⟩
  · unfold mixS
    cases e1 : hasK LEAD rs with
    | false => rfl
    | true =>
      cases e2 : hasK HUB rs with
      | false => rfl
      | true =>
        unfold hasK at e1 e2
        obtain ⟨r1, m1, q1⟩ := List.any_eq_true.mp e1
        obtain ⟨r2, m2, q2⟩ := List.any_eq_true.mp e2
        have a := (dr r1 m1).lead (of_decide_eq_true q1)
        have b := (dr r2 m2).hub (of_decide_eq_true q2)
        rw [a] at b
        exact absurd b (by decide +kernel)
  · rw [places_len pl]
    have q : cntU (allEnds taps rs) ≤ ps.length := nodup_le (ded_nodup _) fun x hx => esub x ((ded_mem _ x).mp hx)
    omega
  · unfold allEnds
    rw [List.length_append, ← ends_sum, show scanBound = 4096 from rfl]
    omega
end
end K12
set_option maxHeartbeats 1000000
namespace K12
open PySem PySem.Spec PyProof.Rows L2 Hx RZ
/-! ### what is written is read back -/
theorem numL_head : ∀ n : Nat, 1 ≤ n → (TL.numL n)[0]? ≠ some 48 := by
  intro n
  induction n using Nat.strongRecOn with
  | _ n ih =>
    intro h
    by_cases h10 : n < 10
    · rw [TL.numL_lt h10]
      simp
      omega
    · rw [TL.numL_step (by omega)]
      have q := ih (n / 10) (by omega) (by omega)
      have ne := TL.numL_ne (n / 10)
      rw [List.getElem?_append_left (by cases e : TL.numL (n / 10) with | nil => exact absurd e ne | cons a b => simp)]
      exact q
theorem natS_tl (n : Nat) : TL.tl (natS (n : Int)) = TL.numL n := TL.tl_num n
theorem whole_nat {n : Nat} (h : n < 10 ^ 30) : wholeS (natS (n : Int)) = some n := by
  have e := natS_tl n
  have e2 : (natS (n : Int)).cps.toList = TL.numL n := e
  have len : (natS (n : Int)).length = (TL.numL n).length := by rw [TL.len_tl, e]
  have l30 := TL.numL_len (n := n) (k := 30) (by decide) h
  have l1 : 1 ≤ (TL.numL n).length := by
    cases q : TL.numL n with
    | nil => exact absurd q (TL.numL_ne n)
    | cons a b => simp
  unfold wholeS
  rw [if_pos, e2, TL.numL_val]
  refine ⟨⟨by omega, by omega⟩, ?_, ?_⟩
  · rw [e2, List.all_eq_true]
    intro c hc
    have q := TL.numL_digits n c hc
    have d : DIG.cps.toList = [48, 49, 50, 51, 52, 53, 54, 55, 56, 57] := by decide +kernel
    rw [decide_eq_true_eq, d]
    simp
    omega
  · rintro ⟨a, b⟩
    rw [e2] at b
    by_cases hn : 1 ≤ n
    · exact numL_head n hn b
    · have : n = 0 := by omega
      subst this
      rw [len, TL.numL_lt (by decide)] at a
      simp at a
theorem num_back {m : Num} (h : Num30 m) : numRead m.text = some m := by
  have ey : TL.tl SL = 47 :: [] := by decide +kernel
  cases m with
  | w i =>
    obtain ⟨n, rfl⟩ := Int.eq_ofNat_of_zero_le h.t0
    have hn : n < 10 ^ 30 := by have := h.t1; simp only [Num.top] at this; omega
    have fr : 47 ∉ TL.tl (natS (n : Int)) := by rw [natS_tl]; exact TL.numL_free (by decide)
    unfold numRead
    rw [show Num.text (.w (n : Int)) = natS (n : Int) from rfl, TL.partition_none ey fr]
    show (match wholeS (natS (n : Int)) with | none => none | some t => _) = _
    rw [whole_nat hn]
    exact if_pos (show (Str.empty).length = 0 from rfl)
  | q t b =>
    obtain ⟨t, rfl⟩ := Int.eq_ofNat_of_zero_le h.t0
    obtain ⟨b, rfl⟩ := Int.eq_ofNat_of_zero_le h.l0
    have ht : t < 10 ^ 30 := by have := h.t1; simp only [Num.top] at this; omega
    have hb : b < 10 ^ 30 := by have := h.l1; simp only [Num.low] at this; omega
    have fr : 47 ∉ TL.tl (natS (t : Int)) := by rw [natS_tl]; exact TL.numL_free (by decide)
    have ok : Num.ok (.q t b) = true := by
      have := h.ok
      unfold Num.ok0 at this
      rw [Bool.and_eq_true] at this
      exact this.1
    unfold numRead
    rw [show Num.text (.q (t : Int) (b : Int)) = natS (t : Int) ++ SL ++ natS (b : Int) from rfl, TL.partition_app ey fr]
    show (match wholeS (natS (t : Int)) with | none => none | some t => _) = _
    rw [whole_nat ht]
    show (if SL.length = 0 then _ else _) = _
    rw [if_neg (by decide +kernel), whole_nat hb]
    show (if _ then _ else _) = _
    rw [if_pos ok]
/-! words without blanks and ends of lines -/
def Plain (x : Str) : Prop := 32 ∉ TL.tl x ∧ 10 ∉ TL.tl x
theorem name_plain {x : Str} (h : nameS x = true) : Plain x := by
  unfold nameS at h
  simp only [Bool.and_eq_true] at h
  have q := h.2
  rw [List.all_eq_true] at q
  have e : (decide (32 ∈ LED.cps.toList) || decide (10 ∈ LED.cps.toList)) = false := by decide +kernel
  rw [Bool.or_eq_false_iff, decide_eq_false_iff_not, decide_eq_false_iff_not] at e
  exact ⟨fun m => e.1 (of_decide_eq_true (q 32 m)), fun m => e.2 (of_decide_eq_true (q 10 m))⟩
theorem num_plain {m : Num} (h : Num30 m) : Plain m.text := by
  cases m with
  | w i =>
    obtain ⟨n, rfl⟩ := Int.eq_ofNat_of_zero_le h.t0
    have e : TL.tl (Num.text (.w (n : Int))) = TL.numL n := natS_tl n
    unfold Plain
    rw [e]
    exact ⟨TL.numL_free (by decide), TL.numL_free (by decide)⟩
  | q t b =>
    obtain ⟨t, rfl⟩ := Int.eq_ofNat_of_zero_le h.t0
    obtain ⟨b, rfl⟩ := Int.eq_ofNat_of_zero_le h.l0
    have e : TL.tl (Num.text (.q (t : Int) (b : Int))) = TL.numL t ++ [47] ++ TL.numL b := by
      show TL.tl (natS (t : Int) ++ SL ++ natS (b : Int)) = _
      rw [TL.tl_append, TL.tl_append, natS_tl, natS_tl]
      rfl
    unfold Plain
    rw [e]
    constructor
    · simp only [List.mem_append, List.mem_singleton]
      rintro ((q | q) | q)
      · exact TL.numL_free (by decide) q
      · exact absurd q (by decide)
      · exact TL.numL_free (by decide) q
    · simp only [List.mem_append, List.mem_singleton]
      rintro ((q | q) | q)
      · exact TL.numL_free (by decide) q
      · exact absurd q (by decide)
      · exact TL.numL_free (by decide) q
theorem word_plain {r : Raw} (h : Right r) : Plain r.word := by
  unfold Plain
  cases h with
  | two k x y n hx hy hk hn =>
    rw [show Raw.word (.flat [k, x, y] n) = k from rfl]
    rcases hk with ⟨e, _⟩ | ⟨e, _⟩ <;> rw [e] <;> decide +kernel
  | hub ns n h1 h2 hn => rw [show Raw.word (.hub ns n) = HUB from rfl]; decide +kernel
theorem words_back {ws : List Str} (ne : ws ≠ []) (h : ∀ x ∈ ws, Plain x) : wordsOf (Txt.join SPC ws) = ws := TL.split_join (s := 32) (S := []) (by decide +kernel) (by decide +kernel) ne fun p hp => (h p hp).1
theorem right_words {r : Raw} (h : Right r) (hn : Num30 r.num) : ∀ x ∈ r.word :: (r.ends ++ [r.num.text]), Plain x := fun x hx => by
  rcases List.mem_cons.mp hx with e | e
  · rw [e]; exact word_plain h
  · rcases List.mem_append.mp e with e | e
    · exact name_plain (right_ends h x e)
    · rw [List.mem_singleton.mp e]; exact num_plain hn
theorem part_back {r : Raw} (h : Right r) (hn : Num30 r.num) : readPart (partLine r) = some r := by
  have ew : wordsOf (partLine r) = r.word :: (r.ends ++ [r.num.text]) := words_back (by simp) (right_words h hn)
  have el : ∀ hne, (r.word :: (r.ends ++ [r.num.text])).getLast hne = r.num.text := fun hne => by
    have q := List.getLast_cons (a := r.word) (l := r.ends ++ [r.num.text]) (by simp)
    rw [q]
    simp
  unfold readPart
  rw [ew]
  show (match numRead ((r.word :: (r.ends ++ [r.num.text])).getLast (by simp)) with | none => none | some n => partOf r.word (((r.word :: (r.ends ++ [r.num.text])).take (r.ends ++ [r.num.text]).length).drop 1) n) = some r
  rw [el, num_back hn]
  have ed : ((r.word :: (r.ends ++ [r.num.text])).take (r.ends ++ [r.num.text]).length).drop 1 = r.ends := by
    rw [List.length_append]
    simp
  rw [ed]
  cases h with
  | two k x y n hx hy hk hn2 =>
    have nk : ¬ k = HUB := by
      rcases hk with ⟨e, _⟩ | ⟨e, _⟩ <;> rw [e]
      · exact pipe_hub
      · exact lead_hub
    show partOf k [x, y] n = _
    unfold partOf
    rw [if_neg nk]
    exact if_pos ⟨⟨hx, hy⟩, hk⟩
  | hub ns n h1 h2 hn2 =>
    show partOf HUB ns n = _
    unfold partOf
    rw [if_pos rfl, if_pos ⟨h1, h2⟩]
theorem taps_names {taps : List Str} (h : tapsS taps = true) : ∀ x ∈ taps, nameS x = true := by
  unfold tapsS namesS at h
  simp only [Bool.and_eq_true] at h
  exact fun x hx => List.all_eq_true.mp h.1.1 x hx
theorem taps_plain : Plain TAPS := by unfold Plain; decide +kernel
theorem taps_back {taps : List Str} (h : tapsS taps = true) : readTaps (tapsLine taps) = some taps := by
  have ew : wordsOf (tapsLine taps) = TAPS :: taps := words_back (by simp) fun x hx => by
    rcases List.mem_cons.mp hx with e | e
    · rw [e]; exact taps_plain
    · exact name_plain (taps_names h x e)
  unfold readTaps
  rw [ew, if_pos ⟨rfl, h⟩]
  rfl
/-! the lines of the text -/
theorem join_plain {ws : List Str} (h : ∀ x ∈ ws, 10 ∉ TL.tl x) : 10 ∉ TL.tl (Txt.join SPC ws) := by
  rw [TL.join_eq, TL.tl_join]
  have e : TL.tl SPC = [32] := by decide +kernel
  rw [e]
  have gen : ∀ ps : List (List Nat), (∀ p ∈ ps, 10 ∉ p) → 10 ∉ TL.joinL [32] ps := by
    intro ps
    induction ps with
    | nil => intro _; simp [TL.joinL]
    | cons p r ih =>
      intro hp
      cases r with
      | nil => exact hp p List.mem_cons_self
      | cons q r =>
        have i2 := ih fun x hx => hp x (List.mem_cons_of_mem _ hx)
        show 10 ∉ p ++ ([32] ++ TL.joinL [32] (q :: r))
        intro m
        rcases List.mem_append.mp m with m | m
        · exact hp p List.mem_cons_self m
        · rcases List.mem_append.mp m with m | m
          · simp at m
          · exact i2 m
  refine gen _ fun p hp => ?_
  obtain ⟨x, hx, rfl⟩ := List.mem_map.mp hp
  exact h x hx
theorem lines_plain {taps : List Str} {rs : List Raw} (ht : tapsS taps = true) (hr : ∀ r ∈ rs, Right r ∧ Num30 r.num) : ∀ x ∈ netLines taps rs, 10 ∉ TL.tl x := fun x hx => by
  rcases List.mem_cons.mp hx with e | e
  · rw [e]
    refine join_plain fun y hy => ?_
    rcases List.mem_cons.mp hy with e | e
    · rw [e]; exact taps_plain.2
    · exact (name_plain (taps_names ht y e)).2
  · obtain ⟨r, hr2, rfl⟩ := List.mem_map.mp e
    exact join_plain fun y hy => (right_words (hr r hr2).1 (hr r hr2).2 y hy).2
theorem ended : ∀ ls : List Str, Txt.join "" (ls.map (· ++ NL)) = Txt.join NL (ls ++ [Str.ofString ""])
  | [] => by decide +kernel
  | x :: ls => by
    have ih := ended ls
    rw [TL.join_eq, TL.join_eq] at ih ⊢
    have ih2 := congrArg TL.tl ih
    rw [TL.tl_join, TL.tl_join] at ih2
    refine TL.ext_tl ?_
    rw [TL.tl_join, TL.tl_join]
    have e0 : TL.tl (Str.ofString "") = [] := by decide +kernel
    rw [e0] at ih2 ⊢
    have lhs : TL.joinL [] (((x :: ls).map (· ++ NL)).map TL.tl) = TL.tl x ++ (TL.tl NL ++ TL.joinL [] ((ls.map (· ++ NL)).map TL.tl)) := by
      cases ls with
      | nil =>
        show TL.tl (x ++ NL) = _
        rw [TL.tl_append]
        simp [TL.joinL]
      | cons y r =>
        show TL.tl (x ++ NL) ++ ([] ++ TL.joinL [] (((y :: r).map (· ++ NL)).map TL.tl)) = _
        rw [TL.tl_append, List.nil_append, List.append_assoc]
    have rhs : TL.joinL (TL.tl NL) (((x :: ls) ++ [Str.ofString ""]).map TL.tl) = TL.tl x ++ (TL.tl NL ++ TL.joinL (TL.tl NL) ((ls ++ [Str.ofString ""]).map TL.tl)) := by
      cases ls with
      | nil => rfl
      | cons y r => rfl
    rw [lhs, ih2]
    exact rhs.symm
theorem lines_back {taps : List Str} {rs : List Raw} (ht : tapsS taps = true) (hr : ∀ r ∈ rs, Right r ∧ Num30 r.num) : linesOf (netText taps rs) = netLines taps rs ++ [Str.ofString ""] := by
  unfold netText
  rw [ended]
  refine TL.split_join (s := 10) (S := []) (by decide +kernel) (by decide +kernel) (by simp) fun p hp => ?_
  rcases List.mem_append.mp hp with e | e
  · exact lines_plain ht hr p e
  · rw [List.mem_singleton.mp e]
    decide +kernel
theorem fits_mono {taps : List Str} {rs qs : List Raw} (h : fitsS taps (rs ++ qs) = true) : fitsS taps rs = true := by
  unfold fitsS at h ⊢
  simp only [Bool.and_eq_true, decide_eq_true_eq, Bool.not_eq_true'] at h ⊢
  obtain ⟨h1, h2, h3⟩ := h
  refine ⟨by rw [List.length_append] at h1; omega, ?_, ?_⟩
  · unfold mixS hasK at h2 ⊢
    rw [List.any_append, List.any_append] at h2
    cases e1 : rs.any fun r => decide (r.word = LEAD) with
    | false => rfl
    | true =>
      cases e2 : rs.any fun r => decide (r.word = HUB) with
      | false => rfl
      | true => rw [e1, e2] at h2; simp at h2
  · refine Nat.le_trans (nodup_le (ded_nodup _) fun x hx => (ded_mem _ x).mpr ?_) h3
    have m := (ded_mem _ x).mp hx
    unfold allEnds at m ⊢
    rw [List.flatMap_append, ← List.append_assoc]
    exact List.mem_append_left _ m
theorem parts_back {taps : List Str} : ∀ (rs done : List Raw) (k : Nat), (∀ r ∈ rs, Right r ∧ Num30 r.num) → fitsS taps (done ++ rs) = true → readParts taps k done (rs.map partLine) = .inr (done ++ rs)
  | [], done, k, _, _ => by simp [readParts]
  | r :: rs, done, k, h, hf => by
    have q := h r List.mem_cons_self
    have e : done ++ r :: rs = (done ++ [r]) ++ rs := by simp
    rw [e] at hf
    have ih := parts_back rs (done ++ [r]) (k + 1) (fun x hx => h x (List.mem_cons_of_mem _ hx)) hf
    show (match readPart (partLine r) with | none => Sum.inl (k + 1) | some r => if fitsS taps (done ++ [r]) = true then readParts taps (k + 1) (done ++ [r]) (rs.map partLine) else Sum.inl (k + 1)) = _
    rw [part_back q.1 q.2]
    show (if fitsS taps (done ++ [r]) = true then _ else _) = _
    rw [if_pos (fits_mono hf), ih, e]
theorem ok_fits {taps : List Str} {rs : List Raw} (ok : NetOk taps rs) (ys : List Str) (hy : Places ys (allEnds taps rs)) : fitsS taps rs = true := by
  have q := ok.places ys hy
  rw [places_len hy] at q
  unfold fitsS
  rw [ok.mix, decide_eq_true ok.few, decide_eq_true q]
  rfl
/-- what is written is read back -/
theorem net_back {taps : List Str} {rs : List Raw} (ht : tapsS taps = true) (hr : ∀ r ∈ rs, Right r ∧ Num30 r.num) (hf : fitsS taps rs = true) : readNet (netText taps rs) = .inr (taps, rs) := by
  have el := lines_back ht hr
  have em : middle (tapsLine taps :: (rs.map partLine ++ [Str.ofString ""])) = rs.map partLine := by
    unfold middle
    simp
  unfold readNet
  rw [el]
  show (match readTaps (tapsLine taps) with
    | none => .inl 1
    | some taps2 => match readParts taps2 1 [] (middle (tapsLine taps :: (rs.map partLine ++ [Str.ofString ""]))) with
      | .inl n => .inl n
      | .inr rs2 => if (tapsLine taps :: (rs.map partLine ++ [Str.ofString ""])).getLast (by simp) = "" then .inr (taps2, rs2) else .inl ((rs.map partLine ++ [Str.ofString ""]).length + 1)) = (.inr (taps, rs) : Nat ⊕ (List Str × List Raw))
  rw [taps_back ht, em]
  show (match readParts taps 1 [] (rs.map partLine) with
      | .inl n => .inl n
      | .inr rs2 => if (tapsLine taps :: (rs.map partLine ++ [Str.ofString ""])).getLast (by simp) = "" then .inr (taps, rs2) else .inl ((rs.map partLine ++ [Str.ofString ""]).length + 1)) = (.inr (taps, rs) : Nat ⊕ (List Str × List Raw))
  rw [parts_back rs [] 1 hr (by simpa using hf)]
  show (if (tapsLine taps :: (rs.map partLine ++ [Str.ofString ""])).getLast (by simp) = "" then Sum.inr (taps, [] ++ rs) else _) = _
  rw [if_pos (by rw [List.getLast_cons (by simp)]; simp)]
  rfl
end K12
set_option maxHeartbeats 1000000
namespace K12
open PySem PySem.Spec PyProof.Rows L2 Hx RZ
theorem ints_of_all : ∀ {acc : List V}, (∀ y ∈ acc, ∃ z : Int, y = .int z) → ∃ cs : List Int, acc = cs.map V.int
  | [], _ => ⟨[], rfl⟩
  | y :: r, h => by
    obtain ⟨z, rfl⟩ := h y List.mem_cons_self
    obtain ⟨cs, e⟩ := ints_of_all fun x hx => h x (List.mem_cons_of_mem _ hx)
    exact ⟨z :: cs, by rw [e]; rfl⟩
section
variable {P : Program} {w : World} {K : PySem.W.Frag} {mg : Str → Option Value} {base : Heap}
def spBegun (K : PySem.W.Frag) : Sp := fun vs H Q _ => ∃ (s : Addr) (ns : List Int), vs = [.ref s] ∧ SqL K H s (ns.map V.int) ∧ ns.length ≤ 63 ∧ ∀ d g c H', St H' d g c 999999999 → Same H H' → Q (.ref d) H'
theorem sc_begun : FnScope ["script", "great", "cell"] ["script"] (defScope sL_begun) := ⟨rfl, rfl, rfl, by decide +kernel, rfl, by decide +kernel, by decide +kernel⟩
theorem ok_begun (D : Dn K mg "_law_begun" sL_begun) (h_abs : mg "abs" = none) : Ok P w K mg base L2.CX0 1 "_law_begun" ["script"] (spBegun K) := by
  refine Ok.mk0 D sc_begun (fun vs H Q E h => ?_) (fun _ _ _ _ _ _ us hl => match us, hl with | [_], _ => rfl) (fun f cdv A outer s H vs Q E hr h => ?_)
  · obtain ⟨x, ns, rfl, _⟩ := h
    rfl
  obtain ⟨s0, ns, rfl, hs, hl, k⟩ := h
  have nd := sc_begun.nd
  refine ⟨_, (pss_cons (ps_setLc (i := 1) (own := [("cell", 2)]) (g := gName 2) rfl nd rfl rfl (sw_true rfl rfl rfl (by decide +kernel)) (pi_list (pv 0)) (blkOk_by (own := [("cell", 2)]) (N := ["script", "great", "cell"]) (sc := defScope sL_begun) (by decide +kernel)) (fun _ _ _ _ _ => pg_name (i := 2) nd rfl (Or.inl rfl)) (fun _ _ _ _ _ => pts_one (pt_cmpR op_ge (pe_callB call_abs (by rfl) h_abs (by decide +kernel) (pa_cons (pv 2) pa_nil)) (pe_op op_pow pe_int pe_int) (nomark _))) (fun _ _ _ _ _ => (pe_op op_sub (pe_callB call_abs (by rfl) h_abs (by decide +kernel) (pa_cons (pv 2) pa_nil)) (pe_op op_pow pe_int pe_int))))
    (pss_one (ps_ret (pe_disp (pps_cons pe_str (pv 1) (pps_cons pe_str (pe_lc (own := [("cell", 2)]) (g := gName 2) (tt := tYes) rfl nd (pi_list (pv 0)) (blkOk_by (own := [("cell", 2)]) (N := ["script", "great", "cell"]) (sc := defScope sL_begun) (by decide +kernel)) (fun _ _ _ _ _ => pg_name (i := 2) nd rfl (Or.inl rfl)) (fun _ _ _ _ _ => pts_nil) (fun _ _ _ _ _ => (pe_callB call_abs (by rfl) h_abs (by decide +kernel) (pa_cons (pv 2) pa_nil)))) (pps_cons pe_str pe_int (pps_cons pe_str pe_int pps_nil)))) (by rfl) (by rfl) (fun z => by cases z) (by decide))))), ?_⟩
  have cp : CPow 10 18 := ⟨by decide, by decide, by decide⟩
  refine ⟨_, rfl, s0, rfl, ⟨_, hs⟩, fun g hg => ?_⟩
  refine lc_any (n := ns.length) (J := Itl K s0) (fun i H1 => ∃ gs : List Int, Same H H1 ∧ H1 g = some (.lst (gs.map V.int)) ∧ gs.length ≤ i) ⟨[], same_upd hg, upd_same, Nat.le_refl _⟩ (fun i H1 hi ⟨_, s1, _⟩ => ⟨_, _, same_seqL s1 hs, List.getElem?_eq_getElem (by simpa using hi)⟩) (fun H1 ⟨_, s1, _⟩ => ⟨_, same_seqL s1 hs, by simp⟩) ?_ ?_
  · rintro i x H1 H' hi ⟨gs, s1, eg, gl⟩ ⟨e9, yx⟩
    subst e9
    obtain ⟨z, rfl⟩ : ∃ z : Int, x = .int z := by
      have q := yx _ (same_seqL s1 hs)
      rw [List.getElem?_map] at q
      cases e : ns[i]? with
      | none => rw [e] at q; cases q
      | some z => rw [e] at q; exact ⟨z, (Option.some.inj q).symm⟩
    refine ⟨rfl, _, rfl, z, rfl, 10, 18, rfl, rfl, cp, _, _, rfl, rfl, _, rfl, ?_⟩
    by_cases hz : (10 : Int) ^ (18 : Int).toNat ≤ (if z < 0 then -z else z)
    · rw [decide_eq_true hz]
      refine iteT ⟨_, rfl, z, rfl, 10, 18, rfl, rfl, cp, _, _, rfl, rfl, gs.map V.int, eg, by rw [List.length_map, sizeLine_eq]; omega, gs ++ [(if z < 0 then -z else z) - (10 : Int) ^ (18 : Int).toNat], fun b u e => ?_, ?_, ?_⟩
      · rw [upd_ne (ne_of_none e hg)]
        exact s1 _ _ e
      · rw [upd_same, List.map_append]
        rfl
      · rw [List.length_append]; simp; omega
    · rw [decide_eq_false hz]
      exact iteF ⟨gs, s1, eg, by omega⟩
  · rintro H1 ⟨gs, s1, eg, gl⟩
    intro d hd
    have sd := same_upd (o := .dK []) hd
    refine ⟨_, rfl, _, rfl, s0, rfl, ⟨_, same_seqL (s1.trans sd) hs⟩, fun c hc => ?_⟩
    refine lc_rel (n := ns.length) (J := Itl K s0) (fun i y _ => ∃ z : Int, y = .int z) (fun _ _ _ _ _ h => h) hc (by rw [sizeLine_eq]; omega) (fun i H2 hi s2 => ⟨_, _, same_seqL (s1.trans (sd.trans s2)) hs, List.getElem?_eq_getElem (by simpa using hi)⟩) (fun H2 s2 => ⟨_, same_seqL (s1.trans (sd.trans s2)) hs, by simp⟩) ?_ ?_
    · rintro i x H2 H' F hi s2 ⟨e9, yx⟩ kk
      subst e9
      obtain ⟨z, rfl⟩ : ∃ z : Int, x = .int z := by
        have q := yx _ (same_seqL (s1.trans (sd.trans s2)) hs)
        rw [List.getElem?_map] at q
        cases e : ns[i]? with
        | none => rw [e] at q; cases q
        | some z => rw [e] at q; exact ⟨z, (Option.some.inj q).symm⟩
      exact ⟨rfl, _, rfl, z, rfl, kk _ _ ⟨_, rfl⟩ (Same.refl _)⟩
    · intro acc H2 s2 ec hl2 hy2
      obtain ⟨cs, rfl⟩ := ints_of_all (acc := acc) fun y hy => by
        obtain ⟨i, hi⟩ := List.getElem?_of_mem hy
        exact hy2 i y hi
      have ed := s2 _ _ (upd_same (H := H1) (a := d) (o := .dK []))
      have eg2 := s2 _ _ (sd _ _ eg)
      have ndg : d ≠ g := fun e => by rw [e, eg] at hd; cases hd
      have ndc : d ≠ c := fun e => by rw [← e, ed] at ec; cases ec
      have ncg : c ≠ g := fun e => by
        have q := sd _ _ eg
        rw [e] at hc
        rw [hc] at q
        cases q
      refine ⟨ed, kvS g c 0 0, rfl, by show 4 ≤ 15; decide, ?_⟩
      have em : mergeK [] (kvS g c 0 0) = kvS g c 0 0 := by
        unfold kvS
        kernel_rfl
      rw [em]
      refine k d g c _ ⟨gs, cs, 0, 0, upd_same, by rw [upd_ne ndg.symm]; exact eg2, by rw [upd_ne ndc.symm]; exact ec, ncg, by rw [List.length_map] at hl2; omega, by decide, by decide⟩ fun b u e => ?_
      have e1 := s1 _ _ e
      rw [upd_ne (ne_of_none e1 hd)]
      exact s2 _ _ (sd _ _ e1)
end
end K12
set_option maxHeartbeats 1000000
namespace K12
open PySem PySem.Spec PyProof.Rows L2 Hx RZ
/-! ### a text near another -/
/-- a drawn net's text is short -/
theorem drawn_short {taps : List Str} {rs : List Raw} (h : NetD taps rs) (hn : ∀ r ∈ rs, Num30 r.num) : (netText taps rs).length ≤ 1100 := by
  obtain ⟨ps, sort, pl9, psub, pnd, dr⟩ := h.ps
  have few := h.few
  have a := taps_len h.tp
  have b := parts_sum rs fun r hr => ⟨(dr r hr).right, (hn r hr).fit⟩
  have c : ((rs.map fun r => r.ends.length)).sum ≤ rs.length * 4 := sum_le _ 4 rs fun r hr => (dr r hr).few
  rw [ends_sum] at c
  have e : NL.length = 1 := rfl
  have j := join_len (Str.ofString "") ((netLines taps rs).map (· ++ NL))
  have e0 : (Str.ofString "").length = 0 := rfl
  rw [e0, Nat.mul_zero, Nat.add_zero] at j
  refine Nat.le_trans j ?_
  unfold netLines
  rw [List.map_cons, List.map_cons, List.sum_cons, append_len, List.map_map]
  have g : (List.map ((fun x : Str => x.length) ∘ fun x => x ++ NL) (rs.map partLine)).sum = ((rs.map partLine).map (fun x => (x ++ NL).length)).sum := rfl
  rw [g]
  omega
abbrev lenSum (l : List Str) : Nat := (l.map (·.length)).sum
theorem lenSum_app (a b : List Str) : lenSum (a ++ b) = lenSum a + lenSum b := by
  unfold lenSum
  rw [List.map_append, List.sum_append]
theorem lenSum_set : ∀ {xs : List Str} {i : Nat} {a : Str} (b : Str), xs[i]? = some a → lenSum (xs.set i b) + a.length = lenSum xs + b.length
  | [], _, _, _, h => by simp at h
  | x :: r, 0, a, b, h => by
    cases h
    show lenSum (b :: r) + x.length = lenSum (x :: r) + b.length
    simp only [lenSum, List.map_cons, List.sum_cons]
    omega
  | x :: r, i + 1, a, b, h => by
    have q := lenSum_set (xs := r) (i := i) b (by simpa using h)
    show lenSum (x :: r.set i b) + a.length = lenSum (x :: r) + b.length
    simp only [lenSum, List.map_cons, List.sum_cons] at q ⊢
    omega
theorem lenSum_swap {xs : List Str} {i j : Nat} {a b : Str} (hi : xs[i]? = some a) (hj : xs[j]? = some b) : lenSum ((xs.set i b).set j a) = lenSum xs := by
  have q1 := lenSum_set b hi
  have e : (xs.set i b)[j]? = some b := by
    by_cases h : i = j
    · subst h
      have hl : i < xs.length := by
        rw [List.getElem?_eq_some_iff] at hi
        exact hi.1
      rw [List.getElem?_set_self hl]
    · rw [List.getElem?_set_ne h]
      exact hj
  have q2 := lenSum_set a e
  omega
theorem lenSum_cut (xs : List Str) (k : Nat) : lenSum (xs.take k) + lenSum (xs.drop k) = lenSum xs := by
  rw [← lenSum_app, List.take_append_drop]
theorem lenSum_out (xs : List Str) (k : Nat) : lenSum (xs.take k) + lenSum (xs.drop (k + 1)) ≤ lenSum xs := by
  have a := lenSum_cut xs k
  have b := lenSum_cut (xs.drop k) 1
  rw [List.drop_drop] at b
  omega
theorem ixN_at {n j : Nat} (h : j < n) : ixN n (j : Int) = some j := by
  unfold ixN
  rw [if_pos (by omega), if_pos (by omega)]
  exact congrArg some (by omega)
abbrev signsNear : List Str := [" ", "\n", "a", "1", "0", "/", "-", "Z", "9", "b", "_"]
theorem signsNear_one : (signsNear.all fun s => decide (s.length ≤ 1)) = true := by decide +kernel
abbrev linesNear1 : List Str := ["", "pipe a b", "lead b a 1", "hub a b 1", "hub a 1", "pipe a b 2/4", "pipe a b 01", Str.ofString "pipe a b 1" ++ mulS "0" 30]
abbrev linesNear2 : List Str := [Str.ofString "pipe a b 1" ++ mulS "0" 29, "lead a a 1", "pipe a b 3/1", "taps a b", "pipe a b  1", "hub a b c 0", "pipe b a 1"]
abbrev linesNear3 : List Str := [Str.ofString "pipe a b 1/" ++ mulS "1" 31, Str.ofString "pipe a b 1/" ++ mulS "1" 30, Str.ofString "pipe a b " ++ mulS "1" 31 ++ "/2", Str.ofString "pipe a b " ++ mulS "1" 30 ++ "/2"]
theorem linesNear_short : ((linesNear1 ++ linesNear2 ++ linesNear3).all fun s => decide (s.length ≤ 45)) = true := by decide +kernel
section
variable {P : Program} {w : World} {K : PySem.W.Frag} {mg : Str → Option Value} {base : Heap}
def spNear : Sp := fun vs H Q _ => ∃ (d g c : Addr) (n : Nat) (x : Str), vs = [.ref d, .str x] ∧ St H d g c (n + 5) ∧ 0 < x.length ∧ x.length ≤ 1100 ∧ ∀ (y : Str) H', y.length ≤ 3000 → St H' d g c n → Kp d g H H' → Q (.str y) H'
theorem sc_an_near_text : FnScope ["state", "told", "way", "spot", "sign", "lines_here", "twin", "some"] ["state", "told"] (defScope sL_an_near_text) := ⟨rfl, rfl, rfl, by decide +kernel, rfl, by decide +kernel, by decide +kernel⟩
theorem ok_an_near_text (D : Dn K mg "_law_an_near_text" sL_an_near_text) (B0 : Ok P w K mg base L2.CX0 2 "_law_draw" ["state", "room"] spDraw) (B1 : Ok P w K mg base L2.CX0 3 "_law_pick" ["state", "some"] (spPick K)) (h_len : mg "len" = none) : Ok P w K mg base L2.CX0 4 "_law_an_near_text" ["state", "told"] spNear := by
  obtain ⟨_, _, g_draw, k_draw, b_draw, F_draw⟩ := B0.ex
  obtain ⟨_, _, g_pick, k_pick, b_pick, F_pick⟩ := B1.ex
  refine Ok.mk0 D sc_an_near_text (fun vs H Q E h => ?_) (fun _ _ _ _ _ _ us hl => match us, hl with | [_, _], _ => rfl) (fun f cdv A outer s H vs Q E hr h => ?_)
  · obtain ⟨d, g, c, n, x, rfl, _⟩ := h
    rfl
  obtain ⟨d, g, c, n, x, rfl, hS, x0, xl, k⟩ := h
  have nd := sc_an_near_text.nd
  have hr2 := hr.mono (show 2 ≤ 3 by decide)
  refine ⟨_, (pss_cons (ps_par (i := 2) (j := 3) (by rfl) nd rfl rfl (by decide) rfl rfl (pa_cons (pe_call F_draw hr2 rfl g_draw k_draw b_draw .nil pass0 (pa_cons (pv 0) (pa_cons pe_int pa_nil))) (pa_cons (pe_call F_draw hr2 rfl g_draw k_draw b_draw .nil pass0 (pa_cons (pv 0) (pa_cons (pe_callB call_len_str (by rfl) h_len (by decide +kernel) (pa_cons (pv 1) pa_nil)) pa_nil))) pa_nil)) (by rfl))
  (pss_cons (ps_if (pt_cmpR op_lt (pv 2) pe_int (nomark _))
    (pss_cons (ps_set (i := 4) nd rfl (Or.inl rfl) (pe_call F_pick hr rfl g_pick k_pick b_pick .nil pass0 (pa_cons (pv 0) (pa_cons (pe_lst (pa_cons pe_str (pa_cons pe_str (pa_cons pe_str (pa_cons pe_str (pa_cons pe_str (pa_cons pe_str (pa_cons pe_str (pa_cons pe_str (pa_cons pe_str (pa_cons pe_str (pa_cons pe_str pa_nil)))))))))))) pa_nil))))
    (pss_one (ps_ret (pe_op op_add_str (pe_op op_add_str (pe_slice sl_str (pv 1) po_none (po_some (pv 3))) (pv 4)) (pe_slice sl_str (pv 1) (po_some (pe_op op_sub (pe_op op_add (pv 3) pe_int) (pv 2))) po_none)))))
    pss_nil)
  (pss_cons (ps_if (pt_cmpR op_eq (pv 2) pe_int (nomark _))
    (pss_one (ps_ret (pe_op op_add_str (pe_slice sl_str (pv 1) po_none (po_some (pv 3))) (pe_slice sl_str (pv 1) (po_some (pe_op op_add (pv 3) pe_int)) po_none))))
    pss_nil)
  (pss_cons (ps_set (i := 5) nd rfl (Or.inl rfl) (pe_split (pv 1) pe_str))
  (pss_cons (ps_par (i := 3) (j := 6) (by rfl) nd rfl rfl (by decide) rfl rfl (pa_cons (pe_call F_draw hr2 rfl g_draw k_draw b_draw .nil pass0 (pa_cons (pv 0) (pa_cons (pe_lenS rfl h_len (pv 5)) pa_nil))) (pa_cons (pe_call F_draw hr2 rfl g_draw k_draw b_draw .nil pass0 (pa_cons (pv 0) (pa_cons (pe_lenS rfl h_len (pv 5)) pa_nil))) pa_nil)) (by rfl))
  (C8.pss_cut (ps_if (pt_cmpR op_eq (pv 2) pe_int (nomark _))
    (pss_one (ps_asg (pe_tup (pa_cons (pe_ix ix_list (pv 5) (pv 6) (fun _ _ => rfl)) (pa_cons (pe_ix ix_list (pv 5) (pv 3) (fun _ _ => rfl)) pa_nil))) (pg_tup (by rfl) (pgs_cons (pg_sub (pv 5) (pv 3) set_list) (pgs_cons (pg_sub (pv 5) (pv 6) set_list) pgs_nil)))))
    pss_nil)
  (C8.pss_cut (ps_if (pt_cmpR op_eq (pv 2) pe_int (nomark _))
    (pss_cons (ps_set (i := 7) nd rfl (Or.inl rfl) (pe_lst (pa_cons pe_str (pa_cons pe_str (pa_cons pe_str (pa_cons pe_str (pa_cons pe_str (pa_cons pe_str (pa_cons pe_str (pa_cons (pe_op op_add_str pe_str (pe_op op_mul_str pe_str pe_int)) pa_nil))))))))))
    (pss_cons (ps_set (i := 7) nd rfl (Or.inl rfl) (pe_op op_cat (pv 7) (pe_lst (pa_cons (pe_op op_add_str pe_str (pe_op op_mul_str pe_str pe_int)) (pa_cons pe_str (pa_cons pe_str (pa_cons pe_str (pa_cons pe_str (pa_cons pe_str (pa_cons pe_str pa_nil))))))))))
    (pss_cons (ps_set (i := 7) nd rfl (Or.inl rfl) (pe_op op_cat (pv 7) (pe_lst (pa_cons (pe_op op_add_str pe_str (pe_op op_mul_str pe_str pe_int)) (pa_cons (pe_op op_add_str pe_str (pe_op op_mul_str pe_str pe_int)) (pa_cons (pe_op op_add_str (pe_op op_add_str pe_str (pe_op op_mul_str pe_str pe_int)) pe_str) (pa_cons (pe_op op_add_str (pe_op op_add_str pe_str (pe_op op_mul_str pe_str pe_int)) pe_str) pa_nil)))))))
    (pss_one (ps_set (i := 5) nd rfl (Or.inl rfl) (pe_op op_cat (pe_op op_cat (pe_slice sl_list (pv 5) po_none (po_some (pv 3))) (pe_lst (pa_cons (pe_call F_pick hr rfl g_pick k_pick b_pick .nil pass0 (pa_cons (pv 0) (pa_cons (pv 7) pa_nil))) pa_nil))) (pe_slice sl_list (pv 5) (po_some (pv 3)) po_none)))))))
    pss_nil)
  (C8.pss_cut (ps_if (pt_cmpR op_eq (pv 2) pe_int (nomark _))
    (pss_one (ps_set (i := 5) nd rfl (Or.inl rfl) (pe_op op_cat (pe_slice sl_list (pv 5) po_none (po_some (pv 3))) (pe_slice sl_list (pv 5) (po_some (pe_op op_add (pv 3) pe_int)) po_none))))
    pss_nil)
  (pss_one (ps_ret (pe_join pe_str (pv 5)))))))))))), ?_⟩
  have lx : x.length ≤ sizeLine := by rw [sizeLine_eq]; omega
  have cl : ∀ lo hi, (cutS x lo hi).length ≤ 1100 := fun lo hi => Nat.le_trans (cutS_length x lo hi) xl
  have sl : ∀ m : Nat, m ≤ 100000 → m ≤ sizeLine := fun m h => by rw [sizeLine_eq]; omega
  refine ⟨_, rfl, d, g, c, n + 4, 6, rfl, hS, by decide, by decide +kernel, fun wy H1 w0 w6 S1 kp1 => ?_⟩
  refine ⟨_, rfl, _, rfl, x, rfl, lx, d, g, c, n + 3, x.length, rfl, S1, by omega, small9000 (by omega), fun p H2 p0 p1 S2 kp2 => ⟨_, _, rfl, ?_⟩⟩
  obtain ⟨m, rfl⟩ := Int.eq_ofNat_of_zero_le p0
  have kp := kp1.trans kp2
  refine ⟨_, rfl, _, _, rfl, rfl, _, rfl, ?_⟩
  by_cases hw : wy < 2
  · rw [decide_eq_true hw]
    refine iteT ⟨_, rfl, sl _ (by simp), fun l hl => ?_⟩
    have s1 := same_upd (o := .lst (signsNear.map V.str)) hl
    refine ⟨d, g, c, l, n + 2, signsNear.map V.str, rfl, S2.same s1, SqL.of upd_same, (S2.off hl).1, by simp, by simp, fun i y H3 hy S3 kp3 => ?_⟩
    obtain ⟨sg, hsg, rfl⟩ := strs_at hy
    have s1l : sg.length ≤ 1 := of_decide_eq_true (List.all_eq_true.mp signsNear_one sg (List.mem_of_getElem? hsg))
    refine ⟨_, rfl, ?_⟩
    show tNoPart _ _ _
    unfold tNoPart
    have c1 := cl none (some (m : Int))
    have c2 := cl (some ((m : Int) + 1 - wy)) none
    refine ⟨_, rfl, _, rfl, x, rfl, lx, _, rfl, _, _, rfl, rfl, sl _ (by omega), _, rfl, _, rfl, _, _, rfl, rfl, _, rfl, _, _, rfl, rfl, _, rfl, ?_⟩
    refine ⟨x, rfl, lx, _, _, rfl, rfl, sl _ (by rw [append_len]; omega), k _ _ (by rw [append_len, append_len]; omega) (S3.less (by omega)) (kp.trans ((Kp.of s1).trans kp3))⟩
  rw [decide_eq_false hw]
  refine iteF ⟨_, rfl, rfl, _, rfl, ?_⟩
  rw [deq_int]
  by_cases hw2 : wy = 2
  · rw [decide_eq_true hw2]
    refine iteT ⟨_, rfl, ?_⟩
    show tNoPart _ _ _
    unfold tNoPart
    have c1 := cl none (some (m : Int))
    have c2 := cl (some ((m : Int) + 1)) none
    refine ⟨_, rfl, _, rfl, x, rfl, lx, _, rfl, _, rfl, _, _, rfl, rfl, _, rfl, ?_⟩
    exact ⟨x, rfl, lx, _, _, rfl, rfl, sl _ (by omega), k _ _ (by rw [append_len]; omega) (S2.less (by omega)) kp⟩
  rw [decide_eq_false hw2]
  refine iteF ⟨_, rfl, ⟨_, rfl⟩, x, NL, rfl, rfl, by decide +kernel, sl _ (by omega), fun l hl => ?_⟩
  have s1 := same_upd (o := .lst ((Txt.split x NL).map V.str)) hl
  have el : (upd H2 l (.lst ((Txt.split x NL).map V.str))) l = some (.lst ((Txt.split x NL).map V.str)) := upd_same
  have wsum := split_sum (x := x) one_nl
  have wcnt := PyProof.Rows.split_le x NL
  have wpos : 0 < (Txt.split x NL).length := by
    obtain ⟨a, b, e⟩ := split_cons x NL
    rw [e]; simp
  have offl := S2.off hl
  have S2' := S2.same s1
  have kp' : Kp d g H (upd H2 l (.lst ((Txt.split x NL).map V.str))) := kp.trans (Kp.of s1)
  generalize upd H2 l (.lst ((Txt.split x NL).map V.str)) = H3 at el S2' kp' ⊢
  generalize Txt.split x NL = ls at el wsum wcnt wpos
  refine ⟨_, rfl, _, rfl, l, _, rfl, .inl (SqL.of el), d, g, c, n + 2, _, rfl, S2', by rw [List.length_map]; omega, small9000 (by rw [List.length_map]; omega), fun p H4 p0' p1' S4 kp4 => ?_⟩
  have el4 := kp4 _ _ el offl.2 offl.1
  refine ⟨_, rfl, _, rfl, l, _, rfl, .inl (SqL.of el4), d, g, c, n + 1, _, rfl, S4, by rw [List.length_map]; omega, small9000 (by rw [List.length_map]; omega), fun q H5 q0 q1 S5 kp5 => ⟨_, _, rfl, ?_⟩⟩
  have el5 := kp5 _ _ el4 offl.2 offl.1
  obtain ⟨i, rfl⟩ := Int.eq_ofNat_of_zero_le p0'
  obtain ⟨j, rfl⟩ := Int.eq_ofNat_of_zero_le q0
  rw [List.length_map] at p1' q1
  have hi : i < ls.length := by omega
  have hj : j < ls.length := by omega
  have kp5' : Kp d g H H5 := kp'.trans (kp4.trans kp5)
  let Mid : Nat → Nat → L2.St → Hp → Prop := fun z b σ H' => ∃ (l' : Addr) (ys : List Str) (o7 : Option V), σ = [some (.ref d), some (.str x), some (.int wy), some (.int (i : Int)), none, some (.ref l'), some (.int (j : Int)), o7] ∧ H' l' = some (.lst (ys.map V.str)) ∧ l' ≠ g ∧ l' ≠ d ∧ lenSum ys ≤ x.length + b ∧ ys.length ≤ x.length + 2 + b ∧ (∀ q, H q = none → q ≠ g) ∧ St H' d g c z ∧ Kp d g H H'
  have hg : ∀ q, H q = none → q ≠ g := fun q hq e => by
    obtain ⟨_, _, _, _, _, h2, _⟩ := hS
    rw [← e, hq] at h2
    cases h2
  refine ⟨Mid (n + 1) 0, ?_, ?_⟩
  · refine ⟨_, rfl, rfl, _, rfl, ?_⟩
    rw [deq_int]
    by_cases hw3 : wy = 3
    · rw [decide_eq_true hw3]
      refine iteT ?_
      refine ⟨_, rfl, _, rfl, l, _, (j : Int), .str ls[j], rfl, rfl, SqL.of el5, atI_nat (by rw [List.getElem?_map, List.getElem?_eq_getElem hj]; rfl), ?_⟩
      refine ⟨_, rfl, _, rfl, l, _, (i : Int), .str ls[i], rfl, rfl, SqL.of el5, atI_nat (by rw [List.getElem?_map, List.getElem?_eq_getElem hi]; rfl), sl _ (by simp), fun t ht => ?_⟩
      have st := same_upd (o := .tup [.str ls[j], .str ls[i]]) ht
      have et := st _ _ el5
      have ntl : t ≠ l := fun e => by rw [e, el5] at ht; cases ht
      refine ⟨t, _, rfl, SqT.of upd_same, rfl, _, _, rfl, _, rfl, _, rfl, l, _, (i : Int), i, rfl, rfl, et, ixN_at (by rw [List.length_map]; exact hi), ?_⟩
      refine ⟨_, _, rfl, _, rfl, _, rfl, l, _, (j : Int), j, rfl, rfl, upd_same, ixN_at (by rw [List.length_set, List.length_map]; exact hj), rfl, ?_⟩
      have eset : ((ls.map V.str).set i (.str ls[j])).set j (.str ls[i]) = ((ls.set i ls[j]).set j ls[i]).map V.str := by rw [List.map_set, List.map_set]
      rw [eset]
      have ekeep : ∀ b o, b ≠ l → (upd H5 t (.tup [.str ls[j], .str ls[i]])) b = some o → (upd (upd (upd H5 t (.tup [.str ls[j], .str ls[i]])) l (.lst ((ls.map V.str).set i (.str ls[j])))) l (.lst (((ls.set i ls[j]).set j ls[i]).map V.str))) b = some o := fun b o nb e => by rw [upd_ne nb, upd_ne nb]; exact e
      have S6 := S5.same st
      refine ⟨l, (ls.set i ls[j]).set j ls[i], _, rfl, upd_same, offl.1, offl.2, ?_, by rw [List.length_set, List.length_set]; omega, hg, ?_, ?_⟩
      · rw [lenSum_swap (List.getElem?_eq_getElem hi) (List.getElem?_eq_getElem hj)]
        exact wsum
      · obtain ⟨gs, cs, r, tt, h1, h2, h3, h4, h5, h6, h7⟩ := S6
        have nlc : c ≠ l := fun e => by
          rw [e, et] at h3
          have z := HO.lst.inj (Option.some.inj h3)
          have z2 := congrArg List.length z
          cases ls with
          | nil => simp at wpos
          | cons y ys =>
            cases cs with
            | nil => simp at z
            | cons a b => simp at z
        exact ⟨gs, cs, r, tt, ekeep _ _ offl.2.symm h1, ekeep _ _ offl.1.symm h2, ekeep _ _ nlc h3, h4, h5, h6, h7⟩
      · intro b o e n1 n2
        have nb : b ≠ l := fun e2 => by
          have z := kp b o e n1 n2
          rw [e2, hl] at z
          cases z
        exact ekeep _ _ nb (st _ _ (kp5' b o e n1 n2))
    · rw [decide_eq_false hw3]
      exact iteF ⟨l, ls, _, rfl, el5, offl.1, offl.2, wsum, by omega, hg, S5, kp5'⟩
  rintro σ H6 ⟨l1, ys, o7, rfl, e1, ng1, nd1, sum1, cnt1, _, S6, kp6⟩
  refine ⟨Mid n 45, ?_, ?_⟩
  · refine ⟨_, rfl, rfl, _, rfl, ?_⟩
    rw [deq_int]
    by_cases hw4 : wy = 4
    · rw [decide_eq_true hw4]
      refine iteT ?_
      refine ⟨_, _, rfl, rfl, by decide, by decide, by decide +kernel, by decide +kernel, _, _, rfl, rfl, sl _ (by rw [mulS_length]; decide +kernel), sl _ (by simp), fun a1 ha1 => ?_⟩
      have t1 := same_upd (o := .lst (linesNear1.map V.str)) ha1
      refine ⟨_, rfl, _, _, rfl, rfl, by decide, by decide, by decide +kernel, by decide +kernel, _, _, rfl, rfl, sl _ (by rw [mulS_length]; decide +kernel), sl _ (by simp), fun a2 ha2 => ?_⟩
      have t2 := same_upd (o := .lst (linesNear2.map V.str)) ha2
      have m1 := t2 _ _ (upd_same (H := H6) (a := a1) (o := .lst (linesNear1.map V.str)))
      refine ⟨a1, a2, linesNear1.map V.str, linesNear2.map V.str, rfl, rfl, m1, upd_same, sl _ (by simp), fun a3 ha3 => ?_⟩
      rw [← List.map_append]
      have t3 := same_upd (o := .lst ((linesNear1 ++ linesNear2).map V.str)) ha3
      refine ⟨_, rfl, ?_⟩
      refine ⟨_, _, rfl, rfl, by decide, by decide, by decide +kernel, by decide +kernel, _, _, rfl, rfl, sl _ (by rw [mulS_length]; decide +kernel), ?_⟩
      refine ⟨_, _, rfl, rfl, by decide, by decide, by decide +kernel, by decide +kernel, _, _, rfl, rfl, sl _ (by rw [mulS_length]; decide +kernel), ?_⟩
      refine ⟨_, _, rfl, rfl, by decide, by decide, by decide +kernel, by decide +kernel, _, _, rfl, rfl, sl _ (by rw [mulS_length]; decide +kernel), _, _, rfl, rfl, sl _ (by rw [append_len, mulS_length]; decide +kernel), ?_⟩
      refine ⟨_, _, rfl, rfl, by decide, by decide, by decide +kernel, by decide +kernel, _, _, rfl, rfl, sl _ (by rw [mulS_length]; decide +kernel), _, _, rfl, rfl, sl _ (by rw [append_len, mulS_length]; decide +kernel), sl _ (by simp), fun a4 ha4 => ?_⟩
      have t4 := same_upd (o := .lst (linesNear3.map V.str)) ha4
      have m3 := t4 _ _ (upd_same (a := a3) (o := .lst ((linesNear1 ++ linesNear2).map V.str)))
      refine ⟨a3, a4, (linesNear1 ++ linesNear2).map V.str, linesNear3.map V.str, rfl, rfl, m3, upd_same, sl _ (by simp), fun a5 ha5 => ?_⟩
      rw [← List.map_append]
      have t5 := same_upd (o := .lst ((linesNear1 ++ linesNear2 ++ linesNear3).map V.str)) ha5
      have t15 := t1.trans (t2.trans (t3.trans (t4.trans t5)))
      have off5 := (S6.same (t1.trans (t2.trans (t3.trans t4)))).off ha5
      have e7 := t15 _ _ e1
      have S7 := S6.same t15
      refine ⟨_, rfl, ?_⟩
      show tNoPart _ _ _
      unfold tNoPart
      refine ⟨_, rfl, _, rfl, ?_⟩
      refine rSlL_any (ys := (ys.take i).map V.str) (SqL.of e7) (by rw [cut_upto, List.map_take]) fun b1 hb1 => ?_
      have u1 := same_upd (o := .lst ((ys.take i).map V.str)) hb1
      refine ⟨_, rfl, _, rfl, d, g, c, a5, n, _, rfl, S7.same u1, SqL.of (u1 _ _ upd_same), off5.1, by simp, by simp, fun z y H8 hy S8 kp8 => ?_⟩
      obtain ⟨yl, hyl, rfl⟩ := strs_at hy
      have y45 : yl.length ≤ 45 := of_decide_eq_true (List.all_eq_true.mp linesNear_short yl (List.mem_of_getElem? hyl))
      have offb := S7.off hb1
      have eb8 := kp8 _ _ (upd_same (a := b1) (o := .lst ((ys.take i).map V.str))) offb.2 offb.1
      have el8 := kp8 _ _ (u1 _ _ e7) nd1 ng1
      refine ⟨sl _ (by simp), fun b2 hb2 => ?_⟩
      have u2 := same_upd (o := .lst ([yl].map V.str)) hb2
      refine ⟨b1, b2, (ys.take i).map V.str, [yl].map V.str, rfl, rfl, u2 _ _ eb8, upd_same, sl _ (by simp; omega), fun b3 hb3 => ?_⟩
      rw [← List.map_append]
      have u3 := same_upd (o := .lst ((ys.take i ++ [yl]).map V.str)) hb3
      have m3' : (upd (upd H8 b2 (.lst ([yl].map V.str))) b3 (.lst ((ys.take i ++ [yl]).map V.str))) b3 = some (.lst ((ys.take i ++ [yl]).map V.str)) := upd_same
      have u23 := u2.trans u3
      refine ⟨_, rfl, _, rfl, _, rfl, ?_⟩
      refine rSlL_any (ys := (ys.drop i).map V.str) (SqL.of (u23 _ _ el8)) (by rw [cut_from, List.map_drop]) fun b4 hb4 => ?_
      have u4 := same_upd (o := .lst ((ys.drop i).map V.str)) hb4
      refine ⟨b3, b4, _, _, rfl, rfl, u4 _ _ m3', upd_same, sl _ (by simp; omega), fun b5 hb5 => ?_⟩
      rw [← List.map_append]
      have u5 := same_upd (o := .lst ((ys.take i ++ [yl] ++ ys.drop i).map V.str)) hb5
      have u25 := u23.trans (u4.trans u5)
      have off6 := (S8.same (u23.trans u4)).off hb5
      have cutq := lenSum_cut ys i
      refine ⟨b5, ys.take i ++ [yl] ++ ys.drop i, _, rfl, upd_same, off6.1, off6.2, ?_, ?_, hg, S8.same u25, ?_⟩
      · rw [lenSum_app, lenSum_app]
        have e9 : lenSum [yl] = yl.length := by simp [lenSum]
        omega
      · rw [List.length_append, List.length_append, List.length_take, List.length_drop]
        simp only [List.length_cons, List.length_nil]
        omega
      · exact kp6.trans ((Kp.of (t15.trans u1)).trans (kp8.trans (Kp.of u25)))
    · rw [decide_eq_false hw4]
      exact iteF ⟨l1, ys, o7, rfl, e1, ng1, nd1, by omega, by omega, hg, S6.less (by omega), kp6⟩
  rintro σ H7 ⟨l2, zs, o8, rfl, e2, ng2, nd2, sum2, cnt2, _, S7, kp7⟩
  refine ⟨Mid n 45, ?_, ?_⟩
  · refine ⟨_, rfl, rfl, _, rfl, ?_⟩
    rw [deq_int]
    by_cases hw5 : wy = 5
    · rw [decide_eq_true hw5]
      refine iteT ⟨_, rfl, ?_⟩
      show tNoPart _ _ _
      unfold tNoPart
      refine ⟨_, rfl, _, rfl, ?_⟩
      refine rSlL_any (ys := (zs.take i).map V.str) (SqL.of e2) (by rw [cut_upto, List.map_take]) fun b1 hb1 => ?_
      have u1 := same_upd (o := .lst ((zs.take i).map V.str)) hb1
      refine ⟨_, rfl, _, rfl, _, _, rfl, rfl, _, rfl, ?_⟩
      refine rSlL_any (ys := (zs.drop (i + 1)).map V.str) (SqL.of (u1 _ _ e2)) (by rw [show ((i : Int) + 1) = ((i + 1 : Nat) : Int) by omega, cut_from, List.map_drop]) fun b2 hb2 => ?_
      have u2 := same_upd (o := .lst ((zs.drop (i + 1)).map V.str)) hb2
      refine ⟨b1, b2, _, _, rfl, rfl, u2 _ _ upd_same, upd_same, sl _ (by simp; omega), fun b3 hb3 => ?_⟩
      rw [← List.map_append]
      have u3 := same_upd (o := .lst ((zs.take i ++ zs.drop (i + 1)).map V.str)) hb3
      have u13 := u1.trans (u2.trans u3)
      have off6 := (S7.same (u1.trans u2)).off hb3
      have cutq := lenSum_out zs i
      refine ⟨b3, zs.take i ++ zs.drop (i + 1), _, rfl, upd_same, off6.1, off6.2, ?_, ?_, hg, S7.same u13, kp7.trans (Kp.of u13)⟩
      · rw [lenSum_app]
        omega
      · rw [List.length_append, List.length_take, List.length_drop]
        omega
    · rw [decide_eq_false hw5]
      exact iteF ⟨l2, zs, o8, rfl, e2, ng2, nd2, sum2, cnt2, hg, S7, kp7⟩
  rintro σ H8 ⟨l3, us, o9, rfl, e3, ng3, nd3, sum3, cnt3, _, S8, kp8⟩
  have jl : (Txt.join NL us).length ≤ lenSum us + us.length * NL.length := join_len NL us
  have eNL : NL.length = 1 := rfl
  rw [eNL, Nat.mul_one] at jl
  have ls2 : (us.map (·.length)).sum ≤ x.length + 45 := sum3
  exact ⟨⟨_, rfl⟩, _, rfl, NL, l3, us, rfl, rfl, .inl (SqL.of e3), by rw [eNL]; omega, k _ _ (by omega) S8 kp8⟩
end
end K12
set_option maxHeartbeats 1000000
namespace K12
open PySem PySem.Spec PyProof.Rows L2 Hx RZ
/-! ### what the law's own lambdas leave -/
theorem ext_tk {H H' : Hp} (e : LamX.ExtN H H') : TK H H' := ⟨fun b xs h => e b _ h (fun ps z => by cases z), fun b o u h => e b _ h (fun ps z => by cases z)⟩
theorem St.ext {H H' : Hp} {d g c : Addr} {n : Nat} (h : St H d g c n) (e : LamX.ExtN H H') : St H' d g c n := by
  obtain ⟨gs, cs, r, t, h1, h2, h3, h4, h5, h6, h7⟩ := h
  exact ⟨gs, cs, r, t, e _ _ h1 (fun ps z => by cases z), e _ _ h2 (fun ps z => by cases z), e _ _ h3 (fun ps z => by cases z), h4, h5, h6, h7⟩
theorem tabs_kp {T : List (Addr × Str)} {H H' : Hp} {d g c : Addr} {n : Nat} (t : LamX.Tabs T H) (k : Kp d g H H') (S : St H d g c n) : LamX.Tabs T H' := by
  obtain ⟨gs, cs, r, tt, h1, h2, _⟩ := S
  intro p hp
  obtain ⟨ps, a1, a2, a3⟩ := t p hp
  refine ⟨ps, k _ _ a1 (ne_of a1 h1 (by intro z; cases z)) (ne_of a1 h2 (by intro z; cases z)), a2, fun pos cv hc => ?_⟩
  obtain ⟨c', e1, e2⟩ := a3 pos cv hc
  exact ⟨c', e1, k _ _ e2 (ne_of e2 h1 (by intro z; unfold LamX.CodeO at z; cases z)) (ne_of e2 h2 (by intro z; unfold LamX.CodeO at z; cases z))⟩
theorem ext_seqL {K : PySem.W.Frag} {H H' : Hp} {a : Addr} {xs : List V} (e : LamX.ExtN H H') (h : SqL K H a xs) : SqL K H' a xs := by
  rcases h with (h | ⟨o, h⟩) | h
  · exact .inl (.inl (e _ _ h (fun ps z => by cases z)))
  · exact .inl (.inr ⟨o, e _ _ h (fun ps z => by cases z)⟩)
  · exact .inr h
mutual
theorem dp_ext {K : PySem.W.Frag} {H H' : Hp} (e : LamX.ExtN H H') : ∀ {v : V} {d : PyData}, Dp K H v d → Dp K H' v d
  | _, _, .non => .non
  | _, _, .bl b => .bl b
  | _, _, .int i => .int i
  | _, _, .str x => .str x
  | _, _, .lst h r => .lst (ext_seqL e h) (dpAll_ext e r)
  | _, _, .tup h r => .tup (tk_seqT (ext_tk e) h) (dpAll_ext e r)
theorem dpAll_ext {K : PySem.W.Frag} {H H' : Hp} (e : LamX.ExtN H H') : ∀ {vs : List V} {ds : List PyData}, DpAll K H vs ds → DpAll K H' vs ds
  | _, _, .nil => .nil
  | _, _, .cons h r => .cons (dp_ext e h) (dpAll_ext e r)
end
/-! ### data of nets -/
theorem num_sh (n : Num) : Sh 1 n.data := by
  cases n with
  | w i => exact (sh_int i).up (by decide)
  | q t b =>
    refine sh_tup (n := 0) fun d hd => ?_
    have e : d = .int t ∨ d = .int b := by simpa using hd
    rcases e with e | e <;> rw [e] <;> exact sh_int _
theorem str_sh {x : Str} (h : nameS x = true) : Sh 0 (.str x) := ⟨name_ok h, by simp [PyData.depth]⟩
theorem strs_sh {xs : List Str} (h : ∀ x ∈ xs, nameS x = true) : Sh 1 (.tuple (xs.map .str)) := sh_tup fun d hd => by
  obtain ⟨x, hx, rfl⟩ := List.mem_map.mp hd
  exact str_sh (h x hx)
theorem raw_sh {r : Raw} (h : Right r) : Sh 3 r.data := by
  cases h with
  | two k x y n hx hy hk hn =>
    refine sh_tup (n := 2) fun d hd => ?_
    rcases List.mem_append.mp hd with q | q
    · obtain ⟨z, hz, rfl⟩ := List.mem_map.mp q
      refine (str_sh ?_).up (by decide)
      have e : z = k ∨ z = x ∨ z = y := by simpa using hz
      rcases e with e | e | e
      · rw [e]
        rcases hk with ⟨e, _⟩ | ⟨e, _⟩ <;> rw [e] <;> decide +kernel
      · rw [e]; exact hx
      · rw [e]; exact hy
    · rw [List.mem_singleton.mp q]
      exact (num_sh n).up (by decide)
  | hub ns n h1 h2 hn =>
    refine sh_tup (n := 2) fun d hd => ?_
    have e : d = .str HUB ∨ d = .tuple (ns.map .str) ∨ d = n.data := by simpa using hd
    rcases e with e | e | e
    · rw [e]; exact (str_sh (by decide +kernel)).up (by decide)
    · rw [e]
      unfold namesS at h1
      rw [Bool.and_eq_true] at h1
      exact (strs_sh fun x hx => List.all_eq_true.mp h1.1 x hx).up (by decide)
    · rw [e]; exact (num_sh n).up (by decide)
theorem net_sh {taps : List Str} {rs : List Raw} (ht : tapsS taps = true) (hr : ∀ r ∈ rs, Right r) : Sh 5 (netData taps rs) := by
  refine sh_tup (n := 4) fun d hd => ?_
  have e : d = .tuple (taps.map .str) ∨ d = .tuple (rs.map Raw.data) := by simpa using hd
  rcases e with e | e
  · rw [e]
    unfold tapsS namesS at ht
    simp only [Bool.and_eq_true] at ht
    exact (strs_sh fun x hx => List.all_eq_true.mp ht.1.1 x hx).up (by decide)
  · rw [e]
    refine sh_tup (n := 3) fun d hd => ?_
    obtain ⟨r, hr2, rfl⟩ := List.mem_map.mp hd
    exact raw_sh (hr r hr2)
theorem readParts_right {taps : List Str} : ∀ {ls : List Str} {k : Nat} {done rs : List Raw}, readParts taps k done ls = .inr rs → (∀ r ∈ done, Right r) → ∀ r ∈ rs, Right r
  | [], k, done, rs, h, ok => by
    have e : (Sum.inr done : Nat ⊕ List Raw) = .inr rs := h
    cases e
    exact ok
  | x :: ls, k, done, rs, h, ok => by
    have e : readParts taps k done (x :: ls) = (match readPart x with
      | none => .inl (k + 1)
      | some r => if fitsS taps (done ++ [r]) = true then readParts taps (k + 1) (done ++ [r]) ls else .inl (k + 1)) := rfl
    rw [e] at h
    cases hR : readPart x with
    | none => rw [hR] at h; cases h
    | some r =>
      rw [hR] at h
      have h2 : (if fitsS taps (done ++ [r]) = true then readParts taps (k + 1) (done ++ [r]) ls else .inl (k + 1)) = .inr rs := h
      split at h2
      · refine readParts_right h2 fun q hq => ?_
        rcases List.mem_append.mp hq with z | z
        · exact ok q z
        · rw [List.mem_singleton.mp z]
          exact (readPart_right hR).1
      · cases h2
theorem read_right {x : Str} {taps : List Str} {rs : List Raw} (h : readNet x = .inr (taps, rs)) : tapsS taps = true ∧ ∀ r ∈ rs, Right r := by
  unfold readNet at h
  split at h
  · cases h
  · next l0 ls _ =>
    split at h
    · cases h
    · next tp htp =>
      have ht : tapsS tp = true := by
        unfold readTaps at htp
        split at htp
        · next hc => cases htp; exact hc.2
        · cases htp
      split at h
      · cases h
      · next rs2 hrs =>
        split at h
        · cases h
          exact ⟨ht, readParts_right hrs fun r hr => by simp at hr⟩
        · cases h
def isOne : Nat ⊕ (List Str × List Raw) → Bool
  | .inl n => n == 1
  | .inr _ => false
theorem isOne_ok {r : Nat ⊕ (List Str × List Raw)} (h : isOne r = true) : r = .inl 1 := by
  cases r with
  | inl n =>
    have e : n = 1 := beq_iff_eq.mp h
    rw [e]
  | inr _ => cases h
theorem read_odd1 : readNet "" = .inl 1 := isOne_ok (by decide +kernel)
theorem read_odd2 : readNet "\n" = .inl 1 := isOne_ok (by decide +kernel)
theorem read_odd3 : readNet "taps a" = .inl 1 := isOne_ok (by decide +kernel)
theorem read_odd4 : readNet "taps a b" = .inl 1 := isOne_ok (by decide +kernel)
theorem read_odd_sp {K : PySem.W.Frag} {C : Addr} {x : V} {H : Hp} {Q : VK} {E : XK} (odd : (∃ dd, Dp K H x dd ∧ isTy (tagOf dd) "str" = false) ∨ ∃ y : Str, x = .str y ∧ y.length ≤ 3000 ∧ readNet y = .inl 1) (h : Raised C E H 1) : spReadNet K C [x] H Q E := by
  rcases odd with ⟨dd, h1, h2⟩ | ⟨y, rfl, h1, h2⟩
  · exact .inl ⟨x, dd, rfl, h1, h2, h⟩
  · refine .inr ⟨y, rfl, h1, ?_⟩
    rw [h2]
    exact h
theorem text_pos {taps : List Str} {rs : List Raw} (h : readNet (netText taps rs) = .inr (taps, rs)) : 0 < (netText taps rs).length := by
  refine Nat.pos_of_ne_zero fun e => ?_
  have e2 : netText taps rs = "" := by
    generalize netText taps rs = z at e ⊢
    obtain ⟨a⟩ := z
    have e3 : a = #[] := Array.eq_empty_of_size_eq_zero e
    rw [e3]
    rfl
  rw [e2, read_odd1] at h
  cases h
theorem NetD.none {taps : List Str} {rs : List Raw} (h : NetD taps rs) : NetD taps [] := by
  obtain ⟨ps, sort, a, b, c, d⟩ := h.ps
  exact ⟨h.tp, ⟨ps, sort, a, b, c, fun r hr => by simp at hr⟩, by simp⟩
theorem drawn_fits {taps : List Str} {rs : List Raw} (h : NetD taps rs) : fitsS taps rs = true := by
  have ok := drawn_ok h
  obtain ⟨ps, sort, pl9, psub, pnd, dr⟩ := h.ps
  unfold fitsS
  have esub : ∀ z ∈ allEnds taps rs, z ∈ ps := fun z hz => by
    unfold allEnds at hz
    rcases List.mem_append.mp hz with e | e
    · exact psub z e
    · obtain ⟨r, hr, hz⟩ := List.mem_flatMap.mp e
      exact (dr r hr).sub z hz
  have q : cntU (allEnds taps rs) ≤ ps.length := nodup_le (ded_nodup _) fun x hx => esub x ((ded_mem _ x).mp hx)
  rw [ok.mix, decide_eq_true ok.few, decide_eq_true (show cntU (allEnds taps rs) ≤ 40 by omega)]
  rfl
theorem drawn_back {taps : List Str} {rs : List Raw} (h : NetD taps rs) (hn : ∀ r ∈ rs, Num30 r.num) : readNet (netText taps rs) = .inr (taps, rs) :=
  net_back h.tp (fun r hr => ⟨(drawn_ok h).right r hr, hn r hr⟩) (drawn_fits h)
/-! ### the law -/
theorem passNo {X : Cx} : Passes (L2.CX X.prog X.w) X (fun _ _ _ => False) := fun _ _ _ _ _ _ _ h => by
  obtain ⟨_, _, _, _, _, _, _, _, _, _, _, _, z⟩ := h
  exact z.elim
abbrev lamQ : Str := "law" ++ ".<locals>." ++ "<lambda>"
structure LawE (K : PySem.W.Frag) (mg : Str → Option Value) (CT CB CN : Addr) : Prop where
  tap : mg "TapError" = some (.ref CT)
  bt : mg "BadText" = some (.ref CB)
  bn : mg "BadNet" = some (.ref CN)
  exB : PySem.W.exmOne K (.ref CB) (.ref CT) = some true
  exN : PySem.W.exmOne K (.ref CN) (.ref CT) = some true
  ecB : ExcC K CB
  ecN : ExcC K CN
  xf : XfC K CB
  nl : PySem.W.findIn K (.ref CB) "line" = some none
  kv : PySem.W.kitOne K (.ref CB) (.type "ValueError") = some true
theorem kit_self {K : PySem.W.Frag} {C : Addr} : PySem.W.kitOne K (.ref C) (.ref C) = some true := by
  unfold PySem.W.kitOne
  rw [if_pos (by simp)]
section
variable {P : Program} {w : World} {K : PySem.W.Frag} {mg : Str → Option Value} {base : Heap}
def spLaw (K : PySem.W.Frag) (PT : Addr) : Sp := fun vs H Q _ => ∃ (a : Addr) (ns : List Int), vs = [.ref a] ∧ SqL K H a (ns.map V.int) ∧ ns.length ≤ 63 ∧ LamX.Tabs [(PT, lamQ)] H ∧ ∀ H', Q (.bl true) H'
theorem sc_law : FnScope ["script", "state", "lap", "net_here", "told", "empty", "turn", "near_here", "due", "caught", "odd"] ["script"] (defScope slaw) := ⟨rfl, rfl, rfl, by decide +kernel, rfl, by decide +kernel, by decide +kernel⟩
theorem sc_caught : FnScope ["action", "found", "error"] ["action"] (defScope sL_caught) := ⟨rfl, rfl, rfl, by decide +kernel, rfl, by decide +kernel, by decide +kernel⟩
theorem ok_law {CT CB CN PT c0 f0 : Addr} (X0 : LawE K mg CT CB CN) {oc dV kV doc pm ct : Value} {od an : Option Addr} {osl : Array (Option Value)} (lk0 : K.lookup f0 = some ⟨oc, od, .func (PySem.W.fnOf "law" "law" (defArgs slaw) (defBody slaw) (defScope slaw) dV kV doc pm an (.ref c0) ct), osl⟩) (hcd0 : PySem.W.codeIn K (.ref c0) "law" = true)
    (TB : LamX.TabB base mg c0 PT) (Dc : Dn K mg "_law_caught" sL_caught) (B0 : Ok P w K mg base L2.CX0 1 "_law_begun" ["script"] (spBegun K)) (B1 : Ok P w K mg base L2.CX0 8 "_law_an_drawn" ["state", "least", "most"] (spDrawn K)) (B2 : Ok P w K mg base L2.CX0 2 "_law_an_written" ["net_here"] (spWritten K))
    (B3 : OkW P w K mg base (L2.CX P w) 7 "net_text" "net" (spText K CN)) (B4 : OkW P w K mg base (L2.CX P w) 5 "read_net" "text" (spReadNet K CB)) (B5 : Ok P w K mg base L2.CX0 4 "_law_an_near_text" ["state", "told"] spNear) (B6 : Ok P w K mg base L2.CX0 6 "_law_an_read" ["told"] (spRead K))
    (B7 : Ok P w K mg base L2.CX0 3 "_law_pick" ["state", "some"] (spPick K)) (h_isinstance : mg "isinstance" = none) (h_int : mg "int" = none) (h_range : mg "range" = none) (h_VE : mg "ValueError" = none) :
    FnOk P w K mg base L2.CX0 10 f0 (PySem.W.fnOf "law" "law" (defArgs slaw) (defBody slaw) (defScope slaw) dV kV doc pm an (.ref c0) ct) ["script"] (spLaw K PT) := by
  obtain ⟨fc, fdc, gc, Fc⟩ := Dc
  obtain ⟨occ, odc, dVc, kVc, docc, pmc, anc, cdc, ctc, oslc, rfl, lkc, hcdc, hDc, hKc⟩ := Fc.ex
  have bc := Fc.bindsN (ps := ["action"]) fun _ _ _ _ _ _ us hl => match us, hl with | [_], _ => rfl
  obtain ⟨_, _, g_begun, k_begun, b_begun, F_begun⟩ := B0.ex
  obtain ⟨_, _, g_an_drawn, k_an_drawn, b_an_drawn, F_an_drawn⟩ := B1.ex
  obtain ⟨_, _, g_an_written, k_an_written, b_an_written, F_an_written⟩ := B2.ex
  obtain ⟨_, _, g_net_text, k_net_text, b_net_text, F_net_text, kw_net_text⟩ := B3.ex
  obtain ⟨_, _, g_read_net, k_read_net, b_read_net, F_read_net, kw_read_net⟩ := B4.ex
  obtain ⟨_, _, g_an_near_text, k_an_near_text, b_an_near_text, F_an_near_text⟩ := B5.ex
  obtain ⟨_, _, g_an_read, k_an_read, b_an_read, F_an_read⟩ := B6.ex
  obtain ⟨_, _, g_pick, k_pick, b_pick, F_pick⟩ := B7.ex
  refine fn_of lk0 hcd0 sc_law (fun vs H Q E h => ?_) (fun A outer s H vs Q E hr h => ?_)
  · obtain ⟨a, ns, rfl, _⟩ := h
    rfl
  suffices hh : ∃ t, PSs (cxOf L2.CX0 P w K mg base ["script", "state", "lap", "net_here", "told", "empty", "turn", "near_here", "due", "caught", "odd"] "law" (defScope slaw) f0 (.ref c0) A outer s H E).nox (defBody slaw) t ∧ t { nx := fun _ H' => Q .non H', rt := Q } (L2.start ["script", "state", "lap", "net_here", "told", "empty", "turn", "near_here", "due", "caught", "odd"] vs) H by
    obtain ⟨t, ht, q⟩ := hh
    exact ⟨t, ht.nox, q⟩
  obtain ⟨a, ns, rfl, hs, hl, hT, k⟩ := h
  have nd := sc_law.nd
  have hu64 := hr.units
  have hr1 := hr.mono (show 1 ≤ 9 by decide)
  have hr2 := hr.mono (show 2 ≤ 9 by decide)
  have hr3 := hr.mono (show 3 ≤ 9 by decide)
  have hr4 := hr.mono (show 4 ≤ 9 by decide)
  have hr5 := hr.mono (show 5 ≤ 9 by decide)
  have hr6 := hr.mono (show 6 ≤ 9 by decide)
  have hr7 := hr.mono (show 7 ≤ 9 by decide)
  have hr8 := hr.mono (show 8 ≤ 9 by decide)
  refine ⟨_, (pss_cons (ps_set (i := 1) nd rfl (Or.inl rfl) (pe_call F_begun hr1 rfl g_begun k_begun b_begun .nil pass0 (pa_cons (pv 0) pa_nil)))
  (pss_cons (ps_for PassesOwn.never rfl (pi_range1 rfl h_range (pa_cons pe_int pa_nil)) (pg_name (i := 2) nd rfl (Or.inl rfl))
    (pss_cons (ps_set (i := 3) nd rfl (Or.inl rfl) (pe_call F_an_drawn hr8 rfl g_an_drawn k_an_drawn b_an_drawn .nil pass0 (pa_cons (pv 1) (pa_cons pe_int (pa_cons pe_int pa_nil)))))
    (pss_cons (ps_set (i := 4) nd rfl (Or.inr rfl) (pe_call F_an_written hr2 rfl g_an_written k_an_written b_an_written .nil pass0 (pa_cons (pv 3) pa_nil)))
    (pss_cons (ps_if (PW.pt (pw_or (pt_cmpR op_ne (pe_call F_net_text hr7 rfl g_net_text k_net_text b_net_text .nil passNo (pa_cons (pv 3) pa_nil)) (pv 4) (nomark _)) (pw_or (pt_cmpR op_ne (pe_callKw F_net_text hr7 rfl g_net_text k_net_text kw_net_text passNo (pk_cons (pv 3) pk_nil)) (pv 4) (nomark _)) (pw_or1 (pt_cmpR (op_neD hu64) (pe_callKw F_read_net hr5 rfl g_read_net k_read_net kw_read_net passNo (pk_cons (pv 4) pk_nil)) (pv 3) (nomark _))))))
      (pss_one (ps_ret pe_bl))
      pss_nil)
    (pss_cons (ps_set (i := 5) nd rfl (Or.inl rfl) (pe_tup (pa_cons (pe_ix ix_tup (pv 3) pe_int (fun _ _ => rfl)) (pa_cons (pe_tup pa_nil) pa_nil))))
    (pss_cons (ps_if (PW.pt (pw_or (pt_cmpR op_ne (pe_call F_net_text hr7 rfl g_net_text k_net_text b_net_text .nil passNo (pa_cons (pv 5) pa_nil)) (pe_call F_an_written hr2 rfl g_an_written k_an_written b_an_written .nil pass0 (pa_cons (pv 5) pa_nil)) (nomark _)) (pw_or1 (pt_cmpR (op_neD hu64) (pe_call F_read_net hr5 rfl g_read_net k_read_net b_read_net .nil passNo (pa_cons (pe_call F_an_written hr2 rfl g_an_written k_an_written b_an_written .nil pass0 (pa_cons (pv 5) pa_nil)) pa_nil)) (pv 5) (nomark _)))))
      (pss_one (ps_ret pe_bl))
      pss_nil)
    (pss_cons (ps_for PassesOwn.never rfl (pi_range1 rfl h_range (pa_cons pe_int pa_nil)) (pg_name (i := 6) nd rfl (Or.inl rfl))
      (pss_cons (ps_set (i := 7) nd rfl (Or.inr rfl) (pe_call F_an_near_text hr4 rfl g_an_near_text k_an_near_text b_an_near_text .nil pass0 (pa_cons (pv 1) (pa_cons (pv 4) pa_nil))))
      (pss_cons (ps_set (i := 8) nd rfl (Or.inl rfl) (pe_call F_an_read hr6 rfl g_an_read k_an_read b_an_read .nil pass0 (pa_cons (pv 7) pa_nil)))
      (pss_cons (ps_set (i := 9) nd rfl (Or.inl rfl) (LamX.pe_lamcall (k := 7) (T := [(PT, lamQ)]) (TT := TCaught K CT) (a := "action") (Ng := ["action", "found", "error"]) (t := fun E => tCall (spReadNet K CB) [] E (tCons (tVar 7) tNil)) rfl gc Fc.kp lkc hcdc bc sc_caught rfl (Or.inl rfl)
        (caught_gives (p8 := ⟨0, 0, 0, 0⟩) rfl X0.tap (by decide) rfl rfl rfl (by decide +kernel) (by decide) (by decide) (by decide) (by decide) (fun _ => rfl) (fun _ => rfl)) TB rfl (List.mem_singleton.mpr rfl) (fun p hp _ => by rw [List.mem_singleton.mp hp]; rfl) hr (LamX.lamS_by (sc := defScope slaw) (by decide +kernel)) rfl (fun _ _ _ _ _ => rfl)
        (fun A outer s H E f c' hr' => pe_call F_read_net (hr'.mono (by decide)) rfl g_read_net k_read_net b_read_net .nil (passes_call (takes_of rfl rfl rfl rfl) (fun _ _ _ _ h => h)) (pa_cons (pv 7) pa_nil))))
      (pss_cons (ps_if (PW.pt (pw_and (pt_val (pe_isD "int" rfl h_isinstance h_int (pv 8))) (pw_and1 (PW.pt (pw_or (pt_not (pt_val (pe_callB call_isK (by rfl) h_isinstance (by decide +kernel) (pa_cons (pv 9) (pa_cons (pe_glob (v := .ref CB) rfl X0.bt rfl) pa_nil))))) (pw_or1 (pt_cmpR op_ne (pe_kf (pv 9)) (pv 8) (nomark _))))))))
        (pss_one (ps_ret pe_bl))
        pss_nil)
      (pss_one (ps_if (PW.pt (pw_and (pt_not (pt_val (pe_isD "int" rfl h_isinstance h_int (pv 8)))) (pw_and1 (PW.pt (pw_or (pt_cmpR op_notN (pv 9) pe_non (nomark _)) (pw_or1 (pt_cmpR (op_neD hu64) (pe_call F_read_net hr5 rfl g_read_net k_read_net b_read_net .nil passNo (pa_cons (pv 7) pa_nil)) (pv 8) (nomark _))))))))
        (pss_one (ps_ret pe_bl))
        pss_nil)))))))
    (pss_cons (ps_set (i := 10) nd rfl (Or.inr rfl) (pe_call F_pick hr3 rfl g_pick k_pick b_pick .nil pass0 (pa_cons (pv 1) (pa_cons (pe_lst (pa_cons pe_str (pa_cons pe_non (pa_cons pe_int (pa_cons pe_bl (pa_cons (pe_lst (pa_cons (pv 4) pa_nil)) (pa_cons (pe_tup (pa_cons (pv 4) pa_nil)) (pa_cons pe_str (pa_cons pe_str (pa_cons pe_str (pa_cons (pv 3) pa_nil))))))))))) pa_nil))))
    (pss_cons (ps_set (i := 9) nd rfl (Or.inl rfl) (LamX.pe_lamcall (k := 7) (T := [(PT, lamQ)]) (TT := TCaught K CT) (a := "action") (Ng := ["action", "found", "error"]) (t := fun E => tCall (spReadNet K CB) [] E (tCons (tVar 10) tNil)) rfl gc Fc.kp lkc hcdc bc sc_caught rfl (Or.inl rfl)
        (caught_gives (p8 := ⟨0, 0, 0, 0⟩) rfl X0.tap (by decide) rfl rfl rfl (by decide +kernel) (by decide) (by decide) (by decide) (by decide) (fun _ => rfl) (fun _ => rfl)) TB rfl (List.mem_singleton.mpr rfl) (fun p hp _ => by rw [List.mem_singleton.mp hp]; rfl) hr (LamX.lamS_by (sc := defScope slaw) (by decide +kernel)) rfl (fun _ _ _ _ _ => rfl)
        (fun A outer s H E f c' hr' => pe_call F_read_net (hr'.mono (by decide)) rfl g_read_net k_read_net b_read_net .nil (passes_call (takes_of rfl rfl rfl rfl) (fun _ _ _ _ h => h)) (pa_cons (pv 10) pa_nil))))
    (pss_cons (ps_if (PW.pt (pw_or (pt_not (pt_val (pe_callB call_isK (by rfl) h_isinstance (by decide +kernel) (pa_cons (pv 9) (pa_cons (pe_glob (v := .ref CB) rfl X0.bt rfl) pa_nil))))) (pw_or (pt_cmpR op_ne (pe_kf (pv 9)) pe_int (nomark _)) (pw_or1 (pt_not (pt_val (pe_callB call_isK (by rfl) h_isinstance (by decide +kernel) (pa_cons (pv 9) (pa_cons (pe_bltn (v := .ty "ValueError") (by rfl) h_VE (by decide +kernel) rfl) pa_nil)))))))))
      (pss_one (ps_ret pe_bl))
      pss_nil)
    (pss_one (ps_if (pt_not (pt_val (pe_callB call_isK (by rfl) h_isinstance (by decide +kernel) (pa_cons (LamX.pe_lamcall (k := 7) (T := [(PT, lamQ)]) (TT := TCaught K CT) (a := "action") (Ng := ["action", "found", "error"]) (t := fun E => tCall (spText K CN) [] E (tCons (tVar 4) tNil)) rfl gc Fc.kp lkc hcdc bc sc_caught rfl (Or.inl rfl)
        (caught_gives (p8 := ⟨0, 0, 0, 0⟩) rfl X0.tap (by decide) rfl rfl rfl (by decide +kernel) (by decide) (by decide) (by decide) (by decide) (fun _ => rfl) (fun _ => rfl)) TB rfl (List.mem_singleton.mpr rfl) (fun p hp _ => by rw [List.mem_singleton.mp hp]; rfl) hr (LamX.lamS_by (sc := defScope slaw) (by decide +kernel)) rfl (fun _ _ _ _ _ => rfl)
        (fun A outer s H E f c' hr' => pe_call F_net_text (hr'.mono (by decide)) rfl g_net_text k_net_text b_net_text .nil (passes_call (takes_of rfl rfl rfl rfl) (fun _ _ _ _ h => h)) (pa_cons (pv 4) pa_nil))) (pa_cons (pe_glob (v := .ref CN) rfl X0.bn rfl) pa_nil)))))
      (pss_one (ps_ret pe_bl))
      pss_nil))))))))))))
  (pss_one (ps_ret pe_bl)))), ?_⟩
  refine ⟨_, rfl, a, ns, rfl, hs, hl, fun d g c H1 S1 s1 => ?_⟩
  have T1 := hT.ext s1
  have S1' : St H1 d g c 2000 := S1.less (by decide)
  have sl : ∀ m : Nat, m ≤ 100000 → m ≤ sizeLine := fun m h => by rw [sizeLine_eq]; omega
  let Pv : Nat → L2.St → Hp → Prop := fun i σ H' => ∃ o2 o3 o4 o5 o6 o7 o8 o9 o10 : Option V, σ = [some (.ref a), some (.ref d), o2, o3, o4, o5, o6, o7, o8, o9, o10] ∧ St H' d g c (2000 - 1000 * i) ∧ LamX.Tabs [(PT, lamQ)] H'
  refine ⟨2, rfl, by decide, by decide, for_range Pv ⟨_, _, _, _, _, _, _, _, _, rfl, S1', T1⟩ ?_ ?_⟩
  · rintro i σ H2 hi ⟨o2, o3, o4, o5, o6, o7, o8, o9, o10, rfl, S2, T2⟩
    have hi2 : i < 2 := hi
    -- a net, its text
    refine ⟨_, rfl, d, g, c, 1800 - 1000 * i, rfl, S2.less (by omega), fun nv taps rs H3 hn hD h30 S3 kp3 => ?_⟩
    have T3 := tabs_kp T2 kp3 S2
    have ok := drawn_ok hD
    have fit : ∀ r ∈ rs, NumFit r.num := fun r hr => (h30 r hr).fit
    have back := drawn_back hD h30
    have short := drawn_short hD h30
    have pos := text_pos back
    have sh := (net_sh ok.tp ok.right).shaped (by decide)
    have ok0 := drawn_ok hD.none
    have fit0 : ∀ r ∈ ([] : List Raw), NumFit r.num := fun r hr => by simp at hr
    have back0 := drawn_back hD.none (fun r hr => by simp at hr)
    have short0 := drawn_short hD.none (fun r hr => by simp at hr)
    have sh0 := (net_sh ok0.tp ok0.right).shaped (by decide)
    refine ⟨_, rfl, nv, taps, rs, rfl, hn, ok, fit, fun H4 s4 => ?_⟩
    generalize htold : netText taps rs = told at back short pos
    have hn4 := hn.keep (.of s4)
    refine ⟨_, rfl, .inr ⟨nv, taps, rs, rfl, hn4, ok, fit, fun H5 s5 => ?_⟩⟩
    rw [htold]
    refine ⟨_, rfl, rfl, _, rfl, ?_⟩
    rw [deq_str, decide_eq_true rfl]
    refine iteF ⟨_, rfl, rfl, .inr ⟨nv, taps, rs, rfl, hn4.keep (.of s5), ok, fit, fun H6 s6 => ?_⟩⟩
    rw [htold]
    refine ⟨_, rfl, rfl, _, rfl, ?_⟩
    rw [deq_str, decide_eq_true rfl]
    refine iteF ⟨_, rfl, rfl, .inr ⟨told, rfl, by omega, ?_⟩⟩
    rw [back]
    intro v7 H7 s7 hv7
    have s47 := s5.trans (s6.trans s7)
    have hn7 := hn4.keep (.of s47)
    refine ⟨_, rfl, netData taps rs, netData taps rs, hv7.dt.dp, hn7.dt.dp, sh, sh, _, rfl, ?_⟩
    rw [PySem.SeqAt.eqv_refl _ (net_sh ok.tp ok.right).1]
    refine iteF ?_
    have S7 := S3.same (s4.trans s47)
    have T7 := T3.ext (s4.trans s47)
    -- the empty one
    obtain ⟨na, nt, nb, us, rfl, ha, ht, hb, hu⟩ := hn7
    refine ⟨_, rfl, na, _, 0, _, rfl, rfl, ha, rfl, by simp, fun e he => ⟨sl _ (by simp), fun nn hnn => ?_⟩⟩
    have s8 := (same_upd (o := .tup []) he).trans (same_upd (o := .tup [.ref nt, .ref e]) hnn)
    have hE : NetAt K (upd (upd H7 e (.tup [])) nn (.tup [.ref nt, .ref e])) (.ref nn) taps [] := ⟨nn, nt, e, [], rfl, SqT.of upd_same, same_seqT s8 ht, same_seqT (same_upd hnn) (SqT.of upd_same), .nil⟩
    have hn8 : NetAt K (upd (upd H7 e (.tup [])) nn (.tup [.ref nt, .ref e])) (.ref na) taps rs := NetAt.keep (.of s8) ⟨na, nt, nb, us, rfl, ha, ht, hb, hu⟩
    have S8 := S7.same s8
    have T8 := T7.ext s8
    generalize upd (upd H7 e (.tup [])) nn (.tup [.ref nt, .ref e]) = H8 at hE hn8 S8 T8 ⊢
    refine ⟨_, rfl, .inr ⟨_, taps, [], rfl, hE, ok0, fit0, fun H9 s9 => ⟨_, rfl, _, taps, [], rfl, hE.keep (.of s9), ok0, fit0, fun H10 s10 => ⟨rfl, _, rfl, ?_⟩⟩⟩⟩
    rw [deq_str, decide_eq_true rfl]
    have s810 := s9.trans s10
    refine iteF ⟨_, rfl, _, taps, [], rfl, hE.keep (.of s810), ok0, fit0, fun H11 s11 => .inr ⟨netText taps [], rfl, by omega, ?_⟩⟩
    rw [back0]
    intro v12 H12 s12 hv12
    have s812 := s810.trans (s11.trans s12)
    refine ⟨_, rfl, netData taps [], netData taps [], hv12.dt.dp, (hE.keep (.of s812)).dt.dp, sh0, sh0, _, rfl, ?_⟩
    rw [PySem.SeqAt.eqv_refl _ (net_sh ok0.tp ok0.right).1]
    refine iteF ?_
    have S12 := S8.same s812
    have T12 := T8.ext s812
    have hn12 := hn8.keep (.of s812)
    -- texts near it
    let Pw : Nat → L2.St → Hp → Prop := fun j σ H' => ∃ o6 o7 o8 o9 o10 : Option V, σ = [some (.ref a), some (.ref d), some (.int (0 + (i : Int))), some (.ref na), some (.str told), some (.ref nn), o6, o7, o8, o9, o10] ∧ St H' d g c (1800 - 1000 * i - 10 * j) ∧ LamX.Tabs [(PT, lamQ)] H' ∧ NetAt K H' (.ref na) taps rs
    refine ⟨3, rfl, by decide, by decide, for_range Pw ⟨_, _, _, _, _, rfl, S12.less (by omega), T12, hn12⟩ ?_ ?_⟩
    · rintro j σ H' hj ⟨o6, o7, o8, o9, o10, rfl, S13, T13, hn13⟩
      have hj3 : j < 3 := hj
      refine ⟨_, rfl, _, rfl, d, g, c, 1790 - 1000 * i - 10 * j, told, rfl, S13.less (by omega), pos, short, fun y H14 yl S14 kp14 => ?_⟩
      have T14 := tabs_kp T13 kp14 S13
      have hn14 := hn13.keep (kp14.tk S13)
      refine ⟨_, rfl, y, rfl, yl, fun dv H15 s15 hdv => ?_⟩
      have S15 := S14.same s15
      have T15 := T14.ext s15
      have hn15 := hn14.keep (.of s15)
      refine ⟨T15, fun H16 e16 T16 => ?_⟩
      have S16 := S15.ext e16
      have hn16 := hn15.keep (ext_tk e16)
      unfold TCaught
      refine ⟨_, rfl, .inr ⟨y, rfl, yl, ?_⟩⟩
      cases hR : readNet y with
      | inl m =>
        rw [hR] at hdv
        obtain rfl : dv = .int m := hdv
        intro x17 H17 s17 nx17 ex17
        refine ⟨true, X0.exB, fun _ z hz => ?_, fun h => by cases h⟩
        have s18 := same_upd (o := ExK (.ref CB) (some x17) z) hz
        have ez : (upd H17 z (ExK (.ref CB) (some x17) z)) z = some (ExK (.ref CB) (some x17) z) := upd_same
        have ex18 := s18 _ _ ex17
        have s1618 := s17.trans s18
        generalize upd H17 z (ExK (.ref CB) (some x17) z) = H18 at ez ex18 s1618 ⊢
        refine ⟨_, rfl, .int m, .int m, _, rfl, ?_⟩
        refine iteT ?_
        refine ⟨_, rfl, z, CB, some x17, .ref CB, .ref CB, true, rfl, ez, (fun y2 e2 => by cases e2; exact ⟨_, ex18⟩), X0.ecB, fun u r => r, kit_self, _, rfl, ?_⟩
        refine iteF ⟨_, rfl, z, CB, x17, _, .int m, rfl, ez, X0.xf, X0.nl, ex18, rfl, _, rfl, rfl, _, rfl, ?_⟩
        rw [deq_int, decide_eq_true rfl]
        refine iteF ?_
        refine ⟨_, rfl, .int m, .int m, _, rfl, ?_⟩
        refine iteF ?_
        exact ⟨_, _, _, _, _, rfl, (S16.same s1618).less (by omega), T16.ext s1618, hn16.keep (.of s1618)⟩
      | inr p =>
        obtain ⟨taps2, rs2⟩ := p
        rw [hR] at hdv
        have hdv15 : NetAt K H15 dv taps2 rs2 := hdv
        have hdv16 := hdv15.keep (ext_tk e16)
        obtain ⟨tok2, rok2⟩ := read_right hR
        have sh2 := (net_sh tok2 rok2).shaped (by decide)
        intro v17 H17 s17 hv17
        have hdv17 := hdv16.keep (.of s17)
        refine ⟨_, rfl, netData taps2 rs2, hdv17.dt.dp, _, rfl, ?_⟩
        refine iteF ?_
        refine ⟨_, rfl, netData taps2 rs2, hdv17.dt.dp, _, rfl, ?_⟩
        refine iteT ⟨_, rfl, rfl, _, rfl, iteF ?_⟩
        refine ⟨_, rfl, .inr ⟨y, rfl, yl, ?_⟩⟩
        rw [hR]
        intro v18 H18 s18 hv18
        refine ⟨_, rfl, netData taps2 rs2, netData taps2 rs2, hv18.dt.dp, (hdv17.keep (.of s18)).dt.dp, sh2, sh2, _, rfl, ?_⟩
        rw [PySem.SeqAt.eqv_refl _ (net_sh tok2 rok2).1]
        refine iteF ?_
        have s1618 := s17.trans s18
        exact ⟨_, _, _, _, _, rfl, (S16.same s1618).less (by omega), T16.ext s1618, hn16.keep (.of s1618)⟩
    · rintro σ H13 ⟨o6, o7, o8, o9, o10, rfl, S13, T13, hn13⟩
      refine ⟨_, rfl, _, rfl, sl _ (by simp), fun l1 hl1 => ⟨_, rfl, sl _ (by simp), fun t1 ht1 => ⟨_, rfl, sl _ (by simp), fun l hl => ?_⟩⟩⟩
      have u1 := same_upd (o := .lst [.str told]) hl1
      have u2 := same_upd (o := .tup [.str told]) ht1
      have u3 := same_upd (o := .lst [.str "", .non, .int 5, .bl true, .ref l1, .ref t1, .str "\n", .str "taps a", .str "taps a b", .ref na]) hl
      have el1 := (u2.trans u3) _ _ (upd_same (H := H13) (a := l1) (o := .lst [.str told]))
      have et1 := u3 _ _ (upd_same (a := t1) (o := .tup [.str told]))
      have off1 := S13.off hl1
      have offl := (S13.same (u1.trans u2)).off hl
      have u := u1.trans (u2.trans u3)
      have S14 := S13.same u
      have T14 := T13.ext u
      have hn14 := hn13.keep (.of u)
      refine ⟨d, g, c, l, 1700 - 1000 * i, _, rfl, S14.less (by omega), SqL.of upd_same, offl.1, by simp, by simp, fun q x H15 hx S15 kp15 => ?_⟩
      have T15 := tabs_kp T14 kp15 S14
      have hn15 := hn14.keep (kp15.tk S14)
      have odd : (∃ dd, Dp K H15 x dd ∧ isTy (tagOf dd) "str" = false) ∨ ∃ y : Str, x = .str y ∧ y.length ≤ 3000 ∧ readNet y = .inl 1 := by
        match q, hx with
        | 0, hx => cases hx; exact .inr ⟨_, rfl, by decide +kernel, read_odd1⟩
        | 1, hx => cases hx; exact .inl ⟨_, .non, rfl⟩
        | 2, hx => cases hx; exact .inl ⟨_, .int _, rfl⟩
        | 3, hx => cases hx; exact .inl ⟨_, .bl _, rfl⟩
        | 4, hx => cases hx; exact .inl ⟨_, .lst (SqL.of (kp15 _ _ el1 off1.2 off1.1)) (.cons (.str _) .nil), rfl⟩
        | 5, hx => cases hx; exact .inl ⟨_, .tup (tk_seqT (kp15.tk S14) (SqT.of et1)) (.cons (.str _) .nil), rfl⟩
        | 6, hx => cases hx; exact .inr ⟨_, rfl, by decide +kernel, read_odd2⟩
        | 7, hx => cases hx; exact .inr ⟨_, rfl, by decide +kernel, read_odd3⟩
        | 8, hx => cases hx; exact .inr ⟨_, rfl, by decide +kernel, read_odd4⟩
        | 9, hx => cases hx; exact .inl ⟨_, hn15.dt.dp, rfl⟩
      refine ⟨T15, fun H16 e16 T16 => ?_⟩
      have S16 := S15.ext e16
      have odd16 : (∃ dd, Dp K H16 x dd ∧ isTy (tagOf dd) "str" = false) ∨ ∃ y : Str, x = .str y ∧ y.length ≤ 3000 ∧ readNet y = .inl 1 := odd.imp_left fun ⟨dd, h1, h2⟩ => ⟨dd, dp_ext e16 h1, h2⟩
      unfold TCaught
      refine ⟨_, rfl, read_odd_sp odd16 ?_⟩
      intro x17 H17 s17 nx17 ex17
      refine ⟨true, X0.exB, fun _ z hz => ?_, fun h => by cases h⟩
      have s18 := same_upd (o := ExK (.ref CB) (some x17) z) hz
      have ez : (upd H17 z (ExK (.ref CB) (some x17) z)) z = some (ExK (.ref CB) (some x17) z) := upd_same
      have ex18 := s18 _ _ ex17
      have s1618 := s17.trans s18
      generalize upd H17 z (ExK (.ref CB) (some x17) z) = H18 at ez ex18 s1618 ⊢
      have kn : ∀ y2, some x17 = some y2 → ∃ fs, H18 y2 = some (.xd fs) := fun y2 e2 => by cases e2; exact ⟨_, ex18⟩
      refine ⟨_, rfl, z, CB, some x17, .ref CB, .ref CB, true, rfl, ez, kn, X0.ecB, fun u r => r, kit_self, _, rfl, ?_⟩
      refine iteF ⟨_, rfl, z, CB, x17, _, .int 1, rfl, ez, X0.xf, X0.nl, ex18, rfl, rfl, _, rfl, ?_⟩
      rw [deq_int, decide_eq_true rfl]
      refine iteF ⟨_, rfl, z, CB, some x17, .ty "ValueError", .type "ValueError", true, rfl, ez, kn, X0.ecB, fun u r => r, X0.kv, _, rfl, ?_⟩
      refine iteF ?_
      refine ⟨T16.ext s1618, fun H19 e19 T19 => ?_⟩
      refine ⟨_, rfl, .inl ⟨told, rfl, true, X0.exN, fun _ z2 hz2 => ?_, fun h => by cases h⟩⟩
      have s20 := same_upd (o := ExK (.ref CN) none z2) hz2
      refine ⟨z2, CN, none, .ref CN, .ref CN, true, rfl, upd_same, (fun y e => by cases e), X0.ecN, fun u r => r, kit_self, _, rfl, ?_⟩
      refine iteF ?_
      exact ⟨_, _, _, _, _, _, _, _, _, rfl, (((S16.same s1618).ext e19).same s20).less (by omega), T19.ext s20⟩
  · rintro σ H' ⟨o2, o3, o4, o5, o6, o7, o8, o9, o10, rfl, _⟩
    exact k H'
end
end K12
set_option maxHeartbeats 1000000
namespace K12
open PySem PySem.Spec PyProof.Rows L2 Hx RZ
/-! ### the head: facts by names -/
def dfn (n : Str) (st : Stmt) : He.DefD := ⟨(n, none), n, n, defArgs st, defBody st, defScope st, [], []⟩
def fn0 : List He.DefD := [dfn "is_name" sis_name, dfn "are_names" sare_names, dfn "are_taps" sare_taps, dfn "is_whole" sis_whole, dfn "is_number" sis_number, dfn "is_number_from_0" sis_number_from_0, dfn "top_of" stop_of, dfn "number_text" snumber_text, dfn "read_number" sread_number, dfn "read_whole" sread_whole, dfn "is_net" sis_net, dfn "is_part" sis_part, dfn "places_of_part" splaces_of_part, dfn "places_in" splaces_in, dfn "has_kind" shas_kind, dfn "mixes_leads_and_hubs" smixes_leads_and_hubs, dfn "check_net" scheck_net, dfn "net_text" snet_text, dfn "read_net" sread_net, dfn "read_taps_line" sread_taps_line, dfn "read_part_line" sread_part_line, dfn "fits_behind" sfits_behind, dfn "_law_begun" sL_begun, dfn "_law_blended" sL_blended, dfn "_law_draw" sL_draw, dfn "_law_pick" sL_pick, dfn "_law_shuffled" sL_shuffled, dfn "_law_caught" sL_caught, dfn "_law_ct_gcd" sL_ct_gcd, dfn "_law_ct_made" sL_ct_made]
def fn1 : List He.DefD := [dfn "_law_ct_top" sL_ct_top, dfn "_law_ct_low" sL_ct_low, dfn "_law_ct_less" sL_ct_less, dfn "_law_ct_is_number" sL_ct_is_number, dfn "_law_ct_number" sL_ct_number, dfn "_law_ct_taps" sL_ct_taps, dfn "_law_ct_part" sL_ct_part, dfn "_law_ct_net" sL_ct_net, dfn "_law_an_every" sL_an_every, dfn "_law_an_ends" sL_an_ends, dfn "_law_an_width" sL_an_width, dfn "_law_an_net" sL_an_net, dfn "_law_an_drawn" sL_an_drawn, dfn "_law_an_is_word" sL_an_is_word, dfn "_law_an_rising" sL_an_rising, dfn "_law_an_is_wide" sL_an_is_wide, dfn "_law_an_is_part" sL_an_is_part, dfn "_law_an_is_net" sL_an_is_net, dfn "_law_an_number_words" sL_an_number_words, dfn "_law_an_written" sL_an_written, dfn "_law_an_digits" sL_an_digits, dfn "_law_an_read_number" sL_an_read_number, dfn "_law_an_read_part" sL_an_read_part, dfn "_law_an_read" sL_an_read, dfn "_law_an_near_text" sL_an_near_text, dfn "law" slaw]
def fn : List He.DefD := fn0 ++ fn1
def fa0 : List He.Fa := [.glo "is_name", .glo "are_names", .glo "are_taps", .glo "is_whole", .glo "is_number", .glo "is_number_from_0", .glo "top_of", .glo "number_text", .glo "read_number", .glo "read_whole", .glo "is_net", .glo "is_part", .glo "places_of_part", .glo "places_in", .glo "has_kind", .glo "mixes_leads_and_hubs", .glo "check_net", .glo "net_text", .glo "read_net", .glo "read_taps_line", .glo "read_part_line", .glo "fits_behind", .glo "_law_begun", .glo "_law_blended", .glo "_law_draw", .glo "_law_pick", .glo "_law_shuffled", .glo "_law_caught", .glo "_law_ct_gcd", .glo "_law_ct_made"]
def fa1 : List He.Fa := [.glo "_law_ct_top", .glo "_law_ct_low", .glo "_law_ct_less", .glo "_law_ct_is_number", .glo "_law_ct_number", .glo "_law_ct_taps", .glo "_law_ct_part", .glo "_law_ct_net", .glo "_law_an_every", .glo "_law_an_ends", .glo "_law_an_width", .glo "_law_an_net", .glo "_law_an_drawn", .glo "_law_an_is_word", .glo "_law_an_rising", .glo "_law_an_is_wide", .glo "_law_an_is_part", .glo "_law_an_is_net", .glo "_law_an_number_words", .glo "_law_an_written", .glo "_law_an_digits", .glo "_law_an_read_number", .glo "_law_an_read_part", .glo "_law_an_read", .glo "_law_an_near_text", .glo "law", .free "ValueError", .free "all", .free "isinstance", .free "tuple"]
def fa2 : List He.Fa := [.free "str", .free "int", .free "list", .free "sorted", .free "any", .free "range", .free "len", .free "set", .free "abs", .free "min", .free "max", .free "bool", .free "super", .free "zip", .str "LETTERS" "abcdefghijklmnopqrstuvwxyz", .str "LETTERS_AND_DIGITS" "abcdefghijklmnopqrstuvwxyz0123456789", .int "LONGEST_NAME" 8, .int "FEWEST_TAPS" 2, .int "MOST_TAPS" 6, .int "MOST_DIGITS" 30, .str "DIGITS" "0123456789", .int "MOST_PARTS" 200, .int "MOST_PLACES" 40, .glo "TapError", .glo "BadNet", .glo "BadText", .exc "BadNet", .exm "BadNet" "TapError" true, .exm "BadText" "TapError" true]
def fa : List He.Fa := fa0 ++ fa1 ++ fa2
def loose0 : List Str := ["TapError", "BadNet", "BadText", "LETTERS", "LETTERS_AND_DIGITS", "LONGEST_NAME", "FEWEST_TAPS", "MOST_TAPS", "MOST_DIGITS", "DIGITS", "MOST_PARTS", "MOST_PLACES", "is_name", "are_names", "are_taps", "is_whole", "is_number", "is_number_from_0", "top_of", "number_text", "read_number", "read_whole", "is_net", "is_part", "places_of_part", "places_in", "has_kind", "mixes_leads_and_hubs", "check_net", "net_text"]
def loose1 : List Str := ["read_net", "read_taps_line", "read_part_line", "fits_behind", "_law_begun", "_law_blended", "_law_draw", "_law_pick", "_law_shuffled", "_law_caught", "_law_ct_gcd", "_law_ct_made", "_law_ct_top", "_law_ct_low", "_law_ct_less", "_law_ct_is_number", "_law_ct_number", "_law_ct_taps", "_law_ct_part", "_law_ct_net", "_law_an_every", "_law_an_ends", "_law_an_width", "_law_an_net", "_law_an_drawn", "_law_an_is_word", "_law_an_rising", "_law_an_is_wide", "_law_an_is_part", "_law_an_is_net"]
def loose2 : List Str := ["_law_an_number_words", "_law_an_written", "_law_an_digits", "_law_an_read_number", "_law_an_read_part", "_law_an_read", "_law_an_near_text"]
def loose : List Str := loose0 ++ loose1 ++ loose2
def tf : List He.Defn := [("law", none)]
abbrev R : PySem.W.OpenRow := PySem.W.OpenLaw.row PySem.Challenge.rw_behindtaps_k12_texts_of_nets_there_and_b
-- the index of law is 74, the view [0, 74]
/-! facts of the errors' classes -/
def oneB : Option Bool → Bool
  | some b => b
  | none => false
theorem oneB_ok {x : Option Bool} (h : oneB x = true) : x = some true := by
  cases x with
  | none => cases h
  | some b =>
    have e : b = true := h
    rw [e]
abbrev bu (n : String) : Option (Option Value) := some (some (.builtin n))
def clsB (K : PySem.W.Frag) (C : Addr) : Bool := match K.lookup C with
  | some ⟨.type t, _, .cls cd, sl⟩ => decide (t = "type") && (match cd.mro with
    | .ref D :: bm => decide (D = C) && (!cd.hasDel && (cd.hasDict && PySem.HandSPX.refsVE bm))
    | _ => false) && (match sl.toList with
    | [_, _, _, _, some (.builtin n), _] => decide (n = "ValueError.__new__")
    | _ => false)
  | _ => false
def oexB (K : PySem.W.Frag) (C : Addr) : Bool := clsB K C && (He.eqO (PySem.W.findIn K (.ref C) "__setattr__") (bu "object.__setattr__") && (oneB (PySem.W.subIn K (.ref C) (.type "BaseException")) && (decide (PySem.W.typeIn K (.ref C) = some (.type "type")) && PySem.W.keepIn K (.ref C))))
theorem clsB_ok {K : PySem.W.Frag} {C : Addr} (h : clsB K C = true) : ∃ nm q N bs bm sn sub ab col dd k0 k1 k2 k3 k5, K.lookup C = some (excClassObj nm q C N bs bm true sn sub ab col dd k0 k1 k2 k3 k5 "ValueError.__new__") ∧ PySem.HandSPX.refsVE bm = true := by
  unfold clsB at h
  split at h
  · next t dd cd sl e =>
    simp only [Bool.and_eq_true, decide_eq_true_eq] at h
    obtain ⟨⟨rfl, h2⟩, h3⟩ := h
    split at h2
    · next D bm em =>
      simp only [Bool.and_eq_true, decide_eq_true_eq, Bool.not_eq_true'] at h2
      obtain ⟨rfl, h4, h5, h6⟩ := h2
      split at h3
      · next k0 k1 k2 k3 n k5 es =>
        have en : n = "ValueError.__new__" := of_decide_eq_true h3
        subst en
        obtain ⟨a1, a2, a3, a4, a5, a6, a7, a8, a9, a10, a11⟩ := cd
        dsimp only at em h4 h5
        subst em h4 h5
        obtain ⟨l⟩ := sl
        have el : l = _ := es
        subst el
        exact ⟨a1, a5, a4, a2, bm, a7, a8, a9, a10, dd, k0, k1, k2, k3, k5, e, h6⟩
      · cases h3
    · cases h2
  · cases h
theorem oexB_ok {K : PySem.W.Frag} {C : Addr} (h : oexB K C = true) : OexC K C := by
  unfold oexB at h
  simp only [Bool.and_eq_true, decide_eq_true_eq] at h
  obtain ⟨h1, h2, h3, h4, h5⟩ := h
  exact ⟨clsB_ok h1, He.eqO_ok h2, oneB_ok h3, h4, h5⟩
def excB (K : PySem.W.Frag) (C : Addr) : Bool := He.eqO (PySem.W.findIn K (.ref C) "__getattribute__") (bu "BaseException.__getattribute__") && (He.eqO (PySem.W.findIn K (.ref C) "__getattr__") (some none) && (oneB (PySem.W.subIn K (.ref C) (.type "BaseException")) && (PySem.W.hasDictIn K C &&
  (He.eqO (PySem.W.findIn K (.ref C) "__class__") (bu "object.__class__") && (He.eqO (PySem.W.specialIn K (.builtin "object.__class__") "__get__") (bu "getset_descriptor.__get__") && (oneB (PySem.W.takesIn K (.builtin "object.__class__")) && oneB (PySem.W.mroIn K C (.type "object"))))))))
theorem excB_ok {K : PySem.W.Frag} {C : Addr} (h : excB K C = true) : ExcC K C := by
  unfold excB at h
  simp only [Bool.and_eq_true] at h
  obtain ⟨h1, h2, h3, h4, h5, h6, h7, h8⟩ := h
  exact ⟨He.eqO_ok h1, He.eqO_ok h2, oneB_ok h3, h4, He.eqO_ok h5, He.eqO_ok h6, oneB_ok h7, oneB_ok h8⟩
/-! BadText's own __init__ -/
abbrev PW0 : Program := PySem.Challenge.pw_behindtaps_k12_texts_of_nets_there_and_b
def codeB (K : PySem.W.Frag) (c : Addr) : Bool := match K.lookup c with
  | some ⟨_, _, .fields vs, _⟩ => (match (vs[2]? : Option Value) with
    | some (.str file _) => (PW0.main.file : Str) == file
    | _ => false)
  | _ => false
def cellB (K : PySem.W.Frag) (c C : Addr) : Bool := match K.lookup c with
  | some ⟨_, _, .cell (some (.ref D)), _⟩ => decide (D = C)
  | _ => false
abbrev aBT (K : PySem.W.Frag) : Addr := He.ga K "BadText"
abbrev aIni (K : PySem.W.Frag) : Addr := He.ma K (aBT K) "__init__"
def iniB (K : PySem.W.Frag) : Bool := (match K.lookup (aIni K) with
  | some ⟨_, _, .func fd, _⟩ => (match fd.closure, fd.code with
    | [(_, cc)], .ref cda => codeB K cda && (cellB K cc (aBT K) && PySem.W.codeIn K (.ref cda) "BadText.__init__")
    | _, _ => false)
  | _ => false) && (oneB (PySem.W.mroIn K (aBT K) (.ref (aBT K))) && (He.eqO (PySem.W.nsIn K cStatics "thirdparty.any") (some none) && (He.eqO (PySem.W.ks_superIn K (aBT K) (aBT K) "__init__") (bu "ValueError.__init__") && oneB (PySem.W.subIn K (.ref (aBT K)) (.type "ValueError")))))
abbrev IniV : Type := Option (Str × Str × Arguments × FuncBody × Scope × Addr × List Str × Addr × Value)
def iniObs (K : PySem.W.Frag) : IniV := match K.lookup (aIni K) with
  | some ⟨_, _, .func fd, _⟩ => some (fd.name, fd.qualname, fd.params, fd.body, fd.scope, fd.globals, fd.closure.map (·.1), fd.builtins, fd.defaults)
  | _ => none
def iniVal : IniV := some ("__init__", "BadText.__init__", defArgs sBadText_init, .stmts (defBody sBadText_init), defScope sBadText_init, mainGlobals, ["__class__"], builtinsNs, .none)
theorem ini_of {K : PySem.W.Frag} (T : OexC K (aBT K)) (e : iniObs K = iniVal) (c : iniB K = true) : ∃ (cda cc : Addr) (kV doc pm ct : Value) (an : Option Addr),
    SupC PW0 K (aBT K) (aIni K) cda cc (PySem.W.ksFn "__init__" "BadText.__init__" (defArgs sBadText_init) (defBody sBadText_init) (defScope sBadText_init) .none kV doc pm an (.ref cda) ct cc) ∧ PySem.W.codeIn K (.ref cda) "BadText.__init__" = true := by
  unfold iniB at c
  simp only [Bool.and_eq_true] at c
  obtain ⟨c1, c2, c3, c4, c5⟩ := c
  unfold iniObs at e
  cases q : K.lookup (aIni K) with
  | none =>
    rw [q] at c1
    cases c1
  | some o =>
    obtain ⟨oc, od, dt, osl⟩ := o
    rw [q] at c1 e
    cases dt with
    | func fd =>
      obtain ⟨n1, n2, n3, n4, n5, n6, n7, n8, n9, n10, n11, n12, n13, n14, n15⟩ := fd
      have e2 : (some (n1, n2, n3, n4, n5, n6, n7.map (·.1), n15, n8) : IniV) = iniVal := e
      unfold iniVal at e2
      simp only [Option.some.injEq, Prod.mk.injEq] at e2
      obtain ⟨h1, h2, h3, h4, h5, h6, h7, h8, h9⟩ := e2
      subst h1 h2 h3 h4 h5 h6 h8 h9
      match n7, n13, h7, c1 with
      | [(y, cc)], .ref cda, h7, c1 =>
        have ey : y = "__class__" := by simpa using h7
        subst ey
        have c1' : (codeB K cda && (cellB K cc (aBT K) && PySem.W.codeIn K (.ref cda) "BadText.__init__")) = true := c1
        simp only [Bool.and_eq_true] at c1'
        obtain ⟨k1, k2, k3⟩ := c1'
        refine ⟨cda, cc, n9, n10, n11, n14, n12, ⟨T, ⟨oc, od, osl, q⟩, ?_, ?_, ?_, oneB_ok c2, He.eqO_ok c3, He.eqO_ok c4, oneB_ok c5⟩, k3⟩
        · unfold codeB at k1
          split at k1
          · next o1 o2 vs o4 eo =>
            split at k1
            · next file tk ev => exact ⟨_, _, vs, _, file, tk, eo, ev, k1⟩
            · cases k1
          · cases k1
        · unfold cellB at k2
          split at k2
          · next o1 o2 D o4 eo =>
            have eD : D = aBT K := of_decide_eq_true k2
            subst eD
            exact ⟨_, _, _, eo⟩
          · cases k2
        · obtain ⟨nm, q2, N, bs, bm, sn, sub, ab, col, dd, k0, k1', k2', k3', k5, hC, _⟩ := T.cls
          exact ⟨_, by unfold PySem.W.clsIn; rw [hC]⟩
    | _ => cases c1
/-! ### the Hook -/
def ex (K : PySem.W.Frag) : Bool := oexB K (aBT K) && (excB K (aBT K) && (excB K (He.ga K "BadNet") && (xfB K (aBT K) && (He.eqO (PySem.W.findIn K (.ref (aBT K)) "line") (some none) && (oneB (PySem.W.kitOne K (.ref (aBT K)) (.type "ValueError")) &&
  (He.eqO (PySem.W.nsIn K mainGlobals "gcd") (bu "math.gcd") && (iniB K && (He.eqO (PySem.W.findIn K (.ref (aBT K)) "__init__") (some (some (.ref (aIni K)))) && decide (PySem.W.typeIn K (.ref (aIni K)) = some (.type "function"))))))))))
abbrev reach (g : Addr → Option Obj) : PySem.W.Frag := He.frT g (cStatics :: He.asD g 6)
abbrev AlY : Type := He.AlX × IniV
def obsY (g : Addr → Option Obj) : AlY := ((He.obsT fa fn [] (reach g), ex (reach g) && He.tabsB g tf (reach g)), iniObs (reach g))
def valY (w : World) : AlY := (He.valX fn [] w, iniVal)
theorem saysY {w : World} {h : Heap} (e : obsY h.get? = valY w) : He.SaysX fa fn [] tf ex w h (reach h.get?) ∧ iniObs (reach h.get?) = iniVal := by
  have e1 : He.obsT fa fn [] (reach h.get?) = He.valT fn [] w := congrArg (fun z : AlY => z.1.1) e
  have e2 : (ex (reach h.get?) && He.tabsB h.get? tf (reach h.get?)) = true := congrArg (fun z : AlY => z.1.2) e
  have e3 : iniObs (reach h.get?) = iniVal := congrArg (fun z : AlY => z.2) e
  rw [Bool.and_eq_true] at e2
  have one : ∀ p ∈ tf, PySem.W.codeHdIn (reach h.get?) (He.cT (reach h.get?) p).1 (He.cT (reach h.get?) p).2 = true ∧ ∃ o, h.get? (He.cT (reach h.get?) p).2 = some o ∧ He.emptyTab o = true := by
    intro p hp
    have z := List.all_eq_true.mp e2.2 p hp
    rw [Bool.and_eq_true] at z
    obtain ⟨z1, z2⟩ := z
    refine ⟨z1, ?_⟩
    split at z2
    · next o eo => exact ⟨o, eo, z2⟩
    · cases z2
  refine ⟨⟨e1, e2.1, fun p hp => (one p hp).1, fun p hp => ?_, fun p hp => ?_⟩, e3⟩
  · obtain ⟨_, o, a, b⟩ := one p hp
    exact He.frT_none a b
  · obtain ⟨_, o, a, b⟩ := one p hp
    rw [a, He.emptyTab_eq b]
def hk : PySem.W.Hook where
  α := AlY
  obs := fun s => obsY s.heap.get?
  val := fun w => valY w
  says := fun w h => ∃ K : PySem.W.Frag, K.In h ∧ He.SaysX fa fn [] tf ex w h K ∧ iniObs K = iniVal
  of := fun _ _ e => ⟨_, He.frT_in, (saysY e).1, (saysY e).2⟩
  keeps := fun _ _ _ ⟨K, hK, c, d⟩ kp => ⟨K, PySem.W.Frag.In.keeps hK kp, ⟨c.t, c.more, c.hd, c.out, fun p hp => kp _ _ (c.empty p hp)⟩, d⟩
def ob (s : PySem.W.SharedT) : AlY := obsY (HandSHeadRun.getT s)
theorem ob_eq (s : PySem.W.SharedT) : ob s = hk.obs s.abs := by
  have e : HandSHeadRun.getT s = s.abs.heap.get? := funext (HandSHeadRun.getT_eq s)
  show obsY (HandSHeadRun.getT s) = obsY s.abs.heap.get?
  rw [e]
end K12
set_option maxHeartbeats 4000000
namespace K12
open PySem PySem.Spec PyProof.Rows L2 Hx RZ
/-! ### the end -/
theorem dn_of {K : PySem.W.Frag} {mg : Str → Option Value} {x : Str} {st : Stmt} (g : mg x = some (.ref (He.ga K x))) (F : ∃ fd, FunD K (dfn x st).name (dfn x st).qual (dfn x st).params (dfn x st).body (dfn x st).scope ((dfn x st).dvs K) ((dfn x st).kws K) (He.fAd K (dfn x st).at_) fd) : Dn K mg x st := by
  obtain ⟨fd, q⟩ := F
  exact ⟨_, fd, g, q⟩
section
variable {w : World} {K : PySem.W.Frag} {mg : Str → Option Value} {base : Heap}
theorem bad_text {cda cc : Addr} {kV doc pm ct : Value} {an : Option Addr} (T : OexC K (aBT K)) (g : mg "BadText" = some (.ref (aBT K))) (iC : PySem.W.findIn K (.ref (aBT K)) "__init__" = some (some (.ref (aIni K)))) (tI : PySem.W.typeIn K (.ref (aIni K)) = some (.type "function"))
    (hno : PySem.W.findIn K (.ref (aBT K)) "line" = some none) (hm : mg "super" = none)
    (S : SupC PW0 K (aBT K) (aIni K) cda cc (PySem.W.ksFn "__init__" "BadText.__init__" (defArgs sBadText_init) (defBody sBadText_init) (defScope sBadText_init) .none kV doc pm an (.ref cda) ct cc)) (hcd : PySem.W.codeIn K (.ref cda) "BadText.__init__" = true) : BadT PW0 w K mg base (aBT K) := by
  refine ⟨T, g, aIni K, _, iC, tI, ini_ok (x := "self") (y := "line") (fld := "line") (k := 0) (ok := okLine) S hcd rfl rfl rfl rfl rfl (by decide +kernel) (by decide +kernel) (by decide +kernel) rfl rfl hm (by decide +kernel) rfl rfl hno
    (fun A outer s H => pa_cons (pe_joined (.cons pe_str (.cons (pe_fmt (pv 1)) .nil))) pa_nil) ?_ (by decide) (by decide) (by decide) (by decide) (fun _ => rfl) (fun _ => rfl) (fun _ => rfl) (fun _ => rfl) (fun _ => rfl) L2.CX0, ?_⟩
  · rintro a v H ⟨n, rfl, hn⟩ Q q
    refine ⟨Str.ofString "wrong in line ", rfl, ?_, _, rfl, .inr ⟨n, rfl, log_small (by omega), natS n, rfl, ?_, q _⟩⟩
    · rw [sizeLine_eq]
      decide +kernel
    · have l := natS_len (i := (n : Int)) (by omega) (by omega)
      have e0 : (Str.empty ++ Str.ofString "wrong in line ").length = 14 := by decide +kernel
      rw [append_len, e0, sizeLine_eq]
      omega
  · exact .all fun us hl => match us, hl with | [_, _], _ => rfl

end
end K12
set_option maxHeartbeats 4000000
namespace K12
open PySem PySem.Spec PyProof.Rows L2 Hx RZ
section
variable {w : World} {K : PySem.W.Frag} {mg : Str → Option Value} {base : Heap}
theorem law_at {h : Heap} {f0 : Addr} (X : K.In h) (G : h.Ns mainGlobals mg) (S : He.SaysX fa fn [] tf ex w h K) (I : iniObs K = iniVal) (hfa : mg "law" = some (.ref f0)) : LamX.LawAtS PySem.Challenge.rw_behindtaps_k12_texts_of_nets_there_and_b w K L2.CX0 10 63 "script" mg f0 h := by
  have c := S.t.d
  have e := S.more
  unfold ex at e
  simp only [Bool.and_eq_true, decide_eq_true_eq] at e
  obtain ⟨e1, e2, e3, e4, e5, e6, e7, e8, e9, e10⟩ := e
  have g_is_name := He.glo_ok X G (c.fact 0 (f := .glo "is_name") rfl)
  have g_are_names := He.glo_ok X G (c.fact 1 (f := .glo "are_names") rfl)
  have g_are_taps := He.glo_ok X G (c.fact 2 (f := .glo "are_taps") rfl)
  have g_is_whole := He.glo_ok X G (c.fact 3 (f := .glo "is_whole") rfl)
  have g_is_number := He.glo_ok X G (c.fact 4 (f := .glo "is_number") rfl)
  have g_is_number_from_0 := He.glo_ok X G (c.fact 5 (f := .glo "is_number_from_0") rfl)
  have g_top_of := He.glo_ok X G (c.fact 6 (f := .glo "top_of") rfl)
  have g_number_text := He.glo_ok X G (c.fact 7 (f := .glo "number_text") rfl)
  have g_read_number := He.glo_ok X G (c.fact 8 (f := .glo "read_number") rfl)
  have g_read_whole := He.glo_ok X G (c.fact 9 (f := .glo "read_whole") rfl)
  have g_is_net := He.glo_ok X G (c.fact 10 (f := .glo "is_net") rfl)
  have g_is_part := He.glo_ok X G (c.fact 11 (f := .glo "is_part") rfl)
  have g_places_of_part := He.glo_ok X G (c.fact 12 (f := .glo "places_of_part") rfl)
  have g_places_in := He.glo_ok X G (c.fact 13 (f := .glo "places_in") rfl)
  have g_has_kind := He.glo_ok X G (c.fact 14 (f := .glo "has_kind") rfl)
  have g_mixes_leads_and_hubs := He.glo_ok X G (c.fact 15 (f := .glo "mixes_leads_and_hubs") rfl)
  have g_check_net := He.glo_ok X G (c.fact 16 (f := .glo "check_net") rfl)
  have g_net_text := He.glo_ok X G (c.fact 17 (f := .glo "net_text") rfl)
  have g_read_net := He.glo_ok X G (c.fact 18 (f := .glo "read_net") rfl)
  have g_read_taps_line := He.glo_ok X G (c.fact 19 (f := .glo "read_taps_line") rfl)
  have g_read_part_line := He.glo_ok X G (c.fact 20 (f := .glo "read_part_line") rfl)
  have g_fits_behind := He.glo_ok X G (c.fact 21 (f := .glo "fits_behind") rfl)
  have g__law_begun := He.glo_ok X G (c.fact 22 (f := .glo "_law_begun") rfl)
  have g__law_blended := He.glo_ok X G (c.fact 23 (f := .glo "_law_blended") rfl)
  have g__law_draw := He.glo_ok X G (c.fact 24 (f := .glo "_law_draw") rfl)
  have g__law_pick := He.glo_ok X G (c.fact 25 (f := .glo "_law_pick") rfl)
  have g__law_shuffled := He.glo_ok X G (c.fact 26 (f := .glo "_law_shuffled") rfl)
  have g__law_caught := He.glo_ok X G (c.fact 27 (f := .glo "_law_caught") rfl)
  have g__law_ct_gcd := He.glo_ok X G (c.fact 28 (f := .glo "_law_ct_gcd") rfl)
  have g__law_ct_made := He.glo_ok X G (c.fact 29 (f := .glo "_law_ct_made") rfl)
  have g__law_ct_top := He.glo_ok X G (c.fact 30 (f := .glo "_law_ct_top") rfl)
  have g__law_ct_low := He.glo_ok X G (c.fact 31 (f := .glo "_law_ct_low") rfl)
  have g__law_ct_less := He.glo_ok X G (c.fact 32 (f := .glo "_law_ct_less") rfl)
  have g__law_ct_is_number := He.glo_ok X G (c.fact 33 (f := .glo "_law_ct_is_number") rfl)
  have g__law_ct_number := He.glo_ok X G (c.fact 34 (f := .glo "_law_ct_number") rfl)
  have g__law_ct_taps := He.glo_ok X G (c.fact 35 (f := .glo "_law_ct_taps") rfl)
  have g__law_ct_part := He.glo_ok X G (c.fact 36 (f := .glo "_law_ct_part") rfl)
  have g__law_ct_net := He.glo_ok X G (c.fact 37 (f := .glo "_law_ct_net") rfl)
  have g__law_an_every := He.glo_ok X G (c.fact 38 (f := .glo "_law_an_every") rfl)
  have g__law_an_ends := He.glo_ok X G (c.fact 39 (f := .glo "_law_an_ends") rfl)
  have g__law_an_width := He.glo_ok X G (c.fact 40 (f := .glo "_law_an_width") rfl)
  have g__law_an_net := He.glo_ok X G (c.fact 41 (f := .glo "_law_an_net") rfl)
  have g__law_an_drawn := He.glo_ok X G (c.fact 42 (f := .glo "_law_an_drawn") rfl)
  have g__law_an_is_word := He.glo_ok X G (c.fact 43 (f := .glo "_law_an_is_word") rfl)
  have g__law_an_rising := He.glo_ok X G (c.fact 44 (f := .glo "_law_an_rising") rfl)
  have g__law_an_is_wide := He.glo_ok X G (c.fact 45 (f := .glo "_law_an_is_wide") rfl)
  have g__law_an_is_part := He.glo_ok X G (c.fact 46 (f := .glo "_law_an_is_part") rfl)
  have g__law_an_is_net := He.glo_ok X G (c.fact 47 (f := .glo "_law_an_is_net") rfl)
  have g__law_an_number_words := He.glo_ok X G (c.fact 48 (f := .glo "_law_an_number_words") rfl)
  have g__law_an_written := He.glo_ok X G (c.fact 49 (f := .glo "_law_an_written") rfl)
  have g__law_an_digits := He.glo_ok X G (c.fact 50 (f := .glo "_law_an_digits") rfl)
  have g__law_an_read_number := He.glo_ok X G (c.fact 51 (f := .glo "_law_an_read_number") rfl)
  have g__law_an_read_part := He.glo_ok X G (c.fact 52 (f := .glo "_law_an_read_part") rfl)
  have g__law_an_read := He.glo_ok X G (c.fact 53 (f := .glo "_law_an_read") rfl)
  have g__law_an_near_text := He.glo_ok X G (c.fact 54 (f := .glo "_law_an_near_text") rfl)
  have g_law := He.glo_ok X G (c.fact 55 (f := .glo "law") rfl)
  have h_ValueError := He.free_ok X G (c.fact 56 (f := .free "ValueError") rfl)
  have h_all := He.free_ok X G (c.fact 57 (f := .free "all") rfl)
  have h_isinstance := He.free_ok X G (c.fact 58 (f := .free "isinstance") rfl)
  have h_tuple := He.free_ok X G (c.fact 59 (f := .free "tuple") rfl)
  have h_str := He.free_ok X G (c.fact 60 (f := .free "str") rfl)
  have h_int := He.free_ok X G (c.fact 61 (f := .free "int") rfl)
  have h_list := He.free_ok X G (c.fact 62 (f := .free "list") rfl)
  have h_sorted := He.free_ok X G (c.fact 63 (f := .free "sorted") rfl)
  have h_any := He.free_ok X G (c.fact 64 (f := .free "any") rfl)
  have h_range := He.free_ok X G (c.fact 65 (f := .free "range") rfl)
  have h_len := He.free_ok X G (c.fact 66 (f := .free "len") rfl)
  have h_set := He.free_ok X G (c.fact 67 (f := .free "set") rfl)
  have h_abs := He.free_ok X G (c.fact 68 (f := .free "abs") rfl)
  have h_min := He.free_ok X G (c.fact 69 (f := .free "min") rfl)
  have h_max := He.free_ok X G (c.fact 70 (f := .free "max") rfl)
  have h_bool := He.free_ok X G (c.fact 71 (f := .free "bool") rfl)
  have h_super := He.free_ok X G (c.fact 72 (f := .free "super") rfl)
  have h_zip := He.free_ok X G (c.fact 73 (f := .free "zip") rfl)
  have c_LETTERS := He.str_ok X G (c.fact 74 (f := .str "LETTERS" "abcdefghijklmnopqrstuvwxyz") rfl)
  have c_LETTERS_AND_DIGITS := He.str_ok X G (c.fact 75 (f := .str "LETTERS_AND_DIGITS" "abcdefghijklmnopqrstuvwxyz0123456789") rfl)
  have c_LONGEST_NAME := He.int_ok X G (c.fact 76 (f := .int "LONGEST_NAME" 8) rfl)
  have c_FEWEST_TAPS := He.int_ok X G (c.fact 77 (f := .int "FEWEST_TAPS" 2) rfl)
  have c_MOST_TAPS := He.int_ok X G (c.fact 78 (f := .int "MOST_TAPS" 6) rfl)
  have c_MOST_DIGITS := He.int_ok X G (c.fact 79 (f := .int "MOST_DIGITS" 30) rfl)
  have c_DIGITS := He.str_ok X G (c.fact 80 (f := .str "DIGITS" "0123456789") rfl)
  have c_MOST_PARTS := He.int_ok X G (c.fact 81 (f := .int "MOST_PARTS" 200) rfl)
  have c_MOST_PLACES := He.int_ok X G (c.fact 82 (f := .int "MOST_PLACES" 40) rfl)
  have g_TapError := He.glo_ok X G (c.fact 83 (f := .glo "TapError") rfl)
  have g_BadNet := He.glo_ok X G (c.fact 84 (f := .glo "BadNet") rfl)
  have g_BadText := He.glo_ok X G (c.fact 85 (f := .glo "BadText") rfl)
  have D_is_name := dn_of g_is_name (c.def_ 0 (d := dfn "is_name" sis_name) rfl)
  have D_are_names := dn_of g_are_names (c.def_ 1 (d := dfn "are_names" sare_names) rfl)
  have D_are_taps := dn_of g_are_taps (c.def_ 2 (d := dfn "are_taps" sare_taps) rfl)
  have D_is_whole := dn_of g_is_whole (c.def_ 3 (d := dfn "is_whole" sis_whole) rfl)
  have D_is_number := dn_of g_is_number (c.def_ 4 (d := dfn "is_number" sis_number) rfl)
  have D_is_number_from_0 := dn_of g_is_number_from_0 (c.def_ 5 (d := dfn "is_number_from_0" sis_number_from_0) rfl)
  have D_top_of := dn_of g_top_of (c.def_ 6 (d := dfn "top_of" stop_of) rfl)
  have D_number_text := dn_of g_number_text (c.def_ 7 (d := dfn "number_text" snumber_text) rfl)
  have D_read_number := dn_of g_read_number (c.def_ 8 (d := dfn "read_number" sread_number) rfl)
  have D_read_whole := dn_of g_read_whole (c.def_ 9 (d := dfn "read_whole" sread_whole) rfl)
  have D_is_net := dn_of g_is_net (c.def_ 10 (d := dfn "is_net" sis_net) rfl)
  have D_is_part := dn_of g_is_part (c.def_ 11 (d := dfn "is_part" sis_part) rfl)
  have D_places_of_part := dn_of g_places_of_part (c.def_ 12 (d := dfn "places_of_part" splaces_of_part) rfl)
  have D_places_in := dn_of g_places_in (c.def_ 13 (d := dfn "places_in" splaces_in) rfl)
  have D_has_kind := dn_of g_has_kind (c.def_ 14 (d := dfn "has_kind" shas_kind) rfl)
  have D_mixes_leads_and_hubs := dn_of g_mixes_leads_and_hubs (c.def_ 15 (d := dfn "mixes_leads_and_hubs" smixes_leads_and_hubs) rfl)
  have D_check_net := dn_of g_check_net (c.def_ 16 (d := dfn "check_net" scheck_net) rfl)
  have D_net_text := dn_of g_net_text (c.def_ 17 (d := dfn "net_text" snet_text) rfl)
  have D_read_net := dn_of g_read_net (c.def_ 18 (d := dfn "read_net" sread_net) rfl)
  have D_read_taps_line := dn_of g_read_taps_line (c.def_ 19 (d := dfn "read_taps_line" sread_taps_line) rfl)
  have D_read_part_line := dn_of g_read_part_line (c.def_ 20 (d := dfn "read_part_line" sread_part_line) rfl)
  have D_fits_behind := dn_of g_fits_behind (c.def_ 21 (d := dfn "fits_behind" sfits_behind) rfl)
  have D__law_begun := dn_of g__law_begun (c.def_ 22 (d := dfn "_law_begun" sL_begun) rfl)
  have D__law_blended := dn_of g__law_blended (c.def_ 23 (d := dfn "_law_blended" sL_blended) rfl)
  have D__law_draw := dn_of g__law_draw (c.def_ 24 (d := dfn "_law_draw" sL_draw) rfl)
  have D__law_pick := dn_of g__law_pick (c.def_ 25 (d := dfn "_law_pick" sL_pick) rfl)
  have D__law_shuffled := dn_of g__law_shuffled (c.def_ 26 (d := dfn "_law_shuffled" sL_shuffled) rfl)
  have D__law_caught := dn_of g__law_caught (c.def_ 27 (d := dfn "_law_caught" sL_caught) rfl)
  have D__law_ct_gcd := dn_of g__law_ct_gcd (c.def_ 28 (d := dfn "_law_ct_gcd" sL_ct_gcd) rfl)
  have D__law_ct_made := dn_of g__law_ct_made (c.def_ 29 (d := dfn "_law_ct_made" sL_ct_made) rfl)
  have D__law_ct_top := dn_of g__law_ct_top (c.def_ 30 (d := dfn "_law_ct_top" sL_ct_top) rfl)
  have D__law_ct_low := dn_of g__law_ct_low (c.def_ 31 (d := dfn "_law_ct_low" sL_ct_low) rfl)
  have D__law_ct_less := dn_of g__law_ct_less (c.def_ 32 (d := dfn "_law_ct_less" sL_ct_less) rfl)
  have D__law_ct_is_number := dn_of g__law_ct_is_number (c.def_ 33 (d := dfn "_law_ct_is_number" sL_ct_is_number) rfl)
  have D__law_ct_number := dn_of g__law_ct_number (c.def_ 34 (d := dfn "_law_ct_number" sL_ct_number) rfl)
  have D__law_ct_taps := dn_of g__law_ct_taps (c.def_ 35 (d := dfn "_law_ct_taps" sL_ct_taps) rfl)
  have D__law_ct_part := dn_of g__law_ct_part (c.def_ 36 (d := dfn "_law_ct_part" sL_ct_part) rfl)
  have D__law_ct_net := dn_of g__law_ct_net (c.def_ 37 (d := dfn "_law_ct_net" sL_ct_net) rfl)
  have D__law_an_every := dn_of g__law_an_every (c.def_ 38 (d := dfn "_law_an_every" sL_an_every) rfl)
  have D__law_an_ends := dn_of g__law_an_ends (c.def_ 39 (d := dfn "_law_an_ends" sL_an_ends) rfl)
  have D__law_an_width := dn_of g__law_an_width (c.def_ 40 (d := dfn "_law_an_width" sL_an_width) rfl)
  have D__law_an_net := dn_of g__law_an_net (c.def_ 41 (d := dfn "_law_an_net" sL_an_net) rfl)
  have D__law_an_drawn := dn_of g__law_an_drawn (c.def_ 42 (d := dfn "_law_an_drawn" sL_an_drawn) rfl)
  have D__law_an_is_word := dn_of g__law_an_is_word (c.def_ 43 (d := dfn "_law_an_is_word" sL_an_is_word) rfl)
  have D__law_an_rising := dn_of g__law_an_rising (c.def_ 44 (d := dfn "_law_an_rising" sL_an_rising) rfl)
  have D__law_an_is_wide := dn_of g__law_an_is_wide (c.def_ 45 (d := dfn "_law_an_is_wide" sL_an_is_wide) rfl)
  have D__law_an_is_part := dn_of g__law_an_is_part (c.def_ 46 (d := dfn "_law_an_is_part" sL_an_is_part) rfl)
  have D__law_an_is_net := dn_of g__law_an_is_net (c.def_ 47 (d := dfn "_law_an_is_net" sL_an_is_net) rfl)
  have D__law_an_number_words := dn_of g__law_an_number_words (c.def_ 48 (d := dfn "_law_an_number_words" sL_an_number_words) rfl)
  have D__law_an_written := dn_of g__law_an_written (c.def_ 49 (d := dfn "_law_an_written" sL_an_written) rfl)
  have D__law_an_digits := dn_of g__law_an_digits (c.def_ 50 (d := dfn "_law_an_digits" sL_an_digits) rfl)
  have D__law_an_read_number := dn_of g__law_an_read_number (c.def_ 51 (d := dfn "_law_an_read_number" sL_an_read_number) rfl)
  have D__law_an_read_part := dn_of g__law_an_read_part (c.def_ 52 (d := dfn "_law_an_read_part" sL_an_read_part) rfl)
  have D__law_an_read := dn_of g__law_an_read (c.def_ 53 (d := dfn "_law_an_read" sL_an_read) rfl)
  have D__law_an_near_text := dn_of g__law_an_near_text (c.def_ 54 (d := dfn "_law_an_near_text" sL_an_near_text) rfl)
  obtain ⟨cda, cc, kV1, doc1, pm1, ct1, an1, sup, hcd1⟩ := ini_of (oexB_ok e1) I e8
  have g_gcd := PySem.W.mg_of X G (He.eqO_ok e7)
  obtain ⟨fd, F⟩ := c.def_ 55 (d := dfn "law" slaw) rfl
  obtain ⟨oc, od, dV, kV, doc, pm, an, cdv, ct, osl, efd, lk, hcd, hD, hK⟩ := F.ex
  obtain ⟨c0, ec0⟩ := He.codeIn_ref hcd
  subst ec0
  subst efd
  have ecode : He.codeOf K ("law", none) = c0 := He.codeOf_eq lk rfl
  have ef : He.ga K "law" = f0 := by
    have q := g_law.symm.trans hfa
    exact Value.ref.inj (Option.some.inj q)
  have mem : (("law", none) : He.Defn) ∈ tf := List.mem_singleton.mpr rfl
  have t1 := S.empty _ mem
  have t2 := S.out _ mem
  have t3 := PySem.W.codeHd_of_K X (S.hd _ mem)
  have ecT : He.cT K ("law", none) = (c0, He.tabOf K c0) := by
    unfold He.cT
    rw [ecode]
  rw [ecT] at t1 t2 t3
  have one : ∀ p ∈ [(c0, He.tabOf K c0)], p = (c0, He.tabOf K c0) := fun p hp => List.mem_singleton.mp hp
  have bnd := FunD.bindsA (ps := ["script"]) F fun _ _ _ _ _ _ us hl => match us, hl with | [_], _ => rfl
  subst ef
  refine ⟨_, [(c0, He.tabOf K c0)], spLaw K (He.tabOf K c0), fun p hp => by rw [one p hp]; exact t1, fun p hp => by rw [one p hp]; exact t2, fun p hp => by rw [one p hp]; exact t3, fun s u => bnd s [u] rfl, fun H a ns hl _ hH hS => ⟨a, ns, rfl, hS, hl, fun p hp => ?_, fun _ => rfl⟩, fun base Xb Gb TB => ?_⟩
  · rw [List.mem_singleton.mp hp]
    exact LamX.TabS.nil (hH _ (List.mem_singleton.mpr rfl))
  have bt : BadT PW0 w K mg base (aBT K) := bad_text (oexB_ok e1) g_BadText (He.eqO_ok e9) e10 (He.eqO_ok e5) h_super sup hcd1
  have xc := He.exc_ok (c.fact 86 (f := .exc "BadNet") rfl)
  have bn : OwnE K mg "BadNet" (He.ga K "BadNet") := ⟨⟨_, _, _, _, PySem.F.excBase_ValueError, xc.1⟩, g_BadNet, xc.2.1, xc.2.2.1, xc.2.2.2⟩
  have B__law_blended := ok_blended (P := PW0) (w := w) (base := base) D__law_blended h_int
  have B__law_draw := ok_draw (P := PW0) (w := w) (base := base) D__law_draw B__law_blended h_int
  have B__law_pick := ok_pick (P := PW0) (w := w) (base := base) D__law_pick B__law_draw h_len
  have B__law_shuffled := ok_shuffled (P := PW0) (w := w) (base := base) D__law_shuffled B__law_draw h_len h_list
  have B__law_ct_gcd := ok_ct_gcd (P := PW0) (w := w) (base := base) D__law_ct_gcd h_abs h_int
  have B__law_ct_top := ok_ct_top (P := PW0) (w := w) (base := base) D__law_ct_top h_isinstance h_tuple
  have B__law_ct_low := ok_ct_low (P := PW0) (w := w) (base := base) D__law_ct_low h_isinstance h_tuple
  have B__law_ct_less := ok_ct_less (P := PW0) (w := w) (base := base) D__law_ct_less B__law_ct_top B__law_ct_low
  have B__law_ct_made := ok_ct_made (P := PW0) (w := w) (base := base) D__law_ct_made B__law_ct_gcd
  have B__law_ct_is_number := ok_ct_is_number (P := PW0) (w := w) (base := base) D__law_ct_is_number B__law_ct_gcd h_isinstance h_tuple h_int h_bool h_len
  have B_is_name := ok_is_name (P := PW0) (w := w) (base := base) D_is_name h_isinstance h_str h_len h_all c_LETTERS c_LETTERS_AND_DIGITS c_LONGEST_NAME
  have B_are_names := ok_are_names (P := PW0) (w := w) (base := base) D_are_names B_is_name h_isinstance h_tuple h_all h_zip
  have B_are_taps := ok_are_taps (P := PW0) (w := w) (base := base) D_are_taps B_are_names h_len c_FEWEST_TAPS c_MOST_TAPS
  have B_is_whole := ok_is_whole (P := PW0) (w := w) (base := base) D_is_whole h_isinstance h_int h_bool
  have B_is_number := ok_is_number (P := PW0) (w := w) (base := base) D_is_number B_is_whole h_isinstance h_tuple h_len g_gcd
  have B_top_of := ok_top_of (P := PW0) (w := w) (base := base) D_top_of h_isinstance h_tuple
  have B_is_number_from_0 := ok_is_number_from_0 (P := PW0) (w := w) (base := base) D_is_number_from_0 B_is_number B_top_of
  have B_number_text := ok_number_text (P := PW0) (w := w) (base := base) D_number_text h_isinstance h_tuple h_str
  have B_read_whole := ok_read_whole (P := PW0) (w := w) (base := base) D_read_whole h_len h_all h_int c_MOST_DIGITS c_DIGITS
  have B_read_number := ok_read_number (P := PW0) (w := w) (base := base) D_read_number B_read_whole B_is_number
  have B_places_of_part := ok_places_of_part (P := PW0) (w := w) (base := base) D_places_of_part
  have B_has_kind := ok_has_kind (P := PW0) (w := w) (base := base) D_has_kind h_any
  have B_mixes_leads_and_hubs := ok_mixes (P := PW0) (w := w) (base := base) D_mixes_leads_and_hubs B_has_kind
  have B_places_in := ok_places_in (P := PW0) (w := w) (base := base) D_places_in B_places_of_part h_list h_set h_sorted
  have B_is_part := ok_is_part (P := PW0) (w := w) (base := base) D_is_part B_is_number_from_0 B_are_names B_is_name h_isinstance h_tuple h_len
  have B_is_net := ok_is_net (P := PW0) (w := w) (base := base) D_is_net B_are_taps B_is_part B_mixes_leads_and_hubs B_places_in h_isinstance h_tuple h_len h_all c_MOST_PARTS c_MOST_PLACES
  have B_check_net := ok_check_net (P := PW0) (w := w) (base := base) bn D_check_net B_is_net
  have W_net_text := okw_net_text (P := PW0) (w := w) (base := base) D_net_text B_check_net B_places_of_part B_number_text
  have B_read_taps_line := ok_read_taps_line (P := PW0) (w := w) (base := base) D_read_taps_line B_are_taps h_tuple
  have B_read_part_line := ok_read_part_line (P := PW0) (w := w) (base := base) D_read_part_line B_read_number B_are_names B_is_name h_tuple h_len
  have B_fits_behind := ok_fits_behind (P := PW0) (w := w) (base := base) D_fits_behind B_mixes_leads_and_hubs B_places_in h_len c_MOST_PARTS c_MOST_PLACES
  have W_read_net := okw_read_net (P := PW0) (w := w) (base := base) bt D_read_net B_read_taps_line B_read_part_line B_fits_behind h_isinstance h_str h_len h_range h_tuple
  have B__law_an_is_word := ok_an_is_word (P := PW0) (w := w) (base := base) D__law_an_is_word h_isinstance h_str h_len
  have B__law_an_rising := ok_an_rising (P := PW0) (w := w) (base := base) D__law_an_rising B__law_an_is_word h_isinstance h_tuple h_len h_list h_set h_sorted
  have B__law_an_is_wide := ok_an_is_wide (P := PW0) (w := w) (base := base) D__law_an_is_wide B__law_ct_is_number B__law_ct_less
  have B__law_an_is_part := ok_an_is_part (P := PW0) (w := w) (base := base) D__law_an_is_part B__law_an_rising B__law_an_is_wide B__law_an_is_word h_isinstance h_tuple h_len
  have B__law_an_ends := ok_an_ends (P := PW0) (w := w) (base := base) D__law_an_ends
  have B__law_an_every := ok_an_every (P := PW0) (w := w) (base := base) D__law_an_every h_list h_sorted
  have B__law_an_is_net := ok_an_is_net (P := PW0) (w := w) (base := base) D__law_an_is_net B__law_an_rising B__law_an_is_part B__law_an_every h_isinstance h_tuple h_len
  have B__law_an_number_words := ok_an_number_words (P := PW0) (w := w) (base := base) D__law_an_number_words h_isinstance h_tuple h_str
  have B__law_an_written := ok_an_written (P := PW0) (w := w) (base := base) D__law_an_written B__law_an_ends B__law_an_number_words h_list
  have B__law_an_digits := ok_an_digits (P := PW0) (w := w) (base := base) D__law_an_digits h_len h_int
  have B__law_an_read_number := ok_an_read_number (P := PW0) (w := w) (base := base) D__law_an_read_number B__law_an_digits B__law_ct_is_number h_len
  have B__law_an_read_part := ok_an_read_part (P := PW0) (w := w) (base := base) D__law_an_read_part B__law_an_read_number B__law_an_is_part h_len h_tuple
  have B__law_an_read := ok_an_read (P := PW0) (w := w) (base := base) D__law_an_read B__law_an_is_net B__law_an_read_part h_len h_tuple h_range
  have B__law_ct_number := ok_ct_number (P := PW0) (w := w) (base := base) D__law_ct_number B__law_pick
  have B__law_ct_taps := ok_ct_taps (P := PW0) (w := w) (base := base) D__law_ct_taps B__law_pick B__law_draw B__law_shuffled h_tuple h_sorted
  have B__law_ct_part := ok_ct_part (P := PW0) (w := w) (base := base) D__law_ct_part B__law_shuffled B__law_ct_number B__law_draw h_tuple h_sorted h_len h_min h_max
  have B__law_ct_net := ok_ct_net (P := PW0) (w := w) (base := base) D__law_ct_net B__law_draw B__law_pick B__law_ct_part h_tuple h_list h_range
  have B__law_an_width := ok_an_width (P := PW0) (w := w) (base := base) D__law_an_width B__law_ct_number B__law_draw B__law_ct_made
  have B__law_an_net := ok_an_net (P := PW0) (w := w) (base := base) D__law_an_net B__law_ct_net B__law_draw B__law_an_width h_tuple
  have B__law_an_drawn := ok_an_drawn (P := PW0) (w := w) (base := base) D__law_an_drawn B__law_pick B__law_ct_taps B__law_an_net
  have B__law_begun := ok_begun (P := PW0) (w := w) (base := base) D__law_begun h_abs
  have B__law_an_near_text := ok_an_near_text (P := PW0) (w := w) (base := base) D__law_an_near_text B__law_draw B__law_pick h_len
  refine ok_law (CT := He.ga K "TapError") (CB := aBT K) (CN := He.ga K "BadNet") ⟨g_TapError, g_BadText, g_BadNet, He.exm_ok (c.fact 88 (f := .exm "BadText" "TapError" true) rfl), He.exm_ok (c.fact 87 (f := .exm "BadNet" "TapError" true) rfl), excB_ok e2, excB_ok e3, xfB_ok e4, He.eqO_ok e5, oneB_ok e6⟩ lk hcd (TB _ (List.mem_singleton.mpr rfl)) D__law_caught B__law_begun B__law_an_drawn B__law_an_written W_net_text W_read_net B__law_an_near_text B__law_an_read B__law_pick h_isinstance h_int h_range h_ValueError
end
end K12
set_option maxHeartbeats 0
namespace K12
open PySem PySem.Spec PyProof.Rows L2
theorem run (w : World) : HandSHeadRun.RunEqI R (PySem.W.view R.prog [0, 74]) hk ob 4000 loose w := by
  unfold HandSHeadRun.RunEqI
  kernel_rfl
end K12
set_option maxHeartbeats 4000000
open PySem PySem.W PySem.Calls PyProof.Rows
theorem PySem.Challenge.cw_behindtaps_k12_texts_of_nets_there_and_b_holds : PySem.Challenge.rw_behindtaps_k12_texts_of_nets_there_and_b.Holds := by
  w_on; o_law
  refine HandSHeadRun.head_imp (r := OpenLaw.row PySem.Challenge.rw_behindtaps_k12_texts_of_nets_there_and_b) (q := view (OpenLaw.row PySem.Challenge.rw_behindtaps_k12_texts_of_nets_there_and_b).prog [0, 74]) (H := K12.hk) (ob := K12.ob) (M := 4000) (loose := K12.loose) (d := HandSHeadRun.topDef (OpenLaw.row PySem.Challenge.rw_behindtaps_k12_texts_of_nets_there_and_b).prog 74) (kwd := []) K12.ob_eq
    K12.run (by kernel_rfl) (by kernel_rfl) (by kernel_rfl) (by rfl) (by first | assumption | decide +kernel) (by decide +kernel) ⟨rfl, rfl, rfl, rfl, rfl, by decide +kernel⟩ ?hw ?hc
  case hw => w_witness2
  case hc =>
    refine LamX.walk_ofTsE (l := PySem.Challenge.rw_behindtaps_k12_texts_of_nets_there_and_b) (n := 63) (k := 10) (x := "script") (CX := fun _ => L2.CX0) rfl (by decide) (by kernel_rfl) ⟨rfl, by decide, by decide⟩ ?F (fun _ _ _ _ _ z => z)
    intro w mg fa h Y G hmg0
    obtain ⟨K, KX, c, i⟩ := Y
    have hmg : mg ("law" : PySem.Str) = some (.ref fa) := by
      have e : (HandSHeadRun.topDef (OpenLaw.row PySem.Challenge.rw_behindtaps_k12_texts_of_nets_there_and_b).prog 74).name = ("law" : PySem.Str) := by kernel_rfl
      rw [← e]
      exact hmg0
    exact ⟨K, KX, K12.law_at KX G c i hmg⟩
