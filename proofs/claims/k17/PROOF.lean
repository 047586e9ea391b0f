import PyProof.Rows.All
import Wide.All
import OpenK.AllK
import Wide.FinOn
import KE.KSuper
import KE.KExcSuper
import HandS.ForMost
import HandS.ForExc
import HandS.ExcInit
import HandS.Defaults
import KE.KIsAll
import KE.KTryMore
import KE.KExcIs
import HandS.ExcIs
import HandS.ExcField
import HandS.Lambda
import HandS.Words
import HandS.WordsExc
import HandS.Wide
import HandS.Gcd
import HandS.FStr
import HandS.Flow
import HandS.More
import HandS.Star
import HandS.IsInst
import HandS.Zip
import HandS.Codes
import KE.KStateDown
import Lean
import HandS.Ends
import HandS.Head0
import HandS.Head1
import HandS.Head2
import HandS.Head3
import HandS.HeadEnd
import HandS.HeadHook1
import HandS.HeadHook2
import HandS.HeadHook3
import HandS.HeadHook4
import HandS.HeadWalk
import KE.KExcInit
import HandS.Comp
import HandS.TupAny
import HandS.Iter
import HandS.Text
import HandS.SetTxt0
import HandS.SetFor
import HandS.Set
import HandS.Strs
import PyProof.Rows.SortShellAny
import PyProof.AutoSeq1
import KE.DataCmp
import KE.SortData
import HandS.DictTup
import HandS.Conv
import PyProof.Transfer
import HandS.ExcOwn
import KE.DataMinMax
import KE.LtData
import PyProof.StrOps2
import KE.Datum
import PyProof.P3Eq
import HandS.Deep
import HandS.DictComp
import PySem.Challenge.RW_behindtaps_k17_texts_of_claims
set_option Elab.async false
set_option linter.all false
set_option maxRecDepth 100000
set_option maxHeartbeats 2000000
/-! own errors whose __init__ says super().__init__(e), over ValueError, one own class or more between -/
namespace Hx
open PySem PySem.Spec PyProof.Rows L2
abbrev initEnv (qual : Str) (sc : Scope) (s : Shared) (f cda cc : Addr) : Env := PySem.W.ksEnv qual sc s.heap.objs.size f (.ref cda) cc
/-- the body of such an __init__, entered at s -/
def cloCx (P : Program) (w : World) (K : PySem.W.Frag) (mg : Str → Option Value) (base : Heap) (N : List Str) (qual : Str) (sc : Scope) (f cda cc : Addr)
    (A : Around) (outer : List Env) (s : Shared) (H : Hp) : Cx :=
  { prog := P, w := w, K := K, mg := mg, base := base, A := A.deeper (initEnv qual sc s f cda cc), N := N, s_0 := s, H_0 := H, env := initEnv qual sc s f cda cc,
    outer := outer, stack := initEnv qual sc s f cda cc :: outer, ex := [], fn := fun _ => false, calm := true, pn := [], xe := fun _ _ => False }
section
variable {P : Program} {w : World} {K : PySem.W.Frag} {mg : Str → Option Value} {base : Heap} {qual x y : Str} {sc : Scope} {f cda cc : Addr}
  {A : Around} {outer : List Env} {s : Shared} {H : Hp}
theorem clo_start {v1 v2 : V} {u1 u2 : Value} {h1 : Heap} {tk : Nat} {oc : Obj} {vc : Option Value} (hk : sc.kind = .function) (hx : sc.names.lookup x = some .local) (hy : sc.names.lookup y = some .local) (nxy : x ≠ y)
    (nocell : ∀ z ∈ sc.names, z.2 ≠ .cell) (hfree : ∀ z ∈ sc.names, z.2 = .free → z.1 = "__class__") (hcc : base.get? cc = some oc) (hoc : oc.data = .cell vc)
    (hd : A.handled = none) (e0 : Env0 P w K mg base A outer s H) (r1 : RelV v1 u1) (r2 : RelV v2 u2)
    (hns : h1.Ns s.heap.objs.size fun z => ([(x, u1), (y, u2)] : List (Str × Value)).reverse.lookup z) (kp : ∀ b o, s.heap.get? b = some o → h1.get? b = some o) :
    Inv (cloCx P w K mg base [x, y] qual sc f cda cc A outer s H) [] [some v1, some v2] H { s with heap := h1, toks := tk } := by
  have none_ex : ∀ b : Addr, b ∉ (cloCx P w K mg base [x, y] qual sc f cda cc A outer s H).ex := fun b z => nomatch z
  have only : ∀ z c, ([("__class__", cc)] : List (Str × Addr)).lookup z = some c → z = "__class__" ∧ c = cc := fun z c e => by
    have m := PySem.mem_of_lookup e
    simp only [List.mem_singleton, Prod.mk.injEq] at m
    exact m
  have okX : (cloCx P w K mg base [x, y] qual sc f cda cc A outer s H).Ok := {
    mod := e0.mod
    kind := hk
    glob := rfl
    blt := rfl
    above := Nat.le_refl _
    inj := fun z z' c e e' => (only z c e).1.trans (only z' c e').1.symm
    has := fun z hz => by
      have hz' : sc.names.lookup z = some .cell ∨ sc.names.lookup z = some .free := hz
      rcases hz' with q | q
      · exact absurd rfl (nocell _ (PySem.mem_of_lookup q))
      · have e := hfree _ (PySem.mem_of_lookup q) rfl
        exact ⟨cc, by rw [show z = "__class__" from e]; rfl⟩
    cab := fun z c q _ => nomatch q
    hd := fun _ => hd
    frames := Around.frames_deeper e0.frames
    stk := .inr ⟨rfl, rfl⟩
    exf := fun b z => absurd z (none_ex b)
    bs := e0.bs
    bsz := e0.bsz
    noex := fun b _ _ => none_ex b
    exfs := fun b z => absurd z (none_ex b)
    funs := e0.funs
    frf := e0.frf }
  refine { ok := okX, os := rfl, bare := e0.bare, base := Un.kept kp, loc := ⟨_, hns, fun i z v e1 e2 e3 => ?_⟩, cell := fun z c e => ?_, free := e0.hok.fresh (Nat.le_refl _), freeC := fun z c e => ?_, pin := fun p hp => ?_, hok := e0.hok.kept kp, len := rfl }
  · match i, e1, e2 with
    | 0, e1, e2 =>
      cases e1
      cases e2
      refine ⟨u1, r1, .inl ⟨hx, ?_⟩⟩
      show ([(y, u2), (x, u1)] : List (Str × Value)).lookup x = some u1
      rw [List.lookup_cons]
      have : (x == y) = false := by simpa using nxy
      rw [this]
      simp [List.lookup]
    | 1, e1, e2 =>
      cases e1
      cases e2
      refine ⟨u2, r2, .inl ⟨hy, ?_⟩⟩
      show ([(y, u2), (x, u1)] : List (Str × Value)).lookup y = some u2
      simp [List.lookup]
  · obtain ⟨_, rfl⟩ := only z c e
    exact ⟨vc, oc, kp _ _ (e0.bs _ _ hcc).1, hoc⟩
  · obtain ⟨_, rfl⟩ := only z c e
    exact (e0.bs _ _ hcc).2
  · exact nomatch (show p ∈ ([] : List (Addr × Obj)) from hp)
end
/-- what the written part says of the error's class at C, its __init__ at f and that one's code object at cda -/
structure SupC (P : Program) (K : PySem.W.Frag) (C f cda cc : Addr) (fd : FuncData) : Prop where
  T : OexC K C
  fn : ∃ oc od osl, K.lookup f = some ⟨oc, od, .func fd, osl⟩
  code : ∃ c d vs sl file t, K.lookup cda = some ⟨c, d, .fields vs, sl⟩ ∧ vs[2]? = some (.str file t) ∧ ((P.main.file : Str) == file) = true
  cell : ∃ c d sl, K.lookup cc = some ⟨c, d, .cell (some (.ref C)), sl⟩
  cls : ∃ cd, PySem.W.clsIn K C = some cd
  own : PySem.W.mroIn K C (.ref C) = some true
  noop : PySem.W.nsIn K cStatics "thirdparty.any" = some none
  sup : PySem.W.ks_superIn K C C "__init__" = some (some (.builtin "ValueError.__init__"))
  ve : PySem.W.subIn K (.ref C) (.type "ValueError") = some true
section
variable {X : Cx} {pins : List (Addr × Obj)} {σ : L2.St} {H : Hp} {s : Shared} {a C u : Addr} {A : Around} {E : Value → Shared → Prop}
/-- the bound built-in __init__, called -/
theorem mw_call {us : List Value} {Q : Value → Shared → Prop} (T : OexC X.K C) (I : Inv X pins σ H s) (e : H a = some (exo a C none)) (hu : s.heap.get? u = some (PySem.W.kxs_mw "ValueError.__init__" a)) (hl : us.length ≤ sizeLine)
    (h : ∀ s', Inv X pins σ H s' → Q .none s') : wpAny (model X.prog X.w) A (call (.ref u) us) Q E s := by
  obtain ⟨nm, q, N, bs, bm, sn, sub, ab, col, dd, k0, k1, k2, k3, k5, hC, hbm⟩ := T.cls
  obtain ⟨t1, ho⟩ := exo_at I.hok e
  have FB := PySem.F.excBase_ValueError
  have hC' := I.kIn _ _ hC
  have fin : ∀ h', (∀ b o, b ≠ a → s.heap.get? b = some o → h'.get? b = some o) →
      h'.get? a = some ({ cls := .ref C, dict := none, data := .fields #[.ref s.heap.objs.size, .none, .none, .none, .bool false, .none] } : Obj) → ∀ t', Q .none { s with heap := h', toks := t' } := fun h' k hx t' => by
    have J := I.write (t' := t') (x := a) (e := a) (o := exo a C none) (by rw [e]; exact True.intro) (.inl rfl) k ⟨_, hx⟩ (exo_ok hx)
    have same : upd H a (exo a C none) = H := funext fun b => by
      by_cases hb : b = a
      · subst hb; rw [upd_same, e]
      · rw [upd_ne hb]
    rw [same] at J
    exact h _ J
  obtain ⟨hh, g, d, t, os⟩ := s
  refine wpAny_call (codeAny_of_tree ?_)
  show wpAny _ A.in1 (callAny (.ref u) ⟨us, []⟩) _ _ _
  simp only [callAny]
  refine wpAny_bind (wpAny_load hu ?_)
  simp only [PySem.W.kxs_mw, show (Value.type "method-wrapper" == Value.type "method" || Value.type "method-wrapper" == Value.type "builtin_function_or_method" || Value.type "method-wrapper" == Value.type "method-wrapper") = true by decide, if_true]
  refine PySem.W.KFB.if_so (by decide) ?_
  refine wpAny_bind (PySem.W.check_bound_init FB.toExcCallFacts hC' ho rfl ?_)
  refine wpAny_bind (wpAny_pure (wpAny_pure ?_))
  refine ⟨plainId_quiet FB.init.plain _, codeAny_builtin FB.initEntry ?_⟩
  exact PySem.W.exc_init_tree (cls := .ref C) (t0 := t1) (dv := none) (c2 := .none) (c3 := .none) (b4 := .bool false) ho hl fun h' k hx _ => fin h' k hx _

/-- super() in such an __init__ -/
theorem super_at {body : List Stmt} {p0 p1 : Pos} {whole : Sem Value} {f cda cc : Addr} {fd : FuncData} {ar : Arg} {Q : Value → Shared → Prop} (S : SupC X.prog X.K C f cda cc fd) (I : Inv X pins σ H s) (e : H a = some (exo a C none))
    (hf : X.env.func = some f) (hc : X.env.code = .ref cda) (hcl : X.env.cells.lookup ("__class__" : Str) = some cc) (hp : (fd.params.posonlyargs ++ fd.params.args).head? = some ar) (hN : X.N[0]? = some ar.arg) (h0 : σ[0]? = some (some (.ref a)))
    (hka : X.env.scope.names.lookup ar.arg = some .local) (hks : X.env.scope.names.lookup ("super" : Str) = some .globalImplicit) (hkc : X.env.scope.names.lookup ("__class__" : Str) = some .free) (hm : X.mg "super" = none)
    (htop : (X.prog.main.scope.names.lookup ("super" : Str)).isSome = false) (h : ∀ so h', (∀ b o, s.heap.get? b = some o → h'.get? b = some o) → h'.get? so = some (PySem.W.ks_superObj C a C) → s.heap.objs.size ≤ so → Q (.ref so) { s with heap := h' }) :
    _root_.PySem.wpAt (model X.prog X.w) X.A (.func body X.env) (attributeBase (.Call (.Name "super" p0) [] [] p1) "__init__" X.env whole) Q E s := by
  obtain ⟨oc, od, osl, lf⟩ := S.fn
  obtain ⟨c1, d1, vs, sl1, file, tf, lc, hvs, hfile⟩ := S.code
  obtain ⟨c2, d2, sl2, lcc⟩ := S.cell
  obtain ⟨cd, hcd⟩ := S.cls
  obtain ⟨t1, ho⟩ := exo_at I.hok e
  have KX := I.kIn
  obtain ⟨mb, hb, hbb⟩ := I.ok.mod.blt
  have nb := hb.keeps I.bk
  have ng := I.ok.mod.glob.keeps I.bk
  obtain ⟨m, hns, hloc⟩ := I.loc
  obtain ⟨us, ru, look⟩ := hloc 0 ar.arg (.ref a) hN h0 (.inl hka)
  obtain rfl : us = Value.ref a := ru
  have hself : m ar.arg = some (.ref a) := by
    rcases look with ⟨_, z⟩ | ⟨k, _⟩
    · exact z
    · have k' : X.env.scope.names.lookup ar.arg = some .cell ∨ X.env.scope.names.lookup ar.arg = some .free := k
      rw [hka] at k'
      rcases k' with k' | k' <;> cases k'
  obtain ⟨oD, hD1, hD2⟩ : ∃ oD, s.heap.get? C = some oD ∧ oD.data = .cls cd := by
    unfold PySem.W.clsIn at hcd
    split at hcd
    · rename_i z1 z2 z3 z4 hz
      cases hcd
      exact ⟨_, KX _ _ hz, rfl⟩
    · cases hcd
  refine PySem.ks_wpAt_super_base (env := X.env) hks hkc (by decide) hf (KX _ _ lf) rfl hp hc (KX _ _ lc) rfl hvs hfile htop ?_
  refine PySem.W.ks_loadName_global I.ok.kind hks (PySem.Calls.loadGlobal_builtin (env := X.env) (by rw [I.ok.glob]; exact ng) hm (by rw [I.ok.blt]; exact nb) ((hbb _ (by decide +kernel)).trans (by decide +kernel)) ⟨rfl, ?_⟩)
  refine wpAny_loadName_free I.ok.kind hkc hcl ⟨_, KX _ _ lcc, rfl⟩ ?_
  refine wpAny_loadName_local I.ok.kind hka hns hself ?_
  refine PySem.ks_wpAny_isType_cls hD1 hD2 ⟨rfl, ?_⟩
  obtain ⟨hh, g, d, t, os⟩ := s
  exact PySem.ks_wpAny_call_super hD1 hD2 ho rfl (fun c z => nomatch z) (PySem.W.looks_mroIn KX S.own) (fun h' q k => h _ h' k q (Nat.le_refl _))
/-- .__init__ of it -/
theorem super_meth {pl : Sem Bool} {so : Addr} {f cda cc : Addr} {fd : FuncData} {Q : Value × List Value → Shared → Prop} (S : SupC X.prog X.K C f cda cc fd) (I : Inv X pins σ H s) (e : H a = some (exo a C none)) (hso : s.heap.get? so = some (PySem.W.ks_superObj C a C))
    (h : ∀ q h', (∀ b o, s.heap.get? b = some o → h'.get? b = some o) → s.heap.objs.size ≤ q → h'.get? q = some (PySem.W.kxs_mw "ValueError.__init__" a) → Q (.ref q, []) { s with heap := h', toks := s.toks + 1 }) :
    wpAny (model X.prog X.w) A (getMethod (.ref so) "__init__" pl) Q E s := by
  obtain ⟨cd, hcd⟩ := S.cls
  obtain ⟨t1, ho⟩ := exo_at I.hok e
  have KX := I.kIn
  have J : PySem.W.InstAt s.heap a { cls := .ref C, dict := none, data := .fields #[.ref t1, .none, .none, .none, .bool false, .none] } C none := ⟨ho, rfl, rfl, trivial⟩
  have hm := S.sup
  unfold PySem.W.ks_superIn at hm
  rw [hcd] at hm
  have hI : PySem.W.Looks (model X.prog X.w) s.heap (isInstance (.ref a) (.type "ValueError")) true := J.type.andThen (PySem.W.looks_subIn KX S.ve)
  obtain ⟨hh, g, d, t, os⟩ := s
  refine PySem.W.kxs_getMethod PySem.W.kxs_ValueError hso (PySem.W.looks_opaque KX S.noop) (l₀ := cd.mro) ?_ rfl KX hm hI (PySem.W.ks_ne KX J hcd) (by decide) ?_
  · exact fun A Q E s k q => wpAny_bind ((PySem.W.looks_clsIn KX hcd) A _ E s k (wpAny_pure q))
  · exact h _ _ (fun b o z => Heap.get?_push_of_some _ z) (Nat.le_refl _) (Heap.get?_push_at rfl rfl)
/-- the statement super().__init__(e) -/
theorem super_stmt {pl : Sem Bool} {body : List Stmt} {p0 p1 p2 p3 p4 : Pos} {ex : Expr} {ta : TA} {f cda cc : Addr} {fd : FuncData} {ar : Arg} {Q : Flow → Shared → Prop} (S : SupC X.prog X.K C f cda cc fd) (I : Inv X [] σ H s) (e : H a = some (exo a C none))
    (hf : X.env.func = some f) (hc : X.env.code = .ref cda) (hcl : X.env.cells.lookup ("__class__" : Str) = some cc) (hp : (fd.params.posonlyargs ++ fd.params.args).head? = some ar) (hN : X.N[0]? = some ar.arg) (h0 : σ[0]? = some (some (.ref a)))
    (hka : X.env.scope.names.lookup ar.arg = some .local) (hks : X.env.scope.names.lookup ("super" : Str) = some .globalImplicit) (hkc : X.env.scope.names.lookup ("__class__" : Str) = some .free) (hm : X.mg "super" = none)
    (htop : (X.prog.main.scope.names.lookup ("super" : Str)).isSome = false) (ha : PA X [ex] ta) (hxe : X.xe = E) (hi : interactive X.env = false)
    (h : ta σ H fun vs H1 => H1 a = some (exo a C none) ∧ vs.length ≤ 1000 ∧ ∀ s', Inv X [] σ H1 s' → Q .next s')
    (hs : swapsWith (.Call (.Attribute (.Call (.Name "super" p0) [] [] p1) "__init__" p2) [ex] [] p3) none p4.line X.env = pure false := by rfl)
    (hst : starEach [ex] X.env = [(false, eval ex X.env)] := by rfl)
    (hev : eval (.Call (.Attribute (.Call (.Name "super" p0) [] [] p1) "__init__" p2) [ex] [] p3) X.env = (do
      let ov ← attributeBase (.Call (.Name "super" p0) [] [] p1) "__init__" X.env (eval (.Call (.Name "super" p0) [] [] p1) X.env)
      standAt p2.atName
      let (g, first) ← holding [ov] (getMethod ov "__init__" pl)
      callWith p3 g first (backTo p3 (starEach [ex] X.env)) []) := by rfl) :
    _root_.PySem.wpAt (model X.prog X.w) X.A (.func body X.env) (exec (.Expr (.Call (.Attribute (.Call (.Name "super" p0) [] [] p1) "__init__" p2) [ex] [] p3) p4) X.env) Q E s := by
  subst hxe
  refine PySem.ks_wpAt_Expr_any ?_ hi hs
  refine PySem.ks_wpAt_MethodCall ?_ hev
  refine super_at S I e hf hc hcl hp hN h0 hka hks hkc hm htop fun so h' k hso hsz => ?_
  have I1 : Inv X [] σ H { s with heap := h' } := I.kept (t' := s.toks) k
  refine super_meth S I1 e hso fun q h2 k2 hsz2 hq => ?_
  have I2 : Inv X [] σ H { s with heap := h2, toks := s.toks + 1 } := I1.kept (t' := s.toks + 1) k2
  have nq : H q = none := I1.hok.fresh hsz2
  have I3 : Inv X [(q, PySem.W.kxs_mw "ValueError.__init__" a)] σ H { s with heap := h2, toks := s.toks + 1 } := I2.pins_of fun p hp' => by
    obtain rfl : p = (q, PySem.W.kxs_mw "ValueError.__init__" a) := List.mem_singleton.mp hp'
    exact ⟨hq, nq, fun z => absurd (Nat.lt_of_lt_of_le I1.lt hsz2) (by rw [show q = X.env.locals from z]; exact Nat.lt_irrefl _), I1.nofs hsz2, fun v z => nomatch z⟩
  refine PySem.W.kxs_callWith (i := "ValueError.__init__") (u := q) (x := a) (by rw [hst]; rfl) ?_
  have hrun := ha.run p3 _ _ σ H _ I3 h
  rw [hst] at hrun ⊢
  refine PySem.Calls.evalArgs_plain (f := .ref q) (x := eval ex X.env) (rest := []) ?_
  refine wpAny_mono hrun (fun us s3 hh => ?_) fun _ _ z => z
  obtain ⟨vs, H1, I4, r, e1, hl, k4⟩ := hh
  have hu : s3.heap.get? q = some (PySem.W.kxs_mw "ValueError.__init__" a) := (I4.pin _ (List.mem_append_right _ (List.mem_singleton.mpr rfl))).1
  refine ⟨hu, ?_⟩
  have hlen : us.length ≤ sizeLine := by
    rw [← r.length, sizeLine_eq]
    omega
  exact mw_call (us := us) S.T (I4.pins_of fun p hp' => absurd hp' (by simp)) e1 hu hlen k4
end
/-- an error's own __init__(self, y): super().__init__(ex); self.fld = y -/
def spIni (C : Addr) (fld : Str) (ok : V → Prop) : Sp := fun vs H Q _ => ∃ (a : Addr) (v : V), vs = [.ref a, v] ∧ ok v ∧ H a = some (exo a C none) ∧
  ∀ (d : Addr) (H' : Hp), H d = none → d ≠ a → H' = upd (upd H d (exd d [(fld, v)])) a (exo a C (some d)) → Q .non H'
section
variable {P : Program} {w : World} {K : PySem.W.Frag} {mg : Str → Option Value} {base : Heap} {x y fld qual : Str} {sc : Scope} {f cda cc C : Addr} {params : Arguments} {dV kV doc pm ct : Value} {an : Option Addr} {ok : V → Prop} {k : Nat}
  {ex : Expr} {ta : TA} {p0 p1 p2 p3 p4 p5 p6 p7 p8 : Pos} {ar : Arg} {pl : Sem Bool}
theorem ini_ok (S : SupC P K C f cda cc (PySem.W.ksFn "__init__" qual params [.Expr (.Call (.Attribute (.Call (.Name "super" p0) [] [] p1) "__init__" p2) [ex] [] p3) p4, .Assign [.Attribute (.Name x p5) fld p6] (.Name y p7) p8] sc dV kV doc pm an (.ref cda) ct cc))
    (hcd : PySem.W.codeIn K (.ref cda) qual = true) (hk : sc.kind = .function) (hco : sc.isCoroutine = false) (hge : sc.isGenerator = false) (hx : sc.names.lookup x = some .local) (hy : sc.names.lookup y = some .local) (nxy : x ≠ y)
    (nocell : ∀ z ∈ sc.names, z.2 ≠ .cell) (hfree : ∀ z ∈ sc.names, z.2 = .free → z.1 = "__class__") (hks : sc.names.lookup ("super" : Str) = some .globalImplicit) (hkc : sc.names.lookup ("__class__" : Str) = some .free) (hm : mg "super" = none)
    (htop : (P.main.scope.names.lookup ("super" : Str)).isSome = false) (hp : (params.posonlyargs ++ params.args).head? = some ar) (har : ar.arg = x) (hf : PySem.W.findIn K (.ref C) fld = some none)
    (ha : ∀ (A : Around) (outer : List Env) (s : Shared) (H : Hp), PA (cloCx P w K mg base [x, y] qual sc f cda cc A outer s H) [ex] ta)
    (hta : ∀ (a : Addr) (v : V) (H : Hp), ok v → ∀ Q : List V → Hp → Prop, (∀ z, Q [z] H) → ta [some (.ref a), some v] H Q)
    (hd1 : (x == ("__debug__" : Str)) = false) (hd2 : (x == ("__classdict__" : Str)) = false) (hd3 : (y == ("__debug__" : Str)) = false) (hd4 : (y == ("__classdict__" : Str)) = false)
    (hi : ∀ s : Shared, interactive (initEnv qual sc s f cda cc) = false) (hsw : ∀ s : Shared, swapsWith (.Call (.Attribute (.Call (.Name "super" p0) [] [] p1) "__init__" p2) [ex] [] p3) none p4.line (initEnv qual sc s f cda cc) = pure false)
    (hst : ∀ s : Shared, starEach [ex] (initEnv qual sc s f cda cc) = [(false, eval ex (initEnv qual sc s f cda cc))])
    (hev : ∀ s : Shared, eval (.Call (.Attribute (.Call (.Name "super" p0) [] [] p1) "__init__" p2) [ex] [] p3) (initEnv qual sc s f cda cc) = (do
      let ov ← attributeBase (.Call (.Name "super" p0) [] [] p1) "__init__" (initEnv qual sc s f cda cc) (eval (.Call (.Name "super" p0) [] [] p1) (initEnv qual sc s f cda cc))
      standAt p2.atName
      let (g, first) ← holding [ov] (getMethod ov "__init__" pl)
      callWith p3 g first (backTo p3 (starEach [ex] (initEnv qual sc s f cda cc))) []))
    (hs2 : ∀ s : Shared, swapsWith (.Name y p7) (some (.Attribute (.Name x p5) fld p6)) p8.line (initEnv qual sc s f cda cc) = pure false) (CX : CXT) :
    FnOk P w K mg base CX (k + 1) f (PySem.W.ksFn "__init__" qual params [.Expr (.Call (.Attribute (.Call (.Name "super" p0) [] [] p1) "__init__" p2) [ex] [] p3) p4, .Assign [.Attribute (.Name x p5) fld p6] (.Name y p7) p8] sc dV kV doc pm an (.ref cda) ct cc) [x, y] (spIni C fld ok) := by
  refine ⟨fun vs H Q E h => ?_, fun A outer s H args us vs Q E hr e0 hb r hsp => ?_⟩
  · obtain ⟨a, v, rfl, _⟩ := h
    rfl
  obtain ⟨a, v, rfl, hok, hea, hQ⟩ := hsp
  cases r with
  | @cons _ u1 _ _ r1 r' =>
  cases r' with
  | @cons _ u2 _ _ r2 r'' =>
  cases r''
  have KX : K.In s.heap := e0.mod.kin.keeps fun b o e => (e0.bs b o e).1
  have lim : s.heap.NoLimit := e0.mod.nolimit.keeps fun b o e => (e0.bs b o e).1
  obtain ⟨oc, od, osl, lk⟩ := S.fn
  obtain ⟨c2, d2, sl2, lcc⟩ := S.cell
  subst har
  refine PySem.ks_codeAny_call_defAt hr.depth (KX _ _ lk) rfl lim (PySem.W.codeRec_of KX hcd) rfl hb nocell (fun z hz => ?_) (fun h1 hns kp => ?_) hco hge hk
  · rcases List.mem_cons.mp hz with rfl | hz
    · exact hx
    · rcases List.mem_cons.mp hz with rfl | hz
      · exact hy
      · cases hz
  have I0 : Inv (cloCx P w K mg base [ar.arg, y] qual sc f cda cc A outer s H) [] [some (.ref a), some v] H { s with heap := h1, toks := s.toks + 2 } :=
    clo_start hk hx hy nxy nocell hfree (e0.mod.kin _ _ lcc) rfl hr.hd e0 r1 r2 hns kp
  show _root_.PySem.wpAt _ ((cloCx P w K mg base [ar.arg, y] qual sc f cda cc A outer s H).A) (.func _ (cloCx P w K mg base [ar.arg, y] qual sc f cda cc A outer s H).env) (execs _ (cloCx P w K mg base [ar.arg, y] qual sc f cda cc A outer s H).env) _ _ _
  refine PySem.ks_wpAt_mono (E := (cloCx P w K mg base [ar.arg, y] qual sc f cda cc A outer s H).xe) (Q := fun fl s' => fl = .next ∧ ∃ σ' H', Inv (cloCx P w K mg base [ar.arg, y] qual sc f cda cc A outer s H) [] σ' H' s' ∧ Q .non H') ?_ (fun fl s' hh => ?_) fun _ _ z => False.elim z
  · refine PySem.ks_wpAt_execs_cons ?_
    refine super_stmt (pl := pl) (ta := ta) S I0 hea rfl rfl rfl hp rfl rfl hx hks hkc hm htop (ha A outer s H) rfl (hi s) (hta a v H hok _ fun z => ⟨hea, by simp, fun s' J => ?_⟩) (hsw s) (hst s) (hev s)
    refine wpAt_of_wpAny ?_
    have q := (pss_one (ps_ost (f := fld) (p' := p6) (pos := p8) (pe_var (X := cloCx P w K mg base [ar.arg, y] qual sc f cda cc A outer s H) (i := 0) (pos := p5) rfl (.inl hx) hd1 hd2) (pe_var (i := 1) (pos := p7) rfl (.inl hy) hd3 hd4) (hs2 s))).run [] s' _ H { nx := fun _ H' => Q .non H', rt := fun _ _ => False, bk := fun _ _ => False, ct := fun _ _ => False } J ?_
    · refine wpAny_mono q (fun fl s2 hh => ?_) fun _ _ z => z
      cases fl with
      | next =>
        obtain ⟨σ', H', J', q'⟩ := hh
        exact ⟨rfl, σ', H', J', q'⟩
      | ret u =>
        obtain ⟨_, _, _, _, _, z⟩ := hh
        exact z.elim
      | brk =>
        obtain ⟨_, _, _, z⟩ := hh
        exact z.elim
      | cont =>
        obtain ⟨_, _, _, z⟩ := hh
        exact z.elim
    · exact ⟨v, rfl, .ref a, rfl, a, C, rfl, S.T, hf, .inl ⟨hea, fun d hd nd => hQ d _ hd nd rfl⟩⟩
  · obtain ⟨rfl, σ', H', J, q⟩ := hh
    exact ⟨.non, H', J.os, J.bare, J.base, J.hok, rfl, q⟩
end
end Hx
set_option maxHeartbeats 4000000
/-! an error that an except clause catches, kept in a local name behind the suite: known from then on -/
namespace Hx
open PySem PySem.Spec PyProof.Rows L2
/-- at z: a caught error of the class cls, its own dict (none | at d) -/
def ExK (cls : Value) (d : Option Addr) (z : Addr) : HO := .ext fun h => ∃ (oe : Obj) (vs : Array Value), h.get? z = some oe ∧ Zc cls d oe ∧ oe.data = .fields vs
theorem exK_ok {P : Program} {w : World} {H : Hp} {h : Heap} {z : Addr} {cls : Value} {d : Option Addr} {oe : Obj} {vs : Array Value} (e : h.get? z = some oe) (q : Zc cls d oe) (hd : oe.data = .fields vs) : ObjOk P w H h z (ExK cls d z) :=
  ⟨⟨oe, vs, e, q, hd⟩, ⟨oe, e⟩, fun h1 h2 ⟨o, v, r, k⟩ m => ⟨o, v, m o r, k⟩⟩
theorem exK_at {P : Program} {w : World} {H : Hp} {h : Heap} {z : Addr} {cls : Value} {d : Option Addr} (ok : HOk P w H h) (e : H z = some (ExK cls d z)) : ∃ (oe : Obj) (vs : Array Value), h.get? z = some oe ∧ Zc cls d oe ∧ oe.data = .fields vs := (ok z _ e).1
section
variable {X : Cx} {pins : List (Addr × Obj)} {σ : L2.St} {H : Hp} {s : Shared}
/-- an object of ours, known from now on -/
theorem known {z : Addr} {o : HO} {oe : Obj} {vs : Array Value} (I : Inv X pins σ H s) (e : s.heap.get? z = some oe) (hd : oe.data = .fields vs) (nz : H z = none) (n0 : X.s_0.heap.get? z = none) (nL : z ≠ X.env.locals) (np : ∀ p ∈ X.pn ++ pins, p.1 ≠ z)
    (ok : ObjOk X.prog X.w (upd H z o) s.heap z o) : Inv X pins σ (upd H z o) s := by
  have old : ∀ {b : Addr} {u : HO}, H b = some u → upd H z o b = some u := fun q => by rw [upd_ne (ne_of_none q nz)]; exact q
  refine { ok := I.ok, os := I.os, bare := I.bare, base := ?_, loc := I.loc, cell := I.cell, free := ?_, freeC := fun y c q => ?_, pin := fun p hp => ?_, hok := fun b u q => ?_, len := I.len }
  · exact { keep := I.base.keep, slot := I.base.slot, there := I.base.there
            free := fun b u q n hx => by rw [upd_ne (fun y => by rw [y, n0] at q; cases q)]; exact I.base.free b u q n hx
            tups := fun b xs q => old (I.base.tups b xs q)
            frzs := fun b u v q => old (I.base.frzs b u v q)
            tbls := fun b ps q => by
              obtain ⟨m, r⟩ := I.base.tbls b ps q
              exact ⟨m, old r⟩ }
  · rw [upd_ne (Ne.symm nL)]; exact I.free
  · have nc : c ≠ z := fun y2 => by
      obtain ⟨v, oc, hc, hcd⟩ := I.cell y c q
      rw [y2, e] at hc
      cases hc
      rw [hd] at hcd
      cases hcd
    rw [upd_ne nc]; exact I.freeC y c q
  · obtain ⟨q1, q2, q3, q4, q5⟩ := I.pin p hp
    exact ⟨q1, by rw [upd_ne (np p hp)]; exact q2, q3, q4, q5⟩
  · by_cases hb : b = z
    · subst hb
      rw [upd_same] at q
      cases q
      exact ok
    · rw [upd_ne hb] at q
      exact (I.hok b u q).stay (fun _ _ _ r => r) (fun c r => old r) fun c xs r => old r
end
/-- what the clause wishes of an error of the body: it stands at slot j behind, known -/
def wKeep (K : PySem.W.Frag) (len : Nat) (c : Value) (i j : Nat) (Wo : WX) (D : Ends) : WX := fun cls d σ H =>
  ∃ b, PySem.W.exmOne K cls c = some b ∧ (b = true → ∀ z, H z = none → σ.length = len → D.nx (((σ.set i (some (.ref z))).set j (some (.ref z))).set i none) (upd H z (ExK cls d z))) ∧ (b = false → Wo cls d σ H)
section
variable {X : Cx} {x n g : Str} {c : Value} {i j : Nat} {body : List Stmt} {np p1 p2 p3 pos pos' : Pos} {tb : WX → TS} {Wo : WX}
theorem ps_try_keep (hs : X.stack = X.env :: X.outer) (hf : X.env.frame = some X.env.locals) (hex : X.ex = []) (hN : X.N.Nodup) (hi : X.N[i]? = some n) (hln : X.env.kindOf n = some .local) (hj : X.N[j]? = some g) (hlg : X.env.kindOf g = some .local) (hij : i ≠ j) (hil : i < X.N.length) (hc : Names X x c) (tk : Takes X Wo)
    (hb : ∀ (W : WX) (pn : List (Addr × Obj)) (xe : Value → Shared → Prop), Takes (X.tr pn xe) W → PassesOwn (model X.prog X.w) X.A X.env xe → PSs (X.tr pn xe) body (tb W))
    (hd1 : (n == ("__debug__" : Str)) = false) (hd2 : (n == ("__classdict__" : Str)) = false) (hd3 : (g == ("__debug__" : Str)) = false)
    (hsw : swapsWith (.Name n p2) (some (.Name g p1)) p3.line X.env = pure false) :
    PS X (.Try body [.ExceptHandler (some (.Name x np)) (some n) [.Assign [.Name g p1] (.Name n p2) p3] pos'] [] [] pos) (fun D σ H => tb (wKeep X.K X.N.length c i j Wo D) D σ H) := by
  refine ⟨fun pins s σ H D I h => ?_⟩
  have ok := I.ok
  have frames2 : X.A.frames = some (X.env :: X.outer) := ok.frames.trans (by rw [hs])
  refine wpAny_Try_except ?_
  have inner := (hb (wKeep X.K X.N.length c i j Wo D) (X.pn ++ pins) (fun e s₁ => wpAny (model X.prog X.w) X.A (noteFrame e X.env) (fun _ s₂ => wpAny (model X.prog X.w) X.A (setFlight e none)
    (fun _ s₃ => wpAny (model X.prog X.w) X.A (handleBy e X.env [.ExceptHandler (some (.Name x np)) (some n) [.Assign [.Name g p1] (.Name n p2) p3] pos']) (SP X pins D) X.xe s₃) X.xe s₂) X.xe s₁) (fun u s' xx => ?_) PassesOwn.looking).run [] s σ H D (I.toTry _) h
  · refine wpAny_mono inner (fun fl s1 hsp => ?_) (fun _ _ he => he)
    cases fl with
    | next =>
      obtain ⟨σ', H', J', q⟩ := hsp
      exact wpAny_execs_nil ⟨σ', H', J'.ofTry ok, q⟩
    | ret u =>
      obtain ⟨v, σ', H', J', r, q⟩ := hsp
      exact ⟨v, σ', H', J'.ofTry ok, r, q⟩
    | brk =>
      obtain ⟨σ', H', J', q⟩ := hsp
      exact ⟨σ', H', J'.ofTry ok, q⟩
    | cont =>
      obtain ⟨σ', H', J', q⟩ := hsp
      exact ⟨σ', H', J'.ofTry ok, q⟩
  · obtain ⟨z, G, t0, pins1, σ1, H1, cls, d, rfl, J0, ng, upS, sky, nz, oss, agg, b, hb1, yes, no⟩ := xx
    have J : Inv X pins σ1 H1 t0 := J0.ofTry ok
    have sky2 : Sky G (X.env :: X.outer) z (Zc cls d) X.env.locals s'.heap := hs ▸ sky
    show wpAny (model X.prog X.w) X.A (noteFrame (.ref z) X.env) _ _ _
    refine Sky.land Zc.steady frames2 hf sky2 fun h3 fl3 up3 => ?_
    have J3 : Inv X pins σ1 H1 { s' with heap := h3 } := J.landed ng fl3.1 (upS.trans up3) oss agg
    obtain ⟨oe3, vs3, he3, hz3, hd3'⟩ := fl3.there
    have nfr : z ∉ frs (X.env :: X.outer) := fun hm => by
      obtain ⟨_, o', e', hnf⟩ := fl3.2.2.1.mem hm
      rw [he3] at e'
      cases e'
      exact hnf _ hd3'
    have nL : z ≠ X.env.locals := fun q => nfr (List.mem_filterMap.mpr ⟨X.env, List.mem_cons_self, by rw [hf, q]⟩)
    have nF : z ∉ X.fs := fun hm => by
      obtain ⟨ev, hev, q⟩ := List.mem_filterMap.mp hm
      exact nfr (List.mem_filterMap.mpr ⟨ev, List.mem_cons_of_mem _ hev, q⟩)
    have nT : t0.heap.get? z = none := by
      cases q : t0.heap.get? z with
      | none => rfl
      | some o =>
        have q2 := ng z o q (by rw [hs]; exact nfr)
        rw [fl3.2.1] at q2
        cases q2
    have n0 : X.s_0.heap.get? z = none := by
      cases q : X.s_0.heap.get? z with
      | none => rfl
      | some o =>
        obtain ⟨o', q2⟩ := J.base.there z o q (by rw [hex]; exact fun y => nomatch y)
        rw [nT] at q2
        cases q2
    have nP : ∀ p ∈ X.pn ++ pins, p.1 ≠ z := fun p hp y => by
      have q := (J.pin p hp).1
      rw [y, nT] at q
      cases q
    refine wpAny_handleBy_cons (codeAny_handlers_test ?_) (by intro q; cases q)
    have ty : PySem.W.Looks (model X.prog X.w) h3 (typeOf (.ref z)) cls := fun A Q E s k q => wpAny_typeOf_ref (k _ _ he3) (by rw [hz3.1]; exact q)
    have mt := PySem.W.exm_one (M := model X.prog X.w) J3.kIn ty hb1
    have S3 := J3.suite he3 hd3' nz nL nF
    have test : ∀ {Q : Value → Shared → Prop} {E : Value → Shared → Prop}, Q c { s' with heap := h3 } → wpAny (model X.prog X.w) (X.A.mark (some (.ref z))) (eval (.Name x np) X.env) Q E { s' with heap := h3 } := fun q => by
      obtain ⟨hg, hdbg, hm | ⟨hm, hv, hnn⟩⟩ := hc
      · exact ld_glob (X := X.suite z ((z, oe3) :: (X.pn ++ pins))) S3 hg hm q hdbg
      · exact ld_blt (X := X.suite z ((z, oe3) :: (X.pn ++ pins))) S3 hg hm hv q hnn hdbg
    refine test (mt.here ?_)
    cases b with
    | true =>
      refine codeAny_handlers_suite_as ?_
      refine HandSPX.lands_againZ fl3 fun h4 fl4 up4 => ?_
      have J4 : Inv X pins σ1 H1 { s' with heap := h4 } := J.landed ng fl4.1 ((upS.trans up3).trans up4) oss agg
      obtain ⟨oe4, vs4, he4, hz4, hd4⟩ := fl4.there
      have S4 := J4.suite he4 hd4 nz nL nF
      refine store_ok (X := X.suite z ((z, oe4) :: (X.pn ++ pins))) (v := .ref z) S4 hN hi (.inl hln) rfl (fun s5 S5 => ?_) (.inr hln)
      have iσ : i < (σ1.set i (some (V.ref z))).length := by rw [List.length_set, J.len]; exact hil
      have step := (pss_one (ps_asg (X := X.suite z ((z, oe4) :: (X.pn ++ pins))) (pos := p3) (pe_var (i := i) (pos := p2) hi (.inl hln) hd1 hd2) (pg_name (i := j) (pos := p1) hN hj (.inl hlg) (hf := .inr hlg)) hsw)).run [] s5 (σ1.set i (some (.ref z))) H1
        { nx := fun σ6 H6 => σ6 = (σ1.set i (some (.ref z))).set j (some (.ref z)) ∧ H6 = H1, rt := fun _ _ => False, bk := fun _ _ => False, ct := fun _ _ => False } S5
        ⟨.ref z, by rw [List.getElem?_set_self (by rw [J.len]; exact hil)], rfl, rfl⟩
      refine wpAny_mono step (fun fl s6 hsp => ?_) (fun _ _ q => False.elim q)
      cases fl with
      | next =>
        obtain ⟨σ6, H6, S6, rfl, rfl⟩ := hsp
        refine gone_ok (X := X.suite z ((z, oe4) :: (X.pn ++ pins))) S6 hN hi hln fun s7 S7 => ?_
        have hp7 := S7.pin (z, oe4) (List.mem_append_left _ List.mem_cons_self)
        exact ⟨_, _, known (S7.unsuite ok) hp7.1 hd4 nz n0 nL nP (exK_ok hp7.1 hz4 hd4), yes rfl z nz J.len⟩
      | ret u =>
        obtain ⟨_, _, _, _, _, q⟩ := hsp
        exact q.elim
      | brk =>
        obtain ⟨_, _, _, q⟩ := hsp
        exact q.elim
      | cont =>
        obtain ⟨_, _, _, q⟩ := hsp
        exact q.elim
    | false =>
      show wpAny _ X.A (handleBy (.ref z) X.env []) _ _ _
      refine wpAny_handleBy_nil ?_
      obtain ⟨k1, k2, k3, oe, vs, T, oT, ts', he, hz, hd, h1, hr⟩ := id fl3
      unfold PySem.passOn
      refine wpAny_bind (wpAny_field he hd h1 ?_)
      rw [if_neg (show ¬ ((Value.ref T == Value.none) = true) by simp)]
      have goOn : wpAny (model X.prog X.w) X.A (setFlight (.ref z) X.env.frame) (fun _ s4 => wpAny (model X.prog X.w) X.A (throw (.ref z) : Sem Flow) (SP X pins D) X.xe s4) X.xe { s' with heap := h3 } := by
        rw [hf]
        refine HandSPX.setFlight_upZ fl3 fun h4 hh4 up4 => wpAny_throw (tk _ _ ?_)
        exact ⟨z, G, t0, pins, σ1, H1, cls, d, rfl, J, ng, (upS.trans up3).trans up4, .inr (.inr (by rw [hs]; exact hh4)), nz, oss, agg, no rfl⟩
      first
        | exact wpAny_bind (wpAny_pure (wpAny_bind goOn))
        | exact wpAny_bind goOn
end
/-! ### what is asked of such an error behind -/
section
variable {X : Cx} {pins : List (Addr × Obj)} {σ : L2.St} {H : Hp} {s : Shared}
/-- it is an instance of its class, its own dict (if there is one) an error's dict -/
theorem inst_of {z D : Addr} {d : Option Addr} (I : Inv X pins σ H s) (e : H z = some (ExK (.ref D) d z)) (hd : ∀ y, d = some y → ∃ fs, H y = some (.xd fs)) :
    ∃ oe od, PySem.W.InstAt s.heap z oe D od := by
  obtain ⟨oe, vs, ho, ⟨z1, z2⟩, hf⟩ := exK_at I.hok e
  cases d with
  | none =>
    refine ⟨oe, none, ho, z1, ?_, by rw [z2]; trivial⟩
    unfold PySem.W.notCls
    rw [hf] <;> rfl
  | some y =>
    obtain ⟨fs, hy⟩ := hd y rfl
    have q : ObjOk X.prog X.w H s.heap y (.xd fs) := I.hok y _ hy
    obtain ⟨mA, hns, _⟩ := q
    obtain ⟨od, hod, _⟩ := lookIn_ns hns
    refine ⟨oe, some od, ho, z1, ?_, by rw [z2]; exact hod⟩
    unfold PySem.W.notCls
    rw [hf] <;> rfl
end
/-- isinstance(e, c), e known as above -/
def rIsK (K : PySem.W.Frag) : List V → Hp → VK → Prop := fun xs H Q => ∃ (z D : Addr) (d : Option Addr) (c : V) (cv : Value) (b : Bool), xs = [.ref z, c] ∧ H z = some (ExK (.ref D) d z) ∧ (∀ y, d = some y → ∃ fs, H y = some (.xd fs)) ∧
  ExcC K D ∧ (∀ u, RelV c u → u = cv) ∧ PySem.W.kitOne K (.ref D) cv = some b ∧ Q (.bl b) H
theorem call_isK {X : Cx} : CallR X (.builtin "isinstance") (rIsK X.K) := by
  intro pins s σ H xs us Q I r h
  obtain ⟨z, D, d, c, cv, b, rfl, e, hd, C, hcv, kb, q⟩ := h
  cases r with
  | cons rx rr =>
    cases rr with
    | cons rt rr =>
      cases rr
      cases rx
      obtain rfl := hcv _ rt
      obtain ⟨oe, od, J⟩ := inst_of I e hd
      have cl : (PySem.W.clsIn X.K D).isSome = true := by
        obtain ⟨cd, hc, _⟩ := PySem.W.any_some C.hd
        rw [hc] <;> rfl
      exact PySem.W.kia_one (PySem.W.kitx_exc cl C.hg C.hk C.hs C.ha C.hn C.ht C.hm) I.kIn J kb (fun y => nomatch y) fun tk => ⟨.bl b, H, I.kept (t' := tk) fun _ _ y => y, rfl, q⟩
/-- e.n -/
def tKf (K : PySem.W.Frag) (n : Str) (te : TE) : TE := fun σ H Q => te σ H fun x H1 => ∃ (z D y : Addr) (fs : List (Str × V)) (v : V), x = .ref z ∧ H1 z = some (ExK (.ref D) (some y) z) ∧ XfC K D ∧ PySem.W.findIn K (.ref D) n = some none ∧
  H1 y = some (.xd fs) ∧ fs.lookup n = some v ∧ Q v H1
theorem pe_kf {X : Cx} {e : Expr} {te : TE} {pos : Pos} {n : Str} (he : PE X e te) (hb : attributeBase e n X.env (eval e X.env) = eval e X.env := by rfl) : PE X (.Attribute e n pos) (tKf X.K n te) := by
  refine ⟨fun pins s σ H Q I h => ?_⟩
  refine attr_of hb (thn (he.run pins s σ H _ I h) fun u s1 hh => ?_)
  obtain ⟨x, H1, I1, rx, z, D, y, fs, v, rfl, ez, T, hno, ey, l, q⟩ := hh
  obtain rfl : u = Value.ref z := rx
  obtain ⟨oe, vs, ho, ⟨z1, z2⟩, hf⟩ := exK_at I1.hok ez
  have hx : ObjOk X.prog X.w H1 s1.heap y (.xd fs) := I1.hok y _ ey
  obtain ⟨mA, hns, hr⟩ := hx
  obtain ⟨od, hod, hl⟩ := lookIn_ns hns
  obtain ⟨u2, hu, ru⟩ := RelO.some_of (v := v) (o := mA n) (by rw [← l]; exact hr n)
  have J : PySem.W.InstAt s1.heap z oe D (some od) := ⟨ho, z1, by unfold PySem.W.notCls; rw [hf] <;> rfl, by rw [z2]; exact hod⟩
  exact HandSPX.exc_get I1.kIn J T.ga T.gg T.exC (PySem.W.findObj_own T.hdC hno rfl (by rw [hl, hu])) (handed_of ru) ⟨v, H1, I1.tok _, ru, q⟩
end Hx
set_option maxHeartbeats 4000000
/-! x(lambda: body), x's def: found = None; try: a() except T as error: found = error; return found -/
namespace Hx
open PySem PySem.Spec PyProof.Rows L2 LamX
/-- what comes of it: None, or the error, known -/
def TCaught (K : PySem.W.Frag) (CT : Addr) : (XK → Hp → VK → Prop) → Hp → VK → Prop := fun tl H Q =>
  tl (fun cls d H' => ∃ b, PySem.W.exmOne K cls (.ref CT) = some b ∧ (b = true → ∀ z, H' z = none → Q (.ref z) (upd H' z (ExK cls d z))) ∧ (b = false → False)) H (fun _ H' => Q .non H')
section
variable {X : Cx}
theorem caught_gives {x a g n t q : Str} {sg : Scope} {f0 CT : Addr} {cdg : Value} {j : Nat} {p1 p2 p3 p4 p5 p6 p7 p8 p9 p10 p11 p12 p13 p14 p15 : Pos} (hge : sg.names.lookup t = some .globalImplicit) (hme : X.mg t = some (.ref CT)) (hde : (t == ("__debug__" : Str)) = false)
    (ha : sg.names.lookup a = some .local) (hg : sg.names.lookup g = some .local) (hn : sg.names.lookup n = some .local) (nd : ([a, g, n] : List Str).Nodup)
    (b1 : (n == ("__debug__" : Str)) = false) (b2 : (n == ("__classdict__" : Str)) = false) (b3 : (g == ("__debug__" : Str)) = false) (b4 : (g == ("__classdict__" : Str)) = false)
    (hsw : ∀ (s : Shared), swapsWith (.Name n p10) (some (.Name g p9)) p11.line (envOfC x sg s.heap.objs.size f0 cdg) = pure false) (hsw1 : ∀ (s : Shared), swapsWith (.Constant .none j p2) (some (.Name g p1)) p3.line (envOfC x sg s.heap.objs.size f0 cdg) = pure false) :
    GivesTo X [a, g, n] x sg f0 cdg [.Assign [.Name g p1] (.Constant .none j p2) p3,
      .Try [.Expr (.Call (.Name a p4) [] [] p5) p6] [.ExceptHandler (some (.Name t p7)) (some n) [.Assign [.Name g p9] (.Name n p10) p11] p12] [] [] p13, .Return (some (.Name g p14)) p15] a q (TCaught X.K CT) := by
  intro f c' s H Q tl act hc h
  have hgl : Gl (cxOf C8.CX0 X.prog X.w X.K X.mg X.base [a, g, n] x sg f0 cdg X.A X.stack s H C8.E0).nox t := hge
  refine ⟨_, pss_cons (ps_asg pe_non (pg_name (i := 1) nd rfl (.inl hg) (hf := .inr hg)) (hsw1 s)) (pss_cons (ps_try_keep (X := (cxOf C8.CX0 X.prog X.w X.K X.mg X.base [a, g, n] x sg f0 cdg X.A X.stack s H C8.E0).nox) (c := .ref CT) (i := 2) (j := 1)
      (tb := fun W D σ H => ∃ Ech : XK, (∀ cls d σ' H', Ech cls d H' → W cls d σ' H') ∧ σ[0]? = some (some (.ref f)) ∧ H c' = some (CodeO c' q) ∧ tl Ech H (fun _ H1 => D.nx σ H1))
      rfl rfl rfl nd rfl hn rfl hg (by decide) (by show 2 < 3; decide) ⟨hgl, hde, .inl hme⟩ LamX.takes0 (fun W pn xe tk _ => ?_) b1 b2 b3 (hsw s)) (pss_one (ps_ret (pe_var (i := 1) rfl (.inl hg) b3 b4)))), ?_⟩
  · refine ⟨fun pins s' σ H' D I h' => ?_⟩
    obtain ⟨Ech, hW, h1, h2, h3⟩ := h'
    exact (pss_one (ps_expr (pos := p6) (act W pn xe Ech p4 p5 tk hW))).run pins s' σ H' D I ⟨h1, h2, h3⟩
  · have e : (fun (_ : V) (H1 : Hp) => tRet (tVar 1) { nx := fun _ H' => Q .non H', rt := Q } (List.set (L2.start [a, g, n] [V.ref f]) 1 (some V.non)) H1) = fun (_ : V) (H1 : Hp) => Q .non H1 :=
      funext fun _ => funext fun H1 => propext ⟨fun ⟨v, hv, r⟩ => by cases hv; exact r, fun r => ⟨.non, rfl, r⟩⟩
    refine ⟨fun cls d H' => ∃ b, PySem.W.exmOne X.K cls (.ref CT) = some b ∧ (b = true → ∀ z, H' z = none → Q (.ref z) (upd H' z (ExK cls d z))) ∧ (b = false → False), fun cls d σ' H' hE => ?_, rfl, hc, ?_⟩
    rotate_left
    · show tl _ H (fun (_ : V) (H1 : Hp) => tRet (tVar 1) { nx := fun _ H' => Q .non H', rt := Q } (List.set (L2.start [a, g, n] [V.ref f]) 1 (some V.non)) H1)
      rw [e]
      exact h
    obtain ⟨b, e1, e2, e3⟩ := hE
    refine ⟨b, e1, fun hb z nz hl => ?_, fun hb => (e3 hb).elim⟩
    have hl' : σ'.length = 3 := hl
    refine ⟨.ref z, ?_, e2 hb z nz⟩
    match σ', hl' with
    | [s0, s1, s2], _ => rfl
end
end Hx
set_option maxHeartbeats 4000000
/-! data that stands in the heap: kept, compared -/
namespace Hx
open PySem PySem.Spec PyProof.Rows L2
theorem same_seqT {K : PySem.W.Frag} {H H' : Hp} {a : Addr} {xs : List V} (e : Same H H') (h : SqT K H a xs) : SqT K H' a xs := by
  rcases h with (h | ⟨o, h⟩) | h
  · exact .inl (.inl (e _ _ h))
  · exact .inl (.inr ⟨o, e _ _ h⟩)
  · exact .inr h
mutual
theorem dp_same {K : PySem.W.Frag} {H H' : Hp} (e : Same H H') : ∀ {v : V} {d : PyData}, Dp K H v d → Dp K H' v d
  | _, _, .non => .non
  | _, _, .bl b => .bl b
  | _, _, .int i => .int i
  | _, _, .str x => .str x
  | _, _, .lst h r => .lst (e.seq h) (dpAll_same e r)
  | _, _, .tup h r => .tup (same_seqT e h) (dpAll_same e r)
theorem dpAll_same {K : PySem.W.Frag} {H H' : Hp} (e : Same H H') : ∀ {vs : List V} {ds : List PyData}, DpAll K H vs ds → DpAll K H' vs ds
  | _, _, .nil => .nil
  | _, _, .cons h r => .cons (dp_same e h) (dpAll_same e r)
end
section
variable {K : PySem.W.Frag} {H : Hp}
theorem dpAll_ints : ∀ ns : List Int, DpAll K H (ns.map V.int) (ns.map PyData.int)
  | [] => .nil
  | n :: r => .cons (.int n) (dpAll_ints r)
theorem dpAll_strs : ∀ ns : List Str, DpAll K H (ns.map V.str) (ns.map PyData.str)
  | [] => .nil
  | n :: r => .cons (.str n) (dpAll_strs r)
theorem dpAll_len : ∀ {vs : List V} {ds : List PyData}, DpAll K H vs ds → vs.length = ds.length
  | _, _, .nil => rfl
  | _, _, .cons _ r => by simp [dpAll_len r]
theorem dpAll_app : ∀ {vs us : List V} {ds es : List PyData}, DpAll K H vs ds → DpAll K H us es → DpAll K H (vs ++ us) (ds ++ es)
  | _, _, _, _, .nil, h => h
  | _, _, _, _, .cons a r, h => .cons a (dpAll_app r h)
theorem dpAll_get : ∀ {vs : List V} {ds : List PyData} {i : Nat} {v : V}, DpAll K H vs ds → vs[i]? = some v → ∃ d, ds[i]? = some d ∧ Dp K H v d
  | _, _, 0, _, .cons a _, e => by cases e; exact ⟨_, rfl, a⟩
  | _, _, i + 1, v, .cons _ r, e => dpAll_get (i := i) r e
theorem dpAll_at : ∀ {vs : List V} {ds : List PyData} {i : Nat} {d : PyData}, DpAll K H vs ds → ds[i]? = some d → ∃ v, vs[i]? = some v ∧ Dp K H v d
  | _, _, 0, _, .cons a _, e => by cases e; exact ⟨_, rfl, a⟩
  | _, _, i + 1, v, .cons _ r, e => dpAll_at (i := i) r e
theorem dpAll_erase : ∀ {vs : List V} {ds : List PyData} (i : Nat), DpAll K H vs ds → DpAll K H (vs.eraseIdx i) (ds.eraseIdx i)
  | _, _, _, .nil => .nil
  | _, _, 0, .cons _ r => r
  | _, _, i + 1, .cons a r => .cons a (dpAll_erase i r)
theorem dpAll_take : ∀ {vs : List V} {ds : List PyData} (i : Nat), DpAll K H vs ds → DpAll K H (vs.take i) (ds.take i)
  | _, _, 0, _ => by simp; exact .nil
  | _, _, _ + 1, .nil => .nil
  | _, _, i + 1, .cons a r => .cons a (dpAll_take i r)
theorem dpAll_drop : ∀ {vs : List V} {ds : List PyData} (i : Nat), DpAll K H vs ds → DpAll K H (vs.drop i) (ds.drop i)
  | _, _, 0, h => h
  | _, _, _ + 1, .nil => .nil
  | _, _, i + 1, .cons _ r => dpAll_drop i r
end
/-- what may be compared: plain data, n deep at most -/
def Sh (n : Nat) (d : PyData) : Prop := d.canLay0 = true ∧ d.depth ≤ n
theorem Sh.up {n m : Nat} {d : PyData} (h : Sh n d) (l : n ≤ m) : Sh m d := ⟨h.1, Nat.le_trans h.2 l⟩
theorem Sh.shaped {n : Nat} {d : PyData} (h : Sh n d) (l : n ≤ 64) : SeqAt.shaped d = true := by
  simp [SeqAt.shaped, h.1, Nat.le_trans h.2 l]
theorem sh_int (i : Int) : Sh 0 (.int i) := ⟨rfl, by simp [PyData.depth]⟩
theorem sh_all {n : Nat} : ∀ {ds : List PyData}, (∀ d ∈ ds, Sh n d) → PyData.canLayAll0 ds = true ∧ PyData.depthAll ds ≤ n
  | [], _ => ⟨rfl, by simp [PyData.depthAll]⟩
  | d :: r, h => by
    obtain ⟨a, b⟩ := sh_all (ds := r) fun x hx => h x (List.mem_cons_of_mem _ hx)
    obtain ⟨c, e⟩ := h d List.mem_cons_self
    refine ⟨by simp [PyData.canLayAll0, c, a], ?_⟩
    simp only [PyData.depthAll]
    exact Nat.max_le.mpr ⟨e, b⟩
theorem sh_list {n : Nat} {ds : List PyData} (h : ∀ d ∈ ds, Sh n d) : Sh (n + 1) (.list ds) := by
  obtain ⟨a, b⟩ := sh_all h
  exact ⟨by simp [PyData.canLay0, a], by simp only [PyData.depth]; omega⟩
theorem sh_tup {n : Nat} {ds : List PyData} (h : ∀ d ∈ ds, Sh n d) : Sh (n + 1) (.tuple ds) := by
  obtain ⟨a, b⟩ := sh_all h
  exact ⟨by simp [PyData.canLay0, a], by simp only [PyData.depth]; omega⟩
theorem eqv_nil (ds : List PyData) : PyData.eqv (.list ds) (.list []) = ds.isEmpty := by
  cases ds <;> simp [PyData.eqv, PyData.eqvAll]
theorem idx0 {n : Nat} (h : 0 < n) : seqIndex? 0 n = some 0 := by
  unfold seqIndex?
  first | rfl | (simp; omega) | (split <;> simp <;> omega)
theorem idxN {n i : Nat} (h : i < n) : seqIndex? (i : Int) n = some i := by
  unfold seqIndex?
  first | (simp; omega) | (split <;> simp <;> omega)
/-! ### data without lists: it stays whatever is done -/
/-- tuples, and what is locked, stay -/
def TK (H H' : Hp) : Prop := (∀ b xs, H b = some (.tup xs) → H' b = some (.tup xs)) ∧ ∀ b o u, H b = some (.frz o u) → H' b = some (.frz o u)
theorem TK.refl (H : Hp) : TK H H := ⟨fun _ _ h => h, fun _ _ _ h => h⟩
theorem TK.trans {H H1 H2 : Hp} (a : TK H H1) (b : TK H1 H2) : TK H H2 := ⟨fun c xs h => b.1 c xs (a.1 c xs h), fun c o u h => b.2 c o u (a.2 c o u h)⟩
theorem TK.of {H H' : Hp} (e : Same H H') : TK H H' := ⟨fun b _ h => e b _ h, fun b _ _ h => e b _ h⟩
theorem TK.new {H : Hp} {a : Addr} {o : HO} (h : H a = none) : TK H (upd H a o) := .of fun b u e => by rw [upd_ne (ne_of_none e h)]; exact e
theorem TK.lst {H : Hp} {a : Addr} {o : HO} {xs : List V} (h : H a = some (.lst xs)) : TK H (upd H a o) :=
  ⟨fun b _ e => by rw [upd_ne (ne_of e h (by intro z; cases z))]; exact e, fun b _ _ e => by rw [upd_ne (ne_of e h (by intro z; cases z))]; exact e⟩
theorem TK.dct {H : Hp} {a : Addr} {o : HO} {xs : List (Key × V)} (h : H a = some (.dK xs)) : TK H (upd H a o) :=
  ⟨fun b _ e => by rw [upd_ne (ne_of e h (by intro z; cases z))]; exact e, fun b _ _ e => by rw [upd_ne (ne_of e h (by intro z; cases z))]; exact e⟩
theorem tk_seqT {K : PySem.W.Frag} {H H' : Hp} {a : Addr} {xs : List V} (e : TK H H') (h : SqT K H a xs) : SqT K H' a xs := by
  rcases h with (h | ⟨o, h⟩) | h
  · exact .inl (.inl (e.1 _ _ h))
  · exact .inl (.inr ⟨o, e.2 _ _ _ h⟩)
  · exact .inr h
mutual
inductive Dt (K : PySem.W.Frag) (H : Hp) : V → PyData → Prop
  | non : Dt K H .non .none
  | bl (b : Bool) : Dt K H (.bl b) (.bool b)
  | int (i : Int) : Dt K H (.int i) (.int i)
  | str (x : Str) : Dt K H (.str x) (.str x)
  | tup {a : Addr} {xs : List V} {ds : List PyData} : SqT K H a xs → DtAll K H xs ds → Dt K H (.ref a) (.tuple ds)
inductive DtAll (K : PySem.W.Frag) (H : Hp) : List V → List PyData → Prop
  | nil : DtAll K H [] []
  | cons {v : V} {vs : List V} {d : PyData} {ds : List PyData} : Dt K H v d → DtAll K H vs ds → DtAll K H (v :: vs) (d :: ds)
end
section
variable {K : PySem.W.Frag} {H H' : Hp}
mutual
theorem Dt.keep (e : TK H H') : ∀ {v : V} {d : PyData}, Dt K H v d → Dt K H' v d
  | _, _, .non => .non
  | _, _, .bl b => .bl b
  | _, _, .int i => .int i
  | _, _, .str x => .str x
  | _, _, .tup h r => .tup (tk_seqT e h) (DtAll.keep e r)
theorem DtAll.keep (e : TK H H') : ∀ {vs : List V} {ds : List PyData}, DtAll K H vs ds → DtAll K H' vs ds
  | _, _, .nil => .nil
  | _, _, .cons h r => .cons (Dt.keep e h) (DtAll.keep e r)
end
mutual
theorem Dt.dp : ∀ {v : V} {d : PyData}, Dt K H v d → Dp K H v d
  | _, _, .non => .non
  | _, _, .bl b => .bl b
  | _, _, .int i => .int i
  | _, _, .str x => .str x
  | _, _, .tup h r => .tup h (DtAll.dp r)
theorem DtAll.dp : ∀ {vs : List V} {ds : List PyData}, DtAll K H vs ds → DpAll K H vs ds
  | _, _, .nil => .nil
  | _, _, .cons h r => .cons (Dt.dp h) (DtAll.dp r)
end
theorem DtAll.ints : ∀ ns : List Int, DtAll K H (ns.map V.int) (ns.map PyData.int)
  | [] => .nil
  | n :: r => .cons (.int n) (DtAll.ints r)
theorem DtAll.strs : ∀ ns : List Str, DtAll K H (ns.map V.str) (ns.map PyData.str)
  | [] => .nil
  | n :: r => .cons (.str n) (DtAll.strs r)
theorem DtAll.len {vs : List V} {ds : List PyData} (h : DtAll K H vs ds) : vs.length = ds.length := dpAll_len h.dp
theorem DtAll.app : ∀ {vs us : List V} {ds es : List PyData}, DtAll K H vs ds → DtAll K H us es → DtAll K H (vs ++ us) (ds ++ es)
  | _, _, _, _, .nil, h => h
  | _, _, _, _, .cons a r, h => .cons a (DtAll.app r h)
theorem DtAll.get : ∀ {vs : List V} {ds : List PyData} {i : Nat} {v : V}, DtAll K H vs ds → vs[i]? = some v → ∃ d, ds[i]? = some d ∧ Dt K H v d
  | _, _, 0, _, .cons a _, e => by cases e; exact ⟨_, rfl, a⟩
  | _, _, i + 1, v, .cons _ r, e => DtAll.get (i := i) r e
theorem DtAll.at_ : ∀ {vs : List V} {ds : List PyData} {i : Nat} {d : PyData}, DtAll K H vs ds → ds[i]? = some d → ∃ v, vs[i]? = some v ∧ Dt K H v d
  | _, _, 0, _, .cons a _, e => by cases e; exact ⟨_, rfl, a⟩
  | _, _, i + 1, v, .cons _ r, e => DtAll.at_ (i := i) r e
theorem DtAll.erase : ∀ {vs : List V} {ds : List PyData} (i : Nat), DtAll K H vs ds → DtAll K H (vs.eraseIdx i) (ds.eraseIdx i)
  | _, _, _, .nil => .nil
  | _, _, 0, .cons _ r => r
  | _, _, i + 1, .cons a r => .cons a (DtAll.erase i r)
theorem DtAll.take : ∀ {vs : List V} {ds : List PyData} (i : Nat), DtAll K H vs ds → DtAll K H (vs.take i) (ds.take i)
  | _, _, 0, _ => by simp; exact .nil
  | _, _, _ + 1, .nil => .nil
  | _, _, i + 1, .cons a r => .cons a (DtAll.take i r)
theorem DtAll.drop : ∀ {vs : List V} {ds : List PyData} (i : Nat), DtAll K H vs ds → DtAll K H (vs.drop i) (ds.drop i)
  | _, _, 0, h => h
  | _, _, _ + 1, .nil => .nil
  | _, _, i + 1, .cons _ r => DtAll.drop i r
end
end Hx
set_option maxHeartbeats 4000000
namespace K17
open PySem PySem.Spec PyProof.Rows L2
/-! the text by places -/
def top (i : Nat) : Stmt := PySem.Challenge.pw_behindtaps_k17_texts_of_claims.main.body.getD i (.Pass ⟨0, 0, 0, 0⟩)
abbrev sBadText_init : Stmt := inClass (top 7) 0
abbrev sis_name : Stmt := top 14
abbrev sare_names : Stmt := top 15
abbrev sare_taps : Stmt := top 16
abbrev sis_lot : Stmt := top 17
abbrev scheck_taps : Stmt := top 18
abbrev sis_whole : Stmt := top 22
abbrev sis_number : Stmt := top 23
abbrev sdivided : Stmt := top 24
abbrev stop_of : Stmt := top 25
abbrev sbottom_of : Stmt := top 26
abbrev splus : Stmt := top 27
abbrev sturned : Stmt := top 28
abbrev snumber_text : Stmt := top 29
abbrev sread_number : Stmt := top 30
abbrev sread_whole : Stmt := top 31
abbrev sis_claim : Stmt := top 33
abbrev sclaim_of : Stmt := top 34
abbrev sis_term : Stmt := top 35
abbrev sare_claim_terms : Stmt := top 36
abbrev scheck_claim : Stmt := top 37
abbrev ssummed : Stmt := top 38
abbrev sgreater_terms : Stmt := top 39
abbrev slesser_terms : Stmt := top 40
abbrev sclaim_text : Stmt := top 42
abbrev sread_claim : Stmt := top 43
abbrev sclaims_text : Stmt := top 44
abbrev sread_claims : Stmt := top 45
abbrev stext_in : Stmt := top 46
abbrev sside_text : Stmt := top 47
abbrev sterm_text : Stmt := top 48
abbrev sread_text : Stmt := top 49
abbrev sread_sides : Stmt := top 50
abbrev sread_side : Stmt := top 51
abbrev sread_term : Stmt := top 52
abbrev sread_names : Stmt := top 53
abbrev sL_begun : Stmt := top 55
abbrev sL_blended : Stmt := top 56
abbrev sL_draw : Stmt := top 57
abbrev sL_pick : Stmt := top 58
abbrev sL_shuffled : Stmt := top 59
abbrev sL_caught : Stmt := top 60
abbrev sL_ct_gcd : Stmt := top 61
abbrev sL_ct_made : Stmt := top 62
abbrev sL_ct_top : Stmt := top 63
abbrev sL_ct_low : Stmt := top 64
abbrev sL_ct_plus : Stmt := top 65
abbrev sL_ct_times : Stmt := top 66
abbrev sL_ct_less : Stmt := top 67
abbrev sL_ct_is_number : Stmt := top 68
abbrev sL_ct_taps : Stmt := top 69
abbrev sL_ct_lots : Stmt := top 70
abbrev sL_ct_bad_claim : Stmt := top 71
abbrev sL_cl_gathered : Stmt := top 72
abbrev sL_cl_weight : Stmt := top 73
abbrev sL_cl_claim : Stmt := top 74
abbrev sL_cl_are_names : Stmt := top 75
abbrev sL_cl_is_lot : Stmt := top 76
abbrev sL_cl_is_claim : Stmt := top 77
abbrev sL_cl_same : Stmt := top 78
abbrev sL_cl_digits : Stmt := top 79
abbrev sL_cl_number_of : Stmt := top 80
abbrev sL_cl_number_text : Stmt := top 81
abbrev sL_cl_side_text : Stmt := top 82
abbrev sL_cl_sides_text : Stmt := top 83
abbrev sL_cl_text : Stmt := top 84
abbrev sL_cl_free_side : Stmt := top 85
abbrev sL_cl_free_sides : Stmt := top 86
abbrev sL_cl_read_sides : Stmt := top 87
abbrev sL_cl_read : Stmt := top 88
abbrev sL_cl_bent : Stmt := top 89
abbrev sL_heart_is_name : Stmt := top 90
abbrev sL_k17_refused : Stmt := top 91
abbrev sL_k17_read_right : Stmt := top 92
abbrev sL_k17_one : Stmt := top 93
abbrev sL_k17_lines_right : Stmt := top 94
abbrev sL_k17_many : Stmt := top 95
abbrev sL_k17_long : Stmt := top 96
abbrev slaw : Stmt := top 97
/-! a def of the text, where the top left it; its promise -/
abbrev FnD (K : PySem.W.Frag) (x : Str) (st : Stmt) (f : Addr) (fd : FuncData) : Prop := FunD K x x (defArgs st) (defBody st) (defScope st) [] [] f fd
def Dn (K : PySem.W.Frag) (mg : Str → Option Value) (x : Str) (st : Stmt) : Prop := ∃ f fd, mg x = some (.ref f) ∧ FnD K x st f fd
structure Ok (P : Program) (w : World) (K : PySem.W.Frag) (mg : Str → Option Value) (base : Heap) (CX : CXT) (k : Nat) (x : Str) (ps : List Str) (sp : Sp) : Prop where
  ex : ∃ f fd, mg x = some (.ref f) ∧ PySem.W.keepIn K (.ref f) = true ∧ Binds K fd ps [] ∧ FnOk P w K mg base CX k f fd ps sp
section
variable {P : Program} {w : World} {K : PySem.W.Frag} {mg : Str → Option Value} {base : Heap}
/-- the rule for a def that lets nothing out -/
theorem Ok.mk0 {x : Str} {st : Stmt} {N ps : List Str} {k : Nat} {sp : Sp} (D : Dn K mg x st) (S : FnScope N ps (defScope st)) (len : ∀ vs H Q E, sp vs H Q E → vs.length = ps.length)
    (hb : ∀ (kV doc pm : Value) (an : Option Addr) (cdv ct : Value) (us : List Value), us.length = ps.length → bindArgs (PySem.W.fnOf x x (defArgs st) (defBody st) (defScope st) .none kV doc pm an cdv ct) ⟨us, []⟩ = pure (ps.zip us))
    (hbody : ∀ (f : Addr) (cdv : Value) (A : Around) (outer : List Env) (s : Shared) (H : Hp) (vs : List V) (Q : VK) (E : XK), Room k (A.deeper (envOfC x (defScope st) s.heap.objs.size f cdv)) → sp vs H Q E →
      ∃ t, PSs (cxOf L2.CX0 P w K mg base N x (defScope st) f cdv A outer s H E).nox (defBody st) t ∧ t { nx := fun _ H' => Q .non H', rt := Q } (L2.start N vs) H) : Ok P w K mg base L2.CX0 (k + 1) x ps sp := by
  obtain ⟨f, fd, g, F⟩ := D
  refine ⟨f, fd, g, F.kp, F.bindsN hb, F.ok S len fun cdv A outer s H vs Q E hr h => ?_⟩
  obtain ⟨t, ht, q⟩ := hbody f cdv A outer s H vs Q E hr h
  exact ⟨t, ht.nox, q⟩
/-- the same of a def that may raise -/
theorem Ok.mkX {x : Str} {st : Stmt} {N ps : List Str} {k : Nat} {sp : Sp} (D : Dn K mg x st) (S : FnScope N ps (defScope st)) (len : ∀ vs H Q E, sp vs H Q E → vs.length = ps.length)
    (hb : ∀ (kV doc pm : Value) (an : Option Addr) (cdv ct : Value) (us : List Value), us.length = ps.length → bindArgs (PySem.W.fnOf x x (defArgs st) (defBody st) (defScope st) .none kV doc pm an cdv ct) ⟨us, []⟩ = pure (ps.zip us))
    (hbody : ∀ (f : Addr) (cdv : Value) (A : Around) (outer : List Env) (s : Shared) (H : Hp) (vs : List V) (Q : VK) (E : XK), Room k (A.deeper (envOfC x (defScope st) s.heap.objs.size f cdv)) → sp vs H Q E →
      ∃ t, PSs (cxOf (L2.CX P w) P w K mg base N x (defScope st) f cdv A outer s H E) (defBody st) t ∧ t { nx := fun _ H' => Q .non H', rt := Q } (L2.start N vs) H) : Ok P w K mg base (L2.CX P w) (k + 1) x ps sp := by
  obtain ⟨f, fd, g, F⟩ := D
  exact ⟨f, fd, g, F.kp, F.bindsN hb, F.ok S len fun cdv A outer s H vs Q E hr h => hbody f cdv A outer s H vs Q E hr h⟩
end
end K17
set_option maxHeartbeats 1000000
namespace K17
open PySem PySem.Spec PyProof.Rows L2 Hx RZ
/-! ### the head: facts by names -/
def dfn (n : Str) (st : Stmt) : He.DefD := ⟨(n, none), n, n, defArgs st, defBody st, defScope st, [], []⟩
def fn0 : List He.DefD := [dfn "is_name" sis_name, dfn "are_names" sare_names, dfn "are_taps" sare_taps, dfn "is_lot" sis_lot, dfn "check_taps" scheck_taps, dfn "is_whole" sis_whole, dfn "is_number" sis_number, dfn "divided" sdivided, dfn "top_of" stop_of, dfn "bottom_of" sbottom_of, dfn "plus" splus, dfn "turned" sturned, dfn "number_text" snumber_text, dfn "read_number" sread_number, dfn "read_whole" sread_whole, dfn "is_claim" sis_claim, dfn "claim_of" sclaim_of, dfn "is_term" sis_term, dfn "are_claim_terms" sare_claim_terms, dfn "check_claim" scheck_claim, dfn "summed" ssummed, dfn "greater_terms" sgreater_terms, dfn "lesser_terms" slesser_terms, dfn "claim_text" sclaim_text, dfn "read_claim" sread_claim, dfn "claims_text" sclaims_text, dfn "read_claims" sread_claims, dfn "text_in" stext_in, dfn "side_text" sside_text, dfn "term_text" sterm_text]
def fn1 : List He.DefD := [dfn "read_text" sread_text, dfn "read_sides" sread_sides, dfn "read_side" sread_side, dfn "read_term" sread_term, dfn "read_names" sread_names, dfn "_law_begun" sL_begun, dfn "_law_blended" sL_blended, dfn "_law_draw" sL_draw, dfn "_law_pick" sL_pick, dfn "_law_shuffled" sL_shuffled, dfn "_law_caught" sL_caught, dfn "_law_ct_gcd" sL_ct_gcd, dfn "_law_ct_made" sL_ct_made, dfn "_law_ct_top" sL_ct_top, dfn "_law_ct_low" sL_ct_low, dfn "_law_ct_plus" sL_ct_plus, dfn "_law_ct_times" sL_ct_times, dfn "_law_ct_less" sL_ct_less, dfn "_law_ct_is_number" sL_ct_is_number, dfn "_law_ct_taps" sL_ct_taps, dfn "_law_ct_lots" sL_ct_lots, dfn "_law_ct_bad_claim" sL_ct_bad_claim, dfn "_law_cl_gathered" sL_cl_gathered, dfn "_law_cl_weight" sL_cl_weight, dfn "_law_cl_claim" sL_cl_claim, dfn "_law_cl_are_names" sL_cl_are_names, dfn "_law_cl_is_lot" sL_cl_is_lot, dfn "_law_cl_is_claim" sL_cl_is_claim, dfn "_law_cl_same" sL_cl_same, dfn "_law_cl_digits" sL_cl_digits]
def fn2 : List He.DefD := [dfn "_law_cl_number_of" sL_cl_number_of, dfn "_law_cl_number_text" sL_cl_number_text, dfn "_law_cl_side_text" sL_cl_side_text, dfn "_law_cl_sides_text" sL_cl_sides_text, dfn "_law_cl_text" sL_cl_text, dfn "_law_cl_free_side" sL_cl_free_side, dfn "_law_cl_free_sides" sL_cl_free_sides, dfn "_law_cl_read_sides" sL_cl_read_sides, dfn "_law_cl_read" sL_cl_read, dfn "_law_cl_bent" sL_cl_bent, dfn "_law_heart_is_name" sL_heart_is_name, dfn "_law_k17_refused" sL_k17_refused, dfn "_law_k17_read_right" sL_k17_read_right, dfn "_law_k17_one" sL_k17_one, dfn "_law_k17_lines_right" sL_k17_lines_right, dfn "_law_k17_many" sL_k17_many, dfn "_law_k17_long" sL_k17_long, dfn "law" slaw]
def fn : List He.DefD := fn0 ++ fn1 ++ fn2
def fa0 : List He.Fa := [.glo "is_name", .glo "are_names", .glo "are_taps", .glo "is_lot", .glo "check_taps", .glo "is_whole", .glo "is_number", .glo "divided", .glo "top_of", .glo "bottom_of", .glo "plus", .glo "turned", .glo "number_text", .glo "read_number", .glo "read_whole", .glo "is_claim", .glo "claim_of", .glo "is_term", .glo "are_claim_terms", .glo "check_claim", .glo "summed", .glo "greater_terms", .glo "lesser_terms", .glo "claim_text", .glo "read_claim", .glo "claims_text", .glo "read_claims", .glo "text_in", .glo "side_text", .glo "term_text"]
def fa1 : List He.Fa := [.glo "read_text", .glo "read_sides", .glo "read_side", .glo "read_term", .glo "read_names", .glo "_law_begun", .glo "_law_blended", .glo "_law_draw", .glo "_law_pick", .glo "_law_shuffled", .glo "_law_caught", .glo "_law_ct_gcd", .glo "_law_ct_made", .glo "_law_ct_top", .glo "_law_ct_low", .glo "_law_ct_plus", .glo "_law_ct_times", .glo "_law_ct_less", .glo "_law_ct_is_number", .glo "_law_ct_taps", .glo "_law_ct_lots", .glo "_law_ct_bad_claim", .glo "_law_cl_gathered", .glo "_law_cl_weight", .glo "_law_cl_claim", .glo "_law_cl_are_names", .glo "_law_cl_is_lot", .glo "_law_cl_is_claim", .glo "_law_cl_same", .glo "_law_cl_digits"]
def fa2 : List He.Fa := [.glo "_law_cl_number_of", .glo "_law_cl_number_text", .glo "_law_cl_side_text", .glo "_law_cl_sides_text", .glo "_law_cl_text", .glo "_law_cl_free_side", .glo "_law_cl_free_sides", .glo "_law_cl_read_sides", .glo "_law_cl_read", .glo "_law_cl_bent", .glo "_law_heart_is_name", .glo "_law_k17_refused", .glo "_law_k17_read_right", .glo "_law_k17_one", .glo "_law_k17_lines_right", .glo "_law_k17_many", .glo "_law_k17_long", .glo "law", .free "abs", .free "all", .free "any", .free "bool", .free "dict", .free "int", .free "isinstance", .free "len", .free "list", .free "max", .free "range", .free "sorted"]
def fa3 : List He.Fa := [.free "str", .free "super", .free "tuple", .free "zip", .str "LETTERS" "abcdefghijklmnopqrstuvwxyz", .str "LETTERS_AND_DIGITS" "abcdefghijklmnopqrstuvwxyz0123456789", .int "LONGEST_NAME" 8, .int "FEWEST_TAPS" 2, .int "MOST_TAPS" 6, .int "MOST_DIGITS" 30, .str "DIGITS" "0123456789", .glo "TapError", .glo "BadTaps", .glo "BadClaim", .glo "BadTerms", .glo "BadClaims", .glo "BadText", .exc "BadClaim", .exc "BadClaims", .exc "BadTaps", .exc "BadTerms", .exm "BadText" "TapError" true, .exm "BadClaim" "TapError" true, .exm "BadClaims" "TapError" true]
def fa : List He.Fa := fa0 ++ fa1 ++ fa2 ++ fa3
def loose0 : List Str := ["TapError", "BadTaps", "BadClaim", "BadTerms", "BadClaims", "BadText", "LETTERS", "LETTERS_AND_DIGITS", "LONGEST_NAME", "FEWEST_TAPS", "MOST_TAPS", "MOST_DIGITS", "DIGITS", "is_name", "are_names", "are_taps", "is_lot", "check_taps", "is_whole", "is_number", "divided", "top_of", "bottom_of", "plus", "turned", "number_text", "read_number", "read_whole", "is_claim", "claim_of"]
def loose1 : List Str := ["is_term", "are_claim_terms", "check_claim", "summed", "greater_terms", "lesser_terms", "claim_text", "read_claim", "claims_text", "read_claims", "text_in", "side_text", "term_text", "read_text", "read_sides", "read_side", "read_term", "read_names", "_law_begun", "_law_blended", "_law_draw", "_law_pick", "_law_shuffled", "_law_caught", "_law_ct_gcd", "_law_ct_made", "_law_ct_top", "_law_ct_low", "_law_ct_plus", "_law_ct_times"]
def loose2 : List Str := ["_law_ct_less", "_law_ct_is_number", "_law_ct_taps", "_law_ct_lots", "_law_ct_bad_claim", "_law_cl_gathered", "_law_cl_weight", "_law_cl_claim", "_law_cl_are_names", "_law_cl_is_lot", "_law_cl_is_claim", "_law_cl_same", "_law_cl_digits", "_law_cl_number_of", "_law_cl_number_text", "_law_cl_side_text", "_law_cl_sides_text", "_law_cl_text", "_law_cl_free_side", "_law_cl_free_sides", "_law_cl_read_sides", "_law_cl_read", "_law_cl_bent", "_law_heart_is_name", "_law_k17_refused", "_law_k17_read_right", "_law_k17_one", "_law_k17_lines_right", "_law_k17_many", "_law_k17_long"]
def loose : List Str := loose0 ++ loose1 ++ loose2
def tf : List He.Defn := [("_law_k17_read_right", none), ("_law_k17_lines_right", none), ("_law_k17_long", none), ("law", none)]
abbrev R : PySem.W.OpenRow := PySem.W.OpenLaw.row PySem.Challenge.rw_behindtaps_k17_texts_of_claims
-- the index of law is 97, the view [0, 97]
/-! facts of the errors' classes -/
def oneB : Option Bool → Bool
  | some b => b
  | none => false
theorem oneB_ok {x : Option Bool} (h : oneB x = true) : x = some true := by
  cases x with
  | none => cases h
  | some b =>
    have e : b = true := h
    rw [e]
abbrev bu (n : String) : Option (Option Value) := some (some (.builtin n))
def clsB (K : PySem.W.Frag) (C : Addr) : Bool := match K.lookup C with
  | some ⟨.type t, _, .cls cd, sl⟩ => decide (t = "type") && (match cd.mro with
    | .ref D :: bm => decide (D = C) && (!cd.hasDel && (cd.hasDict && PySem.HandSPX.refsVE bm))
    | _ => false) && (match sl.toList with
    | [_, _, _, _, some (.builtin n), _] => decide (n = "ValueError.__new__")
    | _ => false)
  | _ => false
def oexB (K : PySem.W.Frag) (C : Addr) : Bool := clsB K C && (He.eqO (PySem.W.findIn K (.ref C) "__setattr__") (bu "object.__setattr__") && (oneB (PySem.W.subIn K (.ref C) (.type "BaseException")) && (decide (PySem.W.typeIn K (.ref C) = some (.type "type")) && PySem.W.keepIn K (.ref C))))
theorem clsB_ok {K : PySem.W.Frag} {C : Addr} (h : clsB K C = true) : ∃ nm q N bs bm sn sub ab col dd k0 k1 k2 k3 k5, K.lookup C = some (excClassObj nm q C N bs bm true sn sub ab col dd k0 k1 k2 k3 k5 "ValueError.__new__") ∧ PySem.HandSPX.refsVE bm = true := by
  unfold clsB at h
  split at h
  · next t dd cd sl e =>
    simp only [Bool.and_eq_true, decide_eq_true_eq] at h
    obtain ⟨⟨rfl, h2⟩, h3⟩ := h
    split at h2
    · next D bm em =>
      simp only [Bool.and_eq_true, decide_eq_true_eq, Bool.not_eq_true'] at h2
      obtain ⟨rfl, h4, h5, h6⟩ := h2
      split at h3
      · next k0 k1 k2 k3 n k5 es =>
        have en : n = "ValueError.__new__" := of_decide_eq_true h3
        subst en
        obtain ⟨a1, a2, a3, a4, a5, a6, a7, a8, a9, a10, a11⟩ := cd
        dsimp only at em h4 h5
        subst em h4 h5
        obtain ⟨l⟩ := sl
        have el : l = _ := es
        subst el
        exact ⟨a1, a5, a4, a2, bm, a7, a8, a9, a10, dd, k0, k1, k2, k3, k5, e, h6⟩
      · cases h3
    · cases h2
  · cases h
theorem oexB_ok {K : PySem.W.Frag} {C : Addr} (h : oexB K C = true) : OexC K C := by
  unfold oexB at h
  simp only [Bool.and_eq_true, decide_eq_true_eq] at h
  obtain ⟨h1, h2, h3, h4, h5⟩ := h
  exact ⟨clsB_ok h1, He.eqO_ok h2, oneB_ok h3, h4, h5⟩
def excB (K : PySem.W.Frag) (C : Addr) : Bool := He.eqO (PySem.W.findIn K (.ref C) "__getattribute__") (bu "BaseException.__getattribute__") && (He.eqO (PySem.W.findIn K (.ref C) "__getattr__") (some none) && (oneB (PySem.W.subIn K (.ref C) (.type "BaseException")) && (PySem.W.hasDictIn K C &&
  (He.eqO (PySem.W.findIn K (.ref C) "__class__") (bu "object.__class__") && (He.eqO (PySem.W.specialIn K (.builtin "object.__class__") "__get__") (bu "getset_descriptor.__get__") && (oneB (PySem.W.takesIn K (.builtin "object.__class__")) && oneB (PySem.W.mroIn K C (.type "object"))))))))
theorem excB_ok {K : PySem.W.Frag} {C : Addr} (h : excB K C = true) : ExcC K C := by
  unfold excB at h
  simp only [Bool.and_eq_true] at h
  obtain ⟨h1, h2, h3, h4, h5, h6, h7, h8⟩ := h
  exact ⟨He.eqO_ok h1, He.eqO_ok h2, oneB_ok h3, h4, He.eqO_ok h5, He.eqO_ok h6, oneB_ok h7, oneB_ok h8⟩
/-! BadText's own __init__ -/
abbrev PW0 : Program := PySem.Challenge.pw_behindtaps_k17_texts_of_claims
def codeB (K : PySem.W.Frag) (c : Addr) : Bool := match K.lookup c with
  | some ⟨_, _, .fields vs, _⟩ => (match (vs[2]? : Option Value) with
    | some (.str file _) => (PW0.main.file : Str) == file
    | _ => false)
  | _ => false
def cellB (K : PySem.W.Frag) (c C : Addr) : Bool := match K.lookup c with
  | some ⟨_, _, .cell (some (.ref D)), _⟩ => decide (D = C)
  | _ => false
abbrev aBT (K : PySem.W.Frag) : Addr := He.ga K "BadText"
abbrev aIni (K : PySem.W.Frag) : Addr := He.ma K (aBT K) "__init__"
def iniB (K : PySem.W.Frag) : Bool := (match K.lookup (aIni K) with
  | some ⟨_, _, .func fd, _⟩ => (match fd.closure, fd.code with
    | [(_, cc)], .ref cda => codeB K cda && (cellB K cc (aBT K) && PySem.W.codeIn K (.ref cda) "BadText.__init__")
    | _, _ => false)
  | _ => false) && (oneB (PySem.W.mroIn K (aBT K) (.ref (aBT K))) && (He.eqO (PySem.W.nsIn K cStatics "thirdparty.any") (some none) && (He.eqO (PySem.W.ks_superIn K (aBT K) (aBT K) "__init__") (bu "ValueError.__init__") && oneB (PySem.W.subIn K (.ref (aBT K)) (.type "ValueError")))))
abbrev IniV : Type := Option (Str × Str × Arguments × FuncBody × Scope × Addr × List Str × Addr × Value)
def iniObs (K : PySem.W.Frag) : IniV := match K.lookup (aIni K) with
  | some ⟨_, _, .func fd, _⟩ => some (fd.name, fd.qualname, fd.params, fd.body, fd.scope, fd.globals, fd.closure.map (·.1), fd.builtins, fd.defaults)
  | _ => none
def iniVal : IniV := some ("__init__", "BadText.__init__", defArgs sBadText_init, .stmts (defBody sBadText_init), defScope sBadText_init, mainGlobals, ["__class__"], builtinsNs, .none)
theorem ini_of {K : PySem.W.Frag} (T : OexC K (aBT K)) (e : iniObs K = iniVal) (c : iniB K = true) : ∃ (cda cc : Addr) (kV doc pm ct : Value) (an : Option Addr),
    SupC PW0 K (aBT K) (aIni K) cda cc (PySem.W.ksFn "__init__" "BadText.__init__" (defArgs sBadText_init) (defBody sBadText_init) (defScope sBadText_init) .none kV doc pm an (.ref cda) ct cc) ∧ PySem.W.codeIn K (.ref cda) "BadText.__init__" = true := by
  unfold iniB at c
  simp only [Bool.and_eq_true] at c
  obtain ⟨c1, c2, c3, c4, c5⟩ := c
  unfold iniObs at e
  cases q : K.lookup (aIni K) with
  | none =>
    rw [q] at c1
    cases c1
  | some o =>
    obtain ⟨oc, od, dt, osl⟩ := o
    rw [q] at c1 e
    cases dt with
    | func fd =>
      obtain ⟨n1, n2, n3, n4, n5, n6, n7, n8, n9, n10, n11, n12, n13, n14, n15⟩ := fd
      have e2 : (some (n1, n2, n3, n4, n5, n6, n7.map (·.1), n15, n8) : IniV) = iniVal := e
      unfold iniVal at e2
      simp only [Option.some.injEq, Prod.mk.injEq] at e2
      obtain ⟨h1, h2, h3, h4, h5, h6, h7, h8, h9⟩ := e2
      subst h1 h2 h3 h4 h5 h6 h8 h9
      match n7, n13, h7, c1 with
      | [(y, cc)], .ref cda, h7, c1 =>
        have ey : y = "__class__" := by simpa using h7
        subst ey
        have c1' : (codeB K cda && (cellB K cc (aBT K) && PySem.W.codeIn K (.ref cda) "BadText.__init__")) = true := c1
        simp only [Bool.and_eq_true] at c1'
        obtain ⟨k1, k2, k3⟩ := c1'
        refine ⟨cda, cc, n9, n10, n11, n14, n12, ⟨T, ⟨oc, od, osl, q⟩, ?_, ?_, ?_, oneB_ok c2, He.eqO_ok c3, He.eqO_ok c4, oneB_ok c5⟩, k3⟩
        · unfold codeB at k1
          split at k1
          · next o1 o2 vs o4 eo =>
            split at k1
            · next file tk ev => exact ⟨_, _, vs, _, file, tk, eo, ev, k1⟩
            · cases k1
          · cases k1
        · unfold cellB at k2
          split at k2
          · next o1 o2 D o4 eo =>
            have eD : D = aBT K := of_decide_eq_true k2
            subst eD
            exact ⟨_, _, _, eo⟩
          · cases k2
        · obtain ⟨nm, q2, N, bs, bm, sn, sub, ab, col, dd, k0, k1', k2', k3', k5, hC, _⟩ := T.cls
          exact ⟨_, by unfold PySem.W.clsIn; rw [hC]⟩
    | _ => cases c1
/-! ### the Hook -/
abbrev tabA (K : PySem.W.Frag) (x : Str) : Addr := (He.cT K (x, none)).2
def fourB (K : PySem.W.Frag) : Bool := decide (tabA K "_law_k17_read_right" ≠ tabA K "_law_k17_lines_right") && (decide (tabA K "_law_k17_read_right" ≠ tabA K "_law_k17_long") && (decide (tabA K "_law_k17_read_right" ≠ tabA K "law") &&
  (decide (tabA K "_law_k17_lines_right" ≠ tabA K "_law_k17_long") && (decide (tabA K "_law_k17_lines_right" ≠ tabA K "law") && decide (tabA K "_law_k17_long" ≠ tabA K "law")))))
def ex (K : PySem.W.Frag) : Bool := oexB K (aBT K) && (excB K (aBT K) && (excB K (He.ga K "BadClaim") && (excB K (He.ga K "BadClaims") && (xfB K (aBT K) && (He.eqO (PySem.W.findIn K (.ref (aBT K)) "line") (some none) && (fourB K &&
  (He.eqO (PySem.W.nsIn K mainGlobals "gcd") (bu "math.gcd") && (iniB K && (He.eqO (PySem.W.findIn K (.ref (aBT K)) "__init__") (some (some (.ref (aIni K)))) && decide (PySem.W.typeIn K (.ref (aIni K)) = some (.type "function")))))))))))
/-- what is looked at, without what every function names -/
def nxt (g : Addr → Option Obj) (as : List Addr) : List Addr := ((as.flatMap fun a => match g a with
  | some o => (match o.data with
    | .func fd => He.refV fd.code ++ fd.closure.map (·.2)
    | _ => He.refsD o)
  | none => []).filter fun a => !(a == mainGlobals || a == builtinsNs)).eraseDups
def up (g : Addr → Option Obj) : Nat → List Addr
  | 0 => [mainGlobals]
  | n + 1 => nxt g (up g n)
abbrev reach (g : Addr → Option Obj) : PySem.W.Frag := He.frT g (cStatics :: mainGlobals :: (up g 1 ++ (up g 2 ++ (up g 3 ++ up g 4))))
abbrev AlY : Type := He.AlX × IniV
def obsY (g : Addr → Option Obj) : AlY := ((He.obsT fa fn [] (reach g), ex (reach g) && He.tabsB g tf (reach g)), iniObs (reach g))
def valY (w : World) : AlY := (He.valX fn [] w, iniVal)
theorem saysY {w : World} {h : Heap} (e : obsY h.get? = valY w) : He.SaysX fa fn [] tf ex w h (reach h.get?) ∧ iniObs (reach h.get?) = iniVal := by
  have e1 : He.obsT fa fn [] (reach h.get?) = He.valT fn [] w := congrArg (fun z : AlY => z.1.1) e
  have e2 : (ex (reach h.get?) && He.tabsB h.get? tf (reach h.get?)) = true := congrArg (fun z : AlY => z.1.2) e
  have e3 : iniObs (reach h.get?) = iniVal := congrArg (fun z : AlY => z.2) e
  rw [Bool.and_eq_true] at e2
  have one : ∀ p ∈ tf, PySem.W.codeHdIn (reach h.get?) (He.cT (reach h.get?) p).1 (He.cT (reach h.get?) p).2 = true ∧ ∃ o, h.get? (He.cT (reach h.get?) p).2 = some o ∧ He.emptyTab o = true := by
    intro p hp
    have z := List.all_eq_true.mp e2.2 p hp
    rw [Bool.and_eq_true] at z
    obtain ⟨z1, z2⟩ := z
    refine ⟨z1, ?_⟩
    split at z2
    · next o eo => exact ⟨o, eo, z2⟩
    · cases z2
  refine ⟨⟨e1, e2.1, fun p hp => (one p hp).1, fun p hp => ?_, fun p hp => ?_⟩, e3⟩
  · obtain ⟨_, o, a, b⟩ := one p hp
    exact He.frT_none a b
  · obtain ⟨_, o, a, b⟩ := one p hp
    rw [a, He.emptyTab_eq b]
def hk : PySem.W.Hook where
  α := AlY
  obs := fun s => obsY s.heap.get?
  val := fun w => valY w
  says := fun w h => ∃ K : PySem.W.Frag, K.In h ∧ He.SaysX fa fn [] tf ex w h K ∧ iniObs K = iniVal
  of := fun _ _ e => ⟨_, He.frT_in, (saysY e).1, (saysY e).2⟩
  keeps := fun _ _ _ ⟨K, hK, c, d⟩ kp => ⟨K, PySem.W.Frag.In.keeps hK kp, ⟨c.t, c.more, c.hd, c.out, fun p hp => kp _ _ (c.empty p hp)⟩, d⟩
def ob (s : PySem.W.SharedT) : AlY := obsY (HandSHeadRun.getT s)
theorem ob_eq (s : PySem.W.SharedT) : ob s = hk.obs s.abs := by
  have e : HandSHeadRun.getT s = s.abs.heap.get? := funext (HandSHeadRun.getT_eq s)
  show obsY (HandSHeadRun.getT s) = obsY s.abs.heap.get?
  rw [e]
end K17
set_option maxHeartbeats 0
namespace K17
open PySem PySem.Spec PyProof.Rows L2 HandSHeadRun PySem.W
/-! the run of the top, in three looks (memory) -/
noncomputable abbrev whole (w : World) := wholeF (fun p => stepQ (denQ tabQ) p w) fenceQ 4000 R.prog
abbrev gOf (s : PySem.W.SharedT) : PySem.W.Frag := reach (HandSHeadRun.getT s)
theorem run1 (w : World) : (whole w).map (fun x => (looksF R.prog x.1.heap x.2.abs, seenQ (PySem.W.view R.prog [0, 97]) loose (importedModules R.prog.main.body) (fun s => xlAt (PySem.W.view R.prog [0, 97]) [] s && recOk R.toRowW.records s) x.2.abs)) = some (true, openGood (PySem.W.view R.prog [0, 97]) loose) := by
  kernel_rfl
theorem run2 (w : World) : (whole w).map (fun x => (fa.all fun f => f.ok (gOf x.2), fn.map fun d => He.fnW (gOf x.2) d.at_)) = some (true, fn.map He.DefD.val) := by
  kernel_rfl
theorem run3 (w : World) : (whole w).map (fun x => (fn.all fun d => d.ok (gOf x.2), ex (gOf x.2) && He.tabsB (HandSHeadRun.getT x.2) tf (gOf x.2), iniObs (gOf x.2))) = some (true, true, iniVal) := by
  kernel_rfl
theorem run (w : World) : HandSHeadRun.RunEqI R (PySem.W.view R.prog [0, 97]) hk ob 4000 loose w := by
  have r1 := run1 w
  have r2 := run2 w
  have r3 := run3 w
  unfold HandSHeadRun.RunEqI
  show (whole w).map _ = _
  revert r1 r2 r3
  generalize whole w = o
  intro r1 r2 r3
  cases o with
  | none => cases r1
  | some x =>
    have e1 : (looksF R.prog x.1.heap x.2.abs, seenQ (PySem.W.view R.prog [0, 97]) loose (importedModules R.prog.main.body) (fun s => xlAt (PySem.W.view R.prog [0, 97]) [] s && recOk R.toRowW.records s) x.2.abs) = (true, openGood (PySem.W.view R.prog [0, 97]) loose) := Option.some.inj r1
    have e2 : ((fa.all fun f => f.ok (gOf x.2)), fn.map fun d => He.fnW (gOf x.2) d.at_) = (true, fn.map He.DefD.val) := Option.some.inj r2
    have e3 : ((fn.all fun d => d.ok (gOf x.2)), ex (gOf x.2) && He.tabsB (HandSHeadRun.getT x.2) tf (gOf x.2), iniObs (gOf x.2)) = (true, true, iniVal) := Option.some.inj r3
    obtain ⟨a1, a2⟩ := Prod.mk.inj e1
    obtain ⟨a3, a4⟩ := Prod.mk.inj e2
    obtain ⟨a5, a67⟩ := Prod.mk.inj e3
    obtain ⟨a6, a7⟩ := Prod.mk.inj a67
    have eo : ob x.2 = hk.val w := by
      show (((((fa.all fun f => f.ok (gOf x.2)) && fn.all fun d => d.ok (gOf x.2), fn.map fun d => He.fnW (gOf x.2) d.at_), ([] : List (Option (List (Option (Str × Int)))))), ex (gOf x.2) && He.tabsB (HandSHeadRun.getT x.2) tf (gOf x.2)), iniObs (gOf x.2)) = ((((true, fn.map He.DefD.val), []), true), iniVal)
      rw [a3, a4, a5, a6, a7] <;> rfl
    show some (looksF R.prog x.1.heap x.2.abs, seenQ (PySem.W.view R.prog [0, 97]) loose (importedModules R.prog.main.body) (fun s => xlAt (PySem.W.view R.prog [0, 97]) [] s && recOk R.toRowW.records s) x.2.abs, ob x.2) = some (true, openGood (PySem.W.view R.prog [0, 97]) loose, hk.val w)
    rw [a1, a2, eo]
    all_goals rfl
end K17
set_option maxHeartbeats 4000000
namespace K17
open PySem PySem.Spec PyProof.Rows L2 Hx
theorem fmod_in (a : Int) {p : Int} (h : 0 < p) : 0 ≤ a.fmod p ∧ a.fmod p < p := by
  rw [Int.fmod_eq_emod_of_nonneg a (by omega)]
  exact ⟨Int.emod_nonneg _ (by omega), Int.emod_lt_of_pos _ h⟩
/-! ### the law's draws: its state -/
def kvS (g c : Addr) (r t : Int) : List (Key × V) := [(.inr "great", .ref g), (.inr "cells", .ref c), (.inr "rest", .int r), (.inr "turn", .int t)]
theorem kvS_great {g c : Addr} {r t : Int} : valV (kvS g c r t) (.inr "great") = some (.ref g) := rfl
theorem kvS_cells {g c : Addr} {r t : Int} : valV (kvS g c r t) (.inr "cells") = some (.ref c) := by
  have n1 : ¬ ((Sum.inr "great" : Key) = .inr "cells") := by decide
  unfold kvS
  rw [valV_neg n1, valV_pos rfl]
theorem kvS_rest {g c : Addr} {r t : Int} : valV (kvS g c r t) (.inr "rest") = some (.int r) := by
  have n1 : ¬ ((Sum.inr "great" : Key) = .inr "rest") := by decide
  have n2 : ¬ ((Sum.inr "cells" : Key) = .inr "rest") := by decide
  unfold kvS
  rw [valV_neg n1, valV_neg n2, valV_pos rfl]
theorem kvS_turn {g c : Addr} {r t : Int} : valV (kvS g c r t) (.inr "turn") = some (.int t) := by
  have n1 : ¬ ((Sum.inr "great" : Key) = .inr "turn") := by decide
  have n2 : ¬ ((Sum.inr "cells" : Key) = .inr "turn") := by decide
  have n3 : ¬ ((Sum.inr "rest" : Key) = .inr "turn") := by decide
  unfold kvS
  rw [valV_neg n1, valV_neg n2, valV_neg n3, valV_pos rfl]
theorem kvS_putR {g c : Addr} {r t z : Int} : putK (kvS g c r t) (.inr "rest") (.int z) = kvS g c z t := by
  have e1 : ¬ ((Sum.inr "great" : Key) = .inr "rest") := by decide
  have e2 : ¬ ((Sum.inr "cells" : Key) = .inr "rest") := by decide
  have e3 : ¬ ((Sum.inr "turn" : Key) = .inr "rest") := by decide
  simp [putK, kvS, e1, e2, e3]
theorem kvS_putT {g c : Addr} {r t z : Int} : putK (kvS g c r t) (.inr "turn") (.int z) = kvS g c r z := by
  have e1 : ¬ ((Sum.inr "great" : Key) = .inr "turn") := by decide
  have e2 : ¬ ((Sum.inr "cells" : Key) = .inr "turn") := by decide
  have e3 : ¬ ((Sum.inr "rest" : Key) = .inr "turn") := by decide
  simp [putK, kvS, e1, e2, e3]
/-- the state at d, its great ones at g; n draws are still let -/
def St (H : Hp) (d g c : Addr) (n : Nat) : Prop := ∃ (gs cs : List Int) (r t : Int), H d = some (.dK (kvS g c r t)) ∧ H g = some (.lst (gs.map V.int)) ∧ H c = some (.lst (cs.map V.int)) ∧ c ≠ g ∧ cs.length ≤ 63 ∧ 0 ≤ t ∧ t + n ≤ 1000000000
theorem sget {H1 : Hp} {d : Addr} {x : Str} {v : V} {g c : Addr} {r t : Int} (e : H1 d = some (.dK (kvS g c r t))) (q : valV (kvS g c r t) (.inr x) = some v) : DGet H1 d (.str x) (some v) := by
  have z := DGet.k (k := Sum.inr x) e
  rw [q] at z
  exact z
theorem St.less {H : Hp} {d g c : Addr} {n m : Nat} (h : St H d g c n) (l : m ≤ n) : St H d g c m := by
  obtain ⟨gs, cs, r, t, h1, h2, h3, h4, h5, h6, h7⟩ := h
  exact ⟨gs, cs, r, t, h1, h2, h3, h4, h5, h6, by omega⟩
theorem St.same {H H' : Hp} {d g c : Addr} {n : Nat} (h : St H d g c n) (e : Same H H') : St H' d g c n := by
  obtain ⟨gs, cs, r, t, h1, h2, h3, h4, h5, h6, h7⟩ := h
  exact ⟨gs, cs, r, t, e _ _ h1, e _ _ h2, e _ _ h3, h4, h5, h6, h7⟩
theorem St.ne {H : Hp} {d g c : Addr} {n : Nat} (h : St H d g c n) : d ≠ g := by
  obtain ⟨gs, cs, r, t, h1, h2, h3, h4, h5, h6, h7⟩ := h
  exact ne_of h1 h2 (by intro z; cases z)
/-- all but the state's two objects is kept -/
def Kp (d g : Addr) (H H' : Hp) : Prop := ∀ b o, H b = some o → b ≠ d → b ≠ g → H' b = some o
theorem Kp.refl {d g : Addr} (H : Hp) : Kp d g H H := fun _ _ h _ _ => h
theorem Kp.trans {d g : Addr} {H H1 H2 : Hp} (a : Kp d g H H1) (b : Kp d g H1 H2) : Kp d g H H2 := fun c o h n m => b c o (a c o h n m) n m
theorem Kp.of {d g : Addr} {H H' : Hp} (e : Same H H') : Kp d g H H' := fun b o h _ _ => e b o h
section
variable {P : Program} {w : World} {K : PySem.W.Frag} {mg : Str → Option Value} {base : Heap}
/-! blended -/
def spBlended : Sp := fun vs H Q _ => ∃ (d g c : Addr) (n : Nat), vs = [.ref d] ∧ St H d g c (n + 1) ∧ ∀ (z : Int) H', St H' d g c n → Kp d g H H' → Q (.int z) H'
theorem sc_blended : FnScope ["state", "turn", "found", "prime", "blend", "cell"] ["state"] (defScope sL_blended) := ⟨rfl, rfl, rfl, by decide +kernel, rfl, by decide +kernel, by decide +kernel⟩
theorem ok_blended (D : Dn K mg "_law_blended" sL_blended) (h_int : mg "int" = none) : Ok P w K mg base L2.CX0 1 "_law_blended" ["state"] spBlended := by
  refine Ok.mk0 D sc_blended (fun vs H Q E h => ?_) (fun _ _ _ _ _ _ us hl => match us, hl with | [_], _ => rfl) (fun f cdv A outer s H vs Q E hr h => ?_)
  · obtain ⟨d, g, c, n, rfl, _⟩ := h
    rfl
  obtain ⟨d, g, c, n, rfl, hS, k⟩ := h
  have hu := hu_of hr
  have nd := sc_blended.nd
  obtain ⟨gs, cs, r, t, h1, h2, h3, h4, h5, h6, h7⟩ := hS
  have ndg : d ≠ g := ne_of h1 h2 (by intro z; cases z)
  have ndc : d ≠ c := ne_of h1 h3 (by intro z; cases z)
  refine ⟨_, (pss_cons (ps_par (i := 1) (j := 2) (by rfl) nd rfl rfl (by decide) rfl rfl (pa_cons (pe_op op_add (pe_dget hu (pv 0) pe_str (fun _ _ => rfl)) pe_int) (pa_cons pe_int pa_nil)) (by rfl))
    (pss_cons (ps_dput hu (pv 0) pe_str (pv 1) rfl)
    (pss_cons (ps_for PassesOwn.never rfl (pi_list (pe_lst (pa_cons pe_int (pa_cons pe_int (pa_cons pe_int pa_nil))))) (pg_name (i := 3) nd rfl (Or.inl rfl))
      (pss_cons (ps_set (i := 4) nd rfl (Or.inl rfl) (pe_op op_add (pe_op op_mul pe_int (pv 1)) (pe_op op_fdivN (pv 3) pe_int)))
      (pss_cons (ps_for PassesOwn.never rfl (pi_list (pe_dget hu (pv 0) pe_str (fun _ _ => rfl))) (pg_name (i := 5) nd rfl (Or.inl rfl))
        (pss_one (ps_set (i := 4) nd rfl (Or.inl rfl) (pe_op op_modN (pe_callTy call_int1 (by rfl) h_int (by decide +kernel) (pa_cons (pe_op op_add (pe_op op_add (pe_op op_mul (pv 4) pe_int) (pv 5)) (pv 1)) pa_nil)) (pv 3)))))
      (pss_one (ps_set (i := 2) nd rfl (Or.inl rfl) (pe_op op_add (pe_op op_mul (pv 2) pe_int) (pe_op op_modN (pe_callTy call_int1 (by rfl) h_int (by decide +kernel) (pa_cons (pe_op op_pow (pv 4) pe_int) pa_nil)) (pv 3))))))))
    (pss_one (ps_ret (pv 2)))))), ?_⟩
  -- turn, found
  refine ⟨.ref d, rfl, d, _, rfl, sget h1 kvS_turn, _, _, rfl, rfl, _, _, rfl, ?_⟩
  -- state['turn'] = turn
  refine ⟨_, rfl, _, rfl, d, _, rfl, DPut.k (k := Sum.inr "turn") h1 (by show 4 < sizeLine; decide), ?_⟩
  rw [kvS_putT]
  -- the primes
  refine ⟨by show 3 ≤ sizeLine; decide, fun l hl => ?_⟩
  have nl : ∀ {b o}, (upd H d (.dK (kvS g c r (t + 1)))) b = some o → b ≠ l := fun e => ne_of_none e hl
  have hdl : d ≠ l := nl upd_same
  refine ⟨l, rfl, ⟨_, SqL.of upd_same⟩, for_list (K := K) (a := l) (xs := [.int 2147483579, .int 2147483629, .int 2147483563]) (fun i σ H2 => H2 = upd (upd H d (.dK (kvS g c r (t + 1)))) l (.lst [.int 2147483579, .int 2147483629, .int 2147483563]) ∧
    ∃ (f : Int) (v3 v4 v5 : Option V), σ = [some (.ref d), some (.int (t + 1)), some (.int f), v3, v4, v5]) ⟨rfl, 0, _, _, _, rfl⟩ (fun i σ H2 _ ⟨e, _⟩ => by rw [e]; exact SqL.of upd_same) ?_ ?_⟩
  · rintro i x σ H2 hx ⟨rfl, f, v3, v4, v5, rfl⟩
    obtain ⟨p, rfl, p1, p2⟩ : ∃ p : Int, x = .int p ∧ 2147483563 ≤ p ∧ p ≤ 2147483629 := by
      match i, hx with
      | 0, hx => cases hx; exact ⟨_, rfl, by decide, by decide⟩
      | 1, hx => cases hx; exact ⟨_, rfl, by decide, by decide⟩
      | 2, hx => cases hx; exact ⟨_, rfl, by decide, by decide⟩
    have at1 : (upd (upd H d (.dK (kvS g c r (t + 1)))) l (.lst [.int 2147483579, .int 2147483629, .int 2147483563])) d = some (.dK (kvS g c r (t + 1))) := by rw [upd_ne hdl, upd_same]
    have at2 : (upd (upd H d (.dK (kvS g c r (t + 1)))) l (.lst [.int 2147483579, .int 2147483629, .int 2147483563])) c = some (.lst (cs.map V.int)) := by
      rw [upd_ne (nl (by rw [upd_ne ndc.symm]; exact h3)), upd_ne ndc.symm]
      exact h3
    refine ⟨_, rfl, _, _, rfl, rfl, .inl ⟨by decide, by decide⟩, _, rfl, _, _, rfl, rfl, ⟨by decide, by decide⟩, _, _, rfl, rfl, ?_⟩
    refine ⟨.ref d, rfl, d, _, rfl, sget at1 kvS_cells, c, rfl, ⟨_, SqL.of at2⟩, for_list (K := K) (a := c) (xs := cs.map V.int) (fun i σ H2 => H2 = upd (upd H d (.dK (kvS g c r (t + 1)))) l (.lst [.int 2147483579, .int 2147483629, .int 2147483563]) ∧
      ∃ (b : Int) (v5 : Option V), σ = [some (.ref d), some (.int (t + 1)), some (.int f), some (.int p), some (.int b), v5] ∧ b.natAbs < 2 ^ 64) ⟨rfl, _, _, rfl, ?_⟩ (fun i σ H2 _ ⟨e, _⟩ => by rw [e]; exact SqL.of at2) ?_ ?_⟩
    · show (48271 * (t + 1) + Int.fdiv p 53).natAbs < 2 ^ 64
      rw [Int.fdiv_eq_ediv_of_nonneg _ (by decide)]
      omega
    · rintro j y σ H3 hy ⟨rfl, b, v5, rfl, hb⟩
      obtain ⟨z, rfl⟩ : ∃ z, y = V.int z := by
        rw [List.getElem?_map] at hy
        cases e : cs[j]? with
        | none => rw [e] at hy; cases hy
        | some z => rw [e] at hy; exact ⟨z, (Option.some.inj hy).symm⟩
      refine ⟨_, rfl, _, _, rfl, rfl, .inr ⟨by decide, by decide⟩, _, rfl, _, _, rfl, rfl, _, rfl, _, _, rfl, rfl, .inl ⟨_, rfl, ?_⟩⟩
      refine ⟨_, rfl, _, _, rfl, rfl, by omega, ?_⟩
      refine ⟨rfl, _, _, rfl, ?_⟩
      obtain ⟨q1, q2⟩ := fmod_in (b * 69621 + z + (t + 1)) (show 0 < p by omega)
      omega
    · rintro σ H3 ⟨rfl, b, v5, rfl, hb⟩
      refine ⟨_, rfl, _, _, rfl, rfl, .inr ⟨by decide, by decide⟩, _, rfl, _, _, rfl, rfl, ⟨by decide, by decide, hb⟩, .inl ⟨_, rfl, ?_⟩⟩
      exact ⟨_, rfl, _, _, rfl, rfl, by omega, _, _, rfl, rfl, rfl, _, _, _, _, rfl⟩
  · rintro σ H2 ⟨rfl, f, v3, v4, v5, rfl⟩
    refine ⟨_, rfl, k f _ ⟨gs, cs, r, t + 1, by rw [upd_ne hdl, upd_same], ?_, ?_, h4, h5, by omega, by omega⟩ fun b o e n1 n2 => ?_⟩
    · rw [upd_ne (nl (by rw [upd_ne ndg.symm]; exact h2)), upd_ne ndg.symm]; exact h2
    · rw [upd_ne (nl (by rw [upd_ne ndc.symm]; exact h3)), upd_ne ndc.symm]; exact h3
    · have e' : (upd H d (.dK (kvS g c r (t + 1)))) b = some o := by rw [upd_ne n1]; exact e
      rw [upd_ne (nl e')]; exact e'
/-! draw -/
def spDraw : Sp := fun vs H Q _ => ∃ (d g c : Addr) (n : Nat) (room : Int), vs = [.ref d, .int room] ∧ St H d g c (n + 1) ∧ 0 < room ∧ room.natAbs < 2 ^ 9000 ∧ ∀ (z : Int) H', 0 ≤ z → z < room → St H' d g c n → Kp d g H H' → Q (.int z) H'
theorem sc_draw : FnScope ["state", "room", "found"] ["state", "room"] (defScope sL_draw) := ⟨rfl, rfl, rfl, by decide +kernel, rfl, by decide +kernel, by decide +kernel⟩
theorem ok_draw (D : Dn K mg "_law_draw" sL_draw) (B : Ok P w K mg base L2.CX0 1 "_law_blended" ["state"] spBlended) (h_int : mg "int" = none) : Ok P w K mg base L2.CX0 2 "_law_draw" ["state", "room"] spDraw := by
  obtain ⟨fB, fdB, g_blended, k_blended, b_blended, F_blended⟩ := B.ex
  refine Ok.mk0 D sc_draw (fun vs H Q E h => ?_) (fun _ _ _ _ _ _ us hl => match us, hl with | [_, _], _ => rfl) (fun f cdv A outer s H vs Q E hr h => ?_)
  · obtain ⟨d, g, c, n, room, rfl, _⟩ := h
    rfl
  obtain ⟨d, g, c, n, room, rfl, hS, hpos, hbits, k⟩ := h
  have hu := hu_of hr
  have hu64 := hr.units
  have nd := sc_draw.nd
  obtain ⟨gs, cs, r, t, h1, h2, h3, h4, h5, h6, h7⟩ := id hS
  have ndg : d ≠ g := hS.ne
  have ndc : d ≠ c := ne_of h1 h3 (by intro z; cases z)
  refine ⟨_, (C8.pss_cut (ps_if (pt_cmpR op_eq (pe_dget hu (pv 0) pe_str (fun _ _ => rfl)) pe_int (nomark _))
      (pss_one (ps_dput hu (pv 0) pe_str (pe_ifExp (pt_cmpR (op_neD hu64) (pe_dget hu (pv 0) pe_str (fun _ _ => rfl)) (pe_lst pa_nil) (nomark _)) (pe_bm PySem.F.plainAttrs_list PySem.F.slot_list_pop PySem.F.type_list_pop mt_popAt (pe_dget hu (pv 0) pe_str (fun _ _ => rfl)) (pa_cons pe_int pa_nil)) (pe_call F_blended hr rfl g_blended k_blended b_blended .nil pass0 (pa_cons (pv 0) pa_nil))) rfl))
      pss_nil)
    (pss_cons (ps_set (i := 2) nd rfl (Or.inl rfl) (pe_op op_modN (pe_callTy call_int1 (by rfl) h_int (by decide +kernel) (pa_cons (pe_dget hu (pv 0) pe_str (fun _ _ => rfl)) pa_nil)) (pv 1)))
    (pss_cons (ps_dput hu (pv 0) pe_str (pe_op op_fdivW (pe_dget hu (pv 0) pe_str (fun _ _ => rfl)) (pv 1)) rfl)
    (pss_one (ps_ret (pv 2)))))), ?_⟩
  refine ⟨fun σ H1 => σ = [some (.ref d), some (.int room), none] ∧ St H1 d g c n ∧ Kp d g H H1, ?_, ?_⟩
  · -- the rest is 0
    refine ⟨.ref d, rfl, d, _, rfl, sget h1 kvS_rest, rfl, _, rfl, ?_⟩
    refine ite2 (fun _ => ?_) (fun _ => ?_)
    · refine ⟨.ref d, rfl, d, _, rfl, sget h1 kvS_great, by decide, fun l hl => ?_⟩
      have nl : ∀ {b o}, H b = some o → b ≠ l := fun e => ne_of_none e hl
      have s1 : Same H (upd H l (.lst [])) := fun b o e => by rw [upd_ne (nl e)]; exact e
      have g1 : (upd H l (.lst [])) g = some (.lst (gs.map V.int)) := s1 _ _ h2
      have d1 : (upd H l (.lst [])) d = some (.dK (kvS g c r t)) := s1 _ _ h1
      refine ⟨.list (gs.map PyData.int), .list [], .lst (SqL.of g1) (dpAll_ints gs), .lst (SqL.of upd_same) .nil, (sh_list (n := 0) fun d hd => ?_).shaped (by decide), (sh_list (n := 0) fun d hd => absurd hd (by simp)).shaped (by decide), _, rfl, ?_⟩
      · obtain ⟨i, _, rfl⟩ := List.mem_map.mp hd
        exact sh_int i
      rw [eqv_nil]
      cases gs with
      | nil =>
        refine iteF ?_
        refine ⟨.ref d, rfl, d, g, c, n, rfl, hS.same s1, fun z H2 S2 k2 => ?_⟩
        obtain ⟨gs', cs', r', t', a1, a2, a3, a4, a5, a6, a7⟩ := S2
        refine ⟨_, rfl, d, _, rfl, DPut.k (k := Sum.inr "rest") a1 (by show 4 < sizeLine; decide), ?_⟩
        rw [kvS_putR]
        exact ⟨rfl, ⟨gs', cs', z, t', upd_same, by rw [upd_ne ndg.symm]; exact a2, by rw [upd_ne (fun e => by rw [e, a1] at a3; cases a3)]; exact a3, a4, a5, a6, a7⟩, fun b o e n1 n2 => by rw [upd_ne n1]; exact k2 b o (s1 b o e) n1 n2⟩
      | cons z zs =>
        refine iteT ?_
        refine ⟨.ref d, rfl, d, _, rfl, sget d1 kvS_great, .inl ⟨rfl, _, SqL.of g1⟩, g, _, 0, 0, .int z, rfl, rfl, g1, by decide, by decide, idx0 (by simp), rfl, ?_⟩
        refine ⟨_, rfl, d, _, rfl, DPut.k (k := Sum.inr "rest") (by rw [upd_ne ndg]; exact d1) (by show 4 < sizeLine; decide), ?_⟩
        rw [kvS_putR]
        exact ⟨rfl, ⟨zs, cs, z, t, upd_same, by rw [upd_ne ndg.symm, upd_same]; rfl, by rw [upd_ne ndc.symm, upd_ne h4]; exact s1 _ _ h3, h4, h5, h6, by omega⟩, fun b o e n1 n2 => by rw [upd_ne n1, upd_ne n2]; exact s1 b o e⟩
    · exact ⟨rfl, hS.less (by omega), Kp.refl H⟩
  · rintro σ H1 ⟨rfl, hS1, kp⟩
    obtain ⟨gs, cs, r, t, h1, h2, h3, h4, h5, h6, h7⟩ := hS1
    have ndc : d ≠ c := ne_of h1 h3 (by intro z; cases z)
    refine ⟨.ref d, rfl, d, _, rfl, sget h1 kvS_rest, .inl ⟨_, rfl, _, rfl, _, _, rfl, rfl, by omega, ?_⟩⟩
    refine ⟨.ref d, rfl, d, _, rfl, sget h1 kvS_rest, _, rfl, _, _, rfl, rfl, wide_div hpos hbits (by decide) (by decide), _, rfl, d, _, rfl, DPut.k (k := Sum.inr "rest") h1 (by show 4 < sizeLine; decide), ?_⟩
    rw [kvS_putR]
    obtain ⟨q1, q2⟩ := fmod_in r hpos
    exact ⟨_, rfl, k _ _ q1 q2 ⟨gs, cs, r / room, t, upd_same, by rw [upd_ne ndg.symm]; exact h2, by rw [upd_ne ndc.symm]; exact h3, h4, h5, h6, h7⟩ fun b o e n1 n2 => by rw [upd_ne n1]; exact kp b o e n1 n2⟩
/-! pick -/
theorem Kp.tk {d g c : Addr} {H H' : Hp} {n : Nat} (e : Kp d g H H') (S : St H d g c n) : TK H H' := by
  obtain ⟨gs, cs, r, t, h1, h2, _⟩ := S
  exact ⟨fun b xs q => e _ _ q (ne_of q h1 (by intro z; cases z)) (ne_of q h2 (by intro z; cases z)), fun b o u q => e _ _ q (ne_of q h1 (by intro z; cases z)) (ne_of q h2 (by intro z; cases z))⟩
theorem Kp.seq {K : PySem.W.Frag} {d g c a : Addr} {H H' : Hp} {n : Nat} {xs : List V} (e : Kp d g H H') (S : St H d g c n) (na : a ≠ g) (h : SqL K H a xs) : SqL K H' a xs := by
  obtain ⟨gs, cs, r, t, h1, h2, _⟩ := S
  rcases h with (h | ⟨o, h⟩) | h
  · exact .inl (.inl (e _ _ h (ne_of h h1 (by intro z; cases z)) na))
  · exact .inl (.inr ⟨o, e _ _ h (ne_of h h1 (by intro z; cases z)) na⟩)
  · exact .inr h
theorem Kp.new {d g a : Addr} {H H' : Hp} {o : HO} (e : Kp d g H H') (n : H a = none) : Kp d g H (upd H' a o) := fun b u q n1 n2 => by
  rw [upd_ne (ne_of_none q n)]
  exact e b u q n1 n2
def spPick (K : PySem.W.Frag) : Sp := fun vs H Q _ => ∃ (d g c a : Addr) (n : Nat) (xs : List V), vs = [.ref d, .ref a] ∧ St H d g c (n + 1) ∧ SqL K H a xs ∧ a ≠ g ∧ 0 < xs.length ∧ xs.length ≤ 100000 ∧
  ∀ (i : Nat) (x : V) H', xs[i]? = some x → St H' d g c n → Kp d g H H' → Q x H'
theorem sc_pick : FnScope ["state", "some"] ["state", "some"] (defScope sL_pick) := ⟨rfl, rfl, rfl, by decide +kernel, rfl, by decide +kernel, by decide +kernel⟩
theorem small9000 {n : Nat} (h : n ≤ 100000) : (n : Int).natAbs < 2 ^ 9000 := Nat.lt_of_lt_of_le (show n < 2 ^ 17 by omega) (Nat.pow_le_pow_right (by decide) (by decide))
theorem ok_pick (D : Dn K mg "_law_pick" sL_pick) (B : Ok P w K mg base L2.CX0 2 "_law_draw" ["state", "room"] spDraw) (h_len : mg "len" = none) : Ok P w K mg base L2.CX0 3 "_law_pick" ["state", "some"] (spPick K) := by
  obtain ⟨fB, fdB, g_draw, k_draw, b_draw, F_draw⟩ := B.ex
  refine Ok.mk0 D sc_pick (fun vs H Q E h => ?_) (fun _ _ _ _ _ _ us hl => match us, hl with | [_, _], _ => rfl) (fun f cdv A outer s H vs Q E hr h => ?_)
  · obtain ⟨d, g, c, a, n, xs, rfl, _⟩ := h
    rfl
  obtain ⟨d, g, c, a, n, xs, rfl, hS, hxs, na, h0, hm, k⟩ := h
  refine ⟨_, (pss_one (ps_ret (pe_ix ix_list (pv 1) (pe_call F_draw hr rfl g_draw k_draw b_draw .nil pass0 (pa_cons (pv 0) (pa_cons (pe_callB call_len_seq (by rfl) h_len (by decide +kernel) (pa_cons (pv 1) pa_nil)) pa_nil))) (fun _ _ => rfl)))), ?_⟩
  refine ⟨.ref a, rfl, .ref d, rfl, .ref a, rfl, a, xs, rfl, .inl hxs, d, g, c, n, _, rfl, hS, by omega, small9000 hm, fun z H' z0 z1 S' kp => ?_⟩
  obtain ⟨i, rfl⟩ := Int.eq_ofNat_of_zero_le z0
  have hi : i < xs.length := by omega
  exact ⟨a, xs, _, xs[i], rfl, rfl, kp.seq hS na hxs, atI_nat (List.getElem?_eq_getElem hi), k i _ H' (List.getElem?_eq_getElem hi) S' kp⟩
/-! shuffled -/
def spShuffled (K : PySem.W.Frag) : Sp := fun vs H Q _ => ∃ (d g c a : Addr) (n : Nat) (xs : List V) (ds : List PyData), vs = [.ref d, .ref a] ∧ St H d g c (n + xs.length) ∧ SqL K H a xs ∧ DtAll K H xs ds ∧ (∀ x ∈ ds, Sh 60 x) ∧ xs.length ≤ 100000 ∧
  ∀ (l : Addr) (ys : List V) H', ys.Perm xs → H l = none → H' l = some (.lst ys) → St H' d g c n → Kp d g H H' → Q (.ref l) H'
theorem sc_shuffled : FnScope ["state", "some", "left", "found"] ["state", "some"] (defScope sL_shuffled) := ⟨rfl, rfl, rfl, by decide +kernel, rfl, by decide +kernel, by decide +kernel⟩
theorem erase_perm {α : Type} {x : α} : ∀ {l : List α} {i : Nat}, l[i]? = some x → (x :: l.eraseIdx i).Perm l
  | [], _, h => by simp at h
  | y :: r, 0, h => by cases h; exact List.Perm.refl _
  | y :: r, i + 1, h => (List.Perm.swap y x _).trans ((erase_perm (l := r) (i := i) h).cons y)
theorem ok_shuffled (D : Dn K mg "_law_shuffled" sL_shuffled) (B : Ok P w K mg base L2.CX0 2 "_law_draw" ["state", "room"] spDraw) (h_len : mg "len" = none) (h_list : mg "list" = none) :
    Ok P w K mg base L2.CX0 3 "_law_shuffled" ["state", "some"] (spShuffled K) := by
  obtain ⟨fB, fdB, g_draw, k_draw, b_draw, F_draw⟩ := B.ex
  refine Ok.mk0 D sc_shuffled (fun vs H Q E h => ?_) (fun _ _ _ _ _ _ us hl => match us, hl with | [_, _], _ => rfl) (fun f cdv A outer s H vs Q E hr h => ?_)
  · obtain ⟨d, g, c, a, n, xs, ds, rfl, _⟩ := h
    rfl
  obtain ⟨d, g, c, a, n, xs, ds, rfl, hS, hxs, hds, hsh, hm, k⟩ := h
  have hu := hu_of hr
  have hu64 := hr.units
  have nd := sc_shuffled.nd
  refine ⟨_, (pss_cons (ps_par (i := 2) (j := 3) (by rfl) nd rfl rfl (by decide) rfl rfl (pa_cons (pe_callTy call_list_of (by rfl) h_list (by decide +kernel) (pa_cons (pv 1) pa_nil)) (pa_cons (pe_lst pa_nil) pa_nil)) (by rfl))
    (pss_cons (ps_while PassesOwn.never (pt_cmpR (op_neD hu64) (pv 2) (pe_lst pa_nil) (nomark _))
      (pss_one (ps_expr (pe_bm PySem.F.plainAttrs_list PySem.F.slot_list_append PySem.F.type_list_append mt_append (pv 3) (pa_cons (pe_bm PySem.F.plainAttrs_list PySem.F.slot_list_pop PySem.F.type_list_pop mt_popAt (pv 2) (pa_cons (pe_call F_draw hr rfl g_draw k_draw b_draw .nil pass0 (pa_cons (pv 0) (pa_cons (pe_callB call_len_seq (by rfl) h_len (by decide +kernel) (pa_cons (pv 2) pa_nil)) pa_nil))) pa_nil)) pa_nil)))))
    (pss_one (ps_ret (pv 3))))), ?_⟩
  refine ⟨.ref a, rfl, a, xs, rfl, .inl hxs, fun L hL => ⟨by decide, fun F hF => ⟨_, _, rfl, ?_⟩⟩⟩
  have nFL : F ≠ L := fun e => by rw [e, upd_same] at hF; cases hF
  have hF0 : H F = none := by rw [upd_ne nFL] at hF; exact hF
  have base0 : ∀ {b o}, H b = some o → (upd (upd H L (.lst xs)) F (.lst [])) b = some o := fun e => by rw [upd_ne (ne_of_none e hF0), upd_ne (ne_of_none e hL)]; exact e
  refine while_by (fun σ H1 => ∃ (ls fs : List V) (es : List PyData), σ = [some (.ref d), some (.ref a), some (.ref L), some (.ref F)] ∧ H1 L = some (.lst ls) ∧ H1 F = some (.lst fs) ∧ (fs ++ ls).Perm xs ∧ St H1 d g c (n + ls.length) ∧ Kp d g H H1 ∧
      DtAll K H1 ls es ∧ (∀ x ∈ es, Sh 60 x)) (fun _ H1 => match H1 L with | some (.lst ls) => ls.length | _ => 0) ?_ ?_ ?_
  · exact ⟨xs, [], ds, rfl, by rw [upd_ne nFL.symm, upd_same], upd_same, by simp, hS.same fun b o e => base0 e, Kp.of fun b o e => base0 e, hds.keep (.of fun b o e => base0 e), hsh⟩
  · rintro σ H1 ⟨ls, fs, es, rfl, eL, eF, pm, S1, kp, des, esh⟩
    have ll : ls.length + fs.length = xs.length := by have := pm.length_eq; simp at this; omega
    refine ⟨.ref L, rfl, by decide, fun z hz => ?_⟩
    have sz : Same H1 (upd H1 z (.lst [])) := fun b o e => by rw [upd_ne (ne_of_none e hz)]; exact e
    refine ⟨.list es, .list [], .lst (SqL.of (sz _ _ eL)) (dpAll_same sz des.dp), .lst (SqL.of upd_same) .nil, (sh_list esh).shaped (by decide), (sh_list (n := 0) fun d hd => absurd hd (by simp)).shaped (by decide), _, rfl, ?_⟩
    rw [eqv_nil]
    cases des with
    | nil =>
      refine iteF ⟨.ref F, rfl, ?_⟩
      have eF' := sz _ _ eF
      exact k F fs _ (by simpa using pm) hF0 eF' (S1.less (by omega) |>.same sz) fun b o e n1 n2 => sz _ _ (kp b o e n1 n2)
    | @cons v vs e es' dv dvs =>
      refine iteT ?_
      have S2 := S1.same sz
      have nLg : L ≠ g := fun q => by
        obtain ⟨gs, cs, r, t, q1, q2, _⟩ := hS
        rw [q, q2] at hL
        cases hL
      have nFg : F ≠ g := fun q => by
        obtain ⟨gs, cs, r, t, q1, q2, _⟩ := hS
        rw [q, q2] at hF0
        cases hF0
      have nLd : L ≠ d := fun q => by
        obtain ⟨gs, cs, r, t, q1, q2, _⟩ := hS
        rw [q, q1] at hL
        cases hL
      have nFd : F ≠ d := fun q => by
        obtain ⟨gs, cs, r, t, q1, q2, _⟩ := hS
        rw [q, q1] at hF0
        cases hF0
      refine ⟨.ref F, rfl, .inl ⟨rfl, _, SqL.of (sz _ _ eF)⟩, .ref L, rfl, .inl ⟨rfl, _, SqL.of (sz _ _ eL)⟩, .ref d, rfl, .ref L, rfl, L, _, rfl, .inl (SqL.of (sz _ _ eL)), d, g, c, n + vs.length, _, rfl, S2.less (by simp only [List.length_cons]; omega), by simp, small9000 (by simp at ll ⊢; omega), fun z' H2 z0 z1 S3 kp3 => ?_⟩
      obtain ⟨i, rfl⟩ := Int.eq_ofNat_of_zero_le z0
      have hi : i < (v :: vs).length := by omega
      have e2L : H2 L = some (.lst (v :: vs)) := kp3 _ _ (sz _ _ eL) nLd nLg
      have e2F : H2 F = some (.lst fs) := kp3 _ _ (sz _ _ eF) nFd nFg
      refine ⟨L, _, _, i, (v :: vs)[i], rfl, rfl, e2L, by omega, by simp at hi ll; omega, idxN hi, List.getElem?_eq_getElem hi, ?_⟩
      refine ⟨F, fs, _, rfl, rfl, by rw [upd_ne nFL]; exact e2F, by simp at ll; rw [sizeLine_eq]; omega, ?_⟩
      have t2 : TK H1 H2 := (TK.of sz).trans (kp3.tk S2)
      have tk : TK H1 (upd (upd H2 L (.lst ((v :: vs).eraseIdx i))) F (.lst (fs ++ [(v :: vs)[i]]))) := t2.trans ((TK.lst e2L).trans (TK.lst (by rw [upd_ne nFL]; exact e2F)))
      have lene : ((v :: vs).eraseIdx i).length = vs.length := by rw [List.length_eraseIdx_of_lt hi]; simp
      refine ⟨⟨(v :: vs).eraseIdx i, fs ++ [(v :: vs)[i]], (e :: es').eraseIdx i, rfl, by rw [upd_ne nFL.symm, upd_same], upd_same, ?_, ?_, fun b o q n1 n2 => ?_, ?_, fun x hx => esh x (List.mem_of_mem_eraseIdx hx)⟩, ?_⟩
      · refine List.Perm.trans ?_ pm
        rw [List.append_assoc]
        exact (erase_perm (List.getElem?_eq_getElem hi)).append_left fs
      · rw [lene]
        have nLc : L ≠ c := fun q => by
          obtain ⟨gs, cs, r, t, q1, q2, q3, _⟩ := hS
          rw [q, q3] at hL
          cases hL
        have nFc : F ≠ c := fun q => by
          obtain ⟨gs, cs, r, t, q1, q2, q3, _⟩ := hS
          rw [q, q3] at hF0
          cases hF0
        obtain ⟨gs, cs, r, t, q1, q2, q3, q4, q5, q6, q7⟩ := S3
        have away : ∀ {b}, b ≠ L → b ≠ F → (upd (upd H2 L (.lst ((v :: vs).eraseIdx i))) F (.lst (fs ++ [(v :: vs)[i]]))) b = H2 b := fun n1 n2 => by rw [upd_ne n2, upd_ne n1]
        exact ⟨gs, cs, r, t, by rw [away nLd.symm nFd.symm]; exact q1, by rw [away nLg.symm nFg.symm]; exact q2, by rw [away nLc.symm nFc.symm]; exact q3, q4, q5, q6, q7⟩
      · rw [upd_ne (ne_of_none q hF0), upd_ne (ne_of_none q hL)]
        exact kp3 _ _ (sz _ _ (kp b o q n1 n2)) n1 n2
      · exact (DtAll.cons dv dvs).erase i |>.keep tk
      · show (match (upd (upd H2 L _) F _) L with | some (.lst ls) => ls.length | _ => 0) < (match H1 L with | some (.lst ls) => ls.length | _ => 0)
        rw [upd_ne nFL.symm, upd_same, eL]
        show ((v :: vs).eraseIdx i).length < (v :: vs).length
        rw [lene]
        simp
  · intro σ H1 Q1 Q2 m h
    obtain ⟨v, e, h1, h2⟩ := h
    refine ⟨v, e, h1, fun z hz => ?_⟩
    obtain ⟨d1, d2, a1, a2, a3, a4, b, a5, a6⟩ := h2 z hz
    exact ⟨d1, d2, a1, a2, a3, a4, b, a5, m _ _ a6⟩
end
end K17
set_option maxHeartbeats 4000000
/-! isinstance of data; comprehensions whose element is told apart -/
namespace Hx
open PySem PySem.Spec PyProof.Rows L2
inductive Tg | non | bl | int | str | tup | lst
  deriving DecidableEq
def tagOf : PyData → Tg
  | .none => .non
  | .bool _ => .bl
  | .int _ => .int
  | .str _ => .str
  | .tuple _ => .tup
  | .list _ => .lst
  | .dict _ => .lst
def isTy : Tg → String → Bool
  | .non, _ => false
  | .bl, T => T == "bool" || T == "int"
  | .int, T => T == "int"
  | .str, T => T == "str"
  | .tup, T => T == "tuple"
  | .lst, T => T == "list"
def tgN : Tg → String
  | .non => "NoneType"
  | .bl => "bool"
  | .int => "int"
  | .str => "str"
  | .tup => "tuple"
  | .lst => "list"
theorem tg_kit {K : PySem.W.Frag} (g : Tg) {T : String} (h : T = "int" ∨ T = "bool" ∨ T = "str" ∨ T = "tuple" ∨ T = "list") : PySem.W.kitOne K (.type (tgN g)) (.type T) = some (isTy g T) := by
  rcases h with rfl | rfl | rfl | rfl | rfl <;> cases g <;> exact kit_ty (by decide +kernel)
theorem tyX_dp {K : PySem.W.Frag} {H : Hp} {v : V} {d : PyData} (h : Dp K H v d) : TyX K H v (.type (tgN (tagOf d))) := by
  cases h with
  | non => exact .base .non
  | bl b => exact .base (.bl b)
  | int i => exact .base (.int i)
  | str x => exact .base (.str x)
  | lst h r =>
    rcases h with (h | ⟨o, h⟩) | ⟨o, _, _, h, c, _⟩
    · exact .base (.lst h)
    · exact .base (.frz h)
    · exact .kList h c
  | tup h r =>
    rcases h with (h | ⟨o, h⟩) | ⟨o, _, _, h, c, _⟩
    · exact .base (.tup h)
    · exact .fTuple h
    · exact .kTuple h c
/-- isinstance(x, T), x data -/
def rIsD (K : PySem.W.Frag) : List V → Hp → VK → Prop := fun xs H Q => ∃ (x : V) (d : PyData) (T : String), xs = [x, .ty T] ∧ Dp K H x d ∧ (T = "int" ∨ T = "bool" ∨ T = "str" ∨ T = "tuple" ∨ T = "list") ∧ Q (.bl (isTy (tagOf d) T)) H
theorem call_isD {X : Cx} : CallR X (.builtin "isinstance") (rIsD X.K) := by
  intro pins s σ H xs us Q I r h
  obtain ⟨x, d, T, rfl, hd, hT, q⟩ := h
  exact call_isi pins s σ H _ us Q I r ⟨x, .ty T, _, .type T, _, rfl, .ty T, tyX_dp hd, tg_kit _ hT, q⟩
/-- isinstance(e, T) -/
def tIsD (K : PySem.W.Frag) (T : String) (te : TE) : TE := fun σ H Q => te σ H fun x H1 => ∃ d, Dp K H1 x d ∧ Q (.bl (isTy (tagOf d) T)) H1
theorem pe_isD {X : Cx} {K : PySem.W.Frag} (T : String) {e : Expr} {te : TE} {p p2 pos : Pos} (hK : X.K = K) (hm : X.mg "isinstance" = none) (hm2 : X.mg (Str.ofString T) = none) (he : PE X e te)
    (hT : T = "int" ∨ T = "bool" ∨ T = "str" ∨ T = "tuple" ∨ T = "list" := by decide) (hg : Gl X "isinstance" := by rfl) (hg2 : Gl X (Str.ofString T) := by rfl) (hv : bootBuiltins (Str.ofString T) = some (.type T) := by decide +kernel)
    (hn2 : Str.ofString T ≠ "__name__" := by decide) (hd2 : (Str.ofString T == ("__debug__" : Str)) = false := by decide) (hs : starEach [e, .Name (Str.ofString T) p2] X.env = (false, eval e X.env) :: starEach [.Name (Str.ofString T) p2] X.env := by rfl)
    (hs2 : starEach [.Name (Str.ofString T) p2] X.env = (false, eval (.Name (Str.ofString T) p2) X.env) :: starEach [] X.env := by rfl) (hpl : (backTo pos (starEach [.Name (Str.ofString T) p2] X.env)).any (·.1) = false := by rfl) :
    PE X (.Call (.Name "isinstance" p) [e, .Name (Str.ofString T) p2] [] pos) (tIsD K T te) := by
  subst hK
  have q := pe_callB (X := X) (x := "isinstance") (p := p) (pos := pos) (call_isD (X := X)) hg hm (by decide +kernel) (pa_cons he (pa_cons (pe_bltn (v := .ty T) (pos := p2) hg2 hm2 hv rfl hn2 hd2) pa_nil hs2) hs) (he := hs) (hpl := hpl)
  refine ⟨fun pins s σ H Q I h => q.run pins s σ H Q I ?_⟩
  have e0 : (fun (x : V) (H1 : Hp) => ∃ d, Dp X.K H1 x d ∧ Q (.bl (isTy (tagOf d) T)) H1) = fun (x : V) (H1 : Hp) => rIsD X.K [x, .ty T] H1 Q := funext fun x => funext fun H1 => propext
    ⟨fun ⟨d, a, b⟩ => ⟨x, d, T, rfl, a, hT, b⟩, fun ⟨x', d, T', e, a, _, b⟩ => by
      simp only [List.cons.injEq, V.ty.injEq, and_true] at e
      obtain ⟨rfl, rfl⟩ := e
      exact ⟨d, a, b⟩⟩
  show te σ H (fun x H1 => rIsD X.K [x, .ty T] H1 Q)
  rw [← e0]
  exact h
/-- len(e), e a list or a tuple -/
def tLenS (K : PySem.W.Frag) (te : TE) : TE := fun σ H Q => te σ H fun x H1 => ∃ p ys, x = .ref p ∧ (SqL K H1 p ys ∨ SqT K H1 p ys) ∧ Q (.int ys.length) H1
theorem pe_lenS {X : Cx} {K : PySem.W.Frag} {e : Expr} {te : TE} {p pos : Pos} (hK : X.K = K) (hm : X.mg "len" = none) (he : PE X e te) (hg : Gl X "len" := by rfl)
    (hs : starEach [e] X.env = (false, eval e X.env) :: starEach [] X.env := by rfl) (hpl : (backTo pos (starEach [] X.env)).any (·.1) = false := by rfl) : PE X (.Call (.Name "len" p) [e] [] pos) (tLenS K te) := by
  subst hK
  have q := pe_callB (X := X) (x := "len") (p := p) (pos := pos) (call_len_seq (X := X)) hg hm (by decide +kernel) (pa_cons he pa_nil hs) (he := hs) (hpl := hpl)
  refine ⟨fun pins s σ H Q I h => q.run pins s σ H Q I ?_⟩
  have e0 : (fun (x : V) (H1 : Hp) => ∃ p ys, x = .ref p ∧ (SqL X.K H1 p ys ∨ SqT X.K H1 p ys) ∧ Q (.int ys.length) H1) = fun (x : V) (H1 : Hp) => (∃ p ys, [x] = [V.ref p] ∧ (SqL X.K H1 p ys ∨ SqT X.K H1 p ys) ∧ Q (.int ys.length) H1) :=
    funext fun x => funext fun H1 => by simp only [List.cons.injEq, and_true]
  show te σ H (fun x H1 => (∃ p ys, [x] = [V.ref p] ∧ (SqL X.K H1 p ys ∨ SqT X.K H1 p ys) ∧ Q (.int ys.length) H1))
  rw [← e0]
  exact h
/-! ### comprehensions whose turns keep all that stands -/
section
variable {J : It} {n : Nat} {g : TG} {tt : TT} {te : TE} {vs : List Nat} {σ : L2.St} {H1 : Hp} {D : Addr} {Qd : Hp → Prop}
abbrev LcGoal (J : It) (g : TG) (tt : TT) (te : TE) (vs : List Nat) (σ : L2.St) (H1 : Hp) (D : Addr) (Qd : Hp → Prop) : Prop := ∃ W : Nat → Nat → Hp → Prop, (∃ m, W 0 m (upd H1 D (.lst []))) ∧ ∀ i m H, W i m H →
  (J.stop i H ∧ Qd H) ∨ (J.go i H ∧ ∃ Nx : Hp → Prop, (∀ H', Nx H' → ∃ m', m' < m ∧ W (i + 1) m' H') ∧ ∀ x H', J.yld i H x H' → g x (wipe σ vs) H' fun σ2 H2 => wipe σ2 vs = wipe σ vs ∧ tt σ2 H2 fun b H3 =>
    if b = true then te σ2 H3 fun y H4 => ∃ acc, H4 D = some (.lst acc) ∧ acc.length < sizeLine ∧ Nx (upd H4 D (.lst (acc ++ [y]))) else Nx H3)
theorem lc_any (Pv : Nat → Hp → Prop) (h0 : Pv 0 (upd H1 D (.lst []))) (go : ∀ i H, i < n → Pv i H → J.go i H) (stop : ∀ H, Pv n H → J.stop n H)
    (turn : ∀ i x H H', i < n → Pv i H → J.yld i H x H' → g x (wipe σ vs) H' fun σ2 H2 => wipe σ2 vs = wipe σ vs ∧ tt σ2 H2 fun b H3 =>
      if b = true then te σ2 H3 fun y H4 => ∃ acc, H4 D = some (.lst acc) ∧ acc.length < sizeLine ∧ Pv (i + 1) (upd H4 D (.lst (acc ++ [y]))) else Pv (i + 1) H3)
    (hd : ∀ H, Pv n H → Qd H) : LcGoal J g tt te vs σ H1 D Qd := by
  refine ⟨fun i m H => m = n - i ∧ i ≤ n ∧ Pv i H, ⟨n, by simp, Nat.zero_le _, h0⟩, ?_⟩
  rintro i m H ⟨rfl, hi, p⟩
  by_cases hlt : i < n
  · exact .inr ⟨go i H hlt p, Pv (i + 1), fun H' p' => ⟨n - (i + 1), by omega, rfl, hlt, p'⟩, fun x H' y => turn i x H H' hlt p y⟩
  · obtain rfl : i = n := by omega
    exact .inl ⟨stop H p, hd H p⟩
/-- .. and no test: the items by what they are -/
theorem lc_rel (Y : Nat → V → Hp → Prop) (hY : ∀ i y H H', TK H H' → Y i y H → Y i y H') (hn : H1 D = none) (hsz : n < sizeLine) (go : ∀ i H, i < n → Same H1 H → J.go i H) (stop : ∀ H, Same H1 H → J.stop n H)
    (turn : ∀ (i : Nat) (x : V) (H H' : Hp) (F : VK), i < n → Same H1 H → J.yld i H x H' → (∀ y H4, Y i y H4 → Same H H4 → F y H4) → g x (wipe σ vs) H' fun σ2 H2 => wipe σ2 vs = wipe σ vs ∧ te σ2 H2 F)
    (hd : ∀ acc H, Same H1 H → H D = some (.lst acc) → acc.length = n → (∀ i y, acc[i]? = some y → Y i y H) → Qd H) : LcGoal J g tYes te vs σ H1 D Qd := by
  have s1 : ∀ {H : Hp} {o : HO}, Same H1 H → Same H1 (upd H D o) := fun s b u e => by rw [upd_ne (ne_of_none e hn)]; exact s b u e
  refine lc_any (fun i H => ∃ acc, Same H1 H ∧ H D = some (.lst acc) ∧ acc.length = i ∧ ∀ j y, acc[j]? = some y → Y j y H) ⟨[], s1 (Same.refl H1), upd_same, rfl, fun j y e => by simp at e⟩ (fun i H hi ⟨_, s, _⟩ => go i H hi s) (fun H ⟨_, s, _⟩ => stop H s) ?_ fun H ⟨acc, s, e, l, k⟩ => hd acc H s e l k
  rintro i x H H' hi ⟨acc, s, e, l, k⟩ y
  have q := turn i x H H' (fun y H4 => ∃ acc, H4 D = some (.lst acc) ∧ acc.length < sizeLine ∧ ∃ acc', Same H1 (upd H4 D (.lst (acc ++ [y]))) ∧ (upd H4 D (.lst (acc ++ [y]))) D = some (.lst acc') ∧ acc'.length = i + 1 ∧ ∀ j y', acc'[j]? = some y' → Y j y' (upd H4 D (.lst (acc ++ [y])))) hi s y (fun z H4 yz s4 => ?_)
  · exact q
  have e4 := s4 _ _ e
  refine ⟨acc, e4, by omega, acc ++ [z], s1 (s.trans s4), upd_same, by simp [l], fun j y' ej => ?_⟩
  have tk : TK H4 (upd H4 D (.lst (acc ++ [z]))) := .lst e4
  by_cases hj : j < acc.length
  · rw [List.getElem?_append_left hj] at ej
    exact hY _ _ _ _ ((TK.of s4).trans tk) (k j y' ej)
  · have hj2 : j = acc.length := by
      have := (List.getElem?_eq_some_iff.mp ej).1
      simp at this
      omega
    subst hj2
    simp at ej
    subst ej
    rw [l]
    exact hY _ _ _ _ tk yz
end
end Hx
set_option maxHeartbeats 4000000
namespace K17
open PySem PySem.Spec PyProof.Rows L2 Hx
/-! ### numbers -/
inductive Num | w (i : Int) | q (t b : Int)
  deriving DecidableEq
def Num.data : Num → PyData
  | .w i => .int i
  | .q t b => .tuple [.int t, .int b]
def Num.top : Num → Int
  | .w i => i
  | .q t _ => t
def Num.low : Num → Int
  | .w _ => 1
  | .q _ b => b
def Num.ok : Num → Bool
  | .w _ => true
  | .q t b => decide (2 ≤ b) && decide ((Nat.gcd t.natAbs b.natAbs : Int) = 1)
def NumAt (K : PySem.W.Frag) (H : Hp) (v : V) : Num → Prop
  | .w i => v = .int i
  | .q t b => ∃ a, v = .ref a ∧ SqT K H a [.int t, .int b]
theorem NumAt.dt {K : PySem.W.Frag} {H : Hp} {v : V} : ∀ {n : Num}, NumAt K H v n → Dt K H v n.data
  | .w i, h => by
    obtain rfl : v = .int i := h
    exact .int i
  | .q t b, h => by
    obtain ⟨a, rfl, h⟩ := h
    exact .tup h (.cons (.int t) (.cons (.int b) .nil))
theorem NumAt.keep {K : PySem.W.Frag} {H H' : Hp} {v : V} (e : TK H H') : ∀ {n : Num}, NumAt K H v n → NumAt K H' v n
  | .w i, h => h
  | .q t b, ⟨a, h1, h2⟩ => ⟨a, h1, tk_seqT e h2⟩
def made (t b : Int) : Num := if b / (Nat.gcd t.natAbs b.natAbs : Int) = 1 then .w (t / (Nat.gcd t.natAbs b.natAbs : Int)) else .q (t / (Nat.gcd t.natAbs b.natAbs : Int)) (b / (Nat.gcd t.natAbs b.natAbs : Int))
section
variable {P : Program} {w : World} {K : PySem.W.Frag} {mg : Str → Option Value} {base : Heap}
/-! gcd -/
def spGcd : Sp := fun vs H Q _ => ∃ i j : Int, vs = [.int i, .int j] ∧ Q (.int (Nat.gcd i.natAbs j.natAbs : Nat)) H
theorem sc_ct_gcd : FnScope ["one", "other", "a", "b"] ["one", "other"] (defScope sL_ct_gcd) := ⟨rfl, rfl, rfl, by decide +kernel, rfl, by decide +kernel, by decide +kernel⟩
theorem ok_ct_gcd (D : Dn K mg "_law_ct_gcd" sL_ct_gcd) (h_abs : mg "abs" = none) (h_int : mg "int" = none) : Ok P w K mg base L2.CX0 1 "_law_ct_gcd" ["one", "other"] spGcd := by
  refine Ok.mk0 D sc_ct_gcd (fun vs H Q E h => ?_) (fun _ _ _ _ _ _ us hl => match us, hl with | [_, _], _ => rfl) (fun f cdv A outer s H vs Q E hr h => ?_)
  · obtain ⟨i, j, rfl, _⟩ := h
    rfl
  obtain ⟨i, j, rfl, k⟩ := h
  have nd := sc_ct_gcd.nd
  refine ⟨_, (pss_cons (ps_par (i := 2) (j := 3) (by rfl) nd rfl rfl (by decide) rfl rfl (pa_cons (pe_callB call_abs (by rfl) h_abs (by decide +kernel) (pa_cons (pv 0) pa_nil)) (pa_cons (pe_callB call_abs (by rfl) h_abs (by decide +kernel) (pa_cons (pv 1) pa_nil)) pa_nil)) (by rfl))
    (pss_cons (ps_while PassesOwn.never (pt_cmpR op_ne (pv 3) pe_int (nomark _))
      (pss_one (ps_par (i := 2) (j := 3) (by rfl) nd rfl rfl (by decide) rfl rfl (pa_cons (pv 3) (pa_cons (pe_op op_modN (pe_callTy call_int1 (by rfl) h_int (by decide +kernel) (pa_cons (pv 2) pa_nil)) (pv 3)) pa_nil)) (by rfl))))
    (pss_one (ps_ret (pv 2))))), ?_⟩
  refine ⟨_, rfl, _, rfl, _, rfl, _, rfl, _, _, rfl, ?_⟩
  have ab : ∀ z : Int, (if z < 0 then -z else z) = (z.natAbs : Int) := fun z => by split <;> omega
  rw [ab, ab]
  refine while_by (fun σ H1 => H1 = H ∧ ∃ a b : Nat, σ = [some (.int i), some (.int j), some (.int a), some (.int b)] ∧ Nat.gcd a b = Nat.gcd i.natAbs j.natAbs) (fun σ _ => match σ with | [_, _, _, some (.int b)] => b.natAbs | _ => 0) ⟨rfl, _, _, rfl, rfl⟩ ?_ ?_
  · rintro σ H1 ⟨rfl, a, b, rfl, e⟩
    refine ⟨_, rfl, rfl, _, rfl, ?_⟩
    by_cases hb : b = 0
    · subst hb
      refine iteNS rfl ⟨_, rfl, ?_⟩
      rw [Nat.gcd_zero_right] at e
      rw [e]
      exact k
    · have nb : decide (V.int (b : Int) = V.int 0) = false := decide_eq_false fun q => hb (by have := V.int.inj q; omega)
      rw [nb]
      refine iteT ⟨_, rfl, _, rfl, .inl ⟨_, rfl, _, rfl, _, _, rfl, rfl, by omega, _, _, rfl, ?_⟩⟩
      have em : (a : Int).fmod b = ((a % b : Nat) : Int) := by rw [Int.fmod_eq_emod_of_nonneg _ (by omega)]; rfl
      refine ⟨⟨rfl, b, a % b, ?_, ?_⟩, ?_⟩
      · show [some (V.int i), some (V.int j), some (V.int b), some (V.int ((a : Int).fmod b))] = [some (V.int i), some (V.int j), some (V.int b), some (V.int ((a % b : Nat) : Int))]
        rw [em]
      · rw [← e, Nat.gcd_comm b (a % b), ← Nat.gcd_rec, Nat.gcd_comm]
      · show ((a : Int).fmod b).natAbs < (b : Int).natAbs
        rw [em]
        have := Nat.mod_lt a (Nat.pos_of_ne_zero hb)
        omega
  · intro σ H1 Q1 Q2 m h
    obtain ⟨v, e, h1, b, h2, h3⟩ := h
    exact ⟨v, e, h1, b, h2, m _ _ h3⟩
/-! top, low -/
def spTop (K : PySem.W.Frag) (f : Num → Int) : Sp := fun vs H Q _ => ∃ (v : V) (n : Num), vs = [v] ∧ NumAt K H v n ∧ Q (.int (f n)) H
theorem sc_ct_top : FnScope ["item"] ["item"] (defScope sL_ct_top) := ⟨rfl, rfl, rfl, by decide +kernel, rfl, by decide +kernel, by decide +kernel⟩
theorem ok_ct_top (D : Dn K mg "_law_ct_top" sL_ct_top) (h_isinstance : mg "isinstance" = none) (h_tuple : mg "tuple" = none) : Ok P w K mg base L2.CX0 1 "_law_ct_top" ["item"] (spTop K Num.top) := by
  refine Ok.mk0 D sc_ct_top (fun vs H Q E h => ?_) (fun _ _ _ _ _ _ us hl => match us, hl with | [_], _ => rfl) (fun f cdv A outer s H vs Q E hr h => ?_)
  · obtain ⟨v, n, rfl, _⟩ := h
    rfl
  obtain ⟨v, n, rfl, hn, k⟩ := h
  refine ⟨_, (pss_one (ps_ret (pe_ifExp (pt_val (pe_isD "tuple" rfl h_isinstance h_tuple (pv 0))) (pe_ix ix_tup (pv 0) pe_int (fun _ _ => rfl)) (pv 0)))), ?_⟩
  cases n with
  | w i =>
    obtain rfl : v = .int i := hn
    exact ⟨_, rfl, .int i, .int i, false, rfl, iteF ⟨_, rfl, k⟩⟩
  | q t b =>
    have hn' := hn.dt.dp
    obtain ⟨a, rfl, ha⟩ := hn
    exact ⟨_, rfl, .tuple [.int t, .int b], hn', true, rfl, iteT ⟨_, rfl, a, _, 0, _, rfl, rfl, ha, rfl, k⟩⟩
theorem sc_ct_low : FnScope ["item"] ["item"] (defScope sL_ct_low) := ⟨rfl, rfl, rfl, by decide +kernel, rfl, by decide +kernel, by decide +kernel⟩
theorem ok_ct_low (D : Dn K mg "_law_ct_low" sL_ct_low) (h_isinstance : mg "isinstance" = none) (h_tuple : mg "tuple" = none) : Ok P w K mg base L2.CX0 1 "_law_ct_low" ["item"] (spTop K Num.low) := by
  refine Ok.mk0 D sc_ct_low (fun vs H Q E h => ?_) (fun _ _ _ _ _ _ us hl => match us, hl with | [_], _ => rfl) (fun f cdv A outer s H vs Q E hr h => ?_)
  · obtain ⟨v, n, rfl, _⟩ := h
    rfl
  obtain ⟨v, n, rfl, hn, k⟩ := h
  refine ⟨_, (pss_one (ps_ret (pe_ifExp (pt_val (pe_isD "tuple" rfl h_isinstance h_tuple (pv 0))) (pe_ix ix_tup (pv 0) pe_int (fun _ _ => rfl)) pe_int))), ?_⟩
  cases n with
  | w i =>
    obtain rfl : v = .int i := hn
    exact ⟨_, rfl, .int i, .int i, false, rfl, iteF k⟩
  | q t b =>
    have hn' := hn.dt.dp
    obtain ⟨a, rfl, ha⟩ := hn
    exact ⟨_, rfl, .tuple [.int t, .int b], hn', true, rfl, iteT ⟨_, rfl, a, _, 1, _, rfl, rfl, ha, rfl, k⟩⟩
/-! less than a small whole -/
def spLess0 (K : PySem.W.Frag) : Sp := fun vs H Q _ => ∃ (v : V) (n : Num) (j : Int), vs = [v, .int j] ∧ NumAt K H v n ∧ j.natAbs < 1000 ∧ Q (.bl (decide (n.top * 1 < j * n.low))) H
theorem sc_ct_less : FnScope ["one", "other"] ["one", "other"] (defScope sL_ct_less) := ⟨rfl, rfl, rfl, by decide +kernel, rfl, by decide +kernel, by decide +kernel⟩
theorem ok_ct_less (D : Dn K mg "_law_ct_less" sL_ct_less) (B1 : Ok P w K mg base L2.CX0 1 "_law_ct_top" ["item"] (spTop K Num.top)) (B2 : Ok P w K mg base L2.CX0 1 "_law_ct_low" ["item"] (spTop K Num.low)) :
    Ok P w K mg base L2.CX0 2 "_law_ct_less" ["one", "other"] (spLess0 K) := by
  obtain ⟨_, _, g_ct_top, k_ct_top, b_ct_top, F_ct_top⟩ := B1.ex
  obtain ⟨_, _, g_ct_low, k_ct_low, b_ct_low, F_ct_low⟩ := B2.ex
  refine Ok.mk0 D sc_ct_less (fun vs H Q E h => ?_) (fun _ _ _ _ _ _ us hl => match us, hl with | [_, _], _ => rfl) (fun f cdv A outer s H vs Q E hr h => ?_)
  · obtain ⟨v, n, j, rfl, _⟩ := h
    rfl
  obtain ⟨v, n, j, rfl, hn, hj, k⟩ := h
  refine ⟨_, (pss_one (ps_ret (pe_cmpR op_lt (pe_op op_mul (pe_call F_ct_top hr rfl g_ct_top k_ct_top b_ct_top .nil pass0 (pa_cons (pv 0) pa_nil)) (pe_call F_ct_low hr rfl g_ct_low k_ct_low b_ct_low .nil pass0 (pa_cons (pv 1) pa_nil))) (pe_op op_mul (pe_call F_ct_top hr rfl g_ct_top k_ct_top b_ct_top .nil pass0 (pa_cons (pv 1) pa_nil)) (pe_call F_ct_low hr rfl g_ct_low k_ct_low b_ct_low .nil pass0 (pa_cons (pv 0) pa_nil))) (nomark _)))), ?_⟩
  exact ⟨_, rfl, v, n, rfl, hn, _, rfl, _, .w j, rfl, rfl, _, _, rfl, rfl, (.inr ⟨by show -(2 ^ 64) < (1 : Int); decide, by show (1 : Int) < 2 ^ 64; decide⟩), _, rfl, _, .w j, rfl, rfl, _, rfl, v, n, rfl, hn, _, _, rfl, rfl, .inl ⟨by show -(2 ^ 64) < j; omega, by show j < 2 ^ 64; omega⟩, _, _, rfl, rfl, k⟩
/-! made -/
theorem gcd_pos {t b : Int} (h : 0 < b) : 0 < (Nat.gcd t.natAbs b.natAbs : Int) := by
  have := Nat.gcd_pos_of_pos_right t.natAbs (show 0 < b.natAbs by omega)
  omega
theorem gcd_le {t b : Int} (h : 0 < b) : (Nat.gcd t.natAbs b.natAbs : Int).natAbs ≤ b.natAbs := by
  have := Nat.gcd_le_right (n := b.natAbs) t.natAbs (by omega)
  omega
def spMade (K : PySem.W.Frag) : Sp := fun vs H Q _ => ∃ t b : Int, vs = [.int t, .int b] ∧ 0 < b ∧ b.natAbs < 2 ^ 9000 ∧ ∀ v H', Same H H' → NumAt K H' v (made t b) → Q v H'
theorem sc_ct_made : FnScope ["top", "bottom", "common", "high", "low"] ["top", "bottom"] (defScope sL_ct_made) := ⟨rfl, rfl, rfl, by decide +kernel, rfl, by decide +kernel, by decide +kernel⟩
theorem ok_ct_made (D : Dn K mg "_law_ct_made" sL_ct_made) (B1 : Ok P w K mg base L2.CX0 1 "_law_ct_gcd" ["one", "other"] spGcd) : Ok P w K mg base L2.CX0 2 "_law_ct_made" ["top", "bottom"] (spMade K) := by
  obtain ⟨_, _, g_ct_gcd, k_ct_gcd, b_ct_gcd, F_ct_gcd⟩ := B1.ex
  refine Ok.mk0 D sc_ct_made (fun vs H Q E h => ?_) (fun _ _ _ _ _ _ us hl => match us, hl with | [_, _], _ => rfl) (fun f cdv A outer s H vs Q E hr h => ?_)
  · obtain ⟨t, b, rfl, _⟩ := h
    rfl
  obtain ⟨t, b, rfl, hb, h9, k⟩ := h
  have nd := sc_ct_made.nd
  refine ⟨_, (pss_cons (ps_set (i := 2) nd rfl (Or.inl rfl) (pe_call F_ct_gcd hr rfl g_ct_gcd k_ct_gcd b_ct_gcd .nil pass0 (pa_cons (pv 0) (pa_cons (pv 1) pa_nil))))
    (pss_cons (ps_set (i := 2) nd rfl (Or.inl rfl) (pe_ifExp (pt_cmpR op_gt (pv 1) pe_int (nomark _)) (pv 2) (pe_op op_sub pe_int (pv 2))))
    (pss_cons (ps_par (i := 3) (j := 4) (by rfl) nd rfl rfl (by decide) rfl rfl (pa_cons (pe_op op_fdivW (pv 0) (pv 2)) (pa_cons (pe_op op_fdivW (pv 1) (pv 2)) pa_nil)) (by rfl))
    (pss_one (ps_ret (pe_ifExp (pt_cmpR op_eq (pv 4) pe_int (nomark _)) (pv 3) (pe_tup (pa_cons (pv 3) (pa_cons (pv 4) pa_nil))))))))), ?_⟩
  have gp := gcd_pos (t := t) hb
  have g9 : (Nat.gcd t.natAbs b.natAbs : Int).natAbs < 2 ^ 9000 := Nat.lt_of_le_of_lt (gcd_le hb) h9
  refine ⟨_, rfl, _, rfl, t, b, rfl, _, rfl, _, _, rfl, rfl, _, rfl, ?_⟩
  rw [decide_eq_true hb]
  refine iteT ⟨_, rfl, ?_⟩
  refine ⟨_, rfl, _, rfl, _, _, rfl, rfl, wide_div gp g9 (by decide) (by decide), _, rfl, _, rfl, _, _, rfl, rfl, wide_div gp g9 (by decide) (by decide), _, _, rfl, ?_⟩
  refine ⟨_, rfl, rfl, _, rfl, ?_⟩
  by_cases h1 : b / (Nat.gcd t.natAbs b.natAbs : Int) = 1
  · rw [decide_eq_true (congrArg V.int h1)]
    refine iteT ⟨_, rfl, k _ H (Same.refl H) ?_⟩
    unfold made
    rw [if_pos h1]
    rfl
  · rw [decide_eq_false (fun q => h1 (V.int.inj q))]
    refine iteF ⟨_, rfl, _, rfl, (by show 2 ≤ sizeLine; decide), fun p hp => k _ _ (fun b o e => by rw [upd_ne (ne_of_none e hp)]; exact e) ?_⟩
    unfold made
    rw [if_neg h1]
    exact ⟨p, rfl, .inl (.inl upd_same)⟩
/-! is_number -/
def spIsNum (K : PySem.W.Frag) : Sp := fun vs H Q _ => ∃ (v : V) (n : Num), vs = [v] ∧ NumAt K H v n ∧ ∀ H', Same H H' → Q (.bl n.ok) H'
theorem sc_ct_is_number : FnScope ["item", "one"] ["item"] (defScope sL_ct_is_number) := ⟨rfl, rfl, rfl, by decide +kernel, rfl, by decide +kernel, by decide +kernel⟩
theorem ok_ct_is_number (D : Dn K mg "_law_ct_is_number" sL_ct_is_number) (B1 : Ok P w K mg base L2.CX0 1 "_law_ct_gcd" ["one", "other"] spGcd) (h_isinstance : mg "isinstance" = none) (h_tuple : mg "tuple" = none) (h_int : mg "int" = none) (h_bool : mg "bool" = none) (h_len : mg "len" = none) :
    Ok P w K mg base L2.CX0 2 "_law_ct_is_number" ["item"] (spIsNum K) := by
  obtain ⟨_, _, g_ct_gcd, k_ct_gcd, b_ct_gcd, F_ct_gcd⟩ := B1.ex
  refine Ok.mk0 D sc_ct_is_number (fun vs H Q E h => ?_) (fun _ _ _ _ _ _ us hl => match us, hl with | [_], _ => rfl) (fun f cdv A outer s H vs Q E hr h => ?_)
  · obtain ⟨v, n, rfl, _⟩ := h
    rfl
  obtain ⟨v, n, rfl, hn, k⟩ := h
  have nd := sc_ct_is_number.nd
  have hu64 := hr.units
  refine ⟨_, (pss_cons (ps_if (pt_val (pe_isD "int" rfl h_isinstance h_int (pv 0)))
      (pss_one (ps_ret (pe_not (pe_isD "bool" rfl h_isinstance h_bool (pv 0)))))
      pss_nil)
    (pss_cons (ps_if (PW.pt (pw_or (pt_not (pt_val (pe_isD "tuple" rfl h_isinstance h_tuple (pv 0)))) (pw_or1 (pt_cmpR op_ne (pe_lenS rfl h_len (pv 0)) pe_int (nomark _)))))
      (pss_one (ps_ret pe_bl))
      pss_nil)
    (pss_cons (ps_if (pt_cmpR (op_neD hu64) (pe_lc (own := [("one", 1)]) (g := gName 1) rfl nd (pi_tup (pv 0)) (blkOk_by (own := [("one", 1)]) (N := ["item", "one"]) (sc := defScope sL_ct_is_number) (by decide +kernel)) (fun _ _ _ _ _ => pg_name (i := 1) nd rfl (Or.inl rfl)) (fun _ _ _ _ _ => pts_one (PW.pt (pw_or (pt_not (pt_val (pe_isD "int" rfl h_isinstance h_int (pv 1)))) (pw_or1 (pt_val (pe_isD "bool" rfl h_isinstance h_bool (pv 1))))))) (fun _ _ _ _ _ => pe_int)) (pe_lst pa_nil) (nomark _))
      (pss_one (ps_ret pe_bl))
      pss_nil)
    (pss_one (ps_ret (pe_and (pe_cmpR op_ge (pe_ix ix_tup (pv 0) pe_int (fun _ _ => rfl)) pe_int (nomark _)) (pe_one (pe_cmpR op_eq (pe_call F_ct_gcd hr rfl g_ct_gcd k_ct_gcd b_ct_gcd .nil pass0 (pa_cons (pe_ix ix_tup (pv 0) pe_int (fun _ _ => rfl)) (pa_cons (pe_ix ix_tup (pv 0) pe_int (fun _ _ => rfl)) pa_nil))) pe_int (nomark _))))))))), ?_⟩
  cases n with
  | w i =>
    obtain rfl : v = .int i := hn
    exact ⟨_, rfl, .int i, .int i, true, rfl, iteT ⟨_, rfl, .int i, .int i, false, rfl, k H (Same.refl H)⟩⟩
  | q t b =>
    have hn' := hn.dt.dp
    obtain ⟨a, rfl, ha⟩ := hn
    refine ⟨_, rfl, .tuple [.int t, .int b], hn', false, rfl, iteF ?_⟩
    refine ⟨_, rfl, .tuple [.int t, .int b], hn', true, rfl, iteF ?_⟩
    refine ⟨_, rfl, a, _, rfl, .inr ha, rfl, _, rfl, iteF ?_⟩
    refine ⟨_, rfl, a, rfl, ⟨_, ha⟩, fun l hl => lc_tup (K := K) (a := a) (xs := [.int t, .int b]) (fun _ H1 => H1 = upd H l (.lst [])) rfl (fun i H1 _ e => by rw [e]; exact same_seqT (fun b o q => by rw [upd_ne (ne_of_none q hl)]; exact q) ha) ?_ ?_⟩
    · rintro i x H1 hx rfl
      obtain ⟨z, rfl⟩ : ∃ z : Int, x = .int z := by
        match i, hx with
        | 0, hx => cases hx; exact ⟨_, rfl⟩
        | 1, hx => cases hx; exact ⟨_, rfl⟩
      exact ⟨rfl, _, rfl, .int z, .int z, true, rfl, iteF ⟨_, rfl, .int z, .int z, false, rfl, iteF rfl⟩⟩
    · rintro H1 rfl
      have sl : Same H (upd H l (.lst [])) := fun b o q => by rw [upd_ne (ne_of_none q hl)]; exact q
      refine ⟨by decide, fun p hp => ?_⟩
      have sp : Same (upd H l (.lst [])) (upd (upd H l (.lst [])) p (.lst [])) := fun b o q => by rw [upd_ne (ne_of_none q hp)]; exact q
      have sh0 : Sh 1 (.list []) := sh_list (n := 0) fun d hd => absurd hd (by simp)
      refine ⟨.list [], .list [], .lst (SqL.of (sp _ _ upd_same)) .nil, .lst (SqL.of upd_same) .nil, sh0.shaped (by decide), sh0.shaped (by decide), _, rfl, iteF ?_⟩
      have ss := sl.trans sp
      have ha' := same_seqT ss ha
      refine ⟨_, rfl, a, _, 1, _, rfl, rfl, ha', rfl, _, _, rfl, rfl, _, rfl, ?_⟩
      have ek : Num.ok (.q t b) = (decide (2 ≤ b) && decide ((Nat.gcd t.natAbs b.natAbs : Int) = 1)) := rfl
      by_cases h2 : 2 ≤ b
      · rw [decide_eq_true h2] at ek ⊢
        refine iteT ⟨_, rfl, a, _, 0, _, rfl, rfl, ha', rfl, _, rfl, a, _, 1, _, rfl, rfl, ha', rfl, t, b, rfl, rfl, ?_⟩
        have z := k _ ss
        rw [ek] at z
        have e3 : decide (V.int (Nat.gcd t.natAbs b.natAbs : Nat) = V.int 1) = decide (((Nat.gcd t.natAbs b.natAbs : Nat) : Int) = 1) := by
          by_cases q : ((Nat.gcd t.natAbs b.natAbs : Nat) : Int) = 1
          · rw [decide_eq_true q, decide_eq_true (congrArg V.int q)]
          · rw [decide_eq_false q, decide_eq_false (fun y => q (V.int.inj y))]
        show Q (.bl (decide (V.int (Nat.gcd t.natAbs b.natAbs : Nat) = V.int 1))) _
        rw [e3]
        exact z
      · rw [decide_eq_false h2] at ek ⊢
        refine iteF ?_
        have z := k _ ss
        rw [ek] at z
        exact z
end
end K17
set_option maxHeartbeats 4000000
namespace Hx
open PySem PySem.Spec PyProof.Rows L2 RZ
/-! ### slices of tuples and lists, zip of two tuples -/
theorem cutV_whole {xs : List V} {lo hi : Option Int} (h : HT.sIx xs.length 0 lo = 0 ∧ HT.sIx xs.length xs.length hi = xs.length) : cutV xs lo hi = xs := by
  unfold cutV
  rw [h.1, h.2]
  simp
theorem rSlA_any {K : PySem.W.Frag} {H : Hp} {a : Addr} {xs ys : List V} {lo hi : Option Int} {Q : VK} (ha : SqT K H a xs) (hy : cutV xs lo hi = ys) (q : ∀ p H', Same H H' → SqT K H' p ys → Q (.ref p) H') : rSlA K (.ref a) lo hi H Q := by
  refine ⟨a, xs, rfl, ha, fun hw => ?_, fun _ p hp => ?_⟩
  · rw [cutV_whole hw] at hy
    subst hy
    exact q a H (Same.refl H) ha
  · refine q p _ (fun b u e => by rw [upd_ne (ne_of_none e hp)]; exact e) (SqT.of ?_)
    rw [upd_same, hy]
theorem cut_from {xs : List V} (k : Nat) : cutV xs (some (k : Int)) none = xs.drop k := by
  unfold cutV
  rw [HT.sIx_nat, HT.sIx_none]
  rcases Nat.le_total k xs.length with h | h
  · rw [Nat.min_eq_left h, List.take_of_length_le (by rw [List.length_drop]; omega)]
  · rw [Nat.min_eq_right h, List.drop_of_length_le (Nat.le_refl _), List.drop_of_length_le h]
    simp
theorem cut_between {xs : List V} (k m : Nat) (hm : m ≤ xs.length) : cutV xs (some (k : Int)) (some (m : Int)) = (xs.take m).drop k := by
  unfold cutV
  rw [HT.sIx_nat, HT.sIx_nat, Nat.min_eq_left hm, List.drop_take]
  rcases Nat.le_total k xs.length with h | h
  · rw [Nat.min_eq_left h]
  · rw [Nat.min_eq_right h, List.drop_of_length_le (Nat.le_refl _), List.drop_of_length_le h]
    simp
theorem cut_less1 {xs : List V} (k : Nat) : cutV xs (some (k : Int)) (some (-1)) = (xs.take (xs.length - 1)).drop k := by
  have e : HT.sIx xs.length xs.length (some (-1)) = xs.length - 1 := by
    show (if (-1 : Int) < 0 then ((-1 : Int) + (xs.length : Int)).toNat else min (-1 : Int).toNat xs.length) = _
    rw [if_pos (by decide)]
    omega
  unfold cutV
  rw [HT.sIx_nat, e, List.drop_take]
  rcases Nat.le_total k xs.length with h | h
  · rw [Nat.min_eq_left h]
  · rw [Nat.min_eq_right h, List.drop_of_length_le (Nat.le_refl _), List.drop_of_length_le h]
    simp
theorem zipT_same {H : Hp} {T : Addr} {x y : V} (h : H T = none) : Same H (upd H T (.tup [x, y])) := fun b u e => by rw [upd_ne (ne_of_none e h)]; exact e
/-- a comprehension over zip(a, b), tuples, the second the shorter one -/
theorem lc_zip {g : TG} {te : TE} {vs : List Nat} {σ : L2.St} {H1 : Hp} {D : Addr} {Qd : Hp → Prop} {K : PySem.W.Frag} {a b : Addr} {xs ys : List V} (ha : SqT K H1 a xs) (hb : SqT K H1 b ys) (hle : ys.length ≤ xs.length) (hsz : ys.length < sizeLine)
    (Y : Nat → V → Hp → Prop) (hY : ∀ i y H H', TK H H' → Y i y H → Y i y H') (hn : H1 D = none)
    (turn : ∀ (i : Nat) (x y : V) (T : Addr) (H H' : Hp) (F : VK), xs[i]? = some x → ys[i]? = some y → Same H1 H' → Same H H' → H' T = some (.tup [x, y]) → (∀ z H4, Y i z H4 → Same H H4 → F z H4) →
      g (.ref T) (wipe σ vs) H' fun σ2 H2 => wipe σ2 vs = wipe σ vs ∧ te σ2 H2 F)
    (hd : ∀ acc H, Same H1 H → H D = some (.lst acc) → acc.length = ys.length → (∀ i y, acc[i]? = some y → Y i y H) → Qd H) : LcGoal (ItzT K a b) g tYes te vs σ H1 D Qd := by
  refine lc_rel Y hY hn hsz (fun i H hi s => ?_) (fun H s => ?_) ?_ hd
  · exact ⟨_, _, _, _, same_seqT s ha, same_seqT s hb, List.getElem?_eq_getElem (show i < xs.length by omega), List.getElem?_eq_getElem hi⟩
  · exact ⟨_, _, same_seqT s ha, same_seqT s hb, .inr (Nat.le_refl _)⟩
  · rintro i _ H _ F hi s ⟨T, x, y, rfl, hT, rfl, qx, qy⟩ kk
    exact turn i x y T H _ F (qx _ (same_seqT s ha)) (qy _ (same_seqT s hb)) (s.trans (zipT_same hT)) (zipT_same hT) upd_same kk
/-- .. over a tuple -/
theorem lc_tup1 {g : TG} {te : TE} {vs : List Nat} {σ : L2.St} {H1 : Hp} {D : Addr} {Qd : Hp → Prop} {K : PySem.W.Frag} {a : Addr} {xs : List V} (ha : SqT K H1 a xs) (hsz : xs.length < sizeLine)
    (Y : Nat → V → Hp → Prop) (hY : ∀ i y H H', TK H H' → Y i y H → Y i y H') (hn : H1 D = none)
    (turn : ∀ (i : Nat) (x : V) (H : Hp) (F : VK), xs[i]? = some x → Same H1 H → (∀ z H4, Y i z H4 → Same H H4 → F z H4) →
      g x (wipe σ vs) H fun σ2 H2 => wipe σ2 vs = wipe σ vs ∧ te σ2 H2 F)
    (hd : ∀ acc H, Same H1 H → H D = some (.lst acc) → acc.length = xs.length → (∀ i y, acc[i]? = some y → Y i y H) → Qd H) : LcGoal (Itt K a) g tYes te vs σ H1 D Qd := by
  refine lc_rel Y hY hn hsz (fun i H hi s => ?_) (fun H s => ?_) ?_ hd
  · exact ⟨_, _, same_seqT s ha, List.getElem?_eq_getElem hi⟩
  · exact ⟨_, same_seqT s ha, Nat.le_refl _⟩
  · rintro i x H H' F hi s ⟨e, qx⟩ kk
    rw [e]
    exact turn i x H F (qx _ (same_seqT s ha)) s kk
/-- .. over a list that no turn touches -/
theorem same_seqL {K : PySem.W.Frag} {H H' : Hp} {a : Addr} {xs : List V} (e : Same H H') (h : SqL K H a xs) : SqL K H' a xs := by
  rcases h with (q | ⟨o, q⟩) | ⟨o, q⟩
  · exact .inl (.inl (e _ _ q))
  · exact .inl (.inr ⟨o, e _ _ q⟩)
  · exact .inr ⟨o, q⟩
theorem lc_lst1 {g : TG} {te : TE} {vs : List Nat} {σ : L2.St} {H1 : Hp} {D : Addr} {Qd : Hp → Prop} {K : PySem.W.Frag} {a : Addr} {xs : List V} (ha : SqL K H1 a xs) (hsz : xs.length < sizeLine)
    (Y : Nat → V → Hp → Prop) (hY : ∀ i y H H', TK H H' → Y i y H → Y i y H') (hn : H1 D = none)
    (turn : ∀ (i : Nat) (x : V) (H : Hp) (F : VK), xs[i]? = some x → Same H1 H → (∀ z H4, Y i z H4 → Same H H4 → F z H4) →
      g x (wipe σ vs) H fun σ2 H2 => wipe σ2 vs = wipe σ vs ∧ te σ2 H2 F)
    (hd : ∀ acc H, Same H1 H → H D = some (.lst acc) → acc.length = xs.length → (∀ i y, acc[i]? = some y → Y i y H) → Qd H) : LcGoal (Itl K a) g tYes te vs σ H1 D Qd := by
  refine lc_rel Y hY hn hsz (fun i H hi s => ?_) (fun H s => ?_) ?_ hd
  · exact ⟨_, _, same_seqL s ha, List.getElem?_eq_getElem hi⟩
  · exact ⟨_, same_seqL s ha, Nat.le_refl _⟩
  · rintro i x H H' F hi s ⟨e, qx⟩ kk
    rw [e]
    exact turn i x H F (qx _ (same_seqL s ha)) s kk
/-- what a comprehension of truths comes to -/
theorem bools_are {acc : List V} {bs : List Bool} (hl : acc.length = bs.length) (h : ∀ (i : Nat) (y : V), acc[i]? = some y → bs[i]?.map V.bl = some y) : acc = bs.map V.bl := by
  refine List.ext_getElem? fun i => ?_
  rw [List.getElem?_map]
  by_cases hi : i < acc.length
  · rw [List.getElem?_eq_getElem hi, h i _ (List.getElem?_eq_getElem hi)]
  · rw [List.getElem?_eq_none (by omega), List.getElem?_eq_none (by omega)]
    rfl
end Hx
set_option maxHeartbeats 4000000
namespace K17
open PySem PySem.Spec PyProof.Rows L2 Hx RZ
/-! ### names -/
abbrev LET : Str := "abcdefghijklmnopqrstuvwxyz"
abbrev LED : Str := "abcdefghijklmnopqrstuvwxyz0123456789"
def nameS (x : Str) : Bool := decide (1 ≤ x.length) && decide (x.length ≤ 8) && (match x.cps.toList with
  | [] => false
  | c :: _ => decide (c ∈ LET.cps.toList)) && x.cps.toList.all fun c => decide (c ∈ LED.cps.toList)
theorem str_bool {a b : Bool} : V.bl a = V.bl b ↔ a = b := ⟨V.bl.inj, congrArg _⟩
theorem bools_of {acc : List V} {bs : List Bool} (hl : acc.length = bs.length) (h : ∀ (i : Nat) (y : V), acc[i]? = some y → bs[i]?.map V.bl = some y) : acc = bs.map V.bl := by
  refine List.ext_getElem? fun i => ?_
  rw [List.getElem?_map]
  by_cases hi : i < acc.length
  · rw [List.getElem?_eq_getElem hi, h i _ (List.getElem?_eq_getElem hi)]
  · rw [List.getElem?_eq_none (by omega), List.getElem?_eq_none (by omega)]
    rfl
section
variable {P : Program} {w : World} {K : PySem.W.Frag} {mg : Str → Option Value} {base : Heap}
def spName (f : Str → Bool) : Sp := fun vs H Q _ => ∃ x : Str, vs = [.str x] ∧ x.length ≤ 100000 ∧ ∀ H', Same H H' → Q (.bl (f x)) H'
theorem sc_is_name : FnScope ["value", "sign"] ["value"] (defScope sis_name) := ⟨rfl, rfl, rfl, by decide +kernel, rfl, by decide +kernel, by decide +kernel⟩
theorem ok_is_name (D : Dn K mg "is_name" sis_name) (h_isinstance : mg "isinstance" = none) (h_str : mg "str" = none) (h_len : mg "len" = none) (h_all : mg "all" = none) (c1 : ∃ t, mg "LETTERS" = some (.str LET t)) (c2 : ∃ t, mg "LETTERS_AND_DIGITS" = some (.str LED t)) (c3 : ∃ t, mg "LONGEST_NAME" = some (.int 8 t)) :
    Ok P w K mg base L2.CX0 1 "is_name" ["value"] (spName nameS) := by
  obtain ⟨_, gLETTERS⟩ := c1
  obtain ⟨_, gLETTERS_AND_DIGITS⟩ := c2
  obtain ⟨_, gLONGEST_NAME⟩ := c3
  refine Ok.mk0 D sc_is_name (fun vs H Q E h => ?_) (fun _ _ _ _ _ _ us hl => match us, hl with | [_], _ => rfl) (fun f cdv A outer s H vs Q E hr h => ?_)
  · obtain ⟨x, rfl, _⟩ := h
    rfl
  obtain ⟨x, rfl, hx, k⟩ := h
  have nd := sc_is_name.nd
  refine ⟨_, (pss_cons (ps_if (PW.pt (pw_or (pt_not (pt_val (pe_isD "str" rfl h_isinstance h_str (pv 0)))) (pw_or1 (pt_not (pt_chain op_le op_le pe_int (pe_callB call_len_str (by rfl) h_len (by decide +kernel) (pa_cons (pv 0) pa_nil)) (pe_glob (v := .int 8) rfl gLONGEST_NAME ⟨_, rfl⟩))))))
      (pss_one (ps_ret pe_bl))
      pss_nil)
    (pss_one (ps_ret (pe_and (pe_cmpR op_in_sign (pe_ix ix_str (pv 0) pe_int (fun _ _ => rfl)) (pe_glob (v := .str LET) rfl gLETTERS ⟨_, rfl⟩) (by rfl)) (pe_one (pe_callB (cr_all rfl) (by rfl) h_all (by decide +kernel) (pa_cons (pe_lc (own := [("sign", 1)]) (g := gName 1) (tt := tYes) rfl nd (pi_str (pv 0)) (blkOk_by (own := [("sign", 1)]) (N := ["value", "sign"]) (sc := defScope sis_name) (by decide +kernel)) (fun _ _ _ _ _ => pg_name (i := 1) nd rfl (Or.inl rfl)) (fun _ _ _ _ _ => pts_nil) (fun _ _ _ _ _ => (pe_cmpR op_in_sign (pv 1) (pe_glob (v := .str LED) rfl gLETTERS_AND_DIGITS ⟨_, rfl⟩) (by rfl)))) pa_nil))))))), ?_⟩
  refine ⟨_, rfl, .str x, .str x, true, rfl, ?_⟩
  refine iteF ?_
  have hsz : x.length ≤ sizeLine := by rw [sizeLine_eq]; omega
  have hcs : x.cps.toList.length = x.length := by simp [Str.length]
  have fal : nameS x = false → Q (.bl false) H := fun e => by
    have z := k H (Same.refl H)
    rw [e] at z
    exact z
  refine ⟨_, rfl, _, rfl, hsz, _, _, rfl, rfl, _, rfl, ?_⟩
  by_cases h1 : 1 ≤ (x.length : Int)
  · rw [decide_eq_true h1]
    refine iteT ⟨_, _, rfl, rfl, _, rfl, ?_⟩
    by_cases h8 : (x.length : Int) ≤ 8
    · rw [decide_eq_true h8]
      refine iteF ?_
      obtain ⟨c, r, hcr⟩ : ∃ c r, x.cps.toList = c :: r := by
        cases e : x.cps.toList with
        | nil => rw [e] at hcs; simp at hcs; omega
        | cons c r => exact ⟨c, r, rfl⟩
      have hnm : nameS x = (decide (c ∈ LET.cps.toList) && x.cps.toList.all fun c => decide (c ∈ LED.cps.toList)) := by
        unfold nameS
        rw [decide_eq_true (show 1 ≤ x.length by omega), decide_eq_true (show x.length ≤ 8 by omega), hcr]
        rfl
      refine ⟨_, rfl, x, 0, c, rfl, rfl, hsz, ?_, c, _, rfl, rfl, _, rfl, ?_⟩
      · have z := atI_nat (xs := x.cps.toList) (j := 0) (v := c) (by rw [hcr]; rfl)
        exact z
      by_cases hc : c ∈ LET.cps.toList
      · rw [decide_eq_true hc] at hnm ⊢
        refine iteT ⟨_, rfl, x, rfl, fun D hD => ?_⟩
        have n8 : x.cps.size ≤ 8 := by have := hcs; simp at this; omega
        refine lc_rel (n := x.cps.size) (J := Its x) (fun i y _ => (x.cps.toList.map fun c => decide (c ∈ LED.cps.toList))[i]?.map V.bl = some y) (fun _ _ _ _ _ h => h) hD (by rw [sizeLine_eq]; omega) (fun i H hi _ => hi) (fun H _ => Nat.le_refl _) ?_ ?_
        · rintro i y H1 H' F hi s1 ⟨rfl, c, hc, rfl⟩ kk
          refine ⟨rfl, _, rfl, c, _, rfl, rfl, kk _ _ ?_ (Same.refl _)⟩
          rw [List.getElem?_map, Array.getElem?_toList, hc]
          rfl
        · intro acc H1 s1 e hl hy
          have eb : acc = (x.cps.toList.map fun c => decide (c ∈ LED.cps.toList)).map V.bl := bools_of (by simp [hl]) hy
          subst eb
          refine ⟨D, _, rfl, SqL.of e, ?_⟩
          have z := k H1 s1
          rw [hnm, Bool.true_and] at z
          rw [List.all_map]
          exact z
      · rw [decide_eq_false hc] at hnm ⊢
        exact iteF (fal (by rw [hnm]; rfl))
    · rw [decide_eq_false h8]
      refine iteT (fal ?_)
      unfold nameS
      rw [decide_eq_false (show ¬ x.length ≤ 8 by omega)]
      simp
  · rw [decide_eq_false h1]
    refine iteF ⟨_, rfl, iteT (fal ?_)⟩
    unfold nameS
    rw [decide_eq_false (show ¬ 1 ≤ x.length by omega)]
    simp
/-! names in a tuple -/
def riseS (ns : List Str) : Bool := (ns.zip (ns.drop 1)).all fun p => decide (p.1.cps.toList < p.2.cps.toList)
def namesS (ns : List Str) : Bool := ns.all nameS && riseS ns
def Sm (ns : List Str) : Prop := ns.length ≤ 100000 ∧ ∀ x ∈ ns, x.length ≤ 100000
/-- a tuple of texts, or what is no tuple -/
def spNames (K : PySem.W.Frag) (f : List Str → Bool) : Sp := fun vs H Q _ => ∃ v : V, vs = [v] ∧ ((∃ (a : Addr) (ns : List Str), v = .ref a ∧ SqT K H a (ns.map V.str) ∧ Sm ns ∧ ∀ H', Same H H' → Q (.bl (f ns)) H') ∨ ∃ d : PyData, Dp K H v d ∧ isTy (tagOf d) "tuple" = false ∧ Q (.bl false) H)
theorem strs_at {ns : List Str} {i : Nat} {x : V} (h : (ns.map V.str)[i]? = some x) : ∃ y, ns[i]? = some y ∧ x = .str y := by
  rw [List.getElem?_map] at h
  cases e : ns[i]? with
  | none => rw [e] at h; cases h
  | some y => rw [e] at h; exact ⟨y, rfl, (Option.some.inj h).symm⟩
theorem same_new {H : Hp} {a : Addr} {o : HO} (h : H a = none) : Same H (upd H a o) := fun b u e => by rw [upd_ne (ne_of_none e h)]; exact e
theorem sqT_eq {K : PySem.W.Frag} {H : Hp} {a : Addr} {xs ys : List V} (h : H a = some (.tup xs)) (q : SqT K H a ys) (nk : ∀ o, K.lookup a = some o → False) : ys = xs := by
  rcases q with (q | ⟨o, q⟩) | ⟨o, _, _, q, _⟩
  · rw [h] at q; cases q; rfl
  · rw [h] at q; cases q
  · exact (nk _ q).elim
theorem sc_are_names : FnScope ["value", "name", "one", "other"] ["value"] (defScope sare_names) := ⟨rfl, rfl, rfl, by decide +kernel, rfl, by decide +kernel, by decide +kernel⟩
theorem ok_are_names (D : Dn K mg "are_names" sare_names) (B : Ok P w K mg base L2.CX0 1 "is_name" ["value"] (spName nameS)) (h_isinstance : mg "isinstance" = none) (h_tuple : mg "tuple" = none) (h_all : mg "all" = none) (h_zip : mg "zip" = none) :
    Ok P w K mg base L2.CX0 2 "are_names" ["value"] (spNames K namesS) := by
  obtain ⟨_, _, g_is_name, k_is_name, b_is_name, F_is_name⟩ := B.ex
  refine Ok.mk0 D sc_are_names (fun vs H Q E h => ?_) (fun _ _ _ _ _ _ us hl => match us, hl with | [_], _ => rfl) (fun f cdv A outer s H vs Q E hr h => ?_)
  · obtain ⟨v, rfl, _⟩ := h
    rfl
  obtain ⟨v, rfl, h⟩ := h
  have nd := sc_are_names.nd
  refine ⟨_, (pss_cons (ps_if (PW.pt (pw_or (pt_not (pt_val (pe_isD "tuple" rfl h_isinstance h_tuple (pv 0)))) (pw_or1 (pt_not (pt_val (pe_callB (cr_all rfl) (by rfl) h_all (by decide +kernel) (pa_cons (pe_lc (own := [("name", 1)]) (g := gName 1) (tt := tYes) rfl nd (pi_tup (pv 0)) (blkOk_by (own := [("name", 1)]) (N := ["value", "name", "one", "other"]) (sc := defScope sare_names) (by decide +kernel)) (fun _ _ _ _ _ => pg_name (i := 1) nd rfl (Or.inl rfl)) (fun _ _ _ _ _ => pts_nil) (fun _ _ _ _ _ => (pe_call F_is_name hr rfl g_is_name k_is_name b_is_name .nil pass0 (pa_cons (pv 1) pa_nil)))) pa_nil)))))))
      (pss_one (ps_ret pe_bl))
      pss_nil)
    (pss_one (ps_ret (pe_callB (cr_all rfl) (by rfl) h_all (by decide +kernel) (pa_cons (pe_lc (own := [("one", 2), ("other", 3)]) (g := gTup K 2 (gCons (gName 2) (gCons (gName 3) gNil))) (tt := tYes) rfl nd (pi_zipA (by rfl) h_zip (pa_cons (pv 0) (pa_cons (pe_slice sl_tupA (pv 0) (po_some pe_int) po_none) pa_nil))) (blkOk_by (own := [("one", 2), ("other", 3)]) (N := ["value", "name", "one", "other"]) (sc := defScope sare_names) (by decide +kernel)) (fun _ _ _ _ _ => pg_tup (by rfl) (pgs_cons (pg_name (i := 2) nd rfl (Or.inl rfl)) (pgs_cons (pg_name (i := 3) nd rfl (Or.inl rfl)) pgs_nil))) (fun _ _ _ _ _ => pts_nil) (fun _ _ _ _ _ => (pe_cmpR op_lt_str (pv 2) (pv 3) (nomark _)))) pa_nil))))), ?_⟩
  rcases h with ⟨a, ns, rfl, ha, ⟨hl, hm⟩, k⟩ | ⟨d, hd, nt, k⟩
  rotate_left
  · exact ⟨_, rfl, d, hd, false, congrArg V.bl nt, iteT k⟩
  refine ⟨_, rfl, .tuple (ns.map PyData.str), .tup ha (dpAll_strs ns), true, rfl, ?_⟩
  refine iteF ?_
  refine ⟨_, rfl, a, rfl, ⟨_, ha⟩, fun L hL => ?_⟩
  refine lc_rel (n := ns.length) (J := Itt K a) (fun i y _ => (ns.map nameS)[i]?.map V.bl = some y) (fun _ _ _ _ _ h => h) hL (by rw [sizeLine_eq]; omega) (fun i H1 hi s1 => ?_) (fun H1 s1 => ?_) ?_ ?_
  · exact ⟨_, _, same_seqT s1 ha, List.getElem?_eq_getElem (by simpa using hi)⟩
  · exact ⟨_, same_seqT s1 ha, by simp⟩
  · rintro i y H1 H' F hi s1 ⟨rfl, yx⟩ kk
    have e := yx _ (same_seqT s1 ha)
    obtain ⟨z, hz, rfl⟩ := strs_at e
    refine ⟨rfl, .str z, rfl, z, rfl, hm z (List.mem_of_getElem? hz), fun H4 s4 => kk _ _ ?_ s4⟩
    rw [List.getElem?_map, hz]
    rfl
  · intro acc H1 s1 e hacc hy
    have eb : acc = (ns.map nameS).map V.bl := bools_of (by simp [hacc]) hy
    subst eb
    refine ⟨L, _, rfl, SqL.of e, _, rfl, ?_⟩
    have ea : (ns.map nameS).all id = ns.all nameS := by rw [List.all_map]; rfl
    rw [ea]
    cases hall : ns.all nameS with
    | false =>
      refine iteT ?_
      have z := k H1 s1
      unfold namesS at z
      rw [hall] at z
      exact z
    | true =>
      refine iteF ?_
      refine ⟨_, rfl, _, rfl, _, rfl, ?_⟩
      show tNoPart _ _ _
      unfold tNoPart
      refine rSlA_any (same_seqT s1 ha) (cut_from 1) fun b H2 s2 hb => ?_
      rw [← List.map_drop] at hb
      refine ⟨a, b, _, _, rfl, .inr ⟨same_seqT (s1.trans s2) ha, hb, fun Z hZ => ?_⟩⟩
      refine lc_zip (same_seqT (s1.trans s2) ha) hb (by simp) (by rw [sizeLine_eq]; simp; omega) (fun i y _ => (((ns.zip (ns.drop 1)).map fun p => decide (p.1.cps.toList < p.2.cps.toList))[i]?.map V.bl) = some y) (fun _ _ _ _ _ h => h) hZ ?_ ?_
      · intro i x y T H3 H4 F hx hy s3 s4 hT kk
        obtain ⟨x, ex, rfl⟩ := strs_at hx
        obtain ⟨y, ey, rfl⟩ := strs_at hy
        refine ⟨T, _, rfl, SqT.of hT, rfl, _, _, rfl, _, _, rfl, ⟨rfl, rfl, _, rfl, _, rfl, _, _, rfl, rfl, ?_⟩⟩
        refine kk _ _ ?_ s4
        rw [List.getElem?_map, List.getElem?_zip_eq_some (z := (x, y)) |>.mpr ⟨ex, ey⟩]
        rfl
      · intro acc H3 s3 e3 hl3 hy3
        have eb : acc = ((ns.zip (ns.drop 1)).map fun p => decide (p.1.cps.toList < p.2.cps.toList)).map V.bl := bools_of (by simp [hl3]) hy3
        subst eb
        refine ⟨Z, _, rfl, SqL.of e3, ?_⟩
        have z := k H3 (s1.trans (s2.trans s3))
        unfold namesS riseS at z
        rw [hall, Bool.true_and] at z
        rw [List.all_map]
        exact z
end
end K17
set_option maxHeartbeats 4000000
namespace K17
open PySem PySem.Spec PyProof.Rows L2 Hx RZ
/-! ### taps, numbers, texts of numbers: the program -/
def tapsS (ns : List Str) : Bool := namesS ns && (decide (2 ≤ ns.length) && decide (ns.length ≤ 6))
abbrev natS (n : Int) : Str := Str.ofString (toString n)
def Num.text : Num → Str
  | .w i => natS i
  | .q t b => natS t ++ "/" ++ natS b
def Num.low30 (n : Num) : Prop := n.top.natAbs < 10 ^ 31 ∧ n.low.natAbs < 10 ^ 31
def Num.ok0 (n : Num) : Bool := n.ok && decide (0 ≤ n.top)
theorem log_small {n : Nat} (h : n < 10 ^ 31) : n.log2 < 1920 := by
  by_cases e : n = 0
  · subst e; decide
  · exact (Nat.log2_lt e).mpr (Nat.lt_trans h (by decide +kernel))
theorem natS_len {i : Int} (h0 : 0 ≤ i) (h : i < 10 ^ 31) : (natS i).length ≤ 31 := PyProof.Rows.toString_length_le h0 (by decide) h
theorem dle {a : Nat} {k : Nat} : decide ((k : Int) ≤ (a : Int)) = decide (k ≤ a) := by
  by_cases h : k ≤ a
  · rw [decide_eq_true h, decide_eq_true (by omega)]
  · rw [decide_eq_false h, decide_eq_false (by omega)]
theorem deq_int {i j : Int} : decide (V.int i = V.int j) = decide (i = j) := by
  by_cases q : i = j
  · rw [decide_eq_true q, decide_eq_true (congrArg V.int q)]
  · rw [decide_eq_false q, decide_eq_false (fun y => q (V.int.inj y))]
theorem deq_str {i j : Str} : decide (V.str i = V.str j) = decide (i = j) := by
  by_cases q : i = j
  · rw [decide_eq_true q, decide_eq_true (congrArg V.str q)]
  · rw [decide_eq_false q, decide_eq_false (fun y => q (V.str.inj y))]
section
variable {P : Program} {w : World} {K : PySem.W.Frag} {mg : Str → Option Value} {base : Heap}
theorem sc_are_taps : FnScope ["value"] ["value"] (defScope sare_taps) := ⟨rfl, rfl, rfl, by decide +kernel, rfl, by decide +kernel, by decide +kernel⟩
theorem ok_are_taps (D : Dn K mg "are_taps" sare_taps) (B : Ok P w K mg base L2.CX0 2 "are_names" ["value"] (spNames K namesS)) (h_len : mg "len" = none) (c1 : ∃ t, mg "FEWEST_TAPS" = some (.int 2 t)) (c2 : ∃ t, mg "MOST_TAPS" = some (.int 6 t)) :
    Ok P w K mg base L2.CX0 3 "are_taps" ["value"] (spNames K tapsS) := by
  obtain ⟨_, gFEWEST_TAPS⟩ := c1
  obtain ⟨_, gMOST_TAPS⟩ := c2
  obtain ⟨_, _, g_are_names, k_are_names, b_are_names, F_are_names⟩ := B.ex
  refine Ok.mk0 D sc_are_taps (fun vs H Q E h => ?_) (fun _ _ _ _ _ _ us hl => match us, hl with | [_], _ => rfl) (fun f cdv A outer s H vs Q E hr h => ?_)
  · obtain ⟨v, rfl, _⟩ := h
    rfl
  obtain ⟨v, rfl, h⟩ := h
  refine ⟨_, (pss_one (ps_ret (pe_and (pe_call F_are_names hr rfl g_are_names k_are_names b_are_names .nil pass0 (pa_cons (pv 0) pa_nil)) (pe_one (pe_chain op_le op_le (pe_glob (v := .int 2) rfl gFEWEST_TAPS ⟨_, rfl⟩) (pe_lenS rfl h_len (pv 0)) (pe_glob (v := .int 6) rfl gMOST_TAPS ⟨_, rfl⟩)))))), ?_⟩
  rcases h with ⟨a, ns, rfl, ha, hm, k⟩ | ⟨d, hd, nt, k⟩
  rotate_left
  · exact ⟨_, rfl, _, rfl, .inr ⟨d, hd, nt, _, rfl, iteF k⟩⟩
  refine ⟨_, rfl, _, rfl, .inl ⟨a, ns, rfl, ha, hm, fun H1 s1 => ⟨_, rfl, ?_⟩⟩⟩
  have z := k H1 s1
  unfold tapsS at z
  cases hn : namesS ns with
  | false =>
    rw [hn] at z
    exact iteF z
  | true =>
    rw [hn, Bool.true_and] at z
    refine iteT ⟨_, rfl, a, _, rfl, .inr (same_seqT s1 ha), _, _, rfl, rfl, _, rfl, ?_⟩
    rw [List.length_map]
    by_cases h2 : 2 ≤ ns.length
    · rw [show decide (2 ≤ (ns.length : Int)) = true from decide_eq_true (by omega)]
      refine iteT ⟨_, _, rfl, rfl, ?_⟩
      rw [decide_eq_true h2, Bool.true_and] at z
      rw [← dle] at z
      exact z
    · rw [show decide (2 ≤ (ns.length : Int)) = false from decide_eq_false (by omega)]
      rw [decide_eq_false h2] at z
      exact iteF z
/-! whole -/
def isW (d : PyData) : Bool := isTy (tagOf d) "int" && !isTy (tagOf d) "bool"
def spWhole (K : PySem.W.Frag) : Sp := fun vs H Q _ => ∃ (v : V) (d : PyData), vs = [v] ∧ Dp K H v d ∧ Q (.bl (isW d)) H
theorem sc_is_whole : FnScope ["value"] ["value"] (defScope sis_whole) := ⟨rfl, rfl, rfl, by decide +kernel, rfl, by decide +kernel, by decide +kernel⟩
theorem ok_is_whole (D : Dn K mg "is_whole" sis_whole) (h_isinstance : mg "isinstance" = none) (h_int : mg "int" = none) (h_bool : mg "bool" = none) :
    Ok P w K mg base L2.CX0 1 "is_whole" ["value"] (spWhole K) := by
  refine Ok.mk0 D sc_is_whole (fun vs H Q E h => ?_) (fun _ _ _ _ _ _ us hl => match us, hl with | [_], _ => rfl) (fun f cdv A outer s H vs Q E hr h => ?_)
  · obtain ⟨x, ns, rfl, _⟩ := h
    rfl
  obtain ⟨v, d, rfl, hd, k⟩ := h
  refine ⟨_, (pss_one (ps_ret (pe_and (pe_isD "int" rfl h_isinstance h_int (pv 0)) (pe_one (pe_not (pe_isD "bool" rfl h_isinstance h_bool (pv 0))))))), ?_⟩
  refine ⟨_, rfl, d, hd, _, rfl, ?_⟩
  unfold isW at k
  cases e : isTy (tagOf d) "int" with
  | false =>
    rw [e] at k
    exact iteF k
  | true =>
    rw [e, Bool.true_and] at k
    exact iteT ⟨_, rfl, d, hd, _, rfl, k⟩
/-! number -/
theorem sc_is_number : FnScope ["value", "top", "bottom"] ["value"] (defScope sis_number) := ⟨rfl, rfl, rfl, by decide +kernel, rfl, by decide +kernel, by decide +kernel⟩
theorem ok_is_number (D : Dn K mg "is_number" sis_number) (B : Ok P w K mg base L2.CX0 1 "is_whole" ["value"] (spWhole K)) (h_isinstance : mg "isinstance" = none) (h_tuple : mg "tuple" = none) (h_len : mg "len" = none) (g_gcd : mg "gcd" = some (.builtin "math.gcd")) :
    Ok P w K mg base L2.CX0 2 "is_number" ["value"] (spIsNum K) := by
  obtain ⟨_, _, g_is_whole, k_is_whole, b_is_whole, F_is_whole⟩ := B.ex
  refine Ok.mk0 D sc_is_number (fun vs H Q E h => ?_) (fun _ _ _ _ _ _ us hl => match us, hl with | [_], _ => rfl) (fun f cdv A outer s H vs Q E hr h => ?_)
  · obtain ⟨x, ns, rfl, _⟩ := h
    rfl
  obtain ⟨v, n, rfl, hn, k⟩ := h
  have nd := sc_is_number.nd
  refine ⟨_, (pss_cons (ps_if (pt_val (pe_call F_is_whole hr rfl g_is_whole k_is_whole b_is_whole .nil pass0 (pa_cons (pv 0) pa_nil)))
      (pss_one (ps_ret pe_bl))
      pss_nil)
    (pss_cons (ps_if (PW.pt (pw_or (pt_not (pt_val (pe_isD "tuple" rfl h_isinstance h_tuple (pv 0)))) (pw_or1 (pt_cmpR op_ne (pe_lenS rfl h_len (pv 0)) pe_int (nomark _)))))
      (pss_one (ps_ret pe_bl))
      pss_nil)
    (pss_cons (ps_asg (pv 0) (pg_tup (by rfl) (pgs_cons (pg_name (i := 1) nd rfl (Or.inl rfl)) (pgs_cons (pg_name (i := 2) nd rfl (Or.inl rfl)) pgs_nil))))
    (pss_one (ps_ret (pe_and (pe_call F_is_whole hr rfl g_is_whole k_is_whole b_is_whole .nil pass0 (pa_cons (pv 1) pa_nil)) (pe_and (pe_call F_is_whole hr rfl g_is_whole k_is_whole b_is_whole .nil pass0 (pa_cons (pv 2) pa_nil)) (pe_and (pe_cmpR op_ge (pv 2) pe_int (nomark _)) (pe_one (pe_cmpR op_eq (pe_callBfun cr_gcd (by rfl) g_gcd (pa_cons (pv 1) (pa_cons (pv 2) pa_nil))) pe_int (nomark _))))))))))), ?_⟩
  cases n with
  | w i =>
    obtain rfl : v = .int i := hn
    exact ⟨_, rfl, .int i, .int i, rfl, .int i, _, rfl, iteT (k H (Same.refl H))⟩
  | q t b =>
    have hn' := hn.dt.dp
    obtain ⟨a, rfl, ha⟩ := hn
    refine ⟨_, rfl, .ref a, .tuple [.int t, .int b], rfl, hn', _, rfl, iteF ?_⟩
    refine ⟨_, rfl, .tuple [.int t, .int b], hn', true, rfl, iteF ?_⟩
    refine ⟨_, rfl, a, _, rfl, .inr ha, rfl, _, rfl, iteF ?_⟩
    refine ⟨_, rfl, a, _, rfl, ha, rfl, _, _, rfl, _, _, rfl, rfl, ?_⟩
    refine ⟨_, rfl, .int t, .int t, rfl, .int t, _, rfl, iteT ?_⟩
    refine ⟨_, rfl, .int b, .int b, rfl, .int b, _, rfl, iteT ?_⟩
    have ek : Num.ok (.q t b) = (decide (2 ≤ b) && decide ((Nat.gcd t.natAbs b.natAbs : Int) = 1)) := rfl
    refine ⟨_, rfl, _, _, rfl, rfl, _, rfl, ?_⟩
    have z := k _ (Same.refl H)
    rw [ek] at z
    by_cases h2 : 2 ≤ b
    · rw [decide_eq_true h2] at z ⊢
      rw [Bool.true_and, ← deq_int] at z
      refine iteT ⟨_, rfl, _, rfl, t, b, rfl, rfl, z⟩
    · rw [decide_eq_false h2] at z ⊢
      exact iteF z
/-! its top; from 0 on -/
theorem sc_top_of : FnScope ["value"] ["value"] (defScope stop_of) := ⟨rfl, rfl, rfl, by decide +kernel, rfl, by decide +kernel, by decide +kernel⟩
theorem ok_top_of (D : Dn K mg "top_of" stop_of) (h_isinstance : mg "isinstance" = none) (h_tuple : mg "tuple" = none) : Ok P w K mg base L2.CX0 1 "top_of" ["value"] (spTop K Num.top) := by
  refine Ok.mk0 D sc_top_of (fun vs H Q E h => ?_) (fun _ _ _ _ _ _ us hl => match us, hl with | [_], _ => rfl) (fun f cdv A outer s H vs Q E hr h => ?_)
  · obtain ⟨x, ns, rfl, _⟩ := h
    rfl
  obtain ⟨v, n, rfl, hn, k⟩ := h
  refine ⟨_, (pss_one (ps_ret (pe_ifExp (pt_val (pe_isD "tuple" rfl h_isinstance h_tuple (pv 0))) (pe_ix ix_tup (pv 0) pe_int (fun _ _ => rfl)) (pv 0)))), ?_⟩
  cases n with
  | w i =>
    obtain rfl : v = .int i := hn
    exact ⟨_, rfl, .int i, .int i, _, rfl, iteF ⟨_, rfl, k⟩⟩
  | q t b =>
    have hn' := hn.dt.dp
    obtain ⟨a, rfl, ha⟩ := hn
    exact ⟨_, rfl, .tuple [.int t, .int b], hn', _, rfl, iteT ⟨_, rfl, a, _, 0, _, rfl, rfl, ha, rfl, k⟩⟩
def spNumText (K : PySem.W.Frag) : Sp := fun vs H Q _ => ∃ (v : V) (n : Num), vs = [v] ∧ NumAt K H v n ∧ 0 ≤ n.top ∧ n.top < 10 ^ 31 ∧ 0 ≤ n.low ∧ n.low < 10 ^ 31 ∧ Q (.str n.text) H
theorem sc_number_text : FnScope ["value"] ["value"] (defScope snumber_text) := ⟨rfl, rfl, rfl, by decide +kernel, rfl, by decide +kernel, by decide +kernel⟩
theorem ok_number_text (D : Dn K mg "number_text" snumber_text) (h_isinstance : mg "isinstance" = none) (h_tuple : mg "tuple" = none) (h_str : mg "str" = none) : Ok P w K mg base L2.CX0 1 "number_text" ["value"] (spNumText K) := by
  refine Ok.mk0 D sc_number_text (fun vs H Q E h => ?_) (fun _ _ _ _ _ _ us hl => match us, hl with | [_], _ => rfl) (fun f cdv A outer s H vs Q E hr h => ?_)
  · obtain ⟨x, ns, rfl, _⟩ := h
    rfl
  obtain ⟨v, n, rfl, hn, t0, t1, l0, l1, k⟩ := h
  refine ⟨_, (pss_cons (ps_if (pt_val (pe_isD "tuple" rfl h_isinstance h_tuple (pv 0)))
      (pss_one (ps_ret (pe_joined (.cons (pe_fmt (pe_ix ix_tup (pv 0) pe_int (fun _ _ => rfl))) (.cons pe_str (.cons (pe_fmt (pe_ix ix_tup (pv 0) pe_int (fun _ _ => rfl))) .nil))))))
      pss_nil)
    (pss_one (ps_ret (pe_callTy call_str_int (by rfl) h_str (by decide +kernel) (pa_cons (pv 0) pa_nil))))), ?_⟩
  cases n with
  | w i =>
    obtain rfl : v = .int i := hn
    exact ⟨_, rfl, .int i, .int i, _, rfl, iteF ⟨_, rfl, i, rfl, log_small (by simp only [Num.top] at t0 t1; omega), k⟩⟩
  | q t b =>
    have hn' := hn.dt.dp
    obtain ⟨a, rfl, ha⟩ := hn
    simp only [Num.top, Num.low] at t0 t1 l0 l1
    refine ⟨_, rfl, .tuple [.int t, .int b], hn', _, rfl, iteT ?_⟩
    have l1' := natS_len t0 t1
    have l2' := natS_len l0 l1
    have e0 : Str.empty ++ natS t = natS t := TL.ext_tl (by rw [TL.tl_append]; rfl)
    have sz : ∀ n : Nat, n ≤ 100 → n ≤ sizeLine := fun n h => by rw [sizeLine_eq]; omega
    refine ⟨_, rfl, a, _, 0, _, rfl, rfl, ha, rfl, .inr ⟨t, rfl, log_small (by omega), natS t, rfl, ?_, Str.ofString "/", rfl, ?_, _, rfl, a, _, 1, _, rfl, rfl, ha, rfl, .inr ⟨b, rfl, log_small (by omega), natS b, rfl, ?_, ?_⟩⟩⟩
    · rw [e0]
      exact sz _ (by omega)
    · rw [e0]
      exact sz _ (by rw [TL.len_tl, TL.tl_append, List.length_append, ← TL.len_tl, ← TL.len_tl]; have : (Str.ofString "/").length = 1 := rfl; omega)
    · rw [e0]
      exact sz _ (by rw [TL.len_tl, TL.tl_append, TL.tl_append, List.length_append, List.length_append, ← TL.len_tl, ← TL.len_tl, ← TL.len_tl]; have : (Str.ofString "/").length = 1 := rfl; omega)
    · rw [e0]
      exact k
end
end K17
set_option maxHeartbeats 4000000
namespace K17
open PySem PySem.Spec PyProof.Rows L2 Hx RZ
/-! ### texts of numbers read: the program -/
abbrev DIG : Str := "0123456789"
def wholeS (x : Str) : Option Nat :=
  if (1 ≤ x.length ∧ x.length ≤ 30) ∧ (x.cps.toList.all fun c => decide (c ∈ DIG.cps.toList)) = true ∧ ¬ (1 < x.length ∧ x.cps.toList[0]? = some 48) then some (NumText.digitsVal x.cps.toList) else none
def optI : Option Nat → V
  | none => .non
  | some n => .int n
theorem all_map_id {α : Type} (f : α → Bool) (l : List α) : (l.map f).all id = l.all f := by rw [List.all_map]; rfl
theorem dig_mem {c : Nat} (h : c ∈ DIG.cps.toList) : 48 ≤ c ∧ c ≤ 57 := by
  have e : DIG.cps.toList = [48, 49, 50, 51, 52, 53, 54, 55, 56, 57] := by decide +kernel
  rw [e] at h
  simp at h
  omega
theorem int_digits {x : Str} (h1 : 1 ≤ x.length) (h30 : x.length ≤ 30) (h : (x.cps.toList.all fun c => decide (c ∈ DIG.cps.toList)) = true) : intText? x = some ((NumText.digitsVal x.cps.toList : Nat) : Int) := by
  refine intText_digits (fun c hc => dig_mem (of_decide_eq_true (List.all_eq_true.mp h c hc))) (fun e => ?_) (by omega)
  have : x.cps.toList.length = x.length := by simp [Str.length]
  rw [e] at this
  simp at this
  omega
section
variable {P : Program} {w : World} {K : PySem.W.Frag} {mg : Str → Option Value} {base : Heap}
def spReadWhole : Sp := fun vs H Q _ => ∃ x : Str, vs = [.str x] ∧ x.length ≤ 100000 ∧ ∀ H', Same H H' → Q (optI (wholeS x)) H'
theorem sc_read_whole : FnScope ["text", "sign"] ["text"] (defScope sread_whole) := ⟨rfl, rfl, rfl, by decide +kernel, rfl, by decide +kernel, by decide +kernel⟩
theorem ok_read_whole (D : Dn K mg "read_whole" sread_whole) (h_len : mg "len" = none) (h_all : mg "all" = none) (h_int : mg "int" = none) (c1 : ∃ t, mg "MOST_DIGITS" = some (.int 30 t)) (c2 : ∃ t, mg "DIGITS" = some (.str DIG t)) :
    Ok P w K mg base L2.CX0 1 "read_whole" ["text"] spReadWhole := by
  obtain ⟨_, gMOST_DIGITS⟩ := c1
  obtain ⟨_, gDIGITS⟩ := c2
  refine Ok.mk0 D sc_read_whole (fun vs H Q E h => ?_) (fun _ _ _ _ _ _ us hl => match us, hl with | [_], _ => rfl) (fun f cdv A outer s H vs Q E hr h => ?_)
  · obtain ⟨x, rfl, _⟩ := h
    rfl
  obtain ⟨x, rfl, hx, k⟩ := h
  have nd := sc_read_whole.nd
  refine ⟨_, (pss_cons (ps_if (PW.pt (pw_or (pt_not (pt_chain op_le op_le pe_int (pe_callB call_len_str (by rfl) h_len (by decide +kernel) (pa_cons (pv 0) pa_nil)) (pe_glob (v := .int 30) rfl gMOST_DIGITS ⟨_, rfl⟩))) (pw_or1 (pt_not (pt_val (pe_callB (cr_all rfl) (by rfl) h_all (by decide +kernel) (pa_cons (pe_lc (own := [("sign", 1)]) (g := gName 1) (tt := tYes) rfl nd (pi_str (pv 0)) (blkOk_by (own := [("sign", 1)]) (N := ["text", "sign"]) (sc := defScope sread_whole) (by decide +kernel)) (fun _ _ _ _ _ => pg_name (i := 1) nd rfl (Or.inl rfl)) (fun _ _ _ _ _ => pts_nil) (fun _ _ _ _ _ => (pe_cmpR op_in_sign (pv 1) (pe_glob (v := .str DIG) rfl gDIGITS ⟨_, rfl⟩) (by rfl)))) pa_nil)))))))
      (pss_one (ps_ret pe_non))
      pss_nil)
    (pss_cons (ps_if (PW.pt (pw_and (pt_cmpR op_gt (pe_callB call_len_str (by rfl) h_len (by decide +kernel) (pa_cons (pv 0) pa_nil)) pe_int (nomark _)) (pw_and1 (pt_cmpR op_eq (pe_ix ix_str (pv 0) pe_int (fun _ _ => rfl)) pe_str (nomark _)))))
      (pss_one (ps_ret pe_non))
      pss_nil)
    (pss_one (ps_ret (pe_callTy call_int_str (by rfl) h_int (by decide +kernel) (pa_cons (pv 0) pa_nil)))))), ?_⟩
  have hcs : x.cps.toList.length = x.length := by simp [Str.length]
  have hsz : x.length ≤ sizeLine := by rw [sizeLine_eq]; omega
  have no : ∀ H', Same H H' → wholeS x = none → Q .non H' := fun H' s e => by
    have z := k H' s
    rw [e] at z
    exact z
  refine ⟨_, rfl, x, rfl, hsz, _, _, rfl, rfl, _, rfl, ?_⟩
  by_cases h1 : 1 ≤ (x.length : Int)
  · rw [decide_eq_true h1]
    refine iteT ⟨_, _, rfl, rfl, _, rfl, ?_⟩
    by_cases h30 : (x.length : Int) ≤ 30
    · rw [decide_eq_true h30]
      refine iteF ⟨_, rfl, x, rfl, fun Z hZ => ?_⟩
      have n30 : x.cps.size ≤ 30 := by have := hcs; simp at this; omega
      refine lc_rel (n := x.cps.size) (J := Its x) (fun i y _ => (x.cps.toList.map fun c => decide (c ∈ DIG.cps.toList))[i]?.map V.bl = some y) (fun _ _ _ _ _ h => h) hZ (by rw [sizeLine_eq]; omega) (fun i H hi _ => hi) (fun H _ => Nat.le_refl _) ?_ ?_
      · rintro i y H1 H' F hi s1 ⟨rfl, c, hc, rfl⟩ kk
        refine ⟨rfl, _, rfl, c, _, rfl, rfl, kk _ _ ?_ (Same.refl _)⟩
        rw [List.getElem?_map, Array.getElem?_toList, hc]
        rfl
      · intro acc H1 s1 e hl hy
        have eb : acc = (x.cps.toList.map fun c => decide (c ∈ DIG.cps.toList)).map V.bl := bools_of (by simp [hl]) hy
        subst eb
        refine ⟨Z, _, rfl, SqL.of e, _, rfl, ?_⟩
        rw [all_map_id]
        cases hall : x.cps.toList.all fun c => decide (c ∈ DIG.cps.toList) with
        | false =>
          refine iteT (no _ s1 ?_)
          unfold wholeS
          rw [if_neg (fun h => by rw [hall] at h; exact absurd h.2.1 (by decide))]
        | true =>
          refine iteF ?_
          have fin : ¬ (1 < x.length ∧ x.cps.toList[0]? = some 48) → tRet (tCB (fun xs H Q => ∃ a n, xs = [.str a] ∧ PySem.intText? a = some n ∧ a.length ≤ 640 ∧ Q (.int n) H) (tCons (tVar 0) tNil)) { nx := fun _ H' => Q .non H', rt := Q } (L2.start ["text", "sign"] [.str x]) H1 := fun h => by
            refine ⟨_, rfl, x, _, rfl, int_digits (by omega) (by omega) hall, by omega, ?_⟩
            have z := k H1 s1
            unfold wholeS at z
            rw [if_pos ⟨⟨by omega, by omega⟩, hall, h⟩] at z
            exact z
          refine ⟨_, rfl, x, rfl, hsz, _, _, rfl, rfl, _, rfl, ?_⟩
          obtain ⟨c, r, hcr⟩ : ∃ c r, x.cps.toList = c :: r := by
            cases e : x.cps.toList with
            | nil => rw [e] at hcs; simp at hcs; omega
            | cons c r => exact ⟨c, r, rfl⟩
          by_cases hl1 : (1 : Int) < x.length
          · rw [decide_eq_true hl1]
            refine iteT ⟨_, rfl, x, 0, c, rfl, rfl, hsz, ?_, rfl, _, rfl, ?_⟩
            · exact atI_nat (xs := x.cps.toList) (j := 0) (v := c) (by rw [hcr]; rfl)
            rw [deq_str]
            by_cases h0 : c = 48
            · subst h0
              rw [decide_eq_true (show (⟨#[48]⟩ : Str) = Str.ofString "0" by decide +kernel)]
              refine iteT (no _ s1 ?_)
              unfold wholeS
              rw [if_neg (fun h => h.2.2 ⟨by omega, by rw [hcr]; rfl⟩)]
            · rw [decide_eq_false (fun q => h0 (by have e := congrArg (fun z : Str => z.cps.toList) q; rw [show (Str.ofString "0").cps.toList = [48] by decide +kernel] at e; simpa using e))]
              exact iteF (fin fun h => h0 (by have := h.2; rw [hcr] at this; simpa using this))
          · rw [decide_eq_false hl1]
            exact iteF (fin fun h => hl1 (by omega))
    · rw [decide_eq_false h30]
      refine iteT (no H (Same.refl H) ?_)
      unfold wholeS
      rw [if_neg (fun h => by omega)]
  · rw [decide_eq_false h1]
    refine iteF ⟨_, rfl, iteT (no H (Same.refl H) ?_)⟩
    unfold wholeS
    rw [if_neg (fun h => by omega)]
end
end K17
set_option maxHeartbeats 4000000
namespace K17
open PySem PySem.Spec PyProof.Rows L2 Hx RZ
/-! ### read_number -/
abbrev SL : Str := "/"
def numRead (x : Str) : Option Num :=
  match wholeS (Txt.partition x SL).1 with
  | none => none
  | some t => if (Txt.partition x SL).2.1.length = 0 then some (.w t) else
    match wholeS (Txt.partition x SL).2.2 with
    | none => none
    | some b => if Num.ok (.q t b) = true then some (.q t b) else none
def OptNum (K : PySem.W.Frag) (H : Hp) (v : V) : Option Num → Prop
  | none => v = .non
  | some n => NumAt K H v n
theorem OptNum.keep {K : PySem.W.Frag} {H H' : Hp} {v : V} (e : TK H H') : ∀ {n : Option Num}, OptNum K H v n → OptNum K H' v n
  | none, h => h
  | some _, h => NumAt.keep e h
section
variable {P : Program} {w : World} {K : PySem.W.Frag} {mg : Str → Option Value} {base : Heap}
def spReadNum (K : PySem.W.Frag) (f : Str → Option Num) : Sp := fun vs H Q _ => ∃ x : Str, vs = [.str x] ∧ x.length ≤ 100000 ∧ ∀ v H', Same H H' → OptNum K H' v (f x) → Q v H'
theorem same_upd {H : Hp} {a : Addr} {o : HO} (h : H a = none) : Same H (upd H a o) := fun b u e => by rw [upd_ne (ne_of_none e h)]; exact e
theorem sc_read_number : FnScope ["text", "top_text", "stroke", "bottom_text", "top", "bottom"] ["text"] (defScope sread_number) := ⟨rfl, rfl, rfl, by decide +kernel, rfl, by decide +kernel, by decide +kernel⟩
theorem ok_read_number (D : Dn K mg "read_number" sread_number) (B1 : Ok P w K mg base L2.CX0 1 "read_whole" ["text"] spReadWhole) (B2 : Ok P w K mg base L2.CX0 2 "is_number" ["value"] (spIsNum K)) :
    Ok P w K mg base L2.CX0 3 "read_number" ["text"] (spReadNum K numRead) := by
  obtain ⟨_, _, g_read_whole, k_read_whole, b_read_whole, F_read_whole⟩ := B1.ex
  obtain ⟨_, _, g_is_number, k_is_number, b_is_number, F_is_number⟩ := B2.ex
  refine Ok.mk0 D sc_read_number (fun vs H Q E h => ?_) (fun _ _ _ _ _ _ us hl => match us, hl with | [_], _ => rfl) (fun f cdv A outer s H vs Q E hr h => ?_)
  · obtain ⟨x, rfl, _⟩ := h
    rfl
  obtain ⟨x, rfl, hx, k⟩ := h
  have nd := sc_read_number.nd
  have hr1 := hr.mono (show 1 ≤ 2 by decide)
  refine ⟨_, (pss_cons (ps_asg (pe_partition (pv 0) pe_str) (pg_tup (by rfl) (pgs_cons (pg_name (i := 1) nd rfl (Or.inl rfl)) (pgs_cons (pg_name (i := 2) nd rfl (Or.inl rfl)) (pgs_cons (pg_name (i := 3) nd rfl (Or.inl rfl)) pgs_nil)))))
    (pss_cons (ps_set (i := 4) nd rfl (Or.inl rfl) (pe_call F_read_whole hr1 rfl g_read_whole k_read_whole b_read_whole .nil pass0 (pa_cons (pv 1) pa_nil)))
    (pss_cons (ps_if (PW.pt (pw_or (pt_not (pt_truth (pv 2) (by intro _; rfl))) (pw_or1 (pt_cmpR op_isN (pv 4) pe_non (nomark _)))))
      (pss_one (ps_ret (pv 4)))
      pss_nil)
    (pss_cons (ps_set (i := 5) nd rfl (Or.inl rfl) (pe_call F_read_whole hr1 rfl g_read_whole k_read_whole b_read_whole .nil pass0 (pa_cons (pv 3) pa_nil)))
    (pss_cons (ps_if (PW.pt (pw_or (pt_cmpR op_isN (pv 5) pe_non (nomark _)) (pw_or1 (pt_not (pt_val (pe_call F_is_number hr rfl g_is_number k_is_number b_is_number .nil pass0 (pa_cons (pe_tup (pa_cons (pv 4) (pa_cons (pv 5) pa_nil))) pa_nil)))))))
      (pss_one (ps_ret pe_non))
      pss_nil)
    (pss_one (ps_ret (pe_tup (pa_cons (pv 4) (pa_cons (pv 5) pa_nil)))))))))), ?_⟩
  obtain ⟨q1, q2, q3⟩ := PyProof.Rows.fact_partition x SL
  have sz : ∀ n : Nat, n ≤ x.length → n ≤ sizeLine := fun n h => by rw [sizeLine_eq]; omega
  refine ⟨_, rfl, ⟨_, rfl⟩, x, SL, rfl, rfl, by decide +kernel, sz _ (Nat.le_refl _), fun p hp => ?_⟩
  have s1 := same_upd (o := .tup [.str (Txt.partition x SL).1, .str (Txt.partition x SL).2.1, .str (Txt.partition x SL).2.2]) hp
  refine ⟨p, _, rfl, SqT.of upd_same, rfl, _, _, rfl, _, _, rfl, _, _, rfl, rfl, ?_⟩
  refine ⟨_, rfl, _, rfl, by omega, fun H2 s2 => ?_⟩
  have s12 := s1.trans s2
  have out : ∀ v H', Same H2 H' → OptNum K H' v (numRead x) → Q v H' := fun v H' s => k v H' (s12.trans s)
  generalize hA : wholeS (Txt.partition x SL).1 = oA
  refine ⟨_, rfl, _, ⟨sz _ q2, rfl⟩, ?_⟩
  by_cases hs : (Txt.partition x SL).2.1.length = 0
  · rw [show ((((Txt.partition x SL).2.1.length : Int)) != 0) = false by rw [hs]; rfl]
    refine iteT ⟨_, rfl, out _ _ (Same.refl _) ?_⟩
    unfold numRead
    rw [hA]
    cases oA with
    | none => rfl
    | some t =>
      show OptNum K H2 _ (if _ then _ else _)
      rw [if_pos hs]
      rfl
  · rw [show ((((Txt.partition x SL).2.1.length : Int)) != 0) = true by simp; omega]
    refine iteF ⟨_, rfl, rfl, _, rfl, ?_⟩
    cases oA with
    | none =>
      refine iteT ⟨_, rfl, out _ _ (Same.refl _) ?_⟩
      unfold numRead
      rw [hA]
      rfl
    | some t =>
      refine iteF ⟨_, rfl, _, rfl, by omega, fun H3 s3 => ?_⟩
      generalize hB : wholeS (Txt.partition x SL).2.2 = oB
      refine ⟨_, rfl, rfl, _, rfl, ?_⟩
      cases oB with
      | none =>
        refine iteT (out _ _ s3 ?_)
        unfold numRead
        rw [hA]
        show OptNum K H3 _ (if _ then _ else _)
        rw [if_neg hs, hB]
        rfl
      | some b =>
        refine iteF ?_
        refine ⟨_, rfl, _, rfl, (by show 2 ≤ sizeLine; rw [sizeLine_eq]; decide), fun p2 hp2 => ?_⟩
        have s4 := same_upd (o := .tup [.int t, .int b]) hp2
        refine ⟨_, .q t b, rfl, ⟨p2, rfl, SqT.of upd_same⟩, fun H5 s5 => ?_⟩
        refine ⟨_, rfl, ?_⟩
        cases ho : Num.ok (.q t b) with
        | false =>
          refine iteT (out _ _ (s3.trans (s4.trans s5)) ?_)
          unfold numRead
          rw [hA]
          show OptNum K H5 _ (if _ then _ else _)
          rw [if_neg hs, hB]
          show OptNum K H5 _ (if _ then _ else _)
          rw [ho, if_neg (by decide)]
          rfl
        | true =>
          refine iteF ⟨_, rfl, _, rfl, (by show 2 ≤ sizeLine; rw [sizeLine_eq]; decide), fun p6 hp6 => out _ _ (s3.trans (s4.trans (s5.trans (same_upd hp6)))) ?_⟩
          unfold numRead
          rw [hA]
          show OptNum K _ _ (if _ then _ else _)
          rw [if_neg hs, hB]
          show OptNum K _ _ (if _ then _ else _)
          rw [ho, if_pos rfl]
          exact ⟨p6, rfl, SqT.of upd_same⟩
end
end K17
set_option maxHeartbeats 1000000
namespace K17
open PySem PySem.Spec PyProof.Rows L2 Hx RZ
/-! ### sums and products of numbers -/
def plusN (m n : Num) : Num := made (m.top * n.low + n.top * m.low) (m.low * n.low)
def timesN (m n : Num) : Num := made (m.top * n.top) (m.low * n.low)
def turnN : Num → Num
  | .w i => .w (-i)
  | .q t b => .q (-t) b
/-- at most k bits -/
def Bits (n : Num) (k : Nat) : Prop := n.top.natAbs < 2 ^ k ∧ n.low.natAbs < 2 ^ k
theorem low_pos {n : Num} (h : n.ok = true) : 0 < n.low := by
  cases n with
  | w i => show (0 : Int) < 1; decide
  | q t b =>
    have h' : (decide (2 ≤ b) && decide ((Nat.gcd t.natAbs b.natAbs : Int) = 1)) = true := h
    rw [Bool.and_eq_true, decide_eq_true_eq] at h'
    show 0 < b
    omega
theorem made_one (t : Int) : made t 1 = .w t := by
  unfold made
  have e : (Nat.gcd t.natAbs (1 : Int).natAbs : Int) = 1 := by
    rw [show (1 : Int).natAbs = 1 from rfl, Nat.gcd_one_right]; rfl
  rw [e, if_pos (by decide)]
  rw [Int.ediv_one]
theorem gcd_same {t b : Int} (hb : 0 < b) : b / (Nat.gcd t.natAbs b.natAbs : Int) = 1 ↔ b = (Nat.gcd t.natAbs b.natAbs : Int) := by
  have gp := gcd_pos (t := t) hb
  have dv : (Nat.gcd t.natAbs b.natAbs : Int) ∣ b := by
    have q := Nat.gcd_dvd_right t.natAbs b.natAbs
    have q2 : ((Nat.gcd t.natAbs b.natAbs : Nat) : Int) ∣ ((b.natAbs : Nat) : Int) := Int.natCast_dvd_natCast.mpr q
    rw [Int.natAbs_of_nonneg (by omega)] at q2
    exact q2
  constructor
  · intro h
    have q := Int.ediv_mul_cancel dv
    rw [h, Int.one_mul] at q
    exact q.symm
  · intro h
    have q : b / (Nat.gcd t.natAbs b.natAbs : Int) = b / b := by
      conv => lhs; rw [← h]
    rw [q, Int.ediv_self (by omega)]
/-- a made number is one -/
theorem made_ok {t b : Int} (hb : 0 < b) : (made t b).ok = true := by
  unfold made
  have gp := gcd_pos (t := t) hb
  have dv : (Nat.gcd t.natAbs b.natAbs : Int) ∣ b := by
    have q2 : ((Nat.gcd t.natAbs b.natAbs : Nat) : Int) ∣ ((b.natAbs : Nat) : Int) := Int.natCast_dvd_natCast.mpr (Nat.gcd_dvd_right t.natAbs b.natAbs)
    rw [Int.natAbs_of_nonneg (by omega)] at q2
    exact q2
  split
  · rfl
  · next h =>
    have p : 0 < b / (Nat.gcd t.natAbs b.natAbs : Int) := Int.ediv_pos_of_pos_of_dvd hb (by omega) dv
    show (decide (2 ≤ b / (Nat.gcd t.natAbs b.natAbs : Int)) && decide ((Nat.gcd (t / (Nat.gcd t.natAbs b.natAbs : Int)).natAbs (b / (Nat.gcd t.natAbs b.natAbs : Int)).natAbs : Int) = 1)) = true
    rw [Bool.and_eq_true, decide_eq_true_eq, decide_eq_true_eq]
    refine ⟨by omega, ?_⟩
    have g0 : 0 < Nat.gcd t.natAbs b.natAbs := by omega
    rw [Int.natAbs_ediv_of_dvd (by
      have q2 : ((Nat.gcd t.natAbs b.natAbs : Nat) : Int) ∣ ((t.natAbs : Nat) : Int) := Int.natCast_dvd_natCast.mpr (Nat.gcd_dvd_left t.natAbs b.natAbs)
      exact Int.dvd_natAbs.mp q2), Int.natAbs_ediv_of_dvd dv]
    show ((Nat.gcd (t.natAbs / Nat.gcd t.natAbs b.natAbs) (b.natAbs / Nat.gcd t.natAbs b.natAbs) : Nat) : Int) = 1
    rw [Nat.gcd_div (Nat.gcd_dvd_left _ _) (Nat.gcd_dvd_right _ _), Nat.div_self g0]
    rfl
theorem mul_bits {i j : Int} {a b : Nat} (ha : i.natAbs < 2 ^ a) (hb : j.natAbs < 2 ^ b) : (i * j).natAbs < 2 ^ (a + b) := by
  rw [Int.natAbs_mul, Nat.pow_add]
  exact Nat.mul_lt_mul'' ha hb
section
variable {P : Program} {w : World} {K : PySem.W.Frag} {mg : Str → Option Value} {base : Heap}
theorem sc_bottom_of : FnScope ["value"] ["value"] (defScope sbottom_of) := ⟨rfl, rfl, rfl, by decide +kernel, rfl, by decide +kernel, by decide +kernel⟩
theorem ok_bottom_of (D : Dn K mg "bottom_of" sbottom_of) (h_isinstance : mg "isinstance" = none) (h_tuple : mg "tuple" = none) : Ok P w K mg base L2.CX0 1 "bottom_of" ["value"] (spTop K Num.low) := by
  refine Ok.mk0 D sc_bottom_of (fun vs H Q E h => ?_) (fun _ _ _ _ _ _ us hl => match us, hl with | [_], _ => rfl) (fun f cdv A outer s H vs Q E hr h => ?_)
  · obtain ⟨v, n, rfl, _⟩ := h
    rfl
  obtain ⟨v, n, rfl, hn, k⟩ := h
  refine ⟨_, (pss_one (ps_ret (pe_ifExp (pt_val (pe_isD "tuple" rfl h_isinstance h_tuple (pv 0))) (pe_ix ix_tup (pv 0) pe_int (fun _ _ => rfl)) pe_int))), ?_⟩
  cases n with
  | w i =>
    obtain rfl : v = .int i := hn
    exact ⟨_, rfl, .int i, .int i, false, rfl, iteF k⟩
  | q t b =>
    have hn' := hn.dt.dp
    obtain ⟨a, rfl, ha⟩ := hn
    exact ⟨_, rfl, .tuple [.int t, .int b], hn', true, rfl, iteT ⟨_, rfl, a, _, 1, _, rfl, rfl, ha, rfl, k⟩⟩
def spTurn (K : PySem.W.Frag) : Sp := fun vs H Q _ => ∃ (v : V) (n : Num), vs = [v] ∧ NumAt K H v n ∧ ∀ u H', Same H H' → NumAt K H' u (turnN n) → Q u H'
theorem sc_turned : FnScope ["value"] ["value"] (defScope sturned) := ⟨rfl, rfl, rfl, by decide +kernel, rfl, by decide +kernel, by decide +kernel⟩
theorem ok_turned (D : Dn K mg "turned" sturned) (h_isinstance : mg "isinstance" = none) (h_tuple : mg "tuple" = none) : Ok P w K mg base L2.CX0 1 "turned" ["value"] (spTurn K) := by
  refine Ok.mk0 D sc_turned (fun vs H Q E h => ?_) (fun _ _ _ _ _ _ us hl => match us, hl with | [_], _ => rfl) (fun f cdv A outer s H vs Q E hr h => ?_)
  · obtain ⟨v, n, rfl, _⟩ := h
    rfl
  obtain ⟨v, n, rfl, hn, k⟩ := h
  refine ⟨_, (pss_one (ps_ret (pe_ifExp (pt_val (pe_isD "tuple" rfl h_isinstance h_tuple (pv 0))) (pe_tup (pa_cons (pe_un un_neg (pe_ix ix_tup (pv 0) pe_int (fun _ _ => rfl))) (pa_cons (pe_ix ix_tup (pv 0) pe_int (fun _ _ => rfl)) pa_nil))) (pe_un un_neg (pv 0))))), ?_⟩
  cases n with
  | w i =>
    obtain rfl : v = .int i := hn
    exact ⟨_, rfl, .int i, .int i, false, rfl, iteF ⟨_, rfl, i, rfl, k _ H (Same.refl H) rfl⟩⟩
  | q t b =>
    have hn' := hn.dt.dp
    obtain ⟨a, rfl, ha⟩ := hn
    exact ⟨_, rfl, .tuple [.int t, .int b], hn', true, rfl, iteT ⟨_, rfl, a, _, 0, _, rfl, rfl, ha, rfl, t, rfl, _, rfl, a, _, 1, _, rfl, rfl, ha, rfl, by rw [sizeLine_eq]; exact (by decide : (2 : Nat) ≤ 16777216), fun p hp => k _ _ (same_upd hp) ⟨p, rfl, SqT.of upd_same⟩⟩⟩
theorem sc_divided : FnScope ["top", "bottom", "common"] ["top", "bottom"] (defScope sdivided) := ⟨rfl, rfl, rfl, by decide +kernel, rfl, by decide +kernel, by decide +kernel⟩
theorem ok_divided (D : Dn K mg "divided" sdivided) (g_gcd : mg "gcd" = some (.builtin "math.gcd")) : Ok P w K mg base L2.CX0 1 "divided" ["top", "bottom"] (spMade K) := by
  refine Ok.mk0 D sc_divided (fun vs H Q E h => ?_) (fun _ _ _ _ _ _ us hl => match us, hl with | [_, _], _ => rfl) (fun f cdv A outer s H vs Q E hr h => ?_)
  · obtain ⟨t, b, rfl, _⟩ := h
    rfl
  obtain ⟨t, b, rfl, hb, h9, k⟩ := h
  have nd := sc_divided.nd
  refine ⟨_, (pss_cons (ps_set (i := 2) nd rfl (Or.inl rfl) (pe_callBfun cr_gcd (by rfl) g_gcd (pa_cons (pv 0) (pa_cons (pv 1) pa_nil))))
  (pss_cons (ps_if (pt_cmpR op_lt (pv 1) pe_int (nomark _))
    (pss_one (ps_set (i := 2) nd rfl (Or.inl rfl) (pe_un un_neg (pv 2))))
    pss_nil)
  (pss_cons (ps_if (pt_cmpR op_eq (pv 1) (pv 2) (nomark _))
    (pss_one (ps_ret (pe_op op_fdivW (pv 0) (pv 2))))
    pss_nil)
  (pss_one (ps_ret (pe_tup (pa_cons (pe_op op_fdivW (pv 0) (pv 2)) (pa_cons (pe_op op_fdivW (pv 1) (pv 2)) pa_nil)))))))), ?_⟩
  have gp := gcd_pos (t := t) hb
  have g9 : (Nat.gcd t.natAbs b.natAbs : Int).natAbs < 2 ^ 9000 := Nat.lt_of_le_of_lt (gcd_le hb) h9
  have gs := gcd_same (t := t) hb
  refine ⟨_, rfl, _, rfl, t, b, rfl, ?_⟩
  refine ⟨_, rfl, _, _, rfl, rfl, _, rfl, ?_⟩
  rw [decide_eq_false (show ¬ b < 0 by omega)]
  refine iteF ⟨_, rfl, _, rfl, rfl, _, rfl, ?_⟩
  rw [deq_int]
  by_cases h1 : b = (Nat.gcd t.natAbs b.natAbs : Int)
  · rw [decide_eq_true h1]
    refine iteT ⟨_, rfl, _, rfl, _, _, rfl, rfl, wide_div gp g9 (by decide) (by decide), k _ H (Same.refl H) ?_⟩
    unfold made
    rw [if_pos (gs.mpr h1)]
    rfl
  · rw [decide_eq_false h1]
    refine iteF ⟨_, rfl, _, rfl, _, _, rfl, rfl, wide_div gp g9 (by decide) (by decide), _, rfl, _, rfl, _, _, rfl, rfl, wide_div gp g9 (by decide) (by decide), by rw [sizeLine_eq]; exact (by decide : (2 : Nat) ≤ 16777216), fun p hp => k _ _ (same_upd hp) ?_⟩
    unfold made
    rw [if_neg fun q => h1 (gs.mp q)]
    exact ⟨p, rfl, SqT.of upd_same⟩
def spPlus (K : PySem.W.Frag) : Sp := fun vs H Q _ => ∃ (v u : V) (m n : Num), vs = [v, u] ∧ NumAt K H v m ∧ NumAt K H u n ∧ m.ok = true ∧ n.ok = true ∧ Bits m 4400 ∧ Bits n 4400 ∧ ∀ x H', Same H H' → NumAt K H' x (plusN m n) → Q x H'
theorem low_bits {m n : Num} (bm : Bits m 4400) (bn : Bits n 4400) : (m.low * n.low).natAbs < 2 ^ 9000 := Nat.lt_of_lt_of_le (mul_bits bm.2 bn.2) (Nat.pow_le_pow_right (by decide) (by decide))
theorem wide4 {i j : Int} (hi : i.natAbs < 2 ^ 4400) (hj : j.natAbs < 2 ^ 4400) : CMulW i j := wide_mul hi hj (by decide) (by decide) (by decide)
theorem sc_plus : FnScope ["one", "other", "top"] ["one", "other"] (defScope splus) := ⟨rfl, rfl, rfl, by decide +kernel, rfl, by decide +kernel, by decide +kernel⟩
theorem ok_plus (D : Dn K mg "plus" splus) (B0 : Ok P w K mg base L2.CX0 1 "top_of" ["value"] (spTop K Num.top)) (B1 : Ok P w K mg base L2.CX0 1 "bottom_of" ["value"] (spTop K Num.low)) (B2 : Ok P w K mg base L2.CX0 1 "divided" ["top", "bottom"] (spMade K)) (h_isinstance : mg "isinstance" = none) (h_int : mg "int" = none) : Ok P w K mg base L2.CX0 2 "plus" ["one", "other"] (spPlus K) := by
  obtain ⟨_, _, g_top_of, k_top_of, b_top_of, F_top_of⟩ := B0.ex
  obtain ⟨_, _, g_bottom_of, k_bottom_of, b_bottom_of, F_bottom_of⟩ := B1.ex
  obtain ⟨_, _, g_divided, k_divided, b_divided, F_divided⟩ := B2.ex
  refine Ok.mk0 D sc_plus (fun vs H Q E h => ?_) (fun _ _ _ _ _ _ us hl => match us, hl with | [_, _], _ => rfl) (fun f cdv A outer s H vs Q E hr h => ?_)
  · obtain ⟨v, u, m, n, rfl, _⟩ := h
    rfl
  obtain ⟨v, u, m, n, rfl, hm, hn, om, on, bm, bn, k⟩ := h
  have nd := sc_plus.nd
  refine ⟨_, (pss_cons (ps_if (PW.pt (pw_and (pt_val (pe_isD "int" rfl h_isinstance h_int (pv 0))) (pw_and1 (pt_val (pe_isD "int" rfl h_isinstance h_int (pv 1))))))
    (pss_one (ps_ret (pe_op op_add (pv 0) (pv 1))))
    pss_nil)
  (pss_cons (ps_set (i := 2) nd rfl (Or.inl rfl) (pe_op op_add (pe_op op_mulW (pe_call F_top_of hr rfl g_top_of k_top_of b_top_of .nil pass0 (pa_cons (pv 0) pa_nil)) (pe_call F_bottom_of hr rfl g_bottom_of k_bottom_of b_bottom_of .nil pass0 (pa_cons (pv 1) pa_nil))) (pe_op op_mulW (pe_call F_top_of hr rfl g_top_of k_top_of b_top_of .nil pass0 (pa_cons (pv 1) pa_nil)) (pe_call F_bottom_of hr rfl g_bottom_of k_bottom_of b_bottom_of .nil pass0 (pa_cons (pv 0) pa_nil)))))
  (pss_one (ps_ret (pe_call F_divided hr rfl g_divided k_divided b_divided .nil pass0 (pa_cons (pv 2) (pa_cons (pe_op op_mulW (pe_call F_bottom_of hr rfl g_bottom_of k_bottom_of b_bottom_of .nil pass0 (pa_cons (pv 0) pa_nil)) (pe_call F_bottom_of hr rfl g_bottom_of k_bottom_of b_bottom_of .nil pass0 (pa_cons (pv 1) pa_nil))) pa_nil))))))), ?_⟩
  have lm := low_pos om
  have ln := low_pos on
  cases m with
  | w i =>
    have hmw : v = .int i := hm
    cases n with
    | w j =>
      have hnw : u = .int j := hn
      subst hmw hnw
      refine ⟨_, rfl, .int i, .int i, _, rfl, iteT ⟨_, rfl, .int j, .int j, _, rfl, iteT ⟨_, rfl, _, rfl, _, _, rfl, rfl, k _ H (Same.refl H) ?_⟩⟩⟩
      have e : plusN (.w i) (.w j) = .w (i + j) := by
        show made (i * 1 + j * 1) (1 * 1) = _
        rw [Int.mul_one, Int.mul_one, Int.mul_one, made_one]
      rw [e]
      rfl
    | q t b =>
      have hnd := hn.dt.dp
      refine ⟨_, rfl, .int i, by rw [hmw]; exact .int i, _, rfl, iteT ⟨_, rfl, .tuple [.int t, .int b], hnd, _, rfl, iteF ?_⟩⟩
      refine ⟨_, rfl, v, .w i, rfl, hm, _, rfl, u, .q t b, rfl, hn, _, _, rfl, rfl, wide4 bm.1 bn.2, _, rfl, u, .q t b, rfl, hn, _, rfl, v, .w i, rfl, hm, _, _, rfl, rfl, wide4 bn.1 bm.2, _, _, rfl, rfl, ?_⟩
      exact ⟨_, rfl, _, rfl, v, .w i, rfl, hm, _, rfl, u, .q t b, rfl, hn, _, _, rfl, rfl, wide4 bm.2 bn.2, _, _, rfl, Int.mul_pos lm ln, low_bits bm bn, fun x H' s hx => k x H' s hx⟩
  | q t0 b0 =>
    have hmd := hm.dt.dp
    refine ⟨_, rfl, .tuple [.int t0, .int b0], hmd, _, rfl, iteF (iteF ?_)⟩
    refine ⟨_, rfl, v, .q t0 b0, rfl, hm, _, rfl, u, n, rfl, hn, _, _, rfl, rfl, wide4 bm.1 bn.2, _, rfl, u, n, rfl, hn, _, rfl, v, .q t0 b0, rfl, hm, _, _, rfl, rfl, wide4 bn.1 bm.2, _, _, rfl, rfl, ?_⟩
    exact ⟨_, rfl, _, rfl, v, .q t0 b0, rfl, hm, _, rfl, u, n, rfl, hn, _, _, rfl, rfl, wide4 bm.2 bn.2, _, _, rfl, Int.mul_pos lm ln, low_bits bm bn, fun x H' s hx => k x H' s hx⟩
end
end K17
set_option maxHeartbeats 1000000
namespace K17
open PySem PySem.Spec PyProof.Rows L2 Hx RZ
/-! ### the law's own sums, products and comparisons -/
section
variable {P : Program} {w : World} {K : PySem.W.Frag} {mg : Str → Option Value} {base : Heap}
theorem sc_ct_plus : FnScope ["one", "other", "under", "below"] ["one", "other"] (defScope sL_ct_plus) := ⟨rfl, rfl, rfl, by decide +kernel, rfl, by decide +kernel, by decide +kernel⟩
theorem ok_ct_plus (D : Dn K mg "_law_ct_plus" sL_ct_plus) (B0 : Ok P w K mg base L2.CX0 1 "_law_ct_top" ["item"] (spTop K Num.top)) (B1 : Ok P w K mg base L2.CX0 1 "_law_ct_low" ["item"] (spTop K Num.low)) (B2 : Ok P w K mg base L2.CX0 2 "_law_ct_made" ["top", "bottom"] (spMade K)) : Ok P w K mg base L2.CX0 3 "_law_ct_plus" ["one", "other"] (spPlus K) := by
  obtain ⟨_, _, g_ct_top, k_ct_top, b_ct_top, F_ct_top⟩ := B0.ex
  obtain ⟨_, _, g_ct_low, k_ct_low, b_ct_low, F_ct_low⟩ := B1.ex
  obtain ⟨_, _, g_ct_made, k_ct_made, b_ct_made, F_ct_made⟩ := B2.ex
  refine Ok.mk0 D sc_ct_plus (fun vs H Q E h => ?_) (fun _ _ _ _ _ _ us hl => match us, hl with | [_, _], _ => rfl) (fun f cdv A outer s H vs Q E hr h => ?_)
  · obtain ⟨v, u, m, n, rfl, _⟩ := h
    rfl
  obtain ⟨v, u, m, n, rfl, hm, hn, om, on, bm, bn, k⟩ := h
  have nd := sc_ct_plus.nd
  have hr1 := hr.mono (show 1 ≤ 2 by decide)
  refine ⟨_, (pss_cons (ps_par (i := 2) (j := 3) (by rfl) nd rfl rfl (by decide) rfl rfl (pa_cons (pe_call F_ct_low hr1 rfl g_ct_low k_ct_low b_ct_low .nil pass0 (pa_cons (pv 0) pa_nil)) (pa_cons (pe_call F_ct_low hr1 rfl g_ct_low k_ct_low b_ct_low .nil pass0 (pa_cons (pv 1) pa_nil)) pa_nil)) (by rfl))
  (pss_one (ps_ret (pe_call F_ct_made hr rfl g_ct_made k_ct_made b_ct_made .nil pass0 (pa_cons (pe_op op_add (pe_op op_mulW (pe_call F_ct_top hr1 rfl g_ct_top k_ct_top b_ct_top .nil pass0 (pa_cons (pv 0) pa_nil)) (pv 3)) (pe_op op_mulW (pe_call F_ct_top hr1 rfl g_ct_top k_ct_top b_ct_top .nil pass0 (pa_cons (pv 1) pa_nil)) (pv 2))) (pa_cons (pe_op op_mulW (pv 2) (pv 3)) pa_nil)))))), ?_⟩
  have lm := low_pos om
  have ln := low_pos on
  exact ⟨_, rfl, v, m, rfl, hm, _, rfl, u, n, rfl, hn, _, _, rfl, _, rfl, v, m, rfl, hm, _, rfl, _, _, rfl, rfl, wide4 bm.1 bn.2, _, rfl, u, n, rfl, hn, _, rfl, _, _, rfl, rfl, wide4 bn.1 bm.2, _, _, rfl, rfl, _, rfl, _, rfl, _, _, rfl, rfl, wide4 bm.2 bn.2, _, _, rfl, Int.mul_pos lm ln, low_bits bm bn, fun x H' s hx => k x H' s hx⟩
def spTimes (K : PySem.W.Frag) : Sp := fun vs H Q _ => ∃ (v u : V) (m n : Num), vs = [v, u] ∧ NumAt K H v m ∧ NumAt K H u n ∧ m.ok = true ∧ n.ok = true ∧ Bits m 4400 ∧ Bits n 4400 ∧ ∀ x H', Same H H' → NumAt K H' x (timesN m n) → Q x H'
theorem sc_ct_times : FnScope ["one", "other"] ["one", "other"] (defScope sL_ct_times) := ⟨rfl, rfl, rfl, by decide +kernel, rfl, by decide +kernel, by decide +kernel⟩
theorem ok_ct_times (D : Dn K mg "_law_ct_times" sL_ct_times) (B0 : Ok P w K mg base L2.CX0 1 "_law_ct_top" ["item"] (spTop K Num.top)) (B1 : Ok P w K mg base L2.CX0 1 "_law_ct_low" ["item"] (spTop K Num.low)) (B2 : Ok P w K mg base L2.CX0 2 "_law_ct_made" ["top", "bottom"] (spMade K)) : Ok P w K mg base L2.CX0 3 "_law_ct_times" ["one", "other"] (spTimes K) := by
  obtain ⟨_, _, g_ct_top, k_ct_top, b_ct_top, F_ct_top⟩ := B0.ex
  obtain ⟨_, _, g_ct_low, k_ct_low, b_ct_low, F_ct_low⟩ := B1.ex
  obtain ⟨_, _, g_ct_made, k_ct_made, b_ct_made, F_ct_made⟩ := B2.ex
  refine Ok.mk0 D sc_ct_times (fun vs H Q E h => ?_) (fun _ _ _ _ _ _ us hl => match us, hl with | [_, _], _ => rfl) (fun f cdv A outer s H vs Q E hr h => ?_)
  · obtain ⟨v, u, m, n, rfl, _⟩ := h
    rfl
  obtain ⟨v, u, m, n, rfl, hm, hn, om, on, bm, bn, k⟩ := h
  have hr1 := hr.mono (show 1 ≤ 2 by decide)
  refine ⟨_, (pss_one (ps_ret (pe_call F_ct_made hr rfl g_ct_made k_ct_made b_ct_made .nil pass0 (pa_cons (pe_op op_mulW (pe_call F_ct_top hr1 rfl g_ct_top k_ct_top b_ct_top .nil pass0 (pa_cons (pv 0) pa_nil)) (pe_call F_ct_top hr1 rfl g_ct_top k_ct_top b_ct_top .nil pass0 (pa_cons (pv 1) pa_nil))) (pa_cons (pe_op op_mulW (pe_call F_ct_low hr1 rfl g_ct_low k_ct_low b_ct_low .nil pass0 (pa_cons (pv 0) pa_nil)) (pe_call F_ct_low hr1 rfl g_ct_low k_ct_low b_ct_low .nil pass0 (pa_cons (pv 1) pa_nil))) pa_nil))))), ?_⟩
  exact ⟨_, rfl, v, m, rfl, hm, _, rfl, u, n, rfl, hn, _, _, rfl, rfl, wide4 bm.1 bn.1, _, rfl, v, m, rfl, hm, _, rfl, u, n, rfl, hn, _, _, rfl, rfl, wide4 bm.2 bn.2, _, _, rfl, Int.mul_pos (low_pos om) (low_pos on), low_bits bm bn, fun x H' s hx => k x H' s hx⟩
def spLess (K : PySem.W.Frag) : Sp := fun vs H Q _ => ∃ (v u : V) (m n : Num), vs = [v, u] ∧ NumAt K H v m ∧ NumAt K H u n ∧ Bits m 4400 ∧ Bits n 4400 ∧ Q (.bl (decide (m.top * n.low < n.top * m.low))) H
theorem ok_ct_less2 (D : Dn K mg "_law_ct_less" sL_ct_less) (B1 : Ok P w K mg base L2.CX0 1 "_law_ct_top" ["item"] (spTop K Num.top)) (B2 : Ok P w K mg base L2.CX0 1 "_law_ct_low" ["item"] (spTop K Num.low)) :
    Ok P w K mg base L2.CX0 2 "_law_ct_less" ["one", "other"] (spLess K) := by
  obtain ⟨_, _, g_ct_top, k_ct_top, b_ct_top, F_ct_top⟩ := B1.ex
  obtain ⟨_, _, g_ct_low, k_ct_low, b_ct_low, F_ct_low⟩ := B2.ex
  refine Ok.mk0 D sc_ct_less (fun vs H Q E h => ?_) (fun _ _ _ _ _ _ us hl => match us, hl with | [_, _], _ => rfl) (fun f cdv A outer s H vs Q E hr h => ?_)
  · obtain ⟨v, u, m, n, rfl, _⟩ := h
    rfl
  obtain ⟨v, u, m, n, rfl, hm, hn, bm, bn, k⟩ := h
  refine ⟨_, (pss_one (ps_ret (pe_cmpR op_lt (pe_op op_mulW (pe_call F_ct_top hr rfl g_ct_top k_ct_top b_ct_top .nil pass0 (pa_cons (pv 0) pa_nil)) (pe_call F_ct_low hr rfl g_ct_low k_ct_low b_ct_low .nil pass0 (pa_cons (pv 1) pa_nil))) (pe_op op_mulW (pe_call F_ct_top hr rfl g_ct_top k_ct_top b_ct_top .nil pass0 (pa_cons (pv 1) pa_nil)) (pe_call F_ct_low hr rfl g_ct_low k_ct_low b_ct_low .nil pass0 (pa_cons (pv 0) pa_nil))) (nomark _)))), ?_⟩
  exact ⟨_, rfl, v, m, rfl, hm, _, rfl, u, n, rfl, hn, _, _, rfl, rfl, wide4 bm.1 bn.2, _, rfl, u, n, rfl, hn, _, rfl, v, m, rfl, hm, _, _, rfl, rfl, wide4 bn.1 bm.2, _, _, rfl, rfl, k⟩
end
/-! ### numbers that are made -/
theorem bits_one : Bits (.w 1) 1 := ⟨by decide, by decide⟩
theorem bits_neg : Bits (.w (-1)) 1 := ⟨by decide, by decide⟩
theorem Bits.mono {n : Num} {a b : Nat} (h : Bits n a) (hl : a ≤ b) : Bits n b := ⟨Nat.lt_of_lt_of_le h.1 (Nat.pow_le_pow_right (by decide) hl), Nat.lt_of_lt_of_le h.2 (Nat.pow_le_pow_right (by decide) hl)⟩
theorem made_bits {t b : Int} {k : Nat} (hb : 0 < b) (h1 : t.natAbs < 2 ^ k) (h2 : b.natAbs < 2 ^ k) (hk : 0 < k) : Bits (made t b) k := by
  have gp := gcd_pos (t := t) hb
  have g0 : 0 < Nat.gcd t.natAbs b.natAbs := by omega
  have dl : ((Nat.gcd t.natAbs b.natAbs : Nat) : Int) ∣ t := Int.dvd_natAbs.mp (Int.natCast_dvd_natCast.mpr (Nat.gcd_dvd_left t.natAbs b.natAbs))
  have dr : ((Nat.gcd t.natAbs b.natAbs : Nat) : Int) ∣ b := Int.dvd_natAbs.mp (Int.natCast_dvd_natCast.mpr (Nat.gcd_dvd_right t.natAbs b.natAbs))
  have e1 : (t / (Nat.gcd t.natAbs b.natAbs : Int)).natAbs < 2 ^ k := by
    rw [Int.natAbs_ediv_of_dvd dl]
    exact Nat.lt_of_le_of_lt (Nat.div_le_self _ _) h1
  have e2 : (b / (Nat.gcd t.natAbs b.natAbs : Int)).natAbs < 2 ^ k := by
    rw [Int.natAbs_ediv_of_dvd dr]
    exact Nat.lt_of_le_of_lt (Nat.div_le_self _ _) h2
  unfold made
  split
  · exact ⟨e1, Nat.lt_of_lt_of_le (by decide : (1 : Int).natAbs < 2 ^ 1) (Nat.pow_le_pow_right (by decide) hk)⟩
  · exact ⟨e1, e2⟩
theorem plus_bits {m n : Num} {a b : Nat} (hm : Bits m a) (hn : Bits n b) (om : m.ok = true) (on : n.ok = true) : Bits (plusN m n) (a + b + 1) := by
  have h1 := mul_bits hm.1 hn.2
  have h2 := mul_bits hn.1 hm.2
  have h3 := mul_bits hm.2 hn.2
  rw [Nat.add_comm b a] at h2
  refine made_bits (Int.mul_pos (low_pos om) (low_pos on)) ?_ ?_ (by omega)
  · have := Int.natAbs_add_le (m.top * n.low) (n.top * m.low)
    rw [Nat.pow_succ]
    omega
  · rw [Nat.pow_succ]
    omega
theorem times_bits {m n : Num} {a b : Nat} (hm : Bits m a) (hn : Bits n b) (om : m.ok = true) (on : n.ok = true) (h : 0 < a + b) : Bits (timesN m n) (a + b) :=
  made_bits (Int.mul_pos (low_pos om) (low_pos on)) (mul_bits hm.1 hn.1) (mul_bits hm.2 hn.2) h
theorem plus_ok {m n : Num} (om : m.ok = true) (on : n.ok = true) : (plusN m n).ok = true := made_ok (Int.mul_pos (low_pos om) (low_pos on))
theorem times_ok {m n : Num} (om : m.ok = true) (on : n.ok = true) : (timesN m n).ok = true := made_ok (Int.mul_pos (low_pos om) (low_pos on))
/-- a number is made of its own parts -/
theorem made_self {n : Num} (h : n.ok = true) : made n.top n.low = n := by
  cases n with
  | w i => exact made_one i
  | q t b =>
    have h' : (decide (2 ≤ b) && decide ((Nat.gcd t.natAbs b.natAbs : Int) = 1)) = true := h
    rw [Bool.and_eq_true, decide_eq_true_eq, decide_eq_true_eq] at h'
    show made t b = .q t b
    unfold made
    rw [h'.2, Int.ediv_one, Int.ediv_one, if_neg (by omega)]
theorem times_one {n : Num} (h : n.ok = true) : timesN (.w 1) n = n := by
  show made (1 * n.top) (1 * n.low) = n
  rw [Int.one_mul, Int.one_mul, made_self h]
theorem turn_ok {n : Num} (h : n.ok = true) : (turnN n).ok = true := by
  cases n with
  | w i => rfl
  | q t b =>
    show (decide (2 ≤ b) && decide ((Nat.gcd (-t).natAbs b.natAbs : Int) = 1)) = true
    rw [Int.natAbs_neg]
    exact h
theorem turn_top (n : Num) : (turnN n).top = -n.top := by cases n <;> rfl
theorem turn_low (n : Num) : (turnN n).low = n.low := by cases n <;> rfl
theorem turn_turn (n : Num) : turnN (turnN n) = n := by
  cases n with
  | w i => show Num.w (- -i) = _; rw [Int.neg_neg]
  | q t b => show Num.q (- -t) b = _; rw [Int.neg_neg]
theorem turn_bits {n : Num} {k : Nat} (h : Bits n k) : Bits (turnN n) k := ⟨by rw [turn_top, Int.natAbs_neg]; exact h.1, by rw [turn_low]; exact h.2⟩
theorem times_neg {n : Num} (h : n.ok = true) : timesN (.w (-1)) n = turnN n := by
  show made ((-1) * n.top) (1 * n.low) = _
  rw [Int.one_mul, Int.neg_one_mul, ← turn_top, ← turn_low n, made_self (turn_ok h)]
end K17
set_option maxHeartbeats 4000000
/-! ### sets of texts: set(list), set(tuple), sorted(set) -/
namespace Hx
open PySem PySem.Spec PyProof.Rows L2 PySem.Froz
/-- the walk over the set is told -/
def Told (w : World) (t : SetTable) : Prop := w.params.followText "set-order" = true ∨ t.led = true
/-- the set at a holds just the texts l, each once -/
def TxR (P : Program) (w : World) (h : Heap) (a : Addr) (l : List Str) : Prop :=
  ∃ D : SD, h.get? a = some (sObj "set" D) ∧ TxOk P w D l ∧ l.Nodup ∧ Ris D.2.2.place.toList ∧ Told w D.2.2
theorem TxR.at {P : Program} {w : World} {h h' : Heap} {a : Addr} {l : List Str} (R : TxR P w h a l) (k : ∀ o, h.get? a = some o → h'.get? a = some o) : TxR P w h' a l := by
  obtain ⟨D, e, r⟩ := R
  exact ⟨D, k _ e, r⟩
theorem told_add {w : World} {D : SD} {x : Int} {v : Value} (r : Ris D.2.2.place.toList) (q : Told w D.2.2) : Ris (addTx x v D).2.2.place.toList ∧ Told w (addTx x v D).2.2 := by
  obtain ⟨es, ep, t⟩ := D
  have r1 := layNew_ris t es x v r
  have l1 := layNew_led t es x v
  have q1 : Told w (layNew t es x v).2.1 := q.imp id fun z => by rw [l1]; exact z
  unfold addTx
  generalize layNew t es x v = Z at r1 q1
  obtain ⟨es1, t1, wd, gv⟩ := Z
  dsimp only at r1 q1 ⊢
  have both : ∀ t2 : SetTable, t2.place = t1.place → t2.led = t1.led → Ris (tailTx ep es1 t2 wd).2.2.place.toList ∧ Told w (tailTx ep es1 t2 wd).2.2 := fun t2 p2 l2 => by
    have r2 : Ris t2.place.toList := by rw [p2]; exact r1
    have q2 : Told w t2 := q1.imp id fun z => by rw [l2]; exact z
    unfold tailTx
    split
    · exact ⟨relayAll_ris t2 es1 _, q2.imp id fun z => by rw [relayAll_led t2 es1 _]; exact z⟩
    · exact ⟨r2, q2⟩
  split
  · exact both _ rfl rfl
  · exact both _ rfl rfl
section
variable {P : Program} {w : World} {A : Around} {E : Value → Shared → Prop} {s : Shared}
/-- a text that is in -/
theorem had_x {a : Addr} {T : String} {D : SD} {l : List Str} {y : Str} {u : Tok} {Q : Bool → Shared → Prop} (ho : s.heap.get? a = some (sObj T D)) (F : TxOk P w D l) (hy : y ∈ l) (hb : l.length < scanBound) (h : Q false s) :
    wpAny (model P w) A (setAddHashed a (.str y u) (hashStr w y)) Q E s := by
  obtain ⟨arr, c0, tb⟩ := D
  have nb : arr.size < scanBound := by rw [F.sz]; exact hb
  obtain ⟨e0, me, qe⟩ := (F.mem y).mp hy
  unfold setAddHashed setAddHashedIn
  refine wpAny_holding (wpAny_bind (wpAny_setState_of ho rfl F.fit ?_))
  dsimp only
  rw [byScan_of rfl nb F.el]
  simp only [↓reduceIte]
  unfold setAddByScan
  refine wpAny_bind (wpAny_bind (wpAny_rule (wpAny_bind (wpAny_setScan_of (knd := strKind P w) (k := y) (is_str y u) ho rfl F.fit F.el ?_))))
  cases hf : List.findIdx? (fun e => (strKind P w).is y e.2) arr.toList with
  | none =>
    have c := List.findIdx?_eq_none_iff.mp hf e0 me
    rw [qe] at c
    cases c
  | some j =>
    dsimp only
    exact wpAny_pure (wpAny_pure h)
/-- a text more -/
theorem addR {a : Addr} {l : List Str} {y : Str} {u : Tok} {Q : Bool → Shared → Prop} (R : TxR P w s.heap a l) (hb : l.length + 1 < scanBound)
    (h : ∀ b h' l', Heap.SameBut a s.heap h' → TxR P w h' a l' → (∀ z, z ∈ l' ↔ z = y ∨ z ∈ l) → l'.length ≤ l.length + 1 → Q b { s with heap := h' }) :
    wpAny (model P w) A (setAddHashed a (.str y u) (hashStr w y)) Q E s := by
  obtain ⟨D, ho, F, nd, r, q⟩ := R
  by_cases hy : y ∈ l
  · exact had_x ho F hy (by omega) (h false s.heap l (Heap.SameBut.refl a s.heap) ⟨D, ho, F, nd, r, q⟩ (fun z => ⟨.inr, fun e => e.elim (fun e => e ▸ hy) id⟩) (Nat.le_succ _))
  · refine add_x ho F hy hb (h true _ (y :: l) (Heap.SameBut.update s.heap a _) ⟨_, get_upd _ ho rfl, add_ok u F, List.nodup_cons.mpr ⟨hy, nd⟩, told_add r q⟩ (fun z => List.mem_cons) (by simp))
theorem fresh_tx {h : Heap} {a : Addr} (ho : h.get? a = some { cls := .type "set", dict := none, data := .set #[] 0 (.fresh 0 0 (!w.params.followText "set-order")) }) : TxR P w h a [] :=
  ⟨(#[], 0, .fresh 0 0 (!w.params.followText "set-order")), ho, TxOk.nil (by rfl), .nil, List.Pairwise.nil, by
    show _ ∨ (!w.params.followText "set-order") = true
    cases w.params.followText "set-order" <;> simp⟩
/-- the adds of all that an iterator gives -/
theorem update_tx {I : Addr} {fp wr : List Addr} {G : Array GenState → Array GenState → Prop} {n : Nat} {Pv : Nat → Value → Prop} {St : Nat → Shared → Prop} {R : Result → Shared → Prop}
    (W : WalksS P w A.in1 I fp wr G n Pv St) (Z : Addr) (hZ : Z ∉ fp) (xs : List Str) (hn : n = xs.length) (hb : xs.length + 1 < scanBound) (hv : ∀ i v, Pv i v → ∃ x t, xs[i]? = some x ∧ v = .str x t) :
    ∀ (m i : Nat) (s : Shared) (l : List Str), n - i = m → i ≤ n → St i s → TxR P w s.heap Z l → (∀ z, z ∈ l ↔ z ∈ xs.take i) → l.length ≤ i →
      (∀ s' l', Moved (Z :: wr) G s s' → TxR P w s'.heap Z l' → (∀ z, z ∈ l' ↔ z ∈ xs) → l'.length ≤ n → R (.ok (.ret .none)) s') →
      codeAny (model P w) A (.builtin "set.update.loop" ⟨[.ref Z, .ref I], []⟩) R s := by
  have nw : Z ∉ wr := fun q => hZ (W.sub _ q)
  have up : ∀ b ∈ wr, b ∈ Z :: wr := fun b => List.mem_cons_of_mem _
  intro m
  induction m with
  | zero =>
    intro i s l e0 hi st T hl ln k
    obtain rfl : i = n := by omega
    refine codeAny_builtin F.entry_set_update_loop ?_
    rw [Around.under_plainId F.plain_set_update_loop _]
    refine wpAny_bind (m := pyNext (.ref I)) (W.done s _ _ st fun s1 mv => ?_)
    show wpAny _ A.in1 (ret .none) _ _ s1
    refine wpAny_pure (k s1 l (mv.mono up) (T.at fun o => mv.heap Z o nw) (fun z => ?_) ln)
    rw [hl, List.take_of_length_le (by omega)]
  | succ m ih =>
    intro i s l e0 hi st T hl ln k
    have lt : i < n := by omega
    refine codeAny_builtin F.entry_set_update_loop ?_
    rw [Around.under_plainId F.plain_set_update_loop _]
    refine wpAny_bind (m := pyNext (.ref I)) (W.item i s _ _ lt st fun v s1 pv st1 mv => ?_)
    obtain ⟨x, t, hx, rfl⟩ := hv i v pv
    refine wpAny_bind (m := holding [Value.str x t] (setAdd Z (.str x t))) (wpAny_holding ?_)
    unfold setAdd
    refine wpAny_holding (wpAny_bind ((strKind P w).pyHash (k := x) (is_str x t) ?_))
    refine addR (s := { s1 with toks := s1.toks + 1 }) (T.at fun o => mv.heap Z o nw) (by omega) fun b h2 l2 sb T2 m2 n2 => ?_
    refine wpAny_pure ⟨plainId_quiet F.plain_set_update_loop _, ih (i + 1) _ l2 (by omega) lt (W.frame _ s1 _ _ st1 (Nat.le_succ _) fun c hc o e => ?_) T2 (fun z => ?_) (by omega) fun s3 l3 mv3 T3 m3 n3 => k s3 l3 (Moved.trans W.gtrans ((mv.mono up).then_heap (Nat.le_succ _) fun c o nc e => ?_) mv3) T3 m3 n3⟩
    · rw [sb.2 c (fun q => hZ (q ▸ hc))]
      exact e
    · rw [m2, hl, List.take_add_one, hx, List.mem_append]
      simp [or_comm]
    · rw [sb.2 c (fun q => nc (q ▸ List.mem_cons_self))]
      exact e
abbrev newSet (w : World) : Obj := { cls := .type "set", dict := none, data := .set #[] 0 (.fresh 0 0 (!w.params.followText "set-order")) }
set_option maxHeartbeats 8000000 in
/-- set(v), by what its __init__ does -/
theorem call_set_by {v : Value} {Q : Value → Shared → Prop} (Good : Shared → Prop)
    (hi : ∀ A' : Around, A'.handled = A.handled → codeAny (model P w) A' (.call (.builtin "set.__init__") ⟨[.ref s.heap.objs.size, v], []⟩) (wants (fun r s2 => r = .none ∧ Good s2) E) { s with heap := s.heap.push (newSet w) })
    (k : ∀ s2, Good s2 → Q (.ref s.heap.objs.size) s2) : wpAny (model P w) A (call (.type "set") [v]) Q E s := by
  have am := F.called_set.made
  have as := F.called_set.sub
  have an := F.called_set.notType
  have ac := F.called_set.canCreate
  have at1 := F.typeCall_set_1 v
  obtain ⟨cx, tl, mro⟩ := F.called_set.mro
  refine wpAny_call (codeAny_of_tree ?_)
  show wpAny _ _ (callAny (.type "set") _) _ _ s
  refine wpAny_pure ⟨Code.quiet_builtin _ (by decide +kernel), codeAny_builtin F.entry_type_call ?_⟩
  rw [Around.under_plain (weight_type_call_type "set" [v] []) rfl]
  repeat (any_goals (first | assumption | wp_step))
  refine codeAny_mono (code_set_led1 v (E := E) (Q₁ := fun x s₁ => x = .ref s.heap.objs.size ∧ s₁ = { s with heap := s.heap.push (newSet w) }) ⟨rfl, rfl⟩) fun r s₁ d => ?_
  match r, d with
  | .error _, d => exact d
  | .ok (.ret x), d =>
    obtain ⟨rfl, rfl⟩ := d
    have ob : (s.heap.push (newSet w)).get? s.heap.objs.size = some (newSet w) := Heap.get?_push_size _ rfl
    have ty : Shared.TypeIs { s with heap := s.heap.push (newSet w) } (.ref s.heap.objs.size) "set" := ⟨_, ob, rfl⟩
    have il := F.called_set.init.lookup
    have ib := F.called_set.init.bind (.ref s.heap.objs.size)
    repeat (any_goals (first | assumption | wp_step))
    refine codeAny_mono (hi A.in1 rfl) fun r2 s2 d2 => ?_
    match r2, d2 with
    | .error _, d2 => exact d2
    | .ok (.ret y), d2 =>
      obtain ⟨rfl, g⟩ := d2
      repeat (any_goals (first | assumption | wp_step))
      exact k _ g
    | .ok .brk, d2 => exact d2.elim
    | .ok .cont, d2 => exact d2.elim
    | .ok .next, d2 => exact d2.elim
  | .ok .brk, d => exact d.elim
  | .ok .cont, d => exact d.elim
  | .ok .next, d => exact d.elim
theorem str_val {its : Array Value} {xs : List Str} (hs : StrsAre its.toList xs) : ∀ (i : Nat) (v : Value), its[i]? = some v → ∃ x t, xs[i]? = some x ∧ v = .str x t := fun i v e => by
  obtain ⟨x, t, e1, e2⟩ := hs.item i v (by rw [Array.getElem?_toList]; exact e)
  exact ⟨x, t, e2, e1⟩
/-- what set(v) leaves -/
def Made (P : Program) (w : World) (s : Shared) (xs : List Str) (s2 : Shared) : Prop :=
  ∃ (g : Heap) (k : Nat) (l : List Str), s2 = { s with heap := g, toks := k } ∧ TxR P w g s.heap.objs.size l ∧ (∀ z, z ∈ l ↔ z ∈ xs) ∧ l.length ≤ xs.length ∧ ∀ b o, s.heap.get? b = some o → g.get? b = some o
theorem made_end {xs : List Str} {s' : Shared} {l : List Str} {it : Obj} {n : Nat} (mv : Moved (s.heap.objs.size :: [(s.heap.push (newSet w)).objs.size]) (fun a b => b = a) { s with heap := (s.heap.push (newSet w)).push it } s')
    (T : TxR P w s'.heap s.heap.objs.size l) (m : ∀ z, z ∈ l ↔ z ∈ xs) (hl : l.length ≤ n) (hn : n = xs.length) : Made P w s xs s' := by
  have eg : s'.gens = s.gens := mv.gens
  have ed : s'.drawn = s.drawn := mv.drawn
  have eo : s'.os = s.os := mv.os
  obtain ⟨g, ge, dr, tk, os⟩ := s'
  simp only at eg ed eo
  subst eg ed eo
  refine ⟨g, tk, l, rfl, T, m, by omega, fun b o e => ?_⟩
  have lt := Heap.lt_size e
  refine mv.heap b o (fun q => ?_) (Heap.get?_push_of_some _ (Heap.get?_push_of_some _ e))
  rw [Heap.size_push] at q
  simp only [List.mem_cons, List.mem_singleton, List.not_mem_nil, or_false] at q
  rcases q with q | q
  · exact Nat.lt_irrefl _ (q ▸ lt)
  · exact Nat.lt_irrefl _ (Nat.lt_of_lt_of_le (q ▸ lt) (Nat.le_succ _))
set_option maxHeartbeats 8000000 in
theorem init_tupS {p : Addr} {its : Array Value} (xs : List Str) (hh : A.handled = none) (hp : s.heap.IsTuple p its) (hs : StrsAre its.toList xs) (hb : xs.length + 1 < scanBound) :
    codeAny (model P w) A (.call (.builtin "set.__init__") ⟨[.ref s.heap.objs.size, .ref p], []⟩) (wants (fun r s2 => r = .none ∧ Made P w s xs s2) E) { s with heap := s.heap.push (newSet w) } := by
  have ne : its.size = xs.length := by have q := hs.length; rwa [Array.length_toList] at q
  have ob : (s.heap.push (newSet w)).get? s.heap.objs.size = some (newSet w) := Heap.get?_push_size _ rfl
  refine codeAny_call_builtin F.called_set.init.plain F.entry_set_init (check_set_init_1 ⟨_, ob, rfl⟩ ?_)
  obtain ⟨⟨cl, dc, da, sl⟩, ho, ec, nn, ed⟩ := hp
  simp only at ec ed
  subst ec ed
  have ho2 : (s.heap.push (newSet w)).get? p = some { cls := .type "tuple", dict := dc, data := .seq its nn, slots := sl } := Heap.get?_push_of_some _ ho
  have pt : (s.heap.push (newSet w)).IsTuple p its := ⟨_, ho2, rfl, nn, rfl⟩
  have n1 := F.sub_tuple_set
  have n2 := F.sub_tuple_frozenset
  have n3 : (Value.type "tuple" == Value.type "dict") = false := by decide
  unfold Builtin.«set.__init__» noKeywords Builtin.Frozenset.updateFrom
  generalize hI : pyIter = PI
  wp_walk
  subst hI
  refine wpAny_pyIter_tuple pt (wpAny_bind (wpAny_runValue ?_))
  have lp : p < s.heap.objs.size := Heap.lt_size ho
  have np : p ≠ (s.heap.push (newSet w)).objs.size := by rw [Heap.size_push]; exact Nat.ne_of_lt (Nat.lt_succ_of_lt lp)
  have hZ : s.heap.objs.size ∉ [(s.heap.push (newSet w)).objs.size, p] := by
    rw [Heap.size_push]
    simp only [List.mem_cons, List.not_mem_nil, or_false, not_or]
    exact ⟨fun q => Nat.lt_irrefl _ (Nat.lt_of_lt_of_le (Nat.lt_succ_self _) (Nat.le_of_eq q.symm)), fun q => Nat.lt_irrefl _ (Nat.lt_of_le_of_lt (Nat.le_of_eq q) lp)⟩
  refine update_tx ((Walks.tuple (by simpa using hh) _ p np its).toS) s.heap.objs.size hZ xs ne hb (str_val hs) (its.size - 0) 0 _ [] rfl (Nat.zero_le _) ⟨⟨_, Heap.get?_push_size _ rfl, rfl, rfl⟩, pt.push _⟩ (fresh_tx (Heap.get?_push_of_some _ ob)) (fun z => by simp) (Nat.le_refl 0) fun s3 l3 mv T m3 n3 => ?_
  exact wpAny_pure (wpAny_pure ⟨rfl, made_end mv T m3 n3 ne⟩)
theorem call_set_tupS {p : Addr} {its : Array Value} (xs : List Str) {Q : Value → Shared → Prop} (hh : A.handled = none) (hp : s.heap.IsTuple p its) (hs : StrsAre its.toList xs) (hb : xs.length + 1 < scanBound)
    (k : ∀ s2, Made P w s xs s2 → Q (.ref s.heap.objs.size) s2) : wpAny (model P w) A (call (.type "set") [.ref p]) Q E s :=
  call_set_by (Made P w s xs) (fun A' e => init_tupS xs (e.trans hh) hp hs hb) k
set_option maxHeartbeats 8000000 in
theorem init_listS {p : Addr} {its : Array Value} (xs : List Str) (hh : A.handled = none) (hp : s.heap.IsList p its) (hs : StrsAre its.toList xs) (hb : xs.length + 1 < scanBound) :
    codeAny (model P w) A (.call (.builtin "set.__init__") ⟨[.ref s.heap.objs.size, .ref p], []⟩) (wants (fun r s2 => r = .none ∧ Made P w s xs s2) E) { s with heap := s.heap.push (newSet w) } := by
  have ne : its.size = xs.length := by have q := hs.length; rwa [Array.length_toList] at q
  have ob : (s.heap.push (newSet w)).get? s.heap.objs.size = some (newSet w) := Heap.get?_push_size _ rfl
  refine codeAny_call_builtin F.called_set.init.plain F.entry_set_init (check_set_init_1 ⟨_, ob, rfl⟩ ?_)
  obtain ⟨⟨cl, dc, da, sl⟩, ho, ec, nn, ed⟩ := hp
  simp only at ec ed
  subst ec ed
  have ho2 : (s.heap.push (newSet w)).get? p = some { cls := .type "list", dict := dc, data := .seq its nn, slots := sl } := Heap.get?_push_of_some _ ho
  have pt : (s.heap.push (newSet w)).IsList p its := ⟨_, ho2, rfl, nn, rfl⟩
  have n1 := F.sub_list_set
  have n2 := F.sub_list_frozenset
  have n3 : (Value.type "list" == Value.type "dict") = false := by decide
  unfold Builtin.«set.__init__» noKeywords Builtin.Frozenset.updateFrom
  generalize hI : pyIter = PI
  wp_walk
  subst hI
  refine wpAny_pyIter_list pt (wpAny_bind (wpAny_runValue ?_))
  have lp : p < s.heap.objs.size := Heap.lt_size ho
  have np : p ≠ (s.heap.push (newSet w)).objs.size := by rw [Heap.size_push]; exact Nat.ne_of_lt (Nat.lt_succ_of_lt lp)
  have hZ : s.heap.objs.size ∉ [(s.heap.push (newSet w)).objs.size, p] := by
    rw [Heap.size_push]
    simp only [List.mem_cons, List.not_mem_nil, or_false, not_or]
    exact ⟨fun q => Nat.lt_irrefl _ (Nat.lt_of_lt_of_le (Nat.lt_succ_self _) (Nat.le_of_eq q.symm)), fun q => Nat.lt_irrefl _ (Nat.lt_of_le_of_lt (Nat.le_of_eq q) lp)⟩
  refine update_tx ((Walks.list (by simpa using hh) _ p np its).toS) s.heap.objs.size hZ xs ne hb (str_val hs) (its.size - 0) 0 _ [] rfl (Nat.zero_le _) ⟨⟨_, Heap.get?_push_size _ rfl, rfl, rfl⟩, pt.push _⟩ (fresh_tx (Heap.get?_push_of_some _ ob)) (fun z => by simp) (Nat.le_refl 0) fun s3 l3 mv T m3 n3 => ?_
  exact wpAny_pure (wpAny_pure ⟨rfl, made_end mv T m3 n3 ne⟩)
theorem call_set_lstS {p : Addr} {its : Array Value} (xs : List Str) {Q : Value → Shared → Prop} (hh : A.handled = none) (hp : s.heap.IsList p its) (hs : StrsAre its.toList xs) (hb : xs.length + 1 < scanBound)
    (k : ∀ s2, Made P w s xs s2 → Q (.ref s.heap.objs.size) s2) : wpAny (model P w) A (call (.type "set") [.ref p]) Q E s :=
  call_set_by (Made P w s xs) (fun A' e => init_listS xs (e.trans hh) hp hs hb) k
end
end Hx
set_option maxHeartbeats 4000000
/-! ### sorted(set of texts), and the rules -/
namespace Hx
open PySem PySem.Spec PyProof.Rows L2 PySem.Froz
theorem perm_of_sub {α : Type} [BEq α] [LawfulBEq α] : ∀ {l m : List α}, l.Nodup → (∀ x ∈ l, x ∈ m) → m.length ≤ l.length → l.Perm m
  | [], m, _, _, h => by
    have : m = [] := List.length_eq_zero_iff.mp (Nat.le_zero.mp h)
    rw [this]
  | x :: l, m, nd, sub, h => by
    have nx := (List.nodup_cons.mp nd).1
    have hm := sub x List.mem_cons_self
    have p := List.perm_cons_erase hm
    have hl : (m.erase x).length ≤ l.length := by
      rw [List.length_erase_of_mem hm]
      simp at h
      omega
    refine (List.Perm.cons x (perm_of_sub (List.nodup_cons.mp nd).2 (fun y hy => ?_) hl)).trans p.symm
    exact (List.mem_erase_of_ne (a := y) (b := x) fun e => nx (by rw [← e]; exact hy)).mpr (sub y (List.mem_cons_of_mem _ hy))
theorem strs_in {P : Program} {w : World} {D : SD} {l : List Str} (F : TxOk P w D l) {v : Value} (hv : v ∈ D.1.toList.map (·.2)) : ∃ x t, v = .str x t := by
  obtain ⟨e, he, rfl⟩ := List.mem_map.mp hv
  obtain ⟨⟨k, hk, _⟩, _⟩ := F.el e he
  have hk2 : Value.isStrOf k e.2 = true := hk
  cases e2 : e.2 with
  | str x t => exact ⟨x, t, rfl⟩
  | _ => rw [e2] at hk2; cases hk2
theorem texts_perm {P : Program} {w : World} {D : SD} {l : List Str} (F : TxOk P w D l) (nd : l.Nodup) : l.Perm ((D.1.toList.map (·.2)).map strOf) := by
  refine perm_of_sub nd (fun x hx => ?_) (by rw [List.length_map, List.length_map, Array.length_toList, F.sz]; exact Nat.le_refl _)
  obtain ⟨e, he, hk⟩ := (F.mem x).mp hx
  have hm : e.2 ∈ D.1.toList.map (·.2) := List.mem_map.mpr ⟨e, he, rfl⟩
  obtain ⟨y, t, e2⟩ := strs_in F hm
  refine List.mem_map.mpr ⟨e.2, hm, ?_⟩
  have hk2 : Value.isStrOf x e.2 = true := hk
  rw [e2] at hk2 ⊢
  have q : (y == x) = true ∨ (x == y) = true := by
    first
      | exact .inl hk2
      | exact .inr hk2
  show y = x
  rcases q with q | q
  · exact eq_of_beq q
  · exact (eq_of_beq q).symm
section
variable {P : Program} {w : World} {A : Around} {E : Value → Shared → Prop} {s : Shared}
theorem sorted_tx {a : Addr} {l : List Str} {Q : Value → Shared → Prop} (R : TxR P w s.heap a l) (hh : A.handled = none) (hb : l.length < scanBound)
    (k : ∀ (s' : Shared) (p : Addr) (out : Array Value) (c : Nat) (ys : List Str), (∀ b o, s.heap.get? b = some o → s'.heap.get? b = some o) → s'.gens = s.gens → s'.os = s.os → s.heap.objs.size ≤ p →
      s'.heap.get? p = some (seqObj "list" out c) → StrsAre out.toList ys → ys.Perm l → sortedS ys = true → Q (.ref p) s') : wpAny (model P w) A (call (.builtin "sorted") [.ref a]) Q E s := by
  obtain ⟨D, ho, F, nd, r, q⟩ := R
  have nb : D.1.size < scanBound := by rw [F.sz]; exact hb
  refine Calls.call_function_entry kind_sorted plain_sorted entry_sorted (args_sorted1 _) ?_
  unfold Builtin.«sorted»
  refine wpAny_bind (m := checkCount "sorted" 1 1 _) (wpAny_pure (wpAny_bind (collect_set (A := A.in1) hh ⟨_, ho, rfl, rfl⟩ F.fit nb r q fun s1 vs k1 z1 g1 o1 pm => ?_)))
  have hl : vs.length = l.length := by rw [pm.length_eq, List.length_map, Array.length_toList, F.sz]
  have sv : StrsAre vs (vs.map strOf) := strsAre_map vs fun v hv => strs_in F (pm.mem_iff.mp hv)
  have pl : (vs.map strOf).Perm l := (pm.map strOf).trans (texts_perm F nd).symm
  have small : vs.length ≤ sizeLine := by
    rw [hl, sizeLine_eq]
    exact Nat.le_of_lt (Nat.lt_of_lt_of_le hb (by decide))
  refine wpAny_bind (wpAny_newList ?_ small)
  have hx : (s1.heap.push (seqObj "list" vs.toArray 0)).get? s1.heap.objs.size = some (seqObj "list" vs.toArray 0) := Heap.get?_push_size _ rfl
  refine wpAny_bind (wpAny_holding (wpAny_call_entry slot_list_sort ⟨_, hx, rfl⟩ entry_list_sort (list_sort_treeKAny strKind_oneLt hx sv.keysOf (fun v₁ v₂ rest e => keyKind_strs (by rw [← e]; exact sv)) small fun st hp hs => ?_) (args_list_sort _)))
  obtain ⟨ys, y1, y2, y3⟩ := sorted_out_str sv hp hs
  obtain ⟨c, hc⟩ := sortedHeap_at (vs := vs) (out := (arrOf st).map (·.2)) hx
  refine ⟨_, rfl, wpAny_pure ⟨_, rfl, k _ s1.heap.objs.size _ c ys (fun b u e => ?_) g1 o1 z1 hc y1 (y2.trans pl) y3⟩⟩
  have e1 := k1 b u e
  have lt := Heap.lt_size e1
  show (sortedHeap (s1.heap.push (seqObj "list" vs.toArray 0)) _ vs _).get? b = some u
  rw [sortedHeap_old (Nat.ne_of_lt lt) (by rw [size_push']; exact Nat.lt_succ_of_lt lt)]
  exact Heap.get?_push_of_some _ e1
end
/-- the set of texts at a -/
def TxO (P : Program) (w : World) (a : Addr) (l : List Str) : HO := .ext fun h => TxR P w h a l
section
variable {X : Cx}
theorem txO_new {P : Program} {w : World} {H : Hp} {h : Heap} {a : Addr} {l : List Str} (R : TxR P w h a l) : ObjOk P w H h a (TxO P w a l) := by
  obtain ⟨D, ho, _⟩ := id R
  exact ⟨R, ⟨_, ho⟩, fun h1 h2 p k => TxR.at p k⟩
theorem txO_get {pins : List (Addr × Obj)} {σ : L2.St} {H : Hp} {s : Shared} {a : Addr} {l : List Str} (I : Inv X pins σ H s) (ha : H a = some (TxO X.prog X.w a l)) : TxR X.prog X.w s.heap a l := (I.hok a _ ha).1
/-- set(xs), xs a list or a tuple of texts -/
def rSetS (K : PySem.W.Frag) (P : Program) (w : World) : List V → Hp → VK → Prop := fun vs H Q => ∃ (p : Addr) (xs : List Str), vs = [V.ref p] ∧ (SqL K H p (xs.map V.str) ∨ SqT K H p (xs.map V.str)) ∧ xs.length + 1 < scanBound ∧
  ∀ (l : List Str) (q : Addr), l.Nodup → (∀ z, z ∈ l ↔ z ∈ xs) → l.length ≤ xs.length → H q = none → Q (.ref q) (upd H q (TxO P w q l))
theorem cr_setS (hc : X.calm = true) : CallR X (.type "set") (rSetS X.K X.prog X.w) := by
  intro pins s σ H vs us Q I r h
  obtain ⟨p, xs, rfl, hp, hb, k⟩ := h
  rw [Vals.ref1 r]
  have fin : ∀ s2, Made X.prog X.w s xs s2 → EP X pins σ Q (.ref s.heap.objs.size) s2 := fun s2 md => by
    obtain ⟨g, tk, l, rfl, T, m, hl, kp⟩ := md
    have hn : H s.heap.objs.size = none := I.hok.fresh (Nat.le_refl _)
    have nd : l.Nodup := T.elim fun D z => z.2.2.1
    exact ⟨.ref _, upd H s.heap.objs.size (TxO X.prog X.w s.heap.objs.size l), I.laid (t' := tk) kp (Nat.le_refl _) (txO_new T), rfl, k l _ nd m hl hn⟩
  rcases hp with hp | hp
  · obtain ⟨its, rv, pl, _⟩ := I.list hp
    exact call_set_lstS xs (I.ok.hd hc) pl.isList (by simpa using strsAre_of rv) hb fin
  · obtain ⟨its, rv, pl, _⟩ := I.tuple hp
    exact call_set_tupS xs (I.ok.hd hc) pl (by simpa using strsAre_of rv) hb fin
/-- sorted(found) -/
def rSortTx (P : Program) (w : World) : List V → Hp → VK → Prop := fun vs H Q => ∃ (a : Addr) (l : List Str), vs = [V.ref a] ∧ H a = some (TxO P w a l) ∧ l.length < scanBound ∧
  ∀ (ys : List Str) (p : Addr), ys.Perm l → sortedS ys = true → H p = none → Q (.ref p) (upd H p (.lst (ys.map V.str)))
theorem cr_sortTx (hc : X.calm = true) : CallR X (.builtin "sorted") (rSortTx X.prog X.w) := by
  intro pins s σ H vs us Q I r h
  obtain ⟨a, l, rfl, ha, hb, k⟩ := h
  rw [Vals.ref1 r]
  refine sorted_tx (txO_get I ha) (I.ok.hd hc) hb fun s2 p out c ys kp eg eo hp hg hs pm so => ?_
  have hn : H p = none := I.hok.fresh hp
  have len : (ys.map V.str).length ≤ sizeLine := by
    rw [List.length_map, pm.length_eq, sizeLine_eq]
    exact Nat.le_of_lt (Nat.lt_of_lt_of_le hb (by decide))
  obtain ⟨h2, g2, d2, t2, o2⟩ := s2
  simp only at eg eo
  subst eg eo
  exact ⟨.ref p, upd H p (.lst (ys.map V.str)), I.call (ch := []) (Un.laid kp hp hn) (I.hok.laid kp hp ⟨len, out.toList, c, vals_of_strs hs, hg⟩) I.bare (fun _ z => nomatch z), rfl, k ys p pm so hn⟩
end
end Hx
set_option maxHeartbeats 4000000
/-! ### found.extend(t), t a tuple; for x in a list or a tuple -/
namespace Hx
open PySem PySem.Spec PyProof.Rows L2
set_option maxRecDepth 8000 in
theorem ext_tup (p : Addr) (xs : Array Value) (k : Nat) (t : Addr) (ys : Array Value) (m : Nat) (dc : Option Addr) (sl : Array (Option Value)) (h0 : ¬(!xs.isEmpty && Builtin.List.listTooLong (xs.size + ys.size)) = true) (h1 : xs.size ≤ sizeLine) (h2 : xs.size + ys.size ≤ sizeLine + 1) :
    Meets (Builtin.«list.extend» ⟨[.ref p, .ref t], []⟩) (fun _ R s => s.heap.get? p = some { cls := .type "list", dict := none, data := .seq xs k, slots := #[] } ∧ s.heap.get? t = some { cls := .type "tuple", dict := dc, data := .seq ys m, slots := sl } ∧ R (.ok (.ret .none)) { s with heap := s.heap.update p (Obj.mapSeq fun x => x ++ ys), toks := s.toks }) :=
  .of_wp fun prog w A R s h => by
    obtain ⟨hp, g, d, tk, os⟩ := s
    obtain ⟨ep, et, h⟩ := h
    have f2 := AutoSeq1.sub_tuple_tuple
    have f3 := AutoSeq1.sub_list_list
    have f4 := AutoSeq1.sub_tuple_list
    have f5 := AutoSeq1.sub_list_tuple
    have fz : (xs ++ ys).size ≤ sizeLine + 1 := by rw [Array.size_append]; exact h2
    wp_walk using (wpAny_updateSeq ep rfl (hz := h1) (_hz' := fz)), AutoSeq1.wpAny_loadPart' ep, AutoSeq1.wpAny_loadPart' et
    exact ⟨_, rfl, h⟩
section
variable {X : Cx}
def rExtT (K : PySem.W.Frag) : V → List V → Hp → VK → Prop := fun x vs H Q => ∃ l b xs zs, x = .ref l ∧ vs = [.ref b] ∧ H l = some (.lst xs) ∧ SqT K H b zs ∧ xs.length + zs.length ≤ sizeLine ∧ Q .non (upd H l (.lst (xs ++ zs)))
theorem mt_extT : MtM X "list.extend" (rExtT X.K) := by
  intro pins s σ H x vs v us Q I rx rv h
  obtain ⟨l, b, xs, zs, rfl, rfl, hl, hb, hz, q⟩ := h
  cases rx
  obtain ⟨u, rfl, ru⟩ := rv.one
  cases ru
  obtain ⟨zl, its, n, r, el, e⟩ := I.lstM hl
  obtain ⟨jts, r2, ⟨⟨cl, dc, da, sl⟩, e2, ec, n2, ed⟩, _⟩ := I.tuple hb
  simp only at ec ed
  subst ec ed
  have l2 : jts.length = zs.length := r2.length.symm
  have sz : its.toArray.size + jts.toArray.size ≤ sizeLine := by rw [List.size_toArray, List.size_toArray]; omega
  have nl : ¬ (!its.toArray.isEmpty && Builtin.List.listTooLong (its.toArray.size + jts.toArray.size)) = true := by
    rw [notLongL sz, Bool.and_false]
    exact Bool.false_ne_true
  refine call_meets F.slot_list_extend ⟨_, e, rfl⟩ F.entry_list_extend (F.args_list_extend_2 _ _) (ext_tup l its.toArray n b jts.toArray n2 dc sl nl (by rw [List.size_toArray]; omega) (by omega)) ⟨e, e2, ?_⟩
  refine ⟨.non, _, I.lset (its' := its ++ jts) hl e (by simp) (r.append r2) ?_, rfl, q⟩
  rw [List.length_append]
  omega
variable {tg : Expr}
/-- a list or a tuple, walked -/
def iSeq (K : PySem.W.Frag) (tl : TE) : TI := fun σ H R => tl σ H fun x H1 => ∃ a xs, x = .ref a ∧ ((SqL K H1 a xs ∧ R (Itl K a) H1) ∨ (SqT K H1 a xs ∧ R (Itt K a) H1))
theorem pi_seq {l : Expr} {tl : TE} (hl : PE X l tl) : PI X tg l (iSeq X.K tl) := by
  refine ⟨fun pins s σ H R I h => ?_⟩
  refine thn (hl.run pins s σ H _ I h) fun v s1 ⟨x, H1, I1, r1, q1⟩ => ?_
  obtain ⟨a, xs, e, q⟩ := q1
  subst e
  cases r1
  have off : ∀ b, b ∈ [s1.heap.objs.size] → ∀ i : Nat, b = s1.heap.objs.size := fun b hb _ => by simpa using hb
  rcases q with ⟨hq, q⟩ | ⟨hq, q⟩
  · obtain ⟨its, rv, p, hz⟩ := I1.list hq
    refine wpAny_pyIter_list p.isList ⟨s1.heap.objs.size, [s1.heap.objs.size], _, _, H1, rfl, I1.kept (t' := s1.toks) fun b o e => Heap.get?_push_of_some _ e, turn_list a _, ⟨_, Heap.get?_push_size _ rfl, rfl, rfl⟩, fun b hb => ?_, q⟩
    rw [off b hb 0]
    exact I1.fpOk (Nat.le_refl _) (I1.hok.fresh (Nat.le_refl _))
  · obtain ⟨its, rv, p, hz⟩ := I1.tuple hq
    refine wpAny_pyIter_tuple (show s1.heap.IsTuple a its.toArray from p) ⟨s1.heap.objs.size, [s1.heap.objs.size], _, _, H1, rfl, I1.kept (t' := s1.toks) fun b o e => Heap.get?_push_of_some _ e, turn_tuple a _, ⟨_, Heap.get?_push_size _ rfl, rfl, rfl⟩, fun b hb => ?_, q⟩
    rw [off b hb 0]
    exact I1.fpOk (Nat.le_refl _) (I1.hok.fresh (Nat.le_refl _))
end
end Hx
set_option maxHeartbeats 1000000
/-! ### [1 for x in xs if t], held against [] -/
namespace Hx
open PySem PySem.Spec PyProof.Rows L2
section
variable {J : It} {n : Nat} {g : TG} {tt : TT} {vs : List Nat} {σ : L2.St} {H1 : Hp} {D : Addr} {Qd : Hp → Prop}
theorem lc_ones (f : Nat → Bool) (hn : H1 D = none) (hsz : n < sizeLine) (go : ∀ i H, i < n → Same H1 H → J.go i H) (stop : ∀ H, Same H1 H → J.stop n H)
    (turn : ∀ (i : Nat) (x : V) (H H' : Hp) (F : Bool → Hp → Prop), i < n → Same H1 H → J.yld i H x H' → (∀ H4, Same H H4 → F (f i) H4) → g x (wipe σ vs) H' fun σ2 H2 => wipe σ2 vs = wipe σ vs ∧ tt σ2 H2 F)
    (hd : ∀ c H, Same H1 H → H D = some (.lst (List.replicate c (.int 1))) → c ≤ n → (c = 0 ↔ ∀ i, i < n → f i = false) → Qd H) : LcGoal J g tt (tC (.int 1)) vs σ H1 D Qd := by
  have s1 : ∀ {H : Hp} {o : HO}, Same H1 H → Same H1 (upd H D o) := fun s b u e => by rw [upd_ne (ne_of_none e hn)]; exact s b u e
  refine lc_any (fun i H => ∃ c, Same H1 H ∧ H D = some (.lst (List.replicate c (.int 1))) ∧ c ≤ i ∧ (c = 0 ↔ ∀ j, j < i → f j = false)) ⟨0, s1 (Same.refl H1), upd_same, Nat.le_refl _, ⟨fun _ j hj => by omega, fun _ => rfl⟩⟩ (fun i H hi ⟨_, s, _⟩ => go i H hi s) (fun H ⟨_, s, _⟩ => stop H s) ?_ fun H ⟨c, s, e, l, k⟩ => hd c H s e l k
  rintro i x H H' hi ⟨c, s, e, l, k⟩ y
  have q := turn i x H H' (fun b H3 => if b = true then ∃ acc, H3 D = some (.lst acc) ∧ acc.length < sizeLine ∧ ∃ c, Same H1 (upd H3 D (.lst (acc ++ [.int 1]))) ∧ (upd H3 D (.lst (acc ++ [.int 1]))) D = some (.lst (List.replicate c (.int 1))) ∧ c ≤ i + 1 ∧ (c = 0 ↔ ∀ j, j < i + 1 → f j = false)
    else ∃ c, Same H1 H3 ∧ H3 D = some (.lst (List.replicate c (.int 1))) ∧ c ≤ i + 1 ∧ (c = 0 ↔ ∀ j, j < i + 1 → f j = false)) hi s y fun H4 s4 => ?_
  · exact q
  have e4 := s4 _ _ e
  cases hf : f i with
  | true =>
    rw [if_pos rfl]
    refine ⟨_, e4, by rw [List.length_replicate]; omega, c + 1, s1 (s.trans s4), ?_, by omega, ⟨fun z => by omega, fun z => by rw [z i (by omega)] at hf; cases hf⟩⟩
    rw [upd_same, List.replicate_succ']
  | false =>
    rw [if_neg (by decide)]
    refine ⟨c, s.trans s4, e4, by omega, ?_⟩
    rw [k]
    exact ⟨fun z j hj => by
      by_cases q : j = i
      · rw [q]; exact hf
      · exact z j (by omega), fun z j hj => z j (by omega)⟩
end
theorem ones_sh (c : Nat) : SeqAt.shaped (.list (List.replicate c (.int 1))) = true := (sh_list (n := 0) fun d hd => by rw [(List.mem_replicate.mp hd).2]; exact sh_int 1).shaped (by decide)
theorem nil_sh : SeqAt.shaped (.list []) = true := (sh_list (n := 0) fun d hd => by simp at hd).shaped (by decide)
theorem ones_dp {K : PySem.W.Frag} {H : Hp} {D : Addr} {c : Nat} (e : H D = some (.lst (List.replicate c (.int 1)))) : Dp K H (.ref D) (.list (List.replicate c (.int 1))) := by
  have q := dpAll_ints (K := K) (H := H) (List.replicate c 1)
  rw [List.map_replicate, List.map_replicate] at q
  exact .lst (SqL.of e) q
theorem ones_nil (c : Nat) : PyData.eqv (.list (List.replicate c (.int 1))) (.list []) = decide (c = 0) := by
  rw [eqv_nil]
  cases c <;> simp
/-- .. != [] -/
theorem ones_ne {K : PySem.W.Frag} {H : Hp} {D : Addr} {c : Nat} {Q : VK} (e : H D = some (.lst (List.replicate c (.int 1)))) (k : ∀ H', Same H H' → Q (.bl (!decide (c = 0))) H') :
    ([] : List V).length ≤ sizeLine ∧ ∀ p, H p = none → rNeD K (.ref D) (.ref p) (upd H p (.lst [])) Q := by
  refine ⟨by simp, fun p hp => ?_⟩
  have s : Same H (upd H p (.lst [])) := fun b u q => by rw [upd_ne (ne_of_none q hp)]; exact q
  refine ⟨_, .list [], ones_dp (s _ _ e), .lst (SqL.of upd_same) .nil, ones_sh c, nil_sh, ?_⟩
  rw [ones_nil]
  exact k _ s
/-- .. == [] -/
theorem ones_eq {K : PySem.W.Frag} {H : Hp} {D : Addr} {c : Nat} {Q : VK} (e : H D = some (.lst (List.replicate c (.int 1)))) (k : ∀ H', Same H H' → Q (.bl (decide (c = 0))) H') :
    ([] : List V).length ≤ sizeLine ∧ ∀ p, H p = none → rEqD K (.ref D) (.ref p) (upd H p (.lst [])) Q := by
  refine ⟨by simp, fun p hp => ?_⟩
  have s : Same H (upd H p (.lst [])) := fun b u q => by rw [upd_ne (ne_of_none q hp)]; exact q
  refine ⟨_, .list [], ones_dp (s _ _ e), .lst (SqL.of upd_same) .nil, ones_sh c, nil_sh, ?_⟩
  rw [ones_nil]
  exact k _ s
end Hx
set_option maxHeartbeats 1000000
/-! ### sorted(list of texts), any size -/
namespace Hx
open PySem PySem.Spec PyProof.Rows L2
section
variable {X : Cx}
def rSrtS (K : PySem.W.Frag) : List V → Hp → VK → Prop := fun vs H Q => ∃ (a : Addr) (xs : List Str), vs = [V.ref a] ∧ SqL K H a (xs.map V.str) ∧ xs.length ≤ sizeLine ∧
  ∀ (ys : List Str) (p : Addr), ys.Perm xs → sortedS ys = true → H p = none → Q (.ref p) (upd H p (.lst (ys.map V.str)))
theorem cr_srtS : CallR X (.builtin "sorted") (rSrtS X.K) := by
  intro pins s σ H vs us Q I r h
  obtain ⟨a, xs, rfl, hs, hz, q⟩ := h
  obtain ⟨its, rv, hl, _⟩ := I.list hs
  rw [Vals.ref1 r]
  have le := rv.length
  rw [List.length_map] at le
  refine PyProof.Rows.sorted_strsAny hl.isList rv.strs (by rw [← le]; exact hz) fun out ys y1 y2 y3 => ?_
  obtain ⟨c, hc⟩ := PyProof.Rows.sortedAll_at s.heap its out
  have hz2 : (ys.map V.str).length ≤ sizeLine := by rw [List.length_map, y2.length_eq]; exact hz
  exact ⟨.ref _, upd H (s.heap.objs.size + 1) (.lst (ys.map V.str)), I.laid (t' := s.toks) (fun _ _ => PyProof.Rows.sortedAll_old) (Nat.le_succ _) ⟨hz2, out.toList, c, vals_of_strs y1, hc⟩, rfl, q ys _ y2 y3 (I.hok.fresh (Nat.le_succ _))⟩
end
theorem inV_strs {z : Str} : ∀ fs : List Str, inV (.str z) (fs.map V.str) = decide (z ∈ fs)
  | [] => by simp [inV]
  | f :: fs => by
    have ih := inV_strs (z := z) fs
    have e : inV (.str z) ((f :: fs).map V.str) = ((f == z) || inV (.str z) (fs.map V.str)) := rfl
    rw [e, ih]
    by_cases h : f = z
    · subst h; simp
    · have h2 : ¬ z = f := fun q => h q.symm
      simp [h, h2]
theorem flat_strs (fs : List Str) : (fs.map V.str).all flatV = true := by
  rw [List.all_eq_true]
  intro v hv
  obtain ⟨x, _, rfl⟩ := List.mem_map.mp hv
  rfl
end Hx
set_option maxHeartbeats 1000000
namespace K17
open PySem PySem.Spec PyProof.Rows L2 Hx RZ
/-! ### lots: the program -/
def lotS (taps ns : List Str) : Bool := namesS ns && (decide (1 ≤ ns.length) && decide (ns.length < taps.length)) && ns.all fun x => decide (x ∈ taps)
theorem flat_strs (ns : List Str) : (ns.map V.str).all flatV = true := by
  rw [List.all_map]
  exact List.all_eq_true.mpr fun _ _ => rfl
theorem op_in_seqK {X : Cx} {K : PySem.W.Frag} (hK : X.K = K) : OpR X (compareOp .In) (rIn K false) := by
  subst hK
  exact op_in_seq
section
variable {P : Program} {w : World} {K : PySem.W.Frag} {mg : Str → Option Value} {base : Heap}
/-- taps in a tuple, and a tuple of texts or what is no tuple -/
def spLot (K : PySem.W.Frag) (f : List Str → List Str → Bool) : Sp := fun vs H Q _ => ∃ (t : Addr) (taps : List Str) (v : V), vs = [.ref t, v] ∧ SqT K H t (taps.map V.str) ∧ Sm taps ∧
  ((∃ (a : Addr) (ns : List Str), v = .ref a ∧ SqT K H a (ns.map V.str) ∧ Sm ns ∧ ∀ H', Same H H' → Q (.bl (f taps ns)) H') ∨ ∃ d : PyData, Dp K H v d ∧ isTy (tagOf d) "tuple" = false ∧ Q (.bl false) H)
theorem sc_is_lot : FnScope ["taps", "value", "name"] ["taps", "value"] (defScope sis_lot) := ⟨rfl, rfl, rfl, by decide +kernel, rfl, by decide +kernel, by decide +kernel⟩
theorem ok_is_lot (D : Dn K mg "is_lot" sis_lot) (B : Ok P w K mg base L2.CX0 2 "are_names" ["value"] (spNames K namesS)) (h_len : mg "len" = none) (h_all : mg "all" = none) :
    Ok P w K mg base L2.CX0 3 "is_lot" ["taps", "value"] (spLot K lotS) := by
  obtain ⟨_, _, g_are_names, k_are_names, b_are_names, F_are_names⟩ := B.ex
  refine Ok.mk0 D sc_is_lot (fun vs H Q E h => ?_) (fun _ _ _ _ _ _ us hl => match us, hl with | [_, _], _ => rfl) (fun f cdv A outer s H vs Q E hr h => ?_)
  · obtain ⟨t, taps, v, rfl, _⟩ := h
    rfl
  obtain ⟨t, taps, v, rfl, ht, ⟨tl, tm⟩, h⟩ := h
  have nd := sc_is_lot.nd
  refine ⟨_, (pss_one (ps_ret (pe_and (pe_call F_are_names hr rfl g_are_names k_are_names b_are_names .nil pass0 (pa_cons (pv 1) pa_nil)) (pe_and (pe_chain op_le op_lt pe_int (pe_lenS rfl h_len (pv 1)) (pe_lenS rfl h_len (pv 0))) (pe_one (pe_callB (cr_all rfl) (by rfl) h_all (by decide +kernel) (pa_cons (pe_lc (own := [("name", 2)]) (g := gName 2) (tt := tYes) rfl nd (pi_tup (pv 1)) (blkOk_by (own := [("name", 2)]) (N := ["taps", "value", "name"]) (sc := defScope sis_lot) (by decide +kernel)) (fun _ _ _ _ _ => pg_name (i := 2) nd rfl (Or.inl rfl)) (fun _ _ _ _ _ => pts_nil) (fun _ _ _ _ _ => (pe_cmpR (op_in_seqK (K := K) rfl) (pv 2) (pv 0) (by rfl)))) pa_nil))))))), ?_⟩
  rcases h with ⟨a, ns, rfl, ha, ⟨hl, hm⟩, k⟩ | ⟨d, hd, nt, k⟩
  rotate_left
  · exact ⟨_, rfl, _, rfl, .inr ⟨d, hd, nt, _, rfl, iteF k⟩⟩
  refine ⟨_, rfl, _, rfl, .inl ⟨a, ns, rfl, ha, ⟨hl, hm⟩, fun H1 s1 => ⟨_, rfl, ?_⟩⟩⟩
  have no : ∀ H', Same H H' → lotS taps ns = false → Q (.bl false) H' := fun H' s e => by
    have z := k H' s
    rw [e] at z
    exact z
  cases hn : namesS ns with
  | false => exact iteF (no _ s1 (by unfold lotS; rw [hn]; rfl))
  | true =>
    have ha1 := same_seqT s1 ha
    have ht1 := same_seqT s1 ht
    refine iteT ⟨_, rfl, a, _, rfl, .inr ha1, _, _, rfl, rfl, _, rfl, ?_⟩
    rw [List.length_map]
    by_cases h1 : 1 ≤ ns.length
    · rw [show decide (1 ≤ (ns.length : Int)) = true from decide_eq_true (by omega)]
      refine iteT ⟨_, rfl, t, _, rfl, .inr ht1, _, _, rfl, rfl, _, rfl, ?_⟩
      rw [List.length_map]
      by_cases h2 : ns.length < taps.length
      · rw [show decide ((ns.length : Int) < (taps.length : Int)) = true from decide_eq_true (by omega)]
        refine iteT ⟨_, rfl, a, rfl, ⟨_, ha1⟩, fun L hL => ?_⟩
        refine lc_rel (n := ns.length) (J := Itt K a) (fun i y _ => (ns.map fun x => decide (x ∈ taps))[i]?.map V.bl = some y) (fun _ _ _ _ _ h => h) hL (by rw [sizeLine_eq]; omega) (fun i H2 hi s2 => ?_) (fun H2 s2 => ?_) ?_ ?_
        · exact ⟨_, _, same_seqT s2 ha1, List.getElem?_eq_getElem (by simpa using hi)⟩
        · exact ⟨_, same_seqT s2 ha1, by simp⟩
        · rintro i y H2 H' F hi s2 ⟨rfl, yx⟩ kk
          have e := yx _ (same_seqT s2 ha1)
          obtain ⟨z, hz, rfl⟩ := strs_at e
          refine ⟨rfl, _, rfl, _, rfl, t, _, rfl, .inr (same_seqT s2 ht1), rfl, flat_strs taps, kk _ _ ?_ (Same.refl _)⟩
          rw [List.getElem?_map, hz]
          show some (V.bl (decide (z ∈ taps))) = some (V.bl (inV (.str z) (taps.map V.str)))
          rw [Hx.inV_strs]
        · intro acc H2 s2 e hacc hy
          have eb : acc = (ns.map fun x => decide (x ∈ taps)).map V.bl := bools_of (by simp [hacc]) hy
          subst eb
          refine ⟨L, _, rfl, SqL.of e, ?_⟩
          have z := k H2 (s1.trans s2)
          unfold lotS at z
          rw [hn, decide_eq_true h1, decide_eq_true h2, Bool.true_and, Bool.true_and, Bool.true_and] at z
          rw [List.all_map]
          exact z
      · rw [show decide ((ns.length : Int) < (taps.length : Int)) = false from decide_eq_false (by omega)]
        exact iteF (no _ s1 (by unfold lotS; rw [decide_eq_false h2]; simp))
    · rw [show decide (1 ≤ (ns.length : Int)) = false from decide_eq_false (by omega)]
      exact iteF ⟨_, rfl, iteF (no _ s1 (by unfold lotS; rw [decide_eq_false h1]; simp))⟩
end
end K17
set_option maxHeartbeats 1000000
namespace K17
open PySem PySem.Spec PyProof.Rows L2 Hx RZ
/-! ### terms: the program -/
theorem Ok.imp {P : Program} {w : World} {K : PySem.W.Frag} {mg : Str → Option Value} {base : Heap} {CX : CXT} {k : Nat} {x : Str} {ps : List Str} {sp sp' : Sp} (B : Ok P w K mg base CX k x ps sp)
    (h : ∀ vs H Q E, sp' vs H Q E → sp vs H Q E) : Ok P w K mg base CX k x ps sp' := by
  obtain ⟨f, fd, g, kp, b, F⟩ := B.ex
  exact ⟨f, fd, g, kp, b, F.imp h⟩
section
variable {K : PySem.W.Frag} {H : Hp}
theorem dp_strs {ns : List Str} : ∀ {xs : List V}, DpAll K H xs (ns.map PyData.str) → xs = ns.map V.str := by
  induction ns with
  | nil =>
    intro xs h
    cases h
    rfl
  | cons n r ih =>
    intro xs h
    have h' : DpAll K H xs (.str n :: r.map PyData.str) := h
    cases h' with
    | cons a b =>
      cases a
      rw [ih b]
      rfl
theorem dp_num {v : V} {n : Num} (h : Dp K H v n.data) : NumAt K H v n := by
  cases n with
  | w i =>
    have h' : Dp K H v (.int i) := h
    cases h'
    rfl
  | q t b =>
    have h' : Dp K H v (.tuple [.int t, .int b]) := h
    cases h' with
    | tup q r =>
      cases r with
      | cons h1 r =>
        cases h1
        cases r with
        | cons h2 r =>
          cases h2
          cases r
          exact ⟨_, rfl, q⟩
theorem dp_names {v : V} {ns : List Str} (h : Dp K H v (.tuple (ns.map PyData.str))) : ∃ a, v = .ref a ∧ SqT K H a (ns.map V.str) := by
  cases h with
  | tup q r => exact ⟨_, rfl, by rw [← dp_strs r]; exact q⟩
theorem dp_pair {v : V} {d e : PyData} (h : Dp K H v (.tuple [d, e])) : ∃ a x y, v = .ref a ∧ SqT K H a [x, y] ∧ Dp K H x d ∧ Dp K H y e := by
  cases h with
  | tup q r =>
    cases r with
    | cons h1 r =>
      cases r with
      | cons h2 r =>
        cases r
        exact ⟨_, _, _, rfl, q, h1, h2⟩
theorem dp_one {v : V} {d : PyData} (h : Dp K H v (.tuple [d])) : ∃ a x, v = .ref a ∧ SqT K H a [x] ∧ Dp K H x d := by
  cases h with
  | tup q r =>
    cases r with
    | cons h1 r =>
      cases r
      exact ⟨_, _, rfl, q, h1⟩
end
inductive Term0
  | right (ns : List Str) (n : Num)
  | flag (ns : List Str) (b : Bool)
  | odd (e : PyData) (n : Num)
  | one (e : PyData)
def Term0.data : Term0 → PyData
  | .right ns n => .tuple [.tuple (ns.map PyData.str), n.data]
  | .flag ns b => .tuple [.tuple (ns.map PyData.str), .bool b]
  | .odd e n => .tuple [e, n.data]
  | .one e => .tuple [e]
def Term0.fit : Term0 → Prop
  | .right ns _ => Sm ns
  | .flag ns _ => Sm ns
  | .odd e _ => isTy (tagOf e) "tuple" = false
  | .one _ => True
def Term0.ok (taps : List Str) : Term0 → Bool
  | .right ns n => lotS taps ns && n.ok
  | _ => false
section
variable {P : Program} {w : World} {K : PySem.W.Frag} {mg : Str → Option Value} {base : Heap}
/-- a number of either form, or True or False -/
def spIsNumX (K : PySem.W.Frag) : Sp := fun vs H Q _ => ∃ v : V, vs = [v] ∧ ((∃ n : Num, NumAt K H v n ∧ ∀ H', Same H H' → Q (.bl n.ok) H') ∨ ∃ b : Bool, v = .bl b ∧ Q (.bl false) H)
theorem ok_is_numberX (D : Dn K mg "is_number" sis_number) (B : Ok P w K mg base L2.CX0 1 "is_whole" ["value"] (spWhole K)) (h_isinstance : mg "isinstance" = none) (h_tuple : mg "tuple" = none) (h_len : mg "len" = none) (g_gcd : mg "gcd" = some (.builtin "math.gcd")) :
    Ok P w K mg base L2.CX0 2 "is_number" ["value"] (spIsNumX K) := by
  obtain ⟨_, _, g_is_whole, k_is_whole, b_is_whole, F_is_whole⟩ := B.ex
  refine Ok.mk0 D sc_is_number (fun vs H Q E h => ?_) (fun _ _ _ _ _ _ us hl => match us, hl with | [_], _ => rfl) (fun f cdv A outer s H vs Q E hr h => ?_)
  · obtain ⟨v, rfl, _⟩ := h
    rfl
  obtain ⟨v, rfl, h⟩ := h
  have nd := sc_is_number.nd
  refine ⟨_, (pss_cons (ps_if (pt_val (pe_call F_is_whole hr rfl g_is_whole k_is_whole b_is_whole .nil pass0 (pa_cons (pv 0) pa_nil)))
      (pss_one (ps_ret pe_bl))
      pss_nil)
    (pss_cons (ps_if (PW.pt (pw_or (pt_not (pt_val (pe_isD "tuple" rfl h_isinstance h_tuple (pv 0)))) (pw_or1 (pt_cmpR op_ne (pe_lenS rfl h_len (pv 0)) pe_int (nomark _)))))
      (pss_one (ps_ret pe_bl))
      pss_nil)
    (pss_cons (ps_asg (pv 0) (pg_tup (by rfl) (pgs_cons (pg_name (i := 1) nd rfl (Or.inl rfl)) (pgs_cons (pg_name (i := 2) nd rfl (Or.inl rfl)) pgs_nil))))
    (pss_one (ps_ret (pe_and (pe_call F_is_whole hr rfl g_is_whole k_is_whole b_is_whole .nil pass0 (pa_cons (pv 1) pa_nil)) (pe_and (pe_call F_is_whole hr rfl g_is_whole k_is_whole b_is_whole .nil pass0 (pa_cons (pv 2) pa_nil)) (pe_and (pe_cmpR op_ge (pv 2) pe_int (nomark _)) (pe_one (pe_cmpR op_eq (pe_callBfun cr_gcd (by rfl) g_gcd (pa_cons (pv 1) (pa_cons (pv 2) pa_nil))) pe_int (nomark _))))))))))), ?_⟩
  rcases h with ⟨n, hn, k⟩ | ⟨b, rfl, k⟩
  rotate_left
  · exact ⟨_, rfl, .bl b, .bool b, rfl, .bl b, _, rfl, iteF ⟨_, rfl, .bool b, .bl b, false, rfl, iteT k⟩⟩
  cases n with
  | w i =>
    obtain rfl : v = .int i := hn
    exact ⟨_, rfl, .int i, .int i, rfl, .int i, _, rfl, iteT (k H (Same.refl H))⟩
  | q t b =>
    have hn' := hn.dt.dp
    obtain ⟨a, rfl, ha⟩ := hn
    refine ⟨_, rfl, .ref a, .tuple [.int t, .int b], rfl, hn', _, rfl, iteF ?_⟩
    refine ⟨_, rfl, .tuple [.int t, .int b], hn', true, rfl, iteF ?_⟩
    refine ⟨_, rfl, a, _, rfl, .inr ha, rfl, _, rfl, iteF ?_⟩
    refine ⟨_, rfl, a, _, rfl, ha, rfl, _, _, rfl, _, _, rfl, rfl, ?_⟩
    refine ⟨_, rfl, .int t, .int t, rfl, .int t, _, rfl, iteT ?_⟩
    refine ⟨_, rfl, .int b, .int b, rfl, .int b, _, rfl, iteT ?_⟩
    have ek : Num.ok (.q t b) = (decide (2 ≤ b) && decide ((Nat.gcd t.natAbs b.natAbs : Int) = 1)) := rfl
    refine ⟨_, rfl, _, _, rfl, rfl, _, rfl, ?_⟩
    have z := k _ (Same.refl H)
    rw [ek] at z
    by_cases h2 : 2 ≤ b
    · rw [decide_eq_true h2] at z ⊢
      rw [Bool.true_and, ← deq_int] at z
      refine iteT ⟨_, rfl, _, rfl, t, b, rfl, rfl, z⟩
    · rw [decide_eq_false h2] at z ⊢
      exact iteF z
end
end K17
set_option maxHeartbeats 1000000
namespace K17
open PySem PySem.Spec PyProof.Rows L2 Hx RZ
section
variable {P : Program} {w : World} {K : PySem.W.Frag} {mg : Str → Option Value} {base : Heap}
def spTerm (K : PySem.W.Frag) : Sp := fun vs H Q _ => ∃ (t : Addr) (taps : List Str) (v : V) (r : Term0), vs = [.ref t, v] ∧ SqT K H t (taps.map V.str) ∧ Sm taps ∧ Dp K H v r.data ∧ r.fit ∧ ∀ H', Same H H' → Q (.bl (r.ok taps)) H'
theorem sc_is_term : FnScope ["taps", "value"] ["taps", "value"] (defScope sis_term) := ⟨rfl, rfl, rfl, by decide +kernel, rfl, by decide +kernel, by decide +kernel⟩
theorem ok_is_term (D : Dn K mg "is_term" sis_term) (B0 : Ok P w K mg base L2.CX0 3 "is_lot" ["taps", "value"] (spLot K lotS)) (B1 : Ok P w K mg base L2.CX0 2 "is_number" ["value"] (spIsNumX K)) (h_isinstance : mg "isinstance" = none) (h_tuple : mg "tuple" = none) (h_len : mg "len" = none) :
    Ok P w K mg base L2.CX0 4 "is_term" ["taps", "value"] (spTerm K) := by
  obtain ⟨_, _, g_is_lot, k_is_lot, b_is_lot, F_is_lot⟩ := B0.ex
  obtain ⟨_, _, g_is_number, k_is_number, b_is_number, F_is_number⟩ := B1.ex
  refine Ok.mk0 D sc_is_term (fun vs H Q E h => ?_) (fun _ _ _ _ _ _ us hl => match us, hl with | [_, _], _ => rfl) (fun f cdv A outer s H vs Q E hr h => ?_)
  · obtain ⟨t, taps, v, r, rfl, _⟩ := h
    rfl
  obtain ⟨t, taps, v, r, rfl, ht, tm, hd, fit, k⟩ := h
  have hr1 := hr.mono (show 2 ≤ 3 by decide)
  refine ⟨_, (pss_one (ps_ret (pe_and (pe_isD "tuple" rfl h_isinstance h_tuple (pv 1)) (pe_and (pe_cmpR op_eq (pe_lenS rfl h_len (pv 1)) pe_int (nomark _)) (pe_and (pe_call F_is_lot hr rfl g_is_lot k_is_lot b_is_lot .nil pass0 (pa_cons (pv 0) (pa_cons (pe_ix ix_tup (pv 1) pe_int (fun _ _ => rfl)) pa_nil))) (pe_one (pe_call F_is_number hr1 rfl g_is_number k_is_number b_is_number .nil pass0 (pa_cons (pe_ix ix_tup (pv 1) pe_int (fun _ _ => rfl)) pa_nil)))))))), ?_⟩
  cases r with
  | right ns n =>
    obtain ⟨a, x, y, rfl, ha, hx, hy⟩ := dp_pair hd
    obtain ⟨l, rfl, hl⟩ := dp_names hx
    refine ⟨_, rfl, _, hd, true, rfl, iteT ⟨_, rfl, a, _, rfl, .inr ha, rfl, _, rfl, iteT ?_⟩⟩
    refine ⟨_, rfl, _, rfl, a, _, 0, _, rfl, rfl, ha, rfl, t, taps, _, rfl, ht, tm, .inl ⟨l, ns, rfl, hl, fit, fun H1 s1 => ⟨_, rfl, ?_⟩⟩⟩
    have z : ∀ H', Same H H' → Q (.bl (lotS taps ns && n.ok)) H' := k
    cases hn : lotS taps ns with
    | false =>
      rw [hn] at z
      exact iteF (z _ s1)
    | true =>
      rw [hn] at z
      exact iteT ⟨_, rfl, a, _, 1, _, rfl, rfl, same_seqT s1 ha, rfl, _, rfl, .inl ⟨n, (dp_num hy).keep (.of s1), fun H2 s2 => z _ (s1.trans s2)⟩⟩
  | flag ns b =>
    obtain ⟨a, x, y, rfl, ha, hx, hy⟩ := dp_pair hd
    obtain ⟨l, rfl, hl⟩ := dp_names hx
    cases hy
    refine ⟨_, rfl, _, hd, true, rfl, iteT ⟨_, rfl, a, _, rfl, .inr ha, rfl, _, rfl, iteT ?_⟩⟩
    refine ⟨_, rfl, _, rfl, a, _, 0, _, rfl, rfl, ha, rfl, t, taps, _, rfl, ht, tm, .inl ⟨l, ns, rfl, hl, fit, fun H1 s1 => ⟨_, rfl, ?_⟩⟩⟩
    cases hn : lotS taps ns with
    | false => exact iteF (k _ s1)
    | true => exact iteT ⟨_, rfl, a, _, 1, _, rfl, rfl, same_seqT s1 ha, rfl, _, rfl, .inr ⟨b, rfl, k _ s1⟩⟩
  | odd e n =>
    obtain ⟨a, x, y, rfl, ha, hx, hy⟩ := dp_pair hd
    refine ⟨_, rfl, _, hd, true, rfl, iteT ⟨_, rfl, a, _, rfl, .inr ha, rfl, _, rfl, iteT ?_⟩⟩
    exact ⟨_, rfl, _, rfl, a, _, 0, _, rfl, rfl, ha, rfl, t, taps, _, rfl, ht, tm, .inr ⟨e, hx, fit, _, rfl, iteF (k _ (Same.refl H))⟩⟩
  | one e =>
    obtain ⟨a, x, rfl, ha, hx⟩ := dp_one hd
    exact ⟨_, rfl, _, hd, true, rfl, iteT ⟨_, rfl, a, _, rfl, .inr ha, rfl, _, rfl, iteF (k _ (Same.refl H))⟩⟩
end
end K17
set_option maxHeartbeats 1000000
/-! ### tuples of texts: <, >=, sorted(list), sorted(dict) -/
namespace Hx
open PySem PySem.Spec PyProof.Rows L2
abbrev cmpLt := PySem.W.dataLt
def rLtD (K : PySem.W.Frag) : R2 := fun x y H Q => ∃ d e, Dp K H x d ∧ Dp K H y e ∧ PySem.W.alike d e = true ∧ d ≠ .none ∧ d.depth ≤ 50 ∧ Q (.bl (PySem.W.dataLt d e)) H
def rGeD (K : PySem.W.Frag) : R2 := fun x y H Q => ∃ d e, Dp K H x d ∧ Dp K H y e ∧ PySem.W.alike d e = true ∧ d ≠ .none ∧ d.depth ≤ 50 ∧ Q (.bl (!PySem.W.dataLt d e)) H
section
variable {X : Cx}
theorem op_ltD (hu : X.A.units + 64 < cLine) : OpR X (compareOp .Lt) (rLtD X.K) := by
  intro pins s σ H x y v u Q I rx ry h
  obtain ⟨d, e, hd, he, ha, hn, hz, q⟩ := h
  obtain ⟨as, r1⟩ := Dp.reads I d x v hd rx
  obtain ⟨bs, r2⟩ := Dp.reads I e y u he ry
  exact PySem.W.lt_data r1 r2 ha hn (by have := Nat.min_le_left d.depth e.depth; omega) ⟨.bl _, H, I, rfl, q⟩
theorem op_geD (hu : X.A.units + 64 < cLine) : OpR X (compareOp .GtE) (rGeD X.K) := by
  intro pins s σ H x y v u Q I rx ry h
  obtain ⟨d, e, hd, he, ha, hn, hz, q⟩ := h
  obtain ⟨as, r1⟩ := Dp.reads I d x v hd rx
  obtain ⟨bs, r2⟩ := Dp.reads I e y u he ry
  exact PySem.W.ge_data r1 r2 ha hn (by have := Nat.min_le_left d.depth e.depth; omega) ⟨.bl _, H, I, rfl, q⟩
end
section
variable {β : Type}
theorem each_vals {f : β → V} : ∀ {bs : List β} {us : List Value}, Vals (bs.map f) us → PySem.W.EachIs (fun u b => RelV (f b) u) us bs
  | [], _, r => by cases r; exact .nil
  | b :: bs, _, r => by
    cases r with
    | cons h t => exact .cons h (each_vals t)
theorem vals_each {f : β → V} : ∀ {bs : List β} {us : List Value}, PySem.W.EachIs (fun u b => RelV (f b) u) us bs → Vals (bs.map f) us
  | _, _, .nil => .nil
  | _, _, .cons h t => .cons h (vals_each t)
theorem each_mem {R : Value → β → Prop} {S : Value → β → Prop} : ∀ {us : List Value} {bs : List β}, PySem.W.EachIs R us bs → (∀ b ∈ bs, ∀ u, R u b → S u b) → PySem.W.EachIs S us bs
  | _, _, .nil, _ => .nil
  | _, _, .cons h t, k => .cons (k _ List.mem_cons_self _ h) (each_mem t fun b hb u r => k b (List.mem_cons_of_mem _ hb) u r)
end
abbrev sortD {β : Type} (enc : β → PyData) (bs : List β) : List β := bs.mergeSort (PySem.W.dataLe false enc)
section
variable {X : Cx}
def rSrtD (K : PySem.W.Frag) : List V → Hp → VK → Prop := fun vs H Q => ∃ (a : Addr) (bs : List (V × PyData)), vs = [.ref a] ∧ SqL K H a (bs.map (·.1)) ∧ (∀ b ∈ bs, Dp K H b.1 b.2) ∧ PySem.W.AllAlike (bs.map (·.2)) ∧ PySem.W.Sortable (bs.map (·.2)) ∧
  bs.length ≤ sizeLine ∧ (∀ b ∈ bs, b.2.depth ≤ 50) ∧ ∀ p, H p = none → Q (.ref p) (upd H p (.lst ((sortD (·.2) bs).map (·.1))))
theorem cr_srtD (hu : X.A.units + 64 < cLine) : CallR X (.builtin "sorted") (rSrtD X.K) := by
  intro pins s σ H vs us Q I r h
  obtain ⟨a, bs, rfl, hs, hd, hal, hk, hz, hp, q⟩ := h
  obtain ⟨its, rv, hl, _⟩ := I.list hs
  rw [Vals.ref1 r]
  have e1 := each_vals rv
  have e2 : PySem.W.EachIs (fun (v : Value) (b : V × PyData) => ∃ as, Reads s.heap v b.2 as) its bs := each_mem e1 fun b hb u hr => Dp.reads I b.2 b.1 u (hd b hb) hr
  refine PySem.W.sorted_data (enc := fun b : V × PyData => b.2) hl.isList e1 e2 hal hk hz (fun b hb => ?_) fun out h1 h2 => ?_
  · have := hp b hb
    omega
  · obtain ⟨c, hc⟩ := PyProof.Rows.sortedAll_at s.heap its out.toArray
    have hz2 : ((sortD (·.2) bs).map (·.1)).length ≤ sizeLine := by rw [List.length_map, List.length_mergeSort]; exact hz
    exact ⟨.ref _, upd H (s.heap.objs.size + 1) (.lst ((sortD (·.2) bs).map (·.1))), I.laid (t' := s.toks) (fun _ _ => PyProof.Rows.sortedAll_old) (Nat.le_succ _) ⟨hz2, out, c, vals_each h2, hc⟩, rfl, q _ (I.hok.fresh (Nat.le_succ _))⟩
end
/-! sorted(d), keys tuples of texts -/
abbrev lotK (ns : List Str) : List Key := ns.map Sum.inr
abbrev lotD (ns : List Str) : PyData := .tuple (ns.map PyData.str)
theorem kV_lot (ns : List Str) : (lotK ns).map kV = ns.map V.str := by
  unfold lotK
  rw [List.map_map]
  rfl
theorem alike_lots : ∀ xs ys : List Str, PySem.W.alikeAll (xs.map PyData.str) (ys.map PyData.str) = true
  | [], _ => by simp [PySem.W.alikeAll]
  | _ :: _, [] => by simp [PySem.W.alikeAll]
  | x :: xs, y :: ys => by
    have ih := alike_lots xs ys
    simp only [List.map_cons, PySem.W.alikeAll, PySem.W.alike, ih, Bool.and_self]
theorem alike_lot (xs ys : List Str) : PySem.W.alike (lotD xs) (lotD ys) = true := by
  show PySem.W.alike (.tuple _) (.tuple _) = true
  simp only [PySem.W.alike]
  exact alike_lots xs ys
theorem depth_strs : ∀ xs : List Str, PyData.depthAll (xs.map PyData.str) = 0
  | [] => by simp [PyData.depthAll]
  | x :: xs => by
    simp only [List.map_cons, PyData.depthAll, PyData.depth, depth_strs xs]
    rfl
theorem depth_lot (xs : List Str) : (lotD xs).depth ≤ 1 := by
  show PyData.depth (.tuple _) ≤ 1
  simp only [PyData.depth, depth_strs]
  omega
def rSrtDT : List V → Hp → VK → Prop := fun xs H Q => ∃ (d : Addr) (es : List (List Str × V)), xs = [.ref d] ∧ Rd H d (.dT (es.map fun e => (lotK e.1, e.2))) ∧ (∀ e ∈ es, e.1 ≠ []) ∧
  ∀ (p : Addr) (bs : List (Addr × List Str)), H p = none → bs.map (·.2) = es.map (·.1) → (∀ b ∈ bs, H b.1 = some (.tup (b.2.map V.str))) →
    Q (.ref p) (upd H p (.lst ((sortD (fun b : Addr × List Str => lotD b.2) bs).map fun b => .ref b.1)))
theorem keys_pairs {H : Hp} : ∀ {es : List (List Str × V)} {bs : List Addr}, IsKeys H (es.map fun e => (lotK e.1, e.2)) bs → ∃ cs : List (Addr × List Str), cs.map (·.1) = bs ∧ cs.map (·.2) = es.map (·.1) ∧ ∀ c ∈ cs, H c.1 = some (.tup (c.2.map V.str))
  | [], _, r => by
    cases r
    exact ⟨[], rfl, rfl, by simp⟩
  | e :: es, _, r => by
    have r' : Paired (fun p b => H b = some (.tup (p.1.map kV))) ((lotK e.1, e.2) :: es.map fun e => (lotK e.1, e.2)) _ := r
    cases r' with
    | cons h t =>
      obtain ⟨cs, c1, c2, c3⟩ := keys_pairs t
      refine ⟨(_, e.1) :: cs, by rw [List.map_cons, c1], by rw [List.map_cons, List.map_cons, c2], fun c hc => ?_⟩
      rcases List.mem_cons.mp hc with q | q
      · rw [q]
        rw [kV_lot] at h
        exact h
      · exact c3 c q
section
variable {X : Cx}
theorem cr_srtDT (hc : X.calm = true) (hu : X.A.units + 64 < cLine) : CallR X (.builtin "sorted") rSrtDT := by
  intro pins s σ H xs us Q I r h
  obtain ⟨d, es, rfl, hd, hne, q⟩ := h
  obtain ⟨u, rfl, rx⟩ := r.one
  cases rx
  obtain ⟨z, hs, ks, pr, o, ents, ep, ho, hx, hdt, he, hn⟩ := (show ObjOk X.prog X.w H s.heap d (.dT (es.map fun e => (lotK e.1, e.2))) from hd.ok I.hok)
  have l1 : ents.size = ks.length := size_of_entries he
  have l2 : (es.map fun e => (lotK e.1, e.2)).length = ks.length := Paired.length pr
  obtain ⟨cs, c1, c2, c3⟩ := keys_pairs (isKeys_of pr)
  have lc : cs.length = ks.length := by
    have := congrArg List.length c1
    rw [List.length_map, List.length_map] at this
    exact this
  have hz : ks.length ≤ sizeLine := by omega
  refine Calls.call_function_entry PyProof.Rows.kind_sorted PyProof.Rows.plain_sorted PyProof.Rows.entry_sorted (PyProof.Rows.args_sorted1 _) ?_
  unfold Builtin.«sorted»
  refine wpAny_bind (m := checkCount "sorted" 1 1 _) (wpAny_pure ?_)
  refine wpAny_bind (PySem.W.kdu_collect (A := X.A.in1) (kdl_raw hs hx hdt) (I.ok.hd hc) ho (by omega) fun h' tk acc hk it => ?_)
  have ea : acc.toList = ks.map fun x => Value.ref x.2.1 := by
    have hl : acc.toList.length = ks.length := by rw [Array.length_toList, it.1]; exact l1
    apply List.ext_getElem?
    intro j
    rw [List.getElem?_map]
    cases hj : acc.toList[j]? with
    | none =>
      have h1 := List.getElem?_eq_none_iff.mp hj
      rw [List.getElem?_eq_none (by omega)]
      all_goals rfl
    | some v =>
      obtain ⟨en, hen, hv⟩ := it.2 j v (by rw [← Array.getElem?_toList]; exact hj)
      have qe := entry_at he j
      rw [hen] at qe
      cases hb : ks[j]? with
      | none =>
        rw [hb] at qe
        exact nomatch (show some en = none from qe)
      | some b =>
        rw [hb] at qe
        have e2 : en = entryOfKey (tupleKind (mixKind X.prog X.w)) b := Option.some.inj qe
        rw [hv, e2]
        all_goals rfl
  have eb : acc.toList = cs.map fun c => Value.ref c.1 := by
    have e3 : (cs.map fun c => Value.ref c.1) = (cs.map (·.1)).map Value.ref := by rw [List.map_map]; rfl
    rw [ea, e3, c1, List.map_map]
    rfl
  have hal : acc.toList.length = cs.length := by rw [eb, List.length_map]
  have I1 : Inv X pins σ H { s with heap := h', toks := tk } := I.kept hk
  have rv : Vals (cs.map fun c => V.ref c.1) acc.toList := by
    have q2 := vals_refs (cs.map (·.1))
    rw [List.map_map, List.map_map] at q2
    rw [eb]
    exact q2
  have e1 := each_vals rv
  refine wpAny_bind (wpAny_newList ?_ (by rw [hal, lc]; exact hz))
  have hoL : (h'.push (seqObj "list" acc.toList.toArray 0)).get? h'.objs.size = some (seqObj "list" acc.toList.toArray 0) := Heap.get?_push_size _ rfl
  show wpAny _ _ _ _ _ { s with heap := h'.push (seqObj "list" acc.toList.toArray 0), toks := tk }
  have hpn := I1.hok.fresh (Nat.le_refl _)
  have er : PySem.W.EachIs (fun (v : Value) (b : Addr × List Str) => ∃ as, Reads (h'.push (seqObj "list" acc.toList.toArray 0)) v (lotD b.2) as ∧ h'.objs.size ∉ as) acc.toList cs := each_mem e1 fun b hb u hr => by
    have hb3 := c3 b hb
    obtain ⟨as, ra⟩ := Dp.reads I1 (lotD b.2) (.ref b.1) u (.tup (SqT.of hb3) (dpAll_strs b.2)) hr
    refine ⟨as, PyProof.Rows.Reads.keeps (fun _ _ e => Heap.get?_push_of_some _ e) ra, fun hm => ?_⟩
    obtain ⟨ob, hob⟩ := PyProof.On.reads_mem_get ra _ hm
    exact absurd (Heap.lt_size hob) (Nat.lt_irrefl _)
  refine wpAny_bind (wpAny_holding (PySem.W.list_sort_data (enc := fun b : Addr × List Str => lotD b.2) (s := { s with heap := h'.push (seqObj "list" acc.toList.toArray 0), toks := tk }) hoL e1 er (PySem.W.AllAlike.of fun b b' => alike_lot b.2 b'.2) ?_ (by rw [lc]; exact hz) (fun b hb => ?_) fun out h1 h2 => ?_))
  · exact .inl fun x hx => by
      obtain ⟨b, hb, rfl⟩ := List.mem_map.mp hx
      have mb : b.2 ∈ es.map (·.1) := by rw [← c2]; exact List.mem_map.mpr ⟨b, hb, rfl⟩
      obtain ⟨e, me, ee⟩ := List.mem_map.mp mb
      have := hne e me
      rw [ee] at this
      cases hb2 : b.2 with
      | nil => exact absurd hb2 this
      | cons x r => exact ⟨_, _, by show lotD _ = _; rfl⟩
  · have := depth_lot b.2
    show X.A.in1.units + 1 + (lotD b.2).depth < cLine
    have e5 : X.A.in1.units ≤ X.A.units + 2 := by first | exact Nat.le_succ_of_le (Nat.le_refl _) | (show X.A.units + _ ≤ _; omega)
    omega
  · obtain ⟨e', he'⟩ := PyProof.Rows.sortedHeap_at (vs := acc.toList) (out := out.toArray) hoL
    have hz2 : ((sortD (fun b : Addr × List Str => lotD b.2) cs).map fun b => V.ref b.1).length ≤ sizeLine := by rw [List.length_map, List.length_mergeSort, lc]; exact hz
    refine wpAny_pure ⟨_, rfl, .ref h'.objs.size, upd H h'.objs.size (.lst ((sortD (fun b : Addr × List Str => lotD b.2) cs).map fun b => V.ref b.1)), I1.laid (t' := tk) (fun b u e => ?_) (Nat.le_refl _)
      ⟨hz2, out, e', vals_each h2, he'⟩, rfl, q _ cs hpn c2 c3⟩
    have hb : b < h'.objs.size := Heap.lt_size e
    rw [PyProof.Rows.sortedHeap_old (Nat.ne_of_lt hb) (by rw [size_push']; exact Nat.lt_succ_of_lt hb)]
    exact Heap.get?_push_of_some _ e
end
end Hx
set_option maxHeartbeats 1000000
namespace K17
open PySem PySem.Spec PyProof.Rows L2 Hx RZ
/-! ### sums of terms: the mathematics -/
abbrev Lot := List Str
abbrev Term := Lot × Num
/-! the order of lots -/
def lotLt (a b : Lot) : Bool := PySem.W.dataLt (lotD a) (lotD b)
def lotN (a : Lot) : List (List Nat) := a.map fun x => x.cps.toList
theorem lotN_inj : ∀ {a b : Lot}, lotN a = lotN b → a = b
  | [], [], _ => rfl
  | [], _ :: _, h => by cases h
  | _ :: _, [], h => by cases h
  | x :: a, y :: b, h => by
    have h' : x.cps.toList :: lotN a = y.cps.toList :: lotN b := h
    injection h' with h1 h2
    rw [PySem.W.str_of_cps h1, lotN_inj h2]
theorem row_strs : ∀ xs ys : Lot, PySem.W.rowLt (xs.map .str) (ys.map .str) = decide (lotN xs < lotN ys)
  | [], [] => by
    have e : PySem.W.rowLt [] [] = false := lex_irrefl _
    simp [e, lotN]
  | [], y :: ys => by
    have e : PySem.W.rowLt [] (PyData.str y :: ys.map .str) = true := by
      unfold PySem.W.rowLt
      rw [PySem.W.toks_all_cons]
      simp only [PySem.W.keyToksAll]
      rw [lex_diff (O := itemOrd) (by simp)]
      rfl
    simpa [lotN] using e
  | x :: xs, [] => by
    have e : PySem.W.rowLt (PyData.str x :: xs.map .str) [] = false := by
      unfold PySem.W.rowLt
      rw [PySem.W.toks_all_cons]
      simp only [PySem.W.keyToksAll]
      rw [lex_diff (O := itemOrd) (by simp)]
      rfl
    simpa [lotN] using e
  | x :: xs, y :: ys => by
    have e : PySem.W.rowLt (PyData.str x :: xs.map .str) (PyData.str y :: ys.map .str) = if x = y then PySem.W.rowLt (xs.map .str) (ys.map .str) else decide (x.cps.toList < y.cps.toList) := by
      unfold PySem.W.rowLt
      rw [PySem.W.dataLt_cons (by simp [PySem.W.alike]), PySem.W.dataLt_str]
      simp only [PyData.eqv, beq_iff_eq]
    show PySem.W.rowLt (PyData.str x :: xs.map .str) (PyData.str y :: ys.map .str) = _
    rw [e]
    by_cases h : x = y
    · rw [if_pos h, row_strs xs ys]
      exact decide_eq_decide.mpr (by simp [h, lotN, List.cons_lt_cons_iff])
    · rw [if_neg h]
      have h2 : ¬ x.cps.toList = y.cps.toList := fun q => h (PySem.W.str_of_cps q)
      have h3 : ¬ x.cps = y.cps := fun q => h2 (by rw [q])
      simp [h3, lotN, List.cons_lt_cons_iff]
theorem lotLt_eq (a b : Lot) : lotLt a b = decide (lotN a < lotN b) := by
  show PySem.W.dataLt (.tuple (a.map .str)) (.tuple (b.map .str)) = _
  rw [PySem.W.dataLt_tuple]
  exact row_strs a b
theorem lotLt_irrefl (a : Lot) : lotLt a a = false := by
  rw [lotLt_eq]
  exact decide_eq_false (List.lt_irrefl _)
theorem lotLt_trans {a b c : Lot} (h : lotLt a b = true) (k : lotLt b c = true) : lotLt a c = true := by
  rw [lotLt_eq, decide_eq_true_eq] at *
  exact List.lt_trans h k
theorem lotLt_total {a b : Lot} (h : lotLt a b = false) (k : lotLt b a = false) : a = b := by
  rw [lotLt_eq, decide_eq_false_iff_not] at *
  have h1 : lotN b ≤ lotN a := List.not_lt.mp h
  have h2 : lotN a ≤ lotN b := List.not_lt.mp k
  exact lotN_inj (List.le_antisymm h2 h1)
/-- sorted by their lots -/
abbrev sortL (ls : List Lot) : List Lot := sortD lotD ls
theorem sortL_perm (ls : List Lot) : (sortL ls).Perm ls := List.mergeSort_perm _ _
theorem dataLe_lot {β : Type} (f : β → Lot) (a b : β) : PySem.W.dataLe false (fun x => lotD (f x)) a b = !lotLt (f b) (f a) := rfl
theorem sortD_le {β : Type} (f : β → Lot) (ls : List β) : (sortD (fun x => lotD (f x)) ls).Pairwise fun a b => lotLt (f b) (f a) = false := by
  have q := List.pairwise_mergeSort (le := PySem.W.dataLe false fun x : β => lotD (f x)) (fun a b c h k => ?_) (fun a b => ?_) ls
  · refine q.imp fun {a b} h => ?_
    rw [dataLe_lot] at h
    simpa using h
  · rw [dataLe_lot] at *
    simp only [Bool.not_eq_true', Bool.not_eq_eq_eq_not, Bool.not_true] at *
    cases e : lotLt (f c) (f a) with
    | false => rfl
    | true =>
      exfalso
      cases e2 : lotLt (f b) (f c) with
      | true =>
        have := lotLt_trans e2 e
        rw [h] at this
        cases this
      | false =>
        have := lotLt_total e2 k
        rw [this] at h
        rw [h] at e
        cases e
  · rw [dataLe_lot, dataLe_lot]
    cases e : lotLt (f b) (f a) with
    | false => rfl
    | true =>
      cases e2 : lotLt (f a) (f b) with
      | false => rfl
      | true =>
        have := lotLt_trans e e2
        rw [lotLt_irrefl] at this
        cases this
def Rise (ls : List Lot) : Prop := ls.Pairwise fun a b => lotLt a b = true
theorem rise_of_le {ls : List Lot} (h : ls.Pairwise fun a b => lotLt b a = false) (n : ls.Nodup) : Rise ls := by
  refine (List.Pairwise.and h n).imp fun {a b} ⟨q1, q2⟩ => ?_
  cases e : lotLt a b with
  | true => rfl
  | false => exact absurd (lotLt_total e q1) q2
theorem sortL_rise {ls : List Lot} (n : ls.Nodup) : Rise (sortL ls) :=
  rise_of_le (sortD_le (fun x : Lot => x) ls) ((sortL_perm ls).nodup_iff.mpr n)
theorem Rise.nodup {ls : List Lot} (h : Rise ls) : ls.Nodup := h.imp fun {a b} q e => by
  rw [e, lotLt_irrefl] at q
  cases q
theorem rise_unique {ls ms : List Lot} (h : Rise ls) (k : Rise ms) (p : ls.Perm ms) : ls = ms :=
  List.Perm.eq_of_pairwise (le := fun a b => lotLt a b = true) (fun a b _ _ q r => by
    have := lotLt_trans q r
    rw [lotLt_irrefl] at this
    cases this) h k p
/-! what numbers are worth -/
def val (n : Num) : Rat := (n.top : Rat) / (n.low : Rat)
theorem low_ne {n : Num} (h : n.ok = true) : (n.low : Rat) ≠ 0 := by
  have := low_pos h
  intro e
  have : n.low = 0 := by exact_mod_cast e
  omega
theorem cast_ne {b : Int} (h : 0 < b) : (b : Rat) ≠ 0 := by
  intro e
  have : b = 0 := by exact_mod_cast e
  omega
theorem made_scale {t b k : Int} (hb : 0 < b) (hk : 0 < k) : made (t * k) (b * k) = made t b := by
  have g0 := gcd_pos (t := t) hb
  have e : (Nat.gcd (t * k).natAbs (b * k).natAbs : Int) = (Nat.gcd t.natAbs b.natAbs : Int) * k := by
    rw [Int.natAbs_mul, Int.natAbs_mul, Nat.gcd_mul_right, Int.natCast_mul, Int.natAbs_of_nonneg (by omega)]
  unfold made
  rw [e, Int.mul_ediv_mul_of_pos_left _ _ hk, Int.mul_ediv_mul_of_pos_left _ _ hk]
theorem val_made {t b : Int} (hb : 0 < b) : val (made t b) = (t : Rat) / (b : Rat) := by
  have gp := gcd_pos (t := t) hb
  have dl : ((Nat.gcd t.natAbs b.natAbs : Nat) : Int) ∣ t := Int.dvd_natAbs.mp (Int.natCast_dvd_natCast.mpr (Nat.gcd_dvd_left t.natAbs b.natAbs))
  have dr : ((Nat.gcd t.natAbs b.natAbs : Nat) : Int) ∣ b := Int.dvd_natAbs.mp (Int.natCast_dvd_natCast.mpr (Nat.gcd_dvd_right t.natAbs b.natAbs))
  generalize hg : ((Nat.gcd t.natAbs b.natAbs : Nat) : Int) = g at *
  obtain ⟨t', ht⟩ := dl
  obtain ⟨b', hb'⟩ := dr
  have b'0 : 0 < b' := by
    rcases Int.lt_trichotomy b' 0 with q | q | q
    · have := Int.mul_neg_of_pos_of_neg gp q
      omega
    · subst q
      omega
    · exact q
  have e1 : t / g = t' := by rw [ht, Int.mul_ediv_cancel_left _ (by omega)]
  have e2 : b / g = b' := by rw [hb', Int.mul_ediv_cancel_left _ (by omega)]
  have hr : (t : Rat) / (b : Rat) = (t' : Rat) / (b' : Rat) := by
    rw [ht, hb', Rat.intCast_mul, Rat.intCast_mul]
    have := cast_ne gp
    have := cast_ne b'0
    grind
  unfold made
  rw [hg, e1, e2, hr]
  split
  · next h =>
    show ((t' : Int) : Rat) / ((1 : Int) : Rat) = _
    rw [h]
  · rfl
theorem val_plus {m n : Num} (hm : m.ok = true) (hn : n.ok = true) : val (plusN m n) = val m + val n := by
  unfold plusN
  rw [val_made (Int.mul_pos (low_pos hm) (low_pos hn))]
  unfold val
  have := low_ne hm
  have := low_ne hn
  rw [Rat.intCast_add, Rat.intCast_mul, Rat.intCast_mul, Rat.intCast_mul]
  grind
theorem val_turn (n : Num) : val (turnN n) = - val n := by
  unfold val
  rw [turn_top, turn_low, Rat.intCast_neg]
  grind
theorem val_inj {m n : Num} (hm : m.ok = true) (hn : n.ok = true) (h : val m = val n) : m = n := by
  have lm := low_pos hm
  have ln := low_pos hn
  have e : m.top * n.low = n.top * m.low := by
    have h1 := low_ne hm
    have h2 := low_ne hn
    unfold val at h
    have q : (m.top : Rat) * (n.low : Rat) = (n.top : Rat) * (m.low : Rat) := by grind
    have q2 : ((m.top * n.low : Int) : Rat) = ((n.top * m.low : Int) : Rat) := by rw [Rat.intCast_mul, Rat.intCast_mul]; exact q
    exact_mod_cast q2
  rw [← made_self hm, ← made_self hn, ← made_scale lm ln, ← made_scale (t := n.top) ln lm, e, Int.mul_comm m.low n.low]
def nz (n : Num) : Bool := decide (n ≠ .w 0)
theorem val_zero {n : Num} (h : n.ok = true) : val n = 0 ↔ n = .w 0 := by
  have z : val (.w 0) = 0 := by
    show ((0 : Int) : Rat) / ((1 : Int) : Rat) = 0
    grind
  constructor
  · intro q
    exact val_inj h rfl (q.trans z.symm)
  · rintro rfl
    exact z
/-! gathered -/
def getT (acc : List Term) (l : Lot) : Num := match acc with
  | [] => .w 0
  | t :: r => if t.1 = l then t.2 else getT r l
def putT (acc : List Term) (l : Lot) (n : Num) : List Term := match acc with
  | [] => [(l, n)]
  | t :: r => if t.1 = l then (t.1, n) :: r else t :: putT r l n
def stepT (acc : List Term) (t : Term) : List Term := putT acc t.1 (plusN (getT acc t.1) t.2)
def sumT (ts : List Term) : List Term := ts.foldl stepT []
def gathT (ts : List Term) : List Term := ((sortL ((sumT ts).map (·.1))).map fun l => (l, getT (sumT ts) l)).filter fun t => nz t.2
def sumV (ts : List Term) (l : Lot) : Rat := match ts with
  | [] => 0
  | t :: r => (if t.1 = l then val t.2 else 0) + sumV r l
def OkT (ts : List Term) : Prop := ∀ t ∈ ts, t.2.ok = true
theorem get_put (acc : List Term) (l m : Lot) (n : Num) : getT (putT acc l n) m = if l = m then n else getT acc m := by
  induction acc with
  | nil => rfl
  | cons t r ih =>
    unfold putT
    by_cases h : t.1 = l
    · rw [if_pos h]
      show (if t.1 = m then n else getT r m) = if l = m then n else if t.1 = m then t.2 else getT r m
      rw [h]
      split <;> rfl
    · rw [if_neg h]
      show (if t.1 = m then t.2 else getT (putT r l n) m) = if l = m then n else if t.1 = m then t.2 else getT r m
      rw [ih]
      by_cases h2 : t.1 = m
      · rw [if_pos h2, if_pos h2, if_neg (fun q => h (by rw [h2, q]))]
      · rw [if_neg h2, if_neg h2]
theorem keys_put (acc : List Term) (l : Lot) (n : Num) : (putT acc l n).map (·.1) = if l ∈ acc.map (·.1) then acc.map (·.1) else acc.map (·.1) ++ [l] := by
  induction acc with
  | nil => rfl
  | cons t r ih =>
    unfold putT
    by_cases h : t.1 = l
    · rw [if_pos h, if_pos (by rw [List.map_cons, h]; exact List.mem_cons_self)]
      rfl
    · rw [if_neg h, List.map_cons, ih]
      by_cases h2 : l ∈ r.map (·.1)
      · rw [if_pos h2, if_pos (by rw [List.map_cons]; exact List.mem_cons_of_mem _ h2)]
        rfl
      · rw [if_neg h2, if_neg (by
          rw [List.map_cons]
          intro q
          rcases List.mem_cons.mp q with q | q
          · exact h q.symm
          · exact h2 q)]
        rfl
theorem put_ok {acc : List Term} {l : Lot} {n : Num} (h : OkT acc) (k : n.ok = true) : OkT (putT acc l n) := by
  induction acc with
  | nil =>
    intro t ht
    rw [List.mem_singleton.mp ht]
    exact k
  | cons a r ih =>
    unfold putT
    split
    · intro t ht
      rcases List.mem_cons.mp ht with q | q
      · rw [q]; exact k
      · exact h t (List.mem_cons_of_mem _ q)
    · intro t ht
      rcases List.mem_cons.mp ht with q | q
      · rw [q]; exact h a List.mem_cons_self
      · exact ih (fun t ht => h t (List.mem_cons_of_mem _ ht)) t q
theorem get_ok {acc : List Term} (h : OkT acc) (l : Lot) : (getT acc l).ok = true := by
  induction acc with
  | nil => rfl
  | cons t r ih =>
    unfold getT
    split
    · exact h t List.mem_cons_self
    · exact ih fun t ht => h t (List.mem_cons_of_mem _ ht)
theorem step_ok {acc : List Term} {t : Term} (h : OkT acc) (k : t.2.ok = true) : OkT (stepT acc t) := put_ok h (plus_ok (get_ok h _) k)
theorem step_nodup {acc : List Term} {t : Term} (h : (acc.map (·.1)).Nodup) : ((stepT acc t).map (·.1)).Nodup := by
  unfold stepT
  rw [keys_put]
  split
  · exact h
  · next hn =>
    rw [List.nodup_append]
    refine ⟨h, by simp, fun a ha b hb e => ?_⟩
    rw [List.mem_singleton.mp hb] at e
    exact hn (e ▸ ha)
theorem fold_facts : ∀ (ts acc : List Term), OkT ts → OkT acc → (acc.map (·.1)).Nodup →
    OkT (ts.foldl stepT acc) ∧ ((ts.foldl stepT acc).map (·.1)).Nodup ∧ (∀ l, val (getT (ts.foldl stepT acc) l) = val (getT acc l) + sumV ts l) ∧ (∀ l, l ∈ (ts.foldl stepT acc).map (·.1) ↔ l ∈ acc.map (·.1) ∨ l ∈ ts.map (·.1))
  | [], acc, _, h2, h3 => ⟨h2, h3, fun l => by show _ = _ + (0 : Rat); exact (Rat.add_zero _).symm, fun l => by simp⟩
  | t :: r, acc, h1, h2, h3 => by
    have ot := h1 t List.mem_cons_self
    obtain ⟨q1, q2, q3, q4⟩ := fold_facts r (stepT acc t) (fun t ht => h1 t (List.mem_cons_of_mem _ ht)) (step_ok h2 ot) (step_nodup h3)
    refine ⟨q1, q2, fun l => ?_, fun l => ?_⟩
    · show val (getT (r.foldl stepT (stepT acc t)) l) = _
      rw [q3 l]
      show val (getT (putT acc t.1 (plusN (getT acc t.1) t.2)) l) + sumV r l = val (getT acc l) + ((if t.1 = l then val t.2 else 0) + sumV r l)
      rw [get_put]
      by_cases h : t.1 = l
      · rw [if_pos h, if_pos h, val_plus (get_ok h2 _) ot, h]
        grind
      · rw [if_neg h, if_neg h]
        grind
    · show l ∈ (r.foldl stepT (stepT acc t)).map (·.1) ↔ _
      rw [q4 l]
      unfold stepT
      rw [keys_put]
      split
      · next hm =>
        constructor
        · rintro (q | q)
          · exact .inl q
          · exact .inr (by rw [List.map_cons]; exact List.mem_cons_of_mem _ q)
        · rintro (q | q)
          · exact .inl q
          · rw [List.map_cons] at q
            rcases List.mem_cons.mp q with q | q
            · exact .inl (q ▸ hm)
            · exact .inr q
      · rw [List.mem_append, List.mem_singleton, List.map_cons, List.mem_cons, or_assoc]
/-- lots rising, numbers right and not 0 -/
structure Canon (L : List Term) : Prop where
  rise : Rise (L.map (·.1))
  ok : OkT L
  nz : ∀ t ∈ L, t.2 ≠ .w 0
theorem get_mem {L : List Term} (n : (L.map (·.1)).Nodup) {t : Term} (h : t ∈ L) : getT L t.1 = t.2 := by
  induction L with
  | nil => cases h
  | cons a r ih =>
    rw [List.map_cons, List.nodup_cons] at n
    unfold getT
    rcases List.mem_cons.mp h with q | q
    · rw [q, if_pos rfl]
    · rw [if_neg (fun e => n.1 (by rw [e]; exact List.mem_map.mpr ⟨t, q, rfl⟩)), ih n.2 q]
theorem get_none {L : List Term} {l : Lot} (h : l ∉ L.map (·.1)) : getT L l = .w 0 := by
  induction L with
  | nil => rfl
  | cons a r ih =>
    rw [List.map_cons, List.mem_cons, not_or] at h
    unfold getT
    rw [if_neg (fun e => h.1 e.symm), ih h.2]
theorem get_table {f : Lot → Num} {p : Lot → Bool} : ∀ {ls : List Lot}, ls.Nodup → ∀ l, getT ((ls.filter p).map fun l => (l, f l)) l = if l ∈ ls ∧ p l = true then f l else .w 0
  | [], _, l => by simp [getT]
  | a :: r, n, l => by
    rw [List.nodup_cons] at n
    have ih := get_table (f := f) (p := p) n.2 l
    rw [List.filter_cons]
    by_cases hp : p a = true
    · rw [if_pos hp, List.map_cons]
      show (if a = l then f a else getT ((r.filter p).map fun l => (l, f l)) l) = _
      by_cases h : a = l
      · rw [if_pos h, if_pos ⟨by rw [h]; exact List.mem_cons_self, by rw [← h]; exact hp⟩, h]
      · rw [if_neg h, ih]
        have e : (l ∈ a :: r) ↔ l ∈ r := by simp [Ne.symm h]
        simp only [e]
    · rw [if_neg hp, ih]
      by_cases h : a = l
      · have h1 : l ∉ r := h ▸ n.1
        have h2 : ¬ p l = true := h ▸ hp
        simp [h1, h2]
      · have e : (l ∈ a :: r) ↔ l ∈ r := by simp [Ne.symm h]
        simp only [e]
theorem gath_eq (ts : List Term) : gathT ts = ((sortL ((sumT ts).map (·.1))).filter fun l => nz (getT (sumT ts) l)).map fun l => (l, getT (sumT ts) l) := by
  unfold gathT
  rw [List.filter_map]
  rfl
theorem gath_canon {ts : List Term} (h : OkT ts) : Canon (gathT ts) ∧ (∀ l, val (getT (gathT ts) l) = sumV ts l) ∧ ∀ l ∈ (gathT ts).map (·.1), l ∈ ts.map (·.1) := by
  obtain ⟨q1, q2, q3, q4⟩ : OkT (sumT ts) ∧ ((sumT ts).map (fun t : Term => t.1)).Nodup ∧ (∀ l : Lot, val (getT (sumT ts) l) = val (getT [] l) + sumV ts l) ∧ (∀ l : Lot, l ∈ (sumT ts).map (fun t : Term => t.1) ↔ l ∈ ([] : List Term).map (fun t : Term => t.1) ∨ l ∈ ts.map (fun t : Term => t.1)) := fold_facts ts [] h (fun _ h => by cases h) List.nodup_nil
  have r1 := sortL_rise q2
  have rn := Rise.nodup r1
  have mem : ∀ l, l ∈ sortL ((sumT ts).map (·.1)) ↔ l ∈ (sumT ts).map (·.1) := fun l => (sortL_perm _).mem_iff
  refine ⟨⟨?_, ?_, ?_⟩, fun l => ?_, fun l hl => ?_⟩
  · rw [gath_eq, List.map_map]
    have e : ((fun t : Term => t.1) ∘ fun l => (l, getT (sumT ts) l)) = id := rfl
    rw [e, List.map_id]
    exact List.Pairwise.filter _ r1
  · intro t ht
    rw [gath_eq] at ht
    obtain ⟨l, hl, rfl⟩ := List.mem_map.mp ht
    exact get_ok q1 l
  · intro t ht
    rw [gath_eq] at ht
    obtain ⟨l, hl, rfl⟩ := List.mem_map.mp ht
    have := (List.mem_filter.mp hl).2
    exact of_decide_eq_true this
  · rw [gath_eq, get_table rn l]
    have e0 : val (getT (sumT ts) l) = sumV ts l := by
      rw [q3 l]
      have : val (getT [] l) = 0 := (val_zero rfl).mpr rfl
      rw [this]
      exact Rat.zero_add _
    by_cases hm : l ∈ sortL ((sumT ts).map (·.1))
    · by_cases hz : nz (getT (sumT ts) l) = true
      · rw [if_pos ⟨hm, hz⟩, e0]
      · rw [if_neg fun q => hz q.2]
        have e1 : getT (sumT ts) l = .w 0 := Decidable.of_not_not fun q => hz (decide_eq_true q)
        rw [← e0, e1]
    · rw [if_neg fun q => hm q.1, ← e0, get_none (fun q => hm ((mem l).mpr q))]
  · rw [gath_eq, List.map_map] at hl
    obtain ⟨m, hm, rfl⟩ := List.mem_map.mp hl
    have h1 := (mem m).mp (List.mem_filter.mp hm).1
    rcases (q4 m).mp h1 with q | q
    · simp at q
    · exact q
theorem canon_unique : ∀ {L M : List Term}, Canon L → Canon M → (∀ l, val (getT L l) = val (getT M l)) → L = M := by
  intro L M hL hM h
  have e : ∀ l, getT L l = getT M l := fun l => val_inj (get_ok hL.ok l) (get_ok hM.ok l) (h l)
  have nL := Rise.nodup hL.rise
  have nM := Rise.nodup hM.rise
  have keys : ∀ {A B : List Term}, Canon A → Canon B → (∀ l, getT A l = getT B l) → ∀ l ∈ A.map (·.1), l ∈ B.map (·.1) := fun {A B} hA hB e l hl => by
    obtain ⟨t, ht, rfl⟩ := List.mem_map.mp hl
    refine Decidable.byContradiction fun hn => hA.nz t ht ?_
    rw [← get_mem (Rise.nodup hA.rise) ht, e, get_none hn]
  have pk : (L.map (·.1)).Perm (M.map (·.1)) := by
    rw [List.perm_ext_iff_of_nodup nL nM]
    exact fun l => ⟨keys hL hM e l, keys hM hL (fun l => (e l).symm) l⟩
  have ek := rise_unique hL.rise hM.rise pk
  have tab : ∀ {A : List Term}, (A.map (·.1)).Nodup → A = (A.map (·.1)).map fun l => (l, getT A l) := fun {A} n => by
    rw [List.map_map]
    conv => lhs; rw [← List.map_id A]
    refine List.map_congr_left fun t ht => ?_
    show t = (t.1, getT A t.1)
    rw [get_mem n ht]
  rw [tab nL, tab nM, ek]
  exact List.map_congr_left fun l _ => by rw [e]
/-- what has the sums of a canonical list is gathered to it -/
theorem gath_to {ts L : List Term} (h : OkT ts) (hL : Canon L) (e : ∀ l, sumV ts l = val (getT L l)) : gathT ts = L := by
  obtain ⟨q1, q2, _⟩ := gath_canon h
  exact canon_unique q1 hL fun l => (q2 l).trans (e l)
theorem sumV_app (a b : List Term) (l : Lot) : sumV (a ++ b) l = sumV a l + sumV b l := by
  induction a with
  | nil => exact (Rat.zero_add _).symm
  | cons t r ih =>
    show _ + sumV (r ++ b) l = _ + sumV r l + sumV b l
    rw [ih]
    grind
theorem sumV_perm {a b : List Term} (p : a.Perm b) (l : Lot) : sumV a l = sumV b l := by
  induction p with
  | nil => rfl
  | cons x _ ih =>
    show _ + sumV _ l = _ + sumV _ l
    rw [ih]
  | swap x y r =>
    show _ + (_ + sumV r l) = _ + (_ + sumV r l)
    grind
  | trans _ _ i1 i2 => exact i1.trans i2
theorem sumV_canon {L : List Term} (h : Canon L) (l : Lot) : sumV L l = val (getT L l) := by
  have n := Rise.nodup h.rise
  clear h
  induction L with
  | nil => exact ((val_zero rfl).mpr rfl).symm
  | cons t r ih =>
    rw [List.map_cons, List.nodup_cons] at n
    show (if t.1 = l then val t.2 else 0) + sumV r l = val (if t.1 = l then t.2 else getT r l)
    rw [ih n.2]
    by_cases e : t.1 = l
    · rw [if_pos e, if_pos e, get_none (e ▸ n.1), (val_zero rfl).mpr rfl]
      exact Rat.add_zero _
    · rw [if_neg e, if_neg e]
      exact Rat.zero_add _
end K17
set_option maxHeartbeats 1000000
/-! ### comprehensions with a test; dicts with lots as keys -/
namespace Hx
open PySem PySem.Spec PyProof.Rows L2
theorem paired_imp {α β : Type} {F G : α → β → Prop} : ∀ {l : List α} {m : List β}, Paired F l m → (∀ a b, F a b → G a b) → Paired G l m
  | _, _, .nil, _ => .nil
  | _, _, .cons h t, k => .cons (k _ _ h) (paired_imp t k)
theorem paired_get2 {α β : Type} {F : α → β → Prop} : ∀ {l : List α} {m : List β} {i : Nat} {b : β}, Paired F l m → m[i]? = some b → ∃ a, l[i]? = some a ∧ F a b
  | _, _, 0, _, .cons h _, e => by
    simp at e
    subst e
    exact ⟨_, rfl, h⟩
  | _, _, i + 1, a, .cons _ t, e => by
    simp at e
    obtain ⟨b, hb, f⟩ := paired_get2 (i := i) t e
    exact ⟨b, by simpa using hb, f⟩
theorem paired_len {α β : Type} {F : α → β → Prop} {l : List α} {m : List β} (h : Paired F l m) : l.length = m.length := Paired.length h
theorem paired_snoc {α β : Type} {F : α → β → Prop} {l : List α} {m : List β} {a : α} {b : β} (h : Paired F l m) (k : F a b) : Paired F (l ++ [a]) (m ++ [b]) := Paired.snoc h k
theorem paired_app {α β : Type} {F : α → β → Prop} : ∀ {l l' : List α} {m m' : List β}, Paired F l m → Paired F l' m' → Paired F (l ++ l') (m ++ m')
  | _, _, _, _, .nil, k => k
  | _, _, _, _, .cons h t, k => .cons h (paired_app t k)
theorem paired_all {α β : Type} {F : α → β → Prop} {l : List α} {m : List β} (hl : l.length = m.length) (h : ∀ (i : Nat) a b, l[i]? = some a → m[i]? = some b → F a b) : Paired F l m := by
  induction l generalizing m with
  | nil =>
    cases m with
    | nil => exact .nil
    | cons b m => simp at hl
  | cons a l ih =>
    cases m with
    | nil => simp at hl
    | cons b m =>
      exact .cons (h 0 a b rfl rfl) (ih (by simpa using hl) fun i x y e1 e2 => h (i + 1) x y (by simpa using e1) (by simpa using e2))
section
variable {J : It} {g : TG} {tt : TT} {te : TE} {vs : List Nat} {σ : L2.St} {H1 : Hp} {D : Addr} {Qd : Hp → Prop} {β : Type}
/-- a comprehension whose test is known by the data -/
theorem lc_filt (ds : List β) (p : β → Bool) (R : V → β → Hp → Prop) (hR : ∀ v b H H', TK H H' → R v b H → R v b H') (hn : H1 D = none) (hsz : ds.length < sizeLine) (go : ∀ i H, i < ds.length → Same H1 H → J.go i H) (stop : ∀ H, Same H1 H → J.stop ds.length H)
    (turn : ∀ (i : Nat) (b : β) (x : V) (H H' : Hp) (F : VK) (G : Hp → Prop), ds[i]? = some b → Same H1 H → J.yld i H x H' → (p b = true → ∀ y H4, R y b H4 → Same H H4 → F y H4) → (p b = false → ∀ H4, Same H H4 → G H4) →
      g x (wipe σ vs) H' fun σ2 H2 => wipe σ2 vs = wipe σ vs ∧ tt σ2 H2 fun c H3 => if c = true then te σ2 H3 F else G H3)
    (hd : ∀ acc H, Same H1 H → H D = some (.lst acc) → Paired (fun v b => R v b H) acc (ds.filter p) → Qd H) : LcGoal J g tt te vs σ H1 D Qd := by
  have s1 : ∀ {H : Hp} {o : HO}, Same H1 H → Same H1 (upd H D o) := fun s b u e => by rw [upd_ne (ne_of_none e hn)]; exact s b u e
  refine lc_any (n := ds.length) (fun i H => ∃ acc, Same H1 H ∧ H D = some (.lst acc) ∧ Paired (fun v b => R v b H) acc ((ds.take i).filter p)) ⟨[], s1 (Same.refl H1), upd_same, .nil⟩ (fun i H hi ⟨_, s, _⟩ => go i H hi s) (fun H ⟨_, s, _⟩ => stop H s) ?_ fun H ⟨acc, s, e, k⟩ => hd acc H s e (by rw [List.take_length] at k; exact k)
  rintro i x H H' hi ⟨acc, s, e, k⟩ y
  have hb : ds[i]? = some ds[i] := List.getElem?_eq_getElem hi
  have et : ds.take (i + 1) = ds.take i ++ [ds[i]] := by rw [List.take_add_one, hb]; rfl
  have small : acc.length < sizeLine := by
    rw [paired_len k]
    have h1 : ((ds.take i).filter p).length ≤ (ds.take i).length := List.length_filter_le _ _
    have h2 : (ds.take i).length ≤ ds.length := by rw [List.length_take]; omega
    omega
  refine turn i ds[i] x H H' _ _ hb s y (fun hp z H4 rz s4 => ?_) (fun hp H4 s4 => ?_)
  · have e4 := s4 _ _ e
    refine ⟨acc, e4, small, acc ++ [z], s1 (s.trans s4), upd_same, ?_⟩
    have tk : TK H4 (upd H4 D (.lst (acc ++ [z]))) := .lst e4
    rw [et, List.filter_append, List.filter_cons, if_pos hp]
    exact paired_snoc (paired_imp k fun v b h => hR _ _ _ _ ((TK.of s4).trans tk) h) (hR _ _ _ _ tk rz)
  · refine ⟨acc, s.trans s4, s4 _ _ e, ?_⟩
    rw [et, List.filter_append, List.filter_cons, if_neg (by rw [hp]; decide)]
    simp only [List.filter_nil, List.append_nil]
    exact paired_imp k fun v b h => hR _ _ _ _ (TK.of s4) h
/-- .. and no test -/
theorem lc_each (ds : List β) (R : V → β → Hp → Prop) (hR : ∀ v b H H', TK H H' → R v b H → R v b H') (hn : H1 D = none) (hsz : ds.length < sizeLine) (go : ∀ i H, i < ds.length → Same H1 H → J.go i H) (stop : ∀ H, Same H1 H → J.stop ds.length H)
    (turn : ∀ (i : Nat) (b : β) (x : V) (H H' : Hp) (F : VK), ds[i]? = some b → Same H1 H → J.yld i H x H' → (∀ y H4, R y b H4 → Same H H4 → F y H4) →
      g x (wipe σ vs) H' fun σ2 H2 => wipe σ2 vs = wipe σ vs ∧ te σ2 H2 F)
    (hd : ∀ acc H, Same H1 H → H D = some (.lst acc) → Paired (fun v b => R v b H) acc ds → Qd H) : LcGoal J g tYes te vs σ H1 D Qd := by
  refine lc_rel (fun i y H => ∃ b, ds[i]? = some b ∧ R y b H) (fun i y H H' tk ⟨b, e, r⟩ => ⟨b, e, hR _ _ _ _ tk r⟩) hn hsz go stop (fun i x H H' F hi s y kk => ?_) fun acc H s e hl k => ?_
  · exact turn i ds[i] x H H' F (List.getElem?_eq_getElem hi) s y fun z H4 r s4 => kk z H4 ⟨_, List.getElem?_eq_getElem hi, r⟩ s4
  · refine hd acc H s e (paired_all hl fun i a b e1 e2 => ?_)
    obtain ⟨b', e3, r⟩ := k i a e1
    rw [e2] at e3
    cases e3
    exact r
end
/-! dicts with lots as keys -/
theorem lotK_inj {a b : List Str} (h : lotK a = lotK b) : a = b := by
  induction a generalizing b with
  | nil =>
    cases b with
    | nil => rfl
    | cons y b => cases h
  | cons x a ih =>
    cases b with
    | nil => cases h
    | cons y b =>
      have h' : (Sum.inr x : Key) :: lotK a = Sum.inr y :: lotK b := h
      injection h' with h1 h2
      rw [Sum.inr.inj h1, ih h2]
theorem TK.dctT {H : Hp} {a : Addr} {o : HO} {xs : List (List Key × V)} (h : H a = some (.dT xs)) : TK H (upd H a o) :=
  ⟨fun b _ e => by rw [upd_ne (ne_of e h (by intro z; cases z))]; exact e, fun b _ _ e => by rw [upd_ne (ne_of e h (by intro z; cases z))]; exact e⟩
abbrev lotE (e : List Str × V) : List Key × V := (lotK e.1, e.2)
theorem valV_lot (l : List Str) : ∀ es : List (List Str × V), valV (es.map lotE) (lotK l) = (es.find? fun e => decide (e.1 = l)).map (·.2)
  | [] => rfl
  | e :: es => by
    rw [List.map_cons, List.find?_cons]
    by_cases h : e.1 = l
    · rw [valV_pos (p := lotE e) (by show lotK e.1 = lotK l; rw [h]), decide_eq_true h]
      rfl
    · rw [valV_neg (p := lotE e) (fun q => h (lotK_inj q)), decide_eq_false h, valV_lot l es]
def putE (es : List (List Str × V)) (l : List Str) (v : V) : List (List Str × V) := match es with
  | [] => [(l, v)]
  | e :: r => if e.1 = l then (e.1, v) :: r else e :: putE r l v
theorem putK_lot (l : List Str) (v : V) : ∀ es : List (List Str × V), (es.map (·.1)).Nodup → putK (es.map lotE) (lotK l) v = (putE es l v).map lotE := by
  have same : ∀ es : List (List Str × V), l ∉ es.map (·.1) → (es.map lotE).map (fun kv => if kv.1 = lotK l then (kv.1, v) else kv) = es.map lotE := fun es hn => by
    rw [List.map_map]
    refine List.map_congr_left fun e he => ?_
    show (if lotK e.1 = lotK l then (lotK e.1, v) else lotE e) = lotE e
    rw [if_neg fun q => hn (List.mem_map.mpr ⟨e, he, lotK_inj q⟩)]
  have anyE : ∀ es : List (List Str × V), (((es.map lotE).any fun kv => decide (kv.1 = lotK l)) = true ↔ l ∈ es.map (·.1)) := fun es => by
    rw [List.any_eq_true]
    constructor
    · rintro ⟨kv, hkv, h⟩
      obtain ⟨e, he, rfl⟩ := List.mem_map.mp hkv
      exact List.mem_map.mpr ⟨e, he, lotK_inj (of_decide_eq_true h)⟩
    · intro h
      obtain ⟨e, he, q⟩ := List.mem_map.mp h
      exact ⟨lotE e, List.mem_map.mpr ⟨e, he, rfl⟩, decide_eq_true (by show lotK e.1 = lotK l; rw [q])⟩
  have there : ∀ es : List (List Str × V), (es.map (·.1)).Nodup → l ∈ es.map (·.1) → (es.map lotE).map (fun kv => if kv.1 = lotK l then (kv.1, v) else kv) = (putE es l v).map lotE := fun es => by
    induction es with
    | nil => intro _ h; simp at h
    | cons e r ih =>
      intro n h
      rw [List.map_cons, List.nodup_cons] at n
      unfold putE
      by_cases q : e.1 = l
      · rw [if_pos q, List.map_cons, List.map_cons, same r (q ▸ n.1)]
        show (if lotK e.1 = lotK l then (lotK e.1, v) else lotE e) :: _ = _
        rw [if_pos (by rw [q])]
        rfl
      · rw [if_neg q, List.map_cons, List.map_cons, List.map_cons]
        have h2 : l ∈ r.map (·.1) := by
          rw [List.map_cons] at h
          rcases List.mem_cons.mp h with z | z
          · exact absurd z.symm q
          · exact z
        rw [ih n.2 h2]
        show (if lotK e.1 = lotK l then (lotK e.1, v) else lotE e) :: _ = _
        rw [if_neg fun z => q (lotK_inj z)]
  have new : ∀ es : List (List Str × V), l ∉ es.map (·.1) → es.map lotE ++ [(lotK l, v)] = (putE es l v).map lotE := fun es => by
    induction es with
    | nil => intro _; rfl
    | cons e r ih =>
      intro h
      rw [List.map_cons, List.mem_cons, not_or] at h
      unfold putE
      rw [if_neg fun q => h.1 q.symm, List.map_cons, List.map_cons, List.cons_append, ih h.2]
  intro es n
  unfold putK
  by_cases h : l ∈ es.map (·.1)
  · rw [if_pos ((anyE es).mpr h), there es n h]
  · rw [if_neg fun q => h ((anyE es).mp q), new es h]
end Hx
namespace Hx
open PySem PySem.Spec PyProof.Rows L2
section
variable {X : Cx} {K : PySem.W.Frag}
theorem op_neDK (hK : X.K = K) (hu : X.A.units + 64 < cLine) : OpR X (compareOp .NotEq) (rNeD K) := by
  subst hK
  exact op_neD hu
theorem op_eqDK (hK : X.K = K) (hu : X.A.units + 64 < cLine) : OpR X (compareOp .Eq) (rEqD K) := by
  subst hK
  exact op_eqD hu
theorem op_ltDK (hK : X.K = K) (hu : X.A.units + 64 < cLine) : OpR X (compareOp .Lt) (rLtD K) := by
  subst hK
  exact op_ltD hu
theorem op_geDK (hK : X.K = K) (hu : X.A.units + 64 < cLine) : OpR X (compareOp .GtE) (rGeD K) := by
  subst hK
  exact op_geD hu
end
end Hx
namespace Hx
open PySem PySem.Spec PyProof.Rows L2
theorem ix_tupK {X : Cx} {K : PySem.W.Frag} (h : X.K = K) : IxR X (rIxT K) := by subst h; exact ix_tup
theorem sl_tupAK {X : Cx} {K : PySem.W.Frag} (h : X.K = K) : SlR X (rSlA K) := by subst h; exact sl_tupA
theorem op_catAK {X : Cx} {K : PySem.W.Frag} (h : X.K = K) : OpR X (binaryOp .Add) (rCatA K) := by subst h; exact op_catA
theorem paired_strs {β : Type} {f : β → Str} : ∀ {acc : List V} {ds : List β}, Paired (fun v b => v = .str (f b)) acc ds → acc = (ds.map f).map V.str
  | _, _, .nil => rfl
  | _, _, .cons h t => by rw [h, paired_strs t]; rfl
theorem paired_bools {β : Type} {f : β → Bool} : ∀ {acc : List V} {ds : List β}, Paired (fun v b => v = .bl (f b)) acc ds → acc = (ds.map f).map V.bl
  | _, _, .nil => rfl
  | _, _, .cons h t => by rw [h, paired_bools t]; rfl
end Hx
namespace Hx
open PySem PySem.Spec PyProof.Rows L2
section
variable {J : It} {g : TG} {tt : TT} {vs : List Nat} {σ : L2.St} {H1 : Hp} {D : Addr} {Qd : Hp → Prop} {β : Type}
/-- [1 for .. if ..], by the data -/
theorem lc_onesD (ds : List β) (p : β → Bool) (hn : H1 D = none) (hsz : ds.length < sizeLine) (go : ∀ i H, i < ds.length → Same H1 H → J.go i H) (stop : ∀ H, Same H1 H → J.stop ds.length H)
    (turn : ∀ (i : Nat) (b : β) (x : V) (H H' : Hp) (F : Bool → Hp → Prop), ds[i]? = some b → Same H1 H → J.yld i H x H' → (∀ H4, Same H H4 → F (p b) H4) → g x (wipe σ vs) H' fun σ2 H2 => wipe σ2 vs = wipe σ vs ∧ tt σ2 H2 F)
    (hd : ∀ c H, Same H1 H → H D = some (.lst (List.replicate c (.int 1))) → decide (c = 0) = (ds.all fun b => !p b) → Qd H) : LcGoal J g tt (tC (.int 1)) vs σ H1 D Qd := by
  refine lc_ones (fun i => match ds[i]? with | some b => p b | none => false) hn hsz go stop (fun i x H H' F hi s y kk => ?_) fun c H s e hc hz => ?_
  · have eb : ds[i]? = some ds[i] := List.getElem?_eq_getElem hi
    refine turn i ds[i] x H H' F eb s y fun H4 s4 => ?_
    have z := kk H4 s4
    rw [eb] at z
    exact z
  · refine hd c H s e ?_
    rw [Bool.eq_iff_iff, decide_eq_true_eq, hz, List.all_eq_true]
    constructor
    · intro h b hb
      obtain ⟨i, hi⟩ := List.getElem?_of_mem hb
      have q := h i (List.getElem?_eq_some_iff.mp hi).1
      rw [hi] at q
      have q' : p b = false := q
      rw [q']
      rfl
    · intro h i hi
      rw [List.getElem?_eq_getElem hi]
      have q := h _ (List.getElem_mem hi)
      show p ds[i] = false
      simpa using q
end
/-- texts of plain signs -/
def Plain (x : Str) : Prop := ∀ c ∈ TL.tl x, c < 128
theorem plain_lay {x : Str} (h : Plain x) : PyData.canLay0 (.str x) = true := by
  show (x.cps.all fun c => decide (c < 0x110000)) = true
  rw [← Array.all_toList, List.all_eq_true]
  intro c hc
  rw [decide_eq_true_eq]
  have := h c hc
  omega
theorem plain_sign {c : Nat} (h : c < 128) : PyData.canLay0 (.str ⟨#[c]⟩) = true := plain_lay fun d hd => by
  have e : TL.tl (⟨#[c]⟩ : Str) = [c] := rfl
  rw [e] at hd
  rw [List.mem_singleton.mp hd]
  exact h
theorem strs_sh {xs : List Str} (h : ∀ x ∈ xs, Plain x) : SeqAt.shaped (.list (xs.map .str)) = true := (sh_list (n := 0) fun d hd => by
  obtain ⟨x, hx, rfl⟩ := List.mem_map.mp hd
  exact ⟨plain_lay (h x hx), by simp [PyData.depth]⟩).shaped (by decide)
/-- a list of plain texts == [] -/
theorem strs_eq {K : PySem.W.Frag} {H : Hp} {D : Addr} {xs : List Str} {Q : VK} (hx : ∀ x ∈ xs, Plain x) (e : H D = some (.lst (xs.map V.str))) (k : ∀ H', Same H H' → Q (.bl xs.isEmpty) H') :
    ([] : List V).length ≤ sizeLine ∧ ∀ p, H p = none → rEqD K (.ref D) (.ref p) (upd H p (.lst [])) Q := by
  refine ⟨by simp, fun p hp => ?_⟩
  have s : Same H (upd H p (.lst [])) := fun b u q => by rw [upd_ne (ne_of_none q hp)]; exact q
  refine ⟨_, .list [], .lst (SqL.of (s _ _ e)) (dpAll_strs xs), .lst (SqL.of upd_same) .nil, strs_sh hx, nil_sh, ?_⟩
  rw [eqv_nil]
  have q : (xs.map PyData.str).isEmpty = xs.isEmpty := by cases xs <;> rfl
  rw [q]
  exact k _ s
theorem strs_ne {K : PySem.W.Frag} {H : Hp} {D : Addr} {xs : List Str} {Q : VK} (hx : ∀ x ∈ xs, Plain x) (e : H D = some (.lst (xs.map V.str))) (k : ∀ H', Same H H' → Q (.bl (!xs.isEmpty)) H') :
    ([] : List V).length ≤ sizeLine ∧ ∀ p, H p = none → rNeD K (.ref D) (.ref p) (upd H p (.lst [])) Q := by
  refine ⟨by simp, fun p hp => ?_⟩
  have s : Same H (upd H p (.lst [])) := fun b u q => by rw [upd_ne (ne_of_none q hp)]; exact q
  refine ⟨_, .list [], .lst (SqL.of (s _ _ e)) (dpAll_strs xs), .lst (SqL.of upd_same) .nil, strs_sh hx, nil_sh, ?_⟩
  rw [eqv_nil]
  have q : (xs.map PyData.str).isEmpty = xs.isEmpty := by cases xs <;> rfl
  rw [q]
  exact k _ s
end Hx
set_option maxHeartbeats 1000000
namespace K17
open PySem PySem.Spec PyProof.Rows L2 Hx RZ
/-! ### terms and claims in the heap; summed, gathered -/
def TermAt (K : PySem.W.Frag) (H : Hp) (v : V) (t : Term) : Prop := ∃ a l u, v = .ref a ∧ SqT K H a [.ref l, u] ∧ H l = some (.tup (t.1.map V.str)) ∧ NumAt K H u t.2
theorem TermAt.keep {K : PySem.W.Frag} {H H' : Hp} {v : V} {t : Term} (e : TK H H') : TermAt K H v t → TermAt K H' v t
  | ⟨a, l, u, h1, h2, h3, h4⟩ => ⟨a, l, u, h1, tk_seqT e h2, e.1 _ _ h3, h4.keep e⟩
abbrev TermsAt (K : PySem.W.Frag) (H : Hp) (us : List V) (ts : List Term) : Prop := Paired (fun v t => TermAt K H v t) us ts
theorem TermsAt.keep {K : PySem.W.Frag} {H H' : Hp} {us : List V} {ts : List Term} (e : TK H H') (h : TermsAt K H us ts) : TermsAt K H' us ts := paired_imp h fun _ _ q => q.keep e
def ClaimAt (K : PySem.W.Frag) (H : Hp) (v : V) (taps : Lot) (L : List Term) : Prop := ∃ a t l us, v = .ref a ∧ SqT K H a [.ref t, .ref l] ∧ SqT K H t (taps.map V.str) ∧ SqT K H l us ∧ TermsAt K H us L
theorem ClaimAt.keep {K : PySem.W.Frag} {H H' : Hp} {v : V} {taps : Lot} {L : List Term} (e : TK H H') : ClaimAt K H v taps L → ClaimAt K H' v taps L
  | ⟨a, t, l, us, h1, h2, h3, h4, h5⟩ => ⟨a, t, l, us, h1, tk_seqT e h2, tk_seqT e h3, tk_seqT e h4, TermsAt.keep e h5⟩
abbrev termD (t : Term) : PyData := .tuple [lotD t.1, t.2.data]
abbrev claimD (taps : Lot) (L : List Term) : PyData := .tuple [lotD taps, .tuple (L.map termD)]
theorem TermAt.dp {K : PySem.W.Frag} {H : Hp} {v : V} {t : Term} : TermAt K H v t → Dp K H v (termD t)
  | ⟨a, l, u, h1, h2, h3, h4⟩ => by
    subst h1
    exact .tup h2 (.cons (.tup (SqT.of h3) (dpAll_strs _)) (.cons h4.dt.dp .nil))
theorem TermsAt.dp {K : PySem.W.Frag} {H : Hp} : ∀ {us : List V} {ts : List Term}, TermsAt K H us ts → DpAll K H us (ts.map termD)
  | _, _, .nil => .nil
  | _, _, .cons h t => .cons h.dp (TermsAt.dp t)
theorem ClaimAt.dp {K : PySem.W.Frag} {H : Hp} {v : V} {taps : Lot} {L : List Term} : ClaimAt K H v taps L → Dp K H v (claimD taps L)
  | ⟨a, t, l, us, h1, h2, h3, h4, h5⟩ => by
    subst h1
    exact .tup h2 (.cons (.tup h3 (dpAll_strs _)) (.cons (.tup h4 h5.dp) .nil))
/-! bits -/
def nb (n : Num) : Nat := max n.top.natAbs.log2 n.low.natAbs.log2 + 1
theorem nb_bits (n : Num) : Bits n (nb n) := by
  have q : ∀ x : Nat, x < 2 ^ (x.log2 + 1) := fun x => Nat.lt_log2_self
  refine ⟨Nat.lt_of_lt_of_le (q _) (Nat.pow_le_pow_right (by decide) ?_), Nat.lt_of_lt_of_le (q _) (Nat.pow_le_pow_right (by decide) ?_)⟩
  · unfold nb; omega
  · unfold nb; omega
def tot (ts : List Term) : Nat := (ts.map fun t => nb t.2 + 1).sum
theorem tot_cons (t : Term) (ts : List Term) : tot (t :: ts) = nb t.2 + 1 + tot ts := rfl
theorem tot_app (a b : List Term) : tot (a ++ b) = tot a + tot b := by
  unfold tot
  rw [List.map_append, List.sum_append]
theorem get_bits {acc : List Term} {k : Nat} (h : ∀ t ∈ acc, Bits t.2 k) (hk : 0 < k) (l : Lot) : Bits (getT acc l) k := by
  induction acc with
  | nil => exact ⟨Nat.pow_pos (by decide), Nat.one_lt_two_pow (by omega)⟩
  | cons t r ih =>
    unfold getT
    split
    · exact h t List.mem_cons_self
    · exact ih fun t ht => h t (List.mem_cons_of_mem _ ht)
theorem put_mem {acc : List Term} {l : Lot} {n : Num} {t : Term} (h : t ∈ putT acc l n) : t.2 = n ∨ t ∈ acc := by
  induction acc with
  | nil =>
    rw [List.mem_singleton.mp h]
    exact .inl rfl
  | cons a r ih =>
    unfold putT at h
    split at h
    · rcases List.mem_cons.mp h with q | q
      · rw [q]; exact .inl rfl
      · exact .inr (List.mem_cons_of_mem _ q)
    · rcases List.mem_cons.mp h with q | q
      · rw [q]; exact .inr List.mem_cons_self
      · rcases ih q with z | z
        · exact .inl z
        · exact .inr (List.mem_cons_of_mem _ z)
theorem fold_bits : ∀ (ts acc : List Term) (k : Nat), OkT ts → OkT acc → 0 < k → (∀ t ∈ acc, Bits t.2 k) → ∀ t ∈ ts.foldl stepT acc, Bits t.2 (k + tot ts)
  | [], acc, k, _, _, _, h, t, ht => h t ht
  | a :: r, acc, k, h1, h2, hk, h, t, ht => by
    have oa := h1 a List.mem_cons_self
    have q := fold_bits r (stepT acc a) (k + (nb a.2 + 1)) (fun t ht => h1 t (List.mem_cons_of_mem _ ht)) (step_ok h2 oa) (by omega) (fun t ht => ?_) t ht
    · rw [tot_cons]
      rw [show k + (nb a.2 + 1 + tot r) = k + (nb a.2 + 1) + tot r by omega]
      exact q
    · rcases put_mem ht with z | z
      · rw [z]
        exact (plus_bits (get_bits h hk _) (nb_bits _) (get_ok h2 _) oa).mono (by omega)
      · exact (h t z).mono (by omega)
theorem tot_mem {ts : List Term} {t : Term} (h : t ∈ ts) : nb t.2 + 1 ≤ tot ts := by
  induction ts with
  | nil => cases h
  | cons a r ih =>
    rw [tot_cons]
    rcases List.mem_cons.mp h with q | q
    · rw [q]; omega
    · have := ih q; omega
theorem len_put (acc : List Term) (l : Lot) (n : Num) : (putT acc l n).length ≤ acc.length + 1 := by
  induction acc with
  | nil => exact Nat.le_refl _
  | cons a r ih =>
    unfold putT
    split
    · simp
    · simp only [List.length_cons]; omega
theorem len_fold : ∀ (ts acc : List Term), (ts.foldl stepT acc).length ≤ acc.length + ts.length
  | [], acc => Nat.le_refl _
  | t :: r, acc => by
    have q := len_fold r (stepT acc t)
    have q2 : (stepT acc t).length ≤ acc.length + 1 := len_put _ _ _
    show (r.foldl stepT (stepT acc t)).length ≤ _
    simp only [List.length_cons]
    omega
/-! the dict -/
abbrev EntAt (K : PySem.W.Frag) (H : Hp) (es : List (Lot × V)) (acc : List Term) : Prop := Paired (fun e t => e.1 = t.1 ∧ NumAt K H e.2 t.2) es acc
theorem EntAt.keep {K : PySem.W.Frag} {H H' : Hp} {es : List (Lot × V)} {acc : List Term} (e : TK H H') (h : EntAt K H es acc) : EntAt K H' es acc := paired_imp h fun _ _ q => ⟨q.1, q.2.keep e⟩
theorem EntAt.keys {K : PySem.W.Frag} {H : Hp} : ∀ {es : List (Lot × V)} {acc : List Term}, EntAt K H es acc → es.map (·.1) = acc.map (·.1)
  | _, _, .nil => rfl
  | _, _, .cons h t => by rw [List.map_cons, List.map_cons, h.1, EntAt.keys t]
theorem EntAt.find {K : PySem.W.Frag} {H : Hp} {l : Lot} : ∀ {es : List (Lot × V)} {acc : List Term}, EntAt K H es acc → NumAt K H (((es.find? fun e => decide (e.1 = l)).map (·.2)).getD (.int 0)) (getT acc l)
  | _, _, .nil => rfl
  | _, _, .cons (a := e) (b := t) (l₁ := es) (l₂ := r) h k => by
    unfold getT
    rw [List.find?_cons, h.1]
    by_cases q : t.1 = l
    · rw [decide_eq_true q, if_pos q]
      exact h.2
    · rw [decide_eq_false q, if_neg q]
      exact EntAt.find k
theorem EntAt.there {K : PySem.W.Frag} {H : Hp} {l : Lot} {es : List (Lot × V)} {acc : List Term} (h : EntAt K H es acc) (m : l ∈ acc.map (·.1)) : ∃ u, (es.find? fun e => decide (e.1 = l)).map (·.2) = some u ∧ NumAt K H u (getT acc l) := by
  have f := h.find (l := l)
  cases e : es.find? fun e => decide (e.1 = l) with
  | some x =>
    rw [e] at f
    exact ⟨_, rfl, f⟩
  | none =>
    rw [← h.keys] at m
    obtain ⟨x, hx, rfl⟩ := List.mem_map.mp m
    have := List.find?_eq_none.mp e x hx
    simp at this
theorem EntAt.put {K : PySem.W.Frag} {H : Hp} {l : Lot} {v : V} {n : Num} (hv : NumAt K H v n) : ∀ {es : List (Lot × V)} {acc : List Term}, EntAt K H es acc → EntAt K H (putE es l v) (putT acc l n)
  | _, _, .nil => .cons ⟨rfl, hv⟩ .nil
  | _, _, .cons (a := e) (b := t) (l₁ := es) (l₂ := r) h k => by
    unfold putE putT
    rw [h.1]
    by_cases q : t.1 = l
    · rw [if_pos q, if_pos q]
      exact .cons ⟨rfl, hv⟩ k
    · rw [if_neg q, if_neg q]
      exact .cons h (EntAt.put hv k)
theorem eqv_num0 (n : Num) : PyData.eqv n.data (.int 0) = !nz n := by
  cases n with
  | w i =>
    show PyData.eqv (.int i) (.int 0) = _
    unfold nz
    simp only [PyData.eqv]
    by_cases h : i = 0
    · subst h; rfl
    · have h2 : (Num.w i) ≠ .w 0 := fun q => h (Num.w.inj q)
      simp [h]
  | q t b =>
    show PyData.eqv (.tuple [.int t, .int b]) (.int 0) = _
    unfold nz
    simp [PyData.eqv]
theorem shaped_num (n : Num) : SeqAt.shaped n.data = true := by
  cases n with
  | w i => exact (sh_int i).shaped (by decide)
  | q t b => exact (sh_tup (n := 0) fun d hd => by
      simp at hd
      rcases hd with rfl | rfl
      · exact sh_int _
      · exact sh_int _).shaped (by decide)
theorem shaped_int (i : Int) : SeqAt.shaped (.int i) = true := (sh_int i).shaped (by decide)
theorem paired_map {α β γ : Type} {F : α → γ → Prop} {f : β → γ} : ∀ {l : List α} {m : List β}, Paired (fun a b => F a (f b)) l m → Paired F l (m.map f)
  | _, _, .nil => .nil
  | _, _, .cons h t => .cons h (paired_map t)
theorem sum_ge {ts : List Term} (n : Nat) : tot (ts.take n) ≤ tot ts := by
  conv => rhs; rw [← List.take_append_drop n ts]
  rw [tot_app]
  omega
section
variable {P : Program} {w : World} {K : PySem.W.Frag} {mg : Str → Option Value} {base : Heap}
def spGath (K : PySem.W.Frag) : Sp := fun vs H Q _ => ∃ (t l : Addr) (taps : Lot) (us : List V) (ts : List Term), vs = [.ref t, .ref l] ∧ SqT K H t (taps.map V.str) ∧ SqL K H l us ∧ TermsAt K H us ts ∧ OkT ts ∧ (∀ x ∈ ts, x.1 ≠ []) ∧ tot ts ≤ 4300 ∧
  ∀ v H', Same H H' → ClaimAt K H' v taps (gathT ts) → Q v H'
theorem sc_summed : FnScope ["taps", "terms", "found", "lot", "weight"] ["taps", "terms"] (defScope ssummed) := ⟨rfl, rfl, rfl, by decide +kernel, rfl, by decide +kernel, by decide +kernel⟩
theorem sc_cl_gathered : FnScope ["taps_here", "pairs", "found", "lot", "weight"] ["taps_here", "pairs"] (defScope sL_cl_gathered) := ⟨rfl, rfl, rfl, by decide +kernel, rfl, by decide +kernel, by decide +kernel⟩
theorem ok_summed (D : Dn K mg "summed" ssummed) (B : Ok P w K mg base L2.CX0 2 "plus" ["one", "other"] (spPlus K)) (h_tuple : mg "tuple" = none) (h_sorted : mg "sorted" = none) :
    Ok P w K mg base L2.CX0 3 "summed" ["taps", "terms"] (spGath K) := by
  obtain ⟨_, _, g_plus, k_plus, b_plus, F_plus⟩ := B.ex
  refine Ok.mk0 D sc_summed (fun vs H Q E h => ?_) (fun _ _ _ _ _ _ us hl => match us, hl with | [_, _], _ => rfl) (fun f cdv A outer s H vs Q E hr h => ?_)
  · obtain ⟨t, l, taps, us, ts, rfl, _⟩ := h
    rfl
  obtain ⟨t, l, taps, us, ts, rfl, ht, hl, hts, ok, ne, small, k⟩ := h
  have nd := sc_summed.nd
  have hu := hu_of hr
  have hu64 := hr.units
  refine ⟨_, (pss_cons (ps_set (i := 2) nd rfl (Or.inr rfl) pe_dnewT)
  (pss_cons (ps_for PassesOwn.never rfl (pi_list (pv 1)) (pg_tup (by rfl) (pgs_cons (pg_name (i := 3) nd rfl (Or.inl rfl)) (pgs_cons (pg_name (i := 4) nd rfl (Or.inl rfl)) pgs_nil)))
    (pss_one (ps_dput hu (pv 2) (pv 3) (pe_call F_plus hr rfl g_plus k_plus b_plus .nil pass0 (pa_cons (pe_dget2 hu (pv 2) (pv 3) pe_int ⟨rfl, rfl, rfl, rfl⟩) (pa_cons (pv 4) pa_nil))) rfl)))
  (pss_one (ps_ret (pe_tup (pa_cons (pv 0) (pa_cons (pe_callTy call_tuple_of (by rfl) h_tuple (by decide +kernel) (pa_cons (pe_lc (own := [("lot", 3)]) (g := gName 3) rfl nd (pi_list (pe_callB (cr_srtDT rfl hu64) (by rfl) h_sorted (by decide +kernel) (pa_cons (pv 2) pa_nil))) (blkOk_by (own := [("lot", 3)]) (N := ["taps", "terms", "found", "lot", "weight"]) (sc := defScope ssummed) (by decide +kernel)) (fun _ _ _ _ _ => pg_name (i := 3) nd rfl (Or.inl rfl)) (fun _ _ _ _ _ => pts_one (pt_cmpR (op_neDK (K := K) rfl hu64) (pe_dget hu (pv 2) (pv 3) (fun _ _ => rfl)) pe_int (nomark _))) (fun _ _ _ _ _ => (pe_tup (pa_cons (pv 3) (pa_cons (pe_dget hu (pv 2) (pv 3) (fun _ _ => rfl)) pa_nil))))) pa_nil)) pa_nil))))))), ?_⟩
  refine fun d hd => ?_
  have s1 := same_upd (o := .dT []) hd
  have nH : ∀ {b : Addr} {u : HO}, H b = some u → b ≠ d := fun e => ne_of_none e hd
  have len : ts.length ≤ tot ts := by
    clear ht hl hts ok ne small k
    induction ts with
    | nil => exact Nat.zero_le _
    | cons a r ih => rw [tot_cons, List.length_cons]; omega
  have takeOk : ∀ i, OkT (ts.take i) := fun i x hx => ok x (List.mem_of_mem_take hx)
  have facts : ∀ i, OkT (sumT (ts.take i)) ∧ ((sumT (ts.take i)).map (fun t : Term => t.1)).Nodup := fun i => by
    obtain ⟨q1, q2, _⟩ := fold_facts (ts.take i) [] (takeOk i) (fun _ h => by cases h) List.nodup_nil
    exact ⟨q1, q2⟩
  have bits : ∀ i l, Bits (getT (sumT (ts.take i)) l) 4400 := fun i l => by
    have q := fold_bits (ts.take i) [] 1 (takeOk i) (fun _ h => by cases h) (by decide) (fun _ h => by cases h)
    have := sum_ge (ts := ts) i
    exact (get_bits q (by omega) l).mono (by omega)
  let Pv : Nat → L2.St → Hp → Prop := fun i σ H' => ∃ (o1 o2 : Option V) (es : List (Lot × V)), σ = [some (.ref t), some (.ref l), some (.ref d), o1, o2] ∧ Same H H' ∧ H' d = some (.dT (es.map lotE)) ∧ EntAt K H' es (sumT (ts.take i))
  refine ⟨_, rfl, l, rfl, ⟨_, same_seqL s1 hl⟩, for_list Pv ⟨none, none, [], rfl, s1, upd_same, .nil⟩ (fun i σ H' _ ⟨_, _, _, _, s, _⟩ => same_seqL s hl) ?_ ?_⟩
  · rintro i x σ H' hx ⟨o1, o2, es, rfl, s, hd', he⟩
    obtain ⟨tm, htm, a, l2, u, rfl, ha, hl2, hn⟩ := paired_get hts hx
    have tkH := TK.of s
    have ha' := tk_seqT tkH ha
    have hl2' := s _ _ hl2
    have hn' := hn.keep tkH
    have mt := List.mem_of_getElem? htm
    have eb : H' l2 = some (.tup ((lotK tm.1).map kV)) := by rw [kV_lot]; exact hl2'
    have hv : NumAt K H' ((valV (es.map lotE) (lotK tm.1)).getD (.int 0)) (getT (sumT (ts.take i)) tm.1) := by
      rw [valV_lot]
      exact he.find
    refine ⟨a, _, rfl, ha', rfl, _, _, rfl, _, _, rfl, rfl, ?_⟩
    refine ⟨_, rfl, d, rfl, .inr ⟨_, .inl hd'⟩, _, rfl, _, DGet.t hd' eb, _, rfl, _, _, _, _, rfl, hv, hn', get_ok (facts i).1 _, ok tm mt, bits i _, (nb_bits _).mono ?_, fun y H2 s2 hy => ?_⟩
    · have := tot_mem mt
      omega
    · have hd2 := s2 _ _ hd'
      have tk2 : TK H' H2 := .of s2
      have small2 : (es.map lotE).length < sizeLine := by
        have e1 : es.length = (sumT (ts.take i)).length := paired_len he
        have e3 := len_fold (ts.take i) []
        have e4 : (ts.take i).length ≤ ts.length := by rw [List.length_take]; omega
        have e5 : (sumT (ts.take i)).length ≤ ts.length := by
          show ((ts.take i).foldl stepT []).length ≤ _
          simp only [List.length_nil] at e3
          omega
        rw [List.length_map, e1, sizeLine_eq]
        omega
      refine ⟨_, rfl, _, rfl, d, _, rfl, DPut.t hd2 (k := lotK tm.1) (by rw [kV_lot]; exact s2 _ _ hl2') small2, ?_⟩
      rw [putK_lot _ _ _ (by rw [he.keys]; exact (facts i).2)]
      refine ⟨_, _, putE es tm.1 y, rfl, fun b o e => ?_, upd_same, ?_⟩
      · rw [upd_ne (nH e)]
        exact s2 _ _ (s _ _ e)
      · have et : ts.take (i + 1) = ts.take i ++ [tm] := by rw [List.take_add_one, htm]; rfl
        have es' : sumT (ts.take (i + 1)) = putT (sumT (ts.take i)) tm.1 (plusN (getT (sumT (ts.take i)) tm.1) tm.2) := by
          unfold sumT
          rw [et, List.foldl_append]
          rfl
        rw [es']
        have tkd := TK.dctT (o := .dT ((putE es tm.1 y).map lotE)) hd2
        exact EntAt.put (hy.keep tkd) (he.keep (tk2.trans tkd))
  · rintro σ H' ⟨o1, o2, es, rfl, s, hd', he⟩
    rw [paired_len hts, List.take_length] at he
    obtain ⟨f1, f2⟩ := facts ts.length
    rw [List.take_length] at f1 f2
    refine ⟨_, rfl, _, rfl, d, es, rfl, .inl hd', ?_, fun p bs hp hb1 hb2 => ⟨p, rfl, ⟨_, SqL.of upd_same⟩, fun Z hZ => ?_⟩⟩
    · intro e he'
      have m : e.1 ∈ (sumT ts).map (fun t : Term => t.1) := by rw [← he.keys]; exact List.mem_map.mpr ⟨e, he', rfl⟩
      obtain ⟨_, _, _, q4⟩ := fold_facts ts [] ok (fun _ h => by cases h) List.nodup_nil
      rcases (q4 _).mp m with z | z
      · simp at z
      · obtain ⟨x, hx, q⟩ := List.mem_map.mp z
        rw [← q]
        exact ne x hx
    have perm : ((sortD (fun b : Addr × Lot => lotD b.2) bs)).Perm bs := List.mergeSort_perm _ _
    have lenE : bs.length ≤ 4300 := by
      have e1 := congrArg List.length hb1
      rw [List.length_map, List.length_map] at e1
      have e2 : es.length = (sumT ts).length := paired_len he
      have e3 := len_fold ts []
      have e4 : (sumT ts).length ≤ ts.length := by
        show (ts.foldl stepT []).length ≤ _
        simp only [List.length_nil] at e3
        omega
      omega
    have s2 := s.trans (same_upd (o := .lst ((sortD (fun b : Addr × Lot => lotD b.2) bs).map fun b => V.ref b.1)) hp)
    refine lc_filt (sortD (fun b : Addr × Lot => lotD b.2) bs) (fun b => nz (getT (sumT ts) b.2)) (fun v b H => TermAt K H v (b.2, getT (sumT ts) b.2)) (fun v b H H' tk h => h.keep tk) hZ ?_ ?_ ?_ ?_ ?_
    · rw [perm.length_eq, sizeLine_eq]
      omega
    · intro i H3 hi s3
      exact ⟨_, _, same_seqL s3 (SqL.of upd_same), List.getElem?_eq_getElem (by rw [List.length_map]; exact hi)⟩
    · intro H3 s3
      exact ⟨_, same_seqL s3 (SqL.of upd_same), by rw [List.length_map]; exact Nat.le_refl _⟩
    · rintro i b x H3 H4 F G hb s3 ⟨rfl, yx⟩ kF kG
      have e := yx _ (same_seqL s3 (SqL.of upd_same))
      rw [List.getElem?_map, hb] at e
      obtain rfl : V.ref b.1 = x := Option.some.inj e
      have mb : b ∈ bs := perm.mem_iff.mp (List.mem_of_getElem? hb)
      have h0 := same_upd (o := .lst ((sortD (fun b : Addr × Lot => lotD b.2) bs).map fun b => V.ref b.1)) hp
      have h3 := h0.trans s3
      have hb4 := h3 _ _ (hb2 b mb)
      have hd4 := h3 _ _ hd'
      have mk : b.2 ∈ (sumT ts).map (fun t : Term => t.1) := by rw [← he.keys, ← hb1]; exact List.mem_map.mpr ⟨b, mb, rfl⟩
      obtain ⟨u, hu1, hu2⟩ := (he.keep (TK.of h3)).there mk
      have dg : DGet H4 d (.ref b.1) (some u) := by
        rw [← hu1, ← valV_lot]
        exact DGet.t hd4 (k := lotK b.2) (by rw [kV_lot]; exact hb4)
      refine ⟨rfl, _, rfl, _, rfl, d, u, rfl, dg, _, .int 0, hu2.dt.dp, .int 0, shaped_num _, shaped_int 0, _, rfl, ?_⟩
      rw [eqv_num0, Bool.not_not]
      cases hz : nz (getT (sumT ts) b.2) with
      | false => exact iteF (kG hz _ (Same.refl _))
      | true =>
        refine iteT ⟨_, rfl, _, rfl, _, rfl, d, u, rfl, dg, by rw [sizeLine_eq]; exact (by decide : (2 : Nat) ≤ 16777216), fun q hq => kF hz _ _ ⟨q, b.1, u, rfl, SqT.of upd_same, ?_, ?_⟩ (same_upd hq)⟩
        · rw [upd_ne (ne_of_none hb4 hq)]
          exact hb4
        · exact hu2.keep (.of (same_upd hq))
    · intro acc H3 s3 eZ hacc
      have s4 := s2.trans s3
      refine ⟨Z, acc, rfl, .inl ⟨SqL.of eZ, fun r hr => ?_⟩⟩
      have s5 := same_upd (o := .tup acc) hr
      refine ⟨by rw [sizeLine_eq]; exact (by decide : (2 : Nat) ≤ 16777216), fun q hq => ?_⟩
      have s6 := same_upd (o := .tup [.ref t, .ref r]) hq
      refine k _ _ (s4.trans (s5.trans s6)) ⟨q, t, r, acc, rfl, SqT.of upd_same, same_seqT (s4.trans (s5.trans s6)) ht, SqT.of (s6 _ _ upd_same), ?_⟩
      have e : gathT ts = ((sortD (fun b : Addr × Lot => lotD b.2) bs).filter fun b => nz (getT (sumT ts) b.2)).map fun b => (b.2, getT (sumT ts) b.2) := by
        have ek : (sortD (fun b : Addr × Lot => lotD b.2) bs).map (·.2) = sortL ((sumT ts).map (·.1)) := by
          have n1 : (bs.map (·.2)).Nodup := by rw [hb1, he.keys]; exact f2
          have p1 : ((sortD (fun b : Addr × Lot => lotD b.2) bs).map (·.2)).Perm (bs.map (·.2)) := perm.map _
          refine rise_unique (rise_of_le ?_ (p1.nodup_iff.mpr n1)) (sortL_rise f2) ?_
          · rw [List.pairwise_map]
            exact sortD_le (fun b : Addr × Lot => b.2) bs
          · refine p1.trans ?_
            rw [hb1, he.keys]
            exact (sortL_perm _).symm
        rw [gath_eq, ← ek, List.filter_map, List.map_map]
        rfl
      rw [e]
      exact paired_map (paired_imp hacc fun v b h => h.keep ((TK.of s5).trans (.of s6)))
end
end K17
set_option maxHeartbeats 1000000
namespace K17
open PySem PySem.Spec PyProof.Rows L2 Hx RZ
/-! ### the law's gathered -/
section
variable {P : Program} {w : World} {K : PySem.W.Frag} {mg : Str → Option Value} {base : Heap}
theorem ok_cl_gathered (D : Dn K mg "_law_cl_gathered" sL_cl_gathered) (B : Ok P w K mg base L2.CX0 3 "_law_ct_plus" ["one", "other"] (spPlus K)) (h_tuple : mg "tuple" = none) (h_sorted : mg "sorted" = none) :
    Ok P w K mg base L2.CX0 4 "_law_cl_gathered" ["taps_here", "pairs"] (spGath K) := by
  obtain ⟨_, _, g_ct_plus, k_ct_plus, b_ct_plus, F_ct_plus⟩ := B.ex
  refine Ok.mk0 D sc_cl_gathered (fun vs H Q E h => ?_) (fun _ _ _ _ _ _ us hl => match us, hl with | [_, _], _ => rfl) (fun f cdv A outer s H vs Q E hr h => ?_)
  · obtain ⟨t, l, taps, us, ts, rfl, _⟩ := h
    rfl
  obtain ⟨t, l, taps, us, ts, rfl, ht, hl, hts, ok, ne, small, k⟩ := h
  have nd := sc_cl_gathered.nd
  have hu := hu_of hr
  have hu64 := hr.units
  refine ⟨_, (pss_cons (ps_set (i := 2) nd rfl (Or.inr rfl) pe_dnewT)
  (pss_cons (ps_for PassesOwn.never rfl (pi_list (pv 1)) (pg_tup (by rfl) (pgs_cons (pg_name (i := 3) nd rfl (Or.inl rfl)) (pgs_cons (pg_name (i := 4) nd rfl (Or.inl rfl)) pgs_nil)))
    (pss_one (ps_dput hu (pv 2) (pv 3) (pe_call F_ct_plus hr rfl g_ct_plus k_ct_plus b_ct_plus .nil pass0 (pa_cons (pe_dget2 hu (pv 2) (pv 3) pe_int ⟨rfl, rfl, rfl, rfl⟩) (pa_cons (pv 4) pa_nil))) rfl)))
  (pss_one (ps_ret (pe_tup (pa_cons (pv 0) (pa_cons (pe_callTy call_tuple_of (by rfl) h_tuple (by decide +kernel) (pa_cons (pe_lc (own := [("lot", 3)]) (g := gName 3) rfl nd (pi_list (pe_callB (cr_srtDT rfl hu64) (by rfl) h_sorted (by decide +kernel) (pa_cons (pv 2) pa_nil))) (blkOk_by (own := [("lot", 3)]) (N := ["taps_here", "pairs", "found", "lot", "weight"]) (sc := defScope sL_cl_gathered) (by decide +kernel)) (fun _ _ _ _ _ => pg_name (i := 3) nd rfl (Or.inl rfl)) (fun _ _ _ _ _ => pts_one (pt_cmpR (op_neDK (K := K) rfl hu64) (pe_dget hu (pv 2) (pv 3) (fun _ _ => rfl)) pe_int (nomark _))) (fun _ _ _ _ _ => (pe_tup (pa_cons (pv 3) (pa_cons (pe_dget hu (pv 2) (pv 3) (fun _ _ => rfl)) pa_nil))))) pa_nil)) pa_nil))))))), ?_⟩
  refine fun d hd => ?_
  have s1 := same_upd (o := .dT []) hd
  have nH : ∀ {b : Addr} {u : HO}, H b = some u → b ≠ d := fun e => ne_of_none e hd
  have len : ts.length ≤ tot ts := by
    clear ht hl hts ok ne small k
    induction ts with
    | nil => exact Nat.zero_le _
    | cons a r ih => rw [tot_cons, List.length_cons]; omega
  have takeOk : ∀ i, OkT (ts.take i) := fun i x hx => ok x (List.mem_of_mem_take hx)
  have facts : ∀ i, OkT (sumT (ts.take i)) ∧ ((sumT (ts.take i)).map (fun t : Term => t.1)).Nodup := fun i => by
    obtain ⟨q1, q2, _⟩ := fold_facts (ts.take i) [] (takeOk i) (fun _ h => by cases h) List.nodup_nil
    exact ⟨q1, q2⟩
  have bits : ∀ i l, Bits (getT (sumT (ts.take i)) l) 4400 := fun i l => by
    have q := fold_bits (ts.take i) [] 1 (takeOk i) (fun _ h => by cases h) (by decide) (fun _ h => by cases h)
    have := sum_ge (ts := ts) i
    exact (get_bits q (by omega) l).mono (by omega)
  let Pv : Nat → L2.St → Hp → Prop := fun i σ H' => ∃ (o1 o2 : Option V) (es : List (Lot × V)), σ = [some (.ref t), some (.ref l), some (.ref d), o1, o2] ∧ Same H H' ∧ H' d = some (.dT (es.map lotE)) ∧ EntAt K H' es (sumT (ts.take i))
  refine ⟨_, rfl, l, rfl, ⟨_, same_seqL s1 hl⟩, for_list Pv ⟨none, none, [], rfl, s1, upd_same, .nil⟩ (fun i σ H' _ ⟨_, _, _, _, s, _⟩ => same_seqL s hl) ?_ ?_⟩
  · rintro i x σ H' hx ⟨o1, o2, es, rfl, s, hd', he⟩
    obtain ⟨tm, htm, a, l2, u, rfl, ha, hl2, hn⟩ := paired_get hts hx
    have tkH := TK.of s
    have ha' := tk_seqT tkH ha
    have hl2' := s _ _ hl2
    have hn' := hn.keep tkH
    have mt := List.mem_of_getElem? htm
    have eb : H' l2 = some (.tup ((lotK tm.1).map kV)) := by rw [kV_lot]; exact hl2'
    have hv : NumAt K H' ((valV (es.map lotE) (lotK tm.1)).getD (.int 0)) (getT (sumT (ts.take i)) tm.1) := by
      rw [valV_lot]
      exact he.find
    refine ⟨a, _, rfl, ha', rfl, _, _, rfl, _, _, rfl, rfl, ?_⟩
    refine ⟨_, rfl, d, rfl, .inr ⟨_, .inl hd'⟩, _, rfl, _, DGet.t hd' eb, _, rfl, _, _, _, _, rfl, hv, hn', get_ok (facts i).1 _, ok tm mt, bits i _, (nb_bits _).mono ?_, fun y H2 s2 hy => ?_⟩
    · have := tot_mem mt
      omega
    · have hd2 := s2 _ _ hd'
      have tk2 : TK H' H2 := .of s2
      have small2 : (es.map lotE).length < sizeLine := by
        have e1 : es.length = (sumT (ts.take i)).length := paired_len he
        have e3 := len_fold (ts.take i) []
        have e4 : (ts.take i).length ≤ ts.length := by rw [List.length_take]; omega
        have e5 : (sumT (ts.take i)).length ≤ ts.length := by
          show ((ts.take i).foldl stepT []).length ≤ _
          simp only [List.length_nil] at e3
          omega
        rw [List.length_map, e1, sizeLine_eq]
        omega
      refine ⟨_, rfl, _, rfl, d, _, rfl, DPut.t hd2 (k := lotK tm.1) (by rw [kV_lot]; exact s2 _ _ hl2') small2, ?_⟩
      rw [putK_lot _ _ _ (by rw [he.keys]; exact (facts i).2)]
      refine ⟨_, _, putE es tm.1 y, rfl, fun b o e => ?_, upd_same, ?_⟩
      · rw [upd_ne (nH e)]
        exact s2 _ _ (s _ _ e)
      · have et : ts.take (i + 1) = ts.take i ++ [tm] := by rw [List.take_add_one, htm]; rfl
        have es' : sumT (ts.take (i + 1)) = putT (sumT (ts.take i)) tm.1 (plusN (getT (sumT (ts.take i)) tm.1) tm.2) := by
          unfold sumT
          rw [et, List.foldl_append]
          rfl
        rw [es']
        have tkd := TK.dctT (o := .dT ((putE es tm.1 y).map lotE)) hd2
        exact EntAt.put (hy.keep tkd) (he.keep (tk2.trans tkd))
  · rintro σ H' ⟨o1, o2, es, rfl, s, hd', he⟩
    rw [paired_len hts, List.take_length] at he
    obtain ⟨f1, f2⟩ := facts ts.length
    rw [List.take_length] at f1 f2
    refine ⟨_, rfl, _, rfl, d, es, rfl, .inl hd', ?_, fun p bs hp hb1 hb2 => ⟨p, rfl, ⟨_, SqL.of upd_same⟩, fun Z hZ => ?_⟩⟩
    · intro e he'
      have m : e.1 ∈ (sumT ts).map (fun t : Term => t.1) := by rw [← he.keys]; exact List.mem_map.mpr ⟨e, he', rfl⟩
      obtain ⟨_, _, _, q4⟩ := fold_facts ts [] ok (fun _ h => by cases h) List.nodup_nil
      rcases (q4 _).mp m with z | z
      · simp at z
      · obtain ⟨x, hx, q⟩ := List.mem_map.mp z
        rw [← q]
        exact ne x hx
    have perm : ((sortD (fun b : Addr × Lot => lotD b.2) bs)).Perm bs := List.mergeSort_perm _ _
    have lenE : bs.length ≤ 4300 := by
      have e1 := congrArg List.length hb1
      rw [List.length_map, List.length_map] at e1
      have e2 : es.length = (sumT ts).length := paired_len he
      have e3 := len_fold ts []
      have e4 : (sumT ts).length ≤ ts.length := by
        show (ts.foldl stepT []).length ≤ _
        simp only [List.length_nil] at e3
        omega
      omega
    have s2 := s.trans (same_upd (o := .lst ((sortD (fun b : Addr × Lot => lotD b.2) bs).map fun b => V.ref b.1)) hp)
    refine lc_filt (sortD (fun b : Addr × Lot => lotD b.2) bs) (fun b => nz (getT (sumT ts) b.2)) (fun v b H => TermAt K H v (b.2, getT (sumT ts) b.2)) (fun v b H H' tk h => h.keep tk) hZ ?_ ?_ ?_ ?_ ?_
    · rw [perm.length_eq, sizeLine_eq]
      omega
    · intro i H3 hi s3
      exact ⟨_, _, same_seqL s3 (SqL.of upd_same), List.getElem?_eq_getElem (by rw [List.length_map]; exact hi)⟩
    · intro H3 s3
      exact ⟨_, same_seqL s3 (SqL.of upd_same), by rw [List.length_map]; exact Nat.le_refl _⟩
    · rintro i b x H3 H4 F G hb s3 ⟨rfl, yx⟩ kF kG
      have e := yx _ (same_seqL s3 (SqL.of upd_same))
      rw [List.getElem?_map, hb] at e
      obtain rfl : V.ref b.1 = x := Option.some.inj e
      have mb : b ∈ bs := perm.mem_iff.mp (List.mem_of_getElem? hb)
      have h0 := same_upd (o := .lst ((sortD (fun b : Addr × Lot => lotD b.2) bs).map fun b => V.ref b.1)) hp
      have h3 := h0.trans s3
      have hb4 := h3 _ _ (hb2 b mb)
      have hd4 := h3 _ _ hd'
      have mk : b.2 ∈ (sumT ts).map (fun t : Term => t.1) := by rw [← he.keys, ← hb1]; exact List.mem_map.mpr ⟨b, mb, rfl⟩
      obtain ⟨u, hu1, hu2⟩ := (he.keep (TK.of h3)).there mk
      have dg : DGet H4 d (.ref b.1) (some u) := by
        rw [← hu1, ← valV_lot]
        exact DGet.t hd4 (k := lotK b.2) (by rw [kV_lot]; exact hb4)
      refine ⟨rfl, _, rfl, _, rfl, d, u, rfl, dg, _, .int 0, hu2.dt.dp, .int 0, shaped_num _, shaped_int 0, _, rfl, ?_⟩
      rw [eqv_num0, Bool.not_not]
      cases hz : nz (getT (sumT ts) b.2) with
      | false => exact iteF (kG hz _ (Same.refl _))
      | true =>
        refine iteT ⟨_, rfl, _, rfl, _, rfl, d, u, rfl, dg, by rw [sizeLine_eq]; exact (by decide : (2 : Nat) ≤ 16777216), fun q hq => kF hz _ _ ⟨q, b.1, u, rfl, SqT.of upd_same, ?_, ?_⟩ (same_upd hq)⟩
        · rw [upd_ne (ne_of_none hb4 hq)]
          exact hb4
        · exact hu2.keep (.of (same_upd hq))
    · intro acc H3 s3 eZ hacc
      have s4 := s2.trans s3
      refine ⟨Z, acc, rfl, .inl ⟨SqL.of eZ, fun r hr => ?_⟩⟩
      have s5 := same_upd (o := .tup acc) hr
      refine ⟨by rw [sizeLine_eq]; exact (by decide : (2 : Nat) ≤ 16777216), fun q hq => ?_⟩
      have s6 := same_upd (o := .tup [.ref t, .ref r]) hq
      refine k _ _ (s4.trans (s5.trans s6)) ⟨q, t, r, acc, rfl, SqT.of upd_same, same_seqT (s4.trans (s5.trans s6)) ht, SqT.of (s6 _ _ upd_same), ?_⟩
      have e : gathT ts = ((sortD (fun b : Addr × Lot => lotD b.2) bs).filter fun b => nz (getT (sumT ts) b.2)).map fun b => (b.2, getT (sumT ts) b.2) := by
        have ek : (sortD (fun b : Addr × Lot => lotD b.2) bs).map (·.2) = sortL ((sumT ts).map (·.1)) := by
          have n1 : (bs.map (·.2)).Nodup := by rw [hb1, he.keys]; exact f2
          have p1 : ((sortD (fun b : Addr × Lot => lotD b.2) bs).map (·.2)).Perm (bs.map (·.2)) := perm.map _
          refine rise_unique (rise_of_le ?_ (p1.nodup_iff.mpr n1)) (sortL_rise f2) ?_
          · rw [List.pairwise_map]
            exact sortD_le (fun b : Addr × Lot => b.2) bs
          · refine p1.trans ?_
            rw [hb1, he.keys]
            exact (sortL_perm _).symm
        rw [gath_eq, ← ek, List.filter_map, List.map_map]
        rfl
      rw [e]
      exact paired_map (paired_imp hacc fun v b h => h.keep ((TK.of s5).trans (.of s6)))
end
end K17
set_option maxHeartbeats 1000000
namespace K17
open PySem PySem.Spec PyProof.Rows L2 Hx RZ
/-! ### claims judged: the program -/
inductive Claim0
  | other (d : PyData)
  | short (ds : List PyData)
  | head (e f : PyData)
  | nolist (ns : Lot) (e : PyData)
  | terms (ns : Lot) (rs : List Term0)
def Claim0.data : Claim0 → PyData
  | .other d => d
  | .short ds => .tuple ds
  | .head e f => .tuple [e, f]
  | .nolist ns e => .tuple [lotD ns, e]
  | .terms ns rs => .tuple [lotD ns, .tuple (rs.map Term0.data)]
def Claim0.fit : Claim0 → Prop
  | .other d => isTy (tagOf d) "tuple" = false
  | .short ds => ds.length ≠ 2
  | .head e _ => isTy (tagOf e) "tuple" = false
  | .nolist ns e => Sm ns ∧ isTy (tagOf e) "tuple" = false
  | .terms ns rs => Sm ns ∧ rs.length ≤ 1000 ∧ ∀ r ∈ rs, r.fit
def Term0.good (taps : Lot) : Term0 → Bool
  | .right ns n => (lotS taps ns && n.ok) && nz n
  | _ => false
def Term0.lot : Term0 → Lot
  | .right ns _ => ns
  | _ => []
def riseL (ls : List Lot) : Bool := (ls.zip (ls.drop 1)).all fun p => lotLt p.1 p.2
def Claim0.ok : Claim0 → Bool
  | .terms ns rs => tapsS ns && (rs.all (Term0.good ns) && riseL (rs.map Term0.lot))
  | _ => false
section
variable {K : PySem.W.Frag} {H : Hp}
theorem dp_tup {v : V} {ds : List PyData} (h : Dp K H v (.tuple ds)) : ∃ a xs, v = .ref a ∧ SqT K H a xs ∧ DpAll K H xs ds := by
  cases h with
  | tup q r => exact ⟨_, _, rfl, q, r⟩
theorem good_right {taps : Lot} {r : Term0} (h : r.good taps = true) : ∃ ns n, r = .right ns n ∧ lotS taps ns = true ∧ n.ok = true ∧ nz n = true := by
  cases r with
  | right ns n =>
    have h' : ((lotS taps ns && n.ok) && nz n) = true := h
    rw [Bool.and_eq_true, Bool.and_eq_true] at h'
    exact ⟨ns, n, rfl, h'.1.1, h'.1.2, h'.2⟩
  | flag _ _ => cases h
  | odd _ _ => cases h
  | one _ => cases h
end
theorem iteG {c : Bool} {P R : Prop} (h : c = false) (p : R) : if c = true then P else R := by rw [h, if_neg (by decide)]; exact p
theorem iteE {c : Bool} {P R : Prop} (h : c = true) (p : P) : if c = true then P else R := by rw [if_pos h]; exact p
section
variable {P : Program} {w : World} {K : PySem.W.Frag} {mg : Str → Option Value} {base : Heap}
/-- taps, and a tuple of such terms -/
def spTerms (K : PySem.W.Frag) : Sp := fun vs H Q _ => ∃ (t : Addr) (taps : Lot) (v : V), vs = [.ref t, v] ∧ SqT K H t (taps.map V.str) ∧ Sm taps ∧
  ((∃ d, Dp K H v d ∧ isTy (tagOf d) "tuple" = false ∧ Q (.bl false) H) ∨ ∃ rs : List Term0, Dp K H v (.tuple (rs.map Term0.data)) ∧ rs.length ≤ 1000 ∧ (∀ r ∈ rs, r.fit) ∧ ∀ H', Same H H' → Q (.bl (rs.all (Term0.good taps) && riseL (rs.map Term0.lot))) H')
theorem sc_are_claim_terms : FnScope ["taps", "value", "term", "one", "other"] ["taps", "value"] (defScope sare_claim_terms) := ⟨rfl, rfl, rfl, by decide +kernel, rfl, by decide +kernel, by decide +kernel⟩
theorem ok_are_claim_terms (D : Dn K mg "are_claim_terms" sare_claim_terms) (B : Ok P w K mg base L2.CX0 4 "is_term" ["taps", "value"] (spTerm K)) (h_isinstance : mg "isinstance" = none) (h_tuple : mg "tuple" = none) (h_all : mg "all" = none) (h_zip : mg "zip" = none) :
    Ok P w K mg base L2.CX0 5 "are_claim_terms" ["taps", "value"] (spTerms K) := by
  obtain ⟨_, _, g_is_term, k_is_term, b_is_term, F_is_term⟩ := B.ex
  refine Ok.mk0 D sc_are_claim_terms (fun vs H Q E h => ?_) (fun _ _ _ _ _ _ us hl => match us, hl with | [_, _], _ => rfl) (fun f cdv A outer s H vs Q E hr h => ?_)
  · obtain ⟨t, taps, v, rfl, _⟩ := h
    rfl
  obtain ⟨t, taps, v, rfl, ht, tm, h⟩ := h
  have nd := sc_are_claim_terms.nd
  have hu64 := hr.units
  refine ⟨_, (pss_cons (ps_if (PW.pt (pw_or (pt_not (pt_val (pe_isD "tuple" rfl h_isinstance h_tuple (pv 1)))) (pw_or1 (pt_not (pt_val (pe_callB (cr_all rfl) (by rfl) h_all (by decide +kernel) (pa_cons (pe_lc (own := [("term", 2)]) (g := gName 2) (tt := tYes) rfl nd (pi_tup (pv 1)) (blkOk_by (own := [("term", 2)]) (N := ["taps", "value", "term", "one", "other"]) (sc := defScope sare_claim_terms) (by decide +kernel)) (fun _ _ _ _ _ => pg_name (i := 2) nd rfl (Or.inl rfl)) (fun _ _ _ _ _ => pts_nil) (fun _ _ _ _ _ => (pe_and (pe_call F_is_term hr rfl g_is_term k_is_term b_is_term .nil pass0 (pa_cons (pv 0) (pa_cons (pv 2) pa_nil))) (pe_one (pe_cmpR (op_neDK (K := K) rfl hu64) (pe_ix (ix_tupK (K := K) rfl) (pv 2) pe_int (fun _ _ => rfl)) pe_int (nomark _)))))) pa_nil)))))))
    (pss_one (ps_ret pe_bl))
    pss_nil)
  (pss_one (ps_ret (pe_callB (cr_all rfl) (by rfl) h_all (by decide +kernel) (pa_cons (pe_lc (own := [("one", 3), ("other", 4)]) (g := gTup K 2 (gCons (gName 3) (gCons (gName 4) gNil))) (tt := tYes) rfl nd (pi_zipA (by rfl) h_zip (pa_cons (pv 1) (pa_cons (pe_slice sl_tupA (pv 1) (po_some pe_int) po_none) pa_nil))) (blkOk_by (own := [("one", 3), ("other", 4)]) (N := ["taps", "value", "term", "one", "other"]) (sc := defScope sare_claim_terms) (by decide +kernel)) (fun _ _ _ _ _ => pg_tup (by rfl) (pgs_cons (pg_name (i := 3) nd rfl (Or.inl rfl)) (pgs_cons (pg_name (i := 4) nd rfl (Or.inl rfl)) pgs_nil))) (fun _ _ _ _ _ => pts_nil) (fun _ _ _ _ _ => (pe_cmpR (op_ltDK (K := K) rfl hu64) (pe_ix (ix_tupK (K := K) rfl) (pv 3) pe_int (fun _ _ => rfl)) (pe_ix (ix_tupK (K := K) rfl) (pv 4) pe_int (fun _ _ => rfl)) (nomark _)))) pa_nil))))), ?_⟩
  rcases h with ⟨d, hd, nt, k⟩ | ⟨rs, hd, small, fit, k⟩
  · exact ⟨_, rfl, d, hd, false, congrArg V.bl nt, iteT k⟩
  obtain ⟨a, xs, rfl, ha, hx⟩ := dp_tup hd
  have hlen : xs.length = rs.length := by rw [dpAll_len hx, List.length_map]
  refine ⟨_, rfl, _, hd, true, rfl, iteF ⟨_, rfl, a, rfl, ⟨_, ha⟩, fun L hL => ?_⟩⟩
  refine lc_each rs (fun v r _ => v = .bl (r.good taps)) (fun _ _ _ _ _ h => h) hL (by rw [sizeLine_eq]; omega) (fun i H1 hi s1 => ?_) (fun H1 s1 => ?_) ?_ ?_
  · exact ⟨_, _, same_seqT s1 ha, List.getElem?_eq_getElem (by omega)⟩
  · exact ⟨_, same_seqT s1 ha, by omega⟩
  · rintro i r x H1 H' F hr' s1 ⟨rfl, yx⟩ kk
    have e := yx _ (same_seqT s1 ha)
    have mr := List.mem_of_getElem? hr'
    obtain ⟨d, ed, hxd⟩ := dpAll_get hx e
    rw [List.getElem?_map, hr'] at ed
    obtain rfl : r.data = d := Option.some.inj ed
    have hxd' := dp_same s1 hxd
    refine ⟨rfl, _, rfl, _, rfl, t, taps, x, r, rfl, same_seqT s1 ht, tm, hxd', fit r mr, fun H4 s4 => ⟨_, rfl, ?_⟩⟩
    cases ho : r.ok taps with
    | false =>
      refine iteF (kk _ _ ?_ s4)
      cases r with
      | right ns n =>
        show V.bl false = V.bl ((lotS taps ns && n.ok) && nz n)
        have ho' : (lotS taps ns && n.ok) = false := ho
        rw [ho']
        rfl
      | flag _ _ => rfl
      | odd _ _ => rfl
      | one _ => rfl
    | true =>
      cases r with
      | right ns n =>
        have ho' : (lotS taps ns && n.ok) = true := ho
        obtain ⟨a2, x2, y2, rfl, ha2, hx2, hy2⟩ := dp_pair (dp_same s4 hxd')
        refine iteT ⟨_, rfl, a2, _, 1, _, rfl, rfl, ha2, rfl, _, .int 0, hy2, .int 0, shaped_num n, shaped_int 0, kk _ _ ?_ s4⟩
        show V.bl _ = V.bl ((lotS taps ns && n.ok) && nz n)
        rw [ho', eqv_num0, Bool.not_not]
        rfl
      | flag _ _ => cases ho
      | odd _ _ => cases ho
      | one _ => cases ho
  · intro acc H1 s1 e hacc
    have eb := paired_bools hacc
    subst eb
    refine ⟨L, _, rfl, SqL.of e, _, rfl, ?_⟩
    have ea : (rs.map (Term0.good taps)).all id = rs.all (Term0.good taps) := by rw [List.all_map]; rfl
    rw [ea]
    cases hall : rs.all (Term0.good taps) with
    | false =>
      refine iteT ?_
      have z := k H1 s1
      rw [hall] at z
      exact z
    | true =>
      refine iteF ⟨_, rfl, _, rfl, _, rfl, ?_⟩
      show tNoPart _ _ _
      unfold tNoPart
      refine rSlA_any (same_seqT s1 ha) (cut_from 1) fun b H2 s2 hb => ?_
      have s12 := s1.trans s2
      refine ⟨a, b, _, _, rfl, .inr ⟨same_seqT s12 ha, hb, fun Z hZ => ?_⟩⟩
      have hd2 : ∀ {j : Nat} {z : V}, xs[j]? = some z → ∃ ns n, rs[j]? = some (.right ns n) ∧ Dp K H z (Term0.right ns n).data := fun {j z} ez => by
        obtain ⟨d, ed, hzd⟩ := dpAll_get hx ez
        rw [List.getElem?_map] at ed
        cases er : rs[j]? with
        | none => rw [er] at ed; cases ed
        | some r =>
          rw [er] at ed
          obtain rfl : r.data = d := Option.some.inj ed
          obtain ⟨ns, n, rfl, _⟩ := good_right (List.all_eq_true.mp hall r (List.mem_of_getElem? er))
          exact ⟨ns, n, rfl, hzd⟩
      refine lc_zip (same_seqT s12 ha) hb (by simp) (by rw [sizeLine_eq, List.length_drop]; omega) (fun i y _ => ((((rs.map Term0.lot).zip ((rs.map Term0.lot).drop 1)).map fun p => lotLt p.1 p.2)[i]?.map V.bl) = some y) (fun _ _ _ _ _ h => h) hZ ?_ ?_
      · intro i x y T H3 H4 F hx' hy' s3 s4 hT kk
        rw [List.getElem?_drop] at hy'
        obtain ⟨n1, m1, r1, d1⟩ := hd2 hx'
        obtain ⟨n2, m2, r2, d2⟩ := hd2 hy'
        have s5 := s12.trans s3
        obtain ⟨a1, x1, y1, rfl, ha1, hx1, hy1⟩ := dp_pair (dp_same s5 d1)
        obtain ⟨a2, x2, y2, rfl, ha2, hx2, hy2⟩ := dp_pair (dp_same s5 d2)
        refine ⟨T, _, rfl, SqT.of hT, rfl, _, _, rfl, _, _, rfl, ⟨rfl, rfl, _, rfl, a1, _, 0, _, rfl, rfl, ha1, rfl, _, rfl, a2, _, 0, _, rfl, rfl, ha2, rfl, lotD n1, lotD n2, hx1, hx2, alike_lot n1 n2, (fun z => by cases z), Nat.le_trans (depth_lot n1) (by decide), ?_⟩⟩
        refine kk _ _ ?_ s4
        have e1 : (rs.map Term0.lot)[i]? = some n1 := by rw [List.getElem?_map, r1]; rfl
        have e2 : ((rs.map Term0.lot).drop 1)[i]? = some n2 := by rw [List.getElem?_drop, List.getElem?_map, r2]; rfl
        rw [List.getElem?_map, List.getElem?_zip_eq_some (z := (n1, n2)) |>.mpr ⟨e1, e2⟩]
        rfl
      · intro acc H3 s3 e3 hl3 hy3
        have eb : acc = (((rs.map Term0.lot).zip ((rs.map Term0.lot).drop 1)).map fun p => lotLt p.1 p.2).map V.bl := bools_of (by simp [hl3, hlen]) hy3
        subst eb
        refine ⟨Z, _, rfl, SqL.of e3, ?_⟩
        have z := k H3 (s12.trans s3)
        rw [hall, Bool.true_and] at z
        unfold riseL at z
        rw [List.all_map]
        exact z
def spClaim0 (K : PySem.W.Frag) : Sp := fun vs H Q _ => ∃ (v : V) (c : Claim0), vs = [v] ∧ Dp K H v c.data ∧ c.fit ∧ ∀ H', Same H H' → Q (.bl c.ok) H'
theorem sc_is_claim : FnScope ["value"] ["value"] (defScope sis_claim) := ⟨rfl, rfl, rfl, by decide +kernel, rfl, by decide +kernel, by decide +kernel⟩
theorem ok_is_claim (D : Dn K mg "is_claim" sis_claim) (B0 : Ok P w K mg base L2.CX0 3 "are_taps" ["value"] (spNames K tapsS)) (B1 : Ok P w K mg base L2.CX0 5 "are_claim_terms" ["taps", "value"] (spTerms K)) (h_isinstance : mg "isinstance" = none) (h_tuple : mg "tuple" = none) (h_len : mg "len" = none) :
    Ok P w K mg base L2.CX0 6 "is_claim" ["value"] (spClaim0 K) := by
  obtain ⟨_, _, g_are_taps, k_are_taps, b_are_taps, F_are_taps⟩ := B0.ex
  obtain ⟨_, _, g_are_claim_terms, k_are_claim_terms, b_are_claim_terms, F_are_claim_terms⟩ := B1.ex
  refine Ok.mk0 D sc_is_claim (fun vs H Q E h => ?_) (fun _ _ _ _ _ _ us hl => match us, hl with | [_], _ => rfl) (fun f cdv A outer s H vs Q E hr h => ?_)
  · obtain ⟨v, c, rfl, _⟩ := h
    rfl
  obtain ⟨v, c, rfl, hd, fit, k⟩ := h
  have hr3 := hr.mono (show 3 ≤ 5 by decide)
  refine ⟨_, (pss_cons (ps_if (PW.pt (pw_or (pt_not (pt_val (pe_isD "tuple" rfl h_isinstance h_tuple (pv 0)))) (pw_or (pt_cmpR op_ne (pe_lenS rfl h_len (pv 0)) pe_int (nomark _)) (pw_or1 (pt_not (pt_val (pe_call F_are_taps hr3 rfl g_are_taps k_are_taps b_are_taps .nil pass0 (pa_cons (pe_ix ix_tup (pv 0) pe_int (fun _ _ => rfl)) pa_nil))))))))
    (pss_one (ps_ret pe_bl))
    pss_nil)
  (pss_one (ps_ret (pe_call F_are_claim_terms hr rfl g_are_claim_terms k_are_claim_terms b_are_claim_terms .nil pass0 (pa_cons (pe_ix ix_tup (pv 0) pe_int (fun _ _ => rfl)) (pa_cons (pe_ix ix_tup (pv 0) pe_int (fun _ _ => rfl)) pa_nil)))))), ?_⟩
  cases c with
  | other d =>
    have fit' : isTy (tagOf d) "tuple" = false := fit
    exact ⟨_, rfl, d, hd, false, congrArg V.bl fit', iteT (k _ (Same.refl _))⟩
  | short ds =>
    obtain ⟨a, xs, rfl, ha, hx⟩ := dp_tup hd
    have e : xs.length = ds.length := dpAll_len hx
    refine ⟨_, rfl, _, hd, true, rfl, iteF ⟨_, rfl, a, _, rfl, .inr ha, rfl, _, rfl, ?_⟩⟩
    have fit' : ds.length ≠ 2 := fit
    exact iteE (by simp; omega) (iteT (k _ (Same.refl _)))
  | head e f =>
    obtain ⟨a, x, y, rfl, ha, hx, hy⟩ := dp_pair hd
    have fit' : isTy (tagOf e) "tuple" = false := fit
    exact ⟨_, rfl, _, hd, true, rfl, iteF ⟨_, rfl, a, _, rfl, .inr ha, rfl, _, rfl, iteF ⟨_, rfl, a, _, 0, _, rfl, rfl, ha, rfl, x, rfl, .inr ⟨e, hx, fit', _, rfl, iteT (k _ (Same.refl _))⟩⟩⟩⟩
  | nolist ns e =>
    obtain ⟨a, x, y, rfl, ha, hx, hy⟩ := dp_pair hd
    obtain ⟨t, rfl, ht⟩ := dp_names hx
    refine ⟨_, rfl, _, hd, true, rfl, iteF ⟨_, rfl, a, _, rfl, .inr ha, rfl, _, rfl, iteF ⟨_, rfl, a, _, 0, _, rfl, rfl, ha, rfl, _, rfl, .inl ⟨t, ns, rfl, ht, fit.1, fun H1 s1 => ⟨_, rfl, ?_⟩⟩⟩⟩⟩
    cases tapsS ns with
    | false => exact iteT (k _ s1)
    | true =>
      refine iteF ⟨_, rfl, a, _, 0, _, rfl, rfl, same_seqT s1 ha, rfl, _, rfl, a, _, 1, _, rfl, rfl, same_seqT s1 ha, rfl, t, ns, _, rfl, same_seqT s1 ht, fit.1, .inl ⟨e, dp_same s1 hy, fit.2, k _ s1⟩⟩
  | terms ns rs =>
    obtain ⟨a, x, y, rfl, ha, hx, hy⟩ := dp_pair hd
    obtain ⟨t, rfl, ht⟩ := dp_names hx
    have z : ∀ H', Same H H' → Q (.bl (tapsS ns && (rs.all (Term0.good ns) && riseL (rs.map Term0.lot)))) H' := k
    refine ⟨_, rfl, _, hd, true, rfl, iteF ⟨_, rfl, a, _, rfl, .inr ha, rfl, _, rfl, iteF ⟨_, rfl, a, _, 0, _, rfl, rfl, ha, rfl, _, rfl, .inl ⟨t, ns, rfl, ht, fit.1, fun H1 s1 => ⟨_, rfl, ?_⟩⟩⟩⟩⟩
    cases ht2 : tapsS ns with
    | false =>
      rw [ht2] at z
      exact iteT (z _ s1)
    | true =>
      rw [ht2] at z
      exact iteF ⟨_, rfl, a, _, 0, _, rfl, rfl, same_seqT s1 ha, rfl, _, rfl, a, _, 1, _, rfl, rfl, same_seqT s1 ha, rfl, t, ns, _, rfl, same_seqT s1 ht, fit.1, .inr ⟨rs, dp_same s1 hy, fit.2.1, fit.2.2, fun H2 s2 => z _ (s1.trans s2)⟩⟩
structure OwnE (K : PySem.W.Frag) (mg : Str → Option Value) (x : Str) (C : Addr) : Prop where
  q : ∃ B newId initId bmB, ExcBaseFacts B newId initId bmB ∧ PySem.W.excIn K C bmB newId = true
  g : mg x = some (.ref C)
  k : PySem.W.keepIn K (.ref C) = true
  b : PySem.W.subIn K (.ref C) (.type "BaseException") = some true
  t : PySem.W.typeIn K (.ref C) = some (.type "type")
def spCheckC (K : PySem.W.Frag) (C : Addr) : Sp := fun vs H Q E => ∃ (v : V) (c : Claim0), vs = [v] ∧ Dp K H v c.data ∧ c.fit ∧ ∀ H', Same H H' → if c.ok = true then Q .non H' else E (.ref C) none H'
theorem sc_check_claim : FnScope ["claim"] ["claim"] (defScope scheck_claim) := ⟨rfl, rfl, rfl, by decide +kernel, rfl, by decide +kernel, by decide +kernel⟩
theorem ok_check_claim {C : Addr} (T : OwnE K mg "BadClaim" C) (D : Dn K mg "check_claim" scheck_claim) (B : Ok P w K mg base L2.CX0 6 "is_claim" ["value"] (spClaim0 K)) : Ok P w K mg base (L2.CX P w) 7 "check_claim" ["claim"] (spCheckC K C) := by
  obtain ⟨_, _, g_is_claim, k_is_claim, b_is_claim, F_is_claim⟩ := B.ex
  obtain ⟨b0, nI, iI, bm, fx, qx⟩ := T.q
  refine Ok.mkX D sc_check_claim (fun vs H Q E h => ?_) (fun _ _ _ _ _ _ us hl => match us, hl with | [_], _ => rfl) (fun f cdv A outer s H vs Q E hr h => ?_)
  · obtain ⟨v, c, rfl, _⟩ := h
    rfl
  refine ⟨_, (pss_one (ps_if (pt_not (pt_val (pe_call F_is_claim hr rfl g_is_claim k_is_claim b_is_claim .nil pass0 (pa_cons (pv 0) pa_nil))))
    (pss_one (ps_raise rfl (takes_of rfl rfl rfl rfl) (pmk_own fx qx T.g T.k (raises_own T.b T.t) (by exact rfl))))
    pss_nil)), ?_⟩
  obtain ⟨v, c, rfl, hd, fit, k⟩ := h
  refine ⟨_, rfl, v, c, rfl, hd, fit, fun H1 s1 => ⟨_, rfl, ?_⟩⟩
  have z := k H1 s1
  cases ho : c.ok with
  | false =>
    rw [ho] at z
    exact iteT z
  | true =>
    rw [ho] at z
    exact iteF z
end
end K17
set_option maxHeartbeats 1000000
namespace K17
open PySem PySem.Spec PyProof.Rows L2 Hx RZ
/-! ### greater and lesser terms: the program -/
def greatT (L : List Term) : List Term := L.filter fun t => decide (0 < t.2.top)
def turnT (t : Term) : Term := (t.1, turnN t.2)
def lessT (L : List Term) : List Term := (L.filter fun t => decide (t.2.top < 0)).map turnT
section
variable {P : Program} {w : World} {K : PySem.W.Frag} {mg : Str → Option Value} {base : Heap}
def spSome (K : PySem.W.Frag) (f : List Term → List Term) : Sp := fun vs H Q _ => ∃ (v : V) (taps : Lot) (L : List Term), vs = [v] ∧ ClaimAt K H v taps L ∧ L.length ≤ 100000 ∧ ∀ l us H', Same H H' → SqT K H' l us → TermsAt K H' us (f L) → Q (.ref l) H'
theorem sc_greater_terms : FnScope ["claim", "lot", "weight"] ["claim"] (defScope sgreater_terms) := ⟨rfl, rfl, rfl, by decide +kernel, rfl, by decide +kernel, by decide +kernel⟩
theorem ok_greater_terms (D : Dn K mg "greater_terms" sgreater_terms) (B : Ok P w K mg base L2.CX0 1 "top_of" ["value"] (spTop K Num.top)) (h_tuple : mg "tuple" = none) :
    Ok P w K mg base L2.CX0 2 "greater_terms" ["claim"] (spSome K greatT) := by
  obtain ⟨_, _, g_top_of, k_top_of, b_top_of, F_top_of⟩ := B.ex
  refine Ok.mk0 D sc_greater_terms (fun vs H Q E h => ?_) (fun _ _ _ _ _ _ us hl => match us, hl with | [_], _ => rfl) (fun f cdv A outer s H vs Q E hr h => ?_)
  · obtain ⟨v, taps, L, rfl, _⟩ := h
    rfl
  obtain ⟨v, taps, L, rfl, ⟨a, t, l, us, rfl, ha, ht, hl, hts⟩, small, k⟩ := h
  have nd := sc_greater_terms.nd
  refine ⟨_, (pss_one (ps_ret (pe_callTy call_tuple_of (by rfl) h_tuple (by decide +kernel) (pa_cons (pe_lc (own := [("lot", 1), ("weight", 2)]) (g := gTup K 2 (gCons (gName 1) (gCons (gName 2) gNil))) rfl nd (pi_tup (pe_ix ix_tup (pv 0) pe_int (fun _ _ => rfl))) (blkOk_by (own := [("lot", 1), ("weight", 2)]) (N := ["claim", "lot", "weight"]) (sc := defScope sgreater_terms) (by decide +kernel)) (fun _ _ _ _ _ => pg_tup (by rfl) (pgs_cons (pg_name (i := 1) nd rfl (Or.inl rfl)) (pgs_cons (pg_name (i := 2) nd rfl (Or.inl rfl)) pgs_nil))) (fun _ _ _ _ _ => pts_one (pt_cmpR op_gt (pe_call F_top_of hr rfl g_top_of k_top_of b_top_of .nil pass0 (pa_cons (pv 2) pa_nil)) pe_int (nomark _))) (fun _ _ _ _ _ => (pe_tup (pa_cons (pv 1) (pa_cons (pv 2) pa_nil))))) pa_nil)))), ?_⟩
  refine ⟨_, rfl, a, _, 1, _, rfl, rfl, ha, rfl, l, rfl, ⟨_, hl⟩, fun Z hZ => ?_⟩
  refine lc_filt L (fun t => decide (0 < t.2.top)) (fun v t H => TermAt K H v t) (fun v t H H' tk h => h.keep tk) hZ (by rw [sizeLine_eq]; omega) (fun i H1 hi s1 => ?_) (fun H1 s1 => ?_) ?_ ?_
  · exact ⟨_, _, same_seqT s1 hl, List.getElem?_eq_getElem (by rw [paired_len hts]; exact hi)⟩
  · exact ⟨_, same_seqT s1 hl, by rw [paired_len hts]; exact Nat.le_refl _⟩
  · rintro i t x H1 H' F G et s1 ⟨rfl, yx⟩ kF kG
    have e := yx _ (same_seqT s1 hl)
    obtain ⟨t', et', ht'⟩ := L2.paired_get hts e
    rw [et] at et'
    obtain rfl : t = t' := Option.some.inj et'
    obtain ⟨q, l2, u, rfl, hq, hl2, hn⟩ := ht'.keep (TK.of s1)
    refine ⟨q, _, rfl, hq, rfl, _, _, rfl, _, _, rfl, rfl, rfl, _, rfl, u, t.2, rfl, hn, ?_⟩
    refine ⟨_, _, rfl, rfl, _, rfl, ?_⟩
    cases hz : decide (0 < t.2.top) with
    | false => exact iteF (kG hz _ (Same.refl _))
    | true =>
      refine iteT ⟨_, rfl, _, rfl, by rw [sizeLine_eq]; exact (by decide : (2 : Nat) ≤ 16777216), fun p hp => kF hz _ _ ⟨p, l2, u, rfl, SqT.of upd_same, ?_, ?_⟩ (same_upd hp)⟩
      · rw [upd_ne (ne_of_none hl2 hp)]
        exact hl2
      · exact hn.keep (.of (same_upd hp))
  · intro acc H1 s1 eZ hacc
    refine ⟨Z, acc, rfl, .inl ⟨SqL.of eZ, fun r hr' => ?_⟩⟩
    have s2 := same_upd (o := .tup acc) hr'
    exact k r acc _ (s1.trans s2) (SqT.of upd_same) (TermsAt.keep (.of s2) hacc)
theorem sc_lesser_terms : FnScope ["claim", "lot", "weight"] ["claim"] (defScope slesser_terms) := ⟨rfl, rfl, rfl, by decide +kernel, rfl, by decide +kernel, by decide +kernel⟩
theorem ok_lesser_terms (D : Dn K mg "lesser_terms" slesser_terms) (B : Ok P w K mg base L2.CX0 1 "top_of" ["value"] (spTop K Num.top)) (B1 : Ok P w K mg base L2.CX0 1 "turned" ["value"] (spTurn K)) (h_tuple : mg "tuple" = none) :
    Ok P w K mg base L2.CX0 2 "lesser_terms" ["claim"] (spSome K lessT) := by
  obtain ⟨_, _, g_top_of, k_top_of, b_top_of, F_top_of⟩ := B.ex
  obtain ⟨_, _, g_turned, k_turned, b_turned, F_turned⟩ := B1.ex
  refine Ok.mk0 D sc_lesser_terms (fun vs H Q E h => ?_) (fun _ _ _ _ _ _ us hl => match us, hl with | [_], _ => rfl) (fun f cdv A outer s H vs Q E hr h => ?_)
  · obtain ⟨v, taps, L, rfl, _⟩ := h
    rfl
  obtain ⟨v, taps, L, rfl, ⟨a, t, l, us, rfl, ha, ht, hl, hts⟩, small, k⟩ := h
  have nd := sc_lesser_terms.nd
  refine ⟨_, (pss_one (ps_ret (pe_callTy call_tuple_of (by rfl) h_tuple (by decide +kernel) (pa_cons (pe_lc (own := [("lot", 1), ("weight", 2)]) (g := gTup K 2 (gCons (gName 1) (gCons (gName 2) gNil))) rfl nd (pi_tup (pe_ix ix_tup (pv 0) pe_int (fun _ _ => rfl))) (blkOk_by (own := [("lot", 1), ("weight", 2)]) (N := ["claim", "lot", "weight"]) (sc := defScope slesser_terms) (by decide +kernel)) (fun _ _ _ _ _ => pg_tup (by rfl) (pgs_cons (pg_name (i := 1) nd rfl (Or.inl rfl)) (pgs_cons (pg_name (i := 2) nd rfl (Or.inl rfl)) pgs_nil))) (fun _ _ _ _ _ => pts_one (pt_cmpR op_lt (pe_call F_top_of hr rfl g_top_of k_top_of b_top_of .nil pass0 (pa_cons (pv 2) pa_nil)) pe_int (nomark _))) (fun _ _ _ _ _ => (pe_tup (pa_cons (pv 1) (pa_cons (pe_call F_turned hr rfl g_turned k_turned b_turned .nil pass0 (pa_cons (pv 2) pa_nil)) pa_nil))))) pa_nil)))), ?_⟩
  refine ⟨_, rfl, a, _, 1, _, rfl, rfl, ha, rfl, l, rfl, ⟨_, hl⟩, fun Z hZ => ?_⟩
  refine lc_filt L (fun t => decide (t.2.top < 0)) (fun v t H => TermAt K H v (turnT t)) (fun v t H H' tk h => h.keep tk) hZ (by rw [sizeLine_eq]; omega) (fun i H1 hi s1 => ?_) (fun H1 s1 => ?_) ?_ ?_
  · exact ⟨_, _, same_seqT s1 hl, List.getElem?_eq_getElem (by rw [paired_len hts]; exact hi)⟩
  · exact ⟨_, same_seqT s1 hl, by rw [paired_len hts]; exact Nat.le_refl _⟩
  · rintro i t x H1 H' F G et s1 ⟨rfl, yx⟩ kF kG
    have e := yx _ (same_seqT s1 hl)
    obtain ⟨t', et', ht'⟩ := L2.paired_get hts e
    rw [et] at et'
    obtain rfl : t = t' := Option.some.inj et'
    obtain ⟨q, l2, u, rfl, hq, hl2, hn⟩ := ht'.keep (TK.of s1)
    refine ⟨q, _, rfl, hq, rfl, _, _, rfl, _, _, rfl, rfl, rfl, _, rfl, u, t.2, rfl, hn, ?_⟩
    refine ⟨_, _, rfl, rfl, _, rfl, ?_⟩
    cases hz : decide (t.2.top < 0) with
    | false => exact iteF (kG hz _ (Same.refl _))
    | true =>
      refine iteT ⟨_, rfl, _, rfl, u, t.2, rfl, hn, fun u2 H2 s2 hu2 => ⟨by rw [sizeLine_eq]; exact (by decide : (2 : Nat) ≤ 16777216), fun p hp => kF hz _ _ ⟨p, l2, u2, rfl, SqT.of upd_same, ?_, ?_⟩ (s2.trans (same_upd hp))⟩⟩
      · exact (s2.trans (same_upd hp)) _ _ hl2
      · exact hu2.keep (.of (same_upd hp))
  · intro acc H1 s1 eZ hacc
    refine ⟨Z, acc, rfl, .inl ⟨SqL.of eZ, fun r hr' => ?_⟩⟩
    have s2 := same_upd (o := .tup acc) hr'
    refine k r acc _ (s1.trans s2) (SqT.of upd_same) ?_
    unfold lessT
    exact paired_map (paired_imp hacc fun v t h => h.keep (.of s2))
end
/-! ### texts -/
abbrev SPC : Str := " "
abbrev WW : Str := " w("
abbrev PL : Str := " + "
abbrev GE : Str := " >= "
abbrev CO : Str := ": "
abbrev RP : Str := ")"
abbrev ZER : Str := "0"
def termText (l : Lot) (n : Num) : Str := n.text ++ WW ++ Txt.join SPC l ++ RP
def sideText (ts : List Term) : Str := if ts.length = 0 then ZER else Txt.join PL (ts.map fun t => termText t.1 t.2)
def claimText (taps : Lot) (L : List Term) : Str := Txt.join SPC taps ++ CO ++ sideText (greatT L) ++ GE ++ sideText (lessT L)
/-- a number of few digits, from 0 on -/
def FitN (n : Num) : Prop := 0 ≤ n.top ∧ n.top < 10 ^ 6 ∧ 0 ≤ n.low ∧ n.low < 10 ^ 6
def lotLen (l : Lot) : Nat := (l.map (·.length)).sum + l.length
def FitT (t : Term) : Prop := FitN t.2 ∧ lotLen t.1 ≤ 36
theorem append_len (x y : Str) : (x ++ y).length = x.length + y.length := by rw [TL.len_tl, TL.tl_append, List.length_append, ← TL.len_tl, ← TL.len_tl]
theorem num_len {n : Num} (h : FitN n) : n.text.length ≤ 13 := by
  obtain ⟨t0, t1, l0, l1⟩ := h
  cases n with
  | w i =>
    have : (natS i).length ≤ 6 := PyProof.Rows.toString_length_le t0 (by decide) t1
    show (natS i).length ≤ 13
    omega
  | q t b =>
    have h1 : (natS t).length ≤ 6 := PyProof.Rows.toString_length_le t0 (by decide) t1
    have h2 : (natS b).length ≤ 6 := PyProof.Rows.toString_length_le l0 (by decide) l1
    show (natS t ++ "/" ++ natS b).length ≤ 13
    rw [append_len, append_len]
    have : (Str.ofString "/").length = 1 := rfl
    omega
theorem joinL_len (S : List Nat) : ∀ ps : List (List Nat), (TL.joinL S ps).length ≤ (ps.map (·.length)).sum + ps.length * S.length
  | [] => by simp [TL.joinL]
  | [p] => by simp [TL.joinL]
  | p :: q :: r => by
    have ih := joinL_len S (q :: r)
    show (p ++ (S ++ TL.joinL S (q :: r))).length ≤ _
    rw [List.length_append, List.length_append]
    simp only [List.map_cons, List.sum_cons, List.length_cons] at ih ⊢
    rw [Nat.add_mul (r.length + 1) 1]
    omega
theorem join_len (y : Str) (ps : List Str) : (Txt.join y ps).length ≤ (ps.map (·.length)).sum + ps.length * y.length := by
  rw [TL.join_eq, TL.len_tl, TL.tl_join]
  refine Nat.le_trans (joinL_len _ _) ?_
  rw [List.map_map, List.length_map, ← TL.len_tl]
  have e : (List.length ∘ TL.tl) = fun x : Str => x.length := funext fun x => (TL.len_tl x).symm
  rw [e]
  exact Nat.le_refl _
theorem sum_le {α : Type} (f : α → Nat) (c : Nat) : ∀ l : List α, (∀ x ∈ l, f x ≤ c) → (l.map f).sum ≤ l.length * c
  | [], _ => by simp
  | x :: l, h => by
    have a := h x List.mem_cons_self
    have b := sum_le f c l fun y hy => h y (List.mem_cons_of_mem _ hy)
    rw [List.map_cons, List.sum_cons, List.length_cons, Nat.add_mul]
    omega
theorem lot_join_len (l : Lot) : (Txt.join SPC l).length ≤ lotLen l := by
  have := join_len SPC l
  have e : SPC.length = 1 := rfl
  rw [e] at this
  unfold lotLen
  omega
theorem term_len {l : Lot} {n : Num} (h : FitT (l, n)) : (termText l n).length ≤ 53 := by
  have h1 := num_len h.1
  have h2 := lot_join_len l
  have h3 : lotLen l ≤ 36 := h.2
  show (n.text ++ WW ++ Txt.join SPC l ++ RP).length ≤ 53
  rw [append_len, append_len, append_len]
  have : WW.length = 3 := rfl
  have : RP.length = 1 := rfl
  simp only at h1
  omega
theorem side_len {ts : List Term} (h : ∀ t ∈ ts, FitT t) : (sideText ts).length ≤ 1 + ts.length * 56 := by
  unfold sideText
  split
  · have : ZER.length = 1 := rfl
    omega
  · have q := join_len PL (ts.map fun t => termText t.1 t.2)
    have q2 := sum_le (fun x : Str => x.length) 53 (ts.map fun t => termText t.1 t.2) fun x hx => by
      obtain ⟨t, ht, rfl⟩ := List.mem_map.mp hx
      exact term_len (h t ht)
    have e : PL.length = 3 := rfl
    rw [e, List.length_map] at q
    rw [List.length_map] at q2
    omega
section
variable {P : Program} {w : World} {K : PySem.W.Frag} {mg : Str → Option Value} {base : Heap}
theorem szl {n : Nat} (h : n ≤ 100000) : n ≤ sizeLine := by rw [sizeLine_eq]; omega
def spTermText (K : PySem.W.Frag) : Sp := fun vs H Q _ => ∃ (l : Addr) (u : V) (ns : Lot) (n : Num), vs = [.ref l, u] ∧ SqT K H l (ns.map V.str) ∧ NumAt K H u n ∧ FitT (ns, n) ∧ Q (.str (termText ns n)) H
theorem sc_term_text : FnScope ["lot", "weight", "names"] ["lot", "weight"] (defScope sterm_text) := ⟨rfl, rfl, rfl, by decide +kernel, rfl, by decide +kernel, by decide +kernel⟩
theorem ok_term_text (D : Dn K mg "term_text" sterm_text) (B : Ok P w K mg base L2.CX0 1 "number_text" ["value"] (spNumText K)) : Ok P w K mg base L2.CX0 2 "term_text" ["lot", "weight"] (spTermText K) := by
  obtain ⟨_, _, g_number_text, k_number_text, b_number_text, F_number_text⟩ := B.ex
  refine Ok.mk0 D sc_term_text (fun vs H Q E h => ?_) (fun _ _ _ _ _ _ us hl => match us, hl with | [_, _], _ => rfl) (fun f cdv A outer s H vs Q E hr h => ?_)
  · obtain ⟨l, u, ns, n, rfl, _⟩ := h
    rfl
  obtain ⟨l, u, ns, n, rfl, hl, hn, ff, k⟩ := h
  obtain ⟨⟨f1, f2, f3, f4⟩, f5⟩ : (0 ≤ n.top ∧ n.top < 10 ^ 6 ∧ 0 ≤ n.low ∧ n.low < 10 ^ 6) ∧ lotLen ns ≤ 36 := ff
  have nd := sc_term_text.nd
  refine ⟨_, (pss_cons (ps_set (i := 2) nd rfl (Or.inl rfl) (pe_join pe_str (pv 0)))
  (pss_one (ps_ret (pe_joined (.cons (pe_fmt (pe_call F_number_text hr rfl g_number_text k_number_text b_number_text .nil pass0 (pa_cons (pv 1) pa_nil))) (.cons pe_str (.cons (pe_fmt (pv 2)) (.cons pe_str .nil)))))))), ?_⟩
  have e1 : SPC.length = 1 := rfl
  have hj := lot_join_len ns
  have h1 : n.text.length ≤ 13 := num_len ⟨f1, f2, f3, f4⟩
  have f5' : lotLen ns ≤ 36 := f5
  have e0 : Str.empty ++ n.text = n.text := TL.ext_tl (by rw [TL.tl_append]; rfl)
  have e3 : WW.length = 3 := rfl
  have e4 : RP.length = 1 := rfl
  refine ⟨⟨_, rfl⟩, _, rfl, SPC, l, ns, rfl, rfl, .inr hl, by rw [e1]; unfold lotLen at f5'; omega, ?_⟩
  refine ⟨_, rfl, u, n, rfl, hn, f1, by omega, f3, by omega, .inl ⟨_, rfl, szl (by omega), _, rfl, ?_, WW, rfl, ?_, _, rfl, .inl ⟨_, rfl, szl (by omega), _, rfl, ?_, RP, rfl, ?_, ?_⟩⟩⟩
  · rw [e0]; exact szl (by omega)
  · rw [e0, append_len]; exact szl (by omega)
  · rw [e0, append_len, append_len]; exact szl (by omega)
  · rw [e0, append_len, append_len, append_len]; exact szl (by omega)
  · rw [e0]
    exact k
def spSideText (K : PySem.W.Frag) : Sp := fun vs H Q _ => ∃ (l : Addr) (us : List V) (ts : List Term), vs = [.ref l] ∧ SqT K H l us ∧ TermsAt K H us ts ∧ (∀ t ∈ ts, FitT t) ∧ ts.length ≤ 100 ∧ ∀ H', Same H H' → Q (.str (sideText ts)) H'
theorem sc_side_text : FnScope ["terms", "lot", "weight"] ["terms"] (defScope sside_text) := ⟨rfl, rfl, rfl, by decide +kernel, rfl, by decide +kernel, by decide +kernel⟩
theorem ok_side_text (D : Dn K mg "side_text" sside_text) (B : Ok P w K mg base L2.CX0 2 "term_text" ["lot", "weight"] (spTermText K)) (h_len : mg "len" = none) : Ok P w K mg base L2.CX0 3 "side_text" ["terms"] (spSideText K) := by
  obtain ⟨_, _, g_term_text, k_term_text, b_term_text, F_term_text⟩ := B.ex
  refine Ok.mk0 D sc_side_text (fun vs H Q E h => ?_) (fun _ _ _ _ _ _ us hl => match us, hl with | [_], _ => rfl) (fun f cdv A outer s H vs Q E hr h => ?_)
  · obtain ⟨l, us, ts, rfl, _⟩ := h
    rfl
  obtain ⟨l, us, ts, rfl, hl, hts, fit, small, k⟩ := h
  have nd := sc_side_text.nd
  refine ⟨_, (pss_cons (ps_if (pt_cmpR op_eq (pe_lenS rfl h_len (pv 0)) pe_int (nomark _))
    (pss_one (ps_ret pe_str))
    pss_nil)
  (pss_one (ps_ret (pe_join pe_str (pe_lc (own := [("lot", 1), ("weight", 2)]) (g := gTup K 2 (gCons (gName 1) (gCons (gName 2) gNil))) (tt := tYes) rfl nd (pi_tup (pv 0)) (blkOk_by (own := [("lot", 1), ("weight", 2)]) (N := ["terms", "lot", "weight"]) (sc := defScope sside_text) (by decide +kernel)) (fun _ _ _ _ _ => pg_tup (by rfl) (pgs_cons (pg_name (i := 1) nd rfl (Or.inl rfl)) (pgs_cons (pg_name (i := 2) nd rfl (Or.inl rfl)) pgs_nil))) (fun _ _ _ _ _ => pts_nil) (fun _ _ _ _ _ => (pe_call F_term_text hr rfl g_term_text k_term_text b_term_text .nil pass0 (pa_cons (pv 1) (pa_cons (pv 2) pa_nil))))))))), ?_⟩
  have len := paired_len hts
  refine ⟨_, rfl, l, _, rfl, .inr hl, rfl, _, rfl, ?_⟩
  by_cases h0 : ts.length = 0
  · refine iteE (by rw [deq_int]; exact decide_eq_true (by omega)) ?_
    have z := k H (Same.refl H)
    unfold sideText at z
    rw [if_pos h0] at z
    exact z
  · refine iteG (by rw [deq_int]; exact decide_eq_false (by omega)) ?_
    refine ⟨⟨_, rfl⟩, _, rfl, l, rfl, ⟨_, hl⟩, fun Z hZ => ?_⟩
    refine lc_each ts (fun v t _ => v = .str (termText t.1 t.2)) (fun _ _ _ _ _ h => h) hZ (by rw [sizeLine_eq]; omega) (fun i H1 hi s1 => ?_) (fun H1 s1 => ?_) ?_ ?_
    · exact ⟨_, _, same_seqT s1 hl, List.getElem?_eq_getElem (by omega)⟩
    · exact ⟨_, same_seqT s1 hl, by omega⟩
    · rintro i t x H1 H' F et s1 ⟨rfl, yx⟩ kk
      have e := yx _ (same_seqT s1 hl)
      obtain ⟨t', et', ht'⟩ := L2.paired_get hts e
      rw [et] at et'
      obtain rfl : t = t' := Option.some.inj et'
      obtain ⟨q, l2, u, rfl, hq, hl2, hn⟩ := ht'.keep (TK.of s1)
      refine ⟨q, _, rfl, hq, rfl, _, _, rfl, _, _, rfl, rfl, rfl, _, rfl, _, rfl, l2, u, t.1, t.2, rfl, SqT.of hl2, hn, fit t (List.mem_of_getElem? et), kk _ _ rfl (Same.refl _)⟩
    · intro acc H1 s1 eZ hacc
      have ea := paired_strs hacc
      subst ea
      have e3 : PL.length = 3 := rfl
      have q2 := sum_le (fun x : Str => x.length) 53 (ts.map fun t => termText t.1 t.2) fun x hx => by
        obtain ⟨t, ht, rfl⟩ := List.mem_map.mp hx
        exact term_len (fit t ht)
      rw [List.length_map] at q2
      refine ⟨PL, Z, _, rfl, rfl, .inl (SqL.of eZ), by rw [e3, List.length_map]; omega, ?_⟩
      have z := k H1 s1
      unfold sideText at z
      rw [if_neg h0] at z
      exact z
end
end K17
set_option maxHeartbeats 1000000
/-! ### min and max of a list of two texts -/
namespace Hx
open PySem PySem.Spec PyProof.Rows L2
section
variable {X : Cx}
def lessS (x y : Str) : Bool := decide (x.cps.toList < y.cps.toList)
def minS (x y : Str) : Str := if lessS y x then y else x
def maxS (x y : Str) : Str := if lessS x y then y else x
def rTwo (K : PySem.W.Frag) (f : Str → Str → Str) : List V → Hp → VK → Prop := fun vs H Q => ∃ (a : Addr) (x y : Str), vs = [V.ref a] ∧ SqL K H a [.str x, .str y] ∧ Q (.str (f x y)) H
theorem str_of_reads {h : Heap} {v : Value} {m : Str} {bs : List Addr} (r : Reads h v (.str m) bs) : ∃ t, v = .str m t := by
  cases r
  exact ⟨_, rfl⟩
theorem two_alike (x y : Str) : PySem.W.AlikeAll [.str x, .str y] := by
  refine ⟨fun a ha b hb => ?_, fun a ha => ?_⟩
  · simp at ha hb
    rcases ha with e | e <;> rcases hb with e2 | e2 <;> rw [e, e2] <;> rfl
  · simp at ha
    rcases ha with e | e <;> rw [e] <;> simp
theorem two_depth {A : Around} (x y : Str) (hu : A.units + 64 < cLine) : A.units + 1 + PyData.depthAll [.str x, .str y] < cLine := by
  have e : PyData.depthAll [.str x, .str y] = 0 := by simp [PyData.depthAll, PyData.depth]
  rw [e]
  omega
theorem cr_min2S (hc : X.calm = true) (hu : X.A.units + 64 < cLine) : CallR X (.builtin "min") (rTwo X.K minS) := by
  intro pins s σ H vs us Q I r h
  obtain ⟨a, x, y, rfl, hs, q⟩ := h
  obtain ⟨its, rv, pl, _⟩ := I.list hs
  rw [Vals.ref1 r]
  obtain ⟨as, ra⟩ := Dp.readsAll I [.str x, .str y] [.str x, .str y] its (.cons (.str x) (.cons (.str y) .nil)) rv
  refine PySem.W.min_list_data (vs := its.toArray) (I.ok.hd hc) pl.isList ra (two_alike x y) (two_depth x y hu) fun i v h' tk bs _ rd k => ?_
  have e : PySem.W.minD (.str x) [.str y] = .str (minS x y) := by
    show (if PySem.W.dataLt (.str y) (.str x) then PyData.str y else PyData.str x) = _
    rw [PySem.W.dataLt_str]
    unfold minS lessS
    split <;> rfl
  rw [e] at rd
  obtain ⟨t, rfl⟩ := str_of_reads rd
  exact ⟨.str _, H, I.kept (t' := tk) k, ⟨t, rfl⟩, q⟩
theorem cr_max2S (hc : X.calm = true) (hu : X.A.units + 64 < cLine) : CallR X (.builtin "max") (rTwo X.K maxS) := by
  intro pins s σ H vs us Q I r h
  obtain ⟨a, x, y, rfl, hs, q⟩ := h
  obtain ⟨its, rv, pl, _⟩ := I.list hs
  rw [Vals.ref1 r]
  obtain ⟨as, ra⟩ := Dp.readsAll I [.str x, .str y] [.str x, .str y] its (.cons (.str x) (.cons (.str y) .nil)) rv
  refine PySem.W.max_list_data (vs := its.toArray) (I.ok.hd hc) pl.isList ra (two_alike x y) (two_depth x y hu) fun i v h' tk bs _ rd k => ?_
  have e : PySem.W.maxD (.str x) [.str y] = .str (maxS x y) := by
    show (if PySem.W.dataLt (.str x) (.str y) then PyData.str y else PyData.str x) = _
    rw [PySem.W.dataLt_str]
    unfold maxS lessS
    split <;> rfl
  rw [e] at rd
  obtain ⟨t, rfl⟩ := str_of_reads rd
  exact ⟨.str _, H, I.kept (t' := tk) k, ⟨t, rfl⟩, q⟩
end
end Hx
set_option maxHeartbeats 1000000
/-! ### a text times a whole -/
namespace Hx
open PySem PySem.Spec PyProof.Rows L2
section
variable {X : Cx}
def mulS (x : Str) (n : Nat) : Str := ⟨(List.replicate n x.cps).foldl (· ++ ·) #[]⟩
theorem joined_size (z : Array Nat) : ∀ (n : Nat) (a : Array Nat), ((List.replicate n z).foldl (· ++ ·) a).size = a.size + n * z.size
  | 0, a => by simp
  | n + 1, a => by
    rw [List.replicate_succ, List.foldl_cons, joined_size z n (a ++ z), Array.size_append, Nat.succ_mul]
    omega
theorem mulS_length (x : Str) (n : Nat) : (mulS x n).length = n * x.length := by
  unfold mulS Str.length
  rw [joined_size]
  simp
theorem joined_toList (z : Array Nat) : ∀ (n : Nat) (a : Array Nat), ((List.replicate n z).foldl (· ++ ·) a).toList = a.toList ++ (List.replicate n z.toList).flatten
  | 0, a => by simp
  | n + 1, a => by
    rw [List.replicate_succ, List.foldl_cons, joined_toList z n (a ++ z), Array.toList_append, List.replicate_succ, List.flatten_cons, List.append_assoc]
theorem mulS_toList (x : Str) (n : Nat) : (mulS x n).cps.toList = (List.replicate n x.cps.toList).flatten := by
  unfold mulS
  rw [joined_toList]
  simp
/-- one sign, n times -/
theorem mulS_one (c n : Nat) : (mulS ⟨#[c]⟩ n).cps.toList = List.replicate n c := by
  rw [mulS_toList]
  simp
theorem op_mul_str : OpR X (binaryOp .Mult) (fun x y H Q => ∃ i n, x = .str i ∧ y = .int n ∧ 2 ≤ n ∧ n ≤ 4096 ∧ 1 ≤ i.length ∧ i.length ≤ 4096 ∧ Q (.str (mulS i n.toNat)) H) := by
  intro pins s σ H x y v u Q I rx ry h
  obtain ⟨i, n, rfl, rfl, h2, h3, l1, l2, q⟩ := h
  obtain ⟨t, rfl⟩ := rx
  obtain ⟨t', rfl⟩ := ry
  have e1 : ¬ n < 1 := by omega
  have e2 : (n == 1 || i.length == 0) = false := by
    rw [Bool.or_eq_false_iff]
    exact ⟨by simp; omega, by simp; omega⟩
  refine PySem.P.mul_str ?_ (fun _ _ => ?_) (fun _ _ => ?_) ?_
  · rw [Bool.or_eq_false_iff]
    exact ⟨decide_eq_false (by omega), decide_eq_false (by omega)⟩
  · have : (4096 : Int) ≤ (2 ^ 63 - 1) / n := (Int.le_ediv_iff_mul_le (by omega)).mpr (by omega)
    omega
  · have hm : i.length * n.toNat ≤ 4096 * 4096 := Nat.mul_le_mul l2 (by omega)
    unfold Builtin.Str.tooLong sizeLine
    simp
    omega
  · rw [if_neg e1, if_neg (by rw [e2]; decide)]
    refine ⟨?_, .str (mulS i n.toNat), H, I.tok _, ⟨_, rfl⟩, q⟩
    have hm : n.toNat * i.length ≤ 4096 * 4096 := Nat.mul_le_mul (by omega) l2
    have e := mulS_length i n.toNat
    unfold mulS at e
    rw [e]
    unfold sizeLine
    omega
end
end Hx
set_option maxHeartbeats 1000000
/-! ### f(k = v, ..): keywords only -/
namespace Hx
open PySem PySem.Spec PyProof.Rows L2
section
variable {X : Cx} {CX : CXT} {k : Nat} {f : Addr} {fd : FuncData} {ps ks : List Str} {sp : Sp} {E : XK} {x : Str} {p pos : Pos} {kws : List Keyword} {tk : TA} {g : List Value → List Value → List Value} {gV : List V → List V → List V}
theorem pe_callKw (F : FnOk X.prog X.w X.K X.mg X.base CX k f fd ps sp) (hr : Room k X.A) (hg : Gl X x) (hm : X.mg x = some (.ref f)) (hk : PySem.W.keepIn X.K (.ref f) = true) (hb : KBn X.K fd ps 0 ks g gV) (hx : Passes CX X E)
    (hkw : PK X kws tk) (hall : (backToKw pos (keywordEach kws X.env)).all (·.1.isSome) = true := by rfl) (hks : (backToKw pos (keywordEach kws X.env)).filterMap (·.1) = ks := by rfl) (hdb : (x == ("__debug__" : Str)) = false := by decide)
    (hpl : ((backTo pos (starEach [] X.env)).any (·.1) || (backToKw pos (keywordEach kws X.env)).any (·.1.isNone)) = false := by rfl) :
    PE X (.Call (.Name x p) [] kws pos) (fun σ H Q => tk σ H fun zs H2 => zs.length = ks.length ∧ sp (gV [] zs) H2 Q E) := by
  refine ⟨fun pins s σ H Q I h => ?_⟩
  refine wpAny_Call_Name_kw (ld_glob I hg hm ?_ hdb)
  refine PySem.W.callWith_KW0 (h₀ := X.base) I.ok.mod.kin hk hall ?_ hpl
  refine thn (hkw.run pos pins s σ H _ I h) fun ws s2 ⟨zs, H2, I2, rz, l2, q2⟩ => ⟨I2.kIn, ?_⟩
  rw [hks]
  exact run_fnN (us := []) (vs := []) F hr hb hx I2 .nil rz rfl l2 q2
/-- one parameter, no defaults, called by its name -/
theorem kb_one {K : PySem.W.Frag} {fd : FuncData} {q : Str} (h : ∀ (s : Shared) (u : Value), BindsTo s fd ⟨[], [(q, u)]⟩ [(q, u)]) : KBn K fd [q] 0 [q] (fun _ ws => ws) (fun _ zs => zs) where
  to := fun s us ws X l1 l2 => by
    match ws, l2 with
    | [u], _ =>
      obtain rfl : us = [] := List.length_eq_zero_iff.mp l1
      exact h s u
  rel := fun _ r => r
end
end Hx
set_option maxHeartbeats 1000000
namespace K17
open PySem PySem.Spec PyProof.Rows L2 Hx RZ
/-! ### right claims; their texts: the program -/
abbrev NL : Str := "\n"
structure RightC (taps : Lot) (L : List Term) : Prop where
  tp : tapsS taps = true
  canon : Canon L
  lots : ∀ t ∈ L, lotS taps t.1 = true
  fit : ∀ t ∈ L, t.2.top.natAbs < 10 ^ 6 ∧ t.2.low < 10 ^ 6 ∧ lotLen t.1 ≤ 36
  tlen : lotLen taps ≤ 36
  few : L.length ≤ 5
def claim0 (taps : Lot) (L : List Term) : Claim0 := .terms taps (L.map fun t => .right t.1 t.2)
theorem claim0_data (taps : Lot) (L : List Term) : (claim0 taps L).data = claimD taps L := by
  show PyData.tuple [lotD taps, .tuple ((L.map fun t => Term0.right t.1 t.2).map Term0.data)] = _
  rw [List.map_map]
  rfl
theorem riseL_of : ∀ {ls : List Lot}, Rise ls → riseL ls = true
  | [], _ => rfl
  | [_], _ => rfl
  | a :: b :: r, h => by
    have h1 : lotLt a b = true := (List.pairwise_cons.mp h).1 b List.mem_cons_self
    have ih := riseL_of (ls := b :: r) (List.pairwise_cons.mp h).2
    show (((a, b) :: ((b :: r).zip r)).all fun p => lotLt p.1 p.2) = true
    rw [List.all_cons]
    show (lotLt a b && _) = true
    rw [h1, Bool.true_and]
    exact ih
theorem names_sm {ns : List Str} (h : namesS ns = true) : ∀ x ∈ ns, x.length ≤ 8 := fun x hx => by
  unfold namesS at h
  rw [Bool.and_eq_true] at h
  have q := List.all_eq_true.mp h.1 x hx
  unfold nameS at q
  simp only [Bool.and_eq_true, decide_eq_true_eq] at q
  omega
theorem taps_few {taps : Lot} (h : tapsS taps = true) : 2 ≤ taps.length ∧ taps.length ≤ 6 ∧ namesS taps = true := by
  unfold tapsS at h
  rw [Bool.and_eq_true, Bool.and_eq_true, decide_eq_true_eq, decide_eq_true_eq] at h
  exact ⟨h.2.1, h.2.2, h.1⟩
theorem taps_sm {taps : Lot} (h : tapsS taps = true) : Sm taps := by
  obtain ⟨_, h2, h3⟩ := taps_few h
  exact ⟨by omega, fun x hx => by have := names_sm h3 x hx; omega⟩
theorem lot_few {taps l : Lot} (h : lotS taps l = true) : namesS l = true ∧ 1 ≤ l.length ∧ l.length < taps.length ∧ ∀ x ∈ l, x ∈ taps := by
  unfold lotS at h
  rw [Bool.and_eq_true, Bool.and_eq_true, Bool.and_eq_true, decide_eq_true_eq, decide_eq_true_eq] at h
  exact ⟨h.1.1, h.1.2.1, h.1.2.2, fun x hx => of_decide_eq_true (List.all_eq_true.mp h.2 x hx)⟩
theorem lot_ne {taps l : Lot} (h : lotS taps l = true) : l ≠ [] := by
  obtain ⟨_, q, _⟩ := lot_few h
  intro e
  rw [e] at q
  simp at q
theorem lot_sm {taps l : Lot} (tp : tapsS taps = true) (h : lotS taps l = true) : Sm l := by
  obtain ⟨h1, _, h3, _⟩ := lot_few h
  have := (taps_few tp).2.1
  exact ⟨by omega, fun x hx => by have := names_sm h1 x hx; omega⟩
theorem right_ok {taps : Lot} {L : List Term} (h : RightC taps L) : (claim0 taps L).ok = true := by
  show (tapsS taps && ((L.map fun t => Term0.right t.1 t.2).all (Term0.good taps) && riseL ((L.map fun t => Term0.right t.1 t.2).map Term0.lot))) = true
  have e : (L.map fun t => Term0.right t.1 t.2).map Term0.lot = L.map (·.1) := by
    rw [List.map_map]
    rfl
  rw [h.tp, e, riseL_of h.canon.rise, Bool.and_true, Bool.true_and, List.all_map, List.all_eq_true]
  intro t ht
  show ((lotS taps t.1 && t.2.ok) && nz t.2) = true
  rw [h.lots t ht, h.canon.ok t ht]
  exact decide_eq_true (h.canon.nz t ht)
theorem right_fit {taps : Lot} {L : List Term} (h : RightC taps L) : (claim0 taps L).fit := by
  refine ⟨taps_sm h.tp, by rw [List.length_map]; have := h.few; omega, fun r hr => ?_⟩
  obtain ⟨t, ht, rfl⟩ := List.mem_map.mp hr
  exact lot_sm h.tp (h.lots t ht)
theorem fit_great {taps : Lot} {L : List Term} (h : RightC taps L) : ∀ t ∈ greatT L, FitT t := fun t ht => by
  obtain ⟨m, p⟩ := List.mem_filter.mp ht
  have p' : 0 < t.2.top := of_decide_eq_true p
  obtain ⟨f1, f2, f3⟩ := h.fit t m
  have := low_pos (h.canon.ok t m)
  exact ⟨⟨by omega, by omega, by omega, f2⟩, f3⟩
theorem fit_less {taps : Lot} {L : List Term} (h : RightC taps L) : ∀ t ∈ lessT L, FitT t := fun t ht => by
  obtain ⟨u, hu, rfl⟩ := List.mem_map.mp ht
  obtain ⟨m, p⟩ := List.mem_filter.mp hu
  have p' : u.2.top < 0 := of_decide_eq_true p
  obtain ⟨f1, f2, f3⟩ := h.fit u m
  have := low_pos (h.canon.ok u m)
  show FitN (turnN u.2) ∧ _
  unfold FitN
  rw [turn_top, turn_low]
  exact ⟨⟨by omega, by omega, by omega, f2⟩, f3⟩
theorem great_few (L : List Term) : (greatT L).length ≤ L.length := List.length_filter_le _ _
theorem less_few (L : List Term) : (lessT L).length ≤ L.length := by
  unfold lessT
  rw [List.length_map]
  exact List.length_filter_le _ _
theorem claim_len {taps : Lot} {L : List Term} (h : RightC taps L) : (claimText taps L).length ≤ 700 := by
  have h1 := side_len (fit_great h)
  have h2 := side_len (fit_less h)
  have h3 := great_few L
  have h4 := less_few L
  have h5 := h.few
  have h6 := lot_join_len taps
  have h7 := h.tlen
  unfold claimText
  rw [append_len, append_len, append_len, append_len]
  have : CO.length = 2 := rfl
  have : GE.length = 4 := rfl
  omega
section
variable {P : Program} {w : World} {K : PySem.W.Frag} {mg : Str → Option Value} {base : Heap}
def spTextIn (K : PySem.W.Frag) : Sp := fun vs H Q _ => ∃ (v : V) (taps : Lot) (L : List Term), vs = [v] ∧ ClaimAt K H v taps L ∧ RightC taps L ∧ ∀ H', Same H H' → Q (.str (claimText taps L)) H'
theorem sc_text_in : FnScope ["claim", "taps"] ["claim"] (defScope stext_in) := ⟨rfl, rfl, rfl, by decide +kernel, rfl, by decide +kernel, by decide +kernel⟩
theorem ok_text_in (D : Dn K mg "text_in" stext_in) (B0 : Ok P w K mg base L2.CX0 3 "side_text" ["terms"] (spSideText K)) (B1 : Ok P w K mg base L2.CX0 2 "greater_terms" ["claim"] (spSome K greatT)) (B2 : Ok P w K mg base L2.CX0 2 "lesser_terms" ["claim"] (spSome K lessT)) :
    Ok P w K mg base L2.CX0 4 "text_in" ["claim"] (spTextIn K) := by
  obtain ⟨_, _, g_side_text, k_side_text, b_side_text, F_side_text⟩ := B0.ex
  obtain ⟨_, _, g_greater_terms, k_greater_terms, b_greater_terms, F_greater_terms⟩ := B1.ex
  obtain ⟨_, _, g_lesser_terms, k_lesser_terms, b_lesser_terms, F_lesser_terms⟩ := B2.ex
  refine Ok.mk0 D sc_text_in (fun vs H Q E h => ?_) (fun _ _ _ _ _ _ us hl => match us, hl with | [_], _ => rfl) (fun f cdv A outer s H vs Q E hr h => ?_)
  · obtain ⟨v, taps, L, rfl, _⟩ := h
    rfl
  obtain ⟨v, taps, L, rfl, hc, rc, k⟩ := h
  have nd := sc_text_in.nd
  have hr2 := hr.mono (show 2 ≤ 3 by decide)
  refine ⟨_, (pss_cons (ps_set (i := 1) nd rfl (Or.inl rfl) (pe_join pe_str (pe_ix ix_tup (pv 0) pe_int (fun _ _ => rfl))))
  (pss_one (ps_ret (pe_joined (.cons (pe_fmt (pv 1)) (.cons pe_str (.cons (pe_fmt (pe_call F_side_text hr rfl g_side_text k_side_text b_side_text .nil pass0 (pa_cons (pe_call F_greater_terms hr2 rfl g_greater_terms k_greater_terms b_greater_terms .nil pass0 (pa_cons (pv 0) pa_nil)) pa_nil))) (.cons pe_str (.cons (pe_fmt (pe_call F_side_text hr rfl g_side_text k_side_text b_side_text .nil pass0 (pa_cons (pe_call F_lesser_terms hr2 rfl g_lesser_terms k_lesser_terms b_lesser_terms .nil pass0 (pa_cons (pv 0) pa_nil)) pa_nil))) .nil))))))))), ?_⟩
  have h1 := side_len (fit_great rc)
  have h2 := side_len (fit_less rc)
  have h3 := great_few L
  have h4 := less_few L
  have h5 := rc.few
  have h6 := lot_join_len taps
  have h7 := rc.tlen
  have e1 : SPC.length = 1 := rfl
  have e2 : CO.length = 2 := rfl
  have e4 : GE.length = 4 := rfl
  have e0 : Str.empty ++ Txt.join SPC taps = Txt.join SPC taps := TL.ext_tl (by rw [TL.tl_append]; rfl)
  obtain ⟨a, t, l, us, rfl, ha, ht, hl, hts⟩ := id hc
  refine ⟨⟨_, rfl⟩, _, rfl, a, _, 0, _, rfl, rfl, ha, rfl, SPC, t, taps, rfl, rfl, .inr ht, by rw [e1]; unfold lotLen at h7; omega, ?_⟩
  refine ⟨_, rfl, .inl ⟨_, rfl, szl (by omega), _, rfl, by rw [e0]; exact szl (by omega), CO, rfl, by rw [e0, append_len]; exact szl (by omega), ?_⟩⟩
  rw [e0]
  refine ⟨_, rfl, _, taps, L, rfl, hc, by omega, fun p1 us1 H1 s1 hp1 ht1 => ?_⟩
  refine ⟨p1, us1, _, rfl, hp1, ht1, fit_great rc, by omega, fun H2 s2 => .inl ⟨_, rfl, szl (by omega), _, rfl, by rw [append_len, append_len]; exact szl (by omega), GE, rfl, by rw [append_len, append_len, append_len]; exact szl (by omega), ?_⟩⟩
  have s12 := s1.trans s2
  refine ⟨_, rfl, _, taps, L, rfl, hc.keep (.of s12), by omega, fun p2 us2 H3 s3 hp2 ht2 => ?_⟩
  refine ⟨p2, us2, _, rfl, hp2, ht2, fit_less rc, by omega, fun H4 s4 => .inl ⟨_, rfl, szl (by omega), _, rfl, by rw [append_len, append_len, append_len, append_len]; exact szl (by omega), ?_⟩⟩
  exact k H4 (s12.trans (s3.trans s4))
def spClaimText (K : PySem.W.Frag) (C : Addr) : Sp := fun vs H Q E => ∃ v : V, vs = [v] ∧ ((∃ c : Claim0, Dp K H v c.data ∧ c.fit ∧ c.ok = false ∧ ∀ H', Same H H' → E (.ref C) none H') ∨ ∃ (taps : Lot) (L : List Term), ClaimAt K H v taps L ∧ RightC taps L ∧ ∀ H', Same H H' → Q (.str (claimText taps L)) H')
theorem sc_claim_text : FnScope ["claim"] ["claim"] (defScope sclaim_text) := ⟨rfl, rfl, rfl, by decide +kernel, rfl, by decide +kernel, by decide +kernel⟩
theorem ok_claim_text {C : Addr} (D : Dn K mg "claim_text" sclaim_text) (B0 : Ok P w K mg base (L2.CX P w) 7 "check_claim" ["claim"] (spCheckC K C)) (B1 : Ok P w K mg base L2.CX0 4 "text_in" ["claim"] (spTextIn K)) :
    Ok P w K mg base (L2.CX P w) 8 "claim_text" ["claim"] (spClaimText K C) := by
  obtain ⟨_, _, g_check_claim, k_check_claim, b_check_claim, F_check_claim⟩ := B0.ex
  obtain ⟨_, _, g_text_in, k_text_in, b_text_in, F_text_in⟩ := B1.ex
  refine Ok.mkX D sc_claim_text (fun vs H Q E h => ?_) (fun _ _ _ _ _ _ us hl => match us, hl with | [_], _ => rfl) (fun f cdv A outer s H vs Q E hr h => ?_)
  · obtain ⟨v, rfl, _⟩ := h
    rfl
  obtain ⟨v, rfl, h⟩ := h
  have hr4 := hr.mono (show 4 ≤ 7 by decide)
  refine ⟨_, (pss_cons (ps_expr (pe_callS F_check_claim hr rfl g_check_claim k_check_claim b_check_claim (fun σ => passAt (takes_of rfl rfl rfl rfl) σ) (pa_cons (pv 0) pa_nil)))
    (PSs.nox (pss_one (ps_ret (pe_call F_text_in hr4 rfl g_text_in k_text_in b_text_in .nil pass0 (pa_cons (pv 0) pa_nil)))))), ?_⟩
  rcases h with ⟨c, hd, fit, no, k⟩ | ⟨taps, L, hc, rc, k⟩
  · exact ⟨_, rfl, v, c, rfl, hd, fit, fun H' s => by rw [if_neg (by rw [no]; decide)]; exact k H' s⟩
  · refine ⟨_, rfl, v, claim0 taps L, rfl, by rw [claim0_data]; exact hc.dp, right_fit rc, fun H' s => ?_⟩
    rw [if_pos (right_ok rc)]
    exact ⟨_, rfl, v, taps, L, rfl, hc.keep (.of s), rc, fun H2 s2 => k H2 (s.trans s2)⟩
end
end K17
set_option maxHeartbeats 1000000
namespace K17
open PySem PySem.Spec PyProof.Rows L2 Hx RZ
/-! ### claims_text, claim_of: the program -/
/-- of another kind than lists and tuples -/
def NoSeq (K : PySem.W.Frag) (H : Hp) (v : V) : Prop := ∃ T : String, TyX K H v (.type T) ∧ (T = "NoneType" ∨ T = "int" ∨ T = "bool" ∨ T = "str" ∨ T = "dict")
theorem kit_no {K : PySem.W.Frag} {T : String} (h : T = "NoneType" ∨ T = "int" ∨ T = "bool" ∨ T = "str" ∨ T = "dict") : PySem.W.kitAny K (.type T) [.type "list", .type "tuple"] = some false := by
  refine kitAny_cons (b := false) (kit_ty ?_) (fun _ => kitAny_cons (b := false) (kit_ty ?_) (fun _ => kitAny_nil) fun z => by cases z) fun z => by cases z
  · rcases h with rfl | rfl | rfl | rfl | rfl <;> decide +kernel
  · rcases h with rfl | rfl | rfl | rfl | rfl <;> decide +kernel
theorem kit_list {K : PySem.W.Frag} : PySem.W.kitAny K (.type "list") [.type "list", .type "tuple"] = some true :=
  kitAny_cons (b := true) (kit_ty (by decide +kernel)) (fun z => by cases z) fun _ => rfl
theorem kit_tuple {K : PySem.W.Frag} : PySem.W.kitAny K (.type "tuple") [.type "list", .type "tuple"] = some true :=
  kitAny_cons (b := false) (kit_ty (by decide +kernel)) (fun _ => kitAny_cons (b := true) (kit_ty (by decide +kernel)) (fun z => by cases z) fun _ => rfl) fun z => by cases z
theorem tyX_list {K : PySem.W.Frag} {H : Hp} {a : Addr} {xs : List V} (h : SqL K H a xs) : TyX K H (.ref a) (.type "list") := by
  rcases h with (h | ⟨o, h⟩) | ⟨o, _, _, h, c, _⟩
  · exact .base (.lst h)
  · exact .base (.frz h)
  · exact .kList h c
theorem tyX_tup {K : PySem.W.Frag} {H : Hp} {a : Addr} {xs : List V} (h : SqT K H a xs) : TyX K H (.ref a) (.type "tuple") := by
  rcases h with (h | ⟨o, h⟩) | ⟨o, _, _, h, c, _⟩
  · exact .base (.tup h)
  · exact .fTuple h
  · exact .kTuple h c
theorem tyX_same {K : PySem.W.Frag} {H H' : Hp} {v t : V} {T : Value} (s : Same H H') (h : TyX K H v T) : TyX K H' v T := by
  cases h with
  | base h =>
    refine .base ?_
    cases h with
    | non => exact .non
    | bl x => exact .bl x
    | int i => exact .int i
    | str x => exact .str x
    | flt x => exact .flt x
    | lst e => exact .lst (s _ _ e)
    | frz e => exact .frz (s _ _ e)
    | tup e => exact .tup (s _ _ e)
    | dK e => exact .dK (s _ _ e)
    | dT e => exact .dT (s _ _ e)
    | ins e a b c d f => exact .ins (s _ _ e) a b c d f
  | byt b => exact .byt b
  | set e => exact .set (s _ _ e)
  | kList e c => exact .kList e c
  | kTuple e c => exact .kTuple e c
  | kDict e c => exact .kDict e c
  | fTuple e => exact .fTuple (s _ _ e)
  | fDict e => exact .fDict (s _ _ e)
abbrev twoCls : List V := [.ty "list", .ty "tuple"]
theorem two_cls : Paired ClsV twoCls [.type "list", .type "tuple"] := .cons (.ty _) (.cons (.ty _) .nil)
def claimsText (cl : List (Lot × List Term)) : Str := Txt.join "" (cl.map fun c => claimText c.1 c.2 ++ NL)
section
variable {P : Program} {w : World} {K : PySem.W.Frag} {mg : Str → Option Value} {base : Heap}
/-- a list or a tuple of values -/
def SqAny (K : PySem.W.Frag) (H : Hp) (a : Addr) (us : List V) : Prop := SqL K H a us ∨ SqT K H a us
theorem SqAny.same {H H' : Hp} {a : Addr} {us : List V} (s : Same H H') : SqAny K H a us → SqAny K H' a us
  | .inl h => .inl (same_seqL s h)
  | .inr h => .inr (same_seqT s h)
theorem SqAny.ty {H : Hp} {a : Addr} {us : List V} : SqAny K H a us → ∃ T : String, TyX K H (.ref a) (.type T) ∧ PySem.W.kitAny K (.type T) [.type "list", .type "tuple"] = some true
  | .inl h => ⟨_, tyX_list h, kit_list⟩
  | .inr h => ⟨_, tyX_tup h, kit_tuple⟩
def spClaimsText (K : PySem.W.Frag) (C : Addr) : Sp := fun vs H Q E => ∃ v : V, vs = [v] ∧ ((NoSeq K H v ∧ ∀ H', Same H H' → E (.ref C) none H') ∨
  (∃ (a : Addr) (us : List V) (cs : List Claim0), v = .ref a ∧ SqAny K H a us ∧ Paired (fun v c => Dp K H v c.data) us cs ∧ (∀ c ∈ cs, c.fit) ∧ cs.length ≤ 1000 ∧ cs.all Claim0.ok = false ∧ ∀ H', Same H H' → E (.ref C) none H') ∨
  ∃ (a : Addr) (us : List V) (cl : List (Lot × List Term)), v = .ref a ∧ SqAny K H a us ∧ Paired (fun v c => ClaimAt K H v c.1 c.2) us cl ∧ (∀ c ∈ cl, RightC c.1 c.2) ∧ cl.length ≤ 1000 ∧ ∀ H', Same H H' → Q (.str (claimsText cl)) H')
theorem sc_claims_text : FnScope ["claims", "claim"] ["claims"] (defScope sclaims_text) := ⟨rfl, rfl, rfl, by decide +kernel, rfl, by decide +kernel, by decide +kernel⟩
theorem ok_claims_text {C : Addr} (T : OwnE K mg "BadClaims" C) (D : Dn K mg "claims_text" sclaims_text) (B0 : Ok P w K mg base L2.CX0 6 "is_claim" ["value"] (spClaim0 K)) (B1 : Ok P w K mg base L2.CX0 4 "text_in" ["claim"] (spTextIn K))
    (h_isinstance : mg "isinstance" = none) (h_list : mg "list" = none) (h_tuple : mg "tuple" = none) (h_all : mg "all" = none) :
    Ok P w K mg base (L2.CX P w) 7 "claims_text" ["claims"] (spClaimsText K C) := by
  obtain ⟨_, _, g_is_claim, k_is_claim, b_is_claim, F_is_claim⟩ := B0.ex
  obtain ⟨_, _, g_text_in, k_text_in, b_text_in, F_text_in⟩ := B1.ex
  obtain ⟨b0, nI, iI, bm, fx, qx⟩ := T.q
  refine Ok.mkX D sc_claims_text (fun vs H Q E h => ?_) (fun _ _ _ _ _ _ us hl => match us, hl with | [_], _ => rfl) (fun f cdv A outer s H vs Q E hr h => ?_)
  · obtain ⟨v, rfl, _⟩ := h
    rfl
  obtain ⟨v, rfl, h⟩ := h
  have nd := sc_claims_text.nd
  have hr4 := hr.mono (show 4 ≤ 6 by decide)
  refine ⟨_, (pss_cons (ps_if (PT.nox (PW.pt (pw_or (pt_not (pt_val (pe_callB call_isiT (by rfl) h_isinstance (by decide +kernel) (pa_cons (pv 0) (pa_cons (pe_tup (pa_cons (pe_bltn (v := .ty "list") (by rfl) h_list (by decide +kernel) rfl) (pa_cons (pe_bltn (v := .ty "tuple") (by rfl) h_tuple (by decide +kernel) rfl) pa_nil))) pa_nil))))) (pw_or1 (pt_not (pt_val (pe_callB (cr_all rfl) (by rfl) h_all (by decide +kernel) (pa_cons (pe_lc (own := [("claim", 1)]) (g := gName 1) (tt := tYes) rfl nd (pi_seq (pv 0)) (blkOk_by (own := [("claim", 1)]) (N := ["claims", "claim"]) (sc := defScope sclaims_text) (by decide +kernel)) (fun _ _ _ _ _ => pg_name (i := 1) nd rfl (Or.inl rfl)) (fun _ _ _ _ _ => pts_nil) (fun _ _ _ _ _ => (pe_call F_is_claim hr rfl g_is_claim k_is_claim b_is_claim .nil pass0 (pa_cons (pv 1) pa_nil)))) pa_nil))))))))
    (pss_one (ps_raise rfl (takes_of rfl rfl rfl rfl) (pmk_own fx qx T.g T.k (raises_own T.b T.t) (by exact rfl))))
    pss_nil)
  (PSs.nox (pss_one (ps_ret (pe_join pe_str (pe_lc (own := [("claim", 1)]) (g := gName 1) (tt := tYes) rfl nd (pi_seq (pv 0)) (blkOk_by (own := [("claim", 1)]) (N := ["claims", "claim"]) (sc := defScope sclaims_text) (by decide +kernel)) (fun _ _ _ _ _ => pg_name (i := 1) nd rfl (Or.inl rfl)) (fun _ _ _ _ _ => pts_nil) (fun _ _ _ _ _ => (pe_op op_add_str (pe_call F_text_in hr4 rfl g_text_in k_text_in b_text_in .nil pass0 (pa_cons (pv 1) pa_nil)) pe_str)))))))), ?_⟩
  have two : (2 : Nat) ≤ sizeLine := by rw [sizeLine_eq]; decide
  rcases h with ⟨⟨ty, hty, hT⟩, k⟩ | h
  · refine ⟨_, rfl, two, fun p hp => ?_⟩
    have s1 := same_upd (o := .tup twoCls) hp
    exact ⟨_, p, _, _, _, _, rfl, upd_same, two_cls, tyX_same (t := .non) s1 hty, kit_no hT, _, rfl, iteT (k _ s1)⟩
  obtain ⟨a, us, cs, rfl, ha, hcs, fit, few, kk⟩ : ∃ (a : Addr) (us : List V) (cs : List Claim0), v = .ref a ∧ SqAny K H a us ∧ Paired (fun v c => Dp K H v c.data) us cs ∧ (∀ c ∈ cs, c.fit) ∧ cs.length ≤ 1000 ∧
      ((cs.all Claim0.ok = false ∧ ∀ H', Same H H' → E (.ref C) none H') ∨ (cs.all Claim0.ok = true ∧ ∃ cl : List (Lot × List Term), Paired (fun v c => ClaimAt K H v c.1 c.2) us cl ∧ (∀ c ∈ cl, RightC c.1 c.2) ∧ cl.length = cs.length ∧ ∀ H', Same H H' → Q (.str (claimsText cl)) H')) := by
    rcases h with ⟨a, us, cs, e, ha, hcs, fit, few, no, k⟩ | ⟨a, us, cl, e, ha, hcl, rc, few, k⟩
    · exact ⟨a, us, cs, e, ha, hcs, fit, few, .inl ⟨no, k⟩⟩
    · refine ⟨a, us, cl.map fun c => claim0 c.1 c.2, e, ha, paired_map (paired_imp hcl fun v c h => by rw [claim0_data]; exact h.dp), fun c hc => ?_, by rw [List.length_map]; exact few, .inr ⟨?_, cl, hcl, rc, by rw [List.length_map], k⟩⟩
      · obtain ⟨d, hd, rfl⟩ := List.mem_map.mp hc
        exact right_fit (rc d hd)
      · rw [List.all_map, List.all_eq_true]
        exact fun d hd => right_ok (rc d hd)
  have hlen := paired_len hcs
  refine ⟨_, rfl, two, fun p hp => ?_⟩
  have s1 := same_upd (o := .tup twoCls) hp
  obtain ⟨ty, hty, hT⟩ := (SqAny.same s1 ha).ty
  refine ⟨_, p, _, _, _, _, rfl, upd_same, two_cls, hty, hT, _, rfl, iteF ?_⟩
  have ha1 := SqAny.same s1 ha
  refine ⟨_, rfl, a, us, rfl, ?_⟩
  rcases ha1 with hq | hq
  all_goals
    first | refine .inl ⟨hq, fun Z hZ => ?_⟩ | refine .inr ⟨hq, fun Z hZ => ?_⟩
    refine lc_each cs (fun v c _ => v = .bl c.ok) (fun _ _ _ _ _ h => h) hZ (by rw [sizeLine_eq]; omega) (fun i H2 hi s2 => ?_) (fun H2 s2 => ?_) ?_ ?_
    · first | exact ⟨_, _, same_seqL s2 hq, List.getElem?_eq_getElem (by omega)⟩ | exact ⟨_, _, same_seqT s2 hq, List.getElem?_eq_getElem (by omega)⟩
    · first | exact ⟨_, same_seqL s2 hq, by omega⟩ | exact ⟨_, same_seqT s2 hq, by omega⟩
    · rintro i c x H2 H' F hc' s2 ⟨rfl, yx⟩ kF
      have e : us[i]? = some x := by first | exact yx _ (same_seqL s2 hq) | exact yx _ (same_seqT s2 hq)
      obtain ⟨c', ec, hd⟩ := L2.paired_get hcs e
      rw [hc'] at ec
      obtain rfl : c = c' := Option.some.inj ec
      exact ⟨rfl, _, rfl, x, c, rfl, dp_same (s1.trans s2) hd, fit c (List.mem_of_getElem? hc'), fun H4 s4 => kF _ _ rfl s4⟩
    · intro acc H2 s2 eZ hacc
      have eb := paired_bools hacc
      subst eb
      refine ⟨Z, _, rfl, SqL.of eZ, _, rfl, ?_⟩
      have ea : (cs.map Claim0.ok).all id = cs.all Claim0.ok := by rw [List.all_map]; rfl
      rw [ea]
      have s12 := s1.trans s2
      rcases kk with ⟨no, k⟩ | ⟨yes, cl, hcl, rc, lcl, k⟩
      · rw [no]
        exact iteT (k _ s12)
      · rw [yes]
        refine iteF ⟨⟨_, rfl⟩, _, rfl, a, us, rfl, ?_⟩
        first | refine .inl ⟨same_seqL s2 hq, fun Z2 hZ2 => ?_⟩ | refine .inr ⟨same_seqT s2 hq, fun Z2 hZ2 => ?_⟩
        refine lc_each cl (fun v c _ => v = .str (claimText c.1 c.2 ++ NL)) (fun _ _ _ _ _ h => h) hZ2 (by rw [sizeLine_eq]; omega) (fun i H3 hi s3 => ?_) (fun H3 s3 => ?_) ?_ ?_
        · first | exact ⟨_, _, same_seqL (s2.trans s3) hq, List.getElem?_eq_getElem (by omega)⟩ | exact ⟨_, _, same_seqT (s2.trans s3) hq, List.getElem?_eq_getElem (by omega)⟩
        · first | exact ⟨_, same_seqL (s2.trans s3) hq, by omega⟩ | exact ⟨_, same_seqT (s2.trans s3) hq, by omega⟩
        · rintro i c x H3 H' F hc' s3 ⟨rfl, yx⟩ kF
          have e : us[i]? = some x := by first | exact yx _ (same_seqL (s2.trans s3) hq) | exact yx _ (same_seqT (s2.trans s3) hq)
          obtain ⟨c', ec, hd⟩ := L2.paired_get hcl e
          rw [hc'] at ec
          obtain rfl : c = c' := Option.some.inj ec
          have rcc := rc c (List.mem_of_getElem? hc')
          have e2 := claim_len rcc
          refine ⟨rfl, _, rfl, x, c.1, c.2, rfl, hd.keep (.of (s12.trans s3)), rcc, fun H4 s4 => ⟨_, NL, rfl, rfl, ?_, kF _ _ rfl s4⟩⟩
          have e3 : NL.length = 1 := rfl
          exact szl (by omega)
        · intro acc H3 s3 eZ2 hacc2
          have ec := paired_strs hacc2
          subst ec
          refine ⟨"", Z2, _, rfl, rfl, .inl (SqL.of eZ2), ?_, k _ (s12.trans s3)⟩
          have e4 : (Str.ofString "").length = 0 := rfl
          have q := sum_le (fun x : Str => x.length) 701 (cl.map fun c => claimText c.1 c.2 ++ NL) fun x hx => by
            obtain ⟨c, hc, rfl⟩ := List.mem_map.mp hx
            have := claim_len (rc c hc)
            have e3 : NL.length = 1 := rfl
            rw [append_len]
            omega
          rw [List.length_map] at q
          rw [e4]
          omega
end
end K17
set_option maxHeartbeats 1000000
namespace K17
open PySem PySem.Spec PyProof.Rows L2 Hx RZ
/-! ### claim_of: the program -/
section
variable {P : Program} {w : World} {K : PySem.W.Frag} {mg : Str → Option Value} {base : Heap}
def spCheckT (K : PySem.W.Frag) : Sp := fun vs H Q E => ∃ (t : Addr) (taps : Lot), vs = [.ref t] ∧ SqT K H t (taps.map V.str) ∧ tapsS taps = true ∧ ∀ H', Same H H' → Q .non H'
theorem sc_check_taps : FnScope ["taps"] ["taps"] (defScope scheck_taps) := ⟨rfl, rfl, rfl, by decide +kernel, rfl, by decide +kernel, by decide +kernel⟩
theorem ok_check_taps {C : Addr} (T : OwnE K mg "BadTaps" C) (D : Dn K mg "check_taps" scheck_taps) (B : Ok P w K mg base L2.CX0 3 "are_taps" ["value"] (spNames K tapsS)) : Ok P w K mg base (L2.CX P w) 4 "check_taps" ["taps"] (spCheckT K) := by
  obtain ⟨_, _, g_are_taps, k_are_taps, b_are_taps, F_are_taps⟩ := B.ex
  obtain ⟨b0, nI, iI, bm, fx, qx⟩ := T.q
  refine Ok.mkX D sc_check_taps (fun vs H Q E h => ?_) (fun _ _ _ _ _ _ us hl => match us, hl with | [_], _ => rfl) (fun f cdv A outer s H vs Q E hr h => ?_)
  · obtain ⟨t, taps, rfl, _⟩ := h
    rfl
  refine ⟨_, (pss_one (ps_if (pt_not (pt_val (pe_call F_are_taps hr rfl g_are_taps k_are_taps b_are_taps .nil pass0 (pa_cons (pv 0) pa_nil))))
    (pss_one (ps_raise rfl (takes_of rfl rfl rfl rfl) (pmk_own fx qx T.g T.k (raises_own T.b T.t) (by exact rfl))))
    pss_nil)), ?_⟩
  obtain ⟨t, taps, rfl, ht, tp, k⟩ := h
  refine ⟨_, rfl, _, rfl, .inl ⟨t, taps, rfl, ht, taps_sm tp, fun H1 s1 => ⟨_, rfl, ?_⟩⟩⟩
  rw [tp]
  exact iteF (k H1 s1)
def spClaimOf (K : PySem.W.Frag) : Sp := fun vs H Q E => ∃ (t l : Addr) (taps : Lot) (us : List V) (ts : List Term), vs = [.ref t, .ref l] ∧ SqT K H t (taps.map V.str) ∧ tapsS taps = true ∧ SqL K H l us ∧ TermsAt K H us ts ∧ OkT ts ∧ (∀ x ∈ ts, lotS taps x.1 = true) ∧ tot ts ≤ 4300 ∧
  ∀ v H', Same H H' → ClaimAt K H' v taps (gathT ts) → Q v H'
theorem sc_claim_of : FnScope ["taps", "terms", "term"] ["taps", "terms"] (defScope sclaim_of) := ⟨rfl, rfl, rfl, by decide +kernel, rfl, by decide +kernel, by decide +kernel⟩
theorem ok_claim_of {C : Addr} (T : OwnE K mg "BadTerms" C) (D : Dn K mg "claim_of" sclaim_of) (B0 : Ok P w K mg base (L2.CX P w) 4 "check_taps" ["taps"] (spCheckT K)) (B1 : Ok P w K mg base L2.CX0 4 "is_term" ["taps", "value"] (spTerm K)) (B2 : Ok P w K mg base L2.CX0 3 "summed" ["taps", "terms"] (spGath K))
    (h_isinstance : mg "isinstance" = none) (h_list : mg "list" = none) (h_tuple : mg "tuple" = none) (h_all : mg "all" = none) :
    Ok P w K mg base (L2.CX P w) 5 "claim_of" ["taps", "terms"] (spClaimOf K) := by
  obtain ⟨_, _, g_check_taps, k_check_taps, b_check_taps, F_check_taps⟩ := B0.ex
  obtain ⟨_, _, g_is_term, k_is_term, b_is_term, F_is_term⟩ := B1.ex
  obtain ⟨_, _, g_summed, k_summed, b_summed, F_summed⟩ := B2.ex
  obtain ⟨b0, nI, iI, bm, fx, qx⟩ := T.q
  refine Ok.mkX D sc_claim_of (fun vs H Q E h => ?_) (fun _ _ _ _ _ _ us hl => match us, hl with | [_, _], _ => rfl) (fun f cdv A outer s H vs Q E hr h => ?_)
  · obtain ⟨t, l, taps, us, ts, rfl, _⟩ := h
    rfl
  obtain ⟨t, l, taps, us, ts, rfl, ht, tp, hl, hts, ok, lots, small, k⟩ := h
  have nd := sc_claim_of.nd
  have hr3 := hr.mono (show 3 ≤ 4 by decide)
  refine ⟨_, (pss_cons (ps_expr (pe_callS F_check_taps hr rfl g_check_taps k_check_taps b_check_taps (fun σ => passAt (takes_of rfl rfl rfl rfl) σ) (pa_cons (pv 0) pa_nil)))
  (pss_cons (ps_if (PT.nox (PW.pt (pw_or (pt_not (pt_val (pe_callB call_isiT (by rfl) h_isinstance (by decide +kernel) (pa_cons (pv 1) (pa_cons (pe_tup (pa_cons (pe_bltn (v := .ty "list") (by rfl) h_list (by decide +kernel) rfl) (pa_cons (pe_bltn (v := .ty "tuple") (by rfl) h_tuple (by decide +kernel) rfl) pa_nil))) pa_nil))))) (pw_or1 (pt_not (pt_val (pe_callB (cr_all rfl) (by rfl) h_all (by decide +kernel) (pa_cons (pe_lc (own := [("term", 2)]) (g := gName 2) (tt := tYes) rfl nd (pi_list (pv 1)) (blkOk_by (own := [("term", 2)]) (N := ["taps", "terms", "term"]) (sc := defScope sclaim_of) (by decide +kernel)) (fun _ _ _ _ _ => pg_name (i := 2) nd rfl (Or.inl rfl)) (fun _ _ _ _ _ => pts_nil) (fun _ _ _ _ _ => (pe_call F_is_term hr rfl g_is_term k_is_term b_is_term .nil pass0 (pa_cons (pv 0) (pa_cons (pv 2) pa_nil))))) pa_nil))))))))
    (pss_one (ps_raise rfl (takes_of rfl rfl rfl rfl) (pmk_own fx qx T.g T.k (raises_own T.b T.t) (by exact rfl))))
    pss_nil)
  (PSs.nox (pss_one (ps_ret (pe_call F_summed hr3 rfl g_summed k_summed b_summed .nil pass0 (pa_cons (pv 0) (pa_cons (pv 1) pa_nil)))))))), ?_⟩
  have two : (2 : Nat) ≤ sizeLine := by rw [sizeLine_eq]; decide
  refine ⟨_, rfl, t, taps, rfl, ht, tp, fun H1 s1 => ?_⟩
  refine ⟨_, rfl, two, fun p hp => ?_⟩
  have s2 := same_upd (o := .tup twoCls) hp
  have s12 := s1.trans s2
  refine ⟨_, p, _, _, _, _, rfl, upd_same, two_cls, tyX_list (same_seqL s12 hl), kit_list, _, rfl, iteF ?_⟩
  have len := paired_len hts
  have few : ts.length ≤ 4300 := by
    have : ts.length ≤ tot ts := by
      clear hts ok lots small k len
      induction ts with
      | nil => exact Nat.zero_le _
      | cons a r ih => rw [tot_cons, List.length_cons]; omega
    omega
  refine ⟨_, rfl, l, rfl, ⟨_, same_seqL s12 hl⟩, fun Z hZ => ?_⟩
  refine lc_each ts (fun v t _ => v = .bl true) (fun _ _ _ _ _ h => h) hZ (by rw [sizeLine_eq]; omega) (fun i H3 hi s3 => ?_) (fun H3 s3 => ?_) ?_ ?_
  · exact ⟨_, _, same_seqL (s12.trans s3) hl, List.getElem?_eq_getElem (by omega)⟩
  · exact ⟨_, same_seqL (s12.trans s3) hl, by omega⟩
  · rintro i c x H3 H' F hc s3 ⟨rfl, yx⟩ kF
    have e := yx _ (same_seqL (s12.trans s3) hl)
    obtain ⟨c', ec, hd⟩ := L2.paired_get hts e
    rw [hc] at ec
    obtain rfl : c = c' := Option.some.inj ec
    have mc := List.mem_of_getElem? hc
    have hd' := hd.keep (.of (s12.trans s3))
    refine ⟨rfl, _, rfl, _, rfl, t, taps, x, .right c.1 c.2, rfl, same_seqT (s12.trans s3) ht, taps_sm tp, hd'.dp, lot_sm tp (lots c mc), fun H4 s4 => kF _ _ ?_ s4⟩
    show V.bl (lotS taps c.1 && c.2.ok) = V.bl true
    rw [lots c mc, ok c mc]
    rfl
  · intro acc H3 s3 eZ hacc
    have eb := paired_bools (f := fun _ : Term => true) hacc
    subst eb
    refine ⟨Z, _, rfl, SqL.of eZ, _, rfl, ?_⟩
    have ea : (ts.map fun _ : Term => true).all id = true := by rw [List.all_map, List.all_eq_true]; exact fun _ _ => rfl
    rw [ea]
    have s123 := s12.trans s3
    refine iteF ⟨_, rfl, _, rfl, t, l, taps, us, ts, rfl, same_seqT s123 ht, same_seqL s123 hl, TermsAt.keep (.of s123) hts, ok, fun x hx => lot_ne (lots x hx), small, fun v H4 s4 hv => k v H4 (s123.trans s4) hv⟩
end
end K17
set_option maxHeartbeats 1000000
namespace K17
open PySem PySem.Spec PyProof.Rows L2 Hx RZ
/-! ### texts read: what is read -/
def namesRead (x : Str) : Option Lot := if namesS (Txt.split x SPC) = true then some (Txt.split x SPC) else none
def termOf : Bool → Option Lot → Option Num → Option Term
  | true, some ns, some n => if n = .w 0 then none else some (ns, n)
  | _, _, _ => none
theorem termOf_some {b : Bool} {o : Option Lot} {m : Option Num} {t : Term} (h : termOf b o m = some t) : b = true ∧ o = some t.1 ∧ m = some t.2 ∧ t.2 ≠ .w 0 := by
  cases b with
  | false => cases h
  | true =>
    cases o with
    | none => cases h
    | some ns =>
      cases m with
      | none => cases h
      | some n =>
        have h' : (if n = .w 0 then none else some (ns, n)) = some t := h
        split at h'
        · cases h'
        · next hz => cases h'; exact ⟨rfl, rfl, rfl, hz⟩
def termRead (x : Str) : Option Term := termOf (Txt.endswith (Txt.partition x WW).2.2 RP) (namesRead (cutS (Txt.partition x WW).2.2 none (some (-1)))) (numRead (Txt.partition x WW).1)
def allSome {α : Type} : List (Option α) → Option (List α)
  | [] => some []
  | none :: _ => none
  | some a :: r => match allSome r with
    | none => none
    | some l => some (a :: l)
def sideRead (x : Str) : Option (List Term) := if x = ZER then some [] else allSome ((Txt.split x PL).map termRead)
def sidesRead (x : Str) : Option (List Term) := match sideRead (Txt.partition x GE).1 with
  | none => none
  | some a => match sideRead (Txt.partition x GE).2.2 with
    | none => none
    | some b => some (a ++ b.map turnT)
def textRead (x : Str) : Option (Lot × List Term) :=
  if tapsS (Txt.split (Txt.partition x CO).1 SPC) = true then
    match sidesRead (Txt.partition x CO).2.2 with
    | none => none
    | some ts => if (ts.all fun t => lotS (Txt.split (Txt.partition x CO).1 SPC) t.1) = true then some (Txt.split (Txt.partition x CO).1 SPC, gathT ts) else none
  else none
/-! how much is read -/
theorem digits_lt (l : List Nat) (h : ∀ c ∈ l, 48 ≤ c ∧ c ≤ 57) : NumText.digitsVal l < 10 ^ l.length := by
  have q : ∀ (l : List Nat) (a : Nat), (∀ c ∈ l, 48 ≤ c ∧ c ≤ 57) → l.foldl (fun acc c => acc * 10 + (c - 48)) a < (a + 1) * 10 ^ l.length := by
    intro l
    induction l with
    | nil => intro a _; simp
    | cons c r ih =>
      intro a h
      have hc := h c List.mem_cons_self
      have q := ih (a * 10 + (c - 48)) fun d hd => h d (List.mem_cons_of_mem _ hd)
      rw [List.foldl_cons, List.length_cons, Nat.pow_succ]
      refine Nat.lt_of_lt_of_le q ?_
      rw [Nat.mul_comm (10 ^ r.length) 10, ← Nat.mul_assoc]
      exact Nat.mul_le_mul_right _ (by omega)
  have := q l 0 h
  rw [Nat.zero_add, Nat.one_mul] at this
  exact this
theorem whole_lt {x : Str} {n : Nat} (h : wholeS x = some n) : n < 2 ^ (4 * x.length) ∧ 1 ≤ x.length := by
  unfold wholeS at h
  split at h
  · next hc =>
    cases h
    have h1 := digits_lt x.cps.toList fun c hc' => dig_mem (of_decide_eq_true (List.all_eq_true.mp hc.2.1 c hc'))
    have e : x.cps.toList.length = x.length := by simp [Str.length]
    rw [e] at h1
    refine ⟨Nat.lt_of_lt_of_le h1 ?_, hc.1.1⟩
    rw [Nat.pow_mul]
    exact Nat.pow_le_pow_left (by decide) _
  · cases h
theorem nb_le {n : Num} {k : Nat} (h : n.top.natAbs < 2 ^ k) (h2 : n.low.natAbs < 2 ^ k) (hk : 1 ≤ k) : nb n ≤ k := by
  have q : ∀ m : Nat, m < 2 ^ k → m.log2 + 1 ≤ k := fun m hm => by
    by_cases e : m = 0
    · subst e
      show (0 : Nat).log2 + 1 ≤ k
      have : (0 : Nat).log2 = 0 := by decide
      omega
    · have := (Nat.log2_lt e).mpr hm
      omega
  have a := q _ h
  have b := q _ h2
  unfold nb
  omega
theorem num_nb {x : Str} {n : Num} (h : numRead x = some n) : nb n ≤ 4 * x.length ∧ n.ok = true := by
  obtain ⟨q1, q2, q3⟩ := PyProof.Rows.fact_partition x SL
  unfold numRead at h
  split at h
  · cases h
  · next t ht =>
    obtain ⟨a1, a2⟩ := whole_lt ht
    have a3 : t < 2 ^ (4 * x.length) := Nat.lt_of_lt_of_le a1 (Nat.pow_le_pow_right (by decide) (by omega))
    split at h
    · cases h
      refine ⟨nb_le a3 ?_ (by omega), rfl⟩
      exact Nat.one_lt_two_pow (by omega)
    · split at h
      · cases h
      · next b hb =>
        obtain ⟨b1, b2⟩ := whole_lt hb
        have b3 : b < 2 ^ (4 * x.length) := Nat.lt_of_lt_of_le b1 (Nat.pow_le_pow_right (by decide) (by omega))
        split at h
        · next ho =>
          cases h
          exact ⟨nb_le a3 b3 (by omega), ho⟩
        · cases h
theorem part_sum (x y : Str) : (Txt.partition x y).1.length + (Txt.partition x y).2.1.length + (Txt.partition x y).2.2.length = x.length := by
  have e := congrArg PySem.Str.length (PySem.StrLaws.partition_sum x y)
  rw [PySem.Str.length_append, PySem.Str.length_append] at e
  omega
theorem ends_len {x y : Str} (h : Txt.endswith x y = true) : y.length ≤ x.length := by
  unfold Txt.endswith at h
  rw [Bool.and_eq_true, decide_eq_true_eq] at h
  omega
theorem namesRead_some {x : Str} {ns : Lot} (h : namesRead x = some ns) : ns = Txt.split x SPC ∧ namesS ns = true := by
  unfold namesRead at h
  split at h
  · next hnm => cases h; exact ⟨rfl, hnm⟩
  · cases h
theorem term_facts {x : Str} {t : Term} (h : termRead x = some t) : nb t.2 + 1 ≤ 4 * x.length ∧ t.2.ok = true ∧ t.2 ≠ .w 0 ∧ namesS t.1 = true ∧ t.1.length ≤ x.length + 2 := by
  obtain ⟨he, hns, hn, hz⟩ := termOf_some h
  obtain ⟨q1, q2⟩ := num_nb hn
  have e1 := part_sum x WW
  have e2 := ends_len he
  have e3 : RP.length = 1 := rfl
  refine ⟨by omega, q2, hz, (namesRead_some hns).2, ?_⟩
  rw [(namesRead_some hns).1]
  have c1 := PyProof.Rows.split_le (cutS (Txt.partition x WW).2.2 none (some (-1))) SPC
  have c2 := cutS_length (Txt.partition x WW).2.2 none (some (-1))
  omega
theorem allSome_mem {α : Type} : ∀ {l : List (Option α)} {r : List α}, allSome l = some r → l = r.map some
  | [], r, h => by cases h; rfl
  | none :: _, r, h => by cases h
  | some a :: l, r, h => by
    unfold allSome at h
    cases e : allSome l with
    | none => rw [e] at h; cases h
    | some m =>
      rw [e] at h
      cases h
      rw [List.map_cons, ← allSome_mem e]
theorem allSome_none {α : Type} : ∀ {l : List (Option α)}, allSome l = none → none ∈ l
  | [], h => by cases h
  | none :: _, _ => List.mem_cons_self
  | some a :: l, h => by
    unfold allSome at h
    cases e : allSome l with
    | none => exact List.mem_cons_of_mem _ (allSome_none e)
    | some m => rw [e] at h; cases h
theorem spl_sum (S : List Nat) : ∀ (l : List Nat) (k : Nat) (acc : List Nat), ((TL.spl S k acc l).map (·.length)).sum ≤ acc.length + l.length
  | [], k, acc => by
    have e : TL.spl S k acc [] = [acc] := TL.spl_nil S k acc
    rw [e]
    simp
  | c :: r, 0, acc => by
    have e : TL.spl S 0 acc (c :: r) = if TL.pre S (c :: r) = true then acc :: TL.spl S (S.length - 1) [] r else TL.spl S 0 (acc ++ [c]) r := rfl
    rw [e]
    split
    · have := spl_sum S r (S.length - 1) []
      simp at this ⊢
      omega
    · have := spl_sum S r 0 (acc ++ [c])
      simp at this ⊢
      omega
  | c :: r, k + 1, acc => by
    have := spl_sum S r k acc
    have e : TL.spl S (k + 1) acc (c :: r) = TL.spl S k acc r := rfl
    rw [e]
    simp at this ⊢
    omega
/-- a separator of plain signs -/
def Sep (y : Str) : Prop := TL.tl y ≠ [] ∧ y.cps.all (· < 256) = true
theorem sep_spc : Sep SPC := by unfold Sep; exact ⟨by decide +kernel, by decide +kernel⟩
theorem sep_pl : Sep PL := by unfold Sep; exact ⟨by decide +kernel, by decide +kernel⟩
theorem sep_ge : Sep GE := by unfold Sep; exact ⟨by decide +kernel, by decide +kernel⟩
theorem sep_co : Sep CO := by unfold Sep; exact ⟨by decide +kernel, by decide +kernel⟩
theorem sep_ww : Sep WW := by unfold Sep; exact ⟨by decide +kernel, by decide +kernel⟩
theorem sep_nl : Sep NL := by unfold Sep; exact ⟨by decide +kernel, by decide +kernel⟩
theorem sep_sl : Sep SL := by unfold Sep; exact ⟨by decide +kernel, by decide +kernel⟩
theorem split_tl {x y : Str} (h : Sep y) : (Txt.split x y).map TL.tl = TL.spl (TL.tl y) 0 [] (TL.tl x) := TL.split_spl x y h.1 (TL.kind_ok h.2)
theorem split_sum {x y : Str} (h : Sep y) : ((Txt.split x y).map (·.length)).sum ≤ x.length := by
  have q := spl_sum (TL.tl y) (TL.tl x) 0 []
  rw [← split_tl h, List.map_map] at q
  have e : ((fun l : List Nat => l.length) ∘ TL.tl) = fun z : Str => z.length := funext fun z => (TL.len_tl z).symm
  rw [e, ← TL.len_tl] at q
  simpa using q
theorem mem_sum {l : List Str} {p : Str} (h : p ∈ l) : p.length ≤ (l.map (·.length)).sum := by
  induction l with
  | nil => cases h
  | cons a r ih =>
    rw [List.map_cons, List.sum_cons]
    rcases List.mem_cons.mp h with q | q
    · rw [q]; omega
    · have := ih q; omega
theorem split_len {x y : Str} (h : Sep y) : ∀ p ∈ Txt.split x y, p.length ≤ x.length := fun p hp => Nat.le_trans (mem_sum hp) (split_sum h)
theorem split_sm {x y : Str} (h : Sep y) (hx : x.length ≤ 90000) : Sm (Txt.split x y) := by
  have q : (Txt.split x y).length ≤ x.length + 2 := PyProof.Rows.split_le x y
  exact ⟨by omega, fun p hp => by have := split_len h p hp; omega⟩
structure Read0 (ts : List Term) (k : Nat) : Prop where
  tot : tot ts ≤ 4 * k
  ok : OkT ts
  nz : ∀ t ∈ ts, t.2 ≠ .w 0
  names : ∀ t ∈ ts, namesS t.1 = true ∧ t.1.length ≤ k + 2
theorem read0_nil (k : Nat) : Read0 [] k := ⟨Nat.zero_le _, (fun _ h => by cases h), (fun _ h => by cases h), (fun _ h => by cases h)⟩
theorem side_facts {x : Str} {ts : List Term} (h : sideRead x = some ts) : Read0 ts x.length := by
  unfold sideRead at h
  split at h
  · cases h
    exact read0_nil _
  · have e := allSome_mem h
    have q := split_sum (x := x) sep_pl
    generalize Txt.split x PL = ps at e q
    clear h
    have key : ∀ (ps : List Str) (ts : List Term), ps.map termRead = ts.map some → Read0 ts (ps.map (·.length)).sum := by
      intro ps
      induction ps with
      | nil =>
        intro ts e
        cases ts with
        | nil => exact read0_nil _
        | cons t r => cases e
      | cons p r ih =>
        intro ts e
        cases ts with
        | nil => cases e
        | cons t u =>
          rw [List.map_cons, List.map_cons] at e
          injection e with e1 e2
          obtain ⟨a, b, c, d⟩ := ih u e2
          obtain ⟨f1, f2, f3, f4, f5⟩ := term_facts e1
          refine ⟨?_, fun s hs => ?_, fun s hs => ?_, fun s hs => ?_⟩
          · rw [tot_cons, List.map_cons, List.sum_cons]
            omega
          · rcases List.mem_cons.mp hs with q | q
            · rw [q]; exact f2
            · exact b s q
          · rcases List.mem_cons.mp hs with q | q
            · rw [q]; exact f3
            · exact c s q
          · rcases List.mem_cons.mp hs with q | q
            · rw [q]; rw [List.map_cons, List.sum_cons]; exact ⟨f4, by omega⟩
            · have := d s q; rw [List.map_cons, List.sum_cons]; exact ⟨this.1, by omega⟩
    obtain ⟨a, b, c, d⟩ := key ps ts e
    exact ⟨by omega, b, c, fun t ht => ⟨(d t ht).1, by have := (d t ht).2; omega⟩⟩
theorem nb_turn (n : Num) : nb (turnN n) = nb n := by
  unfold nb
  rw [turn_top, turn_low, Int.natAbs_neg]
theorem tot_turn (ts : List Term) : tot (ts.map turnT) = tot ts := by
  unfold tot
  rw [List.map_map]
  have e : ((fun t : Term => nb t.2 + 1) ∘ turnT) = fun t : Term => nb t.2 + 1 := funext fun t => by
    show nb (turnN t.2) + 1 = _
    rw [nb_turn]
  rw [e]
theorem turn_nz {n : Num} (h : n ≠ .w 0) : turnN n ≠ .w 0 := fun e => h (by
  have := congrArg turnN e
  rw [turn_turn] at this
  rw [this]
  rfl)
theorem sides_facts {x : Str} {ts : List Term} (h : sidesRead x = some ts) : Read0 ts x.length := by
  have ps := part_sum x GE
  unfold sidesRead at h
  split at h
  · cases h
  · next a ha =>
    split at h
    · cases h
    · next b hb =>
      cases h
      obtain ⟨a1, a2, a3, a4⟩ := side_facts ha
      obtain ⟨b1, b2, b3, b4⟩ := side_facts hb
      refine ⟨?_, fun t ht => ?_, fun t ht => ?_, fun t ht => ?_⟩
      · rw [tot_app, tot_turn]
        omega
      all_goals
        rcases List.mem_append.mp ht with q | q
        · first | exact a2 t q | exact a3 t q | exact ⟨(a4 t q).1, by have := (a4 t q).2; omega⟩
        · obtain ⟨u, hu, rfl⟩ := List.mem_map.mp q
          first | exact turn_ok (b2 u hu) | exact turn_nz (b3 u hu) | exact ⟨(b4 u hu).1, by have := (b4 u hu).2; show u.1.length ≤ _; omega⟩
end K17
set_option maxHeartbeats 1000000
namespace K17
open PySem PySem.Spec PyProof.Rows L2 Hx RZ
/-! ### texts read: the program -/
def OptNames (H : Hp) (v : V) : Option Lot → Prop
  | none => v = .non
  | some ns => ∃ a, v = .ref a ∧ H a = some (.tup (ns.map V.str))
def OptTerm (K : PySem.W.Frag) (H : Hp) (v : V) : Option Term → Prop
  | none => v = .non
  | some t => TermAt K H v t
theorem OptTerm.keep {K : PySem.W.Frag} {H H' : Hp} {v : V} (e : TK H H') : ∀ {t : Option Term}, OptTerm K H v t → OptTerm K H' v t
  | none, h => h
  | some _, h => TermAt.keep e h
def OptTerms (K : PySem.W.Frag) (H : Hp) (v : V) : Option (List Term) → Prop
  | none => v = .non
  | some ts => ∃ l us, v = .ref l ∧ H l = some (.lst us) ∧ TermsAt K H us ts
theorem OptTerms.same {K : PySem.W.Frag} {H H' : Hp} {v : V} (s : Same H H') : ∀ {t : Option (List Term)}, OptTerms K H v t → OptTerms K H' v t
  | none, h => h
  | some _, ⟨l, us, e, h, q⟩ => ⟨l, us, e, s _ _ h, TermsAt.keep (.of s) q⟩
def OptClaim (K : PySem.W.Frag) (H : Hp) (v : V) : Option (Lot × List Term) → Prop
  | none => v = .non
  | some c => ClaimAt K H v c.1 c.2
theorem OptClaim.keep {K : PySem.W.Frag} {H H' : Hp} {v : V} (e : TK H H') : ∀ {c : Option (Lot × List Term)}, OptClaim K H v c → OptClaim K H' v c
  | none, h => h
  | some _, h => ClaimAt.keep e h
section
variable {P : Program} {w : World} {K : PySem.W.Frag} {mg : Str → Option Value} {base : Heap}
def spReadNames : Sp := fun vs H Q _ => ∃ x : Str, vs = [.str x] ∧ x.length ≤ 2000 ∧ ∀ v H', Same H H' → OptNames H' v (namesRead x) → Q v H'
theorem sc_read_names : FnScope ["text", "names"] ["text"] (defScope sread_names) := ⟨rfl, rfl, rfl, by decide +kernel, rfl, by decide +kernel, by decide +kernel⟩
theorem ok_read_names (D : Dn K mg "read_names" sread_names) (B : Ok P w K mg base L2.CX0 2 "are_names" ["value"] (spNames K namesS)) (h_tuple : mg "tuple" = none) : Ok P w K mg base L2.CX0 3 "read_names" ["text"] spReadNames := by
  obtain ⟨_, _, g_are_names, k_are_names, b_are_names, F_are_names⟩ := B.ex
  refine Ok.mk0 D sc_read_names (fun vs H Q E h => ?_) (fun _ _ _ _ _ _ us hl => match us, hl with | [_], _ => rfl) (fun f cdv A outer s H vs Q E hr h => ?_)
  · obtain ⟨x, rfl, _⟩ := h
    rfl
  obtain ⟨x, rfl, hx, k⟩ := h
  have nd := sc_read_names.nd
  refine ⟨_, (pss_cons (ps_set (i := 1) nd rfl (Or.inl rfl) (pe_callTy call_tuple_of (by rfl) h_tuple (by decide +kernel) (pa_cons (pe_split (pv 0) pe_str) pa_nil)))
  (pss_one (ps_ret (pe_ifExp (pt_val (pe_call F_are_names hr rfl g_are_names k_are_names b_are_names .nil pass0 (pa_cons (pv 1) pa_nil))) (pv 1) pe_non)))), ?_⟩
  refine ⟨_, rfl, ⟨_, rfl⟩, x, SPC, rfl, rfl, by decide +kernel, (by rw [sizeLine_eq]; omega), fun p hp => ?_⟩
  have s1 := same_upd (o := .lst ((Txt.split x SPC).map V.str)) hp
  refine ⟨p, _, rfl, .inl ⟨SqL.of upd_same, fun t ht => ?_⟩⟩
  have s2 := s1.trans (same_upd (o := .tup ((Txt.split x SPC).map V.str)) ht)
  refine ⟨_, rfl, _, rfl, .inl ⟨t, _, rfl, SqT.of upd_same, split_sm sep_spc (by omega), fun H3 s3 => ⟨_, rfl, ?_⟩⟩⟩
  cases hn : namesS (Txt.split x SPC) with
  | false =>
    refine iteF (k _ _ (s2.trans s3) ?_)
    unfold namesRead
    rw [if_neg (by rw [hn]; decide)]
    rfl
  | true =>
    refine iteT ⟨_, rfl, k _ _ (s2.trans s3) ?_⟩
    unfold namesRead
    rw [if_pos hn]
    exact ⟨t, rfl, s3 _ _ upd_same⟩
def spReadTerm (K : PySem.W.Frag) : Sp := fun vs H Q _ => ∃ x : Str, vs = [.str x] ∧ x.length ≤ 2000 ∧ ∀ v H', Same H H' → OptTerm K H' v (termRead x) → Q v H'
theorem sc_read_term : FnScope ["text", "start", "_", "end", "weight", "names"] ["text"] (defScope sread_term) := ⟨rfl, rfl, rfl, by decide +kernel, rfl, by decide +kernel, by decide +kernel⟩
theorem ok_read_term (D : Dn K mg "read_term" sread_term) (B0 : Ok P w K mg base L2.CX0 3 "read_number" ["text"] (spReadNum K numRead)) (B1 : Ok P w K mg base L2.CX0 3 "read_names" ["text"] spReadNames) :
    Ok P w K mg base L2.CX0 4 "read_term" ["text"] (spReadTerm K) := by
  obtain ⟨_, _, g_read_number, k_read_number, b_read_number, F_read_number⟩ := B0.ex
  obtain ⟨_, _, g_read_names, k_read_names, b_read_names, F_read_names⟩ := B1.ex
  refine Ok.mk0 D sc_read_term (fun vs H Q E h => ?_) (fun _ _ _ _ _ _ us hl => match us, hl with | [_], _ => rfl) (fun f cdv A outer s H vs Q E hr h => ?_)
  · obtain ⟨x, rfl, _⟩ := h
    rfl
  obtain ⟨x, rfl, hx, k⟩ := h
  have nd := sc_read_term.nd
  have hu64 := hr.units
  refine ⟨_, (pss_cons (ps_asg (pe_partition (pv 0) pe_str) (pg_tup (by rfl) (pgs_cons (pg_name (i := 1) nd rfl (Or.inl rfl)) (pgs_cons (pg_name (i := 2) nd rfl (Or.inl rfl)) (pgs_cons (pg_name (i := 3) nd rfl (Or.inl rfl)) pgs_nil)))))
  (pss_cons (ps_set (i := 4) nd rfl (Or.inl rfl) (pe_call F_read_number hr rfl g_read_number k_read_number b_read_number .nil pass0 (pa_cons (pv 1) pa_nil)))
  (pss_cons (ps_set (i := 5) nd rfl (Or.inl rfl) (pe_call F_read_names hr rfl g_read_names k_read_names b_read_names .nil pass0 (pa_cons (pe_slice sl_str (pv 3) po_none (po_some (pe_un un_neg pe_int))) pa_nil)))
  (pss_cons (ps_if (PW.pt (pw_or (pt_not (pt_val (pe_m1 PySem.F.slot_str_endswith PySem.F.type_str_endswith mt_endswith (pv 3) pe_str))) (pw_or (pt_cmpR op_isN (pv 5) pe_non (nomark _)) (pw_or (pt_cmpR op_isN (pv 4) pe_non (nomark _)) (pw_or1 (pt_cmpR (op_eqD hu64) (pv 4) pe_int (nomark _)))))))
    (pss_one (ps_ret pe_non))
    pss_nil)
  (pss_one (ps_ret (pe_tup (pa_cons (pv 5) (pa_cons (pv 4) pa_nil))))))))), ?_⟩
  obtain ⟨q1, q2, q3⟩ := PyProof.Rows.fact_partition x WW
  generalize eA : (Txt.partition x WW).1 = A1 at *
  generalize eB : (Txt.partition x WW).2.1 = A2 at *
  generalize eC : (Txt.partition x WW).2.2 = A3 at *
  have cl := cutS_length A3 none (some (-1))
  refine ⟨_, rfl, ⟨_, rfl⟩, x, WW, rfl, rfl, by decide +kernel, szl (by omega), fun p hp => ?_⟩
  rw [eA, eB, eC]
  have s1 := same_upd (o := .tup [.str A1, .str A2, .str A3]) hp
  refine ⟨p, _, rfl, SqT.of upd_same, rfl, _, _, rfl, _, _, rfl, _, _, rfl, rfl, ?_⟩
  refine ⟨_, rfl, A1, rfl, by omega, fun vn H2 s2 hvn => ?_⟩
  refine ⟨_, rfl, _, rfl, _, rfl, A3, rfl, szl (by omega), ?_⟩
  refine ⟨_, rfl, by omega, fun vs' H3 s3 hvs => ?_⟩
  have s123 := s1.trans (s2.trans s3)
  have hvn3 := hvn.keep (.of s3)
  have out : ∀ v H', Same H3 H' → OptTerm K H' v (termRead x) → Q v H' := fun v H' s => k v H' (s123.trans s)
  have et : termRead x = termOf (Txt.endswith A3 RP) (namesRead (cutS A3 none (some (-1)))) (numRead A1) := by
    unfold termRead
    rw [eA, eC]
  rw [et] at out
  refine ⟨_, rfl, ⟨_, rfl⟩, A3, RP, rfl, rfl, _, rfl, ?_⟩
  cases he : Txt.endswith A3 RP with
  | false =>
    rw [he] at out
    exact iteT (out _ _ (Same.refl _) rfl)
  | true =>
    refine iteF ⟨_, rfl, rfl, _, rfl, ?_⟩
    rw [he] at out
    cases hn : namesRead (cutS A3 none (some (-1))) with
    | none =>
      rw [hn] at out hvs
      obtain rfl : vs' = .non := hvs
      exact iteT (out _ _ (Same.refl _) rfl)
    | some ns =>
      rw [hn] at out hvs
      obtain ⟨a, rfl, ha⟩ := hvs
      refine iteF ⟨_, rfl, rfl, _, rfl, ?_⟩
      cases hm : numRead A1 with
      | none =>
        rw [hm] at out hvn3
        obtain rfl : vn = .non := hvn3
        exact iteT (out _ _ (Same.refl _) rfl)
      | some n =>
        rw [hm] at out hvn3
        have hnum : NumAt K H3 vn n := hvn3
        have nn : decide (vn = V.non) = false := decide_eq_false fun e => by
          subst e
          cases n with
          | w i => cases hnum
          | q t b => obtain ⟨_, z, _⟩ := hnum; cases z
        refine iteG nn ⟨_, rfl, n.data, .int 0, hnum.dt.dp, .int 0, shaped_num n, shaped_int 0, _, rfl, ?_⟩
        rw [eqv_num0]
        by_cases hz : n = .w 0
        · have e1 : nz n = false := decide_eq_false fun q => q hz
          rw [e1]
          refine iteT (out _ _ (Same.refl _) ?_)
          show OptTerm K H3 _ (if n = .w 0 then none else some (ns, n))
          rw [if_pos hz]
          rfl
        · have e1 : nz n = true := decide_eq_true hz
          rw [e1]
          refine iteF ⟨_, rfl, _, rfl, (by rw [sizeLine_eq]; exact (by decide : (2 : Nat) ≤ 16777216)), fun q hq => out _ _ (same_upd hq) ?_⟩
          show OptTerm K _ _ (if n = .w 0 then none else some (ns, n))
          rw [if_neg hz]
          exact ⟨q, a, vn, rfl, SqT.of upd_same, (same_upd hq) _ _ ha, hnum.keep (.of (same_upd hq))⟩
def spReadSide (K : PySem.W.Frag) (f : Str → Option (List Term)) : Sp := fun vs H Q _ => ∃ x : Str, vs = [.str x] ∧ x.length ≤ 1000 ∧ ∀ v H', Same H H' → OptTerms K H' v (f x) → Q v H'
theorem sc_read_side : FnScope ["text", "terms", "words", "term"] ["text"] (defScope sread_side) := ⟨rfl, rfl, rfl, by decide +kernel, rfl, by decide +kernel, by decide +kernel⟩
theorem ok_read_side (D : Dn K mg "read_side" sread_side) (B : Ok P w K mg base L2.CX0 4 "read_term" ["text"] (spReadTerm K)) (h_any : mg "any" = none) : Ok P w K mg base L2.CX0 5 "read_side" ["text"] (spReadSide K sideRead) := by
  obtain ⟨_, _, g_read_term, k_read_term, b_read_term, F_read_term⟩ := B.ex
  refine Ok.mk0 D sc_read_side (fun vs H Q E h => ?_) (fun _ _ _ _ _ _ us hl => match us, hl with | [_], _ => rfl) (fun f cdv A outer s H vs Q E hr h => ?_)
  · obtain ⟨x, rfl, _⟩ := h
    rfl
  obtain ⟨x, rfl, hx, k⟩ := h
  have nd := sc_read_side.nd
  refine ⟨_, (pss_cons (ps_if (pt_cmpR op_eq (pv 0) pe_str (nomark _))
    (pss_one (ps_ret (pe_lst pa_nil)))
    pss_nil)
  (pss_cons (ps_setLc (i := 1) (own := [("words", 2)]) (g := gName 2) (tt := tYes) rfl nd rfl rfl (sw_true rfl rfl rfl (by decide +kernel)) (pi_list (pe_split (pv 0) pe_str)) (blkOk_by (own := [("words", 2)]) (N := ["text", "terms", "words", "term"]) (sc := defScope sread_side) (by decide +kernel)) (fun _ _ _ _ _ => pg_name (i := 2) nd rfl (Or.inl rfl)) (fun _ _ _ _ _ => pts_nil) (fun _ _ _ _ _ => (pe_call F_read_term hr rfl g_read_term k_read_term b_read_term .nil pass0 (pa_cons (pv 2) pa_nil))))
  (pss_cons (ps_if (pt_val (pe_callB (cr_any rfl) (by rfl) h_any (by decide +kernel) (pa_cons (pe_lc (own := [("term", 3)]) (g := gName 3) (tt := tYes) rfl nd (pi_list (pv 1)) (blkOk_by (own := [("term", 3)]) (N := ["text", "terms", "words", "term"]) (sc := defScope sread_side) (by decide +kernel)) (fun _ _ _ _ _ => pg_name (i := 3) nd rfl (Or.inl rfl)) (fun _ _ _ _ _ => pts_nil) (fun _ _ _ _ _ => (pe_cmpR op_isN (pv 3) pe_non (nomark _)))) pa_nil)))
    (pss_one (ps_ret pe_non))
    pss_nil)
  (pss_one (ps_ret (pv 1)))))), ?_⟩
  refine ⟨_, rfl, rfl, _, rfl, ?_⟩
  rw [deq_str]
  by_cases h0 : x = ZER
  · refine iteE (decide_eq_true h0) ⟨by rw [sizeLine_eq]; exact Nat.zero_le _, fun p hp => k _ _ (same_upd hp) ?_⟩
    unfold sideRead
    rw [if_pos h0]
    exact ⟨p, [], rfl, upd_same, .nil⟩
  · refine iteG (decide_eq_false h0) ?_
    have ev : sideRead x = allSome ((Txt.split x PL).map termRead) := by
      unfold sideRead
      rw [if_neg h0]
    refine ⟨_, rfl, ⟨_, rfl⟩, x, PL, rfl, rfl, by decide +kernel, szl (by omega), fun p hp => ?_⟩
    have s1 := same_upd (o := .lst ((Txt.split x PL).map V.str)) hp
    have ql : (Txt.split x PL).length ≤ x.length + 2 := PyProof.Rows.split_le x PL
    refine ⟨p, rfl, ⟨_, SqL.of upd_same⟩, fun Z hZ => ?_⟩
    refine lc_each (Txt.split x PL) (fun v y H => OptTerm K H v (termRead y)) (fun v y H H' tk h => h.keep tk) hZ (by rw [sizeLine_eq]; omega) (fun i H2 hi s2 => ?_) (fun H2 s2 => ?_) ?_ ?_
    · exact ⟨_, _, same_seqL s2 (SqL.of upd_same), List.getElem?_eq_getElem (by rw [List.length_map]; exact hi)⟩
    · exact ⟨_, same_seqL s2 (SqL.of upd_same), by rw [List.length_map]; exact Nat.le_refl _⟩
    · rintro i y z H2 H' F hy s2 ⟨rfl, yx⟩ kF
      have e := yx _ (same_seqL s2 (SqL.of upd_same))
      rw [List.getElem?_map, hy] at e
      obtain rfl : V.str y = z := Option.some.inj e
      have yl := split_len (x := x) sep_pl y (List.mem_of_getElem? hy)
      exact ⟨rfl, _, rfl, y, rfl, by omega, fun v H4 s4 hv => kF _ _ hv s4⟩
    · intro acc H2 s2 eZ hacc
      have s12 := s1.trans s2
      have la := paired_len hacc
      refine ⟨_, rfl, Z, rfl, ⟨_, SqL.of eZ⟩, fun Z2 hZ2 => ?_⟩
      refine lc_each (Txt.split x PL) (fun v y _ => v = .bl (termRead y).isNone) (fun _ _ _ _ _ h => h) hZ2 (by rw [sizeLine_eq]; omega) (fun i H3 hi s3 => ?_) (fun H3 s3 => ?_) ?_ ?_
      · exact ⟨_, _, same_seqL s3 (SqL.of eZ), List.getElem?_eq_getElem (by omega)⟩
      · exact ⟨_, same_seqL s3 (SqL.of eZ), by omega⟩
      · rintro i y z H3 H' F hy s3 ⟨rfl, yx⟩ kF
        have e := yx _ (same_seqL s3 (SqL.of eZ))
        obtain ⟨y', ey, ho⟩ := L2.paired_get hacc e
        rw [hy] at ey
        obtain rfl : y = y' := Option.some.inj ey
        refine ⟨rfl, _, rfl, rfl, kF _ _ ?_ (Same.refl _)⟩
        cases ht : termRead y with
        | none =>
          rw [ht] at ho
          obtain rfl : z = .non := ho
          rfl
        | some t =>
          rw [ht] at ho
          obtain ⟨a, _, _, rfl, _⟩ := ho
          rfl
      · intro acc2 H3 s3 eZ2 hacc2
        have eb := paired_bools hacc2
        subst eb
        refine ⟨Z2, _, rfl, SqL.of eZ2, _, rfl, ?_⟩
        have ea : ((Txt.split x PL).map fun y => (termRead y).isNone).any id = (Txt.split x PL).any fun y => (termRead y).isNone := by rw [List.any_map]; rfl
        rw [ea]
        cases hall : (Txt.split x PL).any fun y => (termRead y).isNone with
        | true =>
          refine iteT (k _ _ (s12.trans s3) ?_)
          rw [ev]
          cases hs : allSome ((Txt.split x PL).map termRead) with
          | none => rfl
          | some ts =>
            exfalso
            obtain ⟨y, my, hy⟩ := List.any_eq_true.mp hall
            have m : termRead y ∈ (Txt.split x PL).map termRead := List.mem_map.mpr ⟨y, my, rfl⟩
            rw [allSome_mem hs] at m
            obtain ⟨t, _, et⟩ := List.mem_map.mp m
            rw [← et] at hy
            cases hy
        | false =>
          refine iteF ⟨_, rfl, k _ _ (s12.trans s3) ?_⟩
          rw [ev]
          cases hs : allSome ((Txt.split x PL).map termRead) with
          | none =>
            exfalso
            obtain ⟨y, my, hy⟩ := List.mem_map.mp (allSome_none hs)
            have := List.any_eq_false.mp hall y my
            rw [hy] at this
            exact this rfl
          | some ts =>
            have em := allSome_mem hs
            refine ⟨Z, acc, rfl, s3 _ _ eZ, ?_⟩
            have h1 : Paired (fun v o => OptTerm K H3 v o) acc ((Txt.split x PL).map termRead) := paired_map (paired_imp hacc fun v y h => h.keep (.of s3))
            rw [em] at h1
            clear hacc la ea hall hacc2 eZ2 em hs
            generalize acc = us at h1
            induction ts generalizing us with
            | nil => cases h1; exact .nil
            | cons t r ih =>
              cases h1 with
              | cons a b => exact .cons a (ih _ b)
end
end K17
set_option maxHeartbeats 1000000
namespace K17
open PySem PySem.Spec PyProof.Rows L2 Hx RZ
/-! ### read_sides, read_text, read_claim: the program -/
section
variable {P : Program} {w : World} {K : PySem.W.Frag} {mg : Str → Option Value} {base : Heap}
theorem sc_read_sides : FnScope ["text", "left", "_", "right", "left_terms", "right_terms", "lot", "weight"] ["text"] (defScope sread_sides) := ⟨rfl, rfl, rfl, by decide +kernel, rfl, by decide +kernel, by decide +kernel⟩
theorem ok_read_sides (D : Dn K mg "read_sides" sread_sides) (B0 : Ok P w K mg base L2.CX0 5 "read_side" ["text"] (spReadSide K sideRead)) (B1 : Ok P w K mg base L2.CX0 1 "turned" ["value"] (spTurn K)) :
    Ok P w K mg base L2.CX0 6 "read_sides" ["text"] (spReadSide K sidesRead) := by
  obtain ⟨_, _, g_read_side, k_read_side, b_read_side, F_read_side⟩ := B0.ex
  obtain ⟨_, _, g_turned, k_turned, b_turned, F_turned⟩ := B1.ex
  refine Ok.mk0 D sc_read_sides (fun vs H Q E h => ?_) (fun _ _ _ _ _ _ us hl => match us, hl with | [_], _ => rfl) (fun f cdv A outer s H vs Q E hr h => ?_)
  · obtain ⟨x, rfl, _⟩ := h
    rfl
  obtain ⟨x, rfl, hx, k⟩ := h
  have nd := sc_read_sides.nd
  have hr1 := hr.mono (show 1 ≤ 5 by decide)
  refine ⟨_, (pss_cons (ps_asg (pe_partition (pv 0) pe_str) (pg_tup (by rfl) (pgs_cons (pg_name (i := 1) nd rfl (Or.inl rfl)) (pgs_cons (pg_name (i := 2) nd rfl (Or.inl rfl)) (pgs_cons (pg_name (i := 3) nd rfl (Or.inl rfl)) pgs_nil)))))
  (pss_cons (ps_set (i := 4) nd rfl (Or.inl rfl) (pe_call F_read_side hr rfl g_read_side k_read_side b_read_side .nil pass0 (pa_cons (pv 1) pa_nil)))
  (pss_cons (ps_set (i := 5) nd rfl (Or.inl rfl) (pe_call F_read_side hr rfl g_read_side k_read_side b_read_side .nil pass0 (pa_cons (pv 3) pa_nil)))
  (pss_cons (ps_if (PW.pt (pw_or (pt_cmpR op_isN (pv 4) pe_non (nomark _)) (pw_or1 (pt_cmpR op_isN (pv 5) pe_non (nomark _)))))
    (pss_one (ps_ret pe_non))
    pss_nil)
  (pss_one (ps_ret (pe_op op_cat (pv 4) (pe_lc (own := [("lot", 6), ("weight", 7)]) (g := gTup K 2 (gCons (gName 6) (gCons (gName 7) gNil))) (tt := tYes) rfl nd (pi_list (pv 5)) (blkOk_by (own := [("lot", 6), ("weight", 7)]) (N := ["text", "left", "_", "right", "left_terms", "right_terms", "lot", "weight"]) (sc := defScope sread_sides) (by decide +kernel)) (fun _ _ _ _ _ => pg_tup (by rfl) (pgs_cons (pg_name (i := 6) nd rfl (Or.inl rfl)) (pgs_cons (pg_name (i := 7) nd rfl (Or.inl rfl)) pgs_nil))) (fun _ _ _ _ _ => pts_nil) (fun _ _ _ _ _ => (pe_tup (pa_cons (pv 6) (pa_cons (pe_call F_turned hr1 rfl g_turned k_turned b_turned .nil pass0 (pa_cons (pv 7) pa_nil)) pa_nil)))))))))))), ?_⟩
  obtain ⟨q1, q2, q3⟩ := PyProof.Rows.fact_partition x GE
  generalize eA : (Txt.partition x GE).1 = A1 at *
  generalize eB : (Txt.partition x GE).2.1 = A2 at *
  generalize eC : (Txt.partition x GE).2.2 = A3 at *
  refine ⟨_, rfl, ⟨_, rfl⟩, x, GE, rfl, rfl, by decide +kernel, szl (by omega), fun p hp => ?_⟩
  rw [eA, eB, eC]
  have s1 := same_upd (o := .tup [.str A1, .str A2, .str A3]) hp
  refine ⟨p, _, rfl, SqT.of upd_same, rfl, _, _, rfl, _, _, rfl, _, _, rfl, rfl, ?_⟩
  refine ⟨_, rfl, A1, rfl, by omega, fun va H2 s2 hva => ?_⟩
  refine ⟨_, rfl, A3, rfl, by omega, fun vb H3 s3 hvb => ?_⟩
  have s123 := s1.trans (s2.trans s3)
  have hva3 := hva.same s3
  have out : ∀ v H', Same H3 H' → OptTerms K H' v (sidesRead x) → Q v H' := fun v H' s => k v H' (s123.trans s)
  have small : ∀ {y : Str} {ts : List Term}, sideRead y = some ts → y.length ≤ x.length → ts.length ≤ 4000 := fun {y ts} e hy => by
    have f := (side_facts e).tot
    have : ts.length ≤ tot ts := by
      clear e f
      induction ts with
      | nil => exact Nat.zero_le _
      | cons a r ih => rw [tot_cons, List.length_cons]; omega
    omega
  have es : sidesRead x = match sideRead A1 with | none => none | some a => match sideRead A3 with | none => none | some b => some (a ++ b.map turnT) := by
    unfold sidesRead
    rw [eA, eC]
    all_goals (cases sideRead A1 with
    | none => rfl
    | some a => cases sideRead A3 <;> rfl)
  refine ⟨_, rfl, rfl, _, rfl, ?_⟩
  cases ha : sideRead A1 with
  | none =>
    rw [ha] at hva3 es
    obtain rfl : va = .non := hva3
    refine iteT (out _ _ (Same.refl _) ?_)
    rw [es]
    rfl
  | some ta =>
    rw [ha] at hva3 es
    obtain ⟨la, ua, rfl, hla, hta⟩ := hva3
    refine iteF ⟨_, rfl, rfl, _, rfl, ?_⟩
    cases hb : sideRead A3 with
    | none =>
      rw [hb] at hvb es
      obtain rfl : vb = .non := hvb
      refine iteT (out _ _ (Same.refl _) ?_)
      rw [es]
      rfl
    | some tb =>
      rw [hb] at hvb es
      obtain ⟨lb, ub, rfl, hlb, htb⟩ := hvb
      have fa := small ha (by omega)
      have fb := small hb (by omega)
      have l1 := paired_len hta
      have l2 := paired_len htb
      refine iteF ⟨_, rfl, _, rfl, lb, rfl, ⟨_, SqL.of hlb⟩, fun Z hZ => ?_⟩
      refine lc_each tb (fun v t H => TermAt K H v (turnT t)) (fun v t H H' tk h => h.keep tk) hZ (by rw [sizeLine_eq]; omega) (fun i H4 hi s4 => ?_) (fun H4 s4 => ?_) ?_ ?_
      · exact ⟨_, _, same_seqL s4 (SqL.of hlb), List.getElem?_eq_getElem (by omega)⟩
      · exact ⟨_, same_seqL s4 (SqL.of hlb), by omega⟩
      · rintro i t z H4 H' F ht s4 ⟨rfl, yx⟩ kF
        have e := yx _ (same_seqL s4 (SqL.of hlb))
        obtain ⟨t', et, hd⟩ := L2.paired_get htb e
        rw [ht] at et
        obtain rfl : t = t' := Option.some.inj et
        obtain ⟨q, l2', u, rfl, hq, hl2, hn⟩ := hd.keep (.of s4)
        refine ⟨q, _, rfl, hq, rfl, _, _, rfl, _, _, rfl, rfl, rfl, _, rfl, _, rfl, u, t.2, rfl, hn, fun u2 H5 s5 hu2 => ⟨by rw [sizeLine_eq]; exact (by decide : (2 : Nat) ≤ 16777216), fun p2 hp2 => kF _ _ ⟨p2, l2', u2, rfl, SqT.of upd_same, ?_, ?_⟩ (s5.trans (same_upd hp2))⟩⟩
        · exact (s5.trans (same_upd hp2)) _ _ hl2
        · exact hu2.keep (.of (same_upd hp2))
      · intro acc H4 s4 eZ hacc
        have la4 := paired_len hacc
        refine ⟨la, Z, ua, acc, rfl, rfl, s4 _ _ hla, eZ, by rw [sizeLine_eq]; omega, fun r hr => out _ _ (s4.trans (same_upd hr)) ?_⟩
        rw [es]
        have s5 := same_upd (o := .lst (ua ++ acc)) hr
        exact ⟨r, ua ++ acc, rfl, upd_same, paired_app (TermsAt.keep (.of (s4.trans s5)) hta) (paired_map (paired_imp hacc fun v t h => h.keep (.of s5)))⟩
def spReadText (K : PySem.W.Frag) (f : Str → Option (Lot × List Term)) : Sp := fun vs H Q _ => ∃ x : Str, vs = [.str x] ∧ x.length ≤ 1000 ∧ ∀ v H', Same H H' → OptClaim K H' v (f x) → Q v H'
theorem sc_read_text : FnScope ["text", "names", "_", "sides", "taps", "terms", "lot"] ["text"] (defScope sread_text) := ⟨rfl, rfl, rfl, by decide +kernel, rfl, by decide +kernel, by decide +kernel⟩
theorem ok_read_text (D : Dn K mg "read_text" sread_text) (B0 : Ok P w K mg base L2.CX0 3 "are_taps" ["value"] (spNames K tapsS)) (B1 : Ok P w K mg base L2.CX0 6 "read_sides" ["text"] (spReadSide K sidesRead)) (B2 : Ok P w K mg base L2.CX0 3 "is_lot" ["taps", "value"] (spLot K lotS)) (B3 : Ok P w K mg base L2.CX0 3 "summed" ["taps", "terms"] (spGath K))
    (h_tuple : mg "tuple" = none) (h_all : mg "all" = none) : Ok P w K mg base L2.CX0 7 "read_text" ["text"] (spReadText K textRead) := by
  obtain ⟨_, _, g_are_taps, k_are_taps, b_are_taps, F_are_taps⟩ := B0.ex
  obtain ⟨_, _, g_read_sides, k_read_sides, b_read_sides, F_read_sides⟩ := B1.ex
  obtain ⟨_, _, g_is_lot, k_is_lot, b_is_lot, F_is_lot⟩ := B2.ex
  obtain ⟨_, _, g_summed, k_summed, b_summed, F_summed⟩ := B3.ex
  refine Ok.mk0 D sc_read_text (fun vs H Q E h => ?_) (fun _ _ _ _ _ _ us hl => match us, hl with | [_], _ => rfl) (fun f cdv A outer s H vs Q E hr h => ?_)
  · obtain ⟨x, rfl, _⟩ := h
    rfl
  obtain ⟨x, rfl, hx, k⟩ := h
  have nd := sc_read_text.nd
  have hr3 := hr.mono (show 3 ≤ 6 by decide)
  refine ⟨_, (pss_cons (ps_asg (pe_partition (pv 0) pe_str) (pg_tup (by rfl) (pgs_cons (pg_name (i := 1) nd rfl (Or.inl rfl)) (pgs_cons (pg_name (i := 2) nd rfl (Or.inl rfl)) (pgs_cons (pg_name (i := 3) nd rfl (Or.inl rfl)) pgs_nil)))))
  (pss_cons (ps_set (i := 4) nd rfl (Or.inr rfl) (pe_callTy call_tuple_of (by rfl) h_tuple (by decide +kernel) (pa_cons (pe_split (pv 1) pe_str) pa_nil)))
  (pss_cons (ps_if (pt_not (pt_val (pe_call F_are_taps hr3 rfl g_are_taps k_are_taps b_are_taps .nil pass0 (pa_cons (pv 4) pa_nil))))
    (pss_one (ps_ret pe_non))
    pss_nil)
  (pss_cons (ps_set (i := 5) nd rfl (Or.inl rfl) (pe_call F_read_sides hr rfl g_read_sides k_read_sides b_read_sides .nil pass0 (pa_cons (pv 3) pa_nil)))
  (pss_cons (ps_if (PW.pt (pw_or (pt_cmpR op_isN (pv 5) pe_non (nomark _)) (pw_or1 (pt_not (pt_val (pe_callB (cr_all rfl) (by rfl) h_all (by decide +kernel) (pa_cons (pe_lc (own := [("lot", 6), ("_", 2)]) (g := gTup K 2 (gCons (gName 6) (gCons (gName 2) gNil))) (tt := tYes) rfl nd (pi_list (pv 5)) (blkOk_by (own := [("lot", 6), ("_", 2)]) (N := ["text", "names", "_", "sides", "taps", "terms", "lot"]) (sc := defScope sread_text) (by decide +kernel)) (fun _ _ _ _ _ => pg_tup (by rfl) (pgs_cons (pg_name (i := 6) nd rfl (Or.inl rfl)) (pgs_cons (pg_name (i := 2) nd rfl (Or.inl rfl)) pgs_nil))) (fun _ _ _ _ _ => pts_nil) (fun _ _ _ _ _ => (pe_call F_is_lot hr3 rfl g_is_lot k_is_lot b_is_lot .nil pass0 (pa_cons (pv 4) (pa_cons (pv 6) pa_nil))))) pa_nil)))))))
    (pss_one (ps_ret pe_non))
    pss_nil)
  (pss_one (ps_ret (pe_call F_summed hr3 rfl g_summed k_summed b_summed .nil pass0 (pa_cons (pv 4) (pa_cons (pv 5) pa_nil)))))))))), ?_⟩
  obtain ⟨q1, q2, q3⟩ := PyProof.Rows.fact_partition x CO
  generalize eA : (Txt.partition x CO).1 = A1 at *
  generalize eB : (Txt.partition x CO).2.1 = A2 at *
  generalize eC : (Txt.partition x CO).2.2 = A3 at *
  refine ⟨_, rfl, ⟨_, rfl⟩, x, CO, rfl, rfl, by decide +kernel, szl (by omega), fun p hp => ?_⟩
  rw [eA, eB, eC]
  have s1 := same_upd (o := .tup [.str A1, .str A2, .str A3]) hp
  refine ⟨p, _, rfl, SqT.of upd_same, rfl, _, _, rfl, _, _, rfl, _, _, rfl, rfl, ?_⟩
  refine ⟨_, rfl, ⟨_, rfl⟩, A1, SPC, rfl, rfl, by decide +kernel, szl (by omega), fun l hl => ?_⟩
  have s2 := s1.trans (same_upd (o := .lst ((Txt.split A1 SPC).map V.str)) hl)
  refine ⟨l, _, rfl, .inl ⟨SqL.of upd_same, fun t ht => ?_⟩⟩
  have s3 := s2.trans (same_upd (o := .tup ((Txt.split A1 SPC).map V.str)) ht)
  have htt := SqT.of (K := K) (upd_same (H := upd (upd H p (.tup [.str A1, .str A2, .str A3])) l (.lst ((Txt.split A1 SPC).map V.str))) (a := t) (o := .tup ((Txt.split A1 SPC).map V.str)))
  generalize upd (upd (upd H p (.tup [.str A1, .str A2, .str A3])) l (.lst ((Txt.split A1 SPC).map V.str))) t (.tup ((Txt.split A1 SPC).map V.str)) = H3 at s3 htt ⊢
  generalize eT : Txt.split A1 SPC = taps at *
  have smT : Sm taps := by rw [← eT]; exact split_sm sep_spc (by omega)
  have out : ∀ v H', Same H3 H' → OptClaim K H' v (textRead x) → Q v H' := fun v H' s => k v H' (s3.trans s)
  have et : textRead x = if tapsS taps = true then (match sidesRead A3 with | none => none | some ts => if (ts.all fun t => lotS taps t.1) = true then some (taps, gathT ts) else none) else none := by
    unfold textRead
    rw [eA, eC, eT]
    all_goals (split <;> first | rfl | (cases sidesRead A3 <;> rfl))
  refine ⟨_, rfl, _, rfl, .inl ⟨t, taps, rfl, htt, smT, fun H4 s4 => ⟨_, rfl, ?_⟩⟩⟩
  cases htp : tapsS taps with
  | false =>
    refine iteT (out _ _ s4 ?_)
    rw [et, if_neg (by rw [htp]; decide)]
    rfl
  | true =>
    rw [if_pos htp] at et
    refine iteF ⟨_, rfl, A3, rfl, by omega, fun vt H5 s5 hvt => ?_⟩
    have s45 := s4.trans s5
    refine ⟨_, rfl, rfl, _, rfl, ?_⟩
    cases hs : sidesRead A3 with
    | none =>
      rw [hs] at hvt et
      obtain rfl : vt = .non := hvt
      refine iteT (out _ _ s45 ?_)
      rw [et]
      rfl
    | some ts =>
      rw [hs] at hvt et
      obtain ⟨lt, ut, rfl, hlt, hts⟩ := hvt
      have fx := sides_facts hs
      have len := paired_len hts
      have ltot : ts.length ≤ tot ts := by
        clear hs et hts len fx
        induction ts with
        | nil => exact Nat.zero_le _
        | cons a r ih => rw [tot_cons, List.length_cons]; omega
      have f1 := fx.tot
      refine iteF ⟨_, rfl, lt, rfl, ⟨_, SqL.of hlt⟩, fun Z hZ => ?_⟩
      refine lc_each ts (fun v t _ => v = .bl (lotS taps t.1)) (fun _ _ _ _ _ h => h) hZ (by rw [sizeLine_eq]; omega) (fun i H6 hi s6 => ?_) (fun H6 s6 => ?_) ?_ ?_
      · exact ⟨_, _, same_seqL s6 (SqL.of hlt), List.getElem?_eq_getElem (by omega)⟩
      · exact ⟨_, same_seqL s6 (SqL.of hlt), by omega⟩
      · rintro i tm z H6 H' F htm s6 ⟨rfl, yx⟩ kF
        have e := yx _ (same_seqL s6 (SqL.of hlt))
        obtain ⟨t', ett, hd⟩ := L2.paired_get hts e
        rw [htm] at ett
        obtain rfl : tm = t' := Option.some.inj ett
        obtain ⟨q, l2', u, rfl, hq, hl2, hn⟩ := hd.keep (.of s6)
        obtain ⟨nm, nl⟩ := fx.names tm (List.mem_of_getElem? htm)
        have n8 := names_sm nm
        refine ⟨q, _, rfl, hq, rfl, _, _, rfl, _, _, rfl, rfl, rfl, _, rfl, _, rfl, t, taps, _, rfl, same_seqT (s45.trans s6) htt, smT, .inl ⟨l2', tm.1, rfl, SqT.of hl2, ⟨by omega, fun x hx => by have := n8 x hx; omega⟩, fun H7 s7 => kF _ _ rfl s7⟩⟩
      · intro acc H6 s6 eZ hacc
        have eb := paired_bools hacc
        subst eb
        refine ⟨Z, _, rfl, SqL.of eZ, _, rfl, ?_⟩
        have ea : (ts.map fun t => lotS taps t.1).all id = ts.all fun t => lotS taps t.1 := by rw [List.all_map]; rfl
        rw [ea]
        have s456 := s45.trans s6
        cases hall : ts.all fun t => lotS taps t.1 with
        | false =>
          refine iteT (out _ _ s456 ?_)
          rw [et]
          show OptClaim K H6 _ (if (ts.all fun t => lotS taps t.1) = true then some (taps, gathT ts) else none)
          rw [if_neg (by rw [hall]; decide)]
          rfl
        | true =>
          refine iteF ⟨_, rfl, _, rfl, t, lt, taps, ut, ts, rfl, same_seqT s456 htt, SqL.of (s6 _ _ hlt), TermsAt.keep (.of s6) hts, fx.ok, fun x hx => lot_ne (List.all_eq_true.mp hall x hx), by omega, fun v H7 s7 hv => out _ _ (s456.trans s7) ?_⟩
          rw [et]
          show OptClaim K H7 _ (if (ts.all fun t => lotS taps t.1) = true then some (taps, gathT ts) else none)
          rw [if_pos hall]
          exact hv
end
end K17
set_option maxHeartbeats 1000000
namespace K17
open PySem PySem.Spec PyProof.Rows L2 Hx RZ
/-! ### a def of one parameter that may also be called by its name; BadText raised -/
structure OkW (P : Program) (w : World) (K : PySem.W.Frag) (mg : Str → Option Value) (base : Heap) (CX : CXT) (k : Nat) (x q : Str) (sp : Sp) : Prop where
  ex : ∃ f fd, mg x = some (.ref f) ∧ PySem.W.keepIn K (.ref f) = true ∧ Binds K fd [q] [] ∧ FnOk P w K mg base CX k f fd [q] sp ∧ KBn K fd [q] 0 [q] (fun _ ws => ws) (fun _ zs => zs)
section
variable {P : Program} {w : World} {K : PySem.W.Frag} {mg : Str → Option Value} {base : Heap}
theorem OkW.ok {CX : CXT} {k : Nat} {x q : Str} {sp : Sp} (O : OkW P w K mg base CX k x q sp) : Ok P w K mg base CX k x [q] sp := by
  obtain ⟨f, fd, g, kp, b, F, _⟩ := O.ex
  exact ⟨f, fd, g, kp, b, F⟩
theorem FnD.byName {x : Str} {st : Stmt} {f : Addr} {fd : FuncData} {q : Str} (F : FnD K x st f fd)
    (h : ∀ (kV doc pm : Value) (an : Option Addr) (cdv ct u : Value), bindArgs (PySem.W.fnOf x x (defArgs st) (defBody st) (defScope st) .none kV doc pm an cdv ct) ⟨[], [(q, u)]⟩ = pure [(q, u)]) (s : Shared) (u : Value) : BindsTo s fd ⟨[], [(q, u)]⟩ [(q, u)] := by
  obtain ⟨oc, od, dV, kV, doc, pm, an, cdv, ct, osl, rfl, lk, hcd, hD, hK⟩ := F.ex
  rcases hD with ⟨_, rfl⟩ | ⟨e, _⟩
  · exact .of_eq (h kV doc pm an cdv ct u)
  · exact absurd rfl e
theorem OkW.mkX {x q : Str} {st : Stmt} {N : List Str} {k : Nat} {sp : Sp} (D : Dn K mg x st) (S : FnScope N [q] (defScope st))
    (hq : ∀ (kV doc pm : Value) (an : Option Addr) (cdv ct u : Value), bindArgs (PySem.W.fnOf x x (defArgs st) (defBody st) (defScope st) .none kV doc pm an cdv ct) ⟨[], [(q, u)]⟩ = pure [(q, u)])
    (len : ∀ vs H Q E, sp vs H Q E → vs.length = 1)
    (hb : ∀ (kV doc pm : Value) (an : Option Addr) (cdv ct : Value) (us : List Value), us.length = 1 → bindArgs (PySem.W.fnOf x x (defArgs st) (defBody st) (defScope st) .none kV doc pm an cdv ct) ⟨us, []⟩ = pure ([q].zip us))
    (hbody : ∀ (f : Addr) (cdv : Value) (A : Around) (outer : List Env) (s : Shared) (H : Hp) (vs : List V) (Q : VK) (E : XK), Room k (A.deeper (envOfC x (defScope st) s.heap.objs.size f cdv)) → sp vs H Q E →
      ∃ t, PSs (cxOf (L2.CX P w) P w K mg base N x (defScope st) f cdv A outer s H E) (defBody st) t ∧ t { nx := fun _ H' => Q .non H', rt := Q } (L2.start N vs) H) : OkW P w K mg base (L2.CX P w) (k + 1) x q sp := by
  obtain ⟨f, fd, g, F⟩ := D
  exact ⟨f, fd, g, F.kp, F.bindsN hb, F.ok S len fun cdv A outer s H vs Q E hr h => hbody f cdv A outer s H vs Q E hr h, kb_one (FnD.byName F hq)⟩
end
/-- raise BadText(e) -/
abbrev okLine : V → Prop := fun v => ∃ n : Nat, v = .int n ∧ n ≤ 1000000
structure BadT (P : Program) (w : World) (K : PySem.W.Frag) (mg : Str → Option Value) (base : Heap) (C : Addr) : Prop where
  T : OexC K C
  g : mg "BadText" = some (.ref C)
  ex : ∃ fI fd, PySem.W.findIn K (.ref C) "__init__" = some (some (.ref fI)) ∧ PySem.W.typeIn K (.ref fI) = some (.type "function") ∧ FnOk P w K mg base L2.CX0 1 fI fd ["self", "line"] (spIni C "line" okLine) ∧ Binds K fd ["self", "line"] []
/-- the way out of it -/
def Raised (C : Addr) (E : XK) (H : Hp) (n : Nat) : Prop := ∀ d H', Same H H' → H d = none → H' d = some (.xd [("line", .int n)]) → E (.ref C) (some d) H'
theorem raised_mk {C : Addr} {E : XK} {H H1 : Hp} {n : Nat} (s : Same H H1) (hn : n ≤ 1000000) (k : Raised C E H n) {a : Addr} (ha : H1 a = none) :
    spIni C "line" okLine (.ref a :: ([V.int n] ++ [])) (upd H1 a (exo a C none)) (fun v H2 => v = .non ∧ ∃ (d : Addr) (fs : List (Str × V)), H2 a = some (exo a C (some d)) ∧ H2 d = some (exd d fs) ∧ H1 d = none ∧ E (.ref C) (some d) (upd (del H2 a) d (.xd fs))) (fun _ _ _ => False) := by
  refine ⟨a, .int n, rfl, ⟨n, rfl, hn⟩, upd_same, fun d H' hd nda e => ⟨rfl, d, [("line", .int n)], ?_, ?_, ?_, ?_⟩⟩
  · rw [e]; exact upd_same
  · rw [e, upd_ne nda]; exact upd_same
  · rw [upd_ne nda] at hd; exact hd
  · have hd1 : H1 d = none := by rw [upd_ne nda] at hd; exact hd
    have hd0 : H d = none := by
      cases q : H d with
      | none => rfl
      | some o => rw [s d o q] at hd1; cases hd1
    refine k d _ (fun b o q => ?_) hd0 upd_same
    have q1 := s b o q
    have nb : b ≠ d := ne_of_none q1 hd1
    have na : b ≠ a := ne_of_none q1 ha
    rw [upd_ne nb, del_ne na, e, upd_ne na, upd_ne nb, upd_ne na]
    exact q1
theorem at_last {xs : List V} (h : xs ≠ []) : atI xs (-1) = some (xs.getLast h) := by
  have e := atI_last xs.dropLast (xs.getLast h)
  rw [List.dropLast_concat_getLast] at e
  exact e
theorem split_cons (x y : Str) : ∃ a l, Txt.split x y = a :: l := by
  have q := PyProof.Rows.split_pos x y
  cases e : Txt.split x y with
  | nil => rw [e] at q; simp at q
  | cons a l => exact ⟨a, l, rfl⟩
/-! ### read_claim, read_claims: the program -/
abbrev EMP : Str := ""
def claimsOf : Nat → List (Lot × List Term) → List Str → Nat ⊕ List (Lot × List Term)
  | _, done, [] => .inr done
  | n, done, y :: r => match textRead y with
    | none => .inl (n + 1)
    | some c => claimsOf (n + 1) (done ++ [c]) r
def claimsRead (x : Str) : Nat ⊕ List (Lot × List Term) := match claimsOf 0 [] ((Txt.split x NL).take ((Txt.split x NL).length - 1)) with
  | .inl n => .inl n
  | .inr cs => if (Txt.split x NL)[(Txt.split x NL).length - 1]? = some EMP then .inr cs else .inl (Txt.split x NL).length
section
variable {P : Program} {w : World} {K : PySem.W.Frag} {mg : Str → Option Value} {base : Heap}
def spReadClaim (K : PySem.W.Frag) (C : Addr) : Sp := fun vs H Q E => (∃ (v : V) (d : PyData), vs = [v] ∧ Dp K H v d ∧ isTy (tagOf d) "str" = false ∧ Raised C E H 1) ∨
  ∃ x : Str, vs = [.str x] ∧ x.length ≤ 1000 ∧ ((textRead x = none ∧ Raised C E H 1) ∨ ∃ c, textRead x = some c ∧ ∀ v H', Same H H' → ClaimAt K H' v c.1 c.2 → Q v H')
theorem sc_read_claim : FnScope ["text", "claim"] ["text"] (defScope sread_claim) := ⟨rfl, rfl, rfl, by decide +kernel, rfl, by decide +kernel, by decide +kernel⟩
theorem okw_read_claim {C : Addr} (T : BadT P w K mg base C) (D : Dn K mg "read_claim" sread_claim) (B0 : Ok P w K mg base L2.CX0 7 "read_text" ["text"] (spReadText K textRead)) (h_isinstance : mg "isinstance" = none) (h_str : mg "str" = none) :
    OkW P w K mg base (L2.CX P w) 8 "read_claim" "text" (spReadClaim K C) := by
  obtain ⟨_, _, g_read_text, k_read_text, b_read_text, F_read_text⟩ := B0.ex
  obtain ⟨fI, fd, iC, tI, F1, hbI⟩ := T.ex
  refine OkW.mkX D sc_read_claim (fun _ _ _ _ _ _ _ => rfl) (fun vs H Q E h => ?_) (fun _ _ _ _ _ _ us hl => match us, hl with | [_], _ => rfl) (fun f cdv A outer s H vs Q E hr h => ?_)
  · rcases h with ⟨v, d, rfl, _⟩ | ⟨x, rfl, _⟩ <;> rfl
  have nd := sc_read_claim.nd
  have hrI := hr.mono (show 2 ≤ 7 by decide)
  refine ⟨_, (pss_cons (ps_set (i := 1) nd rfl (Or.inl rfl) (pe_ifExp (pt_val (pe_isD "str" rfl h_isinstance h_str (pv 0))) (pe_call F_read_text hr rfl g_read_text k_read_text b_read_text .nil pass0 (pa_cons (pv 0) pa_nil)) pe_non))
  (pss_cons (ps_if (pt_cmpR op_isN (pv 1) pe_non (nomark _))
    (pss_one (ps_raise rfl (takes_of rfl rfl rfl rfl) (pmk_oex T.T iC tI F1 hrI hbI .nil pass0 rfl T.g (pa_cons pe_int pa_nil))))
    pss_nil)
  (pss_one (ps_ret (pv 1))))), ?_⟩
  rcases h with ⟨v, d, rfl, hd, hns, k⟩ | ⟨x, rfl, hx, k⟩
  · refine ⟨_, rfl, d, hd, _, rfl, ?_⟩
    rw [hns]
    exact iteF ⟨_, rfl, rfl, true, rfl, iteT ⟨by simp, fun a ha => raised_mk (Same.refl H) (by decide) k ha⟩⟩
  · refine ⟨_, rfl, .str x, .str x, true, rfl, iteT ⟨_, rfl, x, rfl, hx, fun v H1 s1 hv => ?_⟩⟩
    rcases k with ⟨en, k⟩ | ⟨c, ec, k⟩
    · rw [en] at hv
      obtain rfl : v = .non := hv
      exact ⟨_, rfl, rfl, true, rfl, iteT ⟨by simp, fun a ha => raised_mk s1 (by decide) k ha⟩⟩
    · rw [ec] at hv
      have hc : ClaimAt K H1 v c.1 c.2 := hv
      have vn : v ≠ .non := by
        obtain ⟨a, _, _, _, e, _⟩ := hc
        rw [e]
        exact fun z => by cases z
      exact ⟨_, rfl, rfl, _, rfl, iteG (decide_eq_false vn) ⟨_, rfl, k _ _ s1 hc⟩⟩
def spReadClaims (K : PySem.W.Frag) (C : Addr) : Sp := fun vs H Q E => (∃ (v : V) (d : PyData), vs = [v] ∧ Dp K H v d ∧ isTy (tagOf d) "str" = false ∧ Raised C E H 1) ∨
  ∃ x : Str, vs = [.str x] ∧ x.length ≤ 50000 ∧ (∀ y ∈ Txt.split x NL, y.length ≤ 1000) ∧ ((∃ n, claimsRead x = .inl n ∧ Raised C E H n) ∨ ∃ cs, claimsRead x = .inr cs ∧ ∀ l us H', Same H H' → H' l = some (.lst us) → Paired (fun v c => ClaimAt K H' v c.1 c.2) us cs → Q (.ref l) H')
theorem sc_read_claims : FnScope ["text", "lines", "claims", "at", "claim"] ["text"] (defScope sread_claims) := ⟨rfl, rfl, rfl, by decide +kernel, rfl, by decide +kernel, by decide +kernel⟩
theorem ok_read_claims {C : Addr} (T : BadT P w K mg base C) (D : Dn K mg "read_claims" sread_claims) (B0 : Ok P w K mg base L2.CX0 7 "read_text" ["text"] (spReadText K textRead)) (h_isinstance : mg "isinstance" = none) (h_str : mg "str" = none) (h_len : mg "len" = none) (h_range : mg "range" = none) :
    Ok P w K mg base (L2.CX P w) 8 "read_claims" ["text"] (spReadClaims K C) := by
  obtain ⟨_, _, g_read_text, k_read_text, b_read_text, F_read_text⟩ := B0.ex
  obtain ⟨fI, fd, iC, tI, F1, hbI⟩ := T.ex
  refine Ok.mkX D sc_read_claims (fun vs H Q E h => ?_) (fun _ _ _ _ _ _ us hl => match us, hl with | [_], _ => rfl) (fun f cdv A outer s H vs Q E hr h => ?_)
  · rcases h with ⟨v, d, rfl, _⟩ | ⟨x, rfl, _⟩ <;> rfl
  have nd := sc_read_claims.nd
  have hrI := hr.mono (show 2 ≤ 7 by decide)
  refine ⟨_, (pss_cons (ps_if (pt_not (pt_val (pe_isD "str" rfl h_isinstance h_str (pv 0))))
    (pss_one (ps_raise rfl (takes_of rfl rfl rfl rfl) (pmk_oex T.T iC tI F1 hrI hbI .nil pass0 rfl T.g (pa_cons pe_int pa_nil))))
    pss_nil)
  (pss_cons (ps_set (i := 1) nd rfl (Or.inl rfl) (pe_split (pv 0) pe_str))
  (pss_cons (ps_set (i := 2) nd rfl (Or.inl rfl) (pe_lst pa_nil))
  (pss_cons (ps_for (passes_of rfl) rfl (pi_range1 rfl h_range (pa_cons (pe_op op_sub (pe_lenS rfl h_len (pv 1)) pe_int) pa_nil)) (pg_name (i := 3) nd rfl (Or.inl rfl))
    (pss_cons (ps_set (i := 4) nd rfl (Or.inl rfl) (pe_call F_read_text hr rfl g_read_text k_read_text b_read_text .nil pass0 (pa_cons (pe_ix ix_list (pv 1) (pv 3) (fun _ _ => rfl)) pa_nil)))
    (pss_cons (ps_if (pt_cmpR op_isN (pv 4) pe_non (nomark _))
      (pss_one (ps_raise rfl (takes_of rfl rfl rfl rfl) (pmk_oex T.T iC tI F1 hrI hbI .nil pass0 rfl T.g (pa_cons (pe_op op_add (pv 3) pe_int) pa_nil))))
      pss_nil)
    (pss_one (ps_expr (pe_bm PySem.F.plainAttrs_list PySem.F.slot_list_append PySem.F.type_list_append mt_append (pv 2) (pa_cons (pv 4) pa_nil)))))))
  (pss_cons (ps_if (pt_cmpR op_ne (pe_ix ix_list (pv 1) (pe_un un_neg pe_int) (fun _ _ => rfl)) pe_str (nomark _))
    (pss_one (ps_raise rfl (takes_of rfl rfl rfl rfl) (pmk_oex T.T iC tI F1 hrI hbI .nil pass0 rfl T.g (pa_cons (pe_lenS rfl h_len (pv 1)) pa_nil))))
    pss_nil)
  (pss_one (ps_ret (pv 2)))))))), ?_⟩
  rcases h with ⟨v, d, rfl, hd, hns, k⟩ | ⟨x, rfl, hx, wl, k⟩
  · refine ⟨_, rfl, d, hd, _, rfl, ?_⟩
    rw [hns]
    exact iteT ⟨by simp, fun a ha => raised_mk (Same.refl H) (by decide) k ha⟩
  refine ⟨_, rfl, .str x, .str x, true, rfl, iteF ?_⟩
  obtain ⟨l0, ls, ew⟩ := split_cons x NL
  refine ⟨_, rfl, ⟨_, rfl⟩, x, NL, rfl, rfl, by decide +kernel, (by rw [sizeLine_eq]; omega), fun l hl => ?_⟩
  have s1 := same_upd (o := .lst ((Txt.split x NL).map V.str)) hl
  have hls := SqL.of (K := K) (upd_same (H := H) (a := l) (o := .lst ((Txt.split x NL).map V.str)))
  have wcnt := PyProof.Rows.split_le x NL
  have ecr : claimsRead x = match claimsOf 0 [] ((Txt.split x NL).take ((Txt.split x NL).length - 1)) with
    | .inl n => .inl n
    | .inr cs => if (Txt.split x NL)[(Txt.split x NL).length - 1]? = some EMP then .inr cs else .inl (Txt.split x NL).length := by
    unfold claimsRead
    cases claimsOf 0 [] ((Txt.split x NL).take ((Txt.split x NL).length - 1)) <;> rfl
  generalize eL : Txt.split x NL = L at *
  have lpos : L.length = ls.length + 1 := by rw [ew]; rfl
  generalize upd H l (.lst (L.map V.str)) = H1 at s1 hls ⊢
  refine ⟨by rw [sizeLine_eq]; simp, fun p hp => ?_⟩
  have s2 := same_upd (o := .lst []) hp
  have hls2 := same_seqL s2 hls
  have nH : ∀ {b : Addr} {u : HO}, H1 b = some u → b ≠ p := fun e => ne_of_none e hp
  generalize em : L.take (L.length - 1) = mids at ecr
  have lmid : mids.length = ls.length := by
    rw [← em, List.length_take, lpos]
    omega
  have gmid : ∀ i, i < mids.length → L[i]? = mids[i]? := fun i hi => by
    rw [← em, List.getElem?_take_of_lt (by omega)]
  refine ⟨_, rfl, l, _, rfl, .inl hls2, _, _, rfl, rfl, _, rfl, ?_, ?_, ?_⟩
  · rw [List.length_map]
    omega
  · rw [List.length_map]
    omega
  have en : (((L.map V.str).length : Int) - 1).toNat = mids.length := by
    rw [List.length_map, lmid, lpos]
    simp
  rw [en]
  let Pv : Nat → L2.St → Hp → Prop := fun i σ H' => ∃ o1 o2 us done, σ = [some (.str x), some (.ref l), some (.ref p), o1, o2] ∧ Same H1 H' ∧ H' p = some (.lst us) ∧ Paired (fun v (c : Lot × List Term) => ClaimAt K H' v c.1 c.2) us done ∧ done.length = i ∧ claimsOf 0 [] mids = claimsOf i done (mids.drop i)
  refine for_range Pv ⟨_, _, [], [], rfl, s2, upd_same, .nil, rfl, rfl⟩ ?_ ?_
  · rintro i σ H' hi ⟨o1, o2, us, done, rfl, s4, hup, hus, dl, erp⟩
    obtain ⟨ln, hln⟩ : ∃ ln, mids[i]? = some ln := ⟨_, List.getElem?_eq_getElem hi⟩
    have mln : ln ∈ L := List.mem_of_getElem? (by rw [gmid i hi]; exact hln)
    have lln := wl ln mln
    have edrop : mids.drop i = ln :: mids.drop (i + 1) := by
      rw [List.drop_eq_getElem_cons hi]
      congr 1
      rw [List.getElem?_eq_getElem hi] at hln
      exact Option.some.inj hln
    have hls4 := same_seqL s4 hls
    rw [edrop] at erp
    have estep : claimsOf i done (ln :: mids.drop (i + 1)) = match textRead ln with | none => .inl (i + 1) | some c => claimsOf (i + 1) (done ++ [c]) (mids.drop (i + 1)) := by
      show (match textRead ln with | none => _ | some c => _) = _
      cases textRead ln <;> rfl
    refine ⟨_, rfl, _, rfl, l, _, (i : Int), .str ln, rfl, ?_, hls4, atI_nat (by rw [List.getElem?_map, gmid i hi, hln]; rfl), ln, rfl, lln, fun v H5 s5 hv => ?_⟩
    · exact congrArg V.int (by omega)
    have s45 := s4.trans s5
    have s15 := s1.trans s45
    cases hR : textRead ln with
    | none =>
      rw [hR] at hv estep
      obtain rfl : v = .non := hv
      refine ⟨_, rfl, rfl, true, rfl, iteT ⟨_, rfl, _, _, rfl, rfl, by simp, fun a ha => ?_⟩⟩
      have e2 : claimsOf 0 [] mids = .inl (i + 1) := by rw [erp, estep]
      rw [e2] at ecr
      have ecr2 : claimsRead x = .inl (i + 1) := ecr
      have kr : Raised C E H (i + 1) := by
        rcases k with ⟨n, e, r⟩ | ⟨cs, e, _⟩
        · rw [ecr2] at e
          obtain rfl : i + 1 = n := Sum.inl.inj e
          exact r
        · rw [ecr2] at e
          cases e
      have z := raised_mk s15 (n := i + 1) (by omega) kr ha
      rw [show (((i + 1 : Nat)) : Int) = 0 + (i : Int) + 1 by omega] at z
      exact z
    | some c =>
      rw [hR] at hv estep
      have hc : ClaimAt K H5 v c.1 c.2 := hv
      have vn : v ≠ .non := by
        obtain ⟨a, _, _, _, e, _⟩ := hc
        rw [e]
        exact fun z => by cases z
      have hup5 := s5 _ _ hup
      have ul := paired_len hus
      refine ⟨_, rfl, rfl, _, rfl, iteG (decide_eq_false vn) ⟨_, rfl, .inl ⟨rfl, _, SqL.of hup5⟩, _, rfl, p, us, v, rfl, rfl, hup5, by rw [sizeLine_eq]; omega, ?_⟩⟩
      refine ⟨_, _, us ++ [v], done ++ [c], rfl, fun b o e => ?_, upd_same, ?_, by rw [List.length_append, dl]; rfl, ?_⟩
      · rw [upd_ne (nH e)]
        exact s45 _ _ e
      · exact paired_snoc (paired_imp hus fun v c h => (h.keep (.of s5)).keep (.lst hup5)) (hc.keep (.lst hup5))
      · rw [erp, estep]
  · rintro σ H' ⟨o1, o2, us, done, rfl, s4, hup, hus, dl, erp⟩
    rw [List.drop_length] at erp
    have er : claimsOf 0 [] mids = .inr done := erp
    have hls4 := same_seqL s4 hls
    rw [er] at ecr
    have ecr2 : claimsRead x = if L[L.length - 1]? = some EMP then .inr done else .inl L.length := ecr
    obtain ⟨lz, hlz⟩ : ∃ lz, L[L.length - 1]? = some lz := ⟨_, List.getElem?_eq_getElem (by omega)⟩
    refine ⟨_, rfl, _, rfl, l, _, -1, .str lz, rfl, rfl, hls4, ?_, rfl, _, rfl, ?_⟩
    · have hne : L.map V.str ≠ [] := fun e => by
        have := congrArg List.length e
        rw [List.length_map] at this
        simp at this
        rw [this] at lpos
        simp at lpos
      rw [at_last hne, List.getLast_eq_getElem]
      have e2 : L[L.length - 1] = lz := by
        rw [List.getElem?_eq_getElem (by omega)] at hlz
        exact Option.some.inj hlz
      simp only [List.getElem_map, List.length_map, e2]
    rw [deq_str]
    rw [hlz] at ecr2
    by_cases hz : lz = EMP
    · rw [decide_eq_true hz]
      rw [if_pos (by rw [hz])] at ecr2
      refine iteF ⟨_, rfl, ?_⟩
      rcases k with ⟨n, e, _⟩ | ⟨cs, e, k⟩
      · rw [ecr2] at e
        cases e
      · rw [ecr2] at e
        obtain rfl : done = cs := Sum.inr.inj e
        exact k p us H' (s1.trans s4) hup hus
    · rw [decide_eq_false hz]
      rw [if_neg (fun q => hz (Option.some.inj q))] at ecr2
      refine iteT ⟨_, rfl, l, _, rfl, .inl hls4, by simp, fun a ha => ?_⟩
      rcases k with ⟨n, e, r⟩ | ⟨cs, e, _⟩
      · rw [ecr2] at e
        obtain rfl : L.length = n := Sum.inl.inj e
        have z := raised_mk (s1.trans s4) (n := L.length) (by omega) r ha
        rw [List.length_map]
        exact z
      · rw [ecr2] at e
        cases e
end
end K17
set_option maxHeartbeats 1000000
namespace K17
open PySem PySem.Spec PyProof.Rows L2 Hx RZ
/-! ### the law's judges: names, lots, claims -/
theorem op_notIn_seqK {X : Cx} {K : PySem.W.Frag} (hK : X.K = K) : OpR X (compareOp .NotIn) (rIn K true) := by
  subst hK
  exact op_notIn_seq
section
variable {P : Program} {w : World} {K : PySem.W.Frag} {mg : Str → Option Value} {base : Heap}
def spNameP : Sp := fun vs H Q _ => ∃ x : Str, vs = [.str x] ∧ Plain x ∧ x.length ≤ 100000 ∧ ∀ H', Same H H' → Q (.bl (nameS x)) H'
theorem sc_heart_is_name : FnScope ["item", "sign"] ["item"] (defScope sL_heart_is_name) := ⟨rfl, rfl, rfl, by decide +kernel, rfl, by decide +kernel, by decide +kernel⟩
theorem ok_heart_is_name (D : Dn K mg "_law_heart_is_name" sL_heart_is_name) (h_isinstance : mg "isinstance" = none) (h_str : mg "str" = none) (h_len : mg "len" = none) : Ok P w K mg base L2.CX0 1 "_law_heart_is_name" ["item"] spNameP := by
  refine Ok.mk0 D sc_heart_is_name (fun vs H Q E h => ?_) (fun _ _ _ _ _ _ us hl => match us, hl with | [_], _ => rfl) (fun f cdv A outer s H vs Q E hr h => ?_)
  · obtain ⟨x, rfl, _⟩ := h
    rfl
  obtain ⟨x, rfl, pl, hx, k⟩ := h
  have nd := sc_heart_is_name.nd
  have hu64 := hr.units
  refine ⟨_, (pss_cons (ps_if (PW.pt (pw_or (pt_not (pt_val (pe_isD "str" rfl h_isinstance h_str (pv 0)))) (pw_or (pt_not (pt_chain op_le op_le pe_int (pe_callB call_len_str (by rfl) h_len (by decide +kernel) (pa_cons (pv 0) pa_nil)) pe_int)) (pw_or1 (pt_cmpR op_notIn_sign (pe_ix ix_str (pv 0) pe_int (fun _ _ => rfl)) pe_str (by rfl))))))
    (pss_one (ps_ret pe_bl))
    pss_nil)
  (pss_one (ps_ret (pe_cmpR (op_eqD hu64) (pe_lc (own := [("sign", 1)]) (g := gName 1) rfl nd (pi_str (pv 0)) (blkOk_by (own := [("sign", 1)]) (N := ["item", "sign"]) (sc := defScope sL_heart_is_name) (by decide +kernel)) (fun _ _ _ _ _ => pg_name (i := 1) nd rfl (Or.inl rfl)) (fun _ _ _ _ _ => pts_one (pt_cmpR op_notIn_sign (pv 1) pe_str (by rfl))) (fun _ _ _ _ _ => (pv 1))) (pe_lst pa_nil) (nomark _))))), ?_⟩
  have hsz : x.length ≤ sizeLine := by rw [sizeLine_eq]; omega
  have hcs : x.cps.toList.length = x.length := by simp [Str.length]
  have fal : ∀ H', Same H H' → nameS x = false → Q (.bl false) H' := fun H' s e => by
    have z := k H' s
    rw [e] at z
    exact z
  refine ⟨_, rfl, .str x, .str x, true, rfl, iteF ?_⟩
  refine ⟨_, rfl, x, rfl, hsz, _, _, rfl, rfl, _, rfl, ?_⟩
  by_cases h1 : 1 ≤ (x.length : Int)
  · rw [decide_eq_true h1]
    refine iteT ⟨_, _, rfl, rfl, _, rfl, ?_⟩
    by_cases h8 : (x.length : Int) ≤ 8
    · rw [decide_eq_true h8]
      refine iteF ?_
      obtain ⟨c, r, hcr⟩ : ∃ c r, x.cps.toList = c :: r := by
        cases e : x.cps.toList with
        | nil => rw [e] at hcs; simp at hcs; omega
        | cons c r => exact ⟨c, r, rfl⟩
      have hnm : nameS x = (decide (c ∈ LET.cps.toList) && x.cps.toList.all fun c => decide (c ∈ LED.cps.toList)) := by
        unfold nameS
        rw [decide_eq_true (show 1 ≤ x.length by omega), decide_eq_true (show x.length ≤ 8 by omega), hcr]
        rfl
      refine ⟨_, rfl, x, 0, c, rfl, rfl, hsz, ?_, c, LET, rfl, rfl, _, rfl, ?_⟩
      · exact atI_nat (xs := x.cps.toList) (j := 0) (v := c) (by rw [hcr]; rfl)
      by_cases hc : c ∈ LET.cps.toList
      · rw [decide_eq_true hc] at hnm ⊢
        rw [Bool.true_and] at hnm
        refine iteF ⟨_, rfl, x, rfl, fun Z hZ => ?_⟩
        have n8 : x.cps.size ≤ 8 := by have := hcs; simp at this; omega
        have lx : x.cps.toList.length = x.cps.size := by simp
        refine lc_filt x.cps.toList (fun c => !decide (c ∈ LED.cps.toList)) (fun v c _ => v = .str ⟨#[c]⟩) (fun _ _ _ _ _ h => h) hZ (by rw [sizeLine_eq]; omega) (fun i H hi _ => by rw [lx] at hi; exact hi) (fun H _ => by rw [lx]; exact Nat.le_refl _) ?_ ?_
        · rintro i c y H1 H' F G hc' s1 ⟨rfl, c2, hc2, rfl⟩ kF kG
          rw [Array.getElem?_toList, hc2] at hc'
          obtain rfl : c2 = c := Option.some.inj hc'
          refine ⟨rfl, _, rfl, c2, LED, rfl, rfl, _, rfl, ?_⟩
          cases hz : !decide (c2 ∈ LED.cps.toList) with
          | false => exact iteF (kG hz _ (Same.refl _))
          | true => exact iteT ⟨_, rfl, kF hz _ _ rfl (Same.refl _)⟩
        · intro acc H1 s1 e hacc
          have ea := paired_strs (f := fun c : Nat => (⟨#[c]⟩ : Str)) hacc
          subst ea
          refine strs_eq (fun y hy => ?_) e fun H2 s2 => ?_
          · obtain ⟨c2, hc2, rfl⟩ := List.mem_map.mp hy
            have m := (List.mem_filter.mp hc2).1
            intro d hd
            have e2 : TL.tl (⟨#[c2]⟩ : Str) = [c2] := rfl
            rw [e2] at hd
            rw [List.mem_singleton.mp hd]
            exact pl c2 m
          · have z := k H2 (s1.trans s2)
            rw [hnm] at z
            have ee : (((x.cps.toList.filter fun c => !decide (c ∈ LED.cps.toList)).map fun c : Nat => (⟨#[c]⟩ : Str)).isEmpty) = x.cps.toList.all fun c => decide (c ∈ LED.cps.toList) := by
              rw [Bool.eq_iff_iff, List.isEmpty_iff, List.map_eq_nil_iff, List.filter_eq_nil_iff, List.all_eq_true]
              constructor
              · intro h c hc
                have := h c hc
                simpa using this
              · intro h c hc
                have := h c hc
                simpa using this
            rw [ee]
            exact z
      · rw [decide_eq_false hc] at hnm ⊢
        exact iteT (fal _ (Same.refl _) hnm)
    · rw [decide_eq_false h8]
      refine iteT (fal _ (Same.refl _) ?_)
      unfold nameS
      rw [decide_eq_false (show ¬ x.length ≤ 8 by omega)]
      simp
  · rw [decide_eq_false h1]
    refine iteF ⟨_, rfl, iteT (fal _ (Same.refl _) ?_)⟩
    unfold nameS
    rw [decide_eq_false (show ¬ 1 ≤ x.length by omega)]
    simp
/-- a tuple of plain texts -/
def spNamesP (K : PySem.W.Frag) : Sp := fun vs H Q _ => ∃ (a : Addr) (ns : Lot), vs = [.ref a] ∧ SqT K H a (ns.map V.str) ∧ Sm ns ∧ (∀ x ∈ ns, Plain x) ∧ ∀ H', Same H H' → Q (.bl (namesS ns)) H'
theorem sc_cl_are_names : FnScope ["thing", "item", "one", "other"] ["thing"] (defScope sL_cl_are_names) := ⟨rfl, rfl, rfl, by decide +kernel, rfl, by decide +kernel, by decide +kernel⟩
theorem ok_cl_are_names (D : Dn K mg "_law_cl_are_names" sL_cl_are_names) (B : Ok P w K mg base L2.CX0 1 "_law_heart_is_name" ["item"] spNameP) (h_isinstance : mg "isinstance" = none) (h_tuple : mg "tuple" = none) (h_zip : mg "zip" = none) :
    Ok P w K mg base L2.CX0 2 "_law_cl_are_names" ["thing"] (spNamesP K) := by
  obtain ⟨_, _, g_heart_is_name, k_heart_is_name, b_heart_is_name, F_heart_is_name⟩ := B.ex
  refine Ok.mk0 D sc_cl_are_names (fun vs H Q E h => ?_) (fun _ _ _ _ _ _ us hl => match us, hl with | [_], _ => rfl) (fun f cdv A outer s H vs Q E hr h => ?_)
  · obtain ⟨a, ns, rfl, _⟩ := h
    rfl
  obtain ⟨a, ns, rfl, ha, ⟨hl, hm⟩, pl, k⟩ := h
  have nd := sc_cl_are_names.nd
  have hu64 := hr.units
  refine ⟨_, (pss_cons (ps_if (PW.pt (pw_or (pt_not (pt_val (pe_isD "tuple" rfl h_isinstance h_tuple (pv 0)))) (pw_or1 (pt_cmpR (op_neD hu64) (pe_lc (own := [("item", 1)]) (g := gName 1) rfl nd (pi_tup (pv 0)) (blkOk_by (own := [("item", 1)]) (N := ["thing", "item", "one", "other"]) (sc := defScope sL_cl_are_names) (by decide +kernel)) (fun _ _ _ _ _ => pg_name (i := 1) nd rfl (Or.inl rfl)) (fun _ _ _ _ _ => pts_one (pt_not (pt_val (pe_call F_heart_is_name hr rfl g_heart_is_name k_heart_is_name b_heart_is_name .nil pass0 (pa_cons (pv 1) pa_nil))))) (fun _ _ _ _ _ => pe_int)) (pe_lst pa_nil) (nomark _)))))
    (pss_one (ps_ret pe_bl))
    pss_nil)
  (pss_one (ps_ret (pe_cmpR (op_eqD hu64) (pe_lc (own := [("one", 2), ("other", 3)]) (g := gTup K 2 (gCons (gName 2) (gCons (gName 3) gNil))) rfl nd (pi_zipA (by rfl) h_zip (pa_cons (pv 0) (pa_cons (pe_slice sl_tupA (pv 0) (po_some pe_int) po_none) pa_nil))) (blkOk_by (own := [("one", 2), ("other", 3)]) (N := ["thing", "item", "one", "other"]) (sc := defScope sL_cl_are_names) (by decide +kernel)) (fun _ _ _ _ _ => pg_tup (by rfl) (pgs_cons (pg_name (i := 2) nd rfl (Or.inl rfl)) (pgs_cons (pg_name (i := 3) nd rfl (Or.inl rfl)) pgs_nil))) (fun _ _ _ _ _ => pts_one (pt_cmpR op_ge_str (pv 2) (pv 3) (nomark _))) (fun _ _ _ _ _ => pe_int)) (pe_lst pa_nil) (nomark _))))), ?_⟩
  refine ⟨_, rfl, .tuple (ns.map PyData.str), .tup ha (dpAll_strs ns), true, rfl, iteF ?_⟩
  refine ⟨_, rfl, a, rfl, ⟨_, ha⟩, fun L hL => ?_⟩
  refine lc_onesD ns (fun x => !nameS x) hL (by rw [sizeLine_eq]; omega) (fun i H1 hi s1 => ?_) (fun H1 s1 => ?_) ?_ ?_
  · exact ⟨_, _, same_seqT s1 ha, List.getElem?_eq_getElem (by simpa using hi)⟩
  · exact ⟨_, same_seqT s1 ha, by simp⟩
  · rintro i y x H1 H' F hy s1 ⟨rfl, yx⟩ kk
    have e := yx _ (same_seqT s1 ha)
    rw [List.getElem?_map, hy] at e
    obtain rfl : V.str y = x := Option.some.inj e
    have my := List.mem_of_getElem? hy
    exact ⟨rfl, _, rfl, y, rfl, pl y my, hm y my, fun H4 s4 => ⟨_, rfl, kk _ s4⟩⟩
  · intro c H1 s1 e hz
    refine ones_ne e fun H2 s2 => ?_
    have s12 := s1.trans s2
    refine ⟨_, rfl, ?_⟩
    rw [hz]
    have ea : (ns.all fun b => !!nameS b) = ns.all nameS := by simp
    rw [ea]
    cases hall : ns.all nameS with
    | false =>
      refine iteT ?_
      have z := k H2 s12
      unfold namesS at z
      rw [hall] at z
      exact z
    | true =>
      refine iteF ⟨_, rfl, _, rfl, _, rfl, ?_⟩
      show tNoPart _ _ _
      unfold tNoPart
      refine rSlA_any (same_seqT s12 ha) (cut_from 1) fun b H3 s3 hb => ?_
      rw [← List.map_drop] at hb
      have s123 := s12.trans s3
      refine ⟨a, b, _, _, rfl, .inr ⟨same_seqT s123 ha, hb, fun Z hZ => ?_⟩⟩
      have lz : (ns.zip (ns.drop 1)).length = (ns.drop 1).length := by rw [List.length_zip, List.length_drop]; omega
      refine lc_onesD (ns.zip (ns.drop 1)) (fun p => !decide (p.1.cps.toList < p.2.cps.toList)) hZ (by rw [lz, List.length_drop, sizeLine_eq]; omega) (fun i H4 hi s4 => ?_) (fun H4 s4 => ?_) ?_ ?_
      · rw [lz, List.length_drop] at hi
        exact ⟨_, _, _, _, same_seqT (s123.trans s4) ha, same_seqT s4 hb, List.getElem?_eq_getElem (by rw [List.length_map]; omega), List.getElem?_eq_getElem (by rw [List.length_map, List.length_drop]; omega)⟩
      · exact ⟨_, _, same_seqT (s123.trans s4) ha, same_seqT s4 hb, .inr (by rw [lz, List.length_map]; exact Nat.le_refl _)⟩
      · rintro i ⟨x, y⟩ _ H4 _ F hp s4 ⟨T, x', y', rfl, hT, rfl, qx, qy⟩ kk
        have ex := qx _ (same_seqT (s123.trans s4) ha)
        have ey := qy _ (same_seqT s4 hb)
        obtain ⟨h1, h2⟩ := List.getElem?_zip_eq_some.mp hp
        rw [List.getElem?_map, h1] at ex
        rw [List.getElem?_map, h2] at ey
        obtain rfl : V.str x = x' := Option.some.inj ex
        obtain rfl : V.str y = y' := Option.some.inj ey
        have sT := zipT_same (x := V.str x) (y := V.str y) hT
        refine ⟨T, _, rfl, SqT.of upd_same, rfl, _, _, rfl, _, _, rfl, ⟨rfl, rfl, _, rfl, _, rfl, x, y, rfl, rfl, _, rfl, kk _ sT⟩⟩
      · intro c H4 s4 e2 hz2
        refine ones_eq e2 fun H5 s5 => ?_
        have z := k H5 (s123.trans (s4.trans s5))
        unfold namesS riseS at z
        rw [hall, Bool.true_and] at z
        rw [hz2]
        have eb : ((ns.zip (ns.drop 1)).all fun b => !!decide (b.1.cps.toList < b.2.cps.toList)) = (ns.zip (ns.drop 1)).all fun p => decide (p.1.cps.toList < p.2.cps.toList) := by simp
        rw [eb]
        exact z
end
end K17
set_option maxHeartbeats 1000000
namespace K17
open PySem PySem.Spec PyProof.Rows L2 Hx RZ
/-! ### the law's judges: lots, claims -/
theorem name_plain {x : Str} (h : nameS x = true) : Plain x := by
  unfold nameS at h
  simp only [Bool.and_eq_true] at h
  intro c hc
  have q := List.all_eq_true.mp h.2 c hc
  rw [decide_eq_true_eq] at q
  have e : (LED.cps.toList.all fun c => decide (c < 128)) = true := by decide +kernel
  exact of_decide_eq_true (List.all_eq_true.mp e c q)
theorem names_plain {ns : Lot} (h : namesS ns = true) : ∀ x ∈ ns, Plain x := fun x hx => by
  unfold namesS at h
  rw [Bool.and_eq_true] at h
  exact name_plain (List.all_eq_true.mp h.1 x hx)
theorem lot_sh {ns : Lot} (h : ∀ x ∈ ns, Plain x) : Sh 1 (lotD ns) := sh_tup (n := 0) fun d hd => by
  obtain ⟨x, hx, rfl⟩ := List.mem_map.mp hd
  exact ⟨plain_lay (h x hx), by simp [PyData.depth]⟩
theorem num_sh (n : Num) : Sh 1 n.data := by
  cases n with
  | w i => exact (sh_int i).up (by decide)
  | q t b =>
    refine sh_tup (n := 0) fun d hd => ?_
    simp at hd
    rcases hd with rfl | rfl
    · exact sh_int _
    · exact sh_int _
theorem claim_sh {taps : Lot} {L : List Term} (h : ∀ x ∈ taps, Plain x) (k : ∀ t ∈ L, ∀ x ∈ t.1, Plain x) : SeqAt.shaped (claimD taps L) = true := (sh_tup (n := 3) fun d hd => by
  simp at hd
  rcases hd with rfl | rfl
  · exact (lot_sh h).up (by decide)
  · exact sh_tup (n := 2) fun d hd => by
      obtain ⟨t, ht, rfl⟩ := List.mem_map.mp hd
      exact sh_tup (n := 1) fun e he => by
        simp at he
        rcases he with rfl | rfl
        · exact lot_sh (k t ht)
        · exact num_sh t.2).shaped (by decide)
mutual
theorem eqv_self : ∀ d : PyData, (∀ a, d ≠ .dict a) → d.canLay0 = true → PyData.eqv d d = true
  | .none, _, _ => by simp [PyData.eqv]
  | .bool _, _, _ => by simp [PyData.eqv]
  | .int _, _, _ => by simp [PyData.eqv]
  | .str _, _, _ => by simp [PyData.eqv]
  | .list xs, _, h => by
    simp only [PyData.eqv]
    exact eqvAll_self xs (by simpa [PyData.canLay0] using h)
  | .tuple xs, _, h => by
    simp only [PyData.eqv]
    exact eqvAll_self xs (by simpa [PyData.canLay0] using h)
  | .dict _, h, _ => absurd rfl (h _)
theorem eqvAll_self : ∀ ds : List PyData, PyData.canLayAll0 ds = true → PyData.eqvAll ds ds = true
  | [], _ => by simp [PyData.eqvAll]
  | d :: r, h => by
    simp only [PyData.canLayAll0, Bool.and_eq_true] at h
    simp only [PyData.eqvAll, Bool.and_eq_true]
    exact ⟨eqv_self d (fun a e => by rw [e] at h; simp [PyData.canLay0] at h) h.1, eqvAll_self r h.2⟩
end
theorem eqv_shaped {d : PyData} (h : SeqAt.shaped d = true) : PyData.eqv d d = true := by
  have q := SeqAt.canLay_of_shaped h
  exact eqv_self d (fun a e => by rw [e] at q; simp [PyData.canLay0] at q) q
/-- taps, and canonical terms of right lots -/
structure RightG (taps : Lot) (L : List Term) : Prop where
  tp : tapsS taps = true
  canon : Canon L
  lots : ∀ t ∈ L, lotS taps t.1 = true
  few : L.length ≤ 5000
theorem RightC.g {taps : Lot} {L : List Term} (h : RightC taps L) : RightG taps L := ⟨h.tp, h.canon, h.lots, by have := h.few; omega⟩
section
variable {P : Program} {w : World} {K : PySem.W.Frag} {mg : Str → Option Value} {base : Heap}
def spLotP (K : PySem.W.Frag) : Sp := fun vs H Q _ => ∃ (t a : Addr) (taps ns : Lot), vs = [.ref t, .ref a] ∧ SqT K H t (taps.map V.str) ∧ Sm taps ∧ SqT K H a (ns.map V.str) ∧ Sm ns ∧ (∀ x ∈ ns, Plain x) ∧ ∀ H', Same H H' → Q (.bl (lotS taps ns)) H'
theorem sc_cl_is_lot : FnScope ["taps_here", "thing", "item"] ["taps_here", "thing"] (defScope sL_cl_is_lot) := ⟨rfl, rfl, rfl, by decide +kernel, rfl, by decide +kernel, by decide +kernel⟩
theorem ok_cl_is_lot (D : Dn K mg "_law_cl_is_lot" sL_cl_is_lot) (B : Ok P w K mg base L2.CX0 2 "_law_cl_are_names" ["thing"] (spNamesP K)) (h_len : mg "len" = none) : Ok P w K mg base L2.CX0 3 "_law_cl_is_lot" ["taps_here", "thing"] (spLotP K) := by
  obtain ⟨_, _, g_cl_are_names, k_cl_are_names, b_cl_are_names, F_cl_are_names⟩ := B.ex
  refine Ok.mk0 D sc_cl_is_lot (fun vs H Q E h => ?_) (fun _ _ _ _ _ _ us hl => match us, hl with | [_, _], _ => rfl) (fun f cdv A outer s H vs Q E hr h => ?_)
  · obtain ⟨t, a, taps, ns, rfl, _⟩ := h
    rfl
  obtain ⟨t, a, taps, ns, rfl, ht, tm, ha, nm, pl, k⟩ := h
  have nd := sc_cl_is_lot.nd
  have hu64 := hr.units
  refine ⟨_, (pss_cons (ps_if (PW.pt (pw_or (pt_not (pt_val (pe_call F_cl_are_names hr rfl g_cl_are_names k_cl_are_names b_cl_are_names .nil pass0 (pa_cons (pv 1) pa_nil)))) (pw_or1 (pt_not (pt_chain op_lt op_lt pe_int (pe_lenS rfl h_len (pv 1)) (pe_lenS rfl h_len (pv 0)))))))
    (pss_one (ps_ret pe_bl))
    pss_nil)
  (pss_one (ps_ret (pe_cmpR (op_eqD hu64) (pe_lc (own := [("item", 2)]) (g := gName 2) rfl nd (pi_tup (pv 1)) (blkOk_by (own := [("item", 2)]) (N := ["taps_here", "thing", "item"]) (sc := defScope sL_cl_is_lot) (by decide +kernel)) (fun _ _ _ _ _ => pg_name (i := 2) nd rfl (Or.inl rfl)) (fun _ _ _ _ _ => pts_one (pt_cmpR (op_notIn_seqK (K := K) rfl) (pv 2) (pv 0) (by rfl))) (fun _ _ _ _ _ => pe_int)) (pe_lst pa_nil) (nomark _))))), ?_⟩
  refine ⟨_, rfl, a, ns, rfl, ha, nm, pl, fun H1 s1 => ⟨_, rfl, ?_⟩⟩
  have no : ∀ H', Same H H' → lotS taps ns = false → Q (.bl false) H' := fun H' s e => by
    have z := k H' s
    rw [e] at z
    exact z
  cases hn : namesS ns with
  | false => exact iteT (no _ s1 (by unfold lotS; rw [hn]; rfl))
  | true =>
    have ha1 := same_seqT s1 ha
    have ht1 := same_seqT s1 ht
    refine iteF ⟨_, rfl, a, _, rfl, .inr ha1, _, _, rfl, rfl, _, rfl, ?_⟩
    rw [List.length_map]
    by_cases h1 : 1 ≤ ns.length
    · rw [show decide ((0 : Int) < (ns.length : Int)) = true from decide_eq_true (by omega)]
      refine iteT ⟨_, rfl, t, _, rfl, .inr ht1, _, _, rfl, rfl, _, rfl, ?_⟩
      rw [List.length_map]
      by_cases h2 : ns.length < taps.length
      · rw [show decide ((ns.length : Int) < (taps.length : Int)) = true from decide_eq_true (by omega)]
        refine iteF ⟨_, rfl, a, rfl, ⟨_, ha1⟩, fun L hL => ?_⟩
        have nml := nm.1
        refine lc_onesD ns (fun x => !decide (x ∈ taps)) hL (by rw [sizeLine_eq]; omega) (fun i H2 hi s2 => ?_) (fun H2 s2 => ?_) ?_ ?_
        · exact ⟨_, _, same_seqT s2 ha1, List.getElem?_eq_getElem (by simpa using hi)⟩
        · exact ⟨_, same_seqT s2 ha1, by simp⟩
        · rintro i y x H2 H' F hy s2 ⟨rfl, yx⟩ kk
          have e := yx _ (same_seqT s2 ha1)
          rw [List.getElem?_map, hy] at e
          obtain rfl : V.str y = x := Option.some.inj e
          have z := kk _ (Same.refl _)
          refine ⟨rfl, _, rfl, _, rfl, t, _, rfl, .inr (same_seqT s2 ht1), rfl, flat_strs taps, _, rfl, ?_⟩
          show F (!inV (.str y) (taps.map V.str)) _
          rw [Hx.inV_strs]
          exact z
        · intro c H2 s2 e hz
          refine ones_eq e fun H3 s3 => ?_
          have z := k H3 (s1.trans (s2.trans s3))
          unfold lotS at z
          rw [hn, decide_eq_true h1, decide_eq_true h2, Bool.true_and, Bool.true_and, Bool.true_and] at z
          rw [hz]
          have eb : (ns.all fun b => !!decide (b ∈ taps)) = ns.all fun x => decide (x ∈ taps) := by simp
          rw [eb]
          exact z
      · rw [show decide ((ns.length : Int) < (taps.length : Int)) = false from decide_eq_false (by omega)]
        exact iteT (no _ s1 (by unfold lotS; rw [decide_eq_false h2]; simp))
    · rw [show decide ((0 : Int) < (ns.length : Int)) = false from decide_eq_false (by omega)]
      exact iteF ⟨_, rfl, iteT (no _ s1 (by unfold lotS; rw [decide_eq_false h1]; simp))⟩
def spRightC (K : PySem.W.Frag) : Sp := fun vs H Q _ => ∃ (v : V) (taps : Lot) (L : List Term), vs = [v] ∧ ClaimAt K H v taps L ∧ RightG taps L ∧ ∀ H', Same H H' → Q (.bl true) H'
theorem sc_cl_is_claim : FnScope ["thing", "before", "item"] ["thing"] (defScope sL_cl_is_claim) := ⟨rfl, rfl, rfl, by decide +kernel, rfl, by decide +kernel, by decide +kernel⟩
theorem ok_cl_is_claim (D : Dn K mg "_law_cl_is_claim" sL_cl_is_claim) (B0 : Ok P w K mg base L2.CX0 2 "_law_cl_are_names" ["thing"] (spNamesP K)) (B1 : Ok P w K mg base L2.CX0 3 "_law_cl_is_lot" ["taps_here", "thing"] (spLotP K)) (B2 : Ok P w K mg base L2.CX0 2 "_law_ct_is_number" ["item"] (spIsNum K))
    (h_isinstance : mg "isinstance" = none) (h_tuple : mg "tuple" = none) (h_len : mg "len" = none) : Ok P w K mg base L2.CX0 4 "_law_cl_is_claim" ["thing"] (spRightC K) := by
  obtain ⟨_, _, g_cl_are_names, k_cl_are_names, b_cl_are_names, F_cl_are_names⟩ := B0.ex
  obtain ⟨_, _, g_cl_is_lot, k_cl_is_lot, b_cl_is_lot, F_cl_is_lot⟩ := B1.ex
  obtain ⟨_, _, g_ct_is_number, k_ct_is_number, b_ct_is_number, F_ct_is_number⟩ := B2.ex
  refine Ok.mk0 D sc_cl_is_claim (fun vs H Q E h => ?_) (fun _ _ _ _ _ _ us hl => match us, hl with | [_], _ => rfl) (fun f cdv A outer s H vs Q E hr h => ?_)
  · obtain ⟨v, taps, L, rfl, _⟩ := h
    rfl
  obtain ⟨v, taps, L, rfl, hc, rg, k⟩ := h
  have nd := sc_cl_is_claim.nd
  have hu64 := hr.units
  have hr2 := hr.mono (show 2 ≤ 3 by decide)
  refine ⟨_, (pss_cons (ps_if (PW.pt (pw_or (pt_not (pt_val (pe_isD "tuple" rfl h_isinstance h_tuple (pv 0)))) (pw_or (pt_cmpR op_ne (pe_lenS rfl h_len (pv 0)) pe_int (nomark _)) (pw_or1 (pt_not (pt_val (pe_call F_cl_are_names hr2 rfl g_cl_are_names k_cl_are_names b_cl_are_names .nil pass0 (pa_cons (pe_ix ix_tup (pv 0) pe_int (fun _ _ => rfl)) pa_nil))))))))
    (pss_one (ps_ret pe_bl))
    pss_nil)
  (pss_cons (ps_if (PW.pt (pw_or (pt_not (pt_chain op_le op_le pe_int (pe_lenS rfl h_len (pe_ix ix_tup (pv 0) pe_int (fun _ _ => rfl))) pe_int)) (pw_or1 (pt_not (pt_val (pe_isD "tuple" rfl h_isinstance h_tuple (pe_ix ix_tup (pv 0) pe_int (fun _ _ => rfl))))))))
    (pss_one (ps_ret pe_bl))
    pss_nil)
  (pss_cons (ps_set (i := 1) nd rfl (Or.inl rfl) (pe_tup pa_nil))
  (pss_cons (ps_for PassesOwn.never rfl (pi_tup (pe_ix ix_tup (pv 0) pe_int (fun _ _ => rfl))) (pg_name (i := 2) nd rfl (Or.inl rfl))
    (pss_cons (ps_if (PW.pt (pw_or (pt_not (pt_val (pe_isD "tuple" rfl h_isinstance h_tuple (pv 2)))) (pw_or (pt_cmpR op_ne (pe_lenS rfl h_len (pv 2)) pe_int (nomark _)) (pw_or1 (pt_not (pt_val (pe_call F_cl_is_lot hr rfl g_cl_is_lot k_cl_is_lot b_cl_is_lot .nil pass0 (pa_cons (pe_ix ix_tup (pv 0) pe_int (fun _ _ => rfl)) (pa_cons (pe_ix ix_tup (pv 2) pe_int (fun _ _ => rfl)) pa_nil)))))))))
      (pss_one (ps_ret pe_bl))
      pss_nil)
    (pss_cons (ps_if (PW.pt (pw_or (pt_not (pt_val (pe_call F_ct_is_number hr2 rfl g_ct_is_number k_ct_is_number b_ct_is_number .nil pass0 (pa_cons (pe_ix ix_tup (pv 2) pe_int (fun _ _ => rfl)) pa_nil)))) (pw_or (pt_cmpR (op_eqD hu64) (pe_ix ix_tup (pv 2) pe_int (fun _ _ => rfl)) pe_int (nomark _)) (pw_or1 (pt_cmpR (op_geD hu64) (pv 1) (pe_ix ix_tup (pv 2) pe_int (fun _ _ => rfl)) (nomark _))))))
      (pss_one (ps_ret pe_bl))
      pss_nil)
    (pss_one (ps_set (i := 1) nd rfl (Or.inl rfl) (pe_ix ix_tup (pv 2) pe_int (fun _ _ => rfl)))))))
  (pss_one (ps_ret pe_bl)))))), ?_⟩
  obtain ⟨a, t, l, us, rfl, ha, ht, hl, hts⟩ := id hc
  obtain ⟨t2, t6, tn⟩ := taps_few rg.tp
  have len := paired_len hts
  refine ⟨_, rfl, _, hc.dp, true, rfl, iteF ⟨_, rfl, a, _, rfl, .inr ha, rfl, _, rfl, iteF ⟨_, rfl, a, _, 0, _, rfl, rfl, ha, rfl, t, taps, rfl, ht, taps_sm rg.tp, names_plain tn, fun H1 s1 => ⟨_, rfl, ?_⟩⟩⟩⟩
  rw [tn]
  have ha1 := same_seqT s1 ha
  have ht1 := same_seqT s1 ht
  have hl1 := same_seqT s1 hl
  refine iteF ⟨_, rfl, a, _, 0, _, rfl, rfl, ha1, rfl, t, _, rfl, .inr ht1, _, _, rfl, rfl, _, rfl, ?_⟩
  rw [List.length_map]
  refine iteE (decide_eq_true (by omega)) ⟨_, _, rfl, rfl, _, rfl, iteG (by rw [decide_eq_true (by omega)]; rfl) ?_⟩
  have dl : Dp K H1 (.ref l) (.tuple (L.map termD)) := .tup hl1 (TermsAt.dp (TermsAt.keep (.of s1) hts))
  refine ⟨_, rfl, a, _, 1, _, rfl, rfl, ha1, rfl, _, dl, true, rfl, iteF ?_⟩
  refine ⟨by rw [sizeLine_eq]; exact Nat.zero_le _, fun p hp => ?_⟩
  have s2 := s1.trans (same_upd (o := .tup []) hp)
  let Pv : Nat → L2.St → Hp → Prop := fun i σ H' => ∃ (o : Option V) (b : Addr) (bl : Lot), σ = [some (.ref a), some (.ref b), o] ∧ Same H H' ∧ SqT K H' b (bl.map V.str) ∧ ((i = 0 ∧ bl = []) ∨ (0 < i ∧ (L.map (·.1))[i - 1]? = some bl))
  refine ⟨_, rfl, a, _, 1, _, rfl, rfl, same_seqT s2 ha, rfl, l, rfl, ⟨_, same_seqT s2 hl⟩, for_tup Pv ⟨none, p, [], rfl, s2, SqT.of upd_same, .inl ⟨rfl, rfl⟩⟩ (fun i σ H' _ ⟨_, _, _, _, s, _⟩ => same_seqT s hl) ?_ ?_⟩
  · rintro i x σ H' hx ⟨o, b, bl, rfl, s, hb, hbl⟩
    obtain ⟨tm, htm, hterm⟩ := L2.paired_get hts hx
    have mt := List.mem_of_getElem? htm
    have hterm' := hterm.keep (.of s)
    obtain ⟨q, l2, u, rfl, hq, hl2, hn⟩ := id hterm'
    have lo := rg.lots tm mt
    have lsm := lot_sm rg.tp lo
    have lpl := names_plain (lot_few lo).1
    refine ⟨_, rfl, _, hterm'.dp, true, rfl, iteF ⟨_, rfl, q, _, rfl, .inr hq, rfl, _, rfl, iteF ?_⟩⟩
    refine ⟨_, rfl, a, _, 0, _, rfl, rfl, same_seqT s ha, rfl, _, rfl, q, _, 0, _, rfl, rfl, hq, rfl, t, l2, taps, tm.1, rfl, same_seqT s ht, taps_sm rg.tp, SqT.of hl2, lsm, lpl, fun H5 s5 => ⟨_, rfl, ?_⟩⟩
    rw [lo]
    have hq5 := same_seqT s5 hq
    have hn5 := hn.keep (.of s5)
    refine iteF ⟨_, rfl, q, _, 1, _, rfl, rfl, hq5, rfl, u, tm.2, rfl, hn5, fun H6 s6 => ⟨_, rfl, ?_⟩⟩
    rw [rg.canon.ok tm mt]
    have s56 := s5.trans s6
    have hq6 := same_seqT s6 hq5
    have hn6 := hn5.keep (.of s6)
    refine iteF ⟨_, rfl, q, _, 1, _, rfl, rfl, hq6, rfl, _, .int 0, hn6.dt.dp, .int 0, shaped_num tm.2, shaped_int 0, _, rfl, ?_⟩
    rw [eqv_num0, show nz tm.2 = true from decide_eq_true (rg.canon.nz tm mt)]
    have hl6 : SqT K H6 l2 (tm.1.map V.str) := SqT.of (s56 _ _ hl2)
    refine iteF ⟨_, rfl, _, rfl, q, _, 0, _, rfl, rfl, hq6, rfl, lotD bl, lotD tm.1, .tup (same_seqT s56 hb) (dpAll_strs bl), .tup hl6 (dpAll_strs tm.1), alike_lot bl tm.1, (fun z => by cases z), Nat.le_trans (depth_lot bl) (by decide), _, rfl, ?_⟩
    have lt : PySem.W.dataLt (lotD bl) (lotD tm.1) = true := by
      show lotLt bl tm.1 = true
      rcases hbl with ⟨_, rfl⟩ | ⟨hi, e⟩
      · rw [lotLt_eq, decide_eq_true_eq]
        have ne := lot_ne lo
        cases et : tm.1 with
        | nil => exact absurd et ne
        | cons z r =>
          show ([] : List (List Nat)) < _ :: _
          exact List.nil_lt_cons _ _
      · have e2 : (L.map (·.1))[i]? = some tm.1 := by rw [List.getElem?_map, htm]; rfl
        have hp := List.pairwise_iff_getElem.mp rg.canon.rise
        obtain ⟨h1, h1'⟩ := List.getElem?_eq_some_iff.mp e
        obtain ⟨h2, h2'⟩ := List.getElem?_eq_some_iff.mp e2
        have := hp (i - 1) i h1 h2 (by omega)
        rw [h1', h2'] at this
        exact this
    rw [lt]
    refine iteF ⟨_, rfl, q, _, 0, _, rfl, rfl, hq6, rfl, _, l2, tm.1, rfl, s.trans s56, hl6, .inr ⟨by omega, ?_⟩⟩
    rw [Nat.add_sub_cancel, List.getElem?_map, htm]
    rfl
  · rintro σ H' ⟨o, b, bl, rfl, s, _, _⟩
    exact k H' s
def spSame (K : PySem.W.Frag) : Sp := fun vs H Q _ => ∃ (v u : V) (taps : Lot) (L : List Term), vs = [v, u] ∧ ClaimAt K H v taps L ∧ ClaimAt K H u taps L ∧ RightG taps L ∧ ∀ H', Same H H' → Q (.bl true) H'
theorem sc_cl_same : FnScope ["found", "due"] ["found", "due"] (defScope sL_cl_same) := ⟨rfl, rfl, rfl, by decide +kernel, rfl, by decide +kernel, by decide +kernel⟩
theorem ok_cl_same (D : Dn K mg "_law_cl_same" sL_cl_same) (B : Ok P w K mg base L2.CX0 4 "_law_cl_is_claim" ["thing"] (spRightC K)) : Ok P w K mg base L2.CX0 5 "_law_cl_same" ["found", "due"] (spSame K) := by
  obtain ⟨_, _, g_cl_is_claim, k_cl_is_claim, b_cl_is_claim, F_cl_is_claim⟩ := B.ex
  refine Ok.mk0 D sc_cl_same (fun vs H Q E h => ?_) (fun _ _ _ _ _ _ us hl => match us, hl with | [_, _], _ => rfl) (fun f cdv A outer s H vs Q E hr h => ?_)
  · obtain ⟨v, u, taps, L, rfl, _⟩ := h
    rfl
  obtain ⟨v, u, taps, L, rfl, hv, hu, rg, k⟩ := h
  have hu64 := hr.units
  refine ⟨_, (pss_one (ps_ret (pe_and (pe_call F_cl_is_claim hr rfl g_cl_is_claim k_cl_is_claim b_cl_is_claim .nil pass0 (pa_cons (pv 0) pa_nil)) (pe_one (pe_cmpR (op_eqD hu64) (pv 0) (pv 1) (nomark _)))))), ?_⟩
  refine ⟨_, rfl, v, taps, L, rfl, hv, rg, fun H1 s1 => ⟨_, rfl, iteT ?_⟩⟩
  have sh := claim_sh (taps := taps) (L := L) (names_plain (taps_few rg.tp).2.2) fun t ht => names_plain (lot_few (rg.lots t ht)).1
  refine ⟨_, rfl, _, rfl, _, _, (hv.keep (.of s1)).dp, (hu.keep (.of s1)).dp, sh, sh, ?_⟩
  rw [eqv_shaped sh]
  exact k H1 s1
end
end K17
set_option maxHeartbeats 1000000
namespace K17
open PySem PySem.Spec PyProof.Rows L2 Hx RZ
/-! ### the law reads numbers -/
/-- a text cut at its first stroke -/
theorem cut_or (x : Str) : (47 ∉ TL.tl x ∧ Txt.split x SL = [x] ∧ Txt.partition x SL = (x, Str.empty, Str.empty)) ∨
    ∃ p r, 47 ∉ TL.tl p ∧ x = p ++ SL ++ r ∧ Txt.partition x SL = (p, SL, r) ∧ Txt.split x SL = p :: Txt.split r SL := by
  have ey : TL.tl SL = 47 :: [] := by decide +kernel
  by_cases h : 47 ∈ TL.tl x
  · obtain ⟨p, r, e, hp⟩ := List.eq_append_cons_of_mem h
    refine .inr ⟨⟨p.toArray⟩, ⟨r.toArray⟩, hp, ?_, ?_, ?_⟩
    · refine TL.ext_tl ?_
      rw [TL.tl_append, TL.tl_append, ey, e]
      simp [TL.tl]
    · have ex : x = (⟨p.toArray⟩ : Str) ++ SL ++ ⟨r.toArray⟩ := TL.ext_tl (by rw [TL.tl_append, TL.tl_append, ey, e]; simp [TL.tl])
      rw [ex]
      exact TL.partition_app ey hp
    · refine TL.map_tl_inj ?_
      rw [List.map_cons, split_tl sep_sl, split_tl sep_sl, ey, e]
      exact TL.spl_part1 (S := []) hp
  · refine .inl ⟨h, TL.map_tl_inj ?_, TL.partition_none ey h⟩
    rw [split_tl sep_sl, ey]
    exact TL.spl_last1 h
theorem whole_free {x : Str} {n : Nat} (h : wholeS x = some n) : 47 ∉ TL.tl x := fun m => by
  unfold wholeS at h
  split at h
  · next hc =>
    have q := dig_mem (of_decide_eq_true (List.all_eq_true.mp hc.2.1 47 m))
    omega
  · cases h
def numLaw (x : Str) : Option Num := match (Txt.split x SL).map wholeS with
  | [some t] => some (.w t)
  | [some t, some b] => if Num.ok (.q t b) = true then some (.q t b) else none
  | _ => none
theorem numLaw_eq (x : Str) : numLaw x = numRead x := by
  rcases cut_or x with ⟨_, es, ep⟩ | ⟨p, r, hp, _, ep, es⟩
  · unfold numLaw numRead
    rw [es, ep]
    cases h : wholeS x with
    | none => rw [List.map_cons, List.map_nil, h]
    | some t =>
      rw [List.map_cons, List.map_nil, h]
      show _ = if (Str.empty).length = 0 then _ else _
      rw [if_pos (by rfl)]
  · unfold numLaw numRead
    rw [es, ep]
    have nl : ¬ (SL.length = 0) := by decide +kernel
    cases h : wholeS p with
    | none =>
      rw [List.map_cons, h]
    | some t =>
      rw [List.map_cons, h]
      show _ = if SL.length = 0 then _ else _
      rw [if_neg nl]
      rcases cut_or r with ⟨_, er, _⟩ | ⟨p2, r2, _, e2, _, er⟩
      · rw [er, List.map_cons, List.map_nil]
        cases h2 : wholeS r with
        | none => rfl
        | some b => rfl
      · obtain ⟨a, l, el⟩ := split_cons r2 SL
        rw [er, el, List.map_cons, List.map_cons]
        have hn : wholeS r = none := by
          cases q : wholeS r with
          | none => rfl
          | some b =>
            refine absurd ?_ (whole_free q)
            rw [e2, TL.tl_append, TL.tl_append]
            have ey : TL.tl SL = [47] := by decide +kernel
            rw [ey]
            simp
        rw [hn]
        cases wholeS p2 <;> rfl

section
variable {P : Program} {w : World} {K : PySem.W.Frag} {mg : Str → Option Value} {base : Heap}
def spDigits : Sp := fun vs H Q _ => ∃ x : Str, vs = [.str x] ∧ Plain x ∧ x.length ≤ 100000 ∧ ∀ H', Same H H' → Q (.bl (wholeS x).isSome) H'
theorem sc_cl_digits : FnScope ["word", "sign"] ["word"] (defScope sL_cl_digits) := ⟨rfl, rfl, rfl, by decide +kernel, rfl, by decide +kernel, by decide +kernel⟩
theorem ok_cl_digits (D : Dn K mg "_law_cl_digits" sL_cl_digits) (h_len : mg "len" = none) : Ok P w K mg base L2.CX0 1 "_law_cl_digits" ["word"] spDigits := by
  refine Ok.mk0 D sc_cl_digits (fun vs H Q E h => ?_) (fun _ _ _ _ _ _ us hl => match us, hl with | [_], _ => rfl) (fun f cdv A outer s H vs Q E hr h => ?_)
  · obtain ⟨x, rfl, _⟩ := h
    rfl
  obtain ⟨x, rfl, pl, hx, k⟩ := h
  have nd := sc_cl_digits.nd
  have hu64 := hr.units
  refine ⟨_, (pss_cons (ps_if (PW.pt (pw_or (pt_not (pt_chain op_lt op_le pe_int (pe_callB call_len_str (by rfl) h_len (by decide +kernel) (pa_cons (pv 0) pa_nil)) pe_int)) (pw_or1 (pt_cmpR (op_neD hu64) (pe_lc (own := [("sign", 1)]) (g := gName 1) rfl nd (pi_str (pv 0)) (blkOk_by (own := [("sign", 1)]) (N := ["word", "sign"]) (sc := defScope sL_cl_digits) (by decide +kernel)) (fun _ _ _ _ _ => pg_name (i := 1) nd rfl (Or.inl rfl)) (fun _ _ _ _ _ => pts_one (pt_cmpR op_notIn_sign (pv 1) pe_str (by rfl))) (fun _ _ _ _ _ => (pv 1))) (pe_lst pa_nil) (nomark _)))))
    (pss_one (ps_ret pe_bl))
    pss_nil)
  (pss_one (ps_ret (pe_or (pe_cmpR op_eq (pv 0) pe_str (nomark _)) (pe_one (pe_cmpR op_ne (pe_ix ix_str (pv 0) pe_int (fun _ _ => rfl)) pe_str (nomark _))))))), ?_⟩
  have hcs : x.cps.toList.length = x.length := by simp [Str.length]
  have hsz : x.length ≤ sizeLine := by rw [sizeLine_eq]; omega
  have lx : x.cps.toList.length = x.cps.size := by simp
  have no : ∀ H', Same H H' → wholeS x = none → Q (.bl false) H' := fun H' s e => by
    have z := k H' s
    rw [e] at z
    exact z
  refine ⟨_, rfl, x, rfl, hsz, _, _, rfl, rfl, _, rfl, ?_⟩
  by_cases h1 : 1 ≤ x.length
  · rw [show decide ((0 : Int) < (x.length : Int)) = true from decide_eq_true (by omega)]
    refine iteT ⟨_, _, rfl, rfl, _, rfl, ?_⟩
    by_cases h30 : x.length ≤ 30
    · rw [show decide ((x.length : Int) ≤ 30) = true from decide_eq_true (by omega)]
      refine iteF ⟨_, rfl, x, rfl, fun Z hZ => ?_⟩
      refine lc_filt x.cps.toList (fun c => !decide (c ∈ DIG.cps.toList)) (fun v c _ => v = .str ⟨#[c]⟩) (fun _ _ _ _ _ h => h) hZ (by rw [sizeLine_eq]; omega) (fun i H hi _ => by rw [lx] at hi; exact hi) (fun H _ => by rw [lx]; exact Nat.le_refl _) ?_ ?_
      · rintro i c y H1 H' F G hc' s1 ⟨rfl, c2, hc2, rfl⟩ kF kG
        rw [Array.getElem?_toList, hc2] at hc'
        obtain rfl : c2 = c := Option.some.inj hc'
        refine ⟨rfl, _, rfl, c2, DIG, rfl, rfl, _, rfl, ?_⟩
        cases hz : !decide (c2 ∈ DIG.cps.toList) with
        | false => exact iteF (kG hz _ (Same.refl _))
        | true => exact iteT ⟨_, rfl, kF hz _ _ rfl (Same.refl _)⟩
      · intro acc H1 s1 e hacc
        have ea := paired_strs (f := fun c : Nat => (⟨#[c]⟩ : Str)) hacc
        subst ea
        refine strs_ne (fun y hy => ?_) e fun H2 s2 => ⟨_, rfl, ?_⟩
        · obtain ⟨c2, hc2, rfl⟩ := List.mem_map.mp hy
          have m := (List.mem_filter.mp hc2).1
          intro d hd
          have e2 : TL.tl (⟨#[c2]⟩ : Str) = [c2] := rfl
          rw [e2] at hd
          rw [List.mem_singleton.mp hd]
          exact pl c2 m
        · have ee : (((x.cps.toList.filter fun c => !decide (c ∈ DIG.cps.toList)).map fun c : Nat => (⟨#[c]⟩ : Str)).isEmpty) = x.cps.toList.all fun c => decide (c ∈ DIG.cps.toList) := by
            rw [Bool.eq_iff_iff, List.isEmpty_iff, List.map_eq_nil_iff, List.filter_eq_nil_iff, List.all_eq_true]
            constructor
            · intro h c hc
              have := h c hc
              simpa using this
            · intro h c hc
              have := h c hc
              simpa using this
          rw [ee]
          have s12 := s1.trans s2
          cases hall : x.cps.toList.all fun c => decide (c ∈ DIG.cps.toList) with
          | false =>
            refine iteT (no _ s12 ?_)
            unfold wholeS
            rw [if_neg (fun h => by rw [hall] at h; exact absurd h.2.1 (by decide))]
          | true =>
            refine iteF ⟨_, rfl, rfl, _, rfl, ?_⟩
            rw [deq_str]
            obtain ⟨c, r, hcr⟩ : ∃ c r, x.cps.toList = c :: r := by
              cases e : x.cps.toList with
              | nil => rw [e] at hcs; simp at hcs; omega
              | cons c r => exact ⟨c, r, rfl⟩
            have z := k _ s12
            have ew : ∀ q : ¬ (1 < x.length ∧ x.cps.toList[0]? = some 48), (wholeS x).isSome = true := fun q => by
              unfold wholeS
              rw [if_pos ⟨⟨h1, h30⟩, hall, q⟩]
              rfl
            by_cases h0 : x = ZER
            · rw [decide_eq_true h0]
              have e1 : x.length = 1 := by rw [h0]; rfl
              rw [ew (fun q => by omega)] at z
              exact iteT z
            · rw [decide_eq_false h0]
              refine iteF ⟨_, rfl, x, 0, c, rfl, rfl, hsz, ?_, rfl, ?_⟩
              · exact atI_nat (xs := x.cps.toList) (j := 0) (v := c) (by rw [hcr]; rfl)
              rw [deq_str]
              by_cases hc : c = 48
              · subst hc
                rw [decide_eq_true (show (⟨#[48]⟩ : Str) = Str.ofString "0" by decide +kernel)]
                have l2 : 1 < x.length := by
                  refine Decidable.byContradiction fun q => h0 (TL.ext_tl ?_)
                  have e1 : r = [] := by
                    rw [hcr] at hcs
                    simp at hcs
                    exact List.length_eq_zero_iff.mp (by omega)
                  show x.cps.toList = _
                  rw [hcr, e1]
                  decide +kernel
                refine no _ s12 ?_
                unfold wholeS
                rw [if_neg (fun h => h.2.2 ⟨l2, by rw [hcr]; rfl⟩)]
              · rw [decide_eq_false (fun q => hc (by have e := congrArg (fun z : Str => z.cps.toList) q; rw [show (Str.ofString "0").cps.toList = [48] by decide +kernel] at e; simpa using e))]
                rw [ew (fun q => hc (by have := q.2; rw [hcr] at this; simpa using this))] at z
                exact z
    · rw [show decide ((x.length : Int) ≤ 30) = false from decide_eq_false (by omega)]
      refine iteT (no H (Same.refl H) ?_)
      unfold wholeS
      rw [if_neg (fun h => by omega)]
  · rw [show decide ((0 : Int) < (x.length : Int)) = false from decide_eq_false (by omega)]
    refine iteF ⟨_, rfl, iteT (no H (Same.refl H) ?_)⟩
    unfold wholeS
    rw [if_neg (fun h => by omega)]
theorem whole_int {x : Str} {n : Nat} (h : wholeS x = some n) : intText? x = some (n : Int) ∧ x.length ≤ 640 := by
  unfold wholeS at h
  split at h
  · next hc =>
    cases h
    exact ⟨int_digits hc.1.1 hc.1.2 hc.2.1, by have := hc.1.2; omega⟩
  · cases h
def spReadNumP (K : PySem.W.Frag) (f : Str → Option Num) : Sp := fun vs H Q _ => ∃ x : Str, vs = [.str x] ∧ Plain x ∧ x.length ≤ 90000 ∧ ∀ v H', Same H H' → OptNum K H' v (f x) → Q v H'
theorem plain_split {x y : Str} (h : Sep y) (p : Plain x) : ∀ z ∈ Txt.split x y, Plain z := fun z hz c hc => by
  have m : TL.tl z ∈ TL.spl (TL.tl y) 0 [] (TL.tl x) := by rw [← split_tl h]; exact List.mem_map.mpr ⟨z, hz, rfl⟩
  have key : ∀ (S l : List Nat) (k : Nat) (acc : List Nat), ∀ q ∈ TL.spl S k acc l, ∀ c ∈ q, c ∈ acc ∨ c ∈ l := by
    intro S l
    induction l with
    | nil =>
      intro k acc q hq c hc
      rw [TL.spl_nil] at hq
      rw [List.mem_singleton.mp hq] at hc
      exact .inl hc
    | cons d r ih =>
      intro k acc q hq c hc
      cases k with
      | zero =>
        have e : TL.spl S 0 acc (d :: r) = if TL.pre S (d :: r) = true then acc :: TL.spl S (S.length - 1) [] r else TL.spl S 0 (acc ++ [d]) r := rfl
        rw [e] at hq
        split at hq
        · rcases List.mem_cons.mp hq with z | z
          · rw [z] at hc; exact .inl hc
          · rcases ih _ _ q z c hc with z2 | z2
            · simp at z2
            · exact .inr (List.mem_cons_of_mem _ z2)
        · rcases ih _ _ q hq c hc with z2 | z2
          · rcases List.mem_append.mp z2 with z3 | z3
            · exact .inl z3
            · rw [List.mem_singleton.mp z3]; exact .inr List.mem_cons_self
          · exact .inr (List.mem_cons_of_mem _ z2)
      | succ k =>
        rcases ih k acc q hq c hc with z2 | z2
        · exact .inl z2
        · exact .inr (List.mem_cons_of_mem _ z2)
  rcases key _ _ _ _ _ m c hc with q | q
  · simp at q
  · exact p c q
theorem numLaw_many {x a b c : Str} {r : List Str} (e : Txt.split x SL = a :: b :: c :: r) : numLaw x = none := by
  unfold numLaw
  rw [e, List.map_cons, List.map_cons, List.map_cons]
  cases wholeS a <;> cases wholeS b <;> rfl
theorem numLaw_one {x a : Str} {n : Nat} (e : Txt.split x SL = [a]) (h : wholeS a = some n) : numLaw x = some (.w n) := by
  unfold numLaw
  rw [e, List.map_cons, List.map_nil, h]
theorem numLaw_two {x a b : Str} {n m : Nat} (e : Txt.split x SL = [a, b]) (h : wholeS a = some n) (k : wholeS b = some m) : numLaw x = if Num.ok (.q n m) = true then some (.q n m) else none := by
  unfold numLaw
  rw [e, List.map_cons, List.map_cons, List.map_nil, h, k]
theorem numLaw_bad {x y : Str} (m : y ∈ Txt.split x SL) (h : wholeS y = none) : numLaw x = none := by
  unfold numLaw
  generalize Txt.split x SL = ps at m
  cases ps with
  | nil => cases m
  | cons a r =>
    cases r with
    | nil =>
      rw [List.mem_singleton] at m
      rw [List.map_cons, List.map_nil, ← m, h]
    | cons b r =>
      cases r with
      | nil =>
        rw [List.map_cons, List.map_cons, List.map_nil]
        simp at m
        rcases m with rfl | rfl
        · rw [h]
        · rw [h]
          cases wholeS a <;> rfl
      | cons c r =>
        rw [List.map_cons, List.map_cons, List.map_cons]
        cases wholeS a <;> cases wholeS b <;> rfl
theorem split_one {x a : Str} (e : Txt.split x SL = [a]) : a = x := by
  rcases cut_or x with ⟨_, es, _⟩ | ⟨p, r, _, _, _, es⟩
  · rw [e] at es
    cases es
    rfl
  · rw [e] at es
    injection es with _ e2
    have q := PyProof.Rows.split_pos r SL
    rw [← e2] at q
    simp at q
theorem sc_cl_number_of : FnScope ["word", "pieces", "piece", "found"] ["word"] (defScope sL_cl_number_of) := ⟨rfl, rfl, rfl, by decide +kernel, rfl, by decide +kernel, by decide +kernel⟩
theorem ok_cl_number_of (D : Dn K mg "_law_cl_number_of" sL_cl_number_of) (B0 : Ok P w K mg base L2.CX0 1 "_law_cl_digits" ["word"] spDigits) (B1 : Ok P w K mg base L2.CX0 2 "_law_ct_is_number" ["item"] (spIsNum K)) (h_len : mg "len" = none) (h_int : mg "int" = none) :
    Ok P w K mg base L2.CX0 3 "_law_cl_number_of" ["word"] (spReadNumP K numRead) := by
  obtain ⟨_, _, g_cl_digits, k_cl_digits, b_cl_digits, F_cl_digits⟩ := B0.ex
  obtain ⟨_, _, g_ct_is_number, k_ct_is_number, b_ct_is_number, F_ct_is_number⟩ := B1.ex
  refine Ok.mk0 D sc_cl_number_of (fun vs H Q E h => ?_) (fun _ _ _ _ _ _ us hl => match us, hl with | [_], _ => rfl) (fun f cdv A outer s H vs Q E hr h => ?_)
  · obtain ⟨x, rfl, _⟩ := h
    rfl
  obtain ⟨x, rfl, pl, hx, k⟩ := h
  have nd := sc_cl_number_of.nd
  have hu64 := hr.units
  have hr1 := hr.mono (show 1 ≤ 2 by decide)
  refine ⟨_, (pss_cons (ps_set (i := 1) nd rfl (Or.inl rfl) (pe_split (pv 0) pe_str))
  (pss_cons (ps_if (PW.pt (pw_or (pt_cmpR op_gt (pe_lenS rfl h_len (pv 1)) pe_int (nomark _)) (pw_or1 (pt_cmpR (op_neD hu64) (pe_lc (own := [("piece", 2)]) (g := gName 2) rfl nd (pi_list (pv 1)) (blkOk_by (own := [("piece", 2)]) (N := ["word", "pieces", "piece", "found"]) (sc := defScope sL_cl_number_of) (by decide +kernel)) (fun _ _ _ _ _ => pg_name (i := 2) nd rfl (Or.inl rfl)) (fun _ _ _ _ _ => pts_one (pt_not (pt_val (pe_call F_cl_digits hr1 rfl g_cl_digits k_cl_digits b_cl_digits .nil pass0 (pa_cons (pv 2) pa_nil))))) (fun _ _ _ _ _ => pe_int)) (pe_lst pa_nil) (nomark _)))))
    (pss_one (ps_ret pe_non))
    pss_nil)
  (pss_cons (ps_set (i := 3) nd rfl (Or.inl rfl) (pe_ifExp (pt_cmpR op_eq (pe_lenS rfl h_len (pv 1)) pe_int (nomark _)) (pe_callTy call_int_str (by rfl) h_int (by decide +kernel) (pa_cons (pv 0) pa_nil)) (pe_tup (pa_cons (pe_callTy call_int_str (by rfl) h_int (by decide +kernel) (pa_cons (pe_ix ix_list (pv 1) pe_int (fun _ _ => rfl)) pa_nil)) (pa_cons (pe_callTy call_int_str (by rfl) h_int (by decide +kernel) (pa_cons (pe_ix ix_list (pv 1) pe_int (fun _ _ => rfl)) pa_nil)) pa_nil)))))
  (pss_one (ps_ret (pe_ifExp (pt_val (pe_call F_ct_is_number hr rfl g_ct_is_number k_ct_is_number b_ct_is_number .nil pass0 (pa_cons (pv 3) pa_nil))) (pv 3) pe_non)))))), ?_⟩
  have wl := split_len (x := x) sep_sl
  have wp := plain_split (x := x) sep_sl pl
  have wc := PyProof.Rows.split_le x SL
  refine ⟨_, rfl, ⟨_, rfl⟩, x, SL, rfl, rfl, by decide +kernel, (by rw [sizeLine_eq]; omega), fun l hl => ?_⟩
  have s1 := same_upd (o := .lst ((Txt.split x SL).map V.str)) hl
  have hls := SqL.of (K := K) (upd_same (H := H) (a := l) (o := .lst ((Txt.split x SL).map V.str)))
  generalize upd H l (.lst ((Txt.split x SL).map V.str)) = H1 at s1 hls ⊢
  have out : ∀ v H', Same H1 H' → OptNum K H' v (numLaw x) → Q v H' := fun v H' s h => k v H' (s1.trans s) (by rw [← numLaw_eq]; exact h)
  have epos := PyProof.Rows.split_pos x SL
  generalize hps : Txt.split x SL = ps at wl wc wp hls epos
  refine ⟨_, rfl, l, _, rfl, .inl hls, _, _, rfl, rfl, _, rfl, ?_⟩
  rw [List.length_map]
  by_cases h2 : 2 < ps.length
  · rw [decide_eq_true (by omega)]
    refine iteT (out _ _ (Same.refl _) ?_)
    rcases ps with _ | ⟨a, _ | ⟨b, _ | ⟨c, r⟩⟩⟩
    · simp at h2
    · simp at h2
    · simp at h2
    · rw [numLaw_many hps]
      rfl
  · rw [decide_eq_false (by omega)]
    refine iteF ⟨_, rfl, l, rfl, ⟨_, hls⟩, fun Z hZ => ?_⟩
    refine lc_onesD ps (fun y => !(wholeS y).isSome) hZ (by rw [sizeLine_eq]; omega) (fun i H2 hi s2 => ?_) (fun H2 s2 => ?_) ?_ ?_
    · exact ⟨_, _, same_seqL s2 hls, List.getElem?_eq_getElem (by simpa using hi)⟩
    · exact ⟨_, same_seqL s2 hls, by simp⟩
    · rintro i y z H2 H' F hy s2 ⟨rfl, yx⟩ kk
      have e := yx _ (same_seqL s2 hls)
      rw [List.getElem?_map, hy] at e
      obtain rfl : V.str y = z := Option.some.inj e
      have my := List.mem_of_getElem? hy
      exact ⟨rfl, _, rfl, y, rfl, wp y my, by have := wl y my; omega, fun H4 s4 => ⟨_, rfl, kk _ s4⟩⟩
    · intro c H2 s2 e hz
      refine ones_ne e fun H3 s3 => ⟨_, rfl, ?_⟩
      rw [hz]
      have s23 := s2.trans s3
      have hls3 := same_seqL s23 hls
      have ea : (ps.all fun b => !!(wholeS b).isSome) = ps.all fun b => (wholeS b).isSome := by simp
      rw [ea]
      cases hall : ps.all fun b => (wholeS b).isSome with
      | false =>
        refine iteT (out _ _ s23 ?_)
        obtain ⟨y, my, hy⟩ := List.all_eq_false.mp hall
        have ey : wholeS y = none := by
          cases q : wholeS y with
          | none => rfl
          | some _ => rw [q] at hy; simp at hy
        rw [numLaw_bad (by rw [hps]; exact my) ey]
        rfl
      | true =>
        refine iteF ?_
        have some_of : ∀ y ∈ ps, ∃ n, wholeS y = some n := fun y hy => Option.isSome_iff_exists.mp (List.all_eq_true.mp hall y hy)
        refine ⟨_, rfl, l, _, rfl, .inl hls3, rfl, _, rfl, ?_⟩
        rw [List.length_map, deq_int]
        rcases ps with _ | ⟨a, _ | ⟨b, _ | ⟨c, r⟩⟩⟩
        · simp at epos
        · obtain ⟨n, hn⟩ := some_of a List.mem_cons_self
          have ea := split_one hps
          subst ea
          obtain ⟨i1, i2⟩ := whole_int hn
          refine iteE (decide_eq_true rfl) ⟨_, rfl, a, _, rfl, i1, i2, ?_⟩
          refine ⟨_, rfl, .int n, .w n, rfl, rfl, fun H4 s4 => ⟨true, rfl, iteT ⟨_, rfl, out _ _ (s23.trans s4) ?_⟩⟩⟩
          rw [numLaw_one hps hn]
          rfl
        · obtain ⟨n, hn⟩ := some_of a List.mem_cons_self
          obtain ⟨m, hm⟩ := some_of b (by simp)
          obtain ⟨i1, i2⟩ := whole_int hn
          obtain ⟨j1, j2⟩ := whole_int hm
          refine iteG (decide_eq_false (by simp)) ⟨_, rfl, l, _, 0, _, rfl, rfl, hls3, rfl, a, _, rfl, i1, i2, _, rfl, l, _, 1, _, rfl, rfl, hls3, rfl, b, _, rfl, j1, j2, (by rw [sizeLine_eq]; exact (by decide : (2 : Nat) ≤ 16777216)), fun p hp => ?_⟩
          have s4 := same_upd (o := .tup [.int n, .int m]) hp
          have na : NumAt K (upd H3 p (.tup [.int n, .int m])) (.ref p) (.q n m) := ⟨p, rfl, SqT.of upd_same⟩
          refine ⟨_, rfl, .ref p, .q n m, rfl, na, fun H5 s5 => ⟨_, rfl, ?_⟩⟩
          have eL := numLaw_two hps hn hm
          cases ho : Num.ok (.q n m) with
          | true =>
            rw [ho, if_pos rfl] at eL
            exact iteT ⟨_, rfl, out _ _ (s23.trans (s4.trans s5)) (by rw [eL]; exact na.keep (.of s5))⟩
          | false =>
            rw [ho, if_neg (by decide)] at eL
            exact iteF (out _ _ (s23.trans (s4.trans s5)) (by rw [eL]; rfl))
        · exact absurd (by simp) h2
end
end K17
set_option maxHeartbeats 1000000
namespace K17
open PySem PySem.Spec PyProof.Rows L2 Hx RZ
/-! ### the law writes claims -/
theorem plain_app {x y : Str} (h : Plain x) (k : Plain y) : Plain (x ++ y) := fun c hc => by
  rw [TL.tl_append] at hc
  rcases List.mem_append.mp hc with q | q
  · exact h c q
  · exact k c q
theorem plain_of {x : Str} (h : ((TL.tl x).all fun c => decide (c < 128)) = true) : Plain x := fun c hc => of_decide_eq_true (List.all_eq_true.mp h c hc)
theorem plain_nat {i : Int} (h : 0 ≤ i) : Plain (natS i) := by
  obtain ⟨n, rfl⟩ := Int.eq_ofNat_of_zero_le h
  intro c hc
  have e : TL.tl (natS (n : Int)) = TL.numL n := TL.tl_num n
  rw [e] at hc
  have := TL.numL_digits n c hc
  omega
theorem plain_num {n : Num} (h : FitN n) : Plain n.text := by
  cases n with
  | w i => exact plain_nat h.1
  | q t b => exact plain_app (plain_app (plain_nat h.1) (plain_of (by decide +kernel))) (plain_nat h.2.2.1)
theorem plain_joinL {S : List Nat} (hS : ∀ c ∈ S, c < 128) : ∀ ps : List (List Nat), (∀ p ∈ ps, ∀ c ∈ p, c < 128) → ∀ c ∈ TL.joinL S ps, c < 128
  | [], _, c, hc => by simp [TL.joinL] at hc
  | [p], h, c, hc => h p List.mem_cons_self c (by simpa [TL.joinL] using hc)
  | p :: q :: r, h, c, hc => by
    have e : TL.joinL S (p :: q :: r) = p ++ (S ++ TL.joinL S (q :: r)) := rfl
    rw [e] at hc
    rcases List.mem_append.mp hc with z | z
    · exact h p List.mem_cons_self c z
    · rcases List.mem_append.mp z with z | z
      · exact hS c z
      · exact plain_joinL hS (q :: r) (fun a ha => h a (List.mem_cons_of_mem _ ha)) c z
theorem plain_join {y : Str} {ps : List Str} (hy : Plain y) (h : ∀ p ∈ ps, Plain p) : Plain (Txt.join y ps) := fun c hc => by
  rw [TL.join_eq, TL.tl_join] at hc
  refine plain_joinL hy _ (fun p hp => ?_) c hc
  obtain ⟨x, hx, rfl⟩ := List.mem_map.mp hp
  exact h x hx
theorem plain_spc : Plain SPC := plain_of (by decide +kernel)
theorem plain_ww : Plain WW := plain_of (by decide +kernel)
theorem plain_pl : Plain PL := plain_of (by decide +kernel)
theorem plain_ge : Plain GE := plain_of (by decide +kernel)
theorem plain_co : Plain CO := plain_of (by decide +kernel)
theorem plain_rp : Plain RP := plain_of (by decide +kernel)
theorem plain_nl : Plain NL := plain_of (by decide +kernel)
theorem plain_zer : Plain ZER := plain_of (by decide +kernel)
theorem plain_term {l : Lot} {n : Num} (h : FitN n) (k : ∀ x ∈ l, Plain x) : Plain (termText l n) :=
  plain_app (plain_app (plain_app (plain_num h) plain_ww) (plain_join plain_spc k)) plain_rp
theorem plain_side {ts : List Term} (h : ∀ t ∈ ts, FitN t.2 ∧ ∀ x ∈ t.1, Plain x) : Plain (sideText ts) := by
  unfold sideText
  split
  · exact plain_zer
  · refine plain_join plain_pl fun p hp => ?_
    obtain ⟨t, ht, rfl⟩ := List.mem_map.mp hp
    exact plain_term (h t ht).1 (h t ht).2
theorem great_plain {taps : Lot} {L : List Term} (h : RightC taps L) : ∀ t ∈ greatT L, FitN t.2 ∧ ∀ x ∈ t.1, Plain x := fun t ht =>
  ⟨(fit_great h t ht).1, names_plain (lot_few (h.lots t (List.mem_filter.mp ht).1)).1⟩
theorem less_plain {taps : Lot} {L : List Term} (h : RightC taps L) : ∀ t ∈ lessT L, FitN t.2 ∧ ∀ x ∈ t.1, Plain x := fun t ht => by
  refine ⟨(fit_less h t ht).1, ?_⟩
  obtain ⟨u, hu, rfl⟩ := List.mem_map.mp ht
  exact names_plain (lot_few (h.lots u (List.mem_filter.mp hu).1)).1
theorem plain_claim {taps : Lot} {L : List Term} (h : RightC taps L) : Plain (claimText taps L) :=
  plain_app (plain_app (plain_app (plain_app (plain_join plain_spc (names_plain (taps_few h.tp).2.2)) plain_co) (plain_side (great_plain h))) plain_ge) (plain_side (less_plain h))
section
variable {P : Program} {w : World} {K : PySem.W.Frag} {mg : Str → Option Value} {base : Heap}
theorem sc_cl_number_text : FnScope ["worth"] ["worth"] (defScope sL_cl_number_text) := ⟨rfl, rfl, rfl, by decide +kernel, rfl, by decide +kernel, by decide +kernel⟩
theorem ok_cl_number_text (D : Dn K mg "_law_cl_number_text" sL_cl_number_text) (h_isinstance : mg "isinstance" = none) (h_tuple : mg "tuple" = none) (h_str : mg "str" = none) : Ok P w K mg base L2.CX0 1 "_law_cl_number_text" ["worth"] (spNumText K) := by
  refine Ok.mk0 D sc_cl_number_text (fun vs H Q E h => ?_) (fun _ _ _ _ _ _ us hl => match us, hl with | [_], _ => rfl) (fun f cdv A outer s H vs Q E hr h => ?_)
  · obtain ⟨v, n, rfl, _⟩ := h
    rfl
  obtain ⟨v, n, rfl, hn, t0, t1, l0, l1, k⟩ := h
  refine ⟨_, (pss_cons (ps_if (pt_val (pe_isD "tuple" rfl h_isinstance h_tuple (pv 0)))
    (pss_one (ps_ret (pe_op op_add_str (pe_op op_add_str (pe_callTy call_str_int (by rfl) h_str (by decide +kernel) (pa_cons (pe_ix ix_tup (pv 0) pe_int (fun _ _ => rfl)) pa_nil)) pe_str) (pe_callTy call_str_int (by rfl) h_str (by decide +kernel) (pa_cons (pe_ix ix_tup (pv 0) pe_int (fun _ _ => rfl)) pa_nil)))))
    pss_nil)
  (pss_one (ps_ret (pe_callTy call_str_int (by rfl) h_str (by decide +kernel) (pa_cons (pv 0) pa_nil))))), ?_⟩
  cases n with
  | w i =>
    obtain rfl : v = .int i := hn
    exact ⟨_, rfl, .int i, .int i, _, rfl, iteF ⟨_, rfl, i, rfl, log_small (by simp only [Num.top] at t0 t1; omega), k⟩⟩
  | q t b =>
    have hn' := hn.dt.dp
    obtain ⟨a, rfl, ha⟩ := hn
    simp only [Num.top, Num.low] at t0 t1 l0 l1
    have l1' := natS_len t0 t1
    have l2' := natS_len l0 l1
    have e1 : SL.length = 1 := rfl
    refine ⟨_, rfl, .tuple [.int t, .int b], hn', _, rfl, iteT ⟨_, rfl, a, _, 0, _, rfl, rfl, ha, rfl, t, rfl, log_small (by omega), natS t, SL, rfl, rfl, szl (by omega), _, rfl, a, _, 1, _, rfl, rfl, ha, rfl, b, rfl, log_small (by omega), natS t ++ SL, natS b, rfl, rfl, ?_, k⟩⟩
    rw [append_len]
    exact szl (by omega)
def signT (s : Int) (L : List Term) : List Term := if s = 1 then greatT L else lessT L
def spLawSide (K : PySem.W.Frag) : Sp := fun vs H Q _ => ∃ (l : Addr) (s : Int) (us : List V) (taps : Lot) (L : List Term), vs = [.ref l, .int s] ∧ (s = 1 ∨ s = -1) ∧ SqT K H l us ∧ TermsAt K H us L ∧ RightC taps L ∧ ∀ H', Same H H' → Q (.str (sideText (signT s L))) H'
theorem signT_snoc (s : Int) (a : List Term) (t : Term) : signT s (a ++ [t]) = signT s a ++ signT s [t] := by
  unfold signT greatT lessT
  split
  · rw [List.filter_append]
  · rw [List.filter_append, List.map_append]
theorem signT_one {s : Int} (h : s = 1 ∨ s = -1) (t : Term) : signT s [t] = if 0 < (if s = 1 then t.2 else turnN t.2).top then [(t.1, if s = 1 then t.2 else turnN t.2)] else [] := by
  rcases h with rfl | rfl
  · show greatT [t] = if 0 < t.2.top then [(t.1, t.2)] else []
    unfold greatT
    rw [List.filter_cons]
    by_cases hz : 0 < t.2.top
    · rw [if_pos hz, if_pos (decide_eq_true hz)]
      rfl
    · rw [if_neg hz, if_neg (fun q => hz (of_decide_eq_true q))]
      rfl
  · show lessT [t] = if 0 < (turnN t.2).top then [(t.1, turnN t.2)] else []
    unfold lessT
    rw [turn_top, List.filter_cons]
    by_cases hz : t.2.top < 0
    · rw [if_pos (show 0 < -t.2.top by omega), if_pos (decide_eq_true hz)]
      rfl
    · rw [if_neg (show ¬ 0 < -t.2.top by omega), if_neg (fun q => hz (of_decide_eq_true q))]
      rfl
theorem bits_fit {n : Num} (h : n.top.natAbs < 10 ^ 6) (k : n.low < 10 ^ 6) (o : n.ok = true) : Bits n 100 := by
  have := low_pos o
  exact ⟨Nat.lt_trans h (by decide), Nat.lt_trans (show n.low.natAbs < 10 ^ 6 by omega) (by decide)⟩
theorem sc_cl_side_text : FnScope ["terms", "sign", "found", "lot", "weight", "above"] ["terms", "sign"] (defScope sL_cl_side_text) := ⟨rfl, rfl, rfl, by decide +kernel, rfl, by decide +kernel, by decide +kernel⟩
theorem ok_cl_side_text (D : Dn K mg "_law_cl_side_text" sL_cl_side_text) (B0 : Ok P w K mg base L2.CX0 3 "_law_ct_times" ["one", "other"] (spTimes K)) (B1 : Ok P w K mg base L2.CX0 2 "_law_ct_less" ["one", "other"] (spLess K)) (B2 : Ok P w K mg base L2.CX0 1 "_law_cl_number_text" ["worth"] (spNumText K)) :
    Ok P w K mg base L2.CX0 4 "_law_cl_side_text" ["terms", "sign"] (spLawSide K) := by
  obtain ⟨_, _, g_ct_times, k_ct_times, b_ct_times, F_ct_times⟩ := B0.ex
  obtain ⟨_, _, g_ct_less, k_ct_less, b_ct_less, F_ct_less⟩ := B1.ex
  obtain ⟨_, _, g_cl_number_text, k_cl_number_text, b_cl_number_text, F_cl_number_text⟩ := B2.ex
  refine Ok.mk0 D sc_cl_side_text (fun vs H Q E h => ?_) (fun _ _ _ _ _ _ us hl => match us, hl with | [_, _], _ => rfl) (fun f cdv A outer s H vs Q E hr h => ?_)
  · obtain ⟨l, s, us, taps, L, rfl, _⟩ := h
    rfl
  obtain ⟨l, sg, us, taps, L, rfl, hsg, hl, hts, rc, k⟩ := h
  have nd := sc_cl_side_text.nd
  have hu64 := hr.units
  have hr2 := hr.mono (show 2 ≤ 3 by decide)
  have hr1 := hr.mono (show 1 ≤ 3 by decide)
  refine ⟨_, (pss_cons (ps_set (i := 2) nd rfl (Or.inl rfl) (pe_lst pa_nil))
  (pss_cons (ps_for PassesOwn.never rfl (pi_tup (pv 0)) (pg_tup (by rfl) (pgs_cons (pg_name (i := 3) nd rfl (Or.inl rfl)) (pgs_cons (pg_name (i := 4) nd rfl (Or.inl rfl)) pgs_nil)))
    (pss_cons (ps_set (i := 5) nd rfl (Or.inl rfl) (pe_call F_ct_times hr rfl g_ct_times k_ct_times b_ct_times .nil pass0 (pa_cons (pv 1) (pa_cons (pv 4) pa_nil))))
    (pss_one (ps_if (pt_val (pe_call F_ct_less hr2 rfl g_ct_less k_ct_less b_ct_less .nil pass0 (pa_cons pe_int (pa_cons (pv 5) pa_nil))))
      (pss_one (ps_expr (pe_bm PySem.F.plainAttrs_list PySem.F.slot_list_append PySem.F.type_list_append mt_append (pv 2) (pa_cons (pe_op op_add_str (pe_op op_add_str (pe_op op_add_str (pe_call F_cl_number_text hr1 rfl g_cl_number_text k_cl_number_text b_cl_number_text .nil pass0 (pa_cons (pv 5) pa_nil)) pe_str) (pe_join pe_str (pv 3))) pe_str) pa_nil))))
      pss_nil))))
  (pss_one (ps_ret (pe_ifExp (pt_cmpR (op_neD hu64) (pv 2) (pe_lst pa_nil) (nomark _)) (pe_join pe_str (pv 2)) pe_str))))), ?_⟩
  refine ⟨by rw [sizeLine_eq]; exact Nat.zero_le _, fun p hp => ?_⟩
  have s1 := same_upd (o := .lst []) hp
  have nH : ∀ {b : Addr} {u : HO}, H b = some u → b ≠ p := fun e => ne_of_none e hp
  have len := paired_len hts
  let Pv : Nat → L2.St → Hp → Prop := fun i σ H' => ∃ (o1 o2 o3 : Option V), σ = [some (.ref l), some (.int sg), some (.ref p), o1, o2, o3] ∧ Same H H' ∧ H' p = some (.lst (((signT sg (L.take i)).map fun t => termText t.1 t.2).map V.str))
  have st0 : ∀ s : Int, signT s [] = [] := fun s => by unfold signT greatT lessT; split <;> rfl
  refine ⟨_, rfl, l, rfl, ⟨_, same_seqT s1 hl⟩, for_tup Pv ⟨none, none, none, rfl, s1, by rw [List.take_zero, st0]; exact upd_same⟩ (fun i σ H' _ ⟨_, _, _, _, s, _⟩ => same_seqT s hl) ?_ ?_⟩
  · rintro i x σ H' hx ⟨o1, o2, o3, rfl, s, hup⟩
    obtain ⟨tm, htm, hterm⟩ := L2.paired_get hts hx
    have mt := List.mem_of_getElem? htm
    obtain ⟨q, l2, u, rfl, hq, hl2, hn⟩ := hterm.keep (.of s)
    have ok := rc.canon.ok tm mt
    obtain ⟨f1, f2, f3⟩ := rc.fit tm mt
    have lp := low_pos ok
    have bt := bits_fit f1 f2 ok
    have et : L.take (i + 1) = L.take i ++ [tm] := by rw [List.take_add_one, htm]; rfl
    refine ⟨q, _, rfl, hq, rfl, _, _, rfl, _, _, rfl, rfl, ?_⟩
    have nsg : NumAt K H' (.int sg) (.w sg) := rfl
    have bsg : Bits (.w sg) 4400 := by
      rcases hsg with rfl | rfl
      · exact bits_one.mono (by decide)
      · exact bits_neg.mono (by decide)
    refine ⟨_, rfl, _, rfl, .int sg, u, .w sg, tm.2, rfl, nsg, hn, rfl, ok, bsg, bt.mono (by decide), fun ua H2 s2 hua => ?_⟩
    have ea : timesN (.w sg) tm.2 = if sg = 1 then tm.2 else turnN tm.2 := by
      rcases hsg with rfl | rfl
      · rw [if_pos rfl]; exact times_one ok
      · rw [if_neg (by decide)]; exact times_neg ok
    rw [ea] at hua
    generalize hab : (if sg = 1 then tm.2 else turnN tm.2) = ab at hua
    have fab : ab.top.natAbs < 10 ^ 6 ∧ ab.low = tm.2.low := by
      rw [← hab]
      split
      · exact ⟨f1, rfl⟩
      · rw [turn_top, turn_low, Int.natAbs_neg]; exact ⟨f1, rfl⟩
    have bab : Bits ab 4400 := ⟨Nat.lt_trans fab.1 (Nat.lt_of_lt_of_le (by decide : 10 ^ 6 < 2 ^ 100) (Nat.pow_le_pow_right (by decide) (by decide))), by rw [fab.2]; exact (bt.mono (by decide : (100 : Nat) ≤ 4400)).2⟩
    refine ⟨_, rfl, .int 0, ua, .w 0, ab, rfl, rfl, hua, ⟨Nat.pow_pos (by decide), Nat.one_lt_two_pow (by decide)⟩, bab, _, rfl, ?_⟩
    have ec : decide ((Num.w 0).top * ab.low < ab.top * (Num.w 0).low) = decide (0 < ab.top) := by
      show decide ((0 : Int) * ab.low < ab.top * 1) = _
      rw [Int.zero_mul, Int.mul_one]
    rw [ec]
    have hup2 := s2 _ _ hup
    have s12 := s.trans s2
    have es : signT sg [tm] = if 0 < ab.top then [(tm.1, ab)] else [] := by rw [← hab]; exact signT_one hsg tm
    by_cases hz : 0 < ab.top
    · rw [decide_eq_true hz]
      rw [if_pos hz] at es
      have fa : FitN ab := ⟨by omega, by omega, by omega, by omega⟩
      have ft : FitT (tm.1, ab) := ⟨fa, f3⟩
      have nl := num_len fa
      have jl := lot_join_len tm.1
      have e3 : WW.length = 3 := rfl
      have e4 : RP.length = 1 := rfl
      have e1 : SPC.length = 1 := rfl
      have tl := term_len ft
      refine iteT ⟨_, rfl, .inl ⟨rfl, _, SqL.of hup2⟩, _, rfl, ua, ab, rfl, hua, fa.1, by omega, fa.2.2.1, by omega, _, WW, rfl, rfl, szl (by omega), ⟨_, rfl⟩, _, rfl, SPC, l2, tm.1, rfl, rfl, .inr (SqT.of (s2 _ _ hl2)), ?_, _, _, rfl, rfl, ?_, _, RP, rfl, rfl, ?_, p, _, _, rfl, rfl, hup2, ?_, ?_⟩
      · rw [e1]
        unfold lotLen at f3
        omega
      · rw [append_len]
        exact szl (by omega)
      · rw [append_len, append_len]
        exact szl (by omega)
      · rw [List.length_map, List.length_map, sizeLine_eq]
        have h1 : (signT sg (L.take i)).length ≤ (L.take i).length := by
          unfold signT
          split
          · exact great_few _
          · exact less_few _
        have h2 : (L.take i).length ≤ L.length := by rw [List.length_take]; omega
        have := rc.few
        omega
      · refine ⟨_, _, _, rfl, fun b o e => ?_, ?_⟩
        · rw [upd_ne (nH e)]
          exact s12 _ _ e
        · rw [upd_same, et, signT_snoc, es, List.map_append, List.map_append]
          rfl
    · rw [decide_eq_false hz]
      rw [if_neg hz] at es
      refine iteF ⟨_, _, _, rfl, s12, ?_⟩
      rw [et, signT_snoc, es, List.append_nil]
      exact hup2
  · rintro σ H' ⟨o1, o2, o3, rfl, s, hup⟩
    rw [len, List.take_length] at hup
    have ft : ∀ t ∈ signT sg L, FitT t ∧ ∀ x ∈ t.1, Plain x := by
      intro t ht
      unfold signT at ht
      split at ht
      · exact ⟨fit_great rc t ht, (great_plain rc t ht).2⟩
      · exact ⟨fit_less rc t ht, (less_plain rc t ht).2⟩
    have few : (signT sg L).length ≤ 5 := by
      have := rc.few
      unfold signT
      split
      · have := great_few L; omega
      · have := less_few L; omega
    generalize signT sg L = ts at hup ft few k
    refine ⟨_, rfl, strs_ne (fun x hx => ?_) hup fun H2 s2 => ⟨_, rfl, ?_⟩⟩
    · obtain ⟨t, ht, rfl⟩ := List.mem_map.mp hx
      exact plain_term (ft t ht).1.1 (ft t ht).2
    have z := k H2 (s.trans s2)
    cases ts with
    | nil => exact iteF z
    | cons a r =>
      have e3 : PL.length = 3 := rfl
      refine iteT ⟨⟨_, rfl⟩, _, rfl, PL, p, _, rfl, rfl, .inl (SqL.of (s2 _ _ hup)), ?_, z⟩
      have q2 := sum_le (fun x : Str => x.length) 53 ((a :: r).map fun t => termText t.1 t.2) fun x hx => by
        obtain ⟨t, ht, rfl⟩ := List.mem_map.mp hx
        exact term_len (ft t ht).1
      rw [List.length_map] at q2
      rw [e3, List.length_map]
      omega
end
end K17
set_option maxHeartbeats 1000000
namespace K17
open PySem PySem.Spec PyProof.Rows L2 Hx RZ
theorem app_assoc (x y z : Str) : x ++ y ++ z = x ++ (y ++ z) := TL.ext_tl (by rw [TL.tl_append, TL.tl_append, TL.tl_append, TL.tl_append, List.append_assoc])
def sidesText (L : List Term) : Str := sideText (greatT L) ++ GE ++ sideText (lessT L)
section
variable {P : Program} {w : World} {K : PySem.W.Frag} {mg : Str → Option Value} {base : Heap}
def spLawSides (K : PySem.W.Frag) : Sp := fun vs H Q _ => ∃ (l : Addr) (us : List V) (taps : Lot) (L : List Term), vs = [.ref l] ∧ SqT K H l us ∧ TermsAt K H us L ∧ RightC taps L ∧ ∀ H', Same H H' → Q (.str (sidesText L)) H'
theorem sc_cl_sides_text : FnScope ["terms"] ["terms"] (defScope sL_cl_sides_text) := ⟨rfl, rfl, rfl, by decide +kernel, rfl, by decide +kernel, by decide +kernel⟩
theorem ok_cl_sides_text (D : Dn K mg "_law_cl_sides_text" sL_cl_sides_text) (B : Ok P w K mg base L2.CX0 4 "_law_cl_side_text" ["terms", "sign"] (spLawSide K)) : Ok P w K mg base L2.CX0 5 "_law_cl_sides_text" ["terms"] (spLawSides K) := by
  obtain ⟨_, _, g_cl_side_text, k_cl_side_text, b_cl_side_text, F_cl_side_text⟩ := B.ex
  refine Ok.mk0 D sc_cl_sides_text (fun vs H Q E h => ?_) (fun _ _ _ _ _ _ us hl => match us, hl with | [_], _ => rfl) (fun f cdv A outer s H vs Q E hr h => ?_)
  · obtain ⟨l, us, taps, L, rfl, _⟩ := h
    rfl
  obtain ⟨l, us, taps, L, rfl, hl, hts, rc, k⟩ := h
  refine ⟨_, (pss_one (ps_ret (pe_op op_add_str (pe_op op_add_str (pe_call F_cl_side_text hr rfl g_cl_side_text k_cl_side_text b_cl_side_text .nil pass0 (pa_cons (pv 0) (pa_cons pe_int pa_nil))) pe_str) (pe_call F_cl_side_text hr rfl g_cl_side_text k_cl_side_text b_cl_side_text .nil pass0 (pa_cons (pv 0) (pa_cons (pe_un un_neg pe_int) pa_nil)))))), ?_⟩
  have h1 := side_len (fit_great rc)
  have h2 := side_len (fit_less rc)
  have h3 := great_few L
  have h4 := less_few L
  have h5 := rc.few
  have e4 : GE.length = 4 := rfl
  refine ⟨_, rfl, l, 1, us, taps, L, rfl, .inl rfl, hl, hts, rc, fun H1 s1 => ?_⟩
  rw [show signT 1 L = greatT L from rfl]
  refine ⟨_, GE, rfl, rfl, szl (by omega), _, rfl, _, rfl, l, -1, us, taps, L, rfl, .inr rfl, same_seqT s1 hl, TermsAt.keep (.of s1) hts, rc, fun H2 s2 => ?_⟩
  rw [show signT (-1) L = lessT L from rfl]
  exact ⟨_, _, rfl, rfl, by rw [append_len]; exact szl (by omega), k H2 (s1.trans s2)⟩
def spLawText (K : PySem.W.Frag) : Sp := fun vs H Q _ => ∃ (v : V) (taps : Lot) (L : List Term), vs = [v] ∧ ClaimAt K H v taps L ∧ RightC taps L ∧ ∀ H', Same H H' → Q (.str (claimText taps L)) H'
theorem sc_cl_text : FnScope ["claim_here"] ["claim_here"] (defScope sL_cl_text) := ⟨rfl, rfl, rfl, by decide +kernel, rfl, by decide +kernel, by decide +kernel⟩
theorem ok_cl_text (D : Dn K mg "_law_cl_text" sL_cl_text) (B : Ok P w K mg base L2.CX0 5 "_law_cl_sides_text" ["terms"] (spLawSides K)) : Ok P w K mg base L2.CX0 6 "_law_cl_text" ["claim_here"] (spLawText K) := by
  obtain ⟨_, _, g_cl_sides_text, k_cl_sides_text, b_cl_sides_text, F_cl_sides_text⟩ := B.ex
  refine Ok.mk0 D sc_cl_text (fun vs H Q E h => ?_) (fun _ _ _ _ _ _ us hl => match us, hl with | [_], _ => rfl) (fun f cdv A outer s H vs Q E hr h => ?_)
  · obtain ⟨v, taps, L, rfl, _⟩ := h
    rfl
  obtain ⟨v, taps, L, rfl, ⟨a, t, l, us, rfl, ha, ht, hl, hts⟩, rc, k⟩ := h
  refine ⟨_, (pss_one (ps_ret (pe_op op_add_str (pe_op op_add_str (pe_join pe_str (pe_ix ix_tup (pv 0) pe_int (fun _ _ => rfl))) pe_str) (pe_call F_cl_sides_text hr rfl g_cl_sides_text k_cl_sides_text b_cl_sides_text .nil pass0 (pa_cons (pe_ix ix_tup (pv 0) pe_int (fun _ _ => rfl)) pa_nil))))), ?_⟩
  have h1 := side_len (fit_great rc)
  have h2 := side_len (fit_less rc)
  have h3 := great_few L
  have h4 := less_few L
  have h5 := rc.few
  have h6 := lot_join_len taps
  have h7 := rc.tlen
  have e1 : SPC.length = 1 := rfl
  have e2 : CO.length = 2 := rfl
  have e4 : GE.length = 4 := rfl
  refine ⟨⟨_, rfl⟩, _, rfl, a, _, 0, _, rfl, rfl, ha, rfl, SPC, t, taps, rfl, rfl, .inr ht, by rw [e1]; unfold lotLen at h7; omega, _, CO, rfl, rfl, szl (by omega), ?_⟩
  refine ⟨_, rfl, a, _, 1, _, rfl, rfl, ha, rfl, l, us, taps, L, rfl, hl, hts, rc, fun H1 s1 => ⟨_, _, rfl, rfl, ?_, ?_⟩⟩
  · unfold sidesText
    rw [append_len, append_len, append_len]
    exact szl (by omega)
  · have e : Txt.join SPC taps ++ CO ++ sidesText L = claimText taps L := by
      unfold sidesText claimText
      simp only [app_assoc]
    rw [e]
    exact k H1 s1
end
end K17
set_option maxHeartbeats 1000000
namespace K17
open PySem PySem.Spec PyProof.Rows L2 Hx RZ
/-! ### texts cut and joined -/
theorem spl_par {S : List Nat} (hS : S ≠ []) : ∀ (l acc : List Nat), TL.spl S 0 acc l = match TL.par S acc l with
    | none => [acc ++ l]
    | some p => p.1 :: TL.spl S 0 [] p.2
  | [], acc => by
    rw [TL.spl_nil]
    show _ = [acc ++ []]
    rw [List.append_nil]
  | c :: r, acc => by
    cases h : TL.pre S (c :: r) with
    | true =>
      rw [TL.spl_hit h, TL.par_hit h, TL.spl_pass]
      cases S with
      | nil => exact absurd rfl hS
      | cons s S => rfl
    | false =>
      rw [TL.spl_miss h, TL.par_miss h, spl_par hS r (acc ++ [c])]
      cases TL.par S (acc ++ [c]) r with
      | none => simp
      | some p => rfl
theorem par_some {S : List Nat} : ∀ (l acc a r : List Nat), TL.par S acc l = some (a, r) → acc ++ l = a ++ (S ++ r)
  | [], acc, a, r, h => by
    have h' : (none : Option (List Nat × List Nat)) = some (a, r) := h
    cases h'
  | c :: l, acc, a, r, h => by
    cases e : TL.pre S (c :: l) with
    | true =>
      rw [TL.par_hit e] at h
      injection h with h
      injection h with h1 h2
      have q : (c :: l).take S.length = S := eq_of_beq e
      have z := List.take_append_drop S.length (c :: l)
      rw [q] at z
      rw [← h1, ← h2, z]
    | false =>
      rw [TL.par_miss e] at h
      have z := par_some l (acc ++ [c]) a r h
      rw [List.append_assoc] at z
      exact z
theorem cut2 {y : Str} (h : Sep y) (x : Str) : (Txt.split x y = [x] ∧ Txt.partition x y = (x, Str.empty, Str.empty)) ∨ ∃ a r : Str, x = a ++ y ++ r ∧ Txt.partition x y = (a, y, r) ∧ Txt.split x y = a :: Txt.split r y := by
  have q := spl_par h.1 (TL.tl x) []
  have p := TL.partition_par x y h.1
  cases e : TL.par (TL.tl y) [] (TL.tl x) with
  | none =>
    rw [e] at q p
    refine .inl ⟨TL.map_tl_inj ?_, p⟩
    rw [split_tl h]
    exact q
  | some b =>
    obtain ⟨a, r⟩ := b
    rw [e] at q p
    have s := par_some _ _ _ _ e
    refine .inr ⟨⟨a.toArray⟩, ⟨r.toArray⟩, ?_, p, TL.map_tl_inj ?_⟩
    · refine TL.ext_tl ?_
      rw [TL.tl_append, TL.tl_append, List.append_assoc]
      exact s
    · rw [List.map_cons, split_tl h, split_tl h]
      exact q
theorem spl_ne (S : List Nat) : ∀ (l : List Nat) (k : Nat) (acc : List Nat), TL.spl S k acc l ≠ []
  | [], k, acc => by rw [TL.spl_nil]; simp
  | c :: l, 0, acc => by
    have e : TL.spl S 0 acc (c :: l) = if TL.pre S (c :: l) = true then acc :: TL.spl S (S.length - 1) [] l else TL.spl S 0 (acc ++ [c]) l := rfl
    rw [e]
    split
    · simp
    · exact spl_ne S l 0 _
  | c :: l, k + 1, acc => spl_ne S l k acc
theorem join_spl {S : List Nat} (hS : S ≠ []) : ∀ (n : Nat) (l : List Nat), l.length ≤ n → TL.joinL S (TL.spl S 0 [] l) = l
  | n, l, hn => by
    have q := spl_par hS l []
    cases e : TL.par S [] l with
    | none =>
      rw [e] at q
      rw [q]
      rfl
    | some b =>
      obtain ⟨a, r⟩ := b
      rw [e] at q
      have s : l = a ++ (S ++ r) := par_some _ _ _ _ e
      have sp : 0 < S.length := List.length_pos_iff.mpr hS
      have hl : l.length = a.length + (S.length + r.length) := by rw [s, List.length_append, List.length_append]
      match n, hn with
      | 0, hn => omega
      | n + 1, hn =>
        have ih := join_spl hS n r (by omega)
        rw [q]
        show TL.joinL S (a :: TL.spl S 0 [] r) = l
        cases es : TL.spl S 0 [] r with
        | nil => exact absurd es (spl_ne S r 0 [])
        | cons u us =>
          rw [es] at ih
          show a ++ (S ++ TL.joinL S (u :: us)) = l
          rw [ih, ← s]
theorem join_split {y : Str} (h : Sep y) (x : Str) : Txt.join y (Txt.split x y) = x := TL.ext_tl (by
  rw [TL.join_eq, TL.tl_join, split_tl h]
  exact join_spl h.1 _ _ (Nat.le_refl _))
theorem mem_joinL {S : List Nat} {c : Nat} : ∀ {ps : List (List Nat)}, c ∈ TL.joinL S ps → c ∈ S ∨ ∃ p ∈ ps, c ∈ p
  | [], h => by simp [TL.joinL] at h
  | [p], h => .inr ⟨p, List.mem_singleton.mpr rfl, by simpa [TL.joinL] using h⟩
  | p :: q :: r, h => by
    have h' : c ∈ p ++ (S ++ TL.joinL S (q :: r)) := h
    rcases List.mem_append.mp h' with z | z
    · exact .inr ⟨p, List.mem_cons_self, z⟩
    · rcases List.mem_append.mp z with z | z
      · exact .inl z
      · rcases mem_joinL z with z | ⟨p, hp, hc⟩
        · exact .inl z
        · exact .inr ⟨p, List.mem_cons_of_mem _ hp, hc⟩
theorem mem_join {y : Str} {ps : List Str} {c : Nat} (h : c ∈ TL.tl (Txt.join y ps)) : c ∈ TL.tl y ∨ ∃ p ∈ ps, c ∈ TL.tl p := by
  rw [TL.join_eq, TL.tl_join] at h
  rcases mem_joinL h with q | ⟨p, hp, hc⟩
  · exact .inl q
  · obtain ⟨x, hx, rfl⟩ := List.mem_map.mp hp
    exact .inr ⟨x, hx, hc⟩
theorem mem_split {x y : Str} (h : Sep y) {c : Nat} (m : c ∈ TL.tl x) : c ∈ TL.tl y ∨ ∃ p ∈ Txt.split x y, c ∈ TL.tl p := by
  have m2 : c ∈ TL.tl (Txt.join y (Txt.split x y)) := by rw [join_split h]; exact m
  exact mem_join m2
theorem joinL_of {S : List Nat} {c : Nat} {p : List Nat} (hc : c ∈ p) : ∀ {ps : List (List Nat)}, p ∈ ps → c ∈ TL.joinL S ps
  | [], h => by cases h
  | [q], h => by
    rw [List.mem_singleton.mp h] at hc
    exact hc
  | a :: q :: r, h => by
    show c ∈ a ++ (S ++ TL.joinL S (q :: r))
    rcases List.mem_cons.mp h with z | z
    · rw [z] at hc
      exact List.mem_append_left _ hc
    · exact List.mem_append_right _ (List.mem_append_right _ (joinL_of hc z))
theorem join_of {y : Str} {ps : List Str} {c : Nat} {p : Str} (hp : p ∈ ps) (hc : c ∈ TL.tl p) : c ∈ TL.tl (Txt.join y ps) := by
  rw [TL.join_eq, TL.tl_join]
  exact joinL_of hc (List.mem_map.mpr ⟨p, hp, rfl⟩)
/-! separators by their second sign -/
theorem pre_second {a b : Nat} {S l : List Nat} (h : TL.pre (a :: b :: S) l = true) : l[1]? = some b := by
  have e : l.take (a :: b :: S).length = a :: b :: S := eq_of_beq h
  have z : (l.take (a :: b :: S).length)[1]? = some b := by rw [e]; rfl
  rw [List.getElem?_take_of_lt (by simp)] at z
  exact z
theorem free2 {a b : Nat} {S p q : List Nat} (h : b ∉ p) (ne : a ≠ b) : ∀ i, i < p.length → TL.pre (a :: b :: S) ((p ++ (a :: b :: S ++ q)).drop i) = false := fun i hi => by
  cases e : TL.pre (a :: b :: S) ((p ++ (a :: b :: S ++ q)).drop i) with
  | false => rfl
  | true =>
    exfalso
    have z := pre_second e
    rw [List.getElem?_drop] at z
    by_cases hl : i + 1 < p.length
    · rw [List.getElem?_append_left hl] at z
      exact h (List.mem_of_getElem? z)
    · have e1 : i + 1 = p.length := by omega
      rw [e1, List.getElem?_append_right (Nat.le_refl _), Nat.sub_self] at z
      exact ne (Option.some.inj z)
theorem free2l {a b : Nat} {S p : List Nat} (h : b ∉ p) : ∀ i, i < p.length → TL.pre (a :: b :: S) (p.drop i) = false := fun i hi => by
  cases e : TL.pre (a :: b :: S) (p.drop i) with
  | false => rfl
  | true => exact absurd (List.mem_of_mem_drop (List.mem_of_getElem? (pre_second e))) h
theorem spl_join2 {a b : Nat} {S : List Nat} (ne : a ≠ b) : ∀ {ps : List (List Nat)}, ps ≠ [] → (∀ p ∈ ps, b ∉ p) → TL.spl (a :: b :: S) 0 [] (TL.joinL (a :: b :: S) ps) = ps
  | [], h, _ => absurd rfl h
  | [p], _, hp => by
    show TL.spl _ 0 [] p = [p]
    rw [TL.spl_last (free2l (hp p (List.mem_singleton.mpr rfl))), List.nil_append]
  | p :: q :: r, _, hp => by
    show TL.spl (a :: b :: S) 0 [] (p ++ (a :: b :: S ++ TL.joinL (a :: b :: S) (q :: r))) = p :: q :: r
    rw [TL.spl_part (by simp) (free2 (hp p List.mem_cons_self) ne), List.nil_append, spl_join2 ne (by simp) fun z hz => hp z (List.mem_cons_of_mem _ hz)]
theorem split_join2 {y : Str} {a b : Nat} {S : List Nat} (ey : TL.tl y = a :: b :: S) (hy : Sep y) (ne : a ≠ b) {ps : List Str} (h0 : ps ≠ []) (hp : ∀ p ∈ ps, b ∉ TL.tl p) : Txt.split (Txt.join y ps) y = ps := by
  refine TL.map_tl_inj ?_
  rw [split_tl hy, TL.join_eq, TL.tl_join, ey]
  refine spl_join2 ne (fun e => h0 (List.map_eq_nil_iff.mp e)) fun p h => ?_
  obtain ⟨z, hz, rfl⟩ := List.mem_map.mp h
  exact hp z hz
theorem partition_app2 {y : Str} {a b : Nat} {S : List Nat} (ey : TL.tl y = a :: b :: S) (hy : Sep y) (ne : a ≠ b) {l r : Str} (h : b ∉ TL.tl l) : Txt.partition (l ++ y ++ r) y = (l, y, r) := by
  rw [TL.partition_par _ y hy.1, TL.tl_append, TL.tl_append, List.append_assoc, ey, TL.par_part (by simp) (free2 h ne)]
  show ((⟨([] ++ TL.tl l).toArray⟩ : Str), y, (⟨(TL.tl r).toArray⟩ : Str)) = _
  rw [List.nil_append, TL.mk_tl, TL.mk_tl]
/-! slices and ends -/
theorem tl_cut (z : Str) (lo hi : Option Int) : TL.tl (cutS z lo hi) = ((TL.tl z).drop (HT.sIx z.length 0 lo)).take (HT.sIx z.length z.length hi - HT.sIx z.length 0 lo) := rfl
theorem six_neg (n d : Nat) : HT.sIx n d (some (-1)) = n - 1 := by
  show (if (-1 : Int) < 0 then ((-1 : Int) + (n : Int)).toNat else min (-1 : Int).toNat n) = n - 1
  rw [if_pos (by decide)]
  omega
theorem cut_m1 (z : Str) : TL.tl (cutS z none (some (-1))) = (TL.tl z).take (z.length - 1) := by
  rw [tl_cut, six_neg, HT.sIx_none, List.drop_zero, Nat.sub_zero]
theorem cut_app {x y : Str} (h : y.length = 1) : cutS (x ++ y) none (some (-1)) = x := TL.ext_tl (by
  rw [cut_m1, append_len, TL.tl_append, h, Nat.add_sub_cancel, TL.len_tl x, List.take_left])
theorem ends_iff {x y : Str} : Txt.endswith x y = true ↔ ∃ a : Str, x = a ++ y := by
  have lx := TL.len_tl x
  have ly := TL.len_tl y
  constructor
  · intro h
    unfold Txt.endswith at h
    rw [Bool.and_eq_true, decide_eq_true_eq, StrLaws.subAt_eq] at h
    have e : ((TL.tl x).drop (x.length - y.length)).take y.length = TL.tl y := eq_of_beq h.2
    have e2 : ((TL.tl x).drop (x.length - y.length)).take y.length = (TL.tl x).drop (x.length - y.length) := List.take_of_length_le (by rw [List.length_drop]; omega)
    refine ⟨⟨((TL.tl x).take (x.length - y.length)).toArray⟩, TL.ext_tl ?_⟩
    rw [TL.tl_append, ← e, e2]
    exact (List.take_append_drop _ _).symm
  · rintro ⟨a, rfl⟩
    have la := TL.len_tl a
    have s : Builtin.Str.subAt (a ++ y) y a.length = true := by
      rw [StrLaws.subAt_eq]
      show (((TL.tl (a ++ y)).drop a.length).take y.length == TL.tl y) = true
      rw [TL.tl_append, la, List.drop_left, ly, List.take_length]
      exact beq_self_eq_true _
    have e : (a ++ y).length - y.length = a.length := by
      rw [append_len]
      omega
    unfold Txt.endswith
    rw [e, s, Bool.and_true]
    exact decide_eq_true (by rw [append_len]; omega)
/-! numbers -/
theorem numL_head : ∀ n : Nat, 1 ≤ n → (TL.numL n)[0]? ≠ some 48 := by
  intro n
  induction n using Nat.strongRecOn with
  | _ n ih =>
    intro h
    by_cases h10 : n < 10
    · rw [TL.numL_lt h10]
      simp
      omega
    · rw [TL.numL_step (by omega)]
      have q := ih (n / 10) (by omega) (by omega)
      have ne := TL.numL_ne (n / 10)
      rw [List.getElem?_append_left (by cases e : TL.numL (n / 10) with | nil => exact absurd e ne | cons a b => simp)]
      exact q
theorem natS_tl (n : Nat) : TL.tl (natS (n : Int)) = TL.numL n := TL.tl_num n
theorem whole_nat {n : Nat} (h : n < 10 ^ 30) : wholeS (natS (n : Int)) = some n := by
  have e := natS_tl n
  have e2 : (natS (n : Int)).cps.toList = TL.numL n := e
  have len : (natS (n : Int)).length = (TL.numL n).length := by rw [TL.len_tl, e]
  have l30 := TL.numL_len (n := n) (k := 30) (by decide) h
  have l1 : 1 ≤ (TL.numL n).length := by
    cases q : TL.numL n with
    | nil => exact absurd q (TL.numL_ne n)
    | cons a b => simp
  unfold wholeS
  rw [if_pos, e2, TL.numL_val]
  refine ⟨⟨by omega, by omega⟩, ?_, ?_⟩
  · rw [e2, List.all_eq_true]
    intro c hc
    have q := TL.numL_digits n c hc
    have d : DIG.cps.toList = [48, 49, 50, 51, 52, 53, 54, 55, 56, 57] := by decide +kernel
    rw [decide_eq_true_eq, d]
    simp
    omega
  · rintro ⟨a, b⟩
    rw [e2] at b
    by_cases hn : 1 ≤ n
    · exact numL_head n hn b
    · have : n = 0 := by omega
      subst this
      rw [len, TL.numL_lt (by decide)] at a
      simp at a
/-- a number from 0 on of at most thirty digits -/
structure Num30 (n : Num) : Prop where
  ok : n.ok = true
  t0 : 0 ≤ n.top
  t1 : n.top < 10 ^ 30
  l1 : n.low < 10 ^ 30
theorem num_back {m : Num} (h : Num30 m) : numRead m.text = some m := by
  have ey : TL.tl SL = 47 :: [] := by decide +kernel
  have lp := low_pos h.ok
  cases m with
  | w i =>
    obtain ⟨n, rfl⟩ := Int.eq_ofNat_of_zero_le h.t0
    have hn : n < 10 ^ 30 := by have := h.t1; simp only [Num.top] at this; omega
    have fr : 47 ∉ TL.tl (natS (n : Int)) := by rw [natS_tl]; exact TL.numL_free (by decide)
    unfold numRead
    rw [show Num.text (.w (n : Int)) = natS (n : Int) from rfl, TL.partition_none ey fr]
    show (match wholeS (natS (n : Int)) with | none => none | some t => _) = _
    rw [whole_nat hn]
    exact if_pos (show (Str.empty).length = 0 from rfl)
  | q t b =>
    obtain ⟨t, rfl⟩ := Int.eq_ofNat_of_zero_le h.t0
    obtain ⟨b, rfl⟩ := Int.eq_ofNat_of_zero_le (Int.le_of_lt lp)
    have ht : t < 10 ^ 30 := by have := h.t1; simp only [Num.top] at this; omega
    have hb : b < 10 ^ 30 := by have := h.l1; simp only [Num.low] at this; omega
    have fr : 47 ∉ TL.tl (natS (t : Int)) := by rw [natS_tl]; exact TL.numL_free (by decide)
    unfold numRead
    rw [show Num.text (.q (t : Int) (b : Int)) = natS (t : Int) ++ SL ++ natS (b : Int) from rfl, TL.partition_app ey fr]
    show (match wholeS (natS (t : Int)) with | none => none | some t => _) = _
    rw [whole_nat ht]
    show (if SL.length = 0 then _ else _) = _
    rw [if_neg (by decide +kernel), whole_nat hb]
    show (if _ then _ else _) = _
    rw [if_pos h.ok]
theorem num_chars {n : Num} (h : Num30 n) : ∀ c ∈ TL.tl n.text, 47 ≤ c ∧ c ≤ 57 := fun c hc => by
  have lp := low_pos h.ok
  cases n with
  | w i =>
    obtain ⟨n, rfl⟩ := Int.eq_ofNat_of_zero_le h.t0
    have e : TL.tl (Num.text (.w (n : Int))) = TL.numL n := natS_tl n
    rw [e] at hc
    have := TL.numL_digits n c hc
    omega
  | q t b =>
    obtain ⟨t, rfl⟩ := Int.eq_ofNat_of_zero_le h.t0
    obtain ⟨b, rfl⟩ := Int.eq_ofNat_of_zero_le (Int.le_of_lt lp)
    have e : TL.tl (Num.text (.q (t : Int) (b : Int))) = TL.numL t ++ [47] ++ TL.numL b := by
      show TL.tl (natS (t : Int) ++ SL ++ natS (b : Int)) = _
      rw [TL.tl_append, TL.tl_append, natS_tl, natS_tl]
      rfl
    rw [e] at hc
    simp only [List.mem_append, List.mem_singleton] at hc
    rcases hc with (q | q) | q
    · have := TL.numL_digits t c q; omega
    · omega
    · have := TL.numL_digits b c q; omega
theorem name_chars {x : Str} (h : nameS x = true) : ∀ c ∈ TL.tl x, (48 ≤ c ∧ c ≤ 57) ∨ (97 ≤ c ∧ c ≤ 122) := fun c hc => by
  unfold nameS at h
  simp only [Bool.and_eq_true] at h
  have q := List.all_eq_true.mp h.2 c hc
  rw [decide_eq_true_eq] at q
  have e : (LED.cps.toList.all fun c => decide ((48 ≤ c ∧ c ≤ 57) ∨ (97 ≤ c ∧ c ≤ 122))) = true := by decide +kernel
  exact of_decide_eq_true (List.all_eq_true.mp e c q)
theorem names_all_of {l : Lot} (h : namesS l = true) : ∀ x ∈ l, nameS x = true := fun x hx => by
  unfold namesS at h
  rw [Bool.and_eq_true] at h
  exact List.all_eq_true.mp h.1 x hx
theorem spc_tl : TL.tl SPC = [32] := by decide +kernel
theorem lot_chars {l : Lot} (h : namesS l = true) : ∀ c ∈ TL.tl (Txt.join SPC l), c = 32 ∨ (48 ≤ c ∧ c ≤ 57) ∨ (97 ≤ c ∧ c ≤ 122) := fun c hc => by
  rcases mem_join hc with q | ⟨p, hp, hc⟩
  · rw [spc_tl] at q
    exact .inl (List.mem_singleton.mp q)
  · exact .inr (name_chars (names_all_of h p hp) c hc)
def okC (c : Nat) : Prop := c = 32 ∨ c = 40 ∨ c = 41 ∨ (47 ≤ c ∧ c ≤ 57) ∨ (97 ≤ c ∧ c ≤ 122)
/-- a term that is written and read -/
structure Neat (t : Term) : Prop where
  num : Num30 t.2
  pos : t.2 ≠ .w 0
  names : namesS t.1 = true
  ne : t.1 ≠ []
theorem term_chars {t : Term} (h : Neat t) : ∀ c ∈ TL.tl (termText t.1 t.2), okC c := fun c hc => by
  unfold termText at hc
  rw [TL.tl_append, TL.tl_append, TL.tl_append] at hc
  have e1 : TL.tl WW = [32, 119, 40] := by decide +kernel
  have e2 : TL.tl RP = [41] := by decide +kernel
  rw [e1, e2] at hc
  simp only [List.mem_append, List.mem_cons, List.not_mem_nil, or_false] at hc
  unfold okC
  rcases hc with ((q | q) | q) | q
  · have := num_chars h.num c q; omega
  · omega
  · have := lot_chars h.names c q; omega
  · omega
theorem names_back {l : Lot} (h : namesS l = true) (ne : l ≠ []) : Txt.split (Txt.join SPC l) SPC = l :=
  TL.split_join (s := 32) (S := []) spc_tl (by decide +kernel) ne fun p hp m => by
    have := name_chars (names_all_of h p hp) 32 m
    omega
theorem term_back {t : Term} (h : Neat t) : termRead (termText t.1 t.2) = some t := by
  have e : termText t.1 t.2 = t.2.text ++ WW ++ (Txt.join SPC t.1 ++ RP) := by
    unfold termText
    simp only [app_assoc]
  have f : 32 ∉ TL.tl t.2.text := fun m => by have := num_chars h.num 32 m; omega
  have p : Txt.partition (termText t.1 t.2) WW = (t.2.text, WW, Txt.join SPC t.1 ++ RP) := by
    rw [e]
    exact TL.partition_app (show TL.tl WW = 32 :: [119, 40] by decide +kernel) f
  unfold termRead
  rw [p]
  show termOf (Txt.endswith (Txt.join SPC t.1 ++ RP) RP) (namesRead (cutS (Txt.join SPC t.1 ++ RP) none (some (-1)))) (numRead t.2.text) = some t
  rw [ends_iff.mpr ⟨_, rfl⟩, cut_app (by rfl), num_back h.num]
  unfold namesRead
  rw [names_back h.names h.ne, if_pos h.names]
  exact if_neg h.pos
theorem allSome_map {α : Type} : ∀ l : List α, allSome (l.map some) = some l
  | [] => rfl
  | a :: l => by
    show (match allSome (l.map some) with | none => none | some r => some (a :: r)) = _
    rw [allSome_map l]
theorem pl_tl : TL.tl PL = 32 :: 43 :: [32] := by decide +kernel
theorem ge_tl : TL.tl GE = 32 :: 62 :: [61, 32] := by decide +kernel
theorem side_back {ts : List Term} (h : ∀ t ∈ ts, Neat t) : sideRead (sideText ts) = some ts := by
  cases ts with
  | nil =>
    unfold sideRead
    rw [if_pos (show sideText [] = ZER from rfl)]
  | cons a r =>
    have e : sideText (a :: r) = Txt.join PL ((a :: r).map fun t => termText t.1 t.2) := by
      unfold sideText
      rw [if_neg (by simp)]
    have nz : sideText (a :: r) ≠ ZER := fun z => by
      have m : 119 ∈ TL.tl (sideText (a :: r)) := by
        rw [e]
        refine join_of (p := termText a.1 a.2) (List.mem_map.mpr ⟨a, List.mem_cons_self, rfl⟩) ?_
        unfold termText
        rw [TL.tl_append, TL.tl_append, TL.tl_append]
        have e1 : TL.tl WW = [32, 119, 40] := by decide +kernel
        rw [e1]
        simp
      rw [z, show TL.tl ZER = [48] by decide +kernel] at m
      simp at m
    unfold sideRead
    rw [if_neg nz, e, split_join2 pl_tl sep_pl (by decide) (by simp) fun p hp m => ?_, List.map_map]
    · have q : (a :: r).map (termRead ∘ fun t => termText t.1 t.2) = (a :: r).map some := List.map_congr_left fun t ht => term_back (h t ht)
      rw [q, allSome_map]
    · obtain ⟨t, ht, rfl⟩ := List.mem_map.mp hp
      have := term_chars (h t ht) 43 m
      unfold okC at this
      omega
theorem side_chars {ts : List Term} (h : ∀ t ∈ ts, Neat t) : ∀ c ∈ TL.tl (sideText ts), okC c ∨ c = 43 := fun c hc => by
  unfold sideText at hc
  split at hc
  · rw [show TL.tl ZER = [48] by decide +kernel] at hc
    have := List.mem_singleton.mp hc
    unfold okC
    omega
  · rcases mem_join hc with q | ⟨p, hp, hc⟩
    · rw [pl_tl] at q
      simp at q
      unfold okC
      omega
    · obtain ⟨t, ht, rfl⟩ := List.mem_map.mp hp
      exact .inl (term_chars (h t ht) c hc)
theorem sides_back {a b : List Term} (ha : ∀ t ∈ a, Neat t) (hb : ∀ t ∈ b, Neat t) : sidesRead (sideText a ++ GE ++ sideText b) = some (a ++ b.map turnT) := by
  have p : Txt.partition (sideText a ++ GE ++ sideText b) GE = (sideText a, GE, sideText b) := partition_app2 ge_tl sep_ge (by decide) fun m => by
    have := side_chars ha 62 m
    unfold okC at this
    omega
  unfold sidesRead
  rw [p]
  show (match sideRead (sideText a) with | none => none | some x => _) = _
  rw [side_back ha]
  show (match sideRead (sideText b) with | none => none | some x => _) = _
  rw [side_back hb]
theorem text_back {taps : Lot} {a b : List Term} (tp : tapsS taps = true) (ha : ∀ t ∈ a, Neat t) (hb : ∀ t ∈ b, Neat t) (la : ∀ t ∈ a, lotS taps t.1 = true) (lb : ∀ t ∈ b, lotS taps t.1 = true) :
    textRead (Txt.join SPC taps ++ CO ++ (sideText a ++ GE ++ sideText b)) = some (taps, gathT (a ++ b.map turnT)) := by
  obtain ⟨t2, _, tn⟩ := taps_few tp
  have ne : taps ≠ [] := fun e => by rw [e] at t2; simp at t2
  have p : Txt.partition (Txt.join SPC taps ++ CO ++ (sideText a ++ GE ++ sideText b)) CO = (Txt.join SPC taps, CO, sideText a ++ GE ++ sideText b) :=
    TL.partition_app (show TL.tl CO = 58 :: [32] by decide +kernel) fun m => by
      have := lot_chars tn 58 m
      omega
  unfold textRead
  rw [p]
  show (if tapsS (Txt.split (Txt.join SPC taps) SPC) = true then _ else _) = _
  rw [names_back tn ne, if_pos tp]
  show (match sidesRead (sideText a ++ GE ++ sideText b) with | none => none | some x => _) = _
  rw [sides_back ha hb]
  refine if_pos (List.all_eq_true.mpr fun t ht => ?_)
  rcases List.mem_append.mp ht with q | q
  · exact la t q
  · obtain ⟨u, hu, rfl⟩ := List.mem_map.mp q
    exact lb u hu
theorem top_ne {n : Num} (h : n.ok = true) (hz : n ≠ .w 0) : n.top ≠ 0 := fun e => hz ((val_zero h).mp (by
  unfold val
  rw [e]
  grind))
theorem neat_great {taps : Lot} {L : List Term} (h : RightC taps L) : ∀ t ∈ greatT L, Neat t := fun t ht => by
  obtain ⟨f1, f2, f3, f4⟩ := (fit_great h t ht).1
  obtain ⟨m, _⟩ := List.mem_filter.mp ht
  have lo := h.lots t m
  exact ⟨⟨h.canon.ok t m, f1, Int.lt_trans f2 (by decide), Int.lt_trans f4 (by decide)⟩, h.canon.nz t m, (lot_few lo).1, lot_ne lo⟩
theorem neat_less {taps : Lot} {L : List Term} (h : RightC taps L) : ∀ t ∈ lessT L, Neat t := fun t ht => by
  obtain ⟨f1, f2, f3, f4⟩ := (fit_less h t ht).1
  obtain ⟨u, hu, rfl⟩ := List.mem_map.mp ht
  obtain ⟨m, _⟩ := List.mem_filter.mp hu
  have lo := h.lots u m
  exact ⟨⟨turn_ok (h.canon.ok u m), f1, Int.lt_trans f2 (by decide), Int.lt_trans f4 (by decide)⟩, turn_nz (h.canon.nz u m), (lot_few lo).1, lot_ne lo⟩
theorem turnT_turnT (t : Term) : turnT (turnT t) = t := by
  show (t.1, turnN (turnN t.2)) = t
  rw [turn_turn]
theorem halves {taps : Lot} {L : List Term} (h : RightC taps L) : (greatT L ++ (lessT L).map turnT).Perm L := by
  have e : (lessT L).map turnT = L.filter fun t => !decide (0 < t.2.top) := by
    unfold lessT
    rw [List.map_map, show (turnT ∘ turnT) = id from funext turnT_turnT, List.map_id]
    refine List.filter_congr fun t ht => ?_
    have := top_ne (h.canon.ok t ht) (h.canon.nz t ht)
    by_cases q : 0 < t.2.top
    · rw [decide_eq_true q, decide_eq_false (by omega)]; rfl
    · rw [decide_eq_false q, decide_eq_true (by omega)]; rfl
  rw [e]
  exact List.filter_append_perm _ _
theorem claim_back {taps : Lot} {L : List Term} (h : RightC taps L) : textRead (claimText taps L) = some (taps, L) := by
  have e : claimText taps L = Txt.join SPC taps ++ CO ++ (sideText (greatT L) ++ GE ++ sideText (lessT L)) := by
    unfold claimText
    simp only [app_assoc]
  rw [e, text_back h.tp (neat_great h) (neat_less h) (fun t ht => h.lots t (List.mem_filter.mp ht).1) fun t ht => ?_]
  · have hp := halves h
    rw [gath_to (fun t ht => h.canon.ok t (hp.mem_iff.mp ht)) h.canon fun l => by rw [sumV_perm hp, sumV_canon h.canon]]
  · obtain ⟨u, hu, rfl⟩ := List.mem_map.mp ht
    exact h.lots u (List.mem_filter.mp hu).1
end K17
set_option maxHeartbeats 1000000
namespace K17
open PySem PySem.Spec PyProof.Rows L2 Hx RZ
/-! ### the law's reader of texts: what it reads -/
abbrev WP : Str := "w("
theorem whole_chars {x : Str} {n : Nat} (h : wholeS x = some n) : ∀ c ∈ TL.tl x, 48 ≤ c ∧ c ≤ 57 := fun c hc => by
  unfold wholeS at h
  split at h
  · next q => exact dig_mem (of_decide_eq_true (List.all_eq_true.mp q.2.1 c hc))
  · cases h
theorem num_free {x : Str} {n : Num} (h : numRead x = some n) : ∀ c ∈ TL.tl x, 47 ≤ c ∧ c ≤ 57 := fun c hc => by
  rcases cut_or x with ⟨_, _, ep⟩ | ⟨p, r, _, ex, ep, _⟩
  · unfold numRead at h
    rw [ep] at h
    cases hw : wholeS x with
    | none => rw [hw] at h; cases h
    | some t => have := whole_chars hw c hc; omega
  · unfold numRead at h
    rw [ep] at h
    cases hw : wholeS p with
    | none => rw [hw] at h; cases h
    | some t =>
      rw [hw] at h
      have h2 : (if SL.length = 0 then some (Num.w t) else match wholeS r with | none => none | some b => if Num.ok (.q t b) = true then some (.q t b) else none) = some n := h
      rw [if_neg (by decide +kernel)] at h2
      cases hr : wholeS r with
      | none => rw [hr] at h2; cases h2
      | some b =>
        rw [ex, TL.tl_append, TL.tl_append, show TL.tl SL = [47] by decide +kernel] at hc
        simp only [List.mem_append, List.mem_singleton] at hc
        rcases hc with (q | q) | q
        · have := whole_chars hw c q; omega
        · omega
        · have := whole_chars hr c q; omega
theorem termOf_no {b : Bool} {o : Option Lot} : termOf b o none = none := by
  cases b <;> cases o <;> rfl
theorem no_end {r : Str} (h : r = Str.empty) : Txt.endswith r RP = false := by
  cases e : Txt.endswith r RP with
  | false => rfl
  | true =>
    obtain ⟨a, ea⟩ := ends_iff.mp e
    have q := congrArg PySem.Str.length ea
    rw [append_len, h] at q
    have : RP.length = 1 := rfl
    have : Str.empty.length = 0 := rfl
    omega
theorem cut_two (z : Str) : TL.tl (cutS z none (some 2)) = (TL.tl z).take 2 := by
  rw [tl_cut, show HT.sIx z.length z.length (some 2) = min 2 z.length from HT.sIx_nat _ _ 2, HT.sIx_none, List.drop_zero, Nat.sub_zero, TL.len_tl, ← List.take_eq_take_min]
theorem cut_last (z : Str) : TL.tl (cutS z (some (-1)) none) = (TL.tl z).drop (z.length - 1) := by
  have := TL.len_tl z
  rw [tl_cut, six_neg, HT.sIx_none, List.take_of_length_le (by rw [List.length_drop]; omega)]
theorem cut_mid (z : Str) (h : 2 ≤ z.length) : TL.tl (cutS z (some 2) (some (-1))) = ((TL.tl z).drop 2).take (z.length - 1 - 2) := by
  rw [tl_cut, six_neg, show HT.sIx z.length 0 (some 2) = min 2 z.length from HT.sIx_nat _ _ 2, Nat.min_eq_left h]
theorem wp_tl : TL.tl WP = [119, 40] := by decide +kernel
theorem rp_tl : TL.tl RP = [41] := by decide +kernel
theorem spc_wp (b u : Str) : b ++ SPC ++ (WP ++ u) = b ++ WW ++ u := TL.ext_tl (by
  rw [TL.tl_append, TL.tl_append, TL.tl_append, TL.tl_append, TL.tl_append, wp_tl, spc_tl, show TL.tl WW = [32, 119, 40] by decide +kernel]
  simp)
theorem split_at1 {b t : Str} (h : 32 ∉ TL.tl b) : Txt.split (b ++ SPC ++ t) SPC = b :: Txt.split t SPC := TL.map_tl_inj (by
  rw [List.map_cons, split_tl sep_spc, split_tl sep_spc, TL.tl_append, TL.tl_append, List.append_assoc, spc_tl, TL.spl_part1 (S := []) h, List.nil_append])
theorem law_term {p b : Str} {r : List Str} (e : Txt.split p SPC = b :: r) :
    termRead p = if cutS (Txt.join SPC r) none (some 2) = WP ∧ cutS (Txt.join SPC r) (some (-1)) none = RP then termOf true (namesRead (cutS (Txt.join SPC r) (some 2) (some (-1)))) (numRead b) else none := by
  by_cases h32 : 32 ∈ TL.tl p
  · obtain ⟨p1, t1, e1, hp⟩ := List.eq_append_cons_of_mem h32
    have ep : p = (⟨p1.toArray⟩ : Str) ++ SPC ++ ⟨t1.toArray⟩ := TL.ext_tl (by rw [TL.tl_append, TL.tl_append, spc_tl, e1]; simp [TL.tl])
    have hb : 32 ∉ TL.tl (⟨p1.toArray⟩ : Str) := hp
    generalize (⟨p1.toArray⟩ : Str) = b' at ep hb
    generalize (⟨t1.toArray⟩ : Str) = t at ep
    have es := split_at1 (t := t) hb
    rw [← ep, e] at es
    injection es with eb er
    subst eb
    have ej : Txt.join SPC r = t := by rw [er, join_split sep_spc]
    rw [ej]
    clear ej er e e1 hp h32
    by_cases hw : ∃ u : Str, t = WP ++ u
    · obtain ⟨u, rfl⟩ := hw
      rw [spc_wp] at ep
      have epp : Txt.partition p WW = (b, WW, u) := by
        rw [ep]
        exact TL.partition_app (show TL.tl WW = 32 :: [119, 40] by decide +kernel) hb
      have c2 : cutS (WP ++ u) none (some 2) = WP := TL.ext_tl (by rw [cut_two, TL.tl_append, wp_tl]; rfl)
      have lw : (WP ++ u).length = 2 + u.length := by rw [append_len]; rfl
      unfold termRead
      rw [epp, c2]
      show termOf (Txt.endswith u RP) (namesRead (cutS u none (some (-1)))) (numRead b) = _
      have lu := TL.len_tl u
      by_cases he : ∃ a : Str, u = a ++ RP
      · obtain ⟨a, rfl⟩ := he
        have la := TL.len_tl a
        have c1 : cutS (WP ++ (a ++ RP)) (some (-1)) none = RP := TL.ext_tl (by
          rw [cut_last, lw, append_len, TL.tl_append, TL.tl_append, ← List.append_assoc]
          have : (2 + (a.length + RP.length) - 1) = (TL.tl WP ++ TL.tl a).length := by
            rw [List.length_append, wp_tl, ← la]
            have : RP.length = 1 := rfl
            simp
            omega
          rw [this, List.drop_left])
        have c3 : cutS (WP ++ (a ++ RP)) (some 2) (some (-1)) = a := TL.ext_tl (by
          rw [cut_mid _ (by omega), lw, append_len, TL.tl_append, TL.tl_append, wp_tl]
          show (TL.tl a ++ TL.tl RP).take (2 + (a.length + RP.length) - 1 - 2) = _
          have : 2 + (a.length + RP.length) - 1 - 2 = (TL.tl a).length := by
            have : RP.length = 1 := rfl
            omega
          rw [this, List.take_left])
        rw [c1, c3, cut_app (by rfl), ends_iff.mpr ⟨_, rfl⟩, if_pos ⟨rfl, rfl⟩]
      · have ef : Txt.endswith u RP = false := by
          cases q : Txt.endswith u RP with
          | false => rfl
          | true => exact absurd (ends_iff.mp q) he
        rw [ef, if_neg ?_]
        · rfl
        rintro ⟨_, c1⟩
        have q := congrArg TL.tl c1
        rw [cut_last, lw, TL.tl_append, wp_tl, rp_tl] at q
        rcases List.eq_nil_or_concat (TL.tl u) with z | ⟨a, c, z⟩
        · rw [z] at lu q
          rw [lu] at q
          simp at q
        · rw [z] at lu
          simp only [List.length_concat] at lu
          rw [z, lu, show 2 + (a.length + 1) - 1 = ([119, 40] ++ a).length by simp; omega, List.concat_eq_append, ← List.append_assoc, List.drop_left] at q
          refine he ⟨⟨a.toArray⟩, TL.ext_tl ?_⟩
          rw [z, TL.tl_append, rp_tl, List.concat_eq_append, q]
    · rw [if_neg]
      · rcases cut2 sep_ww p with ⟨_, epp⟩ | ⟨a, r', ex, epp, _⟩
        · unfold termRead
          rw [epp]
          show termOf (Txt.endswith Str.empty RP) _ _ = none
          rw [no_end rfl]
          rfl
        · unfold termRead
          rw [epp]
          show termOf (Txt.endswith r' RP) (namesRead (cutS r' none (some (-1)))) (numRead a) = none
          cases hn : numRead a with
          | none => exact termOf_no
          | some n =>
            exfalso
            have ha : 32 ∉ TL.tl a := fun m => by have := num_free hn 32 m; omega
            have z1 := split_at1 (t := WP ++ r') ha
            have z2 := split_at1 (t := t) hb
            rw [spc_wp, ← ex] at z1
            rw [← ep, z1] at z2
            injection z2 with _ z3
            refine hw ⟨r', ?_⟩
            rw [← join_split sep_spc t, ← z3, join_split sep_spc]
      · rintro ⟨c2, _⟩
        have q := congrArg TL.tl c2
        rw [cut_two, wp_tl] at q
        refine hw ⟨⟨((TL.tl t).drop 2).toArray⟩, TL.ext_tl ?_⟩
        rw [TL.tl_append, wp_tl, ← q]
        exact (List.take_append_drop _ _).symm
  · have es : Txt.split p SPC = [p] := TL.map_tl_inj (by rw [split_tl sep_spc, spc_tl, TL.spl_last1 (S := []) h32]; rfl)
    rw [e] at es
    injection es with eb er
    subst eb
    subst er
    rw [if_neg]
    · unfold termRead
      rw [TL.partition_none (show TL.tl WW = 32 :: [119, 40] by decide +kernel) h32]
      show termOf (Txt.endswith Str.empty RP) _ _ = none
      rw [no_end rfl]
      rfl
    · rintro ⟨c2, _⟩
      have q := congrArg TL.tl c2
      rw [cut_two, wp_tl, TL.join_eq, TL.tl_join] at q
      simp [TL.joinL] at q
theorem term_free {p : Str} {t : Term} (h : termRead p = some t) : 62 ∉ TL.tl p := fun m => by
  obtain ⟨he, hns, hn, hz⟩ := termOf_some h
  rcases cut2 sep_ww p with ⟨_, ep⟩ | ⟨a, r, ex, ep, _⟩
  · rw [ep] at he
    have q : Txt.endswith Str.empty RP = true := he
    rw [no_end rfl] at q
    cases q
  · rw [ep] at he hns hn
    have he' : Txt.endswith r RP = true := he
    have hns' : namesRead (cutS r none (some (-1))) = some t.1 := hns
    have hn' : numRead a = some t.2 := hn
    obtain ⟨m', rfl⟩ := ends_iff.mp he'
    rw [cut_app (by rfl)] at hns'
    obtain ⟨e1, e2⟩ := namesRead_some hns'
    have em : m' = Txt.join SPC t.1 := by rw [e1, join_split sep_spc]
    rw [ex, TL.tl_append, TL.tl_append, TL.tl_append, rp_tl, show TL.tl WW = [32, 119, 40] by decide +kernel] at m
    simp only [List.mem_append, List.mem_cons, List.not_mem_nil, or_false] at m
    rcases m with (q | q) | (q | q)
    · have := num_free hn' 62 q; omega
    · omega
    · rw [em] at q
      have := lot_chars e2 62 q; omega
    · omega
theorem side_free {x : Str} {ts : List Term} (h : sideRead x = some ts) : 62 ∉ TL.tl x := fun m => by
  unfold sideRead at h
  split at h
  · next e =>
    rw [e, show TL.tl ZER = [48] by decide +kernel] at m
    simp at m
  · have e := allSome_mem h
    rcases mem_split sep_pl m with q | ⟨p, hp, hc⟩
    · rw [pl_tl] at q
      simp at q
    · have z : termRead p ∈ (Txt.split x PL).map termRead := List.mem_map.mpr ⟨p, hp, rfl⟩
      rw [e] at z
      obtain ⟨t, _, et⟩ := List.mem_map.mp z
      exact term_free et.symm hc
theorem side_empty : sideRead Str.empty = none := by
  have q : (sideRead Str.empty).isNone = true := by decide +kernel
  exact Option.isNone_iff_eq_none.mp q
theorem sides_empty : sidesRead Str.empty = none := by
  have q : (sidesRead Str.empty).isNone = true := by decide +kernel
  exact Option.isNone_iff_eq_none.mp q
theorem sides_none {x : Str} (e : sideRead (Txt.partition x GE).2.2 = none) : sidesRead x = none := by
  unfold sidesRead
  cases sideRead (Txt.partition x GE).1 with
  | none => rfl
  | some a => rw [e]
theorem sides_not {x : Str} (h : (Txt.split x GE).length ≠ 2) : sidesRead x = none := by
  rcases cut2 sep_ge x with ⟨_, ep⟩ | ⟨a, r, ex, ep, es⟩
  · refine sides_none ?_
    rw [ep]
    exact side_empty
  · refine sides_none ?_
    rw [ep]
    show sideRead r = none
    cases q : sideRead r with
    | none => rfl
    | some ts =>
      exfalso
      rcases cut2 sep_ge r with ⟨er, _⟩ | ⟨a2, r2, ex2, _, _⟩
      · rw [es, er] at h
        exact h rfl
      · refine side_free q ?_
        rw [ex2, TL.tl_append, TL.tl_append, ge_tl]
        simp
theorem sides_two {x a b : Str} (e : Txt.split x GE = [a, b]) : sidesRead x = match sideRead a with | none => none | some s => match sideRead b with | none => none | some t => some (s ++ t.map turnT) := by
  have ep : Txt.partition x GE = (a, GE, b) := by
    rcases cut2 sep_ge x with ⟨es, _⟩ | ⟨a', r, ex, ep, es⟩
    · rw [e] at es
      cases es
    · rw [e] at es
      injection es with e1 e2
      rcases cut2 sep_ge r with ⟨er, _⟩ | ⟨a2, r2, _, _, er⟩
      · rw [er] at e2
        injection e2 with e3 _
        rw [ep, e1, e3]
      · rw [er] at e2
        injection e2 with _ e4
        obtain ⟨u, l, el⟩ := split_cons r2 GE
        rw [el] at e4
        cases e4
  unfold sidesRead
  rw [ep]
  all_goals (cases sideRead a with
  | none => rfl
  | some s => cases sideRead b <;> rfl)
theorem text_no {x : Str} (h : Txt.find x CO = -1) : textRead x = none := by
  have ep : Txt.partition x CO = (x, Str.empty, Str.empty) := by
    rcases PyProof.Rows.partition_whole x CO with ⟨e, _⟩ | ⟨i, _, hi, _⟩
    · exact e
    · rcases PyProof.Rows.find_whole x CO with ⟨_, hn⟩ | ⟨j, e, _⟩
      · exact absurd hi (hn i)
      · rw [h] at e
        omega
  unfold textRead
  rw [ep]
  show (if tapsS (Txt.split x SPC) = true then (match sidesRead Str.empty with | none => none | some ts => _) else none) = none
  rw [sides_empty]
  split <;> rfl
theorem cut_first (x : Str) (i : Nat) : TL.tl (cutS x none (some (i : Int))) = (TL.tl x).take i := by
  rw [tl_cut, HT.sIx_nat, HT.sIx_none, List.drop_zero, Nat.sub_zero, TL.len_tl, ← List.take_eq_take_min]
theorem cut_behind (x : Str) (i : Nat) : TL.tl (cutS x (some (i : Int)) none) = (TL.tl x).drop i := by
  have := TL.len_tl x
  rw [tl_cut, HT.sIx_nat, HT.sIx_none, List.take_of_length_le (by rw [List.length_drop]; omega)]
  by_cases h : i ≤ x.length
  · rw [Nat.min_eq_left h]
  · rw [Nat.min_eq_right (by omega), List.drop_eq_nil_of_le (by omega), List.drop_eq_nil_of_le (by omega)]
theorem text_yes {x : Str} {i : Nat} (h : Txt.find x CO = (i : Int)) : Txt.partition x CO = (cutS x none (some (i : Int)), CO, cutS x (some ((i : Int) + 2)) none) := by
  rcases PyProof.Rows.find_whole x CO with ⟨e, _⟩ | ⟨j, e, hj, nj⟩
  · rw [h] at e
    omega
  · rw [h] at e
    have ij : i = j := by omega
    subst ij
    rcases PyProof.Rows.partition_whole x CO with ⟨_, hn⟩ | ⟨k, ep, hk, nk⟩
    · exact absurd hj (hn i)
    · have ik : i = k := by
        rcases Nat.lt_trichotomy i k with q | q | q
        · exact absurd hj (nk i q)
        · exact q
        · exact absurd hk (nj k q)
      subst ik
      rw [ep]
      have c1 : Builtin.Str.strSub x 0 i = cutS x none (some (i : Int)) := TL.ext_tl (by rw [TL.tl_strSub, cut_first, List.drop_zero, Nat.sub_zero])
      have c2 : Builtin.Str.strSub x (i + CO.length) x.length = cutS x (some ((i : Int) + 2)) none := TL.ext_tl (by
        rw [TL.tl_strSub_end, show ((i : Int) + 2) = ((i + 2 : Nat) : Int) by omega, cut_behind]
        rfl)
      rw [c1, c2]
end K17
set_option maxHeartbeats 1000000
namespace K17
open PySem PySem.Spec PyProof.Rows L2 Hx RZ
/-! ### the law draws taps -/
abbrev tl (x : Str) : List Nat := x.cps.toList
theorem tl_inj {x y : Str} (h : tl x = tl y) : x = y := TL.ext_tl h
def Asc (l : List Str) : Prop := l.Pairwise fun a b => tl a < tl b
theorem lt_tr {a b c : List Nat} (h : a < b) (k : b < c) : a < c := List.lt_trans h k
theorem lt_ir (a : List Nat) : ¬ a < a := List.lt_irrefl a
theorem lt_or {a b : List Nat} (h : ¬ b < a) (ne : a ≠ b) : a < b := by
  rcases Classical.em (a < b) with q | q
  · exact q
  · exact absurd (List.le_antisymm (show a ≤ b from h) (show b ≤ a from q)) ne
theorem rise_asc : ∀ {l : List Str}, riseS l = true → Asc l
  | [], _ => .nil
  | [x], _ => by simp [Asc]
  | x :: y :: r, h => by
    have e : riseS (x :: y :: r) = (decide (tl x < tl y) && riseS (y :: r)) := by
      unfold riseS
      rfl
    rw [e, Bool.and_eq_true, decide_eq_true_eq] at h
    have q := rise_asc h.2
    refine List.pairwise_cons.mpr ⟨fun z hz => ?_, q⟩
    rcases List.mem_cons.mp hz with e | e
    · rw [e]; exact h.1
    · exact lt_tr h.1 ((List.pairwise_cons.mp q).1 z e)
theorem asc_rise : ∀ {l : List Str}, Asc l → riseS l = true
  | [], _ => rfl
  | [x], _ => rfl
  | x :: y :: r, h => by
    have e : riseS (x :: y :: r) = (decide (tl x < tl y) && riseS (y :: r)) := by
      unfold riseS
      rfl
    have q := List.pairwise_cons.mp h
    rw [e, asc_rise q.2, decide_eq_true (q.1 y List.mem_cons_self)]
    rfl
theorem asc_eq : ∀ {l m : List Str}, Asc l → Asc m → (∀ z, z ∈ l ↔ z ∈ m) → l = m
  | [], m, _, _, h => by
    cases m with
    | nil => rfl
    | cons y m => exact absurd ((h y).mpr List.mem_cons_self) (by simp)
  | x :: l, [], _, _, h => absurd ((h x).mp List.mem_cons_self) (by simp)
  | x :: l, y :: m, hl, hm, h => by
    have ql := List.pairwise_cons.mp hl
    have qm := List.pairwise_cons.mp hm
    have exy : x = y := by
      have hx := (h x).mp List.mem_cons_self
      have hy := (h y).mpr List.mem_cons_self
      rcases List.mem_cons.mp hx with e | e
      · exact e
      · rcases List.mem_cons.mp hy with e2 | e2
        · exact e2.symm
        · exact absurd (lt_tr (qm.1 x e) (ql.1 y e2)) (lt_ir _)
    subst exy
    congr 1
    refine asc_eq ql.2 qm.2 fun z => ⟨fun hz => ?_, fun hz => ?_⟩
    · rcases List.mem_cons.mp ((h z).mp (List.mem_cons_of_mem _ hz)) with e | e
      · exact absurd (ql.1 z hz) (by rw [e]; exact lt_ir _)
      · exact e
    · rcases List.mem_cons.mp ((h z).mpr (List.mem_cons_of_mem _ hz)) with e | e
      · exact absurd (qm.1 z hz) (by rw [e]; exact lt_ir _)
      · exact e
theorem rising_of : ∀ {p : Str} {l : List Str}, risingS p l = true → (p :: l).Nodup → Asc (p :: l)
  | p, [], _, _ => by simp [Asc]
  | p, x :: r, h, nd => by
    have e : risingS p (x :: r) = (!ltCps x.cps.toList p.cps.toList && risingS x r) := rfl
    rw [e, Bool.and_eq_true, ltCps_eq, Bool.not_eq_true', decide_eq_false_iff_not] at h
    have n2 := List.nodup_cons.mp nd
    have q := rising_of h.2 n2.2
    have pl : tl p < tl x := lt_or h.1 fun e => n2.1 (by rw [tl_inj e]; exact List.mem_cons_self)
    refine List.pairwise_cons.mpr ⟨fun z hz => ?_, q⟩
    rcases List.mem_cons.mp hz with e | e
    · rw [e]; exact pl
    · exact lt_tr pl ((List.pairwise_cons.mp q).1 z e)
theorem sortedS_asc {ys : List Str} (nd : ys.Nodup) (so : sortedS ys = true) : Asc ys := by
  cases ys with
  | nil => exact .nil
  | cons x r => exact rising_of so nd
theorem name_signs {x : Str} (h : nameS x = true) : ∀ c ∈ x.cps.toList, c < 128 := by
  unfold nameS at h
  simp only [Bool.and_eq_true] at h
  intro c hc
  have q := List.all_eq_true.mp h.2 c hc
  rw [decide_eq_true_eq] at q
  have e : (LED.cps.toList.all fun c => decide (c < 128)) = true := by decide +kernel
  exact of_decide_eq_true (List.all_eq_true.mp e c q)
theorem name_ok {x : Str} (h : nameS x = true) : PyData.canLay0 (.str x) = true := by
  have q := name_signs h
  show (x.cps.all fun c => decide (c < 0x110000)) = true
  rw [← Array.all_toList, List.all_eq_true]
  intro c hc
  rw [decide_eq_true_eq]
  have := q c hc
  omega
theorem St.off {H : Hp} {d g c l : Addr} {n : Nat} (h : St H d g c n) (hl : H l = none) : l ≠ g ∧ l ≠ d := by
  obtain ⟨gs, cs, r, t, h1, h2, _⟩ := h
  refine ⟨fun e => ?_, fun e => ?_⟩
  · rw [← e, hl] at h2; cases h2
  · rw [← e, hl] at h1; cases h1
theorem St.offc {H : Hp} {d g c l : Addr} {n : Nat} (h : St H d g c n) (hl : H l = none) : l ≠ c := by
  obtain ⟨gs, cs, r, t, h1, h2, h3, _⟩ := h
  intro e
  rw [← e, hl] at h3
  cases h3
theorem rSlL_any {K : PySem.W.Frag} {H : Hp} {a : Addr} {xs ys : List V} {lo hi : Option Int} {Q : VK} (ha : SqL K H a xs) (hy : cutV xs lo hi = ys) (q : ∀ p, H p = none → Q (.ref p) (upd H p (.lst ys))) : rSlL K (.ref a) lo hi H Q :=
  ⟨a, xs, rfl, ha, fun p hp => by rw [hy]; exact q p hp⟩
abbrev someA : List Str := ["a", "b", "c", "d", "e", "f"]
abbrev someB : List Str := ["north", "south", "t1", "t2", "u", "west"]
def tapsAll : List Str := someA ++ someB
theorem names_all : (tapsAll.all nameS) = true := by decide +kernel
theorem a_nodup : someA.Nodup := by decide +kernel
theorem b_nodup : someB.Nodup := by decide +kernel
def unS : V → Str
  | .str x => x
  | _ => ""
theorem perm_strs {ys : List V} {A : List Str} (h : ys.Perm (A.map V.str)) : ∃ zs : List Str, zs.Perm A ∧ ys = zs.map V.str := by
  refine ⟨ys.map unS, ?_, ?_⟩
  · have q := h.map unS
    rw [List.map_map] at q
    have e : (unS ∘ V.str) = id := rfl
    rw [e, List.map_id] at q
    exact q
  · have q : ∀ y ∈ ys, V.str (unS y) = y := fun y hy => by
      obtain ⟨x, _, rfl⟩ := List.mem_map.mp (h.mem_iff.mp hy)
      rfl
    rw [List.map_map]
    exact (List.map_id' ys).symm.trans (List.map_congr_left fun y hy => (q y hy).symm)
theorem cut_upto {xs : List V} (k : Nat) : cutV xs none (some (k : Int)) = xs.take k := by
  unfold cutV
  rw [HT.sIx_nat]
  show (xs.drop 0).take (min k xs.length - 0) = _
  rw [List.drop_zero, Nat.sub_zero, ← List.take_eq_take_min]
/-- sorted texts without a double rise -/
theorem sorted_asc {ys : List Str} (nd : ys.Nodup) (so : sortedS ys = true) : Asc ys := sortedS_asc nd so
section
variable {P : Program} {w : World} {K : PySem.W.Frag} {mg : Str → Option Value} {base : Heap}
def spTaps (K : PySem.W.Frag) : Sp := fun vs H Q _ => ∃ (d g c : Addr) (n : Nat), vs = [.ref d, .int 2, .int 6] ∧ St H d g c (n + 8) ∧ ∀ t taps H', SqT K H' t (taps.map V.str) → tapsS taps = true → (∀ x ∈ taps, x ∈ tapsAll) → St H' d g c n → Kp d g H H' → Q (.ref t) H'
theorem sc_ct_taps : FnScope ["state", "least", "most", "some", "many"] ["state", "least", "most"] (defScope sL_ct_taps) := ⟨rfl, rfl, rfl, by decide +kernel, rfl, by decide +kernel, by decide +kernel⟩
theorem ok_ct_taps (D : Dn K mg "_law_ct_taps" sL_ct_taps) (B0 : Ok P w K mg base L2.CX0 3 "_law_pick" ["state", "some"] (spPick K)) (B1 : Ok P w K mg base L2.CX0 2 "_law_draw" ["state", "room"] spDraw) (B2 : Ok P w K mg base L2.CX0 3 "_law_shuffled" ["state", "some"] (spShuffled K))
    (h_tuple : mg "tuple" = none) (h_sorted : mg "sorted" = none) : Ok P w K mg base L2.CX0 4 "_law_ct_taps" ["state", "least", "most"] (spTaps K) := by
  obtain ⟨_, _, g_pick, k_pick, b_pick, F_pick⟩ := B0.ex
  obtain ⟨_, _, g_draw, k_draw, b_draw, F_draw⟩ := B1.ex
  obtain ⟨_, _, g_shuffled, k_shuffled, b_shuffled, F_shuffled⟩ := B2.ex
  refine Ok.mk0 D sc_ct_taps (fun vs H Q E h => ?_) (fun _ _ _ _ _ _ us hl => match us, hl with | [_, _, _], _ => rfl) (fun f cdv A outer s H vs Q E hr h => ?_)
  · obtain ⟨d, g, c, n, rfl, _⟩ := h
    rfl
  obtain ⟨d, g, c, n, rfl, hS, k⟩ := h
  have nd := sc_ct_taps.nd
  have hr2 := hr.mono (show 2 ≤ 3 by decide)
  refine ⟨_, (pss_cons (ps_set (i := 3) nd rfl (Or.inl rfl) (pe_call F_pick hr rfl g_pick k_pick b_pick .nil pass0 (pa_cons (pv 0) (pa_cons (pe_lst (pa_cons (pe_lst (pa_cons pe_str (pa_cons pe_str (pa_cons pe_str (pa_cons pe_str (pa_cons pe_str (pa_cons pe_str pa_nil))))))) (pa_cons (pe_lst (pa_cons pe_str (pa_cons pe_str (pa_cons pe_str (pa_cons pe_str (pa_cons pe_str (pa_cons pe_str pa_nil))))))) pa_nil))) pa_nil))))
    (pss_cons (ps_set (i := 4) nd rfl (Or.inl rfl) (pe_op op_add (pv 1) (pe_call F_draw hr2 rfl g_draw k_draw b_draw .nil pass0 (pa_cons (pv 0) (pa_cons (pe_op op_add (pe_op op_sub (pv 2) (pv 1)) pe_int) pa_nil)))))
    (pss_one (ps_ret (pe_callTy call_tuple_of (by rfl) h_tuple (by decide +kernel) (pa_cons (pe_callB cr_sortedS (by rfl) h_sorted (by decide +kernel) (pa_cons (pe_slice sl_list (pe_call F_shuffled hr rfl g_shuffled k_shuffled b_shuffled .nil pass0 (pa_cons (pv 0) (pa_cons (pv 3) pa_nil))) po_none (po_some (pv 4))) pa_nil)) pa_nil)))))), ?_⟩
  have six : (6 : Nat) ≤ sizeLine := by rw [sizeLine_eq]; decide
  refine ⟨_, rfl, six, fun a1 ha1 => ⟨six, fun a2 ha2 => ⟨by show 2 ≤ sizeLine; rw [sizeLine_eq]; decide, fun l hl => ?_⟩⟩⟩
  have s1 := same_upd (o := .lst (someA.map V.str)) ha1
  have s2 := same_upd (o := .lst (someB.map V.str)) ha2
  have s3 := same_upd (o := .lst [.ref a1, .ref a2]) hl
  have sall := s1.trans (s2.trans s3)
  have o1 := (s2.trans s3) _ _ (upd_same (H := H) (a := a1) (o := .lst (someA.map V.str)))
  have o2 := s3 _ _ (upd_same (a := a2) (o := .lst (someB.map V.str)))
  have S3 := hS.same sall
  have off1 := hS.off ha1
  have off2 := (hS.same s1).off ha2
  have offl := (hS.same (s1.trans s2)).off hl
  refine ⟨d, g, c, l, n + 7, _, rfl, S3, SqL.of upd_same, offl.1, by simp, by simp, fun i x H2 hx S2 kp => ?_⟩
  have kp0 := (Kp.of sall).trans kp
  obtain ⟨ax, A, rfl, hA, noff, ndA, lA, sub⟩ : ∃ (ax : Addr) (A : List Str), x = .ref ax ∧ H2 ax = some (.lst (A.map V.str)) ∧ ax ≠ g ∧ A.Nodup ∧ A.length = 6 ∧ ∀ z ∈ A, z ∈ tapsAll := by
    match i, hx with
    | 0, hx =>
      cases hx
      exact ⟨a1, someA, rfl, kp _ _ o1 off1.2 off1.1, off1.1, a_nodup, rfl, fun z hz => List.mem_append_left _ hz⟩
    | 1, hx =>
      cases hx
      exact ⟨a2, someB, rfl, kp _ _ o2 off2.2 off2.1, off2.1, b_nodup, rfl, fun z hz => List.mem_append_right _ hz⟩
  refine ⟨_, rfl, _, rfl, _, rfl, _, rfl, _, _, rfl, rfl, _, _, rfl, rfl, d, g, c, n + 6, 5, rfl, S2, by decide, by decide +kernel, fun z H3 z0 z5 S4 kp2 => ?_⟩
  obtain ⟨m, rfl⟩ := Int.eq_ofNat_of_zero_le z0
  have hA3 := kp2 _ _ hA (fun e => by have := S2; obtain ⟨gs, cs, r, t, h1, _⟩ := this; rw [e, h1] at hA; cases hA) noff
  refine ⟨_, _, rfl, rfl, ?_⟩
  refine ⟨_, rfl, _, rfl, d, g, c, ax, n, A.map V.str, A.map .str, rfl, by rw [List.length_map, lA]; exact S4, SqL.of hA3, DtAll.strs A, ?_, by rw [List.length_map, lA]; decide, fun l2 ys H5 pm hl2 e2 S6 kp3 => ?_⟩
  · intro dd hd
    obtain ⟨x, hx2, rfl⟩ := List.mem_map.mp hd
    exact ⟨name_ok (List.all_eq_true.mp names_all x (sub x hx2)), by simp [PyData.depth]⟩
  obtain ⟨zs, pz, rfl⟩ := perm_strs pm
  have zlen : zs.length = 6 := by rw [pz.length_eq, lA]
  have hcut : cutV (zs.map V.str) none (some ((2 : Int) + (m : Int))) = (zs.take (2 + m)).map V.str := by
    rw [show ((2 : Int) + (m : Int)) = ((2 + m : Nat) : Int) by omega, cut_upto, List.map_take]
  show tNoPart _ _ _
  unfold tNoPart
  refine ⟨_, rfl, _, rfl, ?_⟩
  refine rSlL_any (SqL.of e2) hcut fun q hq => ?_
  have s5 := same_upd (o := .lst ((zs.take (2 + m)).map V.str)) hq
  refine ⟨q, zs.take (2 + m), rfl, SqL.of upd_same, by rw [List.length_take]; omega, fun ys p pm2 so hp => ?_⟩
  have s6 := s5.trans (same_upd (o := .lst (ys.map V.str)) hp)
  refine ⟨p, _, rfl, .inl ⟨SqL.of upd_same, fun t ht => ?_⟩⟩
  have s7 := s6.trans (same_upd (o := .tup (ys.map V.str)) ht)
  have inA : ∀ z ∈ ys, z ∈ A := fun z hz => pz.mem_iff.mp (List.mem_of_mem_take (pm2.mem_iff.mp hz))
  have ynd : ys.Nodup := pm2.nodup_iff.mpr ((pz.nodup_iff.mpr ndA).sublist (List.take_sublist _ _))
  have ylen : ys.length = 2 + m := by rw [pm2.length_eq, List.length_take]; omega
  have tok : tapsS ys = true := by
    unfold tapsS namesS
    rw [asc_rise (sorted_asc ynd so), show ys.all nameS = true from List.all_eq_true.mpr fun z hz => List.all_eq_true.mp names_all z (sub z (inA z hz)), decide_eq_true (show 2 ≤ ys.length by omega), decide_eq_true (show ys.length ≤ 6 by omega)]
    rfl
  exact k t ys _ (SqT.of upd_same) tok (fun z hz => sub z (inA z hz)) (S6.same s7) (kp0.trans (kp2.trans (kp3.trans (Kp.of s7))))
end
end K17
set_option maxHeartbeats 1000000
namespace K17
open PySem PySem.Spec PyProof.Rows L2 Hx RZ
/-! ### all lots of taps -/
def stepL (f : List Lot) (t : Str) : List Lot := f ++ f.map fun l => l ++ [t]
def lotsAll (taps : Lot) : List Lot := taps.foldl stepL [[]]
theorem lots_snoc (a : Lot) (t : Str) : lotsAll (a ++ [t]) = stepL (lotsAll a) t := by
  unfold lotsAll
  rw [List.foldl_append]
  rfl
theorem lots_take {taps : Lot} {i : Nat} {t : Str} (h : taps[i]? = some t) : lotsAll (taps.take (i + 1)) = stepL (lotsAll (taps.take i)) t := by
  rw [List.take_add_one, h]
  exact lots_snoc _ _
theorem lots_facts (taps : Lot) : taps.Nodup → ∀ i, i ≤ taps.length → (lotsAll (taps.take i)).Nodup ∧ (lotsAll (taps.take i)).length = 2 ^ i ∧ ∀ l ∈ lotsAll (taps.take i), l.Sublist (taps.take i)
  | nd, 0, _ => ⟨by simp [lotsAll], by simp [lotsAll], fun l hl => by
      have e : lotsAll (taps.take 0) = [[]] := rfl
      rw [e] at hl
      rw [List.mem_singleton.mp hl]
      exact List.nil_sublist _⟩
  | nd, i + 1, hi => by
    obtain ⟨a, b, c⟩ := lots_facts taps nd i (by omega)
    have ht : taps[i]? = some taps[i] := List.getElem?_eq_getElem hi
    rw [lots_take ht]
    have et : taps.take (i + 1) = taps.take i ++ [taps[i]] := by rw [List.take_add_one, ht]; rfl
    have notin : taps[i] ∉ taps.take i := fun m => by
      have q : (taps.take (i + 1)).Nodup := nd.sublist (List.take_sublist _ _)
      rw [et] at q
      exact (List.nodup_append.mp q).2.2 _ m _ List.mem_cons_self rfl
    unfold stepL
    refine ⟨List.nodup_append.mpr ⟨a, ?_, fun x hx y hy e => ?_⟩, by rw [List.length_append, List.length_map, b, Nat.pow_succ]; omega, fun l hl => ?_⟩
    · refine List.Pairwise.map _ (fun x y h e => h ?_) a
      exact List.append_cancel_right e
    · obtain ⟨z, hz, rfl⟩ := List.mem_map.mp hy
      have m : taps[i] ∈ x := by rw [e]; simp
      exact notin ((c x hx).subset m)
    · rw [et]
      rcases List.mem_append.mp hl with q | q
      · exact (c l q).trans (List.sublist_append_left _ _)
      · obtain ⟨z, hz, rfl⟩ := List.mem_map.mp q
        exact (c z hz).append (List.Sublist.refl _)
theorem taps_asc {taps : Lot} (h : tapsS taps = true) : Asc taps ∧ taps.all nameS = true := by
  have q := (taps_few h).2.2
  unfold namesS at q
  rw [Bool.and_eq_true] at q
  exact ⟨rise_asc q.2, q.1⟩
theorem asc_nodup {l : List Str} (h : Asc l) : l.Nodup := h.imp fun {a b} (q : tl a < tl b) (e : a = b) => lt_ir (tl b) (by rw [e] at q; exact q)
theorem sub_lot {taps l : Lot} (h : tapsS taps = true) (s : l.Sublist taps) (h1 : 0 < l.length) (h2 : l.length < taps.length) : lotS taps l = true := by
  obtain ⟨a, b⟩ := taps_asc h
  have an : Asc l := List.Pairwise.sublist s a
  unfold lotS namesS
  rw [asc_rise an, decide_eq_true (show 1 ≤ l.length from h1), decide_eq_true h2, show l.all nameS = true from List.all_eq_true.mpr fun x hx => List.all_eq_true.mp b x (s.subset hx),
    show (l.all fun x => decide (x ∈ taps)) = true from List.all_eq_true.mpr fun x hx => decide_eq_true (s.subset hx)]
  rfl
/-- where a lot lies -/
abbrev LotAt (H : Hp) (v : V) (l : Lot) : Prop := ∃ a, v = .ref a ∧ H a = some (.tup (l.map V.str))
theorem LotAt.keep {H H' : Hp} {v : V} {l : Lot} (e : TK H H') : LotAt H v l → LotAt H' v l
  | ⟨a, ev, ha⟩ => ⟨a, ev, e.1 _ _ ha⟩
theorem LotAt.dp {K : PySem.W.Frag} {H : Hp} {v : V} {l : Lot} : LotAt H v l → Dp K H v (lotD l)
  | ⟨a, ev, ha⟩ => by rw [ev]; exact .tup (SqT.of ha) (dpAll_strs l)
def unL : PyData → Lot
  | .tuple xs => xs.map fun d => match d with
    | .str x => x
    | _ => ""
  | _ => []
theorem un_lot (l : Lot) : unL (lotD l) = l := by
  show ((l.map PyData.str).map fun d => match d with
    | .str x => x
    | _ => "") = l
  rw [List.map_map]
  exact List.map_id' l
abbrev vlD (b : V × Lot) : V × PyData := (b.1, lotD b.2)
theorem perm_vl {ys : List (V × PyData)} {bs : List (V × Lot)} (h : ys.Perm (bs.map vlD)) : ∃ zs : List (V × Lot), zs.Perm bs ∧ ys = zs.map vlD := by
  refine ⟨ys.map fun y => (y.1, unL y.2), ?_, ?_⟩
  · have q := h.map fun y => (y.1, unL y.2)
    rw [List.map_map] at q
    have e : bs.map ((fun y : V × PyData => (y.1, unL y.2)) ∘ vlD) = bs := by
      have z : ((fun y : V × PyData => (y.1, unL y.2)) ∘ vlD) = id := funext fun b => by
        show (b.1, unL (lotD b.2)) = b
        rw [un_lot]
      rw [z, List.map_id]
    rw [e] at q
    exact q
  · rw [List.map_map]
    have q : ∀ y ∈ ys, (vlD ∘ fun y : V × PyData => (y.1, unL y.2)) y = y := fun y hy => by
      obtain ⟨b, _, rfl⟩ := List.mem_map.mp (h.mem_iff.mp hy)
      show (b.1, lotD (unL (lotD b.2))) = (b.1, lotD b.2)
      rw [un_lot]
    exact (List.map_id' ys).symm.trans (List.map_congr_left fun y hy => (q y hy).symm)
/-- the lots that are told -/
def midL (taps : Lot) : List Lot := (lotsAll taps).filter fun l => decide (0 < l.length) && decide (l.length < taps.length)
theorem mid_facts {taps : Lot} (h : tapsS taps = true) : (midL taps).Nodup ∧ (midL taps).length ≤ 64 ∧ ∀ l ∈ midL taps, lotS taps l = true := by
  obtain ⟨a, b, c⟩ := lots_facts taps (asc_nodup (taps_asc h).1) taps.length (Nat.le_refl _)
  rw [List.take_length] at a b c
  have t6 := (taps_few h).2.1
  refine ⟨a.sublist List.filter_sublist, ?_, fun l hl => ?_⟩
  · have q : (midL taps).length ≤ (lotsAll taps).length := List.length_filter_le _ _
    have : 2 ^ taps.length ≤ 2 ^ 6 := Nat.pow_le_pow_right (by decide) t6
    omega
  · obtain ⟨m, p⟩ := List.mem_filter.mp hl
    rw [Bool.and_eq_true, decide_eq_true_eq, decide_eq_true_eq] at p
    exact sub_lot h (c l m) p.1 p.2
theorem none_of_same {H H' : Hp} {p : Addr} (s : Same H H') (h : H' p = none) : H p = none := by
  cases e : H p with
  | none => rfl
  | some o => rw [s p o e] at h; cases h
section
variable {P : Program} {w : World} {K : PySem.W.Frag} {mg : Str → Option Value} {base : Heap}
def spLots (K : PySem.W.Frag) : Sp := fun vs H Q _ => ∃ (t : Addr) (taps : Lot), vs = [.ref t] ∧ SqT K H t (taps.map V.str) ∧ tapsS taps = true ∧
  ∀ p us ls H', Same H H' → H p = none → H' p = some (.lst us) → Paired (LotAt H') us ls → ls.Perm (midL taps) → Q (.ref p) H'
theorem sc_ct_lots : FnScope ["taps_here", "found", "tap", "lot"] ["taps_here"] (defScope sL_ct_lots) := ⟨rfl, rfl, rfl, by decide +kernel, rfl, by decide +kernel, by decide +kernel⟩
theorem ok_ct_lots (D : Dn K mg "_law_ct_lots" sL_ct_lots) (h_len : mg "len" = none) (h_sorted : mg "sorted" = none) : Ok P w K mg base L2.CX0 1 "_law_ct_lots" ["taps_here"] (spLots K) := by
  refine Ok.mk0 D sc_ct_lots (fun vs H Q E h => ?_) (fun _ _ _ _ _ _ us hl => match us, hl with | [_], _ => rfl) (fun f cdv A outer s H vs Q E hr h => ?_)
  · obtain ⟨t, taps, rfl, _⟩ := h
    rfl
  obtain ⟨t, taps, rfl, ht, tp, k⟩ := h
  have nd := sc_ct_lots.nd
  have hu64 := hr.units
  refine ⟨_, (pss_cons (ps_set (i := 1) nd rfl (Or.inl rfl) (pe_lst (pa_cons (pe_tup pa_nil) pa_nil)))
  (pss_cons (ps_for PassesOwn.never rfl (pi_tup (pv 0)) (pg_name (i := 2) nd rfl (Or.inr rfl))
    (pss_one (ps_set (i := 1) nd rfl (Or.inl rfl) (pe_op op_cat (pv 1) (pe_lc (own := [("lot", 3)]) (g := gName 3) (tt := tYes) rfl nd (pi_list (pv 1)) (blkOk_by (own := [("lot", 3)]) (N := ["taps_here", "found", "tap", "lot"]) (sc := defScope sL_ct_lots) (by decide +kernel)) (fun _ _ _ _ _ => pg_name (i := 3) nd rfl (Or.inl rfl)) (fun _ _ _ _ _ => pts_nil) (fun _ _ _ _ _ => (pe_op (op_catAK (K := K) rfl) (pv 3) (pe_tup (pa_cons (pv 2) pa_nil)))))))))
  (pss_one (ps_ret (pe_callB (cr_srtD hu64) (by rfl) h_sorted (by decide +kernel) (pa_cons (pe_lc (own := [("lot", 3)]) (g := gName 3) rfl nd (pi_list (pv 1)) (blkOk_by (own := [("lot", 3)]) (N := ["taps_here", "found", "tap", "lot"]) (sc := defScope sL_ct_lots) (by decide +kernel)) (fun _ _ _ _ _ => pg_name (i := 3) nd rfl (Or.inl rfl)) (fun _ _ _ _ _ => pts_one (pt_chain op_lt op_lt pe_int (pe_lenS rfl h_len (pv 3)) (pe_lenS rfl h_len (pv 0)))) (fun _ _ _ _ _ => (pv 3))) pa_nil)))))), ?_⟩
  have t6 := (taps_few tp).2.1
  have big : 100 ≤ sizeLine := by rw [sizeLine_eq]; decide
  have tnd := asc_nodup (taps_asc tp).1
  refine ⟨Nat.zero_le _, fun p0 hp0 => ⟨by show 1 ≤ sizeLine; omega, fun l0 hl0 => ?_⟩⟩
  have s1 := same_upd (o := .tup []) hp0
  have s2 := s1.trans (same_upd (o := .lst [.ref p0]) hl0)
  let Pv : Nat → L2.St → Hp → Prop := fun i σ H' => ∃ (f : Addr) (us : List V) (o1 o2 : Option V), σ = [some (.ref t), some (.ref f), o1, o2] ∧ Same H H' ∧ H' f = some (.lst us) ∧ Paired (LotAt H') us (lotsAll (taps.take i))
  refine ⟨_, rfl, t, rfl, ⟨_, same_seqT s2 ht⟩, for_tup Pv ⟨l0, [.ref p0], none, none, rfl, s2, upd_same, .cons ⟨p0, rfl, by rw [upd_ne (ne_of_none upd_same hl0)]; exact upd_same⟩ .nil⟩ (fun i σ H' _ ⟨_, _, _, _, _, s, _⟩ => same_seqT s ht) ?_ ?_⟩
  · rintro i x σ H' hx ⟨f, us, o1, o2, rfl, s, hf, hus⟩
    obtain ⟨y, hy, rfl⟩ := strs_at hx
    have il : i < taps.length := (List.getElem?_eq_some_iff.mp hy).1
    obtain ⟨ln, lc, lsub⟩ := lots_facts taps tnd i (by omega)
    have c64 : (lotsAll (taps.take i)).length ≤ 32 := by
      rw [lc]
      exact Nat.le_trans (Nat.pow_le_pow_right (by decide) (show i ≤ 5 by omega)) (by decide)
    have ul := paired_len hus
    refine ⟨_, rfl, _, rfl, f, rfl, ⟨_, SqL.of hf⟩, fun Z hZ => ?_⟩
    refine lc_each (lotsAll (taps.take i)) (fun v b H => LotAt H v (b ++ [y])) (fun v b H H' tk h => h.keep tk) hZ (by omega) (fun j H3 hj s3 => ?_) (fun H3 s3 => ?_) ?_ ?_
    · exact ⟨_, _, SqL.of (s3 _ _ hf), List.getElem?_eq_getElem (by rw [ul]; exact hj)⟩
    · exact ⟨_, SqL.of (s3 _ _ hf), by rw [ul]; exact Nat.le_refl _⟩
    · rintro j b x H3 H4 F hb s3 ⟨rfl, yx⟩ kF
      have e := yx _ (SqL.of (s3 _ _ hf))
      obtain ⟨v, hv, a, rfl, ha⟩ := paired_get2 hus hb
      rw [hv] at e
      obtain rfl := Option.some.inj e
      have ha4 := s3 _ _ ha
      refine ⟨rfl, _, rfl, _, rfl, by show 1 ≤ sizeLine; omega, fun q hq => ?_⟩
      have s4 := same_upd (o := .tup [.str y]) hq
      have ha5 := s4 _ _ ha4
      have lb : b.length ≤ 6 := by
        have := (lsub b (List.mem_of_getElem? hb)).length_le
        rw [List.length_take] at this
        omega
      refine ⟨a, q, b.map V.str, [.str y], rfl, rfl, SqT.of ha5, SqT.of upd_same, by rw [List.length_map]; show b.length + 1 ≤ _; omega, fun e0 => ?_, fun _ e0 => (by cases e0), fun _ _ r hr => ?_⟩
      · have eb : b = [] := by simpa using e0
        subst eb
        exact kF _ _ ⟨q, rfl, upd_same⟩ s4
      · refine kF _ _ ⟨r, rfl, ?_⟩ (s4.trans (same_upd hr))
        rw [upd_same, List.map_append]
        rfl
    · intro acc H3 s3 eZ hacc
      have hf3 := s3 _ _ hf
      refine ⟨f, Z, us, acc, rfl, rfl, hf3, eZ, by rw [ul, paired_len hacc]; omega, fun p hp => ?_⟩
      have s5 := s3.trans (same_upd (o := .lst (us ++ acc)) hp)
      refine ⟨p, us ++ acc, _, _, rfl, s.trans s5, upd_same, ?_⟩
      rw [lots_take hy]
      unfold stepL
      exact paired_app (paired_imp hus fun v b h => h.keep (.of s5)) (paired_map (paired_imp hacc fun v b h => LotAt.keep (.of (same_upd hp)) h))
  · rintro σ H' ⟨f, us, o1, o2, rfl, s, hf, hus⟩
    rw [List.length_map, List.take_length] at hus
    obtain ⟨ln, lc, lsub⟩ := lots_facts taps tnd taps.length (Nat.le_refl _)
    rw [List.take_length] at ln lc lsub
    have c64 : (lotsAll taps).length ≤ 64 := by
      rw [lc]
      exact Nat.le_trans (Nat.pow_le_pow_right (by decide) t6) (by decide)
    have ul := paired_len hus
    refine ⟨_, rfl, f, rfl, ⟨_, SqL.of hf⟩, fun Z hZ => ?_⟩
    refine lc_filt (lotsAll taps) (fun l => decide (0 < l.length) && decide (l.length < taps.length)) (fun v b H => LotAt H v b) (fun v b H H' tk h => h.keep tk) hZ (by omega) (fun j H3 hj s3 => ?_) (fun H3 s3 => ?_) ?_ ?_
    · exact ⟨_, _, SqL.of (s3 _ _ hf), List.getElem?_eq_getElem (by rw [ul]; exact hj)⟩
    · exact ⟨_, SqL.of (s3 _ _ hf), by rw [ul]; exact Nat.le_refl _⟩
    · rintro j b x H3 H4 F G hb s3 ⟨rfl, yx⟩ kF kG
      have e := yx _ (SqL.of (s3 _ _ hf))
      obtain ⟨v, hv, a, rfl, ha⟩ := paired_get2 hus hb
      rw [hv] at e
      obtain rfl := Option.some.inj e
      have ha4 := s3 _ _ ha
      have ht4 := same_seqT (s.trans s3) ht
      refine ⟨rfl, _, rfl, a, _, rfl, .inr (SqT.of ha4), _, _, rfl, rfl, _, rfl, ?_⟩
      rw [List.length_map]
      by_cases h1 : 0 < b.length
      · rw [show decide ((0 : Int) < (b.length : Int)) = true from decide_eq_true (by omega)]
        refine iteT ⟨_, rfl, t, _, rfl, .inr ht4, _, _, rfl, rfl, _, rfl, ?_⟩
        rw [List.length_map]
        by_cases h2 : b.length < taps.length
        · refine iteE (decide_eq_true (by omega)) ⟨_, rfl, kF ?_ _ _ ⟨a, rfl, ha4⟩ (Same.refl _)⟩
          rw [decide_eq_true h1, decide_eq_true h2]
          rfl
        · refine iteG (decide_eq_false (by omega)) (kG ?_ _ (Same.refl _))
          rw [decide_eq_false h2, Bool.and_false]
      · rw [show decide ((0 : Int) < (b.length : Int)) = false from decide_eq_false (by omega)]
        refine iteF ⟨_, rfl, iteF (kG ?_ _ (Same.refl _))⟩
        rw [decide_eq_false h1, Bool.false_and]
    · intro acc H3 s3 eZ hacc
      have s4 := s.trans s3
      obtain ⟨mn, ml, mo⟩ := mid_facts tp
      have hacc' : Paired (LotAt H3) acc (midL taps) := hacc
      obtain ⟨bs, e1, e2, hb⟩ : ∃ bs : List (V × Lot), acc = bs.map (·.1) ∧ midL taps = bs.map (·.2) ∧ ∀ b ∈ bs, LotAt H3 b.1 b.2 := by
        generalize midL taps = m at hacc'
        clear hacc mn ml mo eZ
        induction hacc' with
        | nil => exact ⟨[], rfl, rfl, fun b h => by cases h⟩
        | @cons v l vs ls h t ih =>
          obtain ⟨bs, q1, q2, q3⟩ := ih
          refine ⟨(v, l) :: bs, by rw [q1]; rfl, by rw [q2]; rfl, fun b hb => ?_⟩
          rcases List.mem_cons.mp hb with z | z
          · rw [z]
            exact h
          · exact q3 b z
      have lb : bs.length ≤ 64 := by
        have e := congrArg List.length e2
        rw [List.length_map] at e
        omega
      have mm : ∀ b ∈ bs, b.2 ∈ midL taps := fun b hb' => by rw [e2]; exact List.mem_map.mpr ⟨b, hb', rfl⟩
      have em : ∀ d, d ∈ (bs.map vlD).map (·.2) → ∃ b ∈ bs, d = lotD b.2 := fun d hd => by
        obtain ⟨y, hy, rfl⟩ := List.mem_map.mp hd
        obtain ⟨b, hb', rfl⟩ := List.mem_map.mp hy
        exact ⟨b, hb', rfl⟩
      refine ⟨Z, bs.map vlD, rfl, ?_, fun y hy => ?_, ?_, .inl fun d hd => ?_, by rw [List.length_map]; omega, fun y hy => ?_, fun p hp => ?_⟩
      · have q : (bs.map vlD).map (·.1) = acc := by rw [List.map_map, e1]; rfl
        rw [q]
        exact SqL.of eZ
      · obtain ⟨b, hb', rfl⟩ := List.mem_map.mp hy
        exact (hb b hb').dp
      · have q : (bs.map vlD).map (·.2) = bs.map fun b => lotD b.2 := by rw [List.map_map]; rfl
        rw [q]
        exact PySem.W.AllAlike.of fun b b' => alike_lot b.2 b'.2
      · obtain ⟨b, hb', rfl⟩ := em d hd
        cases hb2 : b.2 with
        | nil => exact absurd hb2 (lot_ne (mo _ (mm b hb')))
        | cons x r => exact ⟨_, _, by show lotD _ = _; rfl⟩
      · obtain ⟨b, hb', rfl⟩ := List.mem_map.mp hy
        have := depth_lot b.2
        show (lotD b.2).depth ≤ 50
        omega
      · obtain ⟨zs, pz, ez⟩ := perm_vl (List.mergeSort_perm (bs.map vlD) (PySem.W.dataLe false (·.2)))
        have s6 := same_upd (o := .lst ((sortD (·.2) (bs.map vlD)).map (·.1))) hp
        have pnone : H p = none := none_of_same (s4.trans (Same.refl _)) hp
        refine k p _ (zs.map (·.2)) _ (s4.trans s6) pnone upd_same ?_ (by rw [e2]; exact pz.map _)
        show Paired _ ((sortD (·.2) (bs.map vlD)).map (·.1)) _
        rw [show sortD (·.2) (bs.map vlD) = zs.map vlD from ez, List.map_map]
        have : ∀ zs : List (V × Lot), (∀ b ∈ zs, LotAt H3 b.1 b.2) → Paired (LotAt (upd H3 p (.lst ((sortD (·.2) (bs.map vlD)).map (·.1))))) (zs.map ((fun b : V × PyData => b.1) ∘ vlD)) (zs.map (·.2)) := fun zs => by
          induction zs with
          | nil => intro _; exact .nil
          | cons b r ih => intro h; exact .cons (LotAt.keep (.of s6) (h b List.mem_cons_self)) (ih fun c hc => h c (List.mem_cons_of_mem _ hc))
        have z := this zs fun b hb' => hb b (pz.mem_iff.mp hb')
        rw [show sortD (·.2) (bs.map vlD) = zs.map vlD from ez, List.map_map] at z
        exact z
end
end K17
set_option maxHeartbeats 1000000
namespace K17
open PySem PySem.Spec PyProof.Rows L2 Hx RZ
/-! ### drawn weights -/
inductive NumsL (K : PySem.W.Frag) (H : Hp) : List V → List Num → Prop
  | nil : NumsL K H [] []
  | cons {v : V} {n : Num} {vs : List V} {ns : List Num} (h : NumAt K H v n) (t : NumsL K H vs ns) : NumsL K H (v :: vs) (n :: ns)
theorem NumsL.get {K : PySem.W.Frag} {H : Hp} : ∀ {vs : List V} {ns : List Num} {i : Nat} {v : V}, NumsL K H vs ns → vs[i]? = some v → ∃ n, ns[i]? = some n ∧ NumAt K H v n
  | _, _, 0, _, .cons h _, e => by simp at e; subst e; exact ⟨_, rfl, h⟩
  | _, _, i + 1, _, .cons _ t, e => by simpa using t.get (i := i) (by simpa using e)
def smalls : List Num := [.w 1, .w 2, .w 1, .q 1 2, .w 3, .w 1, .q 5 3, .w 7, .w 1, .q 3 4, .w 100]
def weights : List Num := smalls ++ smalls.map turnN
theorem weights_ok : ∀ n ∈ weights, n.ok = true ∧ n ≠ .w 0 ∧ n.top.natAbs < 1000 ∧ n.low < 1000 ∧ nb n ≤ 20 := by
  decide +kernel
theorem smalls_ok : ∀ n ∈ smalls, n.ok = true ∧ nb n ≤ 20 := by decide +kernel
theorem sign_times {s : Int} (hs : s = 1 ∨ s = -1) {m : Num} (h : m ∈ smalls) : timesN (.w s) m ∈ weights := by
  have ok := (smalls_ok m h).1
  unfold weights
  rcases hs with rfl | rfl
  · rw [times_one ok]
    exact List.mem_append_left _ h
  · rw [times_neg ok]
    exact List.mem_append_right _ (List.mem_map.mpr ⟨m, h, rfl⟩)
section
variable {P : Program} {w : World} {K : PySem.W.Frag} {mg : Str → Option Value} {base : Heap}
def spWeight (K : PySem.W.Frag) : Sp := fun vs H Q _ => ∃ (d g c : Addr) (n : Nat) (way : Int), vs = [.ref d, .int way] ∧ 0 ≤ way ∧ way < 4 ∧ St H d g c (n + 3) ∧ ∀ v m H', NumAt K H' v m → m ∈ weights → St H' d g c n → Kp d g H H' → Q v H'
theorem sc_cl_weight : FnScope ["state", "way", "sign"] ["state", "way"] (defScope sL_cl_weight) := ⟨rfl, rfl, rfl, by decide +kernel, rfl, by decide +kernel, by decide +kernel⟩
theorem ok_cl_weight (D : Dn K mg "_law_cl_weight" sL_cl_weight) (B0 : Ok P w K mg base L2.CX0 3 "_law_pick" ["state", "some"] (spPick K)) (B1 : Ok P w K mg base L2.CX0 3 "_law_ct_times" ["one", "other"] (spTimes K)) : Ok P w K mg base L2.CX0 4 "_law_cl_weight" ["state", "way"] (spWeight K) := by
  obtain ⟨_, _, g_pick, k_pick, b_pick, F_pick⟩ := B0.ex
  obtain ⟨_, _, g_ct_times, k_ct_times, b_ct_times, F_ct_times⟩ := B1.ex
  refine Ok.mk0 D sc_cl_weight (fun vs H Q E h => ?_) (fun _ _ _ _ _ _ us hl => match us, hl with | [_, _], _ => rfl) (fun f cdv A outer s H vs Q E hr h => ?_)
  · obtain ⟨d, g, c, n, way, rfl, _⟩ := h
    rfl
  obtain ⟨d, g, c, n, way, rfl, w0, w4, hS, k⟩ := h
  have nd := sc_cl_weight.nd
  refine ⟨_, (pss_cons (ps_set (i := 2) nd rfl (Or.inl rfl) (pe_ix ix_list (pe_lst (pa_cons (pe_call F_pick hr rfl g_pick k_pick b_pick .nil pass0 (pa_cons (pv 0) (pa_cons (pe_lst (pa_cons pe_int (pa_cons (pe_un un_neg pe_int) pa_nil))) pa_nil))) (pa_cons (pe_call F_pick hr rfl g_pick k_pick b_pick .nil pass0 (pa_cons (pv 0) (pa_cons (pe_lst (pa_cons (pe_un un_neg pe_int) (pa_cons pe_int pa_nil))) pa_nil))) (pa_cons pe_int (pa_cons (pe_un un_neg pe_int) pa_nil))))) (pv 1) (fun _ _ => rfl)))
  (pss_one (ps_ret (pe_call F_ct_times hr rfl g_ct_times k_ct_times b_ct_times .nil pass0 (pa_cons (pv 2) (pa_cons (pe_call F_pick hr rfl g_pick k_pick b_pick .nil pass0 (pa_cons (pv 0) (pa_cons (pe_lst (pa_cons pe_int (pa_cons pe_int (pa_cons pe_int (pa_cons (pe_tup (pa_cons pe_int (pa_cons pe_int pa_nil))) (pa_cons pe_int (pa_cons pe_int (pa_cons (pe_tup (pa_cons pe_int (pa_cons pe_int pa_nil))) (pa_cons pe_int (pa_cons pe_int (pa_cons (pe_tup (pa_cons pe_int (pa_cons pe_int pa_nil))) (pa_cons pe_int pa_nil)))))))))))) pa_nil))) pa_nil)))))), ?_⟩
  have big : 100 ≤ sizeLine := by rw [sizeLine_eq]; decide
  have two : (2 : Nat) ≤ sizeLine := by omega
  refine ⟨_, rfl, _, rfl, two, fun l1 hl1 => ?_⟩
  have s1 := same_upd (o := .lst [.int 1, .int (-1)]) hl1
  refine ⟨d, g, c, l1, n + 2, _, rfl, hS.same s1, SqL.of upd_same, (hS.off hl1).1, by simp, by simp, fun i x H2 hx S2 kp2 => ?_⟩
  obtain ⟨i1, rfl, h1⟩ : ∃ z : Int, x = .int z ∧ (z = 1 ∨ z = -1) := by
    match i, hx with
    | 0, hx => cases hx; exact ⟨_, rfl, .inl rfl⟩
    | 1, hx => cases hx; exact ⟨_, rfl, .inr rfl⟩
  refine ⟨_, rfl, _, rfl, two, fun l2 hl2 => ?_⟩
  have s2 := same_upd (o := .lst [.int (-1), .int 1]) hl2
  refine ⟨d, g, c, l2, n + 1, _, rfl, S2.same s2, SqL.of upd_same, (S2.off hl2).1, by simp, by simp, fun i x H3 hx S3 kp3 => ?_⟩
  obtain ⟨i2, rfl, h2⟩ : ∃ z : Int, x = .int z ∧ (z = 1 ∨ z = -1) := by
    match i, hx with
    | 0, hx => cases hx; exact ⟨_, rfl, .inr rfl⟩
    | 1, hx => cases hx; exact ⟨_, rfl, .inl rfl⟩
  refine ⟨_, rfl, by show 4 ≤ sizeLine; omega, fun l3 hl3 => ?_⟩
  have s3 := same_upd (o := .lst [.int i1, .int i2, .int 1, .int (-1)]) hl3
  obtain ⟨j, rfl⟩ := Int.eq_ofNat_of_zero_le w0
  obtain ⟨z, hz, hs⟩ : ∃ z : Int, [V.int i1, .int i2, .int 1, .int (-1)][j]? = some (.int z) ∧ (z = 1 ∨ z = -1) := by
    match j, (show j < 4 by omega) with
    | 0, _ => exact ⟨_, rfl, h1⟩
    | 1, _ => exact ⟨_, rfl, h2⟩
    | 2, _ => exact ⟨_, rfl, .inl rfl⟩
    | 3, _ => exact ⟨_, rfl, .inr rfl⟩
  refine ⟨_, rfl, l3, _, (j : Int), _, rfl, rfl, SqL.of upd_same, atI_nat hz, ?_⟩
  have S4 := S3.same s3
  have kp4 := ((Kp.of s1).trans kp2).trans (((Kp.of s2).trans kp3).trans (Kp.of (d := d) (g := g) s3))
  refine ⟨_, rfl, _, rfl, two, fun p1 hp1 => ⟨two, fun p2 hp2 => ⟨two, fun p3 hp3 => ⟨by show 11 ≤ sizeLine; omega, fun l hl => ?_⟩⟩⟩⟩
  have t1 := same_upd (o := .tup [.int 1, .int 2]) hp1
  have t2 := same_upd (o := .tup [.int 5, .int 3]) hp2
  have t3 := same_upd (o := .tup [.int 3, .int 4]) hp3
  have t4 := same_upd (o := .lst [.int 1, .int 2, .int 1, .ref p1, .int 3, .int 1, .ref p2, .int 7, .int 1, .ref p3, .int 100]) hl
  have o1 := (t2.trans (t3.trans t4)) _ _ upd_same
  have o2 := (t3.trans t4) _ _ upd_same
  have o3 := t4 _ _ upd_same
  have tall := t1.trans (t2.trans (t3.trans t4))
  have S5 := S4.same tall
  have off := (S4.same (t1.trans (t2.trans t3))).off hl
  refine ⟨d, g, c, l, n, _, rfl, S5, SqL.of upd_same, off.1, by simp, by simp, fun i x H' hx S' kp => ?_⟩
  have tk := kp.tk S5
  have nums : NumsL K H' [.int 1, .int 2, .int 1, .ref p1, .int 3, .int 1, .ref p2, .int 7, .int 1, .ref p3, .int 100] smalls :=
    .cons rfl (.cons rfl (.cons rfl (.cons ⟨p1, rfl, SqT.of (tk.1 _ _ o1)⟩ (.cons rfl (.cons rfl (.cons ⟨p2, rfl, SqT.of (tk.1 _ _ o2)⟩ (.cons rfl (.cons rfl (.cons ⟨p3, rfl, SqT.of (tk.1 _ _ o3)⟩ (.cons rfl .nil))))))))))
  obtain ⟨m, hm, hn⟩ := nums.get hx
  have mm := List.mem_of_getElem? hm
  have ok := smalls_ok m mm
  refine ⟨_, x, .w z, m, rfl, rfl, hn, rfl, ok.1, ?_, (nb_bits m).mono (by omega), fun y H6 s6 hy => ?_⟩
  · rcases hs with rfl | rfl
    · exact (nb_bits _).mono (by decide +kernel)
    · exact (nb_bits _).mono (by decide +kernel)
  · exact k y _ H6 hy (sign_times hs mm) (S'.same s6) (kp4.trans (((Kp.of tall).trans kp).trans (Kp.of s6)))
end
end K17
set_option maxHeartbeats 1000000
namespace K17
open PySem PySem.Spec PyProof.Rows L2 Hx RZ
/-! ### drawn claims -/
theorem tap_len : ∀ x ∈ tapsAll, x.length ≤ 5 := by decide +kernel
theorem lotLen_le {l : Lot} (h : ∀ x ∈ l, x.length ≤ 5) : lotLen l ≤ 6 * l.length := by
  unfold lotLen
  induction l with
  | nil => simp
  | cons x r ih =>
    have := ih fun y hy => h y (List.mem_cons_of_mem _ hy)
    have := h x List.mem_cons_self
    rw [List.map_cons, List.sum_cons, List.length_cons]
    omega
theorem sumV_none {ts : List Term} {l : Lot} (h : l ∉ ts.map (·.1)) : sumV ts l = 0 := by
  induction ts with
  | nil => rfl
  | cons t r ih =>
    rw [List.map_cons, List.mem_cons, not_or] at h
    unfold sumV
    rw [if_neg fun e => h.1 e.symm, ih h.2, Rat.add_zero]
theorem sumV_nodup {ts : List Term} (n : (ts.map (·.1)).Nodup) {t : Term} (h : t ∈ ts) : sumV ts t.1 = val t.2 := by
  induction ts with
  | nil => cases h
  | cons u r ih =>
    rw [List.map_cons, List.nodup_cons] at n
    unfold sumV
    rcases List.mem_cons.mp h with rfl | m
    · rw [if_pos rfl, sumV_none n.1, Rat.add_zero]
    · rw [if_neg fun e => n.1 (by rw [e]; exact List.mem_map.mpr ⟨t, m, rfl⟩), ih n.2 m, Rat.zero_add]
theorem gath_in {ts : List Term} (ok : OkT ts) (n : (ts.map (·.1)).Nodup) {t : Term} (h : t ∈ gathT ts) : t ∈ ts := by
  obtain ⟨c, v, m⟩ := gath_canon ok
  obtain ⟨u, hu, e⟩ := List.mem_map.mp (m t.1 (List.mem_map.mpr ⟨t, h, rfl⟩))
  have q := v t.1
  rw [get_mem c.rise.nodup h, ← e, sumV_nodup n hu] at q
  have q2 := val_inj (c.ok t h) (ok u hu) q
  have : t = u := Prod.ext e.symm q2
  rw [this]
  exact hu
theorem gath_len (ts : List Term) : (gathT ts).length ≤ ts.length := by
  unfold gathT
  have h1 := List.length_filter_le (fun t : Term => nz t.2) ((sortL ((sumT ts).map (·.1))).map fun l => (l, getT (sumT ts) l))
  have h2 : ((sortL ((sumT ts).map (·.1))).map fun l => (l, getT (sumT ts) l)).length = (sumT ts).length := by
    rw [List.length_map, (sortL_perm _).length_eq, List.length_map]
  have h3 := len_fold ts []
  have h4 : (sumT ts).length ≤ ts.length := by
    show (ts.foldl stepT []).length ≤ _
    simp only [List.length_nil] at h3
    omega
  omega
theorem right_drawn {taps : Lot} {ts : List Term} (tp : tapsS taps = true) (tin : ∀ x ∈ taps, x ∈ tapsAll) (n : (ts.map (·.1)).Nodup) (lo : ∀ t ∈ ts, lotS taps t.1 = true) (hw : ∀ t ∈ ts, t.2 ∈ weights) (few : ts.length ≤ 5) : RightC taps (gathT ts) := by
  have ok : OkT ts := fun t ht => (weights_ok _ (hw t ht)).1
  have t6 := (taps_few tp).2.1
  have l5 : ∀ x ∈ taps, x.length ≤ 5 := fun x hx => tap_len x (tin x hx)
  refine ⟨tp, (gath_canon ok).1, fun t ht => lo t (gath_in ok n ht), fun t ht => ?_, ?_, ?_⟩
  · have m := gath_in ok n ht
    obtain ⟨_, _, a, b, _⟩ := weights_ok _ (hw t m)
    obtain ⟨_, _, q3, q4⟩ := lot_few (lo t m)
    have := lotLen_le (l := t.1) fun x hx => l5 x (q4 x hx)
    exact ⟨by omega, by omega, by omega⟩
  · have := lotLen_le l5
    omega
  · have := gath_len ts
    omega
theorem tot_few {ts : List Term} {k : Nat} (h : ∀ t ∈ ts, nb t.2 ≤ k) : tot ts ≤ (k + 1) * ts.length := by
  induction ts with
  | nil => exact Nat.zero_le _
  | cons t r ih =>
    have := ih fun u hu => h u (List.mem_cons_of_mem _ hu)
    have := h t List.mem_cons_self
    rw [tot_cons, List.length_cons, Nat.mul_add]
    omega
theorem paired_perm {α β : Type} {R : α → β → Prop} {ys us : List α} (p : ys.Perm us) : ∀ ls : List β, Paired R us ls → ∃ ls', ls'.Perm ls ∧ Paired R ys ls' := by
  induction p with
  | nil => exact fun ls h => ⟨ls, List.Perm.refl _, h⟩
  | cons x q ih =>
    intro ls h
    cases h with
    | cons a t =>
      obtain ⟨l2, p2, h2⟩ := ih _ t
      exact ⟨_, p2.cons _, .cons a h2⟩
  | swap x y l =>
    intro ls h
    cases h with
    | cons a t =>
      cases t with
      | cons b t => exact ⟨_, List.Perm.swap _ _ _, .cons b (.cons a t)⟩
  | trans q r ih1 ih2 =>
    intro ls h
    obtain ⟨l2, p2, h2⟩ := ih2 ls h
    obtain ⟨l3, p3, h3⟩ := ih1 l2 h2
    exact ⟨l3, p3.trans p2, h3⟩
theorem paired_take {α β : Type} {R : α → β → Prop} {l : List α} {m : List β} (h : Paired R l m) : ∀ i, Paired R (l.take i) (m.take i) := by
  induction h with
  | nil => intro i; simp; exact .nil
  | cons a t ih =>
    intro i
    cases i with
    | zero => exact .nil
    | succ i => exact .cons a (ih i)
section
variable {P : Program} {w : World} {K : PySem.W.Frag} {mg : Str → Option Value} {base : Heap}
def spClaimD (K : PySem.W.Frag) : Sp := fun vs H Q _ => ∃ (d g c t : Addr) (n : Nat) (taps : Lot), vs = [.ref d, .ref t, .int 5] ∧ St H d g c (n + 100) ∧ SqT K H t (taps.map V.str) ∧ tapsS taps = true ∧ (∀ x ∈ taps, x ∈ tapsAll) ∧
  ∀ v L H', ClaimAt K H' v taps L → RightC taps L → (∀ t ∈ L, t.2 ∈ weights) → St H' d g c n → Kp d g H H' → Q v H'
theorem sc_cl_claim : FnScope ["state", "taps_here", "most", "way", "some", "lot"] ["state", "taps_here", "most"] (defScope sL_cl_claim) := ⟨rfl, rfl, rfl, by decide +kernel, rfl, by decide +kernel, by decide +kernel⟩
theorem ok_cl_claim (D : Dn K mg "_law_cl_claim" sL_cl_claim) (B0 : Ok P w K mg base L2.CX0 2 "_law_draw" ["state", "room"] spDraw) (B1 : Ok P w K mg base L2.CX0 3 "_law_shuffled" ["state", "some"] (spShuffled K)) (B2 : Ok P w K mg base L2.CX0 1 "_law_ct_lots" ["taps_here"] (spLots K))
    (B3 : Ok P w K mg base L2.CX0 4 "_law_cl_weight" ["state", "way"] (spWeight K)) (B4 : Ok P w K mg base L2.CX0 4 "_law_cl_gathered" ["taps_here", "pairs"] (spGath K)) : Ok P w K mg base L2.CX0 5 "_law_cl_claim" ["state", "taps_here", "most"] (spClaimD K) := by
  obtain ⟨_, _, g_draw, k_draw, b_draw, F_draw⟩ := B0.ex
  obtain ⟨_, _, g_shuffled, k_shuffled, b_shuffled, F_shuffled⟩ := B1.ex
  obtain ⟨_, _, g_ct_lots, k_ct_lots, b_ct_lots, F_ct_lots⟩ := B2.ex
  obtain ⟨_, _, g_cl_weight, k_cl_weight, b_cl_weight, F_cl_weight⟩ := B3.ex
  obtain ⟨_, _, g_cl_gathered, k_cl_gathered, b_cl_gathered, F_cl_gathered⟩ := B4.ex
  refine Ok.mk0 D sc_cl_claim (fun vs H Q E h => ?_) (fun _ _ _ _ _ _ us hl => match us, hl with | [_, _, _], _ => rfl) (fun f cdv A outer s H vs Q E hr h => ?_)
  · obtain ⟨d, g, c, t, n, taps, rfl, _⟩ := h
    rfl
  obtain ⟨d, g, c, t, n, taps, rfl, hS, ht, tp, tin, k⟩ := h
  have nd := sc_cl_claim.nd
  have hr3 := hr.mono (show 3 ≤ 4 by decide)
  have hr2 := hr.mono (show 2 ≤ 4 by decide)
  have hr1 := hr.mono (show 1 ≤ 4 by decide)
  refine ⟨_, (pss_cons (ps_set (i := 3) nd rfl (Or.inr rfl) (pe_call F_draw hr2 rfl g_draw k_draw b_draw .nil pass0 (pa_cons (pv 0) (pa_cons pe_int pa_nil))))
  (pss_cons (ps_set (i := 4) nd rfl (Or.inl rfl) (pe_slice sl_list (pe_call F_shuffled hr3 rfl g_shuffled k_shuffled b_shuffled .nil pass0 (pa_cons (pv 0) (pa_cons (pe_call F_ct_lots hr1 rfl g_ct_lots k_ct_lots b_ct_lots .nil pass0 (pa_cons (pv 1) pa_nil)) pa_nil))) po_none (po_some (pe_call F_draw hr2 rfl g_draw k_draw b_draw .nil pass0 (pa_cons (pv 0) (pa_cons (pe_op op_add (pv 2) pe_int) pa_nil))))))
  (pss_one (ps_ret (pe_call F_cl_gathered hr rfl g_cl_gathered k_cl_gathered b_cl_gathered .nil pass0 (pa_cons (pv 1) (pa_cons (pe_lc (own := [("lot", 5)]) (g := gName 5) (tt := tYes) rfl nd (pi_list (pv 4)) (blkOk_by (own := [("lot", 5)]) (N := ["state", "taps_here", "most", "way", "some", "lot"]) (sc := defScope sL_cl_claim) (by decide +kernel)) (fun _ _ _ _ _ => pg_name (i := 5) nd rfl (Or.inl rfl)) (fun _ _ _ _ _ => pts_nil) (fun _ _ _ _ _ => (pe_tup (pa_cons (pv 5) (pa_cons (pe_call F_cl_weight hr rfl g_cl_weight k_cl_weight b_cl_weight .nil pass0 (pa_cons (pv 0) (pa_cons (pv 3) pa_nil))) pa_nil))))) pa_nil))))))), ?_⟩
  have big : 100 ≤ sizeLine := by rw [sizeLine_eq]; decide
  refine ⟨_, rfl, d, g, c, n + 99, 4, rfl, hS, by decide, by decide +kernel, fun way H1 w0 w4 S1 kp1 => ?_⟩
  have ht1 := tk_seqT (kp1.tk hS) ht
  refine ⟨_, rfl, _, rfl, t, taps, rfl, ht1, tp, fun p us ls H2 s2 hp hp2 hus pm => ?_⟩
  obtain ⟨mn, ml, mo⟩ := mid_facts tp
  have ll : ls.length ≤ 64 := by rw [pm.length_eq]; exact ml
  have ul := paired_len hus
  have S2 := S1.same s2
  have pl : ∀ l ∈ ls, lotS taps l = true := fun l hl => mo l (pm.mem_iff.mp hl)
  refine ⟨d, g, c, p, n + 35, us, ls.map lotD, rfl, S2.less (by omega), SqL.of hp2, ?_, fun x hx => ?_, by omega, fun q ys H3 pm3 hq hq3 S3 kp3 => ?_⟩
  · clear pm pl ll ul hp2
    induction hus with
    | nil => exact .nil
    | @cons v l vs ls h tt ih =>
      obtain ⟨a, rfl, ha⟩ := h
      exact .cons (.tup (SqT.of ha) (DtAll.strs l)) ih
  · obtain ⟨l, hl, rfl⟩ := List.mem_map.mp hx
    have q := lot_sh (ns := l) (names_plain (lot_few (pl l hl)).1)
    exact ⟨q.1, by have := q.2; omega⟩
  have offq := S2.off hq
  show tNoPart _ _ _
  unfold tNoPart
  refine ⟨_, rfl, _, rfl, _, _, rfl, rfl, d, g, c, n + 34, 6, rfl, S3, by decide, by decide +kernel, fun m H4 m0 m6 S4 kp4 => ?_⟩
  obtain ⟨m, rfl⟩ := Int.eq_ofNat_of_zero_le m0
  have hq4 := kp4 _ _ hq3 offq.2 offq.1
  refine ⟨_, rfl, ?_⟩
  refine rSlL_any (SqL.of hq4) (cut_upto m) fun r hr' => ?_
  have s5 := same_upd (o := .lst (ys.take m)) hr'
  have offr := S4.off hr'
  have kp15 := ((Kp.of s2).trans (kp3.trans kp4)).trans (Kp.of (d := d) (g := g) s5)
  have tk5 := kp15.tk S1
  have ht5 := tk_seqT tk5 ht1
  have S5 := S4.same s5
  obtain ⟨ms, msN, msl, msP⟩ : ∃ ms : List Lot, ms.Nodup ∧ (∀ l ∈ ms, lotS taps l = true) ∧ Paired (LotAt (upd H4 r (.lst (ys.take m)))) (ys.take m) ms := by
    have tk25 := (((kp3.trans kp4)).trans (Kp.of (d := d) (g := g) s5)).tk S2
    have hus5 : Paired (LotAt (upd H4 r (.lst (ys.take m)))) us ls := paired_imp hus fun v b h => h.keep tk25
    obtain ⟨ls', pl', hys⟩ := paired_perm pm3 _ hus5
    have nd' : ls'.Nodup := pl'.nodup_iff.mpr (pm.nodup_iff.mpr mn)
    refine ⟨ls'.take m, nd'.sublist (List.take_sublist _ _), fun l hl => pl l (pl'.mem_iff.mp (List.mem_of_mem_take hl)), paired_take hys m⟩
  have ml5 : (ys.take m).length = ms.length := paired_len msP
  have l5 : ms.length ≤ 5 := by rw [← ml5, List.length_take]; omega
  have hr5 : upd H4 r (.lst (ys.take m)) r = some (.lst (ys.take m)) := upd_same
  generalize upd H4 r (.lst (ys.take m)) = H5 at *
  refine ⟨_, rfl, _, rfl, r, rfl, ⟨_, SqL.of hr5⟩, fun Z hZ => ?_⟩
  have offZ := S5.off hZ
  refine lc_any (n := ms.length) (fun i H => ∃ acc ts, H Z = some (.lst acc) ∧ TermsAt K H acc ts ∧ ts.map (·.1) = ms.take i ∧ (∀ t ∈ ts, t.2 ∈ weights) ∧ St H d g c (n + 3 * (8 - i)) ∧ Kp d g H5 H) ⟨[], [], upd_same, .nil, rfl, (fun _ h => by cases h), (S5.same (same_upd hZ)).less (by omega), Kp.of (same_upd hZ)⟩ (fun i H hi ⟨_, _, _, _, _, _, _, kp⟩ => ?_) (fun H ⟨_, _, _, _, _, _, _, kp⟩ => ?_) ?_ ?_
  · exact ⟨_, _, SqL.of (kp _ _ hr5 offr.2 offr.1), List.getElem?_eq_getElem (by rw [ml5]; exact hi)⟩
  · exact ⟨_, SqL.of (kp _ _ hr5 offr.2 offr.1), by rw [ml5]; exact Nat.le_refl _⟩
  · rintro i x H6 H' hi ⟨acc, ts, ea, hts, ets, hw, S6, kp6⟩ ⟨rfl, yx⟩
    have e := yx _ (SqL.of (kp6 _ _ hr5 offr.2 offr.1))
    have el : ms[i]? = some ms[i] := List.getElem?_eq_getElem hi
    obtain ⟨v, hv, a, rfl, ha⟩ := paired_get2 msP el
    rw [hv] at e
    obtain rfl := Option.some.inj e
    refine ⟨rfl, ?_⟩
    unfold tYes
    simp only [↓reduceIte]
    have ha6 := (kp6.tk S5).1 _ _ ha
    refine ⟨_, rfl, _, rfl, _, rfl, d, g, c, n + 3 * (8 - (i + 1)), way, rfl, w0, w4, S6.less (by omega), fun u num H7 hu mu S7 kp7 => ?_⟩
    have tk7 := kp7.tk S6
    refine ⟨by show 2 ≤ sizeLine; omega, fun tq htq => ?_⟩
    have s8 := same_upd (o := .tup [.ref a, u]) htq
    have ea8 := s8 _ _ (kp7 _ _ ea offZ.2 offZ.1)
    have al := paired_len hts
    have tl : ts.length = i := by
      have q := congrArg List.length ets
      rw [List.length_map, List.length_take] at q
      omega
    have tk78 := tk7.trans (TK.of s8)
    have tkZ : TK _ (upd (upd H7 tq (.tup [.ref a, u])) Z (.lst (acc ++ [.ref tq]))) := .lst ea8
    refine ⟨acc, ea8, by omega, acc ++ [.ref tq], ts ++ [(ms[i], num)], upd_same, ?_, ?_, ?_, ?_, ?_⟩
    · refine paired_snoc (TermsAt.keep (tk78.trans tkZ) hts) (TermAt.keep tkZ ⟨tq, a, u, rfl, SqT.of upd_same, s8 _ _ (tk7.1 _ _ ha6), hu.keep (.of s8)⟩)
    · rw [List.map_append, ets, List.take_add_one, el]
      rfl
    · intro t2 h2
      rcases List.mem_append.mp h2 with q | q
      · exact hw t2 q
      · rw [List.mem_singleton.mp q]
        exact mu
    · obtain ⟨gs, cs, r1, t1, h1, h2, h3, h4⟩ := S7.same s8
      have nc : c ≠ Z := fun e => S5.offc hZ e.symm
      exact ⟨gs, cs, r1, t1, by rw [upd_ne offZ.2.symm]; exact h1, by rw [upd_ne offZ.1.symm]; exact h2, by rw [upd_ne nc]; exact h3, h4⟩
    · intro b o e n1 n2
      by_cases hb : b = Z
      · rw [hb, hZ] at e; cases e
      · rw [upd_ne hb]
        exact s8 _ _ (kp7 _ _ (kp6 _ _ e n1 n2) n1 n2)
  · rintro H6 ⟨acc, ts, ea, hts, ets, hw, S6, kp6⟩
    rw [List.take_length] at ets
    have kp26 := kp15.trans kp6
    have lo : ∀ t ∈ ts, lotS taps t.1 = true := fun t ht' => msl t.1 (by rw [← ets]; exact List.mem_map.mpr ⟨t, ht', rfl⟩)
    have few : ts.length ≤ 5 := by
      have q := congrArg List.length ets
      rw [List.length_map] at q
      omega
    have tot5 := tot_few (ts := ts) (k := 20) fun t ht' => (weights_ok _ (hw t ht')).2.2.2.2
    refine ⟨t, Z, taps, acc, ts, rfl, tk_seqT (kp6.tk S5) ht5, SqL.of ea, hts, fun t ht' => (weights_ok _ (hw t ht')).1, fun x hx => lot_ne (lo x hx), by omega, fun v H7 s7 hv => ?_⟩
    exact k v _ H7 hv (right_drawn tp tin (by rw [ets]; exact msN) lo hw few) (fun t ht' => hw t (gath_in (fun t ht' => (weights_ok _ (hw t ht')).1) (by rw [ets]; exact msN) ht')) ((S6.same s7).less (by omega)) (kp1.trans (kp26.trans (Kp.of s7)))
end
end K17
set_option maxHeartbeats 4000000
namespace K17
open PySem PySem.Spec PyProof.Rows L2 Hx RZ
/-! ### values that are no claims -/
abbrev ABl : Lot := ["a", "b"]
abbrev Al : Lot := ["a"]
abbrev Bl : Lot := ["b"]
def badC : List Claim0 := [.other .none, .short [], .head (.str "a") (.str "b"), .short [lotD ABl], .other (.list [lotD ABl, .tuple []]), .nolist ABl (.list []), .terms ABl [.right Al (.w 0)], .terms ABl [.right Al (.w 1), .right Al (.w 2)],
  .terms ABl [.right Bl (.w 1), .right Al (.w 1)], .terms ABl [.right ABl (.w 1)], .terms ABl [.right [] (.w 1)], .terms ABl [.right Al (.q 2 4)], .terms ABl [.odd (.list [.str "a"]) (.w 1)], .terms ABl [.flag Al true], .terms ABl [.one (lotD Al)], .terms Al [], .other (.int 5)]
theorem bad_all : (badC.all fun c => !c.ok) = true := by decide +kernel
theorem bad_not : ∀ c ∈ badC, c.ok = false := fun c h => by
  have q := List.all_eq_true.mp bad_all c h
  simpa using q
theorem sm_few {l : Lot} (h : (decide (l.length ≤ 2) && l.all fun x => decide (x.length ≤ 8)) = true) : Sm l := by
  rw [Bool.and_eq_true, decide_eq_true_eq] at h
  exact ⟨by omega, fun x hx => by have := of_decide_eq_true (List.all_eq_true.mp h.2 x hx); omega⟩
theorem sm_ab : Sm ABl := sm_few (by decide +kernel)
theorem sm_a : Sm Al := sm_few (by decide +kernel)
theorem sm_b : Sm Bl := sm_few (by decide +kernel)
theorem sm_n : Sm [] := sm_few (by decide +kernel)
def rowOk : Term0 → Bool
  | .right ns _ => decide (ns.length ≤ 2) && ns.all fun x => decide (x.length ≤ 8)
  | .flag ns _ => decide (ns.length ≤ 2) && ns.all fun x => decide (x.length ≤ 8)
  | .odd e _ => !isTy (tagOf e) "tuple"
  | .one _ => true
theorem row_fit {r : Term0} (h : rowOk r = true) : r.fit := by
  cases r with
  | right ns n => exact sm_few h
  | flag ns b => exact sm_few h
  | odd e n =>
    have h' : (!isTy (tagOf e) "tuple") = true := h
    show isTy (tagOf e) "tuple" = false
    simpa using h'
  | one e => trivial
def headOk (ns : Lot) : Bool := decide (ns.length ≤ 2) && ns.all fun x => decide (x.length ≤ 8)
def claimOk : Claim0 → Bool
  | .other d => !isTy (tagOf d) "tuple"
  | .short ds => decide (ds.length ≠ 2)
  | .head e _ => !isTy (tagOf e) "tuple"
  | .nolist ns e => headOk ns && !isTy (tagOf e) "tuple"
  | .terms ns rs => headOk ns && (decide (rs.length ≤ 2) && rs.all rowOk)
theorem claim_fit {c : Claim0} (h : claimOk c = true) : c.fit := by
  cases c with
  | other d =>
    have h' : (!isTy (tagOf d) "tuple") = true := h
    show isTy (tagOf d) "tuple" = false
    simpa using h'
  | short ds =>
    have h' : decide (ds.length ≠ 2) = true := h
    have q : ds.length ≠ 2 := of_decide_eq_true h'
    exact q
  | head e f =>
    have h' : (!isTy (tagOf e) "tuple") = true := h
    show isTy (tagOf e) "tuple" = false
    simpa using h'
  | nolist ns e =>
    have h' : (headOk ns && !isTy (tagOf e) "tuple") = true := h
    rw [Bool.and_eq_true] at h'
    exact ⟨sm_few h'.1, by simpa using h'.2⟩
  | terms ns rs =>
    have h' : (headOk ns && (decide (rs.length ≤ 2) && rs.all rowOk)) = true := h
    rw [Bool.and_eq_true, Bool.and_eq_true, decide_eq_true_eq] at h'
    exact ⟨sm_few h'.1, by omega, fun r hr => row_fit (List.all_eq_true.mp h'.2.2 r hr)⟩
theorem bad_fits : (badC.all claimOk) = true := by decide +kernel
theorem bad_fit : ∀ c ∈ badC, c.fit := fun c h => claim_fit (List.all_eq_true.mp bad_fits c h)
/-- all but the state's two objects and the tables is kept -/
def Kx (d g : Addr) (H H' : Hp) : Prop := ∀ b o, H b = some o → (∀ ps, o ≠ .tbl ps) → b ≠ d → b ≠ g → H' b = some o
theorem Kx.refl {d g : Addr} (H : Hp) : Kx d g H H := fun _ _ h _ _ _ => h
theorem Kx.trans {d g : Addr} {H H1 H2 : Hp} (a : Kx d g H H1) (b : Kx d g H1 H2) : Kx d g H H2 := fun c o h t n m => b c o (a c o h t n m) t n m
theorem Kx.kp {d g : Addr} {H H' : Hp} (e : Kp d g H H') : Kx d g H H' := fun b o h _ n m => e b o h n m
theorem Kx.of {d g : Addr} {H H' : Hp} (e : Same H H') : Kx d g H H' := fun b o h _ _ _ => e b o h
theorem Kx.tk {d g c : Addr} {H H' : Hp} {n : Nat} (e : Kx d g H H') (S : St H d g c n) : TK H H' := by
  obtain ⟨gs, cs, r, t, h1, h2, _⟩ := S
  refine ⟨fun b xs h => e b _ h (fun ps z => by cases z) (ne_of h h1 (by intro z; cases z)) (ne_of h h2 (by intro z; cases z)), fun b o u h => e b _ h (fun ps z => by cases z) (ne_of h h1 (by intro z; cases z)) (ne_of h h2 (by intro z; cases z))⟩
theorem Kx.lst {d g : Addr} {H H' : Hp} (e : Kx d g H H') {q : Addr} {xs : List V} (h : H q = some (.lst xs)) (n1 : q ≠ d) (n2 : q ≠ g) : H' q = some (.lst xs) := e q _ h (fun ps z => by cases z) n1 n2
section
variable {P : Program} {w : World} {K : PySem.W.Frag} {mg : Str → Option Value} {base : Heap}
def spBad (K : PySem.W.Frag) : Sp := fun vs H Q _ => ∃ (d g c : Addr) (n : Nat), vs = [.ref d] ∧ St H d g c (n + 1) ∧ ∀ v (b : Claim0) H', (∀ H2, Kx d g H' H2 → Dp K H2 v b.data) → b.fit → b.ok = false → St H' d g c n → Kp d g H H' → Q v H'
theorem sc_ct_bad_claim : FnScope ["state", "ab", "some"] ["state"] (defScope sL_ct_bad_claim) := ⟨rfl, rfl, rfl, by decide +kernel, rfl, by decide +kernel, by decide +kernel⟩
theorem ok_ct_bad_claim (D : Dn K mg "_law_ct_bad_claim" sL_ct_bad_claim) (B0 : Ok P w K mg base L2.CX0 3 "_law_pick" ["state", "some"] (spPick K)) : Ok P w K mg base L2.CX0 4 "_law_ct_bad_claim" ["state"] (spBad K) := by
  obtain ⟨_, _, g_pick, k_pick, b_pick, F_pick⟩ := B0.ex
  refine Ok.mk0 D sc_ct_bad_claim (fun vs H Q E h => ?_) (fun _ _ _ _ _ _ us hl => match us, hl with | [_], _ => rfl) (fun f cdv A outer s H vs Q E hr h => ?_)
  · obtain ⟨d, g, c, n, rfl, _⟩ := h
    rfl
  obtain ⟨d, g, c, n, rfl, hS, k⟩ := h
  have nd := sc_ct_bad_claim.nd
  refine ⟨_, (pss_cons (ps_set (i := 1) nd rfl (Or.inl rfl) (pe_tup (pa_cons pe_str (pa_cons pe_str pa_nil))))
  (pss_cons (ps_set (i := 2) nd rfl (Or.inl rfl) (pe_lst (pa_cons pe_non (pa_cons (pe_tup pa_nil) (pa_cons (pv 1) (pa_cons (pe_tup (pa_cons (pv 1) pa_nil)) (pa_cons (pe_lst (pa_cons (pv 1) (pa_cons (pe_tup pa_nil) pa_nil))) (pa_cons (pe_tup (pa_cons (pv 1) (pa_cons (pe_lst pa_nil) pa_nil))) (pa_cons (pe_tup (pa_cons (pv 1) (pa_cons (pe_tup (pa_cons (pe_tup (pa_cons (pe_tup (pa_cons pe_str pa_nil)) (pa_cons pe_int pa_nil))) pa_nil)) pa_nil))) (pa_cons (pe_tup (pa_cons (pv 1) (pa_cons (pe_tup (pa_cons (pe_tup (pa_cons (pe_tup (pa_cons pe_str pa_nil)) (pa_cons pe_int pa_nil))) (pa_cons (pe_tup (pa_cons (pe_tup (pa_cons pe_str pa_nil)) (pa_cons pe_int pa_nil))) pa_nil))) pa_nil))) pa_nil))))))))))
  (pss_cons (ps_set (i := 2) nd rfl (Or.inl rfl) (pe_op op_cat (pv 2) (pe_lst (pa_cons (pe_tup (pa_cons (pv 1) (pa_cons (pe_tup (pa_cons (pe_tup (pa_cons (pe_tup (pa_cons pe_str pa_nil)) (pa_cons pe_int pa_nil))) (pa_cons (pe_tup (pa_cons (pe_tup (pa_cons pe_str pa_nil)) (pa_cons pe_int pa_nil))) pa_nil))) pa_nil))) (pa_cons (pe_tup (pa_cons (pv 1) (pa_cons (pe_tup (pa_cons (pe_tup (pa_cons (pe_tup (pa_cons pe_str (pa_cons pe_str pa_nil))) (pa_cons pe_int pa_nil))) pa_nil)) pa_nil))) (pa_cons (pe_tup (pa_cons (pv 1) (pa_cons (pe_tup (pa_cons (pe_tup (pa_cons (pe_tup pa_nil) (pa_cons pe_int pa_nil))) pa_nil)) pa_nil))) pa_nil))))))
  (pss_cons (ps_set (i := 2) nd rfl (Or.inl rfl) (pe_op op_cat (pv 2) (pe_lst (pa_cons (pe_tup (pa_cons (pv 1) (pa_cons (pe_tup (pa_cons (pe_tup (pa_cons (pe_tup (pa_cons pe_str pa_nil)) (pa_cons (pe_tup (pa_cons pe_int (pa_cons pe_int pa_nil))) pa_nil))) pa_nil)) pa_nil))) (pa_cons (pe_tup (pa_cons (pv 1) (pa_cons (pe_tup (pa_cons (pe_tup (pa_cons (pe_lst (pa_cons pe_str pa_nil)) (pa_cons pe_int pa_nil))) pa_nil)) pa_nil))) (pa_cons (pe_tup (pa_cons (pv 1) (pa_cons (pe_tup (pa_cons (pe_tup (pa_cons (pe_tup (pa_cons pe_str pa_nil)) (pa_cons pe_bl pa_nil))) pa_nil)) pa_nil))) (pa_cons (pe_tup (pa_cons (pv 1) (pa_cons (pe_tup (pa_cons (pe_tup (pa_cons (pe_tup (pa_cons pe_str pa_nil)) pa_nil)) pa_nil)) pa_nil))) pa_nil)))))))
  (pss_one (ps_ret (pe_call F_pick hr rfl g_pick k_pick b_pick .nil pass0 (pa_cons (pv 0) (pa_cons (pe_op op_cat (pv 2) (pe_lst (pa_cons (pe_tup (pa_cons (pe_tup (pa_cons pe_str pa_nil)) (pa_cons (pe_tup pa_nil) pa_nil))) (pa_cons pe_int pa_nil)))) pa_nil))))))))), ?_⟩
  have big : 100 ≤ sizeLine := by rw [sizeLine_eq]; decide
  refine ⟨by show 2 ≤ sizeLine; omega, fun p1 h1 => ?_⟩
  have t1 := same_upd (o := .tup [.str "a", .str "b"]) h1
  have e1 := upd_same (H := H) (a := p1) (o := .tup [.str "a", .str "b"])
  generalize upd H p1 (.tup [.str "a", .str "b"]) = H1 at t1 e1 ⊢
  have v1 : Same H H1 := t1
  refine ⟨by show 0 ≤ sizeLine; omega, fun p2 h2 => ?_⟩
  have t2 := same_upd (o := .tup []) h2
  have e2 := upd_same (H := H1) (a := p2) (o := .tup [])
  generalize upd H1 p2 (.tup []) = H2 at t2 e2 ⊢
  have v2 : Same H H2 := v1.trans t2
  refine ⟨_, rfl, ?_⟩
  refine ⟨_, rfl, ?_⟩
  refine ⟨by show 1 ≤ sizeLine; omega, fun p3 h3 => ?_⟩
  have t3 := same_upd (o := .tup [.ref p1]) h3
  have e3 := upd_same (H := H2) (a := p3) (o := .tup [.ref p1])
  generalize upd H2 p3 (.tup [.ref p1]) = H3 at t3 e3 ⊢
  have v3 : Same H H3 := v2.trans t3
  refine ⟨_, rfl, ?_⟩
  refine ⟨by show 0 ≤ sizeLine; omega, fun p4 h4 => ?_⟩
  have t4 := same_upd (o := .tup []) h4
  have e4 := upd_same (H := H3) (a := p4) (o := .tup [])
  generalize upd H3 p4 (.tup []) = H4 at t4 e4 ⊢
  have v4 : Same H H4 := v3.trans t4
  refine ⟨by show 2 ≤ sizeLine; omega, fun p5 h5 => ?_⟩
  have t5 := same_upd (o := .lst [.ref p1, .ref p4]) h5
  have e5 := upd_same (H := H4) (a := p5) (o := .lst [.ref p1, .ref p4])
  generalize upd H4 p5 (.lst [.ref p1, .ref p4]) = H5 at t5 e5 ⊢
  have v5 : Same H H5 := v4.trans t5
  refine ⟨_, rfl, ?_⟩
  refine ⟨by show 0 ≤ sizeLine; omega, fun p6 h6 => ?_⟩
  have t6 := same_upd (o := .lst []) h6
  have e6 := upd_same (H := H5) (a := p6) (o := .lst [])
  generalize upd H5 p6 (.lst []) = H6 at t6 e6 ⊢
  have v6 : Same H H6 := v5.trans t6
  refine ⟨by show 2 ≤ sizeLine; omega, fun p7 h7 => ?_⟩
  have t7 := same_upd (o := .tup [.ref p1, .ref p6]) h7
  have e7 := upd_same (H := H6) (a := p7) (o := .tup [.ref p1, .ref p6])
  generalize upd H6 p7 (.tup [.ref p1, .ref p6]) = H7 at t7 e7 ⊢
  have v7 : Same H H7 := v6.trans t7
  refine ⟨_, rfl, ?_⟩
  refine ⟨by show 1 ≤ sizeLine; omega, fun p8 h8 => ?_⟩
  have t8 := same_upd (o := .tup [.str "a"]) h8
  have e8 := upd_same (H := H7) (a := p8) (o := .tup [.str "a"])
  generalize upd H7 p8 (.tup [.str "a"]) = H8 at t8 e8 ⊢
  have v8 : Same H H8 := v7.trans t8
  refine ⟨by show 2 ≤ sizeLine; omega, fun p9 h9 => ?_⟩
  have t9 := same_upd (o := .tup [.ref p8, .int 0]) h9
  have e9 := upd_same (H := H8) (a := p9) (o := .tup [.ref p8, .int 0])
  generalize upd H8 p9 (.tup [.ref p8, .int 0]) = H9 at t9 e9 ⊢
  have v9 : Same H H9 := v8.trans t9
  refine ⟨by show 1 ≤ sizeLine; omega, fun p10 h10 => ?_⟩
  have t10 := same_upd (o := .tup [.ref p9]) h10
  have e10 := upd_same (H := H9) (a := p10) (o := .tup [.ref p9])
  generalize upd H9 p10 (.tup [.ref p9]) = H10 at t10 e10 ⊢
  have v10 : Same H H10 := v9.trans t10
  refine ⟨by show 2 ≤ sizeLine; omega, fun p11 h11 => ?_⟩
  have t11 := same_upd (o := .tup [.ref p1, .ref p10]) h11
  have e11 := upd_same (H := H10) (a := p11) (o := .tup [.ref p1, .ref p10])
  generalize upd H10 p11 (.tup [.ref p1, .ref p10]) = H11 at t11 e11 ⊢
  have v11 : Same H H11 := v10.trans t11
  refine ⟨_, rfl, ?_⟩
  refine ⟨by show 1 ≤ sizeLine; omega, fun p12 h12 => ?_⟩
  have t12 := same_upd (o := .tup [.str "a"]) h12
  have e12 := upd_same (H := H11) (a := p12) (o := .tup [.str "a"])
  generalize upd H11 p12 (.tup [.str "a"]) = H12 at t12 e12 ⊢
  have v12 : Same H H12 := v11.trans t12
  refine ⟨by show 2 ≤ sizeLine; omega, fun p13 h13 => ?_⟩
  have t13 := same_upd (o := .tup [.ref p12, .int 1]) h13
  have e13 := upd_same (H := H12) (a := p13) (o := .tup [.ref p12, .int 1])
  generalize upd H12 p13 (.tup [.ref p12, .int 1]) = H13 at t13 e13 ⊢
  have v13 : Same H H13 := v12.trans t13
  refine ⟨by show 1 ≤ sizeLine; omega, fun p14 h14 => ?_⟩
  have t14 := same_upd (o := .tup [.str "a"]) h14
  have e14 := upd_same (H := H13) (a := p14) (o := .tup [.str "a"])
  generalize upd H13 p14 (.tup [.str "a"]) = H14 at t14 e14 ⊢
  have v14 : Same H H14 := v13.trans t14
  refine ⟨by show 2 ≤ sizeLine; omega, fun p15 h15 => ?_⟩
  have t15 := same_upd (o := .tup [.ref p14, .int 2]) h15
  have e15 := upd_same (H := H14) (a := p15) (o := .tup [.ref p14, .int 2])
  generalize upd H14 p15 (.tup [.ref p14, .int 2]) = H15 at t15 e15 ⊢
  have v15 : Same H H15 := v14.trans t15
  refine ⟨by show 2 ≤ sizeLine; omega, fun p16 h16 => ?_⟩
  have t16 := same_upd (o := .tup [.ref p13, .ref p15]) h16
  have e16 := upd_same (H := H15) (a := p16) (o := .tup [.ref p13, .ref p15])
  generalize upd H15 p16 (.tup [.ref p13, .ref p15]) = H16 at t16 e16 ⊢
  have v16 : Same H H16 := v15.trans t16
  refine ⟨by show 2 ≤ sizeLine; omega, fun p17 h17 => ?_⟩
  have t17 := same_upd (o := .tup [.ref p1, .ref p16]) h17
  have e17 := upd_same (H := H16) (a := p17) (o := .tup [.ref p1, .ref p16])
  generalize upd H16 p17 (.tup [.ref p1, .ref p16]) = H17 at t17 e17 ⊢
  have v17 : Same H H17 := v16.trans t17
  refine ⟨by show 8 ≤ sizeLine; omega, fun p18 h18 => ?_⟩
  have t18 := same_upd (o := .lst [.non, .ref p2, .ref p1, .ref p3, .ref p5, .ref p7, .ref p11, .ref p17]) h18
  have e18 := upd_same (H := H17) (a := p18) (o := .lst [.non, .ref p2, .ref p1, .ref p3, .ref p5, .ref p7, .ref p11, .ref p17])
  generalize upd H17 p18 (.lst [.non, .ref p2, .ref p1, .ref p3, .ref p5, .ref p7, .ref p11, .ref p17]) = H18 at t18 e18 ⊢
  have v18 : Same H H18 := v17.trans t18
  refine ⟨_, rfl, ?_⟩
  refine ⟨_, rfl, ?_⟩
  refine ⟨by show 1 ≤ sizeLine; omega, fun p19 h19 => ?_⟩
  have t19 := same_upd (o := .tup [.str "b"]) h19
  have e19 := upd_same (H := H18) (a := p19) (o := .tup [.str "b"])
  generalize upd H18 p19 (.tup [.str "b"]) = H19 at t19 e19 ⊢
  have v19 : Same H H19 := v18.trans t19
  refine ⟨by show 2 ≤ sizeLine; omega, fun p20 h20 => ?_⟩
  have t20 := same_upd (o := .tup [.ref p19, .int 1]) h20
  have e20 := upd_same (H := H19) (a := p20) (o := .tup [.ref p19, .int 1])
  generalize upd H19 p20 (.tup [.ref p19, .int 1]) = H20 at t20 e20 ⊢
  have v20 : Same H H20 := v19.trans t20
  refine ⟨by show 1 ≤ sizeLine; omega, fun p21 h21 => ?_⟩
  have t21 := same_upd (o := .tup [.str "a"]) h21
  have e21 := upd_same (H := H20) (a := p21) (o := .tup [.str "a"])
  generalize upd H20 p21 (.tup [.str "a"]) = H21 at t21 e21 ⊢
  have v21 : Same H H21 := v20.trans t21
  refine ⟨by show 2 ≤ sizeLine; omega, fun p22 h22 => ?_⟩
  have t22 := same_upd (o := .tup [.ref p21, .int 1]) h22
  have e22 := upd_same (H := H21) (a := p22) (o := .tup [.ref p21, .int 1])
  generalize upd H21 p22 (.tup [.ref p21, .int 1]) = H22 at t22 e22 ⊢
  have v22 : Same H H22 := v21.trans t22
  refine ⟨by show 2 ≤ sizeLine; omega, fun p23 h23 => ?_⟩
  have t23 := same_upd (o := .tup [.ref p20, .ref p22]) h23
  have e23 := upd_same (H := H22) (a := p23) (o := .tup [.ref p20, .ref p22])
  generalize upd H22 p23 (.tup [.ref p20, .ref p22]) = H23 at t23 e23 ⊢
  have v23 : Same H H23 := v22.trans t23
  refine ⟨by show 2 ≤ sizeLine; omega, fun p24 h24 => ?_⟩
  have t24 := same_upd (o := .tup [.ref p1, .ref p23]) h24
  have e24 := upd_same (H := H23) (a := p24) (o := .tup [.ref p1, .ref p23])
  generalize upd H23 p24 (.tup [.ref p1, .ref p23]) = H24 at t24 e24 ⊢
  have v24 : Same H H24 := v23.trans t24
  refine ⟨_, rfl, ?_⟩
  refine ⟨by show 2 ≤ sizeLine; omega, fun p25 h25 => ?_⟩
  have t25 := same_upd (o := .tup [.str "a", .str "b"]) h25
  have e25 := upd_same (H := H24) (a := p25) (o := .tup [.str "a", .str "b"])
  generalize upd H24 p25 (.tup [.str "a", .str "b"]) = H25 at t25 e25 ⊢
  have v25 : Same H H25 := v24.trans t25
  refine ⟨by show 2 ≤ sizeLine; omega, fun p26 h26 => ?_⟩
  have t26 := same_upd (o := .tup [.ref p25, .int 1]) h26
  have e26 := upd_same (H := H25) (a := p26) (o := .tup [.ref p25, .int 1])
  generalize upd H25 p26 (.tup [.ref p25, .int 1]) = H26 at t26 e26 ⊢
  have v26 : Same H H26 := v25.trans t26
  refine ⟨by show 1 ≤ sizeLine; omega, fun p27 h27 => ?_⟩
  have t27 := same_upd (o := .tup [.ref p26]) h27
  have e27 := upd_same (H := H26) (a := p27) (o := .tup [.ref p26])
  generalize upd H26 p27 (.tup [.ref p26]) = H27 at t27 e27 ⊢
  have v27 : Same H H27 := v26.trans t27
  refine ⟨by show 2 ≤ sizeLine; omega, fun p28 h28 => ?_⟩
  have t28 := same_upd (o := .tup [.ref p1, .ref p27]) h28
  have e28 := upd_same (H := H27) (a := p28) (o := .tup [.ref p1, .ref p27])
  generalize upd H27 p28 (.tup [.ref p1, .ref p27]) = H28 at t28 e28 ⊢
  have v28 : Same H H28 := v27.trans t28
  refine ⟨_, rfl, ?_⟩
  refine ⟨by show 0 ≤ sizeLine; omega, fun p29 h29 => ?_⟩
  have t29 := same_upd (o := .tup []) h29
  have e29 := upd_same (H := H28) (a := p29) (o := .tup [])
  generalize upd H28 p29 (.tup []) = H29 at t29 e29 ⊢
  have v29 : Same H H29 := v28.trans t29
  refine ⟨by show 2 ≤ sizeLine; omega, fun p30 h30 => ?_⟩
  have t30 := same_upd (o := .tup [.ref p29, .int 1]) h30
  have e30 := upd_same (H := H29) (a := p30) (o := .tup [.ref p29, .int 1])
  generalize upd H29 p30 (.tup [.ref p29, .int 1]) = H30 at t30 e30 ⊢
  have v30 : Same H H30 := v29.trans t30
  refine ⟨by show 1 ≤ sizeLine; omega, fun p31 h31 => ?_⟩
  have t31 := same_upd (o := .tup [.ref p30]) h31
  have e31 := upd_same (H := H30) (a := p31) (o := .tup [.ref p30])
  generalize upd H30 p31 (.tup [.ref p30]) = H31 at t31 e31 ⊢
  have v31 : Same H H31 := v30.trans t31
  refine ⟨by show 2 ≤ sizeLine; omega, fun p32 h32 => ?_⟩
  have t32 := same_upd (o := .tup [.ref p1, .ref p31]) h32
  have e32 := upd_same (H := H31) (a := p32) (o := .tup [.ref p1, .ref p31])
  generalize upd H31 p32 (.tup [.ref p1, .ref p31]) = H32 at t32 e32 ⊢
  have v32 : Same H H32 := v31.trans t32
  refine ⟨by show 3 ≤ sizeLine; omega, fun p33 h33 => ?_⟩
  have t33 := same_upd (o := .lst [.ref p24, .ref p28, .ref p32]) h33
  have e33 := upd_same (H := H32) (a := p33) (o := .lst [.ref p24, .ref p28, .ref p32])
  generalize upd H32 p33 (.lst [.ref p24, .ref p28, .ref p32]) = H33 at t33 e33 ⊢
  have v33 : Same H H33 := v32.trans t33
  refine ⟨p18, p33, _, _, rfl, rfl, ((t19.trans (t20.trans (t21.trans (t22.trans (t23.trans (t24.trans (t25.trans (t26.trans (t27.trans (t28.trans (t29.trans (t30.trans (t31.trans (t32.trans t33)))))))))))))) _ _ e18), e33, by show 11 ≤ sizeLine; omega, fun p34 h34 => ?_⟩
  have t34 := same_upd (o := .lst ([.non, .ref p2, .ref p1, .ref p3, .ref p5, .ref p7, .ref p11, .ref p17] ++ [.ref p24, .ref p28, .ref p32])) h34
  have e34 := upd_same (H := H33) (a := p34) (o := .lst ([.non, .ref p2, .ref p1, .ref p3, .ref p5, .ref p7, .ref p11, .ref p17] ++ [.ref p24, .ref p28, .ref p32]))
  generalize upd H33 p34 (.lst ([.non, .ref p2, .ref p1, .ref p3, .ref p5, .ref p7, .ref p11, .ref p17] ++ [.ref p24, .ref p28, .ref p32])) = H34 at t34 e34 ⊢
  have v34 : Same H H34 := v33.trans t34
  refine ⟨_, rfl, ?_⟩
  refine ⟨_, rfl, ?_⟩
  refine ⟨by show 1 ≤ sizeLine; omega, fun p35 h35 => ?_⟩
  have t35 := same_upd (o := .tup [.str "a"]) h35
  have e35 := upd_same (H := H34) (a := p35) (o := .tup [.str "a"])
  generalize upd H34 p35 (.tup [.str "a"]) = H35 at t35 e35 ⊢
  have v35 : Same H H35 := v34.trans t35
  refine ⟨by show 2 ≤ sizeLine; omega, fun p36 h36 => ?_⟩
  have t36 := same_upd (o := .tup [.int 2, .int 4]) h36
  have e36 := upd_same (H := H35) (a := p36) (o := .tup [.int 2, .int 4])
  generalize upd H35 p36 (.tup [.int 2, .int 4]) = H36 at t36 e36 ⊢
  have v36 : Same H H36 := v35.trans t36
  refine ⟨by show 2 ≤ sizeLine; omega, fun p37 h37 => ?_⟩
  have t37 := same_upd (o := .tup [.ref p35, .ref p36]) h37
  have e37 := upd_same (H := H36) (a := p37) (o := .tup [.ref p35, .ref p36])
  generalize upd H36 p37 (.tup [.ref p35, .ref p36]) = H37 at t37 e37 ⊢
  have v37 : Same H H37 := v36.trans t37
  refine ⟨by show 1 ≤ sizeLine; omega, fun p38 h38 => ?_⟩
  have t38 := same_upd (o := .tup [.ref p37]) h38
  have e38 := upd_same (H := H37) (a := p38) (o := .tup [.ref p37])
  generalize upd H37 p38 (.tup [.ref p37]) = H38 at t38 e38 ⊢
  have v38 : Same H H38 := v37.trans t38
  refine ⟨by show 2 ≤ sizeLine; omega, fun p39 h39 => ?_⟩
  have t39 := same_upd (o := .tup [.ref p1, .ref p38]) h39
  have e39 := upd_same (H := H38) (a := p39) (o := .tup [.ref p1, .ref p38])
  generalize upd H38 p39 (.tup [.ref p1, .ref p38]) = H39 at t39 e39 ⊢
  have v39 : Same H H39 := v38.trans t39
  refine ⟨_, rfl, ?_⟩
  refine ⟨by show 1 ≤ sizeLine; omega, fun p40 h40 => ?_⟩
  have t40 := same_upd (o := .lst [.str "a"]) h40
  have e40 := upd_same (H := H39) (a := p40) (o := .lst [.str "a"])
  generalize upd H39 p40 (.lst [.str "a"]) = H40 at t40 e40 ⊢
  have v40 : Same H H40 := v39.trans t40
  refine ⟨by show 2 ≤ sizeLine; omega, fun p41 h41 => ?_⟩
  have t41 := same_upd (o := .tup [.ref p40, .int 1]) h41
  have e41 := upd_same (H := H40) (a := p41) (o := .tup [.ref p40, .int 1])
  generalize upd H40 p41 (.tup [.ref p40, .int 1]) = H41 at t41 e41 ⊢
  have v41 : Same H H41 := v40.trans t41
  refine ⟨by show 1 ≤ sizeLine; omega, fun p42 h42 => ?_⟩
  have t42 := same_upd (o := .tup [.ref p41]) h42
  have e42 := upd_same (H := H41) (a := p42) (o := .tup [.ref p41])
  generalize upd H41 p42 (.tup [.ref p41]) = H42 at t42 e42 ⊢
  have v42 : Same H H42 := v41.trans t42
  refine ⟨by show 2 ≤ sizeLine; omega, fun p43 h43 => ?_⟩
  have t43 := same_upd (o := .tup [.ref p1, .ref p42]) h43
  have e43 := upd_same (H := H42) (a := p43) (o := .tup [.ref p1, .ref p42])
  generalize upd H42 p43 (.tup [.ref p1, .ref p42]) = H43 at t43 e43 ⊢
  have v43 : Same H H43 := v42.trans t43
  refine ⟨_, rfl, ?_⟩
  refine ⟨by show 1 ≤ sizeLine; omega, fun p44 h44 => ?_⟩
  have t44 := same_upd (o := .tup [.str "a"]) h44
  have e44 := upd_same (H := H43) (a := p44) (o := .tup [.str "a"])
  generalize upd H43 p44 (.tup [.str "a"]) = H44 at t44 e44 ⊢
  have v44 : Same H H44 := v43.trans t44
  refine ⟨by show 2 ≤ sizeLine; omega, fun p45 h45 => ?_⟩
  have t45 := same_upd (o := .tup [.ref p44, .bl true]) h45
  have e45 := upd_same (H := H44) (a := p45) (o := .tup [.ref p44, .bl true])
  generalize upd H44 p45 (.tup [.ref p44, .bl true]) = H45 at t45 e45 ⊢
  have v45 : Same H H45 := v44.trans t45
  refine ⟨by show 1 ≤ sizeLine; omega, fun p46 h46 => ?_⟩
  have t46 := same_upd (o := .tup [.ref p45]) h46
  have e46 := upd_same (H := H45) (a := p46) (o := .tup [.ref p45])
  generalize upd H45 p46 (.tup [.ref p45]) = H46 at t46 e46 ⊢
  have v46 : Same H H46 := v45.trans t46
  refine ⟨by show 2 ≤ sizeLine; omega, fun p47 h47 => ?_⟩
  have t47 := same_upd (o := .tup [.ref p1, .ref p46]) h47
  have e47 := upd_same (H := H46) (a := p47) (o := .tup [.ref p1, .ref p46])
  generalize upd H46 p47 (.tup [.ref p1, .ref p46]) = H47 at t47 e47 ⊢
  have v47 : Same H H47 := v46.trans t47
  refine ⟨_, rfl, ?_⟩
  refine ⟨by show 1 ≤ sizeLine; omega, fun p48 h48 => ?_⟩
  have t48 := same_upd (o := .tup [.str "a"]) h48
  have e48 := upd_same (H := H47) (a := p48) (o := .tup [.str "a"])
  generalize upd H47 p48 (.tup [.str "a"]) = H48 at t48 e48 ⊢
  have v48 : Same H H48 := v47.trans t48
  refine ⟨by show 1 ≤ sizeLine; omega, fun p49 h49 => ?_⟩
  have t49 := same_upd (o := .tup [.ref p48]) h49
  have e49 := upd_same (H := H48) (a := p49) (o := .tup [.ref p48])
  generalize upd H48 p49 (.tup [.ref p48]) = H49 at t49 e49 ⊢
  have v49 : Same H H49 := v48.trans t49
  refine ⟨by show 1 ≤ sizeLine; omega, fun p50 h50 => ?_⟩
  have t50 := same_upd (o := .tup [.ref p49]) h50
  have e50 := upd_same (H := H49) (a := p50) (o := .tup [.ref p49])
  generalize upd H49 p50 (.tup [.ref p49]) = H50 at t50 e50 ⊢
  have v50 : Same H H50 := v49.trans t50
  refine ⟨by show 2 ≤ sizeLine; omega, fun p51 h51 => ?_⟩
  have t51 := same_upd (o := .tup [.ref p1, .ref p50]) h51
  have e51 := upd_same (H := H50) (a := p51) (o := .tup [.ref p1, .ref p50])
  generalize upd H50 p51 (.tup [.ref p1, .ref p50]) = H51 at t51 e51 ⊢
  have v51 : Same H H51 := v50.trans t51
  refine ⟨by show 4 ≤ sizeLine; omega, fun p52 h52 => ?_⟩
  have t52 := same_upd (o := .lst [.ref p39, .ref p43, .ref p47, .ref p51]) h52
  have e52 := upd_same (H := H51) (a := p52) (o := .lst [.ref p39, .ref p43, .ref p47, .ref p51])
  generalize upd H51 p52 (.lst [.ref p39, .ref p43, .ref p47, .ref p51]) = H52 at t52 e52 ⊢
  have v52 : Same H H52 := v51.trans t52
  refine ⟨p34, p52, _, _, rfl, rfl, ((t35.trans (t36.trans (t37.trans (t38.trans (t39.trans (t40.trans (t41.trans (t42.trans (t43.trans (t44.trans (t45.trans (t46.trans (t47.trans (t48.trans (t49.trans (t50.trans (t51.trans t52))))))))))))))))) _ _ e34), e52, by show 15 ≤ sizeLine; omega, fun p53 h53 => ?_⟩
  have t53 := same_upd (o := .lst (([.non, .ref p2, .ref p1, .ref p3, .ref p5, .ref p7, .ref p11, .ref p17] ++ [.ref p24, .ref p28, .ref p32]) ++ [.ref p39, .ref p43, .ref p47, .ref p51])) h53
  have e53 := upd_same (H := H52) (a := p53) (o := .lst (([.non, .ref p2, .ref p1, .ref p3, .ref p5, .ref p7, .ref p11, .ref p17] ++ [.ref p24, .ref p28, .ref p32]) ++ [.ref p39, .ref p43, .ref p47, .ref p51]))
  generalize upd H52 p53 (.lst (([.non, .ref p2, .ref p1, .ref p3, .ref p5, .ref p7, .ref p11, .ref p17] ++ [.ref p24, .ref p28, .ref p32]) ++ [.ref p39, .ref p43, .ref p47, .ref p51])) = H53 at t53 e53 ⊢
  have v53 : Same H H53 := v52.trans t53
  refine ⟨_, rfl, ?_⟩
  refine ⟨_, rfl, ?_⟩
  refine ⟨by show 1 ≤ sizeLine; omega, fun p54 h54 => ?_⟩
  have t54 := same_upd (o := .tup [.str "a"]) h54
  have e54 := upd_same (H := H53) (a := p54) (o := .tup [.str "a"])
  generalize upd H53 p54 (.tup [.str "a"]) = H54 at t54 e54 ⊢
  have v54 : Same H H54 := v53.trans t54
  refine ⟨by show 0 ≤ sizeLine; omega, fun p55 h55 => ?_⟩
  have t55 := same_upd (o := .tup []) h55
  have e55 := upd_same (H := H54) (a := p55) (o := .tup [])
  generalize upd H54 p55 (.tup []) = H55 at t55 e55 ⊢
  have v55 : Same H H55 := v54.trans t55
  refine ⟨by show 2 ≤ sizeLine; omega, fun p56 h56 => ?_⟩
  have t56 := same_upd (o := .tup [.ref p54, .ref p55]) h56
  have e56 := upd_same (H := H55) (a := p56) (o := .tup [.ref p54, .ref p55])
  generalize upd H55 p56 (.tup [.ref p54, .ref p55]) = H56 at t56 e56 ⊢
  have v56 : Same H H56 := v55.trans t56
  refine ⟨by show 2 ≤ sizeLine; omega, fun p57 h57 => ?_⟩
  have t57 := same_upd (o := .lst [.ref p56, .int 5]) h57
  have e57 := upd_same (H := H56) (a := p57) (o := .lst [.ref p56, .int 5])
  generalize upd H56 p57 (.lst [.ref p56, .int 5]) = H57 at t57 e57 ⊢
  have v57 : Same H H57 := v56.trans t57
  refine ⟨p53, p57, _, _, rfl, rfl, ((t54.trans (t55.trans (t56.trans t57))) _ _ e53), e57, by show 17 ≤ sizeLine; omega, fun p58 h58 => ?_⟩
  have t58 := same_upd (o := .lst ((([.non, .ref p2, .ref p1, .ref p3, .ref p5, .ref p7, .ref p11, .ref p17] ++ [.ref p24, .ref p28, .ref p32]) ++ [.ref p39, .ref p43, .ref p47, .ref p51]) ++ [.ref p56, .int 5])) h58
  have e58 := upd_same (H := H57) (a := p58) (o := .lst ((([.non, .ref p2, .ref p1, .ref p3, .ref p5, .ref p7, .ref p11, .ref p17] ++ [.ref p24, .ref p28, .ref p32]) ++ [.ref p39, .ref p43, .ref p47, .ref p51]) ++ [.ref p56, .int 5]))
  generalize upd H57 p58 (.lst ((([.non, .ref p2, .ref p1, .ref p3, .ref p5, .ref p7, .ref p11, .ref p17] ++ [.ref p24, .ref p28, .ref p32]) ++ [.ref p39, .ref p43, .ref p47, .ref p51]) ++ [.ref p56, .int 5])) = H58 at t58 e58 ⊢
  have v58 : Same H H58 := v57.trans t58
  have off58 := (hS.same v57).off h58
  have u58 : Same H58 H58 := Same.refl _
  have u57 : Same H57 H58 := t58.trans u58
  have u56 : Same H56 H58 := t57.trans u57
  have u55 : Same H55 H58 := t56.trans u56
  have u54 : Same H54 H58 := t55.trans u55
  have u53 : Same H53 H58 := t54.trans u54
  have u52 : Same H52 H58 := t53.trans u53
  have u51 : Same H51 H58 := t52.trans u52
  have u50 : Same H50 H58 := t51.trans u51
  have u49 : Same H49 H58 := t50.trans u50
  have u48 : Same H48 H58 := t49.trans u49
  have u47 : Same H47 H58 := t48.trans u48
  have u46 : Same H46 H58 := t47.trans u47
  have u45 : Same H45 H58 := t46.trans u46
  have u44 : Same H44 H58 := t45.trans u45
  have u43 : Same H43 H58 := t44.trans u44
  have u42 : Same H42 H58 := t43.trans u43
  have u41 : Same H41 H58 := t42.trans u42
  have u40 : Same H40 H58 := t41.trans u41
  have u39 : Same H39 H58 := t40.trans u40
  have u38 : Same H38 H58 := t39.trans u39
  have u37 : Same H37 H58 := t38.trans u38
  have u36 : Same H36 H58 := t37.trans u37
  have u35 : Same H35 H58 := t36.trans u36
  have u34 : Same H34 H58 := t35.trans u35
  have u33 : Same H33 H58 := t34.trans u34
  have u32 : Same H32 H58 := t33.trans u33
  have u31 : Same H31 H58 := t32.trans u32
  have u30 : Same H30 H58 := t31.trans u31
  have u29 : Same H29 H58 := t30.trans u30
  have u28 : Same H28 H58 := t29.trans u29
  have u27 : Same H27 H58 := t28.trans u28
  have u26 : Same H26 H58 := t27.trans u27
  have u25 : Same H25 H58 := t26.trans u26
  have u24 : Same H24 H58 := t25.trans u25
  have u23 : Same H23 H58 := t24.trans u24
  have u22 : Same H22 H58 := t23.trans u23
  have u21 : Same H21 H58 := t22.trans u22
  have u20 : Same H20 H58 := t21.trans u21
  have u19 : Same H19 H58 := t20.trans u20
  have u18 : Same H18 H58 := t19.trans u19
  have u17 : Same H17 H58 := t18.trans u18
  have u16 : Same H16 H58 := t17.trans u17
  have u15 : Same H15 H58 := t16.trans u16
  have u14 : Same H14 H58 := t15.trans u15
  have u13 : Same H13 H58 := t14.trans u14
  have u12 : Same H12 H58 := t13.trans u13
  have u11 : Same H11 H58 := t12.trans u12
  have u10 : Same H10 H58 := t11.trans u11
  have u9 : Same H9 H58 := t10.trans u10
  have u8 : Same H8 H58 := t9.trans u9
  have u7 : Same H7 H58 := t8.trans u8
  have u6 : Same H6 H58 := t7.trans u7
  have u5 : Same H5 H58 := t6.trans u6
  have u4 : Same H4 H58 := t5.trans u5
  have u3 : Same H3 H58 := t4.trans u4
  have u2 : Same H2 H58 := t3.trans u3
  have u1 : Same H1 H58 := t2.trans u2
  refine ⟨d, g, c, p58, n, _, rfl, hS.same v58, SqL.of e58, off58.1, by simp, by simp, fun i x H' hx S' kp => ?_⟩
  have all : ∀ H2, Kx d g H58 H2 → Paired (fun v (b : Claim0) => Dp K H2 v b.data) (((([.non, .ref p2, .ref p1, .ref p3, .ref p5, .ref p7, .ref p11, .ref p17] ++ [.ref p24, .ref p28, .ref p32]) ++ [.ref p39, .ref p43, .ref p47, .ref p51]) ++ [.ref p56, .int 5])) badC := by
    intro H2 kx
    have tk := kx.tk (hS.same v58)
    have f1 := tk.1 _ _ (u1 _ _ e1)
    have f2 := tk.1 _ _ (u2 _ _ e2)
    have f3 := tk.1 _ _ (u3 _ _ e3)
    have f4 := tk.1 _ _ (u4 _ _ e4)
    have o5 := (hS.same v4).off h5
    have f5 := kx.lst (u5 _ _ e5) o5.2 o5.1
    have o6 := (hS.same v5).off h6
    have f6 := kx.lst (u6 _ _ e6) o6.2 o6.1
    have f7 := tk.1 _ _ (u7 _ _ e7)
    have f8 := tk.1 _ _ (u8 _ _ e8)
    have f9 := tk.1 _ _ (u9 _ _ e9)
    have f10 := tk.1 _ _ (u10 _ _ e10)
    have f11 := tk.1 _ _ (u11 _ _ e11)
    have f12 := tk.1 _ _ (u12 _ _ e12)
    have f13 := tk.1 _ _ (u13 _ _ e13)
    have f14 := tk.1 _ _ (u14 _ _ e14)
    have f15 := tk.1 _ _ (u15 _ _ e15)
    have f16 := tk.1 _ _ (u16 _ _ e16)
    have f17 := tk.1 _ _ (u17 _ _ e17)
    have f19 := tk.1 _ _ (u19 _ _ e19)
    have f20 := tk.1 _ _ (u20 _ _ e20)
    have f21 := tk.1 _ _ (u21 _ _ e21)
    have f22 := tk.1 _ _ (u22 _ _ e22)
    have f23 := tk.1 _ _ (u23 _ _ e23)
    have f24 := tk.1 _ _ (u24 _ _ e24)
    have f25 := tk.1 _ _ (u25 _ _ e25)
    have f26 := tk.1 _ _ (u26 _ _ e26)
    have f27 := tk.1 _ _ (u27 _ _ e27)
    have f28 := tk.1 _ _ (u28 _ _ e28)
    have f29 := tk.1 _ _ (u29 _ _ e29)
    have f30 := tk.1 _ _ (u30 _ _ e30)
    have f31 := tk.1 _ _ (u31 _ _ e31)
    have f32 := tk.1 _ _ (u32 _ _ e32)
    have f35 := tk.1 _ _ (u35 _ _ e35)
    have f36 := tk.1 _ _ (u36 _ _ e36)
    have f37 := tk.1 _ _ (u37 _ _ e37)
    have f38 := tk.1 _ _ (u38 _ _ e38)
    have f39 := tk.1 _ _ (u39 _ _ e39)
    have o40 := (hS.same v39).off h40
    have f40 := kx.lst (u40 _ _ e40) o40.2 o40.1
    have f41 := tk.1 _ _ (u41 _ _ e41)
    have f42 := tk.1 _ _ (u42 _ _ e42)
    have f43 := tk.1 _ _ (u43 _ _ e43)
    have f44 := tk.1 _ _ (u44 _ _ e44)
    have f45 := tk.1 _ _ (u45 _ _ e45)
    have f46 := tk.1 _ _ (u46 _ _ e46)
    have f47 := tk.1 _ _ (u47 _ _ e47)
    have f48 := tk.1 _ _ (u48 _ _ e48)
    have f49 := tk.1 _ _ (u49 _ _ e49)
    have f50 := tk.1 _ _ (u50 _ _ e50)
    have f51 := tk.1 _ _ (u51 _ _ e51)
    have f54 := tk.1 _ _ (u54 _ _ e54)
    have f55 := tk.1 _ _ (u55 _ _ e55)
    have f56 := tk.1 _ _ (u56 _ _ e56)
    exact (.cons .non (.cons (.tup (SqT.of f2) .nil) (.cons (.tup (SqT.of f1) (.cons (.str _) (.cons (.str _) .nil))) (.cons (.tup (SqT.of f3) (.cons (.tup (SqT.of f1) (.cons (.str _) (.cons (.str _) .nil))) .nil)) (.cons (.lst (SqL.of f5) (.cons (.tup (SqT.of f1) (.cons (.str _) (.cons (.str _) .nil))) (.cons (.tup (SqT.of f4) .nil) .nil))) (.cons (.tup (SqT.of f7) (.cons (.tup (SqT.of f1) (.cons (.str _) (.cons (.str _) .nil))) (.cons (.lst (SqL.of f6) .nil) .nil))) (.cons (.tup (SqT.of f11) (.cons (.tup (SqT.of f1) (.cons (.str _) (.cons (.str _) .nil))) (.cons (.tup (SqT.of f10) (.cons (.tup (SqT.of f9) (.cons (.tup (SqT.of f8) (.cons (.str _) .nil)) (.cons (.int _) .nil))) .nil)) .nil))) (.cons (.tup (SqT.of f17) (.cons (.tup (SqT.of f1) (.cons (.str _) (.cons (.str _) .nil))) (.cons (.tup (SqT.of f16) (.cons (.tup (SqT.of f13) (.cons (.tup (SqT.of f12) (.cons (.str _) .nil)) (.cons (.int _) .nil))) (.cons (.tup (SqT.of f15) (.cons (.tup (SqT.of f14) (.cons (.str _) .nil)) (.cons (.int _) .nil))) .nil))) .nil))) (.cons (.tup (SqT.of f24) (.cons (.tup (SqT.of f1) (.cons (.str _) (.cons (.str _) .nil))) (.cons (.tup (SqT.of f23) (.cons (.tup (SqT.of f20) (.cons (.tup (SqT.of f19) (.cons (.str _) .nil)) (.cons (.int _) .nil))) (.cons (.tup (SqT.of f22) (.cons (.tup (SqT.of f21) (.cons (.str _) .nil)) (.cons (.int _) .nil))) .nil))) .nil))) (.cons (.tup (SqT.of f28) (.cons (.tup (SqT.of f1) (.cons (.str _) (.cons (.str _) .nil))) (.cons (.tup (SqT.of f27) (.cons (.tup (SqT.of f26) (.cons (.tup (SqT.of f25) (.cons (.str _) (.cons (.str _) .nil))) (.cons (.int _) .nil))) .nil)) .nil))) (.cons (.tup (SqT.of f32) (.cons (.tup (SqT.of f1) (.cons (.str _) (.cons (.str _) .nil))) (.cons (.tup (SqT.of f31) (.cons (.tup (SqT.of f30) (.cons (.tup (SqT.of f29) .nil) (.cons (.int _) .nil))) .nil)) .nil))) (.cons (.tup (SqT.of f39) (.cons (.tup (SqT.of f1) (.cons (.str _) (.cons (.str _) .nil))) (.cons (.tup (SqT.of f38) (.cons (.tup (SqT.of f37) (.cons (.tup (SqT.of f35) (.cons (.str _) .nil)) (.cons (.tup (SqT.of f36) (.cons (.int _) (.cons (.int _) .nil))) .nil))) .nil)) .nil))) (.cons (.tup (SqT.of f43) (.cons (.tup (SqT.of f1) (.cons (.str _) (.cons (.str _) .nil))) (.cons (.tup (SqT.of f42) (.cons (.tup (SqT.of f41) (.cons (.lst (SqL.of f40) (.cons (.str _) .nil)) (.cons (.int _) .nil))) .nil)) .nil))) (.cons (.tup (SqT.of f47) (.cons (.tup (SqT.of f1) (.cons (.str _) (.cons (.str _) .nil))) (.cons (.tup (SqT.of f46) (.cons (.tup (SqT.of f45) (.cons (.tup (SqT.of f44) (.cons (.str _) .nil)) (.cons (.bl _) .nil))) .nil)) .nil))) (.cons (.tup (SqT.of f51) (.cons (.tup (SqT.of f1) (.cons (.str _) (.cons (.str _) .nil))) (.cons (.tup (SqT.of f50) (.cons (.tup (SqT.of f49) (.cons (.tup (SqT.of f48) (.cons (.str _) .nil)) .nil)) .nil)) .nil))) (.cons (.tup (SqT.of f56) (.cons (.tup (SqT.of f54) (.cons (.str _) .nil)) (.cons (.tup (SqT.of f55) .nil) .nil))) (.cons (.int _) .nil)))))))))))))))))
  obtain ⟨b, hb, _⟩ := L2.paired_get (all H58 (Kx.refl _)) hx
  have mb := List.mem_of_getElem? hb
  refine k x b H' (fun H2 kx2 => ?_) (bad_fit b mb) (bad_not b mb) S' ((Kp.of v58).trans kp)
  obtain ⟨b', hb', hd⟩ := L2.paired_get (all H2 ((Kx.kp kp).trans kx2)) hx
  rw [hb] at hb'
  rw [Option.some.inj hb']
  exact hd
end
end K17
set_option maxHeartbeats 1000000
/-! list(x) of a text x: its signs -/
namespace Hx
open PySem PySem.Spec PyProof.Rows L2
abbrev signsV (x : Str) : List V := x.cps.toList.map fun c => V.str ⟨#[c]⟩
section
variable {X : Cx}
theorem call_listS (hc : X.calm = true) : CallR X (.type "list") (fun xs H Q => ∃ x : Str, xs = [.str x] ∧ x.length ≤ sizeLine ∧ ∀ p, H p = none → Q (.ref p) (upd H p (.lst (signsV x)))) := by
  intro pins s σ H xs us Q I r h
  obtain ⟨x, rfl, hz, q⟩ := h
  obtain ⟨u, rfl, rx⟩ := vals1 r
  obtain ⟨t, rfl⟩ := rx
  have hz2 : x.cps.size ≤ sizeLine := hz
  refine PySem.call_list_str (I.ok.hd hc) x t (fun h' tk acc c' hk e hi => ?_) (hn := hz2)
  have hsz : (signsV x).length = x.cps.size := by simp
  have hv : Vals (signsV x) acc.toList := vals_of_idx _ _ (by rw [hsz, Array.length_toList]; exact hi.1) fun j v hj => by
    obtain ⟨c, k, hc', rfl⟩ := hi.2 j v (by rw [← Array.getElem?_toList]; exact hj)
    refine ⟨.str ⟨#[c]⟩, ?_, ⟨k, rfl⟩⟩
    rw [List.getElem?_map, Array.getElem?_toList, hc']
    rfl
  exact ⟨.ref s.heap.objs.size, _, I.laid (t' := tk) hk (Nat.le_refl _) (show ObjOk X.prog X.w _ h' _ (.lst (signsV x)) from ⟨by rw [hsz]; exact hz2, acc.toList, c', hv, by simpa using e⟩), rfl, q _ (I.hok.fresh (Nat.le_refl _))⟩
theorem pe_joinK {K : PySem.W.Frag} (hK : X.K = K) {o e : Expr} {to te : TE} {apos pos : Pos} (ho : PE X o to) (he : PE X e te) (hs : starEach [e] X.env = [(false, eval e X.env)] := by rfl) (hbase : attributeBase o "join" X.env (eval o X.env) = eval o X.env := by rfl) (hline : (apos.endLine == pos.line) = true := by rfl) :
    PE X (.Call (.Attribute o "join" apos) [e] [] pos) (tM1 (fun x xs H Q => ∃ a p, ∃ ys : List Str, x = .str a ∧ xs = [.ref p] ∧ (SqL K H p (ys.map V.str) ∨ SqT K H p (ys.map V.str)) ∧
      (ys.map (·.length)).sum + ys.length * a.length ≤ 16777216 ∧ Q (.str (Txt.join a ys)) H) to te) := by
  subst hK
  exact pe_join ho he hs hbase hline
end
end Hx
set_option maxHeartbeats 1000000
namespace K17
open PySem PySem.Spec PyProof.Rows L2 Hx RZ
/-! ### the law reads sides -/
theorem plain_cut {z : Str} (h : Plain z) (lo hi : Option Int) : Plain (cutS z lo hi) := fun c hc => by
  rw [tl_cut] at hc
  exact h c (List.mem_of_mem_drop (List.mem_of_mem_take hc))
def sgnT (s : Int) (t : Term) : Term := if s = 1 then t else turnT t
/-- what is read behind so many halves -/
def soFar (x a : Str) (i : Nat) (ts : List Term) : Prop := match i with
  | 0 => ts = []
  | 1 => sideRead a = some ts
  | _ => sidesRead x = some ts
theorem side_split {y : Str} (h : y ≠ ZER) : sideRead y = allSome ((Txt.split y PL).map termRead) := by
  unfold sideRead
  rw [if_neg h]
theorem allSome_of {α β : Type} {f : α → Option β} : ∀ {l : List α} {r : List β}, l.map f = r.map some → allSome (l.map f) = some r := fun {l r} e => by rw [e, allSome_map]
theorem allSome_no {α β : Type} {f : α → Option β} {l : List α} {a : α} (m : a ∈ l) (h : f a = none) : allSome (l.map f) = none := by
  cases e : allSome (l.map f) with
  | none => rfl
  | some r =>
    have q : f a ∈ l.map f := List.mem_map.mpr ⟨a, m, rfl⟩
    rw [allSome_mem e] at q
    obtain ⟨b, _, eb⟩ := List.mem_map.mp q
    rw [h] at eb
    cases eb
section
variable {P : Program} {w : World} {K : PySem.W.Frag} {mg : Str → Option Value} {base : Heap}
def spReadSideP (K : PySem.W.Frag) (f : Str → Option (List Term)) : Sp := fun vs H Q _ => ∃ x : Str, vs = [.str x] ∧ Plain x ∧ x.length ≤ 1000 ∧ ∀ v H', Same H H' → OptTerms K H' v (f x) → Q v H'
theorem sc_cl_read_sides : FnScope ["text_here", "two_sides", "found", "half", "sign", "piece", "bits", "tail", "worth", "names"] ["text_here"] (defScope sL_cl_read_sides) := ⟨rfl, rfl, rfl, by decide +kernel, rfl, by decide +kernel, by decide +kernel⟩
theorem ok_cl_read_sides (D : Dn K mg "_law_cl_read_sides" sL_cl_read_sides) (B0 : Ok P w K mg base L2.CX0 3 "_law_cl_number_of" ["word"] (spReadNumP K numRead)) (B1 : Ok P w K mg base L2.CX0 2 "_law_cl_are_names" ["thing"] (spNamesP K)) (B2 : Ok P w K mg base L2.CX0 3 "_law_ct_times" ["one", "other"] (spTimes K))
    (h_len : mg "len" = none) (h_zip : mg "zip" = none) (h_tuple : mg "tuple" = none) : Ok P w K mg base L2.CX0 4 "_law_cl_read_sides" ["text_here"] (spReadSideP K sidesRead) := by
  obtain ⟨_, _, g_cl_number_of, k_cl_number_of, b_cl_number_of, F_cl_number_of⟩ := B0.ex
  obtain ⟨_, _, g_cl_are_names, k_cl_are_names, b_cl_are_names, F_cl_are_names⟩ := B1.ex
  obtain ⟨_, _, g_ct_times, k_ct_times, b_ct_times, F_ct_times⟩ := B2.ex
  refine Ok.mk0 D sc_cl_read_sides (fun vs H Q E h => ?_) (fun _ _ _ _ _ _ us hl => match us, hl with | [_], _ => rfl) (fun f cdv A outer s H vs Q E hr h => ?_)
  · obtain ⟨x, rfl, _⟩ := h
    rfl
  obtain ⟨x, rfl, pl, hx, k⟩ := h
  have nd := sc_cl_read_sides.nd
  have hu64 := hr.units
  have hr2 := hr.mono (show 2 ≤ 3 by decide)
  refine ⟨_, (pss_cons (ps_par (i := 1) (j := 2) (by rfl) nd rfl rfl (by decide) rfl rfl (pa_cons (pe_split (pv 0) pe_str) (pa_cons (pe_lst pa_nil) pa_nil)) (by rfl))
  (pss_cons (ps_if (pt_cmpR op_ne (pe_lenS rfl h_len (pv 1)) pe_int (nomark _))
    (pss_one (ps_ret pe_non))
    pss_nil)
  (pss_cons (ps_for PassesOwn.never rfl (pi_zipA (by rfl) h_zip (pa_cons (pv 1) (pa_cons (pe_lst (pa_cons pe_int (pa_cons (pe_un un_neg pe_int) pa_nil))) pa_nil))) (pg_tup (by rfl) (pgs_cons (pg_name (i := 3) nd rfl (Or.inl rfl)) (pgs_cons (pg_name (i := 4) nd rfl (Or.inl rfl)) pgs_nil)))
    (pss_one (ps_for PassesOwn.never rfl (pi_list (pe_ifExp (pt_cmpR op_ne (pv 3) pe_str (nomark _)) (pe_split (pv 3) pe_str) (pe_lst pa_nil))) (pg_name (i := 5) nd rfl (Or.inl rfl))
      (pss_cons (ps_set (i := 6) nd rfl (Or.inl rfl) (pe_split (pv 5) pe_str))
      (pss_cons (ps_set (i := 7) nd rfl (Or.inl rfl) (pe_join pe_str (pe_slice sl_list (pv 6) (po_some pe_int) po_none)))
      (pss_cons (ps_par (i := 8) (j := 9) (by rfl) nd rfl rfl (by decide) rfl rfl (pa_cons (pe_call F_cl_number_of hr rfl g_cl_number_of k_cl_number_of b_cl_number_of .nil pass0 (pa_cons (pe_ix ix_list (pv 6) pe_int (fun _ _ => rfl)) pa_nil)) (pa_cons (pe_callTy call_tuple_of (by rfl) h_tuple (by decide +kernel) (pa_cons (pe_split (pe_slice sl_str (pv 7) (po_some pe_int) (po_some (pe_un un_neg pe_int))) pe_str) pa_nil)) pa_nil)) (by rfl))
      (pss_cons (ps_if (PW.pt (pw_or (pt_cmpR op_isN (pv 8) pe_non (nomark _)) (pw_or (pt_cmpR (op_eqD hu64) (pv 8) pe_int (nomark _)) (pw_or (pt_cmpR op_ne (pe_slice sl_str (pv 7) po_none (po_some pe_int)) pe_str (nomark _)) (pw_or1 (pt_cmpR op_ne (pe_slice sl_str (pv 7) (po_some (pe_un un_neg pe_int)) po_none) pe_str (nomark _)))))))
        (pss_one (ps_ret pe_non))
        pss_nil)
      (pss_cons (ps_if (pt_not (pt_val (pe_call F_cl_are_names hr2 rfl g_cl_are_names k_cl_are_names b_cl_are_names .nil pass0 (pa_cons (pv 9) pa_nil))))
        (pss_one (ps_ret pe_non))
        pss_nil)
      (pss_one (ps_expr (pe_bm PySem.F.plainAttrs_list PySem.F.slot_list_append PySem.F.type_list_append mt_append (pv 2) (pa_cons (pe_tup (pa_cons (pv 9) (pa_cons (pe_call F_ct_times hr rfl g_ct_times k_ct_times b_ct_times .nil pass0 (pa_cons (pv 4) (pa_cons (pv 8) pa_nil))) pa_nil))) pa_nil))))))))))))
  (pss_one (ps_ret (pv 2)))))), ?_⟩
  have big : 100 ≤ sizeLine := by rw [sizeLine_eq]; decide
  refine ⟨_, rfl, ⟨_, rfl⟩, x, GE, rfl, rfl, by decide +kernel, szl (by omega), fun l hl => ⟨by show 0 ≤ sizeLine; omega, fun p hp => ⟨_, _, rfl, ?_⟩⟩⟩
  have s1 := same_upd (o := .lst ((Txt.split x GE).map V.str)) hl
  have hls0 := SqL.of (K := K) (upd_same (H := H) (a := l) (o := .lst ((Txt.split x GE).map V.str)))
  have wl := split_len (x := x) sep_ge
  have wp := plain_split (x := x) sep_ge pl
  generalize upd H l (.lst ((Txt.split x GE).map V.str)) = H1 at s1 hls0 hp ⊢
  have s2 := same_upd (o := .lst []) hp
  have nH : ∀ {b : Addr} {u : HO}, H1 b = some u → b ≠ p := fun e => ne_of_none e hp
  have hls := same_seqL s2 hls0
  have out : ∀ v H', Same H1 H' → OptTerms K H' v (sidesRead x) → Q v H' := fun v H' s => k v H' (s1.trans s)
  refine ⟨_, rfl, l, _, rfl, .inl hls, rfl, _, rfl, ?_⟩
  rw [List.length_map, deq_int]
  by_cases h2 : (Txt.split x GE).length = 2
  · rw [decide_eq_true (show (((Txt.split x GE).length : Nat) : Int) = 2 by omega)]
    obtain ⟨a, b, es⟩ : ∃ a b, Txt.split x GE = [a, b] := by
      generalize Txt.split x GE = m at h2
      match m, h2 with
      | [a, b], _ => exact ⟨a, b, rfl⟩
    rw [es] at hls hls0 wl wp
    have e2 := sides_two es
    refine iteF ⟨_, rfl, _, rfl, by show 2 ≤ sizeLine; omega, fun z hz => ⟨l, z, _, [.int 1, .int (-1)], rfl, .inl ⟨same_seqL (same_upd hz) hls, SqL.of upd_same, ?_⟩⟩⟩
    have s3 := s2.trans (same_upd (o := .lst [.int 1, .int (-1)]) hz)
    have nzp : z ≠ p := fun e => by rw [e, upd_same] at hz; cases hz
    have lz0 : SqL K (upd (upd H1 p (.lst [])) z (.lst [.int 1, .int (-1)])) z [.int 1, .int (-1)] := SqL.of upd_same
    have uz0 : (upd (upd H1 p (.lst [])) z (.lst [.int 1, .int (-1)])) z = some (.lst [.int 1, .int (-1)]) := upd_same
    have up0 : (upd (upd H1 p (.lst [])) z (.lst [.int 1, .int (-1)])) p = some (.lst []) := by rw [upd_ne nzp.symm]; exact upd_same
    generalize upd (upd H1 p (.lst [])) z (.lst [.int 1, .int (-1)]) = H3 at s3 lz0 uz0 up0 ⊢
    let Pv : Nat → L2.St → Hp → Prop := fun i σ H' => ∃ (o3 o4 o5 o6 o7 o8 o9 : Option V) (us : List V) (ts : List Term), σ = [some (.str x), some (.ref l), some (.ref p), o3, o4, o5, o6, o7, o8, o9] ∧ Same H1 H' ∧ H' z = some (.lst [.int 1, .int (-1)]) ∧ H' p = some (.lst us) ∧ TermsAt K H' us ts ∧ soFar x a i ts ∧ ts.length ≤ 4000 * i
    refine for_zipL (by rfl) Pv ⟨none, none, none, none, none, none, none, [], [], rfl, s3, uz0, up0, .nil, rfl, by simp⟩ (fun i σ H' ⟨_, _, _, _, _, _, _, _, _, _, s, hz', _⟩ => ⟨same_seqL s hls0, SqL.of hz'⟩) ?_ ?_
    · rintro i vx vy T σ H4 hvx hvy ⟨o3, o4, o5, o6, o7, o8, o9, us, ts, rfl, s4, hz4, hp4, hts, sf, few⟩ hT
      obtain ⟨y, sg, rfl, rfl, hsg, ylen, yp, fail, good⟩ : ∃ (y : Str) (sg : Int), vx = .str y ∧ vy = .int sg ∧ (sg = 1 ∨ sg = -1) ∧ y.length ≤ 1000 ∧ Plain y ∧ (sideRead y = none → sidesRead x = none) ∧ ∀ more, sideRead y = some more → soFar x a (i + 1) (ts ++ more.map (sgnT sg)) := by
        match i, hvx, hvy with
        | 0, hvx, hvy =>
          cases hvx
          cases hvy
          refine ⟨a, 1, rfl, rfl, .inl rfl, by have := wl a (by simp); omega, wp a (by simp), fun e => ?_, fun more e => ?_⟩
          · rw [e2, e]
          · have e0 : ts = [] := sf
            have e1 : more.map (sgnT 1) = more := by
              have : sgnT 1 = id := funext fun t => if_pos rfl
              rw [this, List.map_id]
            rw [e0, e1]
            exact e
        | 1, hvx, hvy =>
          cases hvx
          cases hvy
          have e0 : sideRead a = some ts := sf
          refine ⟨b, -1, rfl, rfl, .inr rfl, by have := wl b (by simp); omega, wp b (by simp), fun e => ?_, fun more e => ?_⟩
          · rw [e2, e0, e]
          · have e1 : more.map (sgnT (-1)) = more.map turnT := List.map_congr_left fun t _ => if_neg (by decide)
            show sidesRead x = some _
            rw [e2, e0, e, e1]
      have yw := split_len (x := y) sep_pl
      have ypl := plain_split (x := y) sep_pl yp
      have ycnt : (Txt.split y PL).length ≤ y.length + 2 := PyProof.Rows.split_le y PL
      refine ⟨T, _, rfl, SqT.of upd_same, rfl, _, _, rfl, _, _, rfl, rfl, ?_⟩
      have s5 := s4.trans (same_upd (o := .tup [.str y, .int sg]) hT)
      have hz5 := (same_upd (o := .tup [.str y, .int sg]) hT) _ _ hz4
      have hp5 := (same_upd (o := .tup [.str y, .int sg]) hT) _ _ hp4
      have hts5 : TermsAt K (upd H4 T (.tup [.str y, .int sg])) us ts := TermsAt.keep (.of (same_upd hT)) hts
      generalize upd H4 T (.tup [.str y, .int sg]) = H5 at s5 hz5 hp5 hts5 ⊢
      have hz5n : ∀ {q : Addr}, H5 q = none → q ≠ p ∧ q ≠ z := fun {q} e => ⟨(fun w => by rw [w, hp5] at e; cases e), (fun w => by rw [w, hz5] at e; cases e)⟩
      refine ⟨_, rfl, rfl, _, rfl, ?_⟩
      rw [deq_str]
      by_cases h0 : y = ZER
      case' pos =>
        refine iteG (by rw [decide_eq_true h0]; rfl) ⟨by show 0 ≤ sizeLine; omega, fun q hq => ?_⟩
        obtain ⟨ps, eps⟩ : ∃ ps : List Str, ps = [] := ⟨_, rfl⟩
        have s6 := same_upd (o := .lst []) hq
        have hq6 : (upd H5 q (.lst [])) q = some (.lst (ps.map V.str)) := by rw [eps]; exact upd_same
        generalize upd H5 q (.lst []) = H6 at s6 hq6 ⊢
        have side : allSome (ps.map termRead) = sideRead y := by
          rw [eps]
          unfold sideRead
          rw [if_pos h0]
          rfl
        have psl : ∀ u ∈ ps, u.length ≤ 1000 ∧ Plain u := fun u hu => by rw [eps] at hu; cases hu
        have psn : ps.length ≤ 1002 := by rw [eps]; exact Nat.zero_le _
      case' neg =>
        refine iteE (by rw [decide_eq_false h0]; rfl) ⟨_, rfl, ⟨_, rfl⟩, y, PL, rfl, rfl, by decide +kernel, szl (by omega), fun q hq => ?_⟩
        obtain ⟨ps, eps⟩ : ∃ ps : List Str, ps = Txt.split y PL := ⟨_, rfl⟩
        rw [← eps] at yw ypl ycnt ⊢
        have s6 := same_upd (o := .lst (ps.map V.str)) hq
        have hq6 : (upd H5 q (.lst (ps.map V.str))) q = some (.lst (ps.map V.str)) := upd_same
        generalize upd H5 q (.lst (ps.map V.str)) = H6 at s6 hq6 ⊢
        have side : allSome (ps.map termRead) = sideRead y := by rw [eps, side_split h0]
        have psl : ∀ u ∈ ps, u.length ≤ 1000 ∧ Plain u := fun u hu => ⟨by have := yw u hu; omega, ypl u hu⟩
        have psn : ps.length ≤ 1002 := by omega
      all_goals
        have qn := hz5n hq
        have s16 := s5.trans s6
        let Pw : Nat → L2.St → Hp → Prop := fun j σ H' => ∃ (o5 o6 o7 o8 o9 : Option V) (us : List V) (done : List Term), σ = [some (.str x), some (.ref l), some (.ref p), some (.str y), some (.int sg), o5, o6, o7, o8, o9] ∧ Same H1 H' ∧ H' z = some (.lst [.int 1, .int (-1)]) ∧ H' q = some (.lst (ps.map V.str)) ∧ H' p = some (.lst us) ∧ TermsAt K H' us (ts ++ done.map (sgnT sg)) ∧ (ps.take j).map termRead = done.map some
        refine ⟨q, rfl, ⟨_, SqL.of hq6⟩, for_list Pw ⟨o5, o6, o7, o8, o9, us, [], rfl, s16, s6 _ _ hz5, hq6, s6 _ _ hp5, by rw [List.map_nil, List.append_nil]; exact TermsAt.keep (.of s6) hts5, by simp⟩ (fun j σ H' _ ⟨_, _, _, _, _, _, _, _, _, _, hq', _⟩ => SqL.of hq') ?_ ?_⟩
        · rintro j v σ H7 hv ⟨o5, o6, o7, o8, o9, us, done, rfl, s7, hz7, hq7, hp7, hts7, ed⟩
          obtain ⟨u, hu, rfl⟩ := strs_at hv
          have mu := List.mem_of_getElem? hu
          obtain ⟨ul, upl⟩ := psl u mu
          obtain ⟨b0, r0, eb⟩ := split_cons u SPC
          have lt := law_term eb
          have bl := split_len (x := u) sep_spc
          have bp := plain_split (x := u) sep_spc upl
          have bsum := split_sum (x := u) sep_spc
          have bcnt : (Txt.split u SPC).length ≤ u.length + 2 := PyProof.Rows.split_le u SPC
          rw [eb] at bl bp bsum bcnt
          rw [List.map_cons, List.sum_cons] at bsum
          rw [List.length_cons] at bcnt
          refine ⟨_, rfl, ⟨_, rfl⟩, u, SPC, rfl, rfl, by decide +kernel, szl (by omega), fun lb hlb => ?_⟩
          rw [eb]
          have s8 := same_upd (o := .lst ((b0 :: r0).map V.str)) hlb
          have hlb8 := SqL.of (K := K) (upd_same (H := H7) (a := lb) (o := .lst ((b0 :: r0).map V.str)))
          generalize upd H7 lb (.lst ((b0 :: r0).map V.str)) = H8 at s8 hlb8 ⊢
          refine ⟨⟨_, rfl⟩, _, rfl, _, rfl, ?_⟩
          show tNoPart _ _ _
          unfold tNoPart
          refine rSlL_any (hlb8) (cut_from 1) fun q2 hq2 => ?_
          rw [← List.map_drop, List.drop_succ_cons, List.drop_zero]
          have s9 := s8.trans (same_upd (o := .lst (r0.map V.str)) hq2)
          have hlb9 := same_seqL (same_upd (o := .lst (r0.map V.str)) hq2) hlb8
          refine ⟨SPC, q2, r0, rfl, rfl, .inl (SqL.of upd_same), ?_, ?_⟩
          · have e1 : SPC.length = 1 := rfl
            rw [e1]
            omega
          generalize upd H8 q2 (.lst (r0.map V.str)) = H9 at s9 hlb9 ⊢
          have tlen : (Txt.join SPC r0).length ≤ 2002 := by
            have q := join_len SPC r0
            have e1 : SPC.length = 1 := rfl
            rw [e1] at q
            omega
          have tpl : Plain (Txt.join SPC r0) := plain_join plain_spc fun w hw => bp w (List.mem_cons_of_mem _ hw)
          generalize Txt.join SPC r0 = tail at lt tlen tpl ⊢
          refine ⟨_, rfl, lb, _, 0, .str b0, rfl, rfl, hlb9, atI_nat (j := 0) (by rfl), b0, rfl, bp b0 List.mem_cons_self, by have := bl b0 List.mem_cons_self; omega, fun vn H10 s10 hvn => ?_⟩
          have cm := cutS_length tail (some 2) (some (-1))
          refine ⟨_, rfl, _, rfl, _, rfl, _, rfl, tail, rfl, szl (by omega), ⟨_, rfl⟩, _, SPC, rfl, rfl, by decide +kernel, szl (by omega), fun lc hlc => ?_⟩
          have npl := plain_split (x := cutS tail (some 2) (some (-1))) sep_spc (plain_cut tpl _ _)
          have nsm := split_sm (x := cutS tail (some 2) (some (-1))) sep_spc (by omega)
          have enr : namesRead (cutS tail (some 2) (some (-1))) = if namesS (Txt.split (cutS tail (some 2) (some (-1))) SPC) = true then some (Txt.split (cutS tail (some 2) (some (-1))) SPC) else none := rfl
          rw [enr] at lt
          generalize Txt.split (cutS tail (some 2) (some (-1))) SPC = ns at npl nsm lt hlc ⊢
          refine ⟨lc, _, rfl, .inl ⟨SqL.of upd_same, fun tn htn => ?_⟩⟩
          have s11 := (same_upd (o := .lst (ns.map V.str)) hlc).trans (same_upd (o := .tup (ns.map V.str)) htn)
          have hvn11 := hvn.keep (.of s11)
          have htn11 : (upd (upd H10 lc (.lst (ns.map V.str))) tn (.tup (ns.map V.str))) tn = some (.tup (ns.map V.str)) := upd_same
          generalize upd (upd H10 lc (.lst (ns.map V.str))) tn (.tup (ns.map V.str)) = H11 at s11 hvn11 htn11 ⊢
          have s711 := s9.trans (s10.trans s11)
          have bad : termRead u = none → sidesRead x = none := fun e => fail (by rw [← side]; exact allSome_no mu e)
          have no : ∀ H', Same H11 H' → termRead u = none → Q .non H' := fun H' s e => out _ _ (s7.trans (s711.trans s)) (by rw [bad e]; rfl)
          refine ⟨_, _, rfl, _, rfl, rfl, _, rfl, ?_⟩
          cases hn : numRead b0 with
          | none =>
            rw [hn] at hvn11
            obtain rfl : vn = .non := hvn11
            refine iteT (no _ (Same.refl _) ?_)
            rw [lt, hn, termOf_no]
            split <;> rfl
          | some n =>
            rw [hn] at hvn11
            obtain ⟨nbits, nok⟩ := num_nb hn
            have hnum : NumAt K H11 vn n := hvn11
            have nn : decide (vn = V.non) = false := decide_eq_false fun e => by
              subst e
              cases n with
              | w i => cases hnum
              | q t b => obtain ⟨_, z, _⟩ := hnum; cases z
            refine iteG nn ⟨_, rfl, n.data, .int 0, hnum.dt.dp, .int 0, shaped_num n, shaped_int 0, _, rfl, ?_⟩
            rw [eqv_num0]
            have et : ∀ o, termOf true o (some n) = match o with | none => none | some m => if n = .w 0 then none else some (m, n) := fun o => by cases o <;> rfl
            by_cases hzn : n = .w 0
            · rw [show nz n = false from decide_eq_false fun q => q hzn]
              refine iteT (no _ (Same.refl _) ?_)
              rw [lt, hn, et, hzn]
              split
              · split <;> rfl
              · rfl
            · rw [show nz n = true from decide_eq_true hzn]
              refine iteF ⟨_, rfl, _, rfl, tail, rfl, szl (by omega), rfl, _, rfl, ?_⟩
              rw [deq_str]
              by_cases hc1 : cutS tail none (some 2) = WP
              · rw [decide_eq_true hc1]
                refine iteF ⟨_, rfl, _, rfl, _, rfl, tail, rfl, szl (by omega), rfl, _, rfl, ?_⟩
                rw [deq_str]
                by_cases hc2 : cutS tail (some (-1)) none = RP
                · rw [decide_eq_true hc2]
                  rw [if_pos ⟨hc1, hc2⟩, hn, et] at lt
                  refine iteF ⟨_, rfl, tn, ns, rfl, SqT.of htn11, nsm, npl, fun H12 s12 => ⟨_, rfl, ?_⟩⟩
                  cases hns : namesS ns with
                  | false =>
                    rw [hns] at lt
                    exact iteT (no _ s12 lt)
                  | true =>
                    rw [hns] at lt
                    have lt2 : termRead u = if n = .w 0 then none else some (ns, n) := lt
                    rw [if_neg hzn] at lt2
                    have hnum12 := hnum.keep (.of s12)
                    have s712 := s711.trans s12
                    refine iteF ⟨_, rfl, .inl ⟨rfl, _, SqL.of (s712 _ _ hp7)⟩, _, rfl, _, rfl, _, rfl, .int sg, vn, .w sg, n, rfl, rfl, hnum12, rfl, nok, ?_, (nb_bits n).mono (by omega), fun v13 H13 s13 hv13 => ?_⟩
                    · rcases hsg with rfl | rfl
                      · exact (nb_bits _).mono (by decide +kernel)
                      · exact (nb_bits _).mono (by decide +kernel)
                    have s713 := s712.trans s13
                    refine ⟨by show 2 ≤ sizeLine; omega, fun tt htt => ?_⟩
                    have s14 := same_upd (o := .tup [.ref tn, v13]) htt
                    have s714 := s713.trans s14
                    have hp14 := s714 _ _ hp7
                    have ul7 := paired_len hts7
                    have dl : done.length = (ps.take j).length := by
                      have q := congrArg List.length ed
                      rw [List.length_map, List.length_map] at q
                      exact q.symm
                    have jl : (ps.take j).length ≤ ps.length := by rw [List.length_take]; omega
                    refine ⟨p, us, _, rfl, rfl, hp14, ?_, ?_⟩
                    · rw [ul7, List.length_append, List.length_map, sizeLine_eq]
                      have : i ≤ 1 := by
                        have q := (List.getElem?_eq_some_iff.mp hvy).1
                        simp at q
                        omega
                      omega
                    have tk15 : TK (upd H13 tt (.tup [.ref tn, v13])) (upd (upd H13 tt (.tup [.ref tn, v13])) p (.lst (us ++ [.ref tt]))) := .lst hp14
                    have e14 : sgnT sg (ns, n) = (ns, timesN (.w sg) n) := by
                      rcases hsg with rfl | rfl
                      · rw [times_one nok]; exact if_pos rfl
                      · rw [times_neg nok]; exact if_neg (by decide)
                    refine ⟨_, _, _, _, _, us ++ [.ref tt], done ++ [(ns, n)], rfl, ?_, ?_, ?_, upd_same, ?_, ?_⟩
                    · intro b o e
                      rw [upd_ne (nH e)]
                      exact (s7.trans s714) _ _ e
                    · rw [upd_ne nzp]
                      exact s714 _ _ hz7
                    · rw [upd_ne qn.1]
                      exact s714 _ _ hq7
                    · rw [List.map_append, ← List.append_assoc]
                      refine paired_snoc (TermsAt.keep ((TK.of s714).trans tk15) hts7) ?_
                      rw [e14]
                      refine TermAt.keep tk15 ⟨tt, tn, v13, rfl, SqT.of upd_same, ?_, hv13.keep (.of s14)⟩
                      exact (s12.trans (s13.trans s14)) _ _ htn11
                    · rw [List.take_add_one, hu, List.map_append, List.map_append, ed]
                      show _ ++ [termRead u] = _
                      rw [lt2]
                      rfl
                · rw [decide_eq_false hc2]
                  refine iteT (no _ (Same.refl _) ?_)
                  rw [lt, if_neg (fun q => hc2 q.2)]
              · rw [decide_eq_false hc1]
                refine iteT (no _ (Same.refl _) ?_)
                rw [lt, if_neg (fun q => hc1 q.1)]
        · rintro σ H7 ⟨o5, o6, o7, o8, o9, us, done, rfl, s7, hz7, hq7, hp7, hts7, ed⟩
          rw [List.length_map, List.take_length] at ed
          have sd : sideRead y = some done := by rw [← side]; exact allSome_of ed
          have gd := good done sd
          have fewd := (side_facts sd).tot
          have fewl : done.length ≤ tot done := by
            clear sd gd fewd ed hts7
            induction done with
            | nil => exact Nat.zero_le _
            | cons a r ih => rw [tot_cons, List.length_cons]; omega
          exact ⟨_, _, _, _, _, _, _, us, _, rfl, s7, hz7, hp7, hts7, gd, by rw [List.length_append, List.length_map]; omega⟩
    · rintro σ H4 ⟨o3, o4, o5, o6, o7, o8, o9, us, ts, rfl, s4, hz4, hp4, hts, sf, few⟩
      refine ⟨_, rfl, out _ _ s4 ?_⟩
      have sf' : sidesRead x = some ts := sf
      rw [sf']
      exact ⟨p, us, rfl, hp4, hts⟩
  · rw [decide_eq_false (show ¬ (((Txt.split x GE).length : Nat) : Int) = 2 by omega)]
    refine iteT (out _ _ s2 ?_)
    rw [sides_not h2]
    rfl
end
end K17
set_option maxHeartbeats 1000000
namespace K17
open PySem PySem.Spec PyProof.Rows L2 Hx RZ
/-! ### the law reads claims -/
section
variable {P : Program} {w : World} {K : PySem.W.Frag} {mg : Str → Option Value} {base : Heap}
def spReadTextP (K : PySem.W.Frag) (f : Str → Option (Lot × List Term)) : Sp := fun vs H Q _ => ∃ x : Str, vs = [.str x] ∧ Plain x ∧ x.length ≤ 1000 ∧ ∀ v H', Same H H' → OptClaim K H' v (f x) → Q v H'
theorem sc_cl_read : FnScope ["text_here", "spot", "names", "pairs", "lot", "worth"] ["text_here"] (defScope sL_cl_read) := ⟨rfl, rfl, rfl, by decide +kernel, rfl, by decide +kernel, by decide +kernel⟩
theorem ok_cl_read (D : Dn K mg "_law_cl_read" sL_cl_read) (B0 : Ok P w K mg base L2.CX0 4 "_law_cl_read_sides" ["text_here"] (spReadSideP K sidesRead)) (B1 : Ok P w K mg base L2.CX0 2 "_law_cl_are_names" ["thing"] (spNamesP K)) (B2 : Ok P w K mg base L2.CX0 3 "_law_cl_is_lot" ["taps_here", "thing"] (spLotP K)) (B3 : Ok P w K mg base L2.CX0 4 "_law_cl_gathered" ["taps_here", "pairs"] (spGath K))
    (h_len : mg "len" = none) (h_max : mg "max" = none) (h_tuple : mg "tuple" = none) : Ok P w K mg base L2.CX0 5 "_law_cl_read" ["text_here"] (spReadTextP K textRead) := by
  obtain ⟨_, _, g_cl_read_sides, k_cl_read_sides, b_cl_read_sides, F_cl_read_sides⟩ := B0.ex
  obtain ⟨_, _, g_cl_are_names, k_cl_are_names, b_cl_are_names, F_cl_are_names⟩ := B1.ex
  obtain ⟨_, _, g_cl_is_lot, k_cl_is_lot, b_cl_is_lot, F_cl_is_lot⟩ := B2.ex
  obtain ⟨_, _, g_cl_gathered, k_cl_gathered, b_cl_gathered, F_cl_gathered⟩ := B3.ex
  refine Ok.mk0 D sc_cl_read (fun vs H Q E h => ?_) (fun _ _ _ _ _ _ us hl => match us, hl with | [_], _ => rfl) (fun f cdv A outer s H vs Q E hr h => ?_)
  · obtain ⟨x, rfl, _⟩ := h
    rfl
  obtain ⟨x, rfl, pl, hx, k⟩ := h
  have nd := sc_cl_read.nd
  have hu64 := hr.units
  have hr2 := hr.mono (show 2 ≤ 4 by decide)
  have hr3 := hr.mono (show 3 ≤ 4 by decide)
  refine ⟨_, (pss_cons (ps_set (i := 1) nd rfl (Or.inl rfl) (pe_m1 PySem.F.slot_str_find PySem.F.type_str_find mt_find (pv 0) pe_str))
  (pss_cons (ps_asg (pe_tup (pa_cons (pe_callTy call_tuple_of (by rfl) h_tuple (by decide +kernel) (pa_cons (pe_split (pe_slice sl_str (pv 0) po_none (po_some (pe_callB (call_max2 rfl) (by rfl) h_max (by decide +kernel) (pa_cons (pv 1) (pa_cons pe_int pa_nil))))) pe_str) pa_nil)) (pa_cons (pe_call F_cl_read_sides hr rfl g_cl_read_sides k_cl_read_sides b_cl_read_sides .nil pass0 (pa_cons (pe_slice sl_str (pv 0) (po_some (pe_op op_add (pv 1) pe_int)) po_none) pa_nil)) pa_nil))) (pg_tup (by rfl) (pgs_cons (pg_name (i := 2) nd rfl (Or.inr rfl)) (pgs_cons (pg_name (i := 3) nd rfl (Or.inl rfl)) pgs_nil))))
  (pss_cons (ps_if (PW.pt (pw_or (pt_cmpR op_lt (pv 1) pe_int (nomark _)) (pw_or (pt_not (pt_val (pe_call F_cl_are_names hr2 rfl g_cl_are_names k_cl_are_names b_cl_are_names .nil pass0 (pa_cons (pv 2) pa_nil)))) (pw_or (pt_not (pt_chain op_le op_le pe_int (pe_lenS rfl h_len (pv 2)) pe_int)) (pw_or1 (pt_cmpR op_isN (pv 3) pe_non (nomark _)))))))
    (pss_one (ps_ret pe_non))
    pss_nil)
  (pss_cons (ps_if (pt_cmpR (op_neD hu64) (pe_lc (own := [("lot", 4), ("worth", 5)]) (g := gTup K 2 (gCons (gName 4) (gCons (gName 5) gNil))) rfl nd (pi_list (pv 3)) (blkOk_by (own := [("lot", 4), ("worth", 5)]) (N := ["text_here", "spot", "names", "pairs", "lot", "worth"]) (sc := defScope sL_cl_read) (by decide +kernel)) (fun _ _ _ _ _ => pg_tup (by rfl) (pgs_cons (pg_name (i := 4) nd rfl (Or.inl rfl)) (pgs_cons (pg_name (i := 5) nd rfl (Or.inl rfl)) pgs_nil))) (fun _ _ _ _ _ => pts_one (pt_not (pt_val (pe_call F_cl_is_lot hr3 rfl g_cl_is_lot k_cl_is_lot b_cl_is_lot .nil pass0 (pa_cons (pv 2) (pa_cons (pv 4) pa_nil)))))) (fun _ _ _ _ _ => pe_int)) (pe_lst pa_nil) (nomark _))
    (pss_one (ps_ret pe_non))
    pss_nil)
  (pss_one (ps_ret (pe_call F_cl_gathered hr rfl g_cl_gathered k_cl_gathered b_cl_gathered .nil pass0 (pa_cons (pv 2) (pa_cons (pv 3) pa_nil))))))))), ?_⟩
  refine ⟨_, rfl, ⟨_, rfl⟩, x, CO, rfl, rfl, ?_⟩
  have out0 : ∀ v H', Same H H' → OptClaim K H' v (textRead x) → Q v H' := k
  have csl : ∀ lo hi, (cutS x lo hi).length ≤ 1000 := fun lo hi => Nat.le_trans (cutS_length x lo hi) hx
  refine ⟨_, rfl, _, rfl, _, _, rfl, _, rfl, x, rfl, szl (by omega), ⟨_, rfl⟩, _, SPC, rfl, rfl, by decide +kernel, szl (by have := csl none (some (if 0 > Txt.find x CO then 0 else Txt.find x CO)); omega), fun l hl => ?_⟩
  have npl := plain_split (x := cutS x none (some (if 0 > Txt.find x CO then 0 else Txt.find x CO))) sep_spc (plain_cut pl _ _)
  have nsm := split_sm (x := cutS x none (some (if 0 > Txt.find x CO then 0 else Txt.find x CO))) sep_spc (by have := csl none (some (if 0 > Txt.find x CO then 0 else Txt.find x CO)); omega)
  obtain ⟨ns, ens⟩ : ∃ ns, ns = Txt.split (cutS x none (some (if 0 > Txt.find x CO then 0 else Txt.find x CO))) SPC := ⟨_, rfl⟩
  rw [← ens] at npl nsm ⊢
  have s1 := same_upd (o := .lst (ns.map V.str)) hl
  refine ⟨l, _, rfl, .inl ⟨SqL.of upd_same, fun t ht => ?_⟩⟩
  have s2 := s1.trans (same_upd (o := .tup (ns.map V.str)) ht)
  have ht2 : (upd (upd H l (.lst (ns.map V.str))) t (.tup (ns.map V.str))) t = some (.tup (ns.map V.str)) := upd_same
  generalize upd (upd H l (.lst (ns.map V.str))) t (.tup (ns.map V.str)) = H2 at s2 ht2 ⊢
  refine ⟨_, rfl, _, rfl, _, _, rfl, rfl, _, rfl, x, rfl, szl (by omega), _, rfl, plain_cut pl _ _, csl _ _, fun vp H3 s3 hvp => ?_⟩
  refine ⟨by rw [sizeLine_eq]; exact (by decide : (2 : Nat) ≤ 16777216), fun q hq => ⟨q, _, rfl, SqT.of upd_same, rfl, _, _, rfl, _, _, rfl, rfl, ?_⟩⟩
  have s4 := same_upd (o := .tup [.ref t, vp]) hq
  have hvp4 := hvp.same s4
  have s24 := s2.trans (s3.trans s4)
  have ht4 : SqT K (upd H3 q (.tup [.ref t, vp])) t (ns.map V.str) := SqT.of ((s3.trans s4) _ _ ht2)
  generalize upd H3 q (.tup [.ref t, vp]) = H4 at s24 hvp4 ht4 ⊢
  clear s4 hq ht2 hl ht
  have out : ∀ v H', Same H4 H' → OptClaim K H' v (textRead x) → Q v H' := fun v H' s => k v H' (s24.trans s)
  have no : ∀ H', Same H4 H' → textRead x = none → Q .non H' := fun H' s e => out _ _ s (by rw [e]; rfl)
  refine ⟨_, rfl, _, _, rfl, rfl, _, rfl, ?_⟩
  rcases PyProof.Rows.find_spec x CO with hf | ⟨i, hf, _, _⟩
  · rw [hf]
    exact iteT (no _ (Same.refl _) (text_no hf))
  · have ep := text_yes hf
    rw [hf] at ens hvp4 ⊢
    rw [show (if (0 : Int) > (i : Int) then 0 else (i : Int)) = (i : Int) from if_neg (by omega)] at ens
    have et : textRead x = if tapsS ns = true then (match sidesRead (cutS x (some ((i : Int) + 2)) none) with | none => none | some ts => if (ts.all fun t => lotS ns t.1) = true then some (ns, gathT ts) else none) else none := by
      unfold textRead
      rw [ep]
      show (if tapsS (Txt.split (cutS x none (some (i : Int))) SPC) = true then _ else _) = _
      rw [← ens]
      all_goals (split <;> first | rfl | (cases sidesRead (cutS x (some ((i : Int) + 2)) none) <;> rfl))
    have notap : tapsS ns = false → textRead x = none := fun e => by rw [et, if_neg (by rw [e]; decide)]
    refine iteG (decide_eq_false (by omega)) ⟨_, rfl, t, ns, rfl, ht4, nsm, npl, fun H5 s5 => ⟨_, rfl, ?_⟩⟩
    cases hn : namesS ns with
    | false => exact iteT (no _ s5 (notap (by unfold tapsS; rw [hn]; rfl)))
    | true =>
      have ht5 := same_seqT s5 ht4
      refine iteF ⟨_, rfl, t, _, rfl, .inr ht5, _, _, rfl, rfl, _, rfl, ?_⟩
      rw [List.length_map]
      by_cases h2 : 2 ≤ ns.length
      · refine iteE (decide_eq_true (by omega)) ⟨_, _, rfl, rfl, _, rfl, ?_⟩
        by_cases h6 : ns.length ≤ 6
        · have htp : tapsS ns = true := by unfold tapsS; rw [hn, decide_eq_true h2, decide_eq_true h6]; rfl
          rw [if_pos htp] at et
          refine iteG (by rw [decide_eq_true (show ((ns.length : Nat) : Int) ≤ 6 by omega)]; rfl) ⟨_, rfl, rfl, _, rfl, ?_⟩
          have hvp5 := hvp4.same s5
          cases hs : sidesRead (cutS x (some ((i : Int) + 2)) none) with
          | none =>
            rw [hs] at hvp5 et
            obtain rfl : vp = .non := hvp5
            exact iteT (no _ s5 et)
          | some ts =>
            rw [hs] at hvp5 et
            obtain ⟨lt, ut, rfl, hlt, hts⟩ := hvp5
            have fx := sides_facts hs
            have c2 := csl (some ((i : Int) + 2)) none
            have len := paired_len hts
            have ltot : ts.length ≤ tot ts := by
              clear hs et hts len fx
              induction ts with
              | nil => exact Nat.zero_le _
              | cons a r ih => rw [tot_cons, List.length_cons]; omega
            have f1 := fx.tot
            refine iteF ⟨_, rfl, lt, rfl, ⟨_, SqL.of hlt⟩, fun Z hZ => ?_⟩
            refine lc_onesD ts (fun t => !lotS ns t.1) hZ (by rw [sizeLine_eq]; omega) (fun i H6 hi s6 => ?_) (fun H6 s6 => ?_) ?_ ?_
            · exact ⟨_, _, same_seqL s6 (SqL.of hlt), List.getElem?_eq_getElem (by omega)⟩
            · exact ⟨_, same_seqL s6 (SqL.of hlt), by omega⟩
            · rintro j tm z H6 H' F htm s6 ⟨rfl, yx⟩ kF
              have e := yx _ (same_seqL s6 (SqL.of hlt))
              obtain ⟨t', ett, hd⟩ := L2.paired_get hts e
              rw [htm] at ett
              obtain rfl : tm = t' := Option.some.inj ett
              obtain ⟨q6, l2', u, rfl, hq6, hl2, hnm⟩ := hd.keep (.of s6)
              obtain ⟨nm, nl⟩ := fx.names tm (List.mem_of_getElem? htm)
              have n8 := names_sm nm
              exact ⟨q6, _, rfl, hq6, rfl, _, _, rfl, _, _, rfl, rfl, rfl, _, rfl, _, rfl, t, l2', ns, tm.1, rfl, same_seqT s6 ht5, nsm, SqT.of hl2, ⟨by omega, fun x hx => by have := n8 x hx; omega⟩, names_plain nm, fun H7 s7 => ⟨_, rfl, kF _ s7⟩⟩
            · intro c H6 s6 e hz
              refine ones_ne e fun H7 s7 => ⟨_, rfl, ?_⟩
              have s57 := s5.trans (s6.trans s7)
              have s67 := s6.trans s7
              rw [hz]
              have ea : (ts.all fun b => !!lotS ns b.1) = ts.all fun t => lotS ns t.1 := by simp
              rw [ea]
              cases hall : ts.all fun t => lotS ns t.1 with
              | false =>
                refine iteT (no _ s57 ?_)
                rw [et]
                exact if_neg (by rw [hall]; decide)
              | true =>
                refine iteF ⟨_, rfl, _, rfl, t, lt, ns, ut, ts, rfl, same_seqT s67 ht5, SqL.of (s67 _ _ hlt), TermsAt.keep (.of s67) hts, fx.ok, fun y hy => lot_ne (List.all_eq_true.mp hall y hy), by omega, fun v H8 s8 hv => out _ _ (s57.trans s8) ?_⟩
                rw [et]
                show OptClaim K H8 _ (if (ts.all fun t => lotS ns t.1) = true then some (ns, gathT ts) else none)
                rw [if_pos hall]
                exact hv
        · refine iteE (by rw [decide_eq_false (show ¬ ((ns.length : Nat) : Int) ≤ 6 by omega)]; rfl) (no _ s5 (notap (by unfold tapsS; rw [decide_eq_false h6]; simp)))
      · exact iteG (decide_eq_false (by omega)) ⟨_, rfl, iteT (no _ s5 (notap (by unfold tapsS; rw [decide_eq_false h2]; simp)))⟩
end
end K17
set_option maxHeartbeats 1000000
namespace K17
open PySem PySem.Spec PyProof.Rows L2 Hx RZ
/-! ### a text is bent -/
abbrev SIGNS : Str := " abw019/+>=:()-A"
theorem signs_plain : (SIGNS.cps.toList.all fun c => decide (c < 128)) = true := by decide +kernel
theorem len_first (x : Str) (i : Nat) : (cutS x none (some (i : Int))).length ≤ i := by
  rw [TL.len_tl, cut_first, List.length_take]
  omega
theorem len_behind (x : Str) (i : Nat) : (cutS x (some (i : Int)) none).length ≤ x.length - i := by
  rw [TL.len_tl, cut_behind, List.length_drop, TL.len_tl x]
  omega
theorem len_between (x : Str) (i j : Nat) : (cutS x (some (i : Int)) (some (j : Int))).length ≤ j - i := by
  rw [TL.len_tl, tl_cut, HT.sIx_nat, HT.sIx_nat, List.length_take]
  omega
section
variable {P : Program} {w : World} {K : PySem.W.Frag} {mg : Str → Option Value} {base : Heap}
def spBent : Sp := fun vs H Q _ => ∃ (d g c : Addr) (n : Nat) (x : Str), vs = [.ref d, .str x] ∧ St H d g c (n + 3) ∧ Plain x ∧ x.length ≤ 1000 ∧ ∀ (y : Str) H', Plain y → y.length ≤ x.length + 2 → St H' d g c n → Kp d g H H' → Q (.str y) H'
theorem sc_cl_bent : FnScope ["state", "text_here", "spot", "way", "sign"] ["state", "text_here"] (defScope sL_cl_bent) := ⟨rfl, rfl, rfl, by decide +kernel, rfl, by decide +kernel, by decide +kernel⟩
theorem ok_cl_bent (D : Dn K mg "_law_cl_bent" sL_cl_bent) (B0 : Ok P w K mg base L2.CX0 2 "_law_draw" ["state", "room"] spDraw) (B1 : Ok P w K mg base L2.CX0 3 "_law_pick" ["state", "some"] (spPick K)) (h_len : mg "len" = none) (h_list : mg "list" = none) :
    Ok P w K mg base L2.CX0 4 "_law_cl_bent" ["state", "text_here"] spBent := by
  obtain ⟨_, _, g_draw, k_draw, b_draw, F_draw⟩ := B0.ex
  obtain ⟨_, _, g_pick, k_pick, b_pick, F_pick⟩ := B1.ex
  refine Ok.mk0 D sc_cl_bent (fun vs H Q E h => ?_) (fun _ _ _ _ _ _ us hl => match us, hl with | [_, _], _ => rfl) (fun f cdv A outer s H vs Q E hr h => ?_)
  · obtain ⟨d, g, c, n, x, rfl, _⟩ := h
    rfl
  obtain ⟨d, g, c, n, x, rfl, hS, pl, hx, k⟩ := h
  have nd := sc_cl_bent.nd
  have hr2 := hr.mono (show 2 ≤ 3 by decide)
  refine ⟨_, (pss_cons (ps_par (i := 2) (j := 3) (by rfl) nd rfl rfl (by decide) rfl rfl (pa_cons (pe_call F_draw hr2 rfl g_draw k_draw b_draw .nil pass0 (pa_cons (pv 0) (pa_cons (pe_op op_add (pe_callB call_len_str (by rfl) h_len (by decide +kernel) (pa_cons (pv 1) pa_nil)) pe_int) pa_nil))) (pa_cons (pe_call F_draw hr2 rfl g_draw k_draw b_draw .nil pass0 (pa_cons (pv 0) (pa_cons pe_int pa_nil))) pa_nil)) (by rfl))
  (pss_cons (ps_set (i := 4) nd rfl (Or.inl rfl) (pe_call F_pick hr rfl g_pick k_pick b_pick .nil pass0 (pa_cons (pv 0) (pa_cons (pe_callTy (call_listS rfl) (by rfl) h_list (by decide +kernel) (pa_cons pe_str pa_nil)) pa_nil))))
  (pss_cons (ps_if (pt_cmpR op_eq (pv 3) pe_int (nomark _))
    (pss_one (ps_ret (pe_op op_add_str (pe_op op_add_str (pe_slice sl_str (pv 1) po_none (po_some (pv 2))) (pv 4)) (pe_slice sl_str (pv 1) (po_some (pv 2)) po_none))))
    pss_nil)
  (pss_cons (ps_if (pt_cmpR op_eq (pv 3) pe_int (nomark _))
    (pss_one (ps_ret (pe_op op_add_str (pe_slice sl_str (pv 1) po_none (po_some (pv 2))) (pe_slice sl_str (pv 1) (po_some (pe_op op_add (pv 2) pe_int)) po_none))))
    pss_nil)
  (pss_cons (ps_if (pt_cmpR op_eq (pv 3) pe_int (nomark _))
    (pss_one (ps_ret (pe_op op_add_str (pe_op op_add_str (pe_slice sl_str (pv 1) po_none (po_some (pv 2))) (pv 4)) (pe_slice sl_str (pv 1) (po_some (pe_op op_add (pv 2) pe_int)) po_none))))
    pss_nil)
  (pss_one (ps_ret (pe_op op_add_str (pe_op op_add_str (pe_op op_add_str (pe_slice sl_str (pv 1) po_none (po_some (pv 2))) (pe_slice sl_str (pv 1) (po_some (pe_op op_add (pv 2) pe_int)) (po_some (pe_op op_add (pv 2) pe_int)))) (pe_slice sl_str (pv 1) (po_some (pv 2)) (po_some (pe_op op_add (pv 2) pe_int)))) (pe_slice sl_str (pv 1) (po_some (pe_op op_add (pv 2) pe_int)) po_none))))))))), ?_⟩
  have xs : x.length ≤ sizeLine := szl (by omega)
  refine ⟨_, rfl, _, rfl, x, rfl, xs, _, _, rfl, rfl, d, g, c, n + 2, _, rfl, hS, by omega, ?_, fun z H1 z0 z1 S1 kp1 => ?_⟩
  · have := small9000 (n := x.length + 1) (by omega)
    rw [show ((x.length : Int) + 1) = ((x.length + 1 : Nat) : Int) by omega]
    exact this
  obtain ⟨i, rfl⟩ := Int.eq_ofNat_of_zero_le z0
  refine ⟨_, rfl, d, g, c, n + 1, 4, rfl, S1, by decide, by decide +kernel, fun way H2 w0 w4 S2 kp2 => ⟨_, _, rfl, ?_⟩⟩
  have off : ∀ {l : Addr}, H2 l = none → l ≠ g := fun {l} h => (S2.off h).1
  refine ⟨_, rfl, SIGNS, rfl, szl (by decide +kernel), fun l hl => ⟨d, g, c, l, n, _, rfl, S2.same (same_upd hl), SqL.of upd_same, off hl, by decide +kernel, by decide +kernel, fun j v H3 hv S3 kp3 => ?_⟩⟩
  have kp := (kp1.trans kp2).trans ((Kp.of (same_upd hl)).trans kp3)
  rw [List.getElem?_map] at hv
  obtain ⟨sg, hsg, rfl⟩ : ∃ sg, SIGNS.cps.toList[j]? = some sg ∧ v = .str ⟨#[sg]⟩ := by
    cases e : SIGNS.cps.toList[j]? with
    | none => rw [e] at hv; cases hv
    | some sg => rw [e] at hv; exact ⟨sg, rfl, (Option.some.inj hv).symm⟩
  have plsg : Plain (⟨#[sg]⟩ : Str) := fun c hc => by
    have e2 : TL.tl (⟨#[sg]⟩ : Str) = [sg] := rfl
    rw [e2] at hc
    rw [List.mem_singleton.mp hc]
    exact of_decide_eq_true (List.all_eq_true.mp signs_plain sg (List.mem_of_getElem? hsg))
  have lsg : (⟨#[sg]⟩ : Str).length = 1 := rfl
  generalize (⟨#[sg]⟩ : Str) = sgn at plsg lsg ⊢
  have out : ∀ y : Str, Plain y → y.length ≤ x.length + 2 → Q (.str y) H3 := fun y p l => k y H3 p l S3 kp
  have c1 := len_first x i
  have c2 := len_behind x i
  have c3 := len_behind x (i + 1)
  have c4 := len_behind x (i + 2)
  have c5 := len_between x (i + 1) (i + 2)
  have c6 := len_between x i (i + 1)
  have e1 : ((i : Int) + 1) = ((i + 1 : Nat) : Int) := by omega
  have e2 : ((i : Int) + 2) = ((i + 2 : Nat) : Int) := by omega
  rw [← e1] at c3
  rw [← e2] at c4
  rw [← e1, ← e2] at c5
  rw [← e1] at c6
  have pc := fun lo hi => plain_cut pl lo hi
  refine ⟨_, rfl, rfl, _, rfl, ?_⟩
  rw [deq_int]
  by_cases w0 : way = 0
  · rw [decide_eq_true w0]
    refine iteT ⟨_, rfl, _, rfl, _, rfl, x, rfl, xs, _, rfl, _, _, rfl, rfl, ?_, _, rfl, _, rfl, _, rfl, x, rfl, xs, _, _, rfl, rfl, ?_, out _ (plain_app (plain_app (pc _ _) plsg) (pc _ _)) ?_⟩
    · first | exact szl (by omega) | (simp only [append_len]; exact szl (by omega))
    · first | exact szl (by omega) | (simp only [append_len]; exact szl (by omega))
    · simp only [append_len]; omega
  · rw [decide_eq_false w0]
    refine iteF ⟨_, rfl, rfl, _, rfl, ?_⟩
    rw [deq_int]
    by_cases w1 : way = 1
    · rw [decide_eq_true w1]
      refine iteT ⟨_, rfl, _, rfl, _, rfl, x, rfl, xs, _, rfl, _, rfl, _, _, rfl, rfl, _, rfl, x, rfl, xs, _, _, rfl, rfl, ?_, out _ (plain_app (pc _ _) (pc _ _)) ?_⟩
      · first | exact szl (by omega) | (simp only [append_len]; exact szl (by omega))
      · simp only [append_len]; omega
    · rw [decide_eq_false w1]
      refine iteF ⟨_, rfl, rfl, _, rfl, ?_⟩
      rw [deq_int]
      by_cases w2 : way = 2
      · rw [decide_eq_true w2]
        refine iteT ⟨_, rfl, _, rfl, _, rfl, x, rfl, xs, _, rfl, _, _, rfl, rfl, ?_, _, rfl, _, rfl, _, _, rfl, rfl, _, rfl, x, rfl, xs, _, _, rfl, rfl, ?_, out _ (plain_app (plain_app (pc _ _) plsg) (pc _ _)) ?_⟩
        · first | exact szl (by omega) | (simp only [append_len]; exact szl (by omega))
        · first | exact szl (by omega) | (simp only [append_len]; exact szl (by omega))
        · simp only [append_len]; omega
      · rw [decide_eq_false w2]
        refine iteF ⟨_, rfl, _, rfl, _, rfl, x, rfl, xs, _, rfl, _, rfl, _, _, rfl, rfl, _, rfl, _, rfl, _, _, rfl, rfl, _, rfl, x, rfl, xs, _, _, rfl, rfl, ?_, _, rfl, _, rfl, _, rfl, _, rfl, _, _, rfl, rfl, _, rfl, x, rfl, xs, _, _, rfl, rfl, ?_, _, rfl, _, rfl, _, _, rfl, rfl, _, rfl, x, rfl, xs, _, _, rfl, rfl, ?_, out _ (plain_app (plain_app (plain_app (pc _ _) (pc _ _)) (pc _ _)) (pc _ _)) ?_⟩
        · first | exact szl (by omega) | (simp only [append_len]; exact szl (by omega))
        · first | exact szl (by omega) | (simp only [append_len]; exact szl (by omega))
        · first | exact szl (by omega) | (simp only [append_len]; exact szl (by omega))
        · simp only [append_len]; omega
end
end K17
set_option maxHeartbeats 1000000
namespace K17
open PySem PySem.Spec PyProof.Rows L2 Hx RZ
/-! ### free sides -/
def fars : List Num := [.w 1, .q 1 2, .w 2]
def farsAll : List Num := [.w 0, .w 0, .w 1, .q 1 2, .w 2]
def goodN (n : Num) : Bool := n.ok && (decide (0 < n.top) && (decide (n.top < 10 ^ 6) && decide (n.low < 10 ^ 6)))
theorem smalls_good : (smalls.all goodN) = true := by decide +kernel
theorem fars_good : (fars.all goodN) = true := by decide +kernel
theorem sums_good : (smalls.all fun n => fars.all fun f => goodN (plusN n f)) = true := by decide +kernel
theorem fars_bits : (fars.all fun n => decide (nb n ≤ 20)) = true := by decide +kernel
structure GoodN (n : Num) : Prop where
  ok : n.ok = true
  t0 : 0 < n.top
  t1 : n.top < 10 ^ 6
  l1 : n.low < 10 ^ 6
theorem good_of {n : Num} (h : goodN n = true) : GoodN n := by
  unfold goodN at h
  rw [Bool.and_eq_true, Bool.and_eq_true, Bool.and_eq_true, decide_eq_true_eq, decide_eq_true_eq, decide_eq_true_eq] at h
  exact ⟨h.1, h.2.1, h.2.2.1, h.2.2.2⟩
/-- a term of a free side -/
structure Good (taps : Lot) (t : Term) : Prop where
  num : GoodN t.2
  lot : lotS taps t.1 = true
  len : lotLen t.1 ≤ 36
theorem Good.neat {taps : Lot} {t : Term} (h : Good taps t) : Neat t :=
  ⟨⟨h.num.ok, Int.le_of_lt h.num.t0, Int.lt_trans h.num.t1 (by decide), Int.lt_trans h.num.l1 (by decide)⟩, (fun e => by have := h.num.t0; rw [e] at this; exact absurd this (by decide)), (lot_few h.lot).1, lot_ne h.lot⟩
theorem Good.fit {taps : Lot} {t : Term} (h : Good taps t) : FitT t := ⟨⟨Int.le_of_lt h.num.t0, h.num.t1, Int.le_of_lt (low_pos h.num.ok), h.num.l1⟩, h.len⟩
theorem Good.plain {taps : Lot} {t : Term} (h : Good taps t) : ∀ x ∈ t.1, Plain x := names_plain (lot_few h.lot).1
theorem sumV_turn (ts : List Term) (l : Lot) : sumV (ts.map turnT) l = - sumV ts l := by
  induction ts with
  | nil => show (0 : Rat) = -0; grind
  | cons t r ih =>
    show (if t.1 = l then val (turnN t.2) else 0) + sumV (r.map turnT) l = - ((if t.1 = l then val t.2 else 0) + sumV r l)
    rw [ih, val_turn]
    split <;> grind
/-- what free sides are -/
structure FreeOk (taps : Lot) (L ls rs : List Term) : Prop where
  good : ∀ t ∈ ls ++ rs, Good taps t
  few : ls.length + rs.length ≤ 15
  sums : ∀ l, sumV ls l - sumV rs l = sumV L l
theorem free_back {taps : Lot} {L ls rs : List Term} (h : RightC taps L) (k : FreeOk taps L ls rs) : textRead (Txt.join SPC taps ++ CO ++ (sideText ls ++ GE ++ sideText rs)) = some (taps, L) := by
  have gl : ∀ t ∈ ls, Good taps t := fun t ht => k.good t (List.mem_append_left _ ht)
  have gr : ∀ t ∈ rs, Good taps t := fun t ht => k.good t (List.mem_append_right _ ht)
  rw [text_back h.tp (fun t ht => (gl t ht).neat) (fun t ht => (gr t ht).neat) (fun t ht => (gl t ht).lot) (fun t ht => (gr t ht).lot)]
  rw [gath_to (L := L) (fun t ht => ?_) h.canon fun l => ?_]
  · rcases List.mem_append.mp ht with q | q
    · exact (gl t q).num.ok
    · obtain ⟨u, hu, rfl⟩ := List.mem_map.mp q
      exact turn_ok (gr u hu).num.ok
  · rw [sumV_app, sumV_turn, ← sumV_canon h.canon, ← k.sums l]
    grind
theorem free_len {taps : Lot} {L ls rs : List Term} (h : RightC taps L) (k : FreeOk taps L ls rs) : (Txt.join SPC taps ++ CO ++ (sideText ls ++ GE ++ sideText rs)).length ≤ 890 := by
  have h1 := side_len (ts := ls) fun t ht => (k.good t (List.mem_append_left _ ht)).fit
  have h2 := side_len (ts := rs) fun t ht => (k.good t (List.mem_append_right _ ht)).fit
  have h3 := lot_join_len taps
  have h4 := h.tlen
  have h5 := k.few
  rw [append_len, append_len, append_len, append_len]
  have : CO.length = 2 := rfl
  have : GE.length = 4 := rfl
  omega
theorem free_plain {taps : Lot} {L ls rs : List Term} (h : RightC taps L) (k : FreeOk taps L ls rs) : Plain (Txt.join SPC taps ++ CO ++ (sideText ls ++ GE ++ sideText rs)) := by
  have p1 : Plain (sideText ls) := plain_side fun t ht => ⟨(k.good t (List.mem_append_left _ ht)).fit.1, (k.good t (List.mem_append_left _ ht)).plain⟩
  have p2 : Plain (sideText rs) := plain_side fun t ht => ⟨(k.good t (List.mem_append_right _ ht)).fit.1, (k.good t (List.mem_append_right _ ht)).plain⟩
  exact plain_app (plain_app (plain_join plain_spc (names_plain (taps_few h.tp).2.2)) plain_co) (plain_app (plain_app p1 plain_ge) p2)
section
variable {P : Program} {w : World} {K : PySem.W.Frag} {mg : Str → Option Value} {base : Heap}
def spFreeSide (K : PySem.W.Frag) : Sp := fun vs H Q _ => ∃ (v0 : V) (l : Addr) (us : List V) (ts : List Term) (taps : Lot), vs = [v0, .ref l] ∧ SqL K H l us ∧ TermsAt K H us ts ∧ (∀ t ∈ ts, Good taps t) ∧ ts.length ≤ 15 ∧ ∀ H', Same H H' → Q (.str (sideText ts)) H'
theorem sc_cl_free_side : FnScope ["state", "pairs", "found", "lot", "weight"] ["state", "pairs"] (defScope sL_cl_free_side) := ⟨rfl, rfl, rfl, by decide +kernel, rfl, by decide +kernel, by decide +kernel⟩
theorem ok_cl_free_side (D : Dn K mg "_law_cl_free_side" sL_cl_free_side) (B : Ok P w K mg base L2.CX0 1 "_law_cl_number_text" ["worth"] (spNumText K)) : Ok P w K mg base L2.CX0 2 "_law_cl_free_side" ["state", "pairs"] (spFreeSide K) := by
  obtain ⟨_, _, g_cl_number_text, k_cl_number_text, b_cl_number_text, F_cl_number_text⟩ := B.ex
  refine Ok.mk0 D sc_cl_free_side (fun vs H Q E h => ?_) (fun _ _ _ _ _ _ us hl => match us, hl with | [_, _], _ => rfl) (fun f cdv A outer s H vs Q E hr h => ?_)
  · obtain ⟨v0, l, us, ts, taps, rfl, _⟩ := h
    rfl
  obtain ⟨v0, l, us, ts, taps, rfl, hl, hts, gd, few, k⟩ := h
  have nd := sc_cl_free_side.nd
  have hu64 := hr.units
  refine ⟨_, (pss_cons (ps_setLc (i := 2) (own := [("lot", 3), ("weight", 4)]) (g := gTup K 2 (gCons (gName 3) (gCons (gName 4) gNil))) (tt := tYes) rfl nd rfl rfl (sw_true rfl rfl rfl (by decide +kernel)) (pi_list (pv 1)) (blkOk_by (own := [("lot", 3), ("weight", 4)]) (N := ["state", "pairs", "found", "lot", "weight"]) (sc := defScope sL_cl_free_side) (by decide +kernel)) (fun _ _ _ _ _ => pg_tup (by rfl) (pgs_cons (pg_name (i := 3) nd rfl (Or.inl rfl)) (pgs_cons (pg_name (i := 4) nd rfl (Or.inl rfl)) pgs_nil))) (fun _ _ _ _ _ => pts_nil) (fun _ _ _ _ _ => (pe_op op_add_str (pe_op op_add_str (pe_op op_add_str (pe_call F_cl_number_text hr rfl g_cl_number_text k_cl_number_text b_cl_number_text .nil pass0 (pa_cons (pv 4) pa_nil)) pe_str) (pe_joinK (K := K) rfl pe_str (pv 3))) pe_str)))
  (pss_one (ps_ret (pe_ifExp (pt_cmpR (op_neD hu64) (pv 2) (pe_lst pa_nil) (nomark _)) (pe_join pe_str (pv 2)) pe_str)))), ?_⟩
  have len := paired_len hts
  refine ⟨_, rfl, l, rfl, ⟨_, hl⟩, fun Z hZ => ?_⟩
  refine lc_each ts (fun v t _ => v = .str (termText t.1 t.2)) (fun _ _ _ _ _ h => h) hZ (by rw [sizeLine_eq]; omega) (fun i H1 hi s1 => ⟨_, _, same_seqL s1 hl, List.getElem?_eq_getElem (by omega)⟩) (fun H1 s1 => ⟨_, same_seqL s1 hl, by omega⟩) ?_ ?_
  · rintro i t z H1 H' F ht s1 ⟨rfl, yx⟩ kF
    have e := yx _ (same_seqL s1 hl)
    obtain ⟨t', et, hd⟩ := L2.paired_get hts e
    rw [ht] at et
    obtain rfl := Option.some.inj et
    obtain ⟨q, l2, u, rfl, hq, hl2, hn⟩ := hd.keep (.of s1)
    have g0 := gd t (List.mem_of_getElem? ht)
    obtain ⟨fa, f3⟩ := g0.fit
    have nl := num_len fa
    have jl := lot_join_len t.1
    have e3 : WW.length = 3 := rfl
    have e4 : RP.length = 1 := rfl
    have e1 : SPC.length = 1 := rfl
    refine ⟨q, _, rfl, hq, rfl, _, _, rfl, _, _, rfl, rfl, rfl, _, rfl, u, t.2, rfl, hn, fa.1, (by have := fa.2.1; omega), fa.2.2.1, (by have := fa.2.2.2; omega), _, WW, rfl, rfl, szl (by omega), ⟨_, rfl⟩, _, rfl, SPC, l2, t.1, rfl, rfl, .inr (SqT.of hl2), ?_, _, _, rfl, rfl, ?_, _, RP, rfl, rfl, ?_, kF _ _ rfl (Same.refl _)⟩
    · rw [e1]
      unfold lotLen at f3
      omega
    · rw [append_len]
      exact szl (by omega)
    · rw [append_len, append_len]
      exact szl (by omega)
  · intro acc H1 s1 eZ hacc
    have ea := paired_strs (f := fun t : Term => termText t.1 t.2) hacc
    subst ea
    refine ⟨_, rfl, strs_ne (fun x hx => ?_) eZ fun H2 s2 => ⟨_, rfl, ?_⟩⟩
    · obtain ⟨t, ht, rfl⟩ := List.mem_map.mp hx
      exact plain_term (gd t ht).fit.1 (gd t ht).plain
    have z := k H2 (s1.trans s2)
    cases ts with
    | nil => exact iteF z
    | cons a r =>
      have e3 : PL.length = 3 := rfl
      refine iteT ⟨⟨_, rfl⟩, _, rfl, PL, Z, _, rfl, rfl, .inl (SqL.of (s2 _ _ eZ)), ?_, z⟩
      have q2 := sum_le (fun x : Str => x.length) 53 ((a :: r).map fun t => termText t.1 t.2) fun x hx => by
        obtain ⟨t, ht, rfl⟩ := List.mem_map.mp hx
        exact term_len (gd t ht).fit
      rw [List.length_map] at q2
      rw [e3, List.length_map]
      omega
end
end K17
set_option maxHeartbeats 1000000
namespace K17
open PySem PySem.Spec PyProof.Rows L2 Hx RZ
/-! ### both sides in another form -/
theorem good_term {taps : Lot} {l : Lot} {n : Num} (h : GoodN n) (lo : lotS taps l = true) (len : lotLen l ≤ 36) : Good taps (l, n) := ⟨h, lo, len⟩
theorem sumV_snoc (ts : List Term) (t : Term) (l : Lot) : sumV (ts ++ [t]) l = sumV ts l + if t.1 = l then val t.2 else 0 := by
  rw [sumV_app]
  show _ + ((if t.1 = l then val t.2 else 0) + 0) = _
  rw [Rat.add_zero]
theorem far_cases {f : Num} (h : f ∈ farsAll) : f = .w 0 ∨ f ∈ fars := by
  unfold farsAll at h
  unfold fars
  simp at h ⊢
  rcases h with h | h | h | h
  · exact .inl h
  · exact .inr (.inl h)
  · exact .inr (.inr (.inl h))
  · exact .inr (.inr (.inr h))
theorem small_of {n : Num} (h : n ∈ weights) : (0 < n.top ∧ n ∈ smalls) ∨ (n.top < 0 ∧ turnN n ∈ smalls) := by
  unfold weights at h
  rcases List.mem_append.mp h with q | q
  · exact .inl ⟨(good_of (List.all_eq_true.mp smalls_good n q)).t0, q⟩
  · obtain ⟨m, hm, rfl⟩ := List.mem_map.mp q
    have := (good_of (List.all_eq_true.mp smalls_good m hm)).t0
    exact .inr ⟨by rw [turn_top]; omega, by rw [turn_turn]; exact hm⟩
theorem TermAt.dt {K : PySem.W.Frag} {H : Hp} {v : V} {t : Term} : TermAt K H v t → Dt K H v (termD t)
  | ⟨a, l, u, h1, h2, h3, h4⟩ => by
    subst h1
    exact .tup h2 (.cons (.tup (SqT.of h3) (DtAll.strs _)) (.cons h4.dt .nil))
theorem TermsAt.dtAll {K : PySem.W.Frag} {H : Hp} : ∀ {us : List V} {ts : List Term}, TermsAt K H us ts → DtAll K H us (ts.map termD)
  | _, _, .nil => .nil
  | _, _, .cons h t => .cons (TermAt.dt h) (TermsAt.dtAll t)
theorem term_sh {t : Term} (h : ∀ x ∈ t.1, Plain x) : Sh 2 (termD t) := sh_tup (n := 1) fun e he => by
  simp at he
  rcases he with rfl | rfl
  · exact lot_sh h
  · exact num_sh t.2
/-- all but two objects is kept, tuples too -/
structure Bt (a b : Addr) (H H' : Hp) : Prop where
  tk : TK H H'
  kp : ∀ x o, H x = some o → x ≠ a → x ≠ b → H' x = some o
theorem Bt.trans {a b : Addr} {H H1 H2 : Hp} (h : Bt a b H H1) (k : Bt a b H1 H2) : Bt a b H H2 := ⟨h.tk.trans k.tk, fun x o e n1 n2 => k.kp x o (h.kp x o e n1 n2) n1 n2⟩
theorem Bt.swap {a b : Addr} {H H' : Hp} (h : Bt a b H H') : Bt b a H H' := ⟨h.tk, fun x o e n1 n2 => h.kp x o e n2 n1⟩
theorem Bt.of {a b : Addr} {H H' : Hp} (s : Same H H') : Bt a b H H' := ⟨.of s, fun x o e _ _ => s x o e⟩
theorem St.bt {H H' : Hp} {d g c a b : Addr} {n : Nat} (h : St H d g c n) (e : Bt a b H H') (da : d ≠ a) (db : d ≠ b) (ga : g ≠ a) (gb : g ≠ b) (ca : c ≠ a) (cb : c ≠ b) : St H' d g c n := by
  obtain ⟨gs, cs, r, t, h1, h2, h3, h4⟩ := h
  exact ⟨gs, cs, r, t, e.kp _ _ h1 da db, e.kp _ _ h2 ga gb, e.kp _ _ h3 ca cb, h4⟩
theorem Bt.wide {a b : Addr} {H H' : Hp} (h : Bt a a H H') : Bt a b H H' := ⟨h.tk, fun x o e n1 _ => h.kp x o e n1 n1⟩
theorem Bt.wide2 {a b : Addr} {H H' : Hp} (h : Bt b b H H') : Bt a b H H' := ⟨h.tk, fun x o e _ n2 => h.kp x o e n2 n2⟩
theorem app_step {K : PySem.W.Frag} {H : Hp} {a tq l2 : Addr} {ua : List V} {la : List Term} {vf : V} {lot : Lot} {fn : Num} (ha : H a = some (.lst ua)) (hla : TermsAt K H ua la) (htq : H tq = none) (hl2 : H l2 = some (.tup (lot.map V.str))) (hf : NumAt K H vf fn) :
    (upd (upd H tq (.tup [.ref l2, vf])) a (.lst (ua ++ [.ref tq]))) a = some (.lst (ua ++ [.ref tq])) ∧ TermsAt K (upd (upd H tq (.tup [.ref l2, vf])) a (.lst (ua ++ [.ref tq]))) (ua ++ [.ref tq]) (la ++ [(lot, fn)]) ∧ Bt a a H (upd (upd H tq (.tup [.ref l2, vf])) a (.lst (ua ++ [.ref tq]))) := by
  have s := same_upd (o := .tup [.ref l2, vf]) htq
  have tk1 : TK (upd H tq (.tup [.ref l2, vf])) (upd (upd H tq (.tup [.ref l2, vf])) a (.lst (ua ++ [.ref tq]))) := .lst (s _ _ ha)
  refine ⟨upd_same, paired_snoc (TermsAt.keep ((TK.of s).trans tk1) hla) (TermAt.keep tk1 ⟨tq, l2, vf, rfl, SqT.of upd_same, s _ _ hl2, hf.keep (.of s)⟩), (TK.of s).trans tk1, fun x o e n1 _ => ?_⟩
  rw [upd_ne n1]
  exact s _ _ e
theorem ins_step {K : PySem.W.Frag} {H : Hp} {a tq l2 : Addr} {ua : List V} {la : List Term} {vf : V} {lot : Lot} {fn : Num} (ha : H a = some (.lst ua)) (hla : TermsAt K H ua la) (htq : H tq = none) (hl2 : H l2 = some (.tup (lot.map V.str))) (hf : NumAt K H vf fn) :
    (upd (upd H tq (.tup [.ref l2, vf])) a (.lst (.ref tq :: ua))) a = some (.lst (.ref tq :: ua)) ∧ TermsAt K (upd (upd H tq (.tup [.ref l2, vf])) a (.lst (.ref tq :: ua))) (.ref tq :: ua) ((lot, fn) :: la) ∧ Bt a a H (upd (upd H tq (.tup [.ref l2, vf])) a (.lst (.ref tq :: ua))) := by
  have s := same_upd (o := .tup [.ref l2, vf]) htq
  have tk1 : TK (upd H tq (.tup [.ref l2, vf])) (upd (upd H tq (.tup [.ref l2, vf])) a (.lst (.ref tq :: ua))) := .lst (s _ _ ha)
  refine ⟨upd_same, .cons (TermAt.keep tk1 ⟨tq, l2, vf, rfl, SqT.of upd_same, s _ _ hl2, hf.keep (.of s)⟩) (TermsAt.keep ((TK.of s).trans tk1) hla), (TK.of s).trans tk1, fun x o e n1 _ => ?_⟩
  rw [upd_ne n1]
  exact s _ _ e
section
variable {P : Program} {w : World} {K : PySem.W.Frag} {mg : Str → Option Value} {base : Heap}
def spFreeSides (K : PySem.W.Frag) : Sp := fun vs H Q _ => ∃ (d g c l : Addr) (n : Nat) (us : List V) (taps : Lot) (L : List Term), vs = [.ref d, .ref l] ∧ St H d g c (n + 20) ∧ SqT K H l us ∧ TermsAt K H us L ∧ RightC taps L ∧ (∀ t ∈ L, t.2 ∈ weights) ∧
  ∀ ls rs H', FreeOk taps L ls rs → St H' d g c n → Kp d g H H' → Q (.str (sideText ls ++ GE ++ sideText rs)) H'
theorem sc_cl_free_sides : FnScope ["state", "terms", "left", "right", "lot", "weight", "far", "here", "there", "size"] ["state", "terms"] (defScope sL_cl_free_sides) := ⟨rfl, rfl, rfl, by decide +kernel, rfl, by decide +kernel, by decide +kernel⟩
theorem ok_cl_free_sides (D : Dn K mg "_law_cl_free_sides" sL_cl_free_sides) (B0 : Ok P w K mg base L2.CX0 2 "_law_draw" ["state", "room"] spDraw) (B1 : Ok P w K mg base L2.CX0 3 "_law_pick" ["state", "some"] (spPick K)) (B2 : Ok P w K mg base L2.CX0 3 "_law_shuffled" ["state", "some"] (spShuffled K))
    (B3 : Ok P w K mg base L2.CX0 2 "_law_ct_less" ["one", "other"] (spLess K)) (B4 : Ok P w K mg base L2.CX0 3 "_law_ct_times" ["one", "other"] (spTimes K)) (B5 : Ok P w K mg base L2.CX0 3 "_law_ct_plus" ["one", "other"] (spPlus K)) (B6 : Ok P w K mg base L2.CX0 2 "_law_cl_free_side" ["state", "pairs"] (spFreeSide K))
    (h_list : mg "list" = none) : Ok P w K mg base L2.CX0 4 "_law_cl_free_sides" ["state", "terms"] (spFreeSides K) := by
  obtain ⟨_, _, g_draw, k_draw, b_draw, F_draw⟩ := B0.ex
  obtain ⟨_, _, g_pick, k_pick, b_pick, F_pick⟩ := B1.ex
  obtain ⟨_, _, g_shuffled, k_shuffled, b_shuffled, F_shuffled⟩ := B2.ex
  obtain ⟨_, _, g_ct_less, k_ct_less, b_ct_less, F_ct_less⟩ := B3.ex
  obtain ⟨_, _, g_ct_times, k_ct_times, b_ct_times, F_ct_times⟩ := B4.ex
  obtain ⟨_, _, g_ct_plus, k_ct_plus, b_ct_plus, F_ct_plus⟩ := B5.ex
  obtain ⟨_, _, g_cl_free_side, k_cl_free_side, b_cl_free_side, F_cl_free_side⟩ := B6.ex
  refine Ok.mk0 D sc_cl_free_sides (fun vs H Q E h => ?_) (fun _ _ _ _ _ _ us hl => match us, hl with | [_, _], _ => rfl) (fun f cdv A outer s H vs Q E hr h => ?_)
  · obtain ⟨d, g, c, l, n, us, taps, L, rfl, _⟩ := h
    rfl
  obtain ⟨d, g, c, l, n, us, taps, L, rfl, hS, hl, hts, rc, hw, k⟩ := h
  have nd := sc_cl_free_sides.nd
  have hu64 := hr.units
  have hr2 := hr.mono (show 2 ≤ 3 by decide)
  refine ⟨_, (pss_cons (ps_par (i := 2) (j := 3) (by rfl) nd rfl rfl (by decide) rfl rfl (pa_cons (pe_lst pa_nil) (pa_cons (pe_lst pa_nil) pa_nil)) (by rfl))
  (pss_cons (ps_for PassesOwn.never rfl (pi_list (pe_call F_shuffled hr rfl g_shuffled k_shuffled b_shuffled .nil pass0 (pa_cons (pv 0) (pa_cons (pe_callTy call_list_of (by rfl) h_list (by decide +kernel) (pa_cons (pv 1) pa_nil)) pa_nil)))) (pg_tup (by rfl) (pgs_cons (pg_name (i := 4) nd rfl (Or.inl rfl)) (pgs_cons (pg_name (i := 5) nd rfl (Or.inl rfl)) pgs_nil)))
    (pss_cons (ps_set (i := 6) nd rfl (Or.inl rfl) (pe_call F_pick hr rfl g_pick k_pick b_pick .nil pass0 (pa_cons (pv 0) (pa_cons (pe_lst (pa_cons pe_int (pa_cons pe_int (pa_cons pe_int (pa_cons (pe_tup (pa_cons pe_int (pa_cons pe_int pa_nil))) (pa_cons pe_int pa_nil)))))) pa_nil))))
    (C8.pss_cut (ps_asg (pe_ifExp (pt_val (pe_call F_ct_less hr2 rfl g_ct_less k_ct_less b_ct_less .nil pass0 (pa_cons pe_int (pa_cons (pv 5) pa_nil)))) (pe_tup (pa_cons (pv 2) (pa_cons (pv 3) pa_nil))) (pe_tup (pa_cons (pv 3) (pa_cons (pv 2) pa_nil)))) (pg_tup (by rfl) (pgs_cons (pg_name (i := 7) nd rfl (Or.inl rfl)) (pgs_cons (pg_name (i := 8) nd rfl (Or.inl rfl)) pgs_nil))))
    (C8.pss_cut (ps_set (i := 9) nd rfl (Or.inl rfl) (pe_ifExp (pt_val (pe_call F_ct_less hr2 rfl g_ct_less k_ct_less b_ct_less .nil pass0 (pa_cons pe_int (pa_cons (pv 5) pa_nil)))) (pv 5) (pe_call F_ct_times hr rfl g_ct_times k_ct_times b_ct_times .nil pass0 (pa_cons (pe_un un_neg pe_int) (pa_cons (pv 5) pa_nil)))))
    (pss_one (ps_if (PW.pt (pw_and (pt_cmpR (op_neD hu64) (pv 6) pe_int (nomark _)) (pw_and1 (pt_cmpR op_eq (pe_call F_draw hr2 rfl g_draw k_draw b_draw .nil pass0 (pa_cons (pv 0) (pa_cons pe_int pa_nil))) pe_int (nomark _)))))
      (pss_cons (ps_expr (pe_bm PySem.F.plainAttrs_list PySem.F.slot_list_append PySem.F.type_list_append mt_append (pv 7) (pa_cons (pe_tup (pa_cons (pv 4) (pa_cons (pv 6) pa_nil))) pa_nil)))
      (pss_cons (ps_expr (pe_bm PySem.F.plainAttrs_list PySem.F.slot_list_append PySem.F.type_list_append mt_append (pv 7) (pa_cons (pe_tup (pa_cons (pv 4) (pa_cons (pv 9) pa_nil))) pa_nil)))
      (pss_one (ps_expr (pe_bm PySem.F.plainAttrs_list PySem.F.slot_list_append PySem.F.type_list_append mt_append (pv 8) (pa_cons (pe_tup (pa_cons (pv 4) (pa_cons (pv 6) pa_nil))) pa_nil))))))
      (pss_one (ps_if (pt_cmpR (op_neD hu64) (pv 6) pe_int (nomark _))
        (pss_cons (ps_expr (pe_bm PySem.F.plainAttrs_list PySem.F.slot_list_append PySem.F.type_list_append mt_append (pv 7) (pa_cons (pe_tup (pa_cons (pv 4) (pa_cons (pe_call F_ct_plus hr rfl g_ct_plus k_ct_plus b_ct_plus .nil pass0 (pa_cons (pv 9) (pa_cons (pv 6) pa_nil))) pa_nil))) pa_nil)))
        (pss_one (ps_expr (pe_bm PySem.F.plainAttrs_list PySem.F.slot_list_insert PySem.F.type_list_insert mt_insert (pv 8) (pa_cons pe_int (pa_cons (pe_tup (pa_cons (pv 4) (pa_cons (pv 6) pa_nil))) pa_nil))))))
        (pss_one (ps_expr (pe_bm PySem.F.plainAttrs_list PySem.F.slot_list_append PySem.F.type_list_append mt_append (pv 7) (pa_cons (pe_tup (pa_cons (pv 4) (pa_cons (pv 9) pa_nil))) pa_nil))))))))))))
  (pss_one (ps_ret (pe_op op_add_str (pe_op op_add_str (pe_call F_cl_free_side hr2 rfl g_cl_free_side k_cl_free_side b_cl_free_side .nil pass0 (pa_cons (pv 0) (pa_cons (pv 2) pa_nil))) pe_str) (pe_call F_cl_free_side hr2 rfl g_cl_free_side k_cl_free_side b_cl_free_side .nil pass0 (pa_cons (pv 0) (pa_cons (pv 3) pa_nil)))))))), ?_⟩
  have big : 100 ≤ sizeLine := by rw [sizeLine_eq]; decide
  have len := paired_len hts
  have few := rc.few
  refine ⟨by show 0 ≤ sizeLine; omega, fun F1 hF1 => ⟨by show 0 ≤ sizeLine; omega, fun F2 hF2 => ⟨_, _, rfl, ?_⟩⟩⟩
  have s1 := same_upd (o := .lst []) hF1
  have s2 := same_upd (o := .lst []) hF2
  have n21 : F2 ≠ F1 := fun e => by rw [e, upd_same] at hF2; cases hF2
  have hF20 : H F2 = none := by rw [upd_ne n21] at hF2; exact hF2
  have e1 : (upd (upd H F1 (.lst [])) F2 (.lst [])) F1 = some (.lst []) := by rw [upd_ne n21.symm]; exact upd_same
  have e2 : (upd (upd H F1 (.lst [])) F2 (.lst [])) F2 = some (.lst []) := upd_same
  have s12 := s1.trans s2
  have off1 := hS.off hF1
  have off2 := hS.off hF20
  have offc1 := hS.offc hF1
  have offc2 := hS.offc hF20
  have S2 := hS.same s12
  generalize upd (upd H F1 (.lst [])) F2 (.lst []) = H2 at e1 e2 s12 S2 ⊢
  refine ⟨_, rfl, _, rfl, l, us, rfl, .inr (same_seqT s12 hl), fun q0 hq0 => ?_⟩
  have s3 := same_upd (o := .lst us) hq0
  have s13 := s12.trans s3
  refine ⟨d, g, c, q0, n + 10, us, L.map termD, rfl, (S2.same s3).less (by omega), SqL.of upd_same, ?_, ?_, by omega, fun q ys H3 pm hq hq3 S3 kp3 => ?_⟩
  · exact TermsAt.dtAll (TermsAt.keep (.of s13) hts)
  · intro x hx
    obtain ⟨t, ht, rfl⟩ := List.mem_map.mp hx
    have q := term_sh (t := t) (names_plain (lot_few (rc.lots t ht)).1)
    exact ⟨q.1, by have := q.2; omega⟩
  have S2' := S2.same s3
  have offqq := S2'.off hq
  have tk03 : TK H H3 := (TK.of s13).trans (kp3.tk S2')
  obtain ⟨L', pL, hys⟩ := paired_perm pm L (TermsAt.keep tk03 hts)
  have l5 : L'.length ≤ 5 := by rw [pL.length_eq]; exact few
  have ylen := paired_len hys
  have d1 : d ≠ F1 := off1.2.symm
  have d2 : d ≠ F2 := off2.2.symm
  have g1 : g ≠ F1 := off1.1.symm
  have g2 : g ≠ F2 := off2.1.symm
  have c1 : c ≠ F1 := offc1.symm
  have c2 : c ≠ F2 := offc2.symm
  have e13 := kp3 _ _ (s3 _ _ e1) d1.symm g1.symm
  have e23 := kp3 _ _ (s3 _ _ e2) d2.symm g2.symm
  have q1 : q ≠ F1 := fun e => by rw [e, s3 _ _ e1] at hq; cases hq
  have q2 : q ≠ F2 := fun e => by rw [e, s3 _ _ e2] at hq; cases hq
  have kp03 : Kp d g H H3 := (Kp.of s13).trans kp3
  clear kp3 S2 S2' s3 s13 hq0 hq e1 e2 s12 hF2 s1 s2 pm
  let Pv : Nat → L2.St → Hp → Prop := fun i σ H' => ∃ (o4 o5 o6 o7 o8 o9 : Option V) (u1 u2 : List V) (ls rs : List Term), σ = [some (.ref d), some (.ref l), some (.ref F1), some (.ref F2), o4, o5, o6, o7, o8, o9] ∧ H' F1 = some (.lst u1) ∧ H' F2 = some (.lst u2) ∧ TermsAt K H' u1 ls ∧ TermsAt K H' u2 rs ∧ (∀ t ∈ ls ++ rs, Good taps t) ∧
    (∀ x, sumV ls x - sumV rs x = sumV (L'.take i) x) ∧ ls.length + rs.length ≤ 3 * i ∧ St H' d g c (n + (10 - 2 * i)) ∧ Kp d g H H' ∧ H' q = some (.lst ys) ∧ TK H3 H'
  refine ⟨q, rfl, ⟨_, SqL.of hq3⟩, for_list Pv ⟨none, none, none, none, none, none, [], [], [], [], rfl, e13, e23, .nil, .nil, (fun t ht => by simp at ht), (fun x => ?_), by simp, S3, kp03, hq3, .of (Same.refl _)⟩ (fun i σ H' _ ⟨_, _, _, _, _, _, _, _, _, _, _, _, _, _, _, _, _, _, _, _, hq', _⟩ => SqL.of hq') ?_ ?_⟩
  · rw [List.take_zero]
    show (0 : Rat) - 0 = 0
    grind
  · rintro i x σ H4 hx ⟨o4, o5, o6, o7, o8, o9, u1, u2, ls, rs, rfl, h41, h42, hls, hrs, gd, sm, fw, S4, kp4, hq4, tk4⟩
    obtain ⟨tm, htm, hterm⟩ := L2.paired_get hys hx
    have mt := List.mem_of_getElem? htm
    have il : i < L'.length := (List.getElem?_eq_some_iff.mp htm).1
    have mL := pL.mem_iff.mp mt
    have okt := rc.canon.ok tm mL
    have lot := rc.lots tm mL
    have llen := (rc.fit tm mL).2.2
    have wt := hw tm mL
    obtain ⟨_, wnz, _, _, wnb⟩ := weights_ok _ wt
    obtain ⟨qq, l2, u, rfl, hqq, hl2, hn⟩ := hterm.keep tk4
    refine ⟨qq, _, rfl, hqq, rfl, _, _, rfl, _, _, rfl, rfl, ?_⟩
    refine ⟨_, rfl, by show 2 ≤ sizeLine; omega, fun p1 hp1 => ⟨by show 5 ≤ sizeLine; omega, fun lq hlq => ?_⟩⟩
    have t1 := same_upd (o := .tup [.int 1, .int 2]) hp1
    have t2 := same_upd (o := .lst [.int 0, .int 0, .int 1, .ref p1, .int 2]) hlq
    have o1 := t2 _ _ (upd_same (H := H4) (a := p1) (o := .tup [.int 1, .int 2]))
    have S4' := S4.same (t1.trans t2)
    have offq := (S4.same t1).off hlq
    refine ⟨d, g, c, lq, n + (9 - 2 * i), _, rfl, S4'.less (by omega), SqL.of upd_same, offq.1, by simp, by simp, fun j vf H5 hvf S5 kp5 => ?_⟩
    have tk45 : TK H4 H5 := (TK.of (t1.trans t2)).trans (kp5.tk S4')
    have k45 : ∀ x o, H4 x = some o → x ≠ d → x ≠ g → H5 x = some o := fun x o e n1 n2 => kp5 x o ((t1.trans t2) x o e) n1 n2
    have nums : NumsL K H5 [.int 0, .int 0, .int 1, .ref p1, .int 2] farsAll := .cons rfl (.cons rfl (.cons rfl (.cons ⟨p1, rfl, SqT.of ((kp5.tk S4').1 _ _ o1)⟩ (.cons rfl .nil))))
    obtain ⟨fr, hfr, hfn⟩ := nums.get hvf
    have mfr := List.mem_of_getElem? hfr
    have h51 := k45 _ _ h41 d1.symm g1.symm
    have h52 := k45 _ _ h42 d2.symm g2.symm
    have hq5 : H5 q = some (.lst ys) := k45 _ _ hq4 offqq.2 offqq.1
    have tk35 : TK H3 H5 := tk4.trans tk45
    have kp05 : Kp d g H H5 := kp4.trans ((Kp.of (t1.trans t2)).trans kp5)
    have hls5 := TermsAt.keep tk45 hls
    have hrs5 := TermsAt.keep tk45 hrs
    have hl25 := tk45.1 _ _ hl2
    have hn5 := hn.keep tk45
    have bz : Bits (.w 0) 4400 := ⟨Nat.pow_pos (by decide), Nat.one_lt_two_pow (by decide)⟩
    have bn : Bits tm.2 4400 := (nb_bits _).mono (by omega)
    have ec : decide ((Num.w 0).top * tm.2.low < tm.2.top * (Num.w 0).low) = decide (0 < tm.2.top) := by
      show decide ((0 : Int) * tm.2.low < tm.2.top * 1) = _
      rw [Int.zero_mul, Int.mul_one]
    have two : 2 ≤ sizeLine := by omega
    refine ⟨fun σ H' => ∃ a b : Addr, σ = [some (.ref d), some (.ref l), some (.ref F1), some (.ref F2), some (.ref l2), some u, some vf, some (.ref a), some (.ref b), o9] ∧ Same H5 H' ∧ ((0 < tm.2.top ∧ tm.2 ∈ smalls ∧ a = F1 ∧ b = F2) ∨ (¬ 0 < tm.2.top ∧ turnN tm.2 ∈ smalls ∧ a = F2 ∧ b = F1)), ?_, ?_⟩
    · refine ⟨_, rfl, .int 0, u, .w 0, tm.2, rfl, rfl, hn5, bz, bn, _, rfl, ?_⟩
      rw [ec]
      rcases small_of wt with ⟨tp, ts⟩ | ⟨tn, ts⟩
      · exact iteE (decide_eq_true tp) ⟨_, rfl, _, rfl, two, fun pt hpt => ⟨pt, _, rfl, SqT.of upd_same, rfl, _, _, rfl, _, _, rfl, rfl, F1, F2, rfl, same_upd hpt, .inl ⟨tp, ts, rfl, rfl⟩⟩⟩
      · exact iteG (decide_eq_false (by omega)) ⟨_, rfl, _, rfl, two, fun pt hpt => ⟨pt, _, rfl, SqT.of upd_same, rfl, _, _, rfl, _, _, rfl, rfl, F2, F1, rfl, same_upd hpt, .inr ⟨by omega, ts, rfl, rfl⟩⟩⟩
    · rintro σ H6 ⟨a, b, rfl, s6, sgn⟩
      refine ⟨fun σ H' => ∃ (vs : V) (sz : Num), σ = [some (.ref d), some (.ref l), some (.ref F1), some (.ref F2), some (.ref l2), some u, some vf, some (.ref a), some (.ref b), some vs] ∧ Same H6 H' ∧ NumAt K H' vs sz ∧ sz ∈ smalls ∧ ((0 < tm.2.top ∧ val tm.2 = val sz) ∨ (¬ 0 < tm.2.top ∧ val tm.2 = - val sz)), ?_, ?_⟩
      · have hn6 := hn5.keep (.of s6)
        refine ⟨_, rfl, .int 0, u, .w 0, tm.2, rfl, rfl, hn6, bz, bn, _, rfl, ?_⟩
        rw [ec]
        rcases sgn with ⟨tp, ts, rfl, rfl⟩ | ⟨tn, ts, rfl, rfl⟩
        · exact iteE (decide_eq_true tp) ⟨_, rfl, u, tm.2, rfl, Same.refl _, hn6, ts, .inl ⟨tp, rfl⟩⟩
        · refine iteG (decide_eq_false tn) ⟨_, rfl, _, rfl, .int (-1), u, .w (-1), tm.2, rfl, rfl, hn6, rfl, okt, bits_neg.mono (by decide), bn, fun v7 H7 s7 hv7 => ⟨v7, turnN tm.2, rfl, s7, ?_, ts, .inr ⟨tn, ?_⟩⟩⟩
          · rw [← times_neg okt]
            exact hv7
          · rw [val_turn]
            grind
      · rintro σ H7 ⟨vs, sz, rfl, s7, hvs, msz, ev⟩
        have s67 := s6.trans s7
        have hq7 := s67 _ _ hq5
        have S7 := S5.same s67
        have kp07 : Kp d g H H7 := kp05.trans (Kp.of s67)
        have tk37 : TK H3 H7 := tk35.trans (.of s67)
        have hl27 := s67 _ _ hl25
        have hfn7 := hfn.keep (.of s67)
        have gsz := good_of (List.all_eq_true.mp smalls_good sz msz)
        obtain ⟨la, lb, ua, ub, ha7, hb7, hla7, hlb7, nab, naq, nbq, da, db, ga, gb, ca, cb, na, nb', gab, lab, FIN⟩ : ∃ (la lb : List Term) (ua ub : List V), H7 a = some (.lst ua) ∧ H7 b = some (.lst ub) ∧ TermsAt K H7 ua la ∧ TermsAt K H7 ub lb ∧ a ≠ b ∧ q ≠ a ∧ q ≠ b ∧ d ≠ a ∧ d ≠ b ∧ g ≠ a ∧ g ≠ b ∧ c ≠ a ∧ c ≠ b ∧ H a = none ∧ H b = none ∧ (∀ t ∈ la ++ lb, Good taps t) ∧ la.length + lb.length ≤ 3 * i ∧
            ∀ (la' lb' : List Term) (ua' ub' : List V) (H8 : Hp), H8 a = some (.lst ua') → H8 b = some (.lst ub') → TermsAt K H8 ua' la' → TermsAt K H8 ub' lb' → (∀ t ∈ la' ++ lb', Good taps t) → (∀ x, sumV la' x - sumV lb' x = sumV la x - sumV lb x + if tm.1 = x then val sz else 0) → la'.length + lb'.length ≤ la.length + lb.length + 3 → St H8 d g c (n + (10 - 2 * (i + 1))) → Kp d g H H8 → H8 q = some (.lst ys) → TK H3 H8 →
              Pv (i + 1) [some (.ref d), some (.ref l), some (.ref F1), some (.ref F2), some (.ref l2), some u, some vf, some (.ref a), some (.ref b), some vs] H8 := by
          have ets : ∀ x, sumV (L'.take (i + 1)) x = sumV (L'.take i) x + if tm.1 = x then val tm.2 else 0 := fun x => by
            rw [List.take_add_one, htm]
            exact sumV_snoc _ _ _
          rcases sgn with ⟨tp, ts, rfl, rfl⟩ | ⟨tn, ts, rfl, rfl⟩
          · refine ⟨ls, rs, u1, u2, s67 _ _ h51, s67 _ _ h52, TermsAt.keep (.of s67) hls5, TermsAt.keep (.of s67) hrs5, n21.symm, q1, q2, d1, d2, g1, g2, c1, c2, hF1, hF20, gd, fw, fun la' lb' ua' ub' H8 z1 z2 z3 z4 z5 z6 z7 z8 z9 z10 z11 => ⟨_, _, _, _, _, _, ua', ub', la', lb', rfl, z1, z2, z3, z4, z5, fun x => ?_, by omega, z8, z9, z10, z11⟩⟩
            have e : val tm.2 = val sz := by
              rcases ev with ⟨_, e⟩ | ⟨e, _⟩
              · exact e
              · exact absurd tp e
            rw [z6 x, sm x, ets x, e]
          · refine ⟨rs, ls, u2, u1, s67 _ _ h52, s67 _ _ h51, TermsAt.keep (.of s67) hrs5, TermsAt.keep (.of s67) hls5, n21, q2, q1, d2, d1, g2, g1, c2, c1, hF20, hF1, (fun t ht => gd t (by rcases List.mem_append.mp ht with w | w; exact List.mem_append_right _ w; exact List.mem_append_left _ w)), by omega, fun la' lb' ua' ub' H8 z1 z2 z3 z4 z5 z6 z7 z8 z9 z10 z11 => ⟨_, _, _, _, _, _, ub', ua', lb', la', rfl, z2, z1, z4, z3, (fun t ht => z5 t (by rcases List.mem_append.mp ht with w | w; exact List.mem_append_right _ w; exact List.mem_append_left _ w)), fun x => ?_, by omega, z8, z9, z10, z11⟩⟩
            have e : val tm.2 = - val sz := by
              rcases ev with ⟨e, _⟩ | ⟨_, e⟩
              · exact absurd e tn
              · exact e
            have w6 := z6 x
            have w7 := sm x
            rw [ets x, e]
            split at w6 <;> rename_i hx2
            · rw [if_pos hx2]; grind
            · rw [if_neg hx2]; grind
        have lua := paired_len hla7
        have lub := paired_len hlb7
        have sz15 : ∀ m : Nat, m ≤ 20 → m < sizeLine := fun m h => by omega
        have sgood : Good taps (tm.1, sz) := good_term gsz lot llen
        have goods : ∀ (xs ys : List Term), (∀ t ∈ xs ++ ys, Good taps t) → ∀ t ∈ (la ++ xs) ++ (ys ++ lb), Good taps t := fun xs ys h t ht => by
          rcases List.mem_append.mp ht with w | w
          · rcases List.mem_append.mp w with w | w
            · exact gab t (List.mem_append_left _ w)
            · exact h t (List.mem_append_left _ w)
          · rcases List.mem_append.mp w with w | w
            · exact h t (List.mem_append_right _ w)
            · exact gab t (List.mem_append_right _ w)
        have kpB : ∀ {H8 H9 : Hp}, Kp d g H H8 → Bt a b H8 H9 → Kp d g H H9 := fun k1 bt x o e n1 n2 => bt.kp x o (k1 x o e n1 n2) (fun w => by rw [w, na] at e; cases e) (fun w => by rw [w, nb'] at e; cases e)
        refine ⟨_, rfl, fr.data, .int 0, hfn7.dt.dp, .int 0, shaped_num fr, shaped_int 0, _, rfl, ?_⟩
        rw [eqv_num0]
        rcases far_cases mfr with f0 | ff
        · have enz : nz fr = false := decide_eq_false fun w => w f0
          rw [enz]
          refine iteF ⟨_, rfl, fr.data, .int 0, hfn7.dt.dp, .int 0, shaped_num fr, shaped_int 0, _, rfl, ?_⟩
          rw [eqv_num0, enz]
          refine iteF ⟨_, rfl, .inl ⟨rfl, _, SqL.of ha7⟩, _, rfl, _, rfl, two, fun tq htq => ⟨a, ua, _, rfl, rfl, (same_upd htq) _ _ ha7, sz15 _ (by omega), ?_⟩⟩
          obtain ⟨w1, w2, w3⟩ := app_step (lot := tm.1) ha7 hla7 htq hl27 hvs
          refine FIN (la ++ [(tm.1, sz)]) lb _ ub _ w1 (w3.kp _ _ hb7 nab.symm nab.symm) w2 (TermsAt.keep w3.tk hlb7) (fun t ht => goods [(tm.1, sz)] [] (fun t ht => by simp at ht; rw [ht]; exact sgood) t (by simpa using ht)) (fun x => ?_) (by simp; omega) ((S7.bt w3 da da ga ga ca ca).less (by omega)) (kpB kp07 w3.wide) (w3.kp _ _ hq7 naq naq) (tk37.trans w3.tk)
          rw [sumV_snoc]
          show _ + (if tm.1 = x then val sz else 0) - _ = _
          split <;> grind
        · have gfr := good_of (List.all_eq_true.mp fars_good fr ff)
          have fgood : Good taps (tm.1, fr) := good_term gfr lot llen
          have fnz : fr ≠ .w 0 := fgood.neat.pos
          have enz : nz fr = true := decide_eq_true fnz
          rw [enz]
          refine iteT ⟨_, rfl, d, g, c, n + (8 - 2 * i), 2, rfl, S7.less (by omega), by decide, by decide +kernel, fun z H8 z0 z2 S8 kp8 => ⟨rfl, _, rfl, ?_⟩⟩
          have tk78 := kp8.tk S7
          have ha8 := kp8 _ _ ha7 da.symm ga.symm
          have hb8 := kp8 _ _ hb7 db.symm gb.symm
          have hq8 := kp8 _ _ hq7 offqq.2 offqq.1
          have hla8 := TermsAt.keep tk78 hla7
          have hlb8 := TermsAt.keep tk78 hlb7
          have hl28 := tk78.1 _ _ hl27
          have hfn8 := hfn7.keep tk78
          have hvs8 := hvs.keep tk78
          have tk38 := tk37.trans tk78
          have kp08 := kp07.trans kp8
          rw [deq_int]
          by_cases hz : z = 1
          · rw [decide_eq_true hz]
            refine iteT ⟨_, rfl, .inl ⟨rfl, _, SqL.of ha8⟩, _, rfl, _, rfl, two, fun t9 ht9 => ⟨a, ua, _, rfl, rfl, (same_upd ht9) _ _ ha8, sz15 _ (by omega), ?_⟩⟩
            obtain ⟨w1, w2, w3⟩ := app_step (lot := tm.1) ha8 hla8 ht9 hl28 hfn8
            generalize upd (upd H8 t9 (.tup [.ref l2, vf])) a (.lst (ua ++ [.ref t9])) = H9 at w1 w2 w3 ⊢
            have hl29 := w3.tk.1 _ _ hl28
            have hvs9 := hvs8.keep w3.tk
            refine ⟨_, rfl, .inl ⟨rfl, _, SqL.of w1⟩, _, rfl, _, rfl, two, fun t10 ht10 => ⟨a, ua ++ [.ref t9], _, rfl, rfl, (same_upd ht10) _ _ w1, sz15 _ (by rw [List.length_append]; show ua.length + 1 ≤ _; omega), ?_⟩⟩
            obtain ⟨y1, y2, y3⟩ := app_step (lot := tm.1) w1 w2 ht10 hl29 hvs9
            generalize upd (upd H9 t10 (.tup [.ref l2, vs])) a (.lst (ua ++ [.ref t9] ++ [.ref t10])) = H10 at y1 y2 y3 ⊢
            have b13 := w3.trans y3
            have hb10 := b13.kp _ _ hb8 nab.symm nab.symm
            have hlb10 := TermsAt.keep b13.tk hlb8
            have hl210 := y3.tk.1 _ _ hl29
            have hfn10 := hfn8.keep b13.tk
            refine ⟨_, rfl, .inl ⟨rfl, _, SqL.of hb10⟩, _, rfl, _, rfl, two, fun t11 ht11 => ⟨b, ub, _, rfl, rfl, (same_upd ht11) _ _ hb10, sz15 _ (by omega), ?_⟩⟩
            obtain ⟨x1, x2, x3⟩ := app_step (lot := tm.1) hb10 hlb10 ht11 hl210 hfn10
            have ball := b13.wide.trans (x3.wide2 (a := a))
            refine FIN (la ++ [(tm.1, fr)] ++ [(tm.1, sz)]) (lb ++ [(tm.1, fr)]) _ _ _ (x3.kp _ _ y1 nab nab) x1 (TermsAt.keep x3.tk y2) x2 (fun t ht => ?_) (fun x => ?_) (by simp; omega) ((S8.bt ball da db ga gb ca cb).less (by omega)) (kpB kp08 ball) (ball.kp _ _ hq8 naq nbq) (tk38.trans ball.tk)
            · rcases List.mem_append.mp ht with w | w
              · rcases List.mem_append.mp w with w | w
                · rcases List.mem_append.mp w with w | w
                  · exact gab t (List.mem_append_left _ w)
                  · rw [List.mem_singleton.mp w]; exact fgood
                · rw [List.mem_singleton.mp w]; exact sgood
              · rcases List.mem_append.mp w with w | w
                · exact gab t (List.mem_append_right _ w)
                · rw [List.mem_singleton.mp w]; exact fgood
            · rw [sumV_snoc, sumV_snoc, sumV_snoc]
              show _ + (if tm.1 = x then val fr else 0) + (if tm.1 = x then val sz else 0) - (_ + if tm.1 = x then val fr else 0) = _
              split <;> grind
          · rw [decide_eq_false hz]
            refine iteF ⟨_, rfl, fr.data, .int 0, hfn8.dt.dp, .int 0, shaped_num fr, shaped_int 0, _, rfl, ?_⟩
            rw [eqv_num0, enz]
            have bsz : Bits sz 4400 := (nb_bits _).mono (by have := (smalls_ok sz msz).2; omega)
            have bfr : Bits fr 4400 := (nb_bits _).mono (by have := of_decide_eq_true (List.all_eq_true.mp fars_bits fr ff); omega)
            refine iteT ⟨_, rfl, .inl ⟨rfl, _, SqL.of ha8⟩, _, rfl, _, rfl, _, rfl, vs, vf, sz, fr, rfl, hvs8, hfn8, gsz.ok, gfr.ok, bsz, bfr, fun vp H9 s9 hvp => ⟨two, fun t9 ht9 => ⟨a, ua, _, rfl, rfl, (s9.trans (same_upd ht9)) _ _ ha8, sz15 _ (by omega), ?_⟩⟩⟩
            have gsum := good_of (List.all_eq_true.mp (List.all_eq_true.mp sums_good sz msz) fr ff)
            obtain ⟨w1, w2, w3⟩ := app_step (lot := tm.1) (s9 _ _ ha8) (TermsAt.keep (.of s9) hla8) ht9 (s9 _ _ hl28) hvp
            have b3 := (Bt.of (a := a) (b := a) s9).trans w3
            generalize upd (upd H9 t9 (.tup [.ref l2, vp])) a (.lst (ua ++ [.ref t9])) = H10 at w1 w2 w3 b3 ⊢
            have hb10 := b3.kp _ _ hb8 nab.symm nab.symm
            have hlb10 := TermsAt.keep b3.tk hlb8
            have hl210 := b3.tk.1 _ _ hl28
            have hfn10 := hfn8.keep b3.tk
            refine ⟨_, rfl, .inl ⟨rfl, _, SqL.of hb10⟩, _, rfl, _, rfl, two, fun t11 ht11 => ⟨b, ub, 0, _, rfl, rfl, (same_upd ht11) _ _ hb10, sz15 _ (by omega), by decide, by decide, ?_⟩⟩
            obtain ⟨x1, x2, x3⟩ := ins_step (lot := tm.1) hb10 hlb10 ht11 hl210 hfn10
            have ball := b3.wide.trans (x3.wide2 (a := a))
            show Pv (i + 1) _ _
            refine FIN (la ++ [(tm.1, plusN sz fr)]) ((tm.1, fr) :: lb) _ _ _ (x3.kp _ _ w1 nab nab) x1 (TermsAt.keep x3.tk w2) x2 (fun t ht => ?_) (fun x => ?_) (by simp; omega) ((S8.bt ball da db ga gb ca cb).less (by omega)) (kpB kp08 ball) (ball.kp _ _ hq8 naq nbq) (tk38.trans ball.tk)
            · rcases List.mem_append.mp ht with w | w
              · rcases List.mem_append.mp w with w | w
                · exact gab t (List.mem_append_left _ w)
                · rw [List.mem_singleton.mp w]; exact good_term gsum lot llen
              · rcases List.mem_cons.mp w with w | w
                · rw [w]; exact fgood
                · exact gab t (List.mem_append_right _ w)
            · rw [sumV_snoc]
              show _ + (if tm.1 = x then val (plusN sz fr) else 0) - ((if tm.1 = x then val fr else 0) + _) = _
              rw [val_plus gsz.ok gfr.ok]
              split <;> grind
  · rintro σ H4 ⟨o4, o5, o6, o7, o8, o9, u1, u2, ls, rs, rfl, h41, h42, hls, hrs, gd, sm, fw, S4, kp4, hq4, tk4⟩
    rw [ylen, List.take_length] at sm
    have fw15 : ls.length + rs.length ≤ 15 := by omega
    have l1 := paired_len hls
    have l2 := paired_len hrs
    have gl : ∀ t ∈ ls, Good taps t := fun t ht => gd t (List.mem_append_left _ ht)
    have gr : ∀ t ∈ rs, Good taps t := fun t ht => gd t (List.mem_append_right _ ht)
    have len1 := side_len (ts := ls) fun t ht => (gl t ht).fit
    have len2 := side_len (ts := rs) fun t ht => (gr t ht).fit
    have e4 : GE.length = 4 := rfl
    have fo : FreeOk taps L ls rs := ⟨gd, fw15, fun x => by rw [sm x, sumV_perm pL]⟩
    refine ⟨_, rfl, _, rfl, _, F1, u1, ls, taps, rfl, SqL.of h41, hls, gl, by omega, fun H5 s5 => ⟨_, GE, rfl, rfl, szl (by omega), _, rfl, _, rfl, _, F2, u2, rs, taps, rfl, SqL.of (s5 _ _ h42), TermsAt.keep (.of s5) hrs, gr, by omega, fun H6 s6 => ⟨_, _, rfl, rfl, by rw [append_len]; exact szl (by omega), ?_⟩⟩⟩
    exact k ls rs H6 fo ((S4.same (s5.trans s6)).less (by omega)) (kp4.trans (Kp.of (s5.trans s6)))
end
end K17
set_option maxHeartbeats 4000000
/-! a lambda that is handed on through a second def -/
namespace Hx
open PySem PySem.Spec PyProof.Rows L2 LamX
theorem un_deep {fs fs' : List Addr} {H H1 H2 : Hp} {h h1 h2 : Heap} (a : Un fs [] H H1 h h1) (b : Un fs' [] H1 H2 h1 h2) (sub : ∀ c o, h.get? c = some o → c ∈ fs' → c ∈ fs) : Un fs [] H H2 h h2 where
  keep := fun c ob q n hc hx => b.keep c ob (a.keep c ob q n hc hx) (a.free c ob q n hx) (fun z => hc (sub c ob q z)) hx
  slot := fun c ob q n hc hx => by
    obtain ⟨sl, e1⟩ := a.slot c ob q n hc hx
    obtain ⟨sl', e2⟩ := b.any e1 (a.free c ob q n hx) hx
    exact ⟨sl', e2⟩
  free := fun c ob q n hx => by
    obtain ⟨o', e1⟩ := a.there c ob q hx
    exact b.free c o' e1 (a.free c ob q n hx) hx
  there := fun c ob q hx => by
    obtain ⟨o', e1⟩ := a.there c ob q hx
    exact b.there c o' e1 hx
  tups := fun c xs q => b.tups c xs (a.tups c xs q)
  frzs := fun c o u q => b.frzs c o u (a.frzs c o u q)
  tbls := fun c ps q => by
    obtain ⟨m1, e1⟩ := a.tbls c ps q
    obtain ⟨m2, e2⟩ := b.tbls c _ e1
    exact ⟨m1 ++ m2, by rw [e2, Array.append_assoc]⟩
section
variable {X : Cx} {pins : List (Addr × Obj)} {σ : L2.St} {H : Hp} {s : Shared}
theorem fs_stack (I : Inv X pins σ H s) : ∀ b ∈ X.fs, b ∈ frs X.stack := fun b hb => by
  rcases I.ok.stk with e | ⟨e, hf⟩
  · rw [e]
    exact hb
  · rw [e]
    unfold frs
    rw [List.filterMap_cons, hf]
    exact List.mem_cons_of_mem _ hb
/-- what was made is kept while the next is evaluated -/
theorem pin_func {f : Addr} {o : Obj} {fd : FuncData} (I : Inv X pins σ H s) (hf : s.heap.get? f = some o) (hd : o.data = .func fd) (hn : H f = none) (hfr : f ∉ frs X.stack) : Inv X ((f, o) :: pins) σ H s := I.pins_of fun p hp => by
  rcases List.mem_cons.mp hp with e | e
  · rw [e]
    refine ⟨hf, hn, fun z => ?_, fun z => hfr (fs_stack I f z), fun v w => ?_⟩
    · obtain ⟨m, ⟨o', es, ep, ho', hd', _⟩, _⟩ := I.loc
      have z' : f = X.env.locals := z
      rw [z', ho'] at hf
      cases hf
      rw [hd'] at hd
      cases hd
    · rw [show (f, o).2.data = .func fd from hd] at w
      cases w
  · exact I.pin p (List.mem_append_right _ e)
theorem pin_off {p : Addr × Obj} (I : Inv X (p :: pins) σ H s) : Inv X pins σ H s := I.pins_of fun r hr => I.pin r (List.mem_append_right _ (List.mem_cons_of_mem _ hr))
/-- x(), in a def that got the lambda over others: Z is that def's context -/
theorem pe_actD {CXg : CXT} {Eg : XK} {Ng : List Str} {qg : Str} {sg : Scope} {g f c' : Addr} {cdg pm ctv : Value} {params : Arguments} {body : Expr} {scope : Scope} {k i : Nat} {a : Str} {pn : List (Addr × Obj)} {xe : Value → Shared → Prop} {W : WX} {E : XK} {tb : TE} {p1 p2 : Pos}
    {AY : Around} {stY : List Env} {sY : Shared} {HY : Hp}
    (I : Inv X pins σ H s) (L : LamS X.env.scope scope) (hf : s.heap.get? f = some (PySem.W.kla_obj "<lambda>" (X.env.qual ++ "<lambda>") params body scope (cloFrom X.env.cells scope.names []) pm c' ctv)) (hfn : H f = none) (hfr : f ∉ frs X.stack)
    (hbind : bindArgs (PySem.W.kla_fn "<lambda>" (X.env.qual ++ "<lambda>") params body scope (cloFrom X.env.cells scope.names []) pm (.ref c') ctv) ⟨[], []⟩ = pure [])
    (unY : Un (frs X.stack) [] H HY s.heap sY.heap) (sub : ∀ b o, s.heap.get? b = some o → b ∈ frs stY → b ∈ frs X.stack)
    (tk : Takes ((cxOf CXg X.prog X.w X.K X.mg X.base Ng qg sg g cdg AY stY sY HY Eg).tr pn xe) W) (hW : ∀ cls d σ' H', E cls d H' → W cls d σ' H') (hr : Room (k + 1) (AY.deeper (envOfC qg sg sY.heap.objs.size g cdg)))
    (hbody : ∀ (A : Around) (outer : List Env) (s : Shared) (H : Hp), Room k (A.deeper (lamEnv X scope s.heap.objs.size f c')) → PE (lamCx X A outer s H E scope f c') body tb)
    (hN : Ng[i]? = some a) (hv : Vis sg a) (hd : (a == ("__debug__" : Str)) = false := by decide) (hcd : (a == ("__classdict__" : Str)) = false := by decide) :
    PE ((cxOf CXg X.prog X.w X.K X.mg X.base Ng qg sg g cdg AY stY sY HY Eg).tr pn xe) (.Call (.Name a p1) [] [] p2)
      (fun σZ HZ Q => σZ[i]? = some (some (.ref f)) ∧ HZ c' = some (CodeO c' (X.env.qual ++ "<lambda>")) ∧ tb σ HZ Q) := by
  refine ⟨fun pinsZ sZ σZ HZ Q IZ h => ?_⟩
  obtain ⟨hs, hc, ht⟩ := h
  refine wpAny_Call_Name_kw (thn ((pe_var (pos := p1) (i := i) hN hv hd hcd).run pinsZ sZ σZ HZ (fun v H1 => v = .ref f ∧ H1 = HZ) IZ ⟨.ref f, hs, rfl, rfl⟩) fun u s1 ⟨v, H1, I1, r1, q1⟩ => ?_)
  obtain ⟨ev, eH⟩ := q1
  subst ev
  rw [eH] at I1
  obtain rfl : u = Value.ref f := r1
  have unZ : Un (frs stY) [] HY HZ sY.heap s1.heap := I1.base
  have un : Un (frs X.stack) [] H HZ s.heap s1.heap := un_deep unY unZ sub
  have of1 : s1.heap.get? f = some (PySem.W.kla_obj "<lambda>" (X.env.qual ++ "<lambda>") params body scope (cloFrom X.env.cells scope.names []) pm c' ctv) := un.keep f _ hf hfn hfr (fun z => nomatch (show f ∈ ([] : List Addr) from z))
  refine PySem.W.callWith_F0 ⟨_, _, _, _, of1⟩ ?_
  obtain ⟨⟨oc, vs, t, hoc, hdc, hvc⟩, _, _⟩ := I1.hok c' _ hc
  have rc : codeAny (model X.prog X.w) (AY.deeper (envOfC qg sg sY.heap.objs.size g cdg)) (.call (.ref f) ⟨[], []⟩) (CR (L2.CX X.prog X.w) (envOfC qg sg sY.heap.objs.size g cdg :: stY) X.prog X.w HZ s1 Q E) s1 := by
    refine PySem.W.kla_callFunE hr.depth of1 rfl L.co L.gen rfl ⟨c', oc, vs, t, rfl, hoc, hdc, hvc⟩ ?_
    rw [hbind]
    refine wpAny_pure (wpAny_newFunctionEnv (fun y hy => (L.own y hy).2) (fun y hy => absurd hy (by simp)) (fun h₁ hns hsb => ⟨I1.nolimit.fresh _ hsb, ?_⟩) L.kind)
    show codeAny _ _ (.expr body (lamEnv X scope s1.heap.objs.size f c')) _ _
    have kp : ∀ b o, s1.heap.get? b = some o → h₁.get? b = some o := fun b o e => hsb.extBut b o (Nat.ne_of_lt (Heap.lt_size e)) (Heap.get?_push_of_some _ e)
    have J : Inv (lamCx X (AY.deeper (envOfC qg sg sY.heap.objs.size g cdg)) (envOfC qg sg sY.heap.objs.size g cdg :: stY) s1 HZ E scope f c') [] σ HZ { s1 with heap := h₁, toks := s1.toks + ([] : List (Str × Value)).length } :=
      lam_start2 I L I1.env0 hr.hd un hns kp
    refine PySem.W.kla_codeExpr (wpAny_mono ((hbody _ _ s1 HZ (hr.deeper _)).run [] _ _ HZ Q J ht) (fun v s' hq => ?_) fun e s' hq => hq)
    obtain ⟨w', H', J', rv, q⟩ := hq
    exact ⟨w', H', J'.os, J'.bare, J'.base, J'.hok, rv, q⟩
  have hx : Passes (L2.CX X.prog X.w) ((cxOf CXg X.prog X.w X.K X.mg X.base Ng qg sg g cdg AY stY sY HY Eg).tr pn xe) E := passes_call tk hW
  refine wpAny_call (codeAny_mono rc fun r s' hq => ?_)
  cases r with
  | error e => exact hx pinsZ σZ HZ s1 e s' I1 hq
  | ok fl =>
    cases fl with
    | ret u => exact I1.after hq
    | next => exact False.elim hq
    | brk => exact False.elim hq
    | cont => exact False.elim hq
end
end Hx
set_option maxHeartbeats 4000000
/-! a lambda that is handed on through a second def: the calls -/
namespace Hx
open PySem PySem.Spec PyProof.Rows L2 LamX
/-- a() in the def of these names, wherever it stands above X -/
def DeepAct (X : Cx) (Nc : List Str) (xc : Str) (sc : Scope) (gc : Addr) (cdc : Value) (a : Str) (k : Nat) (f c' : Addr) (q : Str) (tl : XK → Hp → VK → Prop) (s : Shared) (H : Hp) : Prop :=
  ∀ (AY : Around) (stY : List Env) (sY : Shared) (HY : Hp), Un (frs X.stack) [] H HY s.heap sY.heap → (∀ b o, s.heap.get? b = some o → b ∈ frs stY → b ∈ frs X.stack) → Room (k + 1) (AY.deeper (envOfC xc sc sY.heap.objs.size gc cdc)) →
    ∀ (W : WX) (pn : List (Addr × Obj)) (xe : Value → Shared → Prop) (E : XK) (p1 p2 : Pos), Takes ((cxOf C8.CX0 X.prog X.w X.K X.mg X.base Nc xc sc gc cdc AY stY sY HY C8.E0).tr pn xe) W → (∀ cls d σ' H', E cls d H' → W cls d σ' H') →
      PE ((cxOf C8.CX0 X.prog X.w X.K X.mg X.base Nc xc sc gc cdc AY stY sY HY C8.E0).tr pn xe) (.Call (.Name a p1) [] [] p2) (fun σZ HZ Q => σZ[0]? = some (some (.ref f)) ∧ HZ c' = some (CodeO c' q) ∧ tl E HZ Q)
/-- the def that hands on what it got, and gets an int beside it -/
def Gives2 (X : Cx) (Nc : List Str) (xc : Str) (sc : Scope) (gc : Addr) (cdc : Value) (a : Str) (Ng : List Str) (x : Str) (sg : Scope) (g : Addr) (cdg : Value) (bg : List Stmt) (q : Str) (k : Nat) (TT : Int → (XK → Hp → VK → Prop) → Hp → VK → Prop) : Prop :=
  ∀ (f c' : Addr) (s : Shared) (H : Hp) (Q : VK) (tl : XK → Hp → VK → Prop) (n : Int), Room (k + 2) (X.A.deeper (envOfC x sg s.heap.objs.size g cdg)) → DeepAct X Nc xc sc gc cdc a k f c' q tl s H → H c' = some (CodeO c' q) → TT n tl H Q →
    ∃ t, PSs (cxOf C8.CX0 X.prog X.w X.K X.mg X.base Ng x sg g cdg X.A X.stack s H C8.E0).nox bg t ∧ t { nx := fun _ H' => Q .non H', rt := Q } (L2.start Ng [.ref f, .int n]) H
section
variable {X Y : Cx}
/-- x(b), b a name that holds what was handed in -/
theorem pe_pass {TT : (XK → Hp → VK → Prop) → Hp → VK → Prop} {x a b : Str} {g : Addr} {k i : Nat} {pg : Arguments} {bg : List Stmt} {sg : Scope} {dV kV doc pm cdv ct oc : Value} {an od : Option Addr} {osl : Array (Option Value)} {Ng : List Str} {tl : XK → Hp → VK → Prop} {f c' : Addr} {q : Str} {p pb pos : Pos}
    (hg : Gl Y x) (hm : Y.mg x = some (.ref g)) (hk : PySem.W.keepIn Y.K (.ref g) = true)
    (lk : Y.K.lookup g = some ⟨oc, od, .func (PySem.W.fnOf x x pg bg sg dV kV doc pm an cdv ct), osl⟩) (hcg : PySem.W.codeIn Y.K cdv x = true) (hb : L2.Binds Y.K (PySem.W.fnOf x x pg bg sg dV kV doc pm an cdv ct) [a] []) (Sg : FnScope Ng [a] sg)
    (hG : GivesTo Y Ng x sg g cdv bg a q TT) (hr : Room (k + 1) Y.A)
    (act : ∀ (pins : List (Addr × Obj)) (σ : L2.St) (H : Hp) (s : Shared), Inv Y pins σ H s → Room k (Y.A.deeper (envOfC x sg s.heap.objs.size g cdv)) → ∀ (W : WX) (pn : List (Addr × Obj)) (xe : Value → Shared → Prop) (E : XK) (p1 p2 : Pos), Takes ((cxOf C8.CX0 Y.prog Y.w Y.K Y.mg Y.base Ng x sg g cdv Y.A Y.stack s H C8.E0).tr pn xe) W → (∀ cls d σ' H', E cls d H' → W cls d σ' H') →
      PE ((cxOf C8.CX0 Y.prog Y.w Y.K Y.mg Y.base Ng x sg g cdv Y.A Y.stack s H C8.E0).tr pn xe) (.Call (.Name a p1) [] [] p2) (fun σZ HZ Q => σZ[0]? = some (some (.ref f)) ∧ HZ c' = some (CodeO c' q) ∧ tl E HZ Q))
    (hN : Y.N[i]? = some b) (hv : Vis Y.env.scope b) (hdb : (x == ("__debug__" : Str)) = false := by decide) (hd : (b == ("__debug__" : Str)) = false := by decide) (hcd : (b == ("__classdict__" : Str)) = false := by decide) :
    PE Y (.Call (.Name x p) [.Name b pb] [] pos) (fun σ H Q => σ[i]? = some (some (.ref f)) ∧ H c' = some (CodeO c' q) ∧ TT tl H Q) := by
  refine ⟨fun pins s σ H Q I h => ?_⟩
  obtain ⟨h1, h2, h3⟩ := h
  refine wpAny_Call_Name_kw (ld_glob I hg hm ?_ hdb)
  refine PySem.W.callWith_K (h₀ := Y.base) I.ok.mod.kin hk ?_ (by rfl) (by rfl)
  show wpAny _ _ (spliced ((false, eval (.Name b pb) Y.env) :: backTo pos (starEach [] Y.env))) _ _ s
  refine Calls.spliced_cons (thn ((pe_var (pos := pb) (i := i) hN hv hd hcd).run pins s σ H (fun v H1 => v = .ref f ∧ H1 = H) I ⟨.ref f, h1, rfl, rfl⟩) fun u s1 ⟨v, H1, I1, r1, q1⟩ => ?_)
  obtain ⟨ev, eH⟩ := q1
  subst ev
  rw [eH] at I1
  obtain rfl : u = Value.ref f := r1
  refine Calls.spliced_nil ⟨I1.kIn, ?_⟩
  have rc : codeAny (model Y.prog Y.w) Y.A (.call (.ref g) ⟨[.ref f], []⟩) (CR C8.CX0 Y.stack Y.prog Y.w H s1 Q C8.E0) s1 := by
    refine run_ofS (N := Ng) (ps := [a]) (us := [.ref f]) (vs := [.ref f]) lk hcg Sg hr I1.env0 (hb s1 [.ref f] I1.kIn rfl) (.cons rfl .nil) rfl fun hr' => ?_
    obtain ⟨t', ht', hq'⟩ := hG f c' s1 H Q tl (act pins σ H s1 I1 hr') h2 h3
    exact ⟨t', ht'.nox, hq'⟩
  refine wpAny_call (codeAny_mono rc fun r s2 hq => ?_)
  cases r with
  | error e => exact (show False from hq).elim
  | ok fl =>
    cases fl with
    | ret u => exact I1.after hq
    | next => exact False.elim hq
    | brk => exact False.elim hq
    | cont => exact False.elim hq
def tLam2 (T : List (Addr × Str)) (TT : Int → (XK → Hp → VK → Prop) → Hp → VK → Prop) (te : TE) (t : XK → TE) : TE := fun σ H Q => Tabs T H ∧ ∀ H1, ExtN H H1 → Tabs T H1 → ∃ n : Int, te σ H1 (fun v H2 => v = .int n ∧ H2 = H1) ∧ TT n (fun E H' Q' => t E σ H' Q') H1 Q
/-- x(lambda: body, e) -/
theorem pe_lam2 {T : List (Addr × Str)} {TT : Int → (XK → Hp → VK → Prop) → Hp → VK → Prop} {x xc a a1 b : Str} {g gc c P : Addr} {k : Nat} {pg : Arguments} {bg : List Stmt} {sg sc : Scope} {dV kV doc pm cdv cdc ct oc : Value} {an od : Option Addr} {osl : Array (Option Value)} {Ng Nc : List Str}
    {params : Arguments} {body el : Expr} {scope : Scope} {t : XK → TE} {te : TE} {p lpos pos : Pos} (hg : Gl X x) (hm : X.mg x = some (.ref g)) (hk : PySem.W.keepIn X.K (.ref g) = true)
    (lk : X.K.lookup g = some ⟨oc, od, .func (PySem.W.fnOf x x pg bg sg dV kV doc pm an cdv ct), osl⟩) (hcg : PySem.W.codeIn X.K cdv x = true) (hb : L2.Binds X.K (PySem.W.fnOf x x pg bg sg dV kV doc pm an cdv ct) [a1, b] []) (Sg : FnScope Ng [a1, b] sg)
    (hNc : Nc[0]? = some a) (hvc : Vis sc a)
    (hG : Gives2 X Nc xc sc gc cdc a Ng x sg g cdv bg (X.env.qual ++ "<lambda>") k TT)
    (TB : TabB X.base X.mg c P) (hcode : X.env.code = .ref c) (hmT : (P, X.env.qual ++ "<lambda>") ∈ T) (hu : ∀ p ∈ T, p.1 = P → p.2 = X.env.qual ++ "<lambda>") (hr : Room (k + 3) X.A) (L : LamS X.env.scope scope) (hdef : defaultsOf params X.env = ([], []))
    (hbind : ∀ (q : Str) (cl : List (Str × Addr)) (pm cv ctv : Value), bindArgs (PySem.W.kla_fn "<lambda>" q params body scope cl pm cv ctv) ⟨[], []⟩ = pure [])
    (hbody : ∀ (A : Around) (outer : List Env) (s : Shared) (H : Hp) (E : XK) (f c' : Addr), Room k (A.deeper (lamEnv X scope s.heap.objs.size f c')) → PE (lamCx X A outer s H E scope f c') body (t E))
    (he : PE X el te) (hel : backTo pos (starEach [el] X.env) = (false, eval el X.env) :: backTo pos (starEach [] X.env) := by rfl)
    (hdb : (x == ("__debug__" : Str)) = false := by decide) (hd : (a == ("__debug__" : Str)) = false := by decide) (hcd : (a == ("__classdict__" : Str)) = false := by decide) :
    PE X (.Call (.Name x p) [.Lambda params body scope lpos, el] [] pos) (tLam2 T TT te t) := by
  refine ⟨fun pins s σ H Q I h => ?_⟩
  obtain ⟨hT, h⟩ := h
  refine wpAny_Call_Name_kw (ld_glob I hg hm ?_ hdb)
  refine PySem.W.callWith_K (h₀ := X.base) I.ok.mod.kin hk ?_ (by rfl) (by rw [hel]; rfl)
  show wpAny _ _ (spliced ((false, eval (.Lambda params body scope lpos) X.env) :: backTo pos (starEach [el] X.env))) _ _ s
  rw [hel]
  refine Calls.spliced_cons (lam_make2 I TB hcode hmT hu hT hdef (L.has I.ok) fun f c' pm' ctv H1 s' I1 eN T1 hf hfn hfr hco => ?_)
  obtain ⟨n, hte, hTT⟩ := h H1 eN T1
  refine Calls.spliced_cons (thn (he.run _ s' σ H1 (fun v H2 => v = .int n ∧ H2 = H1) (pin_func I1 hf rfl hfn hfr) hte) fun u s2 ⟨v, H2, I2, r2, q2⟩ => ?_)
  obtain ⟨ev, eH⟩ := q2
  subst ev
  rw [eH] at I2
  have hf2 := (I2.pin _ (List.mem_append_right _ List.mem_cons_self)).1
  have I3 := pin_off I2
  refine Calls.spliced_nil ⟨I3.kIn, ?_⟩
  have rc : codeAny (model X.prog X.w) X.A (.call (.ref g) ⟨[.ref f, u], []⟩) (CR C8.CX0 X.stack X.prog X.w H1 s2 Q C8.E0) s2 := by
    refine run_ofS (N := Ng) (ps := [a1, b]) (us := [.ref f, u]) (vs := [.ref f, .int n]) lk hcg Sg hr I3.env0 (hb s2 [.ref f, u] I3.kIn rfl) (.cons rfl (.cons r2 .nil)) rfl fun hr' => ?_
    obtain ⟨t', ht', hq'⟩ := hG f c' s2 H1 Q (fun E H' Q' => t E σ H' Q') n hr' (fun AY stY sY HY un sub hr2 W pn xe E p1 p2 tk hW => pe_actD (i := 0) I3 L hf2 hfn hfr (hbind _ _ _ _ _) un sub tk hW hr2 (fun A outer s H hr3 => hbody A outer s H E f c' hr3) hNc hvc hd hcd) hco hTT
    exact ⟨t', ht'.nox, hq'⟩
  refine wpAny_call (codeAny_mono rc fun r s2 hq => ?_)
  cases r with
  | error e => exact (show False from hq).elim
  | ok fl =>
    cases fl with
    | ret u => exact I3.after hq
    | next => exact False.elim hq
    | brk => exact False.elim hq
    | cont => exact False.elim hq
end
end Hx
set_option maxHeartbeats 1000000
namespace K17
open PySem PySem.Spec PyProof.Rows L2 Hx RZ
/-! ### errors caught by the law -/
structure LawE (K : PySem.W.Frag) (mg : Str → Option Value) (CT CB CC CD : Addr) : Prop where
  tap : mg "TapError" = some (.ref CT)
  bt : mg "BadText" = some (.ref CB)
  bc : mg "BadClaim" = some (.ref CC)
  bd : mg "BadClaims" = some (.ref CD)
  exB : PySem.W.exmOne K (.ref CB) (.ref CT) = some true
  exC : PySem.W.exmOne K (.ref CC) (.ref CT) = some true
  exD : PySem.W.exmOne K (.ref CD) (.ref CT) = some true
  ecB : ExcC K CB
  ecC : ExcC K CC
  ecD : ExcC K CD
  xf : XfC K CB
  nl : PySem.W.findIn K (.ref CB) "line" = some none
theorem kit_self {K : PySem.W.Frag} {C : Addr} : PySem.W.kitOne K (.ref C) (.ref C) = some true := by
  unfold PySem.W.kitOne
  rw [if_pos (by simp)]
theorem sc_caught : FnScope ["action", "found", "error"] ["action"] (defScope sL_caught) := ⟨rfl, rfl, rfl, by decide +kernel, rfl, by decide +kernel, by decide +kernel⟩
theorem sc_k17_refused : FnScope ["action", "line", "found"] ["action", "line"] (defScope sL_k17_refused) := ⟨rfl, rfl, rfl, by decide +kernel, rfl, by decide +kernel, by decide +kernel⟩
/-- what refused makes of the lambda: it raises BadText with the line -/
def TRef (K : PySem.W.Frag) (CT CB : Addr) (n : Int) (tl : XK → Hp → VK → Prop) (H : Hp) (Q : VK) : Prop :=
  ∀ R : VK, (∀ (z x : Addr) (H' : Hp), H' z = some (ExK (.ref CB) (some x) z) → H' x = some (.xd [("line", .int n)]) → Q (.bl true) H' → R (.ref z) H') → TCaught K CT tl H R
section
theorem gives_refused {X : Cx} {CT CB CC CD gc g : Addr} {cdg : Value} {q : Str} {k : Nat} (X0 : LawE X.K X.mg CT CB CC CD) (h_isinstance : X.mg "isinstance" = none) {oc dV kV doc pm ct cdc : Value} {od an : Option Addr} {osl : Array (Option Value)}
    (hm : X.mg "_law_caught" = some (.ref gc)) (hk : PySem.W.keepIn X.K (.ref gc) = true) (lk : X.K.lookup gc = some ⟨oc, od, .func (PySem.W.fnOf "_law_caught" "_law_caught" (defArgs sL_caught) (defBody sL_caught) (defScope sL_caught) dV kV doc pm an cdc ct), osl⟩) (hcg : PySem.W.codeIn X.K cdc "_law_caught" = true)
    (hb : L2.Binds X.K (PySem.W.fnOf "_law_caught" "_law_caught" (defArgs sL_caught) (defBody sL_caught) (defScope sL_caught) dV kV doc pm an cdc ct) ["action"] []) :
    Gives2 X ["action", "found", "error"] "_law_caught" (defScope sL_caught) gc cdc "action" ["action", "line", "found"] "_law_k17_refused" (defScope sL_k17_refused) g cdg (defBody sL_k17_refused) q k (TRef X.K CT CB) := by
  intro f c' s H Q tl n hr act hc hTT
  have nd := sc_k17_refused.nd
  refine ⟨_, pss_cons (ps_set (i := 2) nd rfl (Or.inl rfl) (pe_pass (Y := (cxOf C8.CX0 X.prog X.w X.K X.mg X.base ["action", "line", "found"] "_law_k17_refused" (defScope sL_k17_refused) g cdg X.A X.stack s H C8.E0).nox) (i := 0) (k := k + 1) (tl := tl) (f := f) (c' := c') (q := q) (TT := TCaught X.K CT) rfl hm hk lk hcg hb sc_caught
      (caught_gives (p8 := ⟨0, 0, 0, 0⟩) rfl X0.tap (by decide) rfl rfl rfl (by decide +kernel) (by decide) (by decide) (by decide) (by decide) (fun _ => rfl) (fun _ => rfl)) hr
      (fun pins σ HY sY IY hr2 => act _ _ sY HY IY.base (fun b o hbo hb => ?_) hr2) rfl (Or.inl rfl)))
    (pss_one (ps_ret (pe_and (pe_callB call_isK (by rfl) h_isinstance (by decide +kernel) (pa_cons (pv 2) (pa_cons (pe_glob (v := .ref CB) rfl X0.bt rfl) pa_nil))) (pe_one (pe_cmpR op_eq (pe_kf (pv 2)) (pv 1) (nomark _)))))), ?_⟩
  · have hb' : b ∈ frs (envOfC "_law_k17_refused" (defScope sL_k17_refused) s.heap.objs.size g cdg :: X.stack) := hb
    unfold frs at hb' ⊢
    rw [List.filterMap_cons] at hb'
    split at hb'
    · exact hb'
    · next e =>
      rcases List.mem_cons.mp hb' with z | z
      · exfalso
        have e2 : (some s.heap.objs.size : Option Addr) = some _ := e
        rw [z, ← Option.some.inj e2] at hbo
        exact Nat.lt_irrefl _ (Heap.lt_size hbo)
      · exact z
  · refine ⟨rfl, hc, hTT _ fun z x H' ez ex hq => ?_⟩
    refine ⟨_, rfl, z, CB, some x, .ref CB, .ref CB, true, rfl, ez, (fun y2 e2 => by cases e2; exact ⟨_, ex⟩), X0.ecB, fun u r => r, kit_self, ?_⟩
    refine ⟨_, rfl, iteT ?_⟩
    refine ⟨_, rfl, z, CB, x, _, .int n, rfl, ez, X0.xf, X0.nl, ex, rfl, _, rfl, rfl, ?_⟩
    rw [deq_int, decide_eq_true rfl]
    exact hq
end
end K17
set_option maxHeartbeats 1000000
namespace K17
open PySem PySem.Spec PyProof.Rows L2 Hx RZ
/-! ### defs that make lambdas -/
theorem ext_tk {H H' : Hp} (e : LamX.ExtN H H') : TK H H' := ⟨fun b xs h => e b _ h (fun ps z => by cases z), fun b o u h => e b _ h (fun ps z => by cases z)⟩
theorem St.ext {H H' : Hp} {d g c : Addr} {n : Nat} (h : St H d g c n) (e : LamX.ExtN H H') : St H' d g c n := by
  obtain ⟨gs, cs, r, t, h1, h2, h3, h4, h5, h6, h7⟩ := h
  exact ⟨gs, cs, r, t, e _ _ h1 (fun ps z => by cases z), e _ _ h2 (fun ps z => by cases z), e _ _ h3 (fun ps z => by cases z), h4, h5, h6, h7⟩
theorem tabs_kp {T : List (Addr × Str)} {H H' : Hp} {d g c : Addr} {n : Nat} (t : LamX.Tabs T H) (k : Kp d g H H') (S : St H d g c n) : LamX.Tabs T H' := by
  obtain ⟨gs, cs, r, tt, h1, h2, _⟩ := S
  intro p hp
  obtain ⟨ps, a1, a2, a3⟩ := t p hp
  refine ⟨ps, k _ _ a1 (ne_of a1 h1 (by intro z; cases z)) (ne_of a1 h2 (by intro z; cases z)), a2, fun pos cv hc => ?_⟩
  obtain ⟨c', e1, e2⟩ := a3 pos cv hc
  exact ⟨c', e1, k _ _ e2 (ne_of e2 h1 (by intro z; unfold LamX.CodeO at z; cases z)) (ne_of e2 h2 (by intro z; unfold LamX.CodeO at z; cases z))⟩
theorem ext_seqL {K : PySem.W.Frag} {H H' : Hp} {a : Addr} {xs : List V} (e : LamX.ExtN H H') (h : SqL K H a xs) : SqL K H' a xs := by
  rcases h with (h | ⟨o, h⟩) | h
  · exact .inl (.inl (e _ _ h (fun ps z => by cases z)))
  · exact .inl (.inr ⟨o, e _ _ h (fun ps z => by cases z)⟩)
  · exact .inr h
mutual
theorem dp_ext {K : PySem.W.Frag} {H H' : Hp} (e : LamX.ExtN H H') : ∀ {v : V} {d : PyData}, Dp K H v d → Dp K H' v d
  | _, _, .non => .non
  | _, _, .bl b => .bl b
  | _, _, .int i => .int i
  | _, _, .str x => .str x
  | _, _, .lst h r => .lst (ext_seqL e h) (dpAll_ext e r)
  | _, _, .tup h r => .tup (tk_seqT (ext_tk e) h) (dpAll_ext e r)
theorem dpAll_ext {K : PySem.W.Frag} {H H' : Hp} (e : LamX.ExtN H H') : ∀ {vs : List V} {ds : List PyData}, DpAll K H vs ds → DpAll K H' vs ds
  | _, _, .nil => .nil
  | _, _, .cons h r => .cons (dp_ext e h) (dpAll_ext e r)
end
theorem passNo {X : Cx} : Passes (L2.CX X.prog X.w) X (fun _ _ _ => False) := fun _ _ _ _ _ _ _ h => by
  obtain ⟨_, _, _, _, _, _, _, _, _, _, _, _, z⟩ := h
  exact z.elim
abbrev q1 : Str := "_law_k17_read_right" ++ ".<locals>." ++ "<lambda>"
abbrev q2 : Str := "_law_k17_lines_right" ++ ".<locals>." ++ "<lambda>"
abbrev q3 : Str := "_law_k17_long" ++ ".<locals>." ++ "<lambda>"
abbrev q4 : Str := "law" ++ ".<locals>." ++ "<lambda>"
/-- the four tables are four -/
structure Four (P1 P2 P3 P4 : Addr) : Prop where
  a12 : P1 ≠ P2
  a13 : P1 ≠ P3
  a14 : P1 ≠ P4
  a23 : P2 ≠ P3
  a24 : P2 ≠ P4
  a34 : P3 ≠ P4
abbrev T4 (P1 P2 P3 P4 : Addr) : List (Addr × Str) := [(P1, q1), (P2, q2), (P3, q3), (P4, q4)]
theorem Four.u1 {P1 P2 P3 P4 : Addr} (h : Four P1 P2 P3 P4) : ∀ p ∈ T4 P1 P2 P3 P4, p.1 = P1 → p.2 = q1 := fun p hp e => by
  simp only [List.mem_cons, List.not_mem_nil, or_false] at hp
  rcases hp with rfl | rfl | rfl | rfl
  · rfl
  · exact absurd e.symm h.a12
  · exact absurd e.symm h.a13
  · exact absurd e.symm h.a14
theorem Four.u2 {P1 P2 P3 P4 : Addr} (h : Four P1 P2 P3 P4) : ∀ p ∈ T4 P1 P2 P3 P4, p.1 = P2 → p.2 = q2 := fun p hp e => by
  simp only [List.mem_cons, List.not_mem_nil, or_false] at hp
  rcases hp with rfl | rfl | rfl | rfl
  · exact absurd e h.a12
  · rfl
  · exact absurd e.symm h.a23
  · exact absurd e.symm h.a24
theorem Four.u3 {P1 P2 P3 P4 : Addr} (h : Four P1 P2 P3 P4) : ∀ p ∈ T4 P1 P2 P3 P4, p.1 = P3 → p.2 = q3 := fun p hp e => by
  simp only [List.mem_cons, List.not_mem_nil, or_false] at hp
  rcases hp with rfl | rfl | rfl | rfl
  · exact absurd e h.a13
  · exact absurd e h.a23
  · rfl
  · exact absurd e.symm h.a34
theorem Four.u4 {P1 P2 P3 P4 : Addr} (h : Four P1 P2 P3 P4) : ∀ p ∈ T4 P1 P2 P3 P4, p.1 = P4 → p.2 = q4 := fun p hp e => by
  simp only [List.mem_cons, List.not_mem_nil, or_false] at hp
  rcases hp with rfl | rfl | rfl | rfl
  · exact absurd e h.a14
  · exact absurd e h.a24
  · exact absurd e h.a34
  · rfl
/-- a def that makes lambdas: its code's table is at P -/
def DnT (K : PySem.W.Frag) (mg : Str → Option Value) (base : Heap) (x : Str) (st : Stmt) (P : Addr) : Prop := ∃ f fd, mg x = some (.ref f) ∧ FnD K x st f fd ∧ ∀ c, fd.code = .ref c → LamX.TabB base mg c P
section
variable {P : Program} {w : World} {K : PySem.W.Frag} {mg : Str → Option Value} {base : Heap}
theorem Ok.mk0T {x : Str} {st : Stmt} {N ps : List Str} {k : Nat} {sp : Sp} {PT : Addr} (D : DnT K mg base x st PT) (S : FnScope N ps (defScope st)) (len : ∀ vs H Q E, sp vs H Q E → vs.length = ps.length)
    (hb : ∀ (kV doc pm : Value) (an : Option Addr) (cdv ct : Value) (us : List Value), us.length = ps.length → bindArgs (PySem.W.fnOf x x (defArgs st) (defBody st) (defScope st) .none kV doc pm an cdv ct) ⟨us, []⟩ = pure (ps.zip us))
    (hbody : ∀ (f c : Addr) (A : Around) (outer : List Env) (s : Shared) (H : Hp) (vs : List V) (Q : VK) (E : XK), LamX.TabB base mg c PT → Room k (A.deeper (envOfC x (defScope st) s.heap.objs.size f (.ref c))) → sp vs H Q E →
      ∃ t, PSs (cxOf L2.CX0 P w K mg base N x (defScope st) f (.ref c) A outer s H E).nox (defBody st) t ∧ t { nx := fun _ H' => Q .non H', rt := Q } (L2.start N vs) H) : Ok P w K mg base L2.CX0 (k + 1) x ps sp := by
  obtain ⟨f, fd, g, F, tb⟩ := D
  have bn := F.bindsN hb
  have kp := F.kp
  obtain ⟨oc, od, dV, kV, doc, pm, an, cdv, ct, osl, rfl, lk, hcd, hD, hK⟩ := F.ex
  obtain ⟨c0, rfl⟩ := He.codeIn_ref hcd
  refine ⟨f, _, g, kp, bn, fn_of lk hcd S len fun A outer s H vs Q E hr h => ?_⟩
  obtain ⟨t, ht, q⟩ := hbody f c0 A outer s H vs Q E (tb c0 rfl) hr h
  exact ⟨t, ht.nox, q⟩
/-- the two defs through which the law looks at errors -/
structure Looks (K : PySem.W.Frag) (mg : Str → Option Value) (CT CB CC CD : Addr) : Prop where
  er : LawE K mg CT CB CC CD
  inst : mg "isinstance" = none
  ca : Dn K mg "_law_caught" sL_caught
  re : Dn K mg "_law_k17_refused" sL_k17_refused
def spReadRight (T : List (Addr × Str)) : Sp := fun vs H Q _ => ∃ x : Str, vs = [.str x] ∧ Plain x ∧ x.length ≤ 1000 ∧ LamX.Tabs T H ∧ ∀ H', LamX.ExtN H H' → LamX.Tabs T H' → Q (.bl true) H'
theorem sc_k17_read_right : FnScope ["text_here", "due"] ["text_here"] (defScope sL_k17_read_right) := ⟨rfl, rfl, rfl, by decide +kernel, rfl, by decide +kernel, by decide +kernel⟩
theorem read_rightG {x : Str} {c : Lot × List Term} (h : textRead x = some c) (hx : x.length ≤ 1000) : RightG c.1 c.2 := by
  unfold textRead at h
  split at h
  · next tp =>
    cases hs : sidesRead (Txt.partition x CO).2.2 with
    | none => rw [hs] at h; cases h
    | some ts =>
      rw [hs] at h
      have h2 : (if (ts.all fun t => lotS (Txt.split (Txt.partition x CO).1 SPC) t.1) = true then some (Txt.split (Txt.partition x CO).1 SPC, gathT ts) else none) = some c := h
      split at h2
      · next hall =>
        cases h2
        have fx := sides_facts hs
        have ps := part_sum x CO
        obtain ⟨g1, g2, g3⟩ := gath_canon fx.ok
        refine ⟨tp, g1, fun t ht => ?_, ?_⟩
        · obtain ⟨u, hu, e⟩ := List.mem_map.mp (g3 t.1 (List.mem_map.mpr ⟨t, ht, rfl⟩))
          have := List.all_eq_true.mp hall u hu
          rw [e] at this
          exact this
        · have h1 := gath_len ts
          have ltot : ts.length ≤ tot ts := by
            clear hs h hall fx g1 g2 g3 h1
            induction ts with
            | nil => exact Nat.zero_le _
            | cons a r ih => rw [tot_cons, List.length_cons]; omega
          have := fx.tot
          show (gathT ts).length ≤ 5000
          omega
      · cases h2
  · cases h
theorem ok_k17_read_right {CT CB CC CD P1 P2 P3 P4 : Addr} (X0 : Looks K mg CT CB CC CD) (F4 : Four P1 P2 P3 P4) (D : DnT K mg base "_law_k17_read_right" sL_k17_read_right P1) (B0 : Ok P w K mg base L2.CX0 5 "_law_cl_read" ["text_here"] (spReadTextP K textRead))
    (B1 : Ok P w K mg base (L2.CX P w) 8 "read_claim" ["text"] (spReadClaim K CB)) (B2 : Ok P w K mg base L2.CX0 5 "_law_cl_same" ["found", "due"] (spSame K)) : Ok P w K mg base L2.CX0 12 "_law_k17_read_right" ["text_here"] (spReadRight (T4 P1 P2 P3 P4)) := by
  obtain ⟨_, _, g_cl_read, k_cl_read, b_cl_read, F_cl_read⟩ := B0.ex
  obtain ⟨_, _, g_read_claim, k_read_claim, b_read_claim, F_read_claim⟩ := B1.ex
  obtain ⟨_, _, g_cl_same, k_cl_same, b_cl_same, F_cl_same⟩ := B2.ex
  obtain ⟨fc, fdc, gc, Fc⟩ := X0.ca
  have bc := Fc.bindsN (ps := ["action"]) fun _ _ _ _ _ _ us hl => match us, hl with | [_], _ => rfl
  obtain ⟨occ, odc, dVc, kVc, docc, pmc, anc, cdc, ctc, oslc, rfl, lkc, hcdc, hDc, hKc⟩ := Fc.ex
  obtain ⟨fr, fdr, gr, Fr⟩ := X0.re
  have br := Fr.bindsN (ps := ["action", "line"]) fun _ _ _ _ _ _ us hl => match us, hl with | [_, _], _ => rfl
  obtain ⟨ocr, odr, dVr, kVr, docr, pmr, anr, cdr, ctr, oslr, rfl, lkr, hcdr, hDr, hKr⟩ := Fr.ex
  refine Ok.mk0T D sc_k17_read_right (fun vs H Q E h => ?_) (fun _ _ _ _ _ _ us hl => match us, hl with | [_], _ => rfl) (fun f c0 A outer s H vs Q E TB hr h => ?_)
  · obtain ⟨x, rfl, _⟩ := h
    rfl
  obtain ⟨x, rfl, pl, hx, hT, k⟩ := h
  have nd := sc_k17_read_right.nd
  have hr5 := hr.mono (show 5 ≤ 11 by decide)
  have hr8 := hr.mono (show 8 ≤ 11 by decide)
  refine ⟨_, (pss_cons (ps_set (i := 1) nd rfl (Or.inl rfl) (pe_call F_cl_read hr5 rfl g_cl_read k_cl_read b_cl_read .nil pass0 (pa_cons (pv 0) pa_nil)))
  (pss_cons (ps_if (pt_cmpR op_isN (pv 1) pe_non (nomark _))
    (pss_one (ps_ret (pe_lam2 (k := 8) (T := T4 P1 P2 P3 P4) (TT := TRef K CT CB) (a := "action") (a1 := "action") (b := "line") (Nc := ["action", "found", "error"]) (xc := "_law_caught") (sc := defScope sL_caught) (gc := fc) (cdc := cdc) (Ng := ["action", "line", "found"]) (t := fun E => tCall (spReadClaim K CB) [] E (tCons (tVar 0) tNil))
      rfl gr Fr.kp lkr hcdr br sc_k17_refused rfl (Or.inl rfl) (gives_refused X0.er X0.inst gc Fc.kp lkc hcdc bc) TB rfl List.mem_cons_self F4.u1 hr (LamX.lamS_by (sc := defScope sL_k17_read_right) (by decide +kernel)) rfl (fun _ _ _ _ _ => rfl)
      (fun A outer s H E f c' hr' => pe_call F_read_claim hr' rfl g_read_claim k_read_claim b_read_claim .nil (passes_call (takes_of rfl rfl rfl rfl) (fun _ _ _ _ h => h)) (pa_cons (pv 0) pa_nil)) pe_int)))
    pss_nil)
  (pss_one (ps_ret (pe_call F_cl_same hr5 rfl g_cl_same k_cl_same b_cl_same .nil pass0 (pa_cons (pe_call F_read_claim hr8 rfl g_read_claim k_read_claim b_read_claim .nil passNo (pa_cons (pv 0) pa_nil)) (pa_cons (pv 1) pa_nil))))))), ?_⟩
  refine ⟨_, rfl, x, rfl, pl, hx, fun v H1 s1 hv => ?_⟩
  refine ⟨_, rfl, rfl, _, rfl, ?_⟩
  cases hR : textRead x with
  | none =>
    rw [hR] at hv
    obtain rfl : v = .non := hv
    refine iteT ⟨hT.ext s1, fun H2 e2 T2 => ⟨1, ⟨rfl, rfl⟩, fun R hRR => ?_⟩⟩
    unfold TCaught
    refine ⟨_, rfl, .inr ⟨x, rfl, hx, .inl ⟨hR, ?_⟩⟩⟩
    intro x3 H3 s3 nx3 ex3
    refine ⟨true, X0.er.exB, fun _ z hz => ?_, fun h => by cases h⟩
    have s4 := same_upd (o := ExK (.ref CB) (some x3) z) hz
    have s34 := s3.trans s4
    refine hRR z x3 _ upd_same (s4 _ _ ex3) (k _ ((LamX.ExtN.of s1).trans (e2.trans (.of s34))) (T2.ext s34))
  | some c =>
    rw [hR] at hv
    have hc : ClaimAt K H1 v c.1 c.2 := hv
    have vn : v ≠ .non := by
      obtain ⟨a, _, _, _, e, _⟩ := hc
      rw [e]
      exact fun z => by cases z
    refine iteG (decide_eq_false vn) ⟨_, rfl, .inr ⟨x, rfl, hx, .inr ⟨c, hR, fun u H2 s2 hu => ?_⟩⟩⟩
    refine ⟨_, rfl, u, v, c.1, c.2, rfl, hu, hc.keep (.of s2), read_rightG hR hx, fun H3 s3 => ?_⟩
    have s13 := s1.trans (s2.trans s3)
    exact k H3 (.of s13) (hT.ext s13)
end
end K17
set_option maxHeartbeats 1000000
namespace K17
open PySem PySem.Spec PyProof.Rows L2 Hx RZ
/-! ### one claim -/
theorem Kx.ext {d g : Addr} {H H' : Hp} (e : LamX.ExtN H H') : Kx d g H H' := fun b o h t _ _ => e b o h t
theorem St.txt {H H' : Hp} {d g c : Addr} {n : Nat} (h : St H d g c n) (e : LamX.ExtN H H') : St H' d g c n := h.ext e
section
variable {P : Program} {w : World} {K : PySem.W.Frag} {mg : Str → Option Value} {base : Heap}
def spOne (K : PySem.W.Frag) (T : List (Addr × Str)) : Sp := fun vs H Q _ => ∃ (d g c : Addr) (n : Nat) (v : V) (taps : Lot) (L : List Term), vs = [.ref d, v] ∧ St H d g c (n + 40) ∧ ClaimAt K H v taps L ∧ RightC taps L ∧ (∀ t ∈ L, t.2 ∈ weights) ∧ LamX.Tabs T H ∧
  ∀ H', St H' d g c n → Kx d g H H' → LamX.Tabs T H' → Q (.bl true) H'
theorem sc_k17_one : FnScope ["state", "claim_here", "due", "free", "bent"] ["state", "claim_here"] (defScope sL_k17_one) := ⟨rfl, rfl, rfl, by decide +kernel, rfl, by decide +kernel, by decide +kernel⟩
theorem ok_k17_one {CB CC : Addr} {T : List (Addr × Str)} (D : Dn K mg "_law_k17_one" sL_k17_one) (B0 : Ok P w K mg base L2.CX0 6 "_law_cl_text" ["claim_here"] (spLawText K)) (B1 : Ok P w K mg base (L2.CX P w) 8 "claim_text" ["claim"] (spClaimText K CC)) (B2 : OkW P w K mg base (L2.CX P w) 8 "read_claim" "text" (spReadClaim K CB))
    (B3 : Ok P w K mg base L2.CX0 5 "_law_cl_same" ["found", "due"] (spSame K)) (B4 : Ok P w K mg base L2.CX0 4 "_law_cl_free_sides" ["state", "terms"] (spFreeSides K)) (B5 : Ok P w K mg base L2.CX0 4 "_law_cl_bent" ["state", "text_here"] spBent) (B6 : Ok P w K mg base L2.CX0 3 "_law_pick" ["state", "some"] (spPick K))
    (B7 : Ok P w K mg base L2.CX0 12 "_law_k17_read_right" ["text_here"] (spReadRight T)) : Ok P w K mg base L2.CX0 13 "_law_k17_one" ["state", "claim_here"] (spOne K T) := by
  obtain ⟨_, _, g_cl_text, k_cl_text, b_cl_text, F_cl_text⟩ := B0.ex
  obtain ⟨_, _, g_claim_text, k_claim_text, b_claim_text, F_claim_text⟩ := B1.ex
  obtain ⟨_, _, g_read_claim, k_read_claim, b_read_claim, F_read_claim, kw_read_claim⟩ := B2.ex
  obtain ⟨_, _, g_cl_same, k_cl_same, b_cl_same, F_cl_same⟩ := B3.ex
  obtain ⟨_, _, g_cl_free_sides, k_cl_free_sides, b_cl_free_sides, F_cl_free_sides⟩ := B4.ex
  obtain ⟨_, _, g_cl_bent, k_cl_bent, b_cl_bent, F_cl_bent⟩ := B5.ex
  obtain ⟨_, _, g_pick, k_pick, b_pick, F_pick⟩ := B6.ex
  obtain ⟨_, _, g_k17_read_right, k_k17_read_right, b_k17_read_right, F_k17_read_right⟩ := B7.ex
  refine Ok.mk0 D sc_k17_one (fun vs H Q E h => ?_) (fun _ _ _ _ _ _ us hl => match us, hl with | [_, _], _ => rfl) (fun f cdv A outer s H vs Q E hr h => ?_)
  · obtain ⟨d, g, c, n, v, taps, L, rfl, _⟩ := h
    rfl
  obtain ⟨d, g, c, n, v, taps, L, rfl, hS, hc, rc, hw, hT, k⟩ := h
  have nd := sc_k17_one.nd
  have hr3 := hr.mono (show 3 ≤ 12 by decide)
  have hr4 := hr.mono (show 4 ≤ 12 by decide)
  have hr5 := hr.mono (show 5 ≤ 12 by decide)
  have hr6 := hr.mono (show 6 ≤ 12 by decide)
  have hr8 := hr.mono (show 8 ≤ 12 by decide)
  refine ⟨_, (pss_cons (ps_set (i := 2) nd rfl (Or.inl rfl) (pe_call F_cl_text hr6 rfl g_cl_text k_cl_text b_cl_text .nil pass0 (pa_cons (pv 1) pa_nil)))
  (pss_cons (ps_if (PW.pt (pw_or (pt_cmpR op_ne (pe_call F_claim_text hr8 rfl g_claim_text k_claim_text b_claim_text .nil passNo (pa_cons (pv 1) pa_nil)) (pv 2) (nomark _)) (pw_or1 (pt_not (pt_val (pe_call F_cl_same hr5 rfl g_cl_same k_cl_same b_cl_same .nil pass0 (pa_cons (pe_callKw F_read_claim hr8 rfl g_read_claim k_read_claim kw_read_claim passNo (pk_cons (pv 2) pk_nil)) (pa_cons (pv 1) pa_nil))))))))
    (pss_one (ps_ret pe_bl))
    pss_nil)
  (pss_cons (ps_set (i := 3) nd rfl (Or.inl rfl) (pe_op op_add_str (pe_op op_add_str (pe_join pe_str (pe_ix ix_tup (pv 1) pe_int (fun _ _ => rfl))) pe_str) (pe_call F_cl_free_sides hr4 rfl g_cl_free_sides k_cl_free_sides b_cl_free_sides .nil pass0 (pa_cons (pv 0) (pa_cons (pe_ix ix_tup (pv 1) pe_int (fun _ _ => rfl)) pa_nil)))))
  (pss_cons (ps_if (pt_not (pt_val (pe_call F_cl_same hr5 rfl g_cl_same k_cl_same b_cl_same .nil pass0 (pa_cons (pe_call F_read_claim hr8 rfl g_read_claim k_read_claim b_read_claim .nil passNo (pa_cons (pv 3) pa_nil)) (pa_cons (pv 1) pa_nil)))))
    (pss_one (ps_ret pe_bl))
    pss_nil)
  (pss_cons (ps_set (i := 4) nd rfl (Or.inl rfl) (pe_call F_cl_bent hr4 rfl g_cl_bent k_cl_bent b_cl_bent .nil pass0 (pa_cons (pv 0) (pa_cons (pe_call F_pick hr3 rfl g_pick k_pick b_pick .nil pass0 (pa_cons (pv 0) (pa_cons (pe_lst (pa_cons (pv 2) (pa_cons (pv 3) pa_nil))) pa_nil))) pa_nil))))
  (pss_one (ps_ret (pe_and (pe_call F_k17_read_right hr rfl g_k17_read_right k_k17_read_right b_k17_read_right .nil pass0 (pa_cons (pv 4) pa_nil)) (pe_one (pe_call F_k17_read_right hr rfl g_k17_read_right k_k17_read_right b_k17_read_right .nil pass0 (pa_cons (pe_call F_cl_bent hr4 rfl g_cl_bent k_cl_bent b_cl_bent .nil pass0 (pa_cons (pv 0) (pa_cons (pv 4) pa_nil))) pa_nil))))))))))), ?_⟩
  have cl7 := claim_len rc
  have cpl := plain_claim rc
  have cbk := claim_back rc
  refine ⟨_, rfl, v, taps, L, rfl, hc, rc, fun H1 s1 => ?_⟩
  generalize hdue : claimText taps L = due at cl7 cpl cbk ⊢
  have hc1 := hc.keep (.of s1)
  refine ⟨_, rfl, v, rfl, .inr ⟨taps, L, hc1, rc, fun H2 s2 => ?_⟩⟩
  rw [hdue]
  refine ⟨_, rfl, rfl, _, rfl, ?_⟩
  rw [deq_str, decide_eq_true rfl]
  have hc2 := hc1.keep (.of s2)
  refine iteF ⟨_, rfl, rfl, .inr ⟨due, rfl, by omega, .inr ⟨(taps, L), cbk, fun u H3 s3 hu => ?_⟩⟩⟩
  have hc3 := hc2.keep (.of s3)
  refine ⟨_, rfl, u, v, taps, L, rfl, hu, hc3, rc.g, fun H4 s4 => ⟨_, rfl, iteF ?_⟩⟩
  have s14 := s1.trans (s2.trans (s3.trans s4))
  have hc4 := hc3.keep (.of s4)
  have S4 := hS.same s14
  have T4' := hT.ext s14
  obtain ⟨a, t, l, us, rfl, ha, ht, hl, hts⟩ := id hc4
  have h6 := lot_join_len taps
  have h7 := rc.tlen
  have e1 : SPC.length = 1 := rfl
  have e2 : CO.length = 2 := rfl
  refine ⟨⟨_, rfl⟩, _, rfl, a, _, 0, _, rfl, rfl, ha, rfl, SPC, t, taps, rfl, rfl, .inr ht, by rw [e1]; unfold lotLen at h7; omega, _, CO, rfl, rfl, szl (by omega), ?_⟩
  refine ⟨_, rfl, _, rfl, a, _, 1, _, rfl, rfl, ha, rfl, d, g, c, l, n + 20, us, taps, L, rfl, S4.less (by omega), hl, hts, rc, hw, fun ls rs H5 fo S5 kp5 => ?_⟩
  have fl := free_len rc fo
  have fpl := free_plain rc fo
  have fb := free_back rc fo
  refine ⟨_, _, rfl, rfl, by rw [append_len (Txt.join SPC taps ++ CO)] at fl; exact szl (by omega), ?_⟩
  generalize Txt.join SPC taps ++ CO ++ (sideText ls ++ GE ++ sideText rs) = free at fl fpl fb ⊢
  have hc5 := hc4.keep (kp5.tk S4)
  have T5 := tabs_kp T4' kp5 S4
  refine ⟨_, rfl, .inr ⟨free, rfl, by omega, .inr ⟨(taps, L), fb, fun u6 H6 s6 hu6 => ?_⟩⟩⟩
  refine ⟨_, rfl, u6, _, taps, L, rfl, hu6, hc5.keep (.of s6), rc.g, fun H7 s7 => ⟨_, rfl, iteF ?_⟩⟩
  have s67 := s6.trans s7
  have S7 := S5.same s67
  have T7 := T5.ext s67
  refine ⟨_, rfl, _, rfl, _, rfl, _, rfl, (by rw [sizeLine_eq]; exact (by decide : (2 : Nat) ≤ 16777216)), fun lp hlp => ?_⟩
  have s8 := same_upd (o := .lst [.str due, .str free]) hlp
  have S8 := S7.same s8
  have T8 := T7.ext s8
  refine ⟨d, g, c, lp, n + 19, _, rfl, S8.less (by omega), SqL.of upd_same, (S7.off hlp).1, by simp, by simp, fun i x H9 hx S9 kp9 => ?_⟩
  obtain ⟨y, rfl, yl, yp⟩ : ∃ y : Str, x = .str y ∧ y.length ≤ 890 ∧ Plain y := by
    match i, hx with
    | 0, hx => cases hx; exact ⟨_, rfl, by omega, cpl⟩
    | 1, hx => cases hx; exact ⟨_, rfl, fl, fpl⟩
  have T9 := tabs_kp T8 kp9 S8
  refine ⟨d, g, c, n + 16, y, rfl, S9.less (by omega), yp, by omega, fun b1 H10 p10 l10 S10 kp10 => ?_⟩
  have T10 := tabs_kp T9 kp10 S9
  refine ⟨_, rfl, b1, rfl, p10, by omega, T10, fun H11 e11 T11 => ⟨_, rfl, iteT ?_⟩⟩
  have S11 := S10.ext e11
  refine ⟨_, rfl, _, rfl, d, g, c, n + 13, b1, rfl, S11.less (by omega), p10, by omega, fun b2 H12 p12 l12 S12 kp12 => ?_⟩
  have T12 := tabs_kp T11 kp12 S11
  refine ⟨b2, rfl, p12, by omega, T12, fun H13 e13 T13 => ?_⟩
  refine k H13 ((S12.ext e13).less (by omega)) ?_ T13
  have w1 : Kx d g H H5 := (Kx.of s14).trans (.kp kp5)
  have w2 : Kx d g H5 H9 := (Kx.of (s67.trans s8)).trans (.kp kp9)
  have w3 : Kx d g H9 H11 := (Kx.kp kp10).trans (.ext e11)
  have w4 : Kx d g H11 H13 := (Kx.kp kp12).trans (.ext e13)
  exact w1.trans (w2.trans (w3.trans w4))
end
end K17
set_option maxHeartbeats 1000000
namespace K17
open PySem PySem.Spec PyProof.Rows L2 Hx RZ
/-! ### lines read right -/
abbrev Claim := Lot × List Term
def optD : Option Claim → PyData
  | none => .none
  | some c => claimD c.1 c.2
theorem OptClaim.dp {K : PySem.W.Frag} {H : Hp} {v : V} : ∀ {o : Option Claim}, OptClaim K H v o → Dp K H v (optD o)
  | none, h => by
    obtain rfl : v = .non := h
    exact .non
  | some c, h => ClaimAt.dp h
theorem claimSh {taps : Lot} {L : List Term} (h : ∀ x ∈ taps, Plain x) (k : ∀ t ∈ L, ∀ x ∈ t.1, Plain x) : Sh 4 (claimD taps L) := sh_tup (n := 3) fun d hd => by
  simp at hd
  rcases hd with rfl | rfl
  · exact (lot_sh h).up (by decide)
  · exact sh_tup (n := 2) fun d hd => by
      obtain ⟨t, ht, rfl⟩ := List.mem_map.mp hd
      exact sh_tup (n := 1) fun e he => by
        simp at he
        rcases he with rfl | rfl
        · exact lot_sh (k t ht)
        · exact num_sh t.2
theorem rightSh {taps : Lot} {L : List Term} (h : RightG taps L) : Sh 4 (claimD taps L) := claimSh (names_plain (taps_few h.tp).2.2) fun t ht => names_plain (lot_few (h.lots t ht)).1
theorem optSh {x : Str} (hx : x.length ≤ 1000) : Sh 4 (optD (textRead x)) := by
  cases h : textRead x with
  | none => exact ⟨rfl, by show PyData.depth .none ≤ 4; simp [PyData.depth]⟩
  | some c => exact rightSh (read_rightG h hx)
theorem eqv_non : ∀ o : Option Claim, PyData.eqv (optD o) .none = o.isNone
  | none => by simp [optD, PyData.eqv]
  | some c => by simp [optD, claimD, PyData.eqv]
theorem first_none {α : Type} : ∀ {os : List (Option α)}, os.any Option.isNone = true → ∃ j : Nat, os[j]? = some none ∧ ∀ (m : Nat) (z : Option α), m < j → os[m]? = some z → z.isNone = false
  | [], h => by cases h
  | none :: r, _ => ⟨0, rfl, fun m z h => absurd h (by omega)⟩
  | some a :: r, h => by
    have h2 : r.any Option.isNone = true := by simpa using h
    obtain ⟨j, e, k⟩ := first_none h2
    refine ⟨j + 1, by simpa using e, fun m z hm hz => ?_⟩
    cases m with
    | zero =>
      have : some a = z := by simpa using hz
      rw [← this]
      rfl
    | succ m => exact k m z (by omega) (by simpa using hz)
theorem no_none {α : Type} : ∀ {os : List (Option α)}, os.any Option.isNone = false → ∃ cs : List α, os = cs.map some
  | [], _ => ⟨[], rfl⟩
  | none :: r, h => by simp at h
  | some a :: r, h => by
    have h2 : r.any Option.isNone = false := by simpa using h
    obtain ⟨cs, e⟩ := no_none h2
    exact ⟨a :: cs, by rw [e]; rfl⟩
theorem claimsOf_some : ∀ {ls : List Str} {n : Nat} {done cs : List Claim}, ls.map textRead = cs.map some → claimsOf n done ls = .inr (done ++ cs)
  | [], n, done, cs, h => by
    cases cs with
    | nil => show (Sum.inr done : Nat ⊕ List Claim) = _; rw [List.append_nil]
    | cons c r => cases h
  | y :: ls, n, done, cs, h => by
    cases cs with
    | nil => cases h
    | cons c r =>
      rw [List.map_cons, List.map_cons] at h
      injection h with h1 h2
      show (match textRead y with | none => Sum.inl (n + 1) | some c => claimsOf (n + 1) (done ++ [c]) ls) = _
      rw [h1]
      show claimsOf (n + 1) (done ++ [c]) ls = _
      rw [claimsOf_some h2, List.append_assoc]
      rfl
theorem claimsOf_none : ∀ {ls : List Str} {n : Nat} {done : List Claim} {j : Nat}, (ls.map textRead)[j]? = some none → (∀ (m : Nat) (z : Option Claim), m < j → (ls.map textRead)[m]? = some z → z.isNone = false) → claimsOf n done ls = .inl (n + j + 1)
  | [], n, done, j, h, _ => by simp at h
  | y :: ls, n, done, 0, h, _ => by
    have h1 : textRead y = none := by simpa using h
    show (match textRead y with | none => Sum.inl (n + 1) | some c => claimsOf (n + 1) (done ++ [c]) ls) = _
    rw [h1]
  | y :: ls, n, done, j + 1, h, k => by
    have h1 := k 0 (textRead y) (by omega) (by simp)
    show (match textRead y with | none => Sum.inl (n + 1) | some c => claimsOf (n + 1) (done ++ [c]) ls) = _
    cases e : textRead y with
    | none => rw [e] at h1; cases h1
    | some c =>
      show claimsOf (n + 1) (done ++ [c]) ls = _
      rw [claimsOf_none (j := j) (by simpa using h) fun m z hm hz => k (m + 1) z (by omega) (by simpa using hz)]
      congr 1
      omega
theorem cut_most {xs : List V} : cutV xs none (some (-1)) = xs.take (xs.length - 1) := by
  unfold cutV
  rw [six_neg, HT.sIx_none, List.drop_zero, Nat.sub_zero]
section
variable {P : Program} {w : World} {K : PySem.W.Frag} {mg : Str → Option Value} {base : Heap}
def spLinesRight (T : List (Addr × Str)) : Sp := fun vs H Q _ => ∃ x : Str, vs = [.str x] ∧ Plain x ∧ x.length ≤ 50000 ∧ (∀ y ∈ Txt.split x NL, y.length ≤ 1000) ∧ LamX.Tabs T H ∧ ∀ H', LamX.ExtN H H' → LamX.Tabs T H' → Q (.bl true) H'
theorem sc_k17_lines_right : FnScope ["text_here", "lines_here", "dues", "line", "found", "claim_here", "due"] ["text_here"] (defScope sL_k17_lines_right) := ⟨rfl, rfl, rfl, by decide +kernel, rfl, by decide +kernel, by decide +kernel⟩
theorem ok_k17_lines_right {CT CB CC CD P1 P2 P3 P4 : Addr} (X0 : Looks K mg CT CB CC CD) (F4 : Four P1 P2 P3 P4) (D : DnT K mg base "_law_k17_lines_right" sL_k17_lines_right P2) (B0 : Ok P w K mg base L2.CX0 5 "_law_cl_read" ["text_here"] (spReadTextP K textRead))
    (B1 : Ok P w K mg base (L2.CX P w) 8 "read_claims" ["text"] (spReadClaims K CB)) (B2 : Ok P w K mg base L2.CX0 5 "_law_cl_same" ["found", "due"] (spSame K)) (h_len : mg "len" = none) (h_list : mg "list" = none) (h_zip : mg "zip" = none) :
    Ok P w K mg base L2.CX0 12 "_law_k17_lines_right" ["text_here"] (spLinesRight (T4 P1 P2 P3 P4)) := by
  obtain ⟨_, _, g_cl_read, k_cl_read, b_cl_read, F_cl_read⟩ := B0.ex
  obtain ⟨_, _, g_read_claims, k_read_claims, b_read_claims, F_read_claims⟩ := B1.ex
  obtain ⟨_, _, g_cl_same, k_cl_same, b_cl_same, F_cl_same⟩ := B2.ex
  obtain ⟨fc, fdc, gc, Fc⟩ := X0.ca
  have bc := Fc.bindsN (ps := ["action"]) fun _ _ _ _ _ _ us hl => match us, hl with | [_], _ => rfl
  obtain ⟨occ, odc, dVc, kVc, docc, pmc, anc, cdc, ctc, oslc, rfl, lkc, hcdc, hDc, hKc⟩ := Fc.ex
  obtain ⟨fr, fdr, gr, Fr⟩ := X0.re
  have br := Fr.bindsN (ps := ["action", "line"]) fun _ _ _ _ _ _ us hl => match us, hl with | [_, _], _ => rfl
  obtain ⟨ocr, odr, dVr, kVr, docr, pmr, anr, cdr, ctr, oslr, rfl, lkr, hcdr, hDr, hKr⟩ := Fr.ex
  refine Ok.mk0T D sc_k17_lines_right (fun vs H Q E h => ?_) (fun _ _ _ _ _ _ us hl => match us, hl with | [_], _ => rfl) (fun f c0 A outer s H vs Q E TB hr h => ?_)
  · obtain ⟨x, rfl, _⟩ := h
    rfl
  obtain ⟨x, rfl, pl, hx, wl, hT, k⟩ := h
  have nd := sc_k17_lines_right.nd
  have hu64 := hr.units
  have hu65 : (A.deeper (envOfC "_law_k17_lines_right" (defScope sL_k17_lines_right) s.heap.objs.size f (.ref c0))).units + 65 < cLine := by have := hr.un; omega
  have hr5 := hr.mono (show 5 ≤ 11 by decide)
  have hr8 := hr.mono (show 8 ≤ 11 by decide)
  have h_isinstance := X0.inst
  refine ⟨_, (pss_cons (ps_set (i := 1) nd rfl (Or.inl rfl) (pe_split (pv 0) pe_str))
  (pss_cons (ps_setLc (i := 2) (own := [("line", 3)]) (g := gName 3) (tt := tYes) rfl nd rfl rfl (sw_true rfl rfl rfl (by decide +kernel)) (pi_list (pe_slice sl_list (pv 1) po_none (po_some (pe_un un_neg pe_int)))) (blkOk_by (own := [("line", 3)]) (N := ["text_here", "lines_here", "dues", "line", "found", "claim_here", "due"]) (sc := defScope sL_k17_lines_right) (by decide +kernel)) (fun _ _ _ _ _ => pg_name (i := 3) nd rfl (Or.inl rfl)) (fun _ _ _ _ _ => pts_nil) (fun _ _ _ _ _ => (pe_call F_cl_read hr5 rfl g_cl_read k_cl_read b_cl_read .nil pass0 (pa_cons (pv 3) pa_nil))))
  (pss_cons (ps_if (PW.pt (pw_or (pt_cmpR (op_inD hu65) pe_non (pv 2) (by rfl)) (pw_or1 (pt_cmpR op_ne (pe_ix ix_list (pv 1) (pe_un un_neg pe_int) (fun _ _ => rfl)) pe_str (nomark _)))))
    (pss_cons (ps_set (i := 3) nd rfl (Or.inl rfl) (pe_ifExp (pt_cmpR (op_inD hu65) pe_non (pv 2) (by rfl)) (pe_op op_add (pe_bm PySem.F.plainAttrs_list PySem.F.slot_list_index PySem.F.type_list_index (mt_indexD hu65) (pv 2) (pa_cons pe_non pa_nil)) pe_int) (pe_lenS rfl h_len (pv 1))))
    (pss_one (ps_ret (pe_lam2 (k := 8) (T := T4 P1 P2 P3 P4) (TT := TRef K CT CB) (a := "action") (a1 := "action") (b := "line") (Nc := ["action", "found", "error"]) (xc := "_law_caught") (sc := defScope sL_caught) (gc := fc) (cdc := cdc) (Ng := ["action", "line", "found"]) (t := fun E => tCall (spReadClaims K CB) [] E (tCons (tVar 0) tNil))
      rfl gr Fr.kp lkr hcdr br sc_k17_refused rfl (Or.inl rfl) (gives_refused X0.er X0.inst gc Fc.kp lkc hcdc bc) TB rfl (List.mem_cons_of_mem _ List.mem_cons_self) F4.u2 hr (LamX.lamS_by (sc := defScope sL_k17_lines_right) (by decide +kernel)) rfl (fun _ _ _ _ _ => rfl)
      (fun A outer s H E f c' hr' => pe_call F_read_claims hr' rfl g_read_claims k_read_claims b_read_claims .nil (passes_call (takes_of rfl rfl rfl rfl) (fun _ _ _ _ h => h)) (pa_cons (pv 0) pa_nil)) (pv 3)))))
    pss_nil)
  (pss_cons (ps_set (i := 4) nd rfl (Or.inl rfl) (pe_call F_read_claims hr8 rfl g_read_claims k_read_claims b_read_claims .nil passNo (pa_cons (pv 0) pa_nil)))
  (pss_cons (ps_if (PW.pt (pw_or (pt_not (pt_val (pe_isD "list" rfl h_isinstance h_list (pv 4)))) (pw_or1 (pt_cmpR op_ne (pe_lenS rfl h_len (pv 4)) (pe_lenS rfl h_len (pv 2)) (nomark _)))))
    (pss_one (ps_ret pe_bl))
    pss_nil)
  (pss_one (ps_ret (pe_cmpR (op_eqD hu64) (pe_lc (own := [("claim_here", 5), ("due", 6)]) (g := gTup K 2 (gCons (gName 5) (gCons (gName 6) gNil))) rfl nd (pi_zipA (by rfl) h_zip (pa_cons (pv 4) (pa_cons (pv 2) pa_nil))) (blkOk_by (own := [("claim_here", 5), ("due", 6)]) (N := ["text_here", "lines_here", "dues", "line", "found", "claim_here", "due"]) (sc := defScope sL_k17_lines_right) (by decide +kernel)) (fun _ _ _ _ _ => pg_tup (by rfl) (pgs_cons (pg_name (i := 5) nd rfl (Or.inl rfl)) (pgs_cons (pg_name (i := 6) nd rfl (Or.inl rfl)) pgs_nil))) (fun _ _ _ _ _ => pts_one (pt_not (pt_val (pe_call F_cl_same hr5 rfl g_cl_same k_cl_same b_cl_same .nil pass0 (pa_cons (pv 5) (pa_cons (pv 6) pa_nil)))))) (fun _ _ _ _ _ => pe_int)) (pe_lst pa_nil) (nomark _))))))))), ?_⟩
  have wcnt : (Txt.split x NL).length ≤ x.length + 2 := PyProof.Rows.split_le x NL
  have wp := plain_split (x := x) sep_nl pl
  obtain ⟨l0, ls, ew⟩ := split_cons x NL
  refine ⟨_, rfl, ⟨_, rfl⟩, x, NL, rfl, rfl, by decide +kernel, by rw [sizeLine_eq]; omega, fun l hl => ?_⟩
  have s1 := same_upd (o := .lst ((Txt.split x NL).map V.str)) hl
  have hls := SqL.of (K := K) (upd_same (H := H) (a := l) (o := .lst ((Txt.split x NL).map V.str)))
  generalize upd H l (.lst ((Txt.split x NL).map V.str)) = H1 at s1 hls ⊢
  have ecr : claimsRead x = match claimsOf 0 [] ((Txt.split x NL).take ((Txt.split x NL).length - 1)) with
    | .inl n => .inl n
    | .inr cs => if (Txt.split x NL)[(Txt.split x NL).length - 1]? = some EMP then .inr cs else .inl (Txt.split x NL).length := by
    unfold claimsRead
    cases claimsOf 0 [] ((Txt.split x NL).take ((Txt.split x NL).length - 1)) <;> rfl
  have wl0 := wl
  generalize eL : Txt.split x NL = L at *
  have lpos : L.length = ls.length + 1 := by rw [ew]; rfl
  refine ⟨_, rfl, ?_⟩
  show tNoPart _ _ _
  unfold tNoPart
  refine ⟨_, rfl, _, rfl, ?_⟩
  refine rSlL_any hls cut_most fun q hq => ?_
  rw [List.length_map, ← List.map_take]
  have s2 := s1.trans (same_upd (o := .lst ((L.take (L.length - 1)).map V.str)) hq)
  have hls2 := same_seqL (same_upd (o := .lst ((L.take (L.length - 1)).map V.str)) hq) hls
  have hq2 := SqL.of (K := K) (upd_same (H := H1) (a := q) (o := .lst ((L.take (L.length - 1)).map V.str)))
  generalize upd H1 q (.lst ((L.take (L.length - 1)).map V.str)) = H2 at s2 hls2 hq2 ⊢
  have ml : ∀ y ∈ L.take (L.length - 1), y.length ≤ 1000 ∧ Plain y := fun y hy => ⟨wl y (List.mem_of_mem_take hy), wp y (List.mem_of_mem_take hy)⟩
  have mlen : (L.take (L.length - 1)).length ≤ 60000 := by rw [List.length_take]; omega
  generalize em : L.take (L.length - 1) = mids at *
  refine ⟨q, rfl, ⟨_, hq2⟩, fun Z hZ => ?_⟩
  refine lc_each mids (fun v y H => OptClaim K H v (textRead y)) (fun v y H H' tk h => h.keep tk) hZ (by rw [sizeLine_eq]; omega) (fun i H3 hi s3 => ⟨_, _, same_seqL s3 hq2, List.getElem?_eq_getElem (by rw [List.length_map]; exact hi)⟩) (fun H3 s3 => ⟨_, same_seqL s3 hq2, by rw [List.length_map]; exact Nat.le_refl _⟩) ?_ ?_
  · rintro i y z H3 H' F hy s3 ⟨rfl, yx⟩ kF
    have e := yx _ (same_seqL s3 hq2)
    rw [List.getElem?_map, hy] at e
    obtain rfl : V.str y = z := Option.some.inj e
    obtain ⟨yl, yp⟩ := ml y (List.mem_of_getElem? hy)
    exact ⟨rfl, _, rfl, y, rfl, yp, yl, fun v H4 s4 hv => kF _ _ hv s4⟩
  · intro acc H3 s3 eZ hacc
    have s03 := s2.trans s3
    have hls3 := same_seqL s3 hls2
    have la := paired_len hacc
    have dps : DpAll K H3 acc (mids.map fun y => optD (textRead y)) := by
      clear la eZ em ml hq2 mlen ecr
      induction hacc with
      | nil => exact .nil
      | cons a b ih => exact .cons (OptClaim.dp a) ih
    have shl : SeqAt.shaped (.list (mids.map fun y => optD (textRead y))) = true := (sh_list (n := 4) fun d hd => by
      obtain ⟨y, hy, rfl⟩ := List.mem_map.mp hd
      exact optSh (ml y hy).1).shaped (by decide)
    have shn0 : Sh 4 PyData.none := ⟨rfl, by show PyData.depth .none ≤ 4; simp [PyData.depth]⟩
    have shn : SeqAt.shaped PyData.none = true := shn0.shaped (by decide)
    have anyE : ((mids.map fun y => optD (textRead y)).any fun z => PyData.eqv z .none) = (mids.map textRead).any Option.isNone := by
      rw [List.any_map, List.any_map]
      congr 1
      funext y
      exact eqv_non _
    have dpZ : Dp K H3 (.ref Z) (.list (mids.map fun y => optD (textRead y))) := .lst (SqL.of eZ) dps
    refine ⟨_, rfl, .none, _, .non, dpZ, shn, shl, _, rfl, ?_⟩
    rw [anyE]
    have back : ∀ (n : Nat) (H4 H5 : Hp) (R : VK), claimsRead x = .inl n → LamX.ExtN H H4 → LamX.Tabs (T4 P1 P2 P3 P4) H4 → (∀ (z y : Addr) (H' : Hp), H' z = some (ExK (.ref CB) (some y) z) → H' y = some (.xd [("line", .int n)]) → Q (.bl true) H' → R (.ref z) H') →
        spReadClaims K CB [.str x] H4 (fun _ H' => R .non H') (fun cls dd H' => ∃ b, PySem.W.exmOne K cls (.ref CT) = some b ∧ (b = true → ∀ z, H' z = none → R (.ref z) (upd H' z (ExK cls dd z))) ∧ (b = false → False)) := by
      intro n H4 H5 R en e4 T4' hRR
      refine .inr ⟨x, rfl, hx, by rw [eL]; exact wl0, .inl ⟨n, en, ?_⟩⟩
      intro x3 H6 s6 nx6 ex6
      refine ⟨true, X0.er.exB, fun _ z hz => ?_, fun h => by cases h⟩
      have s7 := same_upd (o := ExK (.ref CB) (some x3) z) hz
      have s67 := s6.trans s7
      exact hRR z x3 _ upd_same (s7 _ _ ex6) (k _ (e4.trans (.of s67)) (T4'.ext s67))
    cases hn0 : (mids.map textRead).any Option.isNone with
    | true =>
      obtain ⟨j, hj, hno⟩ := first_none hn0
      have en : claimsRead x = .inl (j + 1) := by
        rw [ecr, claimsOf_none (n := 0) (done := []) hj hno]
        show (Sum.inl (0 + j + 1) : Nat ⊕ List Claim) = _
        rw [Nat.zero_add]
      refine iteT ⟨_, rfl, .none, _, .non, dpZ, shn, shl, _, rfl, ?_⟩
      rw [anyE, hn0]
      rw [List.getElem?_map] at hj
      refine iteT ⟨_, rfl, .inl ⟨rfl, _, SqL.of eZ⟩, Z, .non, .none, _, j, .none, rfl, rfl, dpZ, .non, shl, shn, ?_, by simp [PyData.eqv], ?_, _, _, rfl, rfl, ?_⟩
      · rw [List.getElem?_map]
        cases q2 : mids[j]? with
        | none => rw [q2] at hj; cases hj
        | some y =>
          rw [q2] at hj
          have : textRead y = none := Option.some.inj hj
          show some (optD (textRead y)) = some PyData.none
          rw [this]
          rfl
      · intro m z' hm hz
        rw [List.getElem?_map] at hz
        cases q2 : mids[m]? with
        | none => rw [q2] at hz; cases hz
        | some y =>
          rw [q2] at hz
          obtain rfl : optD (textRead y) = z' := Option.some.inj hz
          rw [eqv_non]
          exact hno m (textRead y) hm (by rw [List.getElem?_map, q2]; rfl)
      · refine ⟨hT.ext s03, fun H4 e4 T4' => ⟨((j + 1 : Nat) : Int), ⟨_, rfl, rfl, rfl⟩, fun R hRR => ?_⟩⟩
        unfold TCaught
        exact ⟨_, rfl, back (j + 1) H4 H4 R en ((LamX.ExtN.of s03).trans e4) T4' hRR⟩
    | false =>
      obtain ⟨cs, ecs⟩ := no_none hn0
      have eoc : claimsOf 0 [] mids = .inr cs := by rw [claimsOf_some ecs]; rfl
      rw [eoc] at ecr
      have ecr2 : claimsRead x = if L[L.length - 1]? = some EMP then .inr cs else .inl L.length := ecr
      obtain ⟨lz, hlz⟩ : ∃ lz, L[L.length - 1]? = some lz := ⟨_, List.getElem?_eq_getElem (by omega)⟩
      refine iteF ⟨_, rfl, _, rfl, l, _, -1, .str lz, rfl, rfl, hls3, ?_, rfl, _, rfl, ?_⟩
      · have hne : L.map V.str ≠ [] := fun e => by
          have := congrArg List.length e
          rw [List.length_map] at this
          simp at this
          rw [this] at lpos
          simp at lpos
        rw [at_last hne, List.getLast_eq_getElem]
        have e2 : L[L.length - 1] = lz := by
          rw [List.getElem?_eq_getElem (by omega)] at hlz
          exact Option.some.inj hlz
        simp only [List.getElem_map, List.length_map, e2]
      rw [deq_str]
      rw [hlz] at ecr2
      by_cases hz : lz = EMP
      · rw [decide_eq_true hz]
        rw [if_pos (by rw [hz])] at ecr2
        refine iteF ⟨_, rfl, .inr ⟨x, rfl, hx, by rw [eL]; exact wl0, .inr ⟨cs, ecr2, fun lf us H4 s4 hf hus => ?_⟩⟩⟩
        have s34 := s03.trans s4
        have dpF : Dp K H4 (.ref lf) (.list (cs.map fun c => claimD c.1 c.2)) := .lst (SqL.of hf) (by
          clear hf ecr ecr2 eoc ecs
          induction hus with
          | nil => exact .nil
          | cons a b ih => exact .cons (ClaimAt.dp a) ih)
        have lus := paired_len hus
        have lcs : mids.length = cs.length := by
          have := congrArg List.length ecs
          rw [List.length_map, List.length_map] at this
          exact this
        refine ⟨_, rfl, _, dpF, true, rfl, iteF ?_⟩
        refine ⟨_, rfl, lf, _, rfl, .inl (SqL.of hf), _, rfl, Z, _, rfl, .inl (SqL.of (s4 _ _ eZ)), rfl, _, rfl, ?_⟩
        rw [deq_int, decide_eq_true (show ((us.length : Nat) : Int) = ((acc.length : Nat) : Int) by omega)]
        refine iteF ?_
        refine ⟨_, rfl, _, rfl, lf, Z, _, _, rfl, .inl ⟨SqL.of hf, SqL.of (s4 _ _ eZ), fun Y hY => ?_⟩⟩
        refine lc_onesD (cs.zip mids) (fun _ => false) hY (by rw [List.length_zip, sizeLine_eq]; omega) (fun i H5 hi s5 => ?_) (fun H5 s5 => ?_) ?_ ?_
        · rw [List.length_zip] at hi
          exact ⟨_, _, _, _, SqL.of (s5 _ _ hf), SqL.of (s5 _ _ (s4 _ _ eZ)), List.getElem?_eq_getElem (by omega), List.getElem?_eq_getElem (by omega)⟩
        · exact ⟨_, _, SqL.of (s5 _ _ hf), SqL.of (s5 _ _ (s4 _ _ eZ)), .inl (by rw [List.length_zip]; omega)⟩
        · rintro i ⟨c, y⟩ _ H5 _ F hp s5 ⟨T, u1, u2, rfl, hTn, rfl, qx, qy⟩ kk
          have ex := qx _ (SqL.of (s5 _ _ hf))
          have ey := qy _ (SqL.of (s5 _ _ (s4 _ _ eZ)))
          obtain ⟨h1, h2⟩ := List.getElem?_zip_eq_some.mp hp
          obtain ⟨c', ec', hcl⟩ := L2.paired_get hus ex
          rw [h1] at ec'
          obtain rfl := Option.some.inj ec'
          obtain ⟨y', ey', hop⟩ := L2.paired_get hacc ey
          rw [h2] at ey'
          obtain rfl := Option.some.inj ey'
          have er : textRead y = some c := by
            have q1 : (mids.map textRead)[i]? = some (textRead y) := by rw [List.getElem?_map, h2]; rfl
            rw [ecs, List.getElem?_map, h1] at q1
            exact (Option.some.inj q1).symm
          rw [er] at hop
          have hop' : ClaimAt K H3 u2 c.1 c.2 := hop
          have sT := zipT_same (x := u1) (y := u2) hTn
          have sx := s5.trans sT
          refine ⟨T, _, rfl, SqT.of upd_same, rfl, _, _, rfl, _, _, rfl, rfl, rfl, _, rfl, _, rfl, u1, u2, c.1, c.2, rfl, hcl.keep (.of sx), hop'.keep (.of (s4.trans sx)), read_rightG er (ml y (List.mem_of_getElem? h2)).1, fun H6 s6 => ⟨_, rfl, kk _ (sT.trans s6)⟩⟩
        · intro c H5 s5 e2 hz2
          refine ones_eq e2 fun H6 s6 => ?_
          have s06 := s34.trans (s5.trans s6)
          have z := k H6 (.of s06) (hT.ext s06)
          rw [hz2]
          have eb : ((cs.zip mids).all fun b => !false) = true := by simp
          rw [eb]
          exact z
      · rw [decide_eq_false hz]
        rw [if_neg (fun q => hz (Option.some.inj q))] at ecr2
        refine iteT ⟨_, rfl, .none, _, .non, dpZ, shn, shl, _, rfl, ?_⟩
        rw [anyE, hn0]
        refine iteF ⟨_, rfl, l, _, rfl, .inl hls3, ?_⟩
        rw [List.length_map]
        refine ⟨hT.ext s03, fun H4 e4 T4' => ⟨((L.length : Nat) : Int), ⟨_, rfl, rfl, rfl⟩, fun R hRR => ?_⟩⟩
        unfold TCaught
        exact ⟨_, rfl, back L.length H4 H4 R ecr2 ((LamX.ExtN.of s03).trans e4) T4' hRR⟩
end
end K17
set_option maxHeartbeats 1000000
namespace K17
open PySem PySem.Spec PyProof.Rows L2 Hx RZ
/-! ### lines of claims -/
theorem nl_tl : TL.tl NL = [10] := by decide +kernel
theorem spl1 (s : Nat) (acc r : List Nat) (c : Nat) : TL.spl [s] 0 acc (c :: r) = if c = s then acc :: TL.spl [s] 0 [] r else TL.spl [s] 0 (acc ++ [c]) r := by
  have e : TL.spl [s] 0 acc (c :: r) = if TL.pre [s] (c :: r) = true then acc :: TL.spl [s] 0 [] r else TL.spl [s] 0 (acc ++ [c]) r := rfl
  rw [e]
  by_cases h : c = s
  · rw [if_pos h, if_pos (by rw [h]; exact TL.pre_self [s] r)]
  · rw [if_neg h, if_neg (by rw [TL.pre_of_head [] r h]; decide)]
theorem spl_cat (s : Nat) : ∀ (a acc r : List Nat), TL.spl [s] 0 acc (a ++ s :: r) = TL.spl [s] 0 acc a ++ TL.spl [s] 0 [] r
  | [], acc, r => by
    rw [List.nil_append, spl1, if_pos rfl, TL.spl_nil]
    rfl
  | c :: a, acc, r => by
    rw [List.cons_append, spl1, spl1]
    split
    · rw [spl_cat s a [] r]
      rfl
    · exact spl_cat s a _ r
theorem spl_first (s : Nat) : ∀ (l acc : List Nat), ∃ y ∈ TL.spl [s] 0 acc l, acc.length ≤ y.length
  | [], acc => ⟨acc, by rw [TL.spl_nil]; simp, Nat.le_refl _⟩
  | c :: l, acc => by
    rw [spl1]
    split
    · exact ⟨acc, List.mem_cons_self, Nat.le_refl _⟩
    · obtain ⟨y, hy, h⟩ := spl_first s l (acc ++ [c])
      rw [List.length_append] at h
      exact ⟨y, hy, by omega⟩
theorem spl_prefix (s : Nat) : ∀ (a b acc : List Nat), ∀ y ∈ TL.spl [s] 0 acc a, ∃ z ∈ TL.spl [s] 0 acc (a ++ b), y.length ≤ z.length
  | [], b, acc, y, hy => by
    rw [TL.spl_nil] at hy
    rw [List.mem_singleton.mp hy]
    exact spl_first s b acc
  | c :: a, b, acc, y, hy => by
    rw [List.cons_append, spl1]
    rw [spl1] at hy
    split at hy
    · next h =>
      rw [if_pos h]
      rcases List.mem_cons.mp hy with e | e
      · exact ⟨acc, List.mem_cons_self, by rw [e]; exact Nat.le_refl _⟩
      · obtain ⟨z, hz, k⟩ := spl_prefix s a b [] y e
        exact ⟨z, List.mem_cons_of_mem _ hz, k⟩
    · next h =>
      rw [if_neg h]
      exact spl_prefix s a b _ y hy
theorem split_cat (a b : Str) : Txt.split (a ++ NL ++ b) NL = Txt.split a NL ++ Txt.split b NL := TL.map_tl_inj (by
  rw [List.map_append, split_tl sep_nl, split_tl sep_nl, split_tl sep_nl, TL.tl_append, TL.tl_append, nl_tl, List.append_assoc]
  exact spl_cat 10 _ _ _)
theorem mem_tl {p : Str} {l : List Str} : TL.tl p ∈ l.map TL.tl ↔ p ∈ l := by
  constructor
  · intro h
    obtain ⟨q, hq, e⟩ := List.mem_map.mp h
    rw [← TL.ext_tl e]
    exact hq
  · exact fun h => List.mem_map.mpr ⟨p, h, rfl⟩
theorem lines_prefix {a b : Str} {k : Nat} (h : ∀ y ∈ Txt.split (a ++ b) NL, y.length ≤ k) : ∀ y ∈ Txt.split a NL, y.length ≤ k := fun y hy => by
  have m := mem_tl.mpr hy
  rw [split_tl sep_nl, nl_tl] at m
  obtain ⟨z, hz, e⟩ := spl_prefix 10 (TL.tl a) (TL.tl b) [] _ m
  have e2 : TL.spl [10] 0 [] (TL.tl a ++ TL.tl b) = (Txt.split (a ++ b) NL).map TL.tl := by rw [split_tl sep_nl, nl_tl, TL.tl_append]
  rw [e2] at hz
  obtain ⟨u, hu, eu⟩ := List.mem_map.mp hz
  have h1 := h u hu
  have l1 := TL.len_tl y
  have l2 := TL.len_tl u
  rw [← eu] at e
  omega
theorem join_cons (p q : Str) (r : List Str) : Txt.join NL (p :: q :: r) = p ++ NL ++ Txt.join NL (q :: r) := TL.ext_tl (by
  rw [TL.join_eq, TL.tl_join, TL.tl_append, TL.tl_append, TL.join_eq, TL.tl_join, List.append_assoc]
  rfl)
theorem join_one (p : Str) : Txt.join NL [p] = p := TL.ext_tl (by rw [TL.join_eq, TL.tl_join]; rfl)
theorem lines_le {k : Nat} : ∀ {ps : List Str}, (∀ p ∈ ps, p.length ≤ k) → ∀ y ∈ Txt.split (Txt.join NL ps) NL, y.length ≤ k
  | [], _, y, hy => by
    have e : Txt.join NL [] = Str.empty := TL.ext_tl (by rw [TL.join_eq, TL.tl_join]; rfl)
    have := split_len sep_nl y hy
    rw [e] at this
    have : Str.empty.length = 0 := rfl
    omega
  | [p], h, y, hy => by
    rw [join_one] at hy
    have := split_len sep_nl y hy
    have := h p List.mem_cons_self
    omega
  | p :: q :: r, h, y, hy => by
    rw [join_cons, split_cat] at hy
    rcases List.mem_append.mp hy with z | z
    · have := split_len sep_nl y z
      have := h p List.mem_cons_self
      omega
    · exact lines_le (fun a ha => h a (List.mem_cons_of_mem _ ha)) y z
theorem ended : ∀ ls : List Str, Txt.join "" (ls.map (· ++ NL)) = Txt.join NL (ls ++ [Str.ofString ""])
  | [] => by decide +kernel
  | x :: ls => by
    have ih := ended ls
    rw [TL.join_eq, TL.join_eq] at ih ⊢
    have ih2 := congrArg TL.tl ih
    rw [TL.tl_join, TL.tl_join] at ih2
    refine TL.ext_tl ?_
    rw [TL.tl_join, TL.tl_join]
    have e0 : TL.tl (Str.ofString "") = [] := by decide +kernel
    rw [e0] at ih2 ⊢
    have lhs : TL.joinL [] (((x :: ls).map (· ++ NL)).map TL.tl) = TL.tl x ++ (TL.tl NL ++ TL.joinL [] ((ls.map (· ++ NL)).map TL.tl)) := by
      cases ls with
      | nil =>
        show TL.tl (x ++ NL) = _
        rw [TL.tl_append]
        simp [TL.joinL]
      | cons y r =>
        show TL.tl (x ++ NL) ++ ([] ++ TL.joinL [] (((y :: r).map (· ++ NL)).map TL.tl)) = _
        rw [TL.tl_append, List.nil_append, List.append_assoc]
    have rhs : TL.joinL (TL.tl NL) (((x :: ls) ++ [Str.ofString ""]).map TL.tl) = TL.tl x ++ (TL.tl NL ++ TL.joinL (TL.tl NL) ((ls ++ [Str.ofString ""]).map TL.tl)) := by
      cases ls with
      | nil => rfl
      | cons y r => rfl
    rw [lhs, ih2]
    exact rhs.symm
abbrev lenSum (l : List Str) : Nat := (l.map (·.length)).sum
theorem lenSum_set : ∀ {xs : List Str} {i : Nat} {a : Str} (b : Str), xs[i]? = some a → lenSum (xs.set i b) + a.length = lenSum xs + b.length
  | [], _, _, _, h => by simp at h
  | x :: r, 0, a, b, h => by
    cases h
    show lenSum (b :: r) + x.length = lenSum (x :: r) + b.length
    simp only [lenSum, List.map_cons, List.sum_cons]
    omega
  | x :: r, i + 1, a, b, h => by
    have q := lenSum_set (xs := r) (i := i) b (by simpa using h)
    show lenSum (x :: r.set i b) + a.length = lenSum (x :: r) + b.length
    simp only [lenSum, List.map_cons, List.sum_cons] at q ⊢
    omega
theorem ixN_at {n j : Nat} (h : j < n) : ixN n (j : Int) = some j := by
  unfold ixN
  rw [if_pos (by omega), if_pos (by omega)]
  exact congrArg some (by omega)
/-- a text of lines that the law may read -/
structure Lined (x : Str) : Prop where
  pl : Plain x
  len : x.length ≤ 20000
  lines : ∀ y ∈ Txt.split x NL, y.length ≤ 1000
theorem claims_lined {cl : List Claim} (h : ∀ c ∈ cl, RightC c.1 c.2) (few : cl.length ≤ 4) : Plain (claimsText cl) ∧ (claimsText cl).length ≤ 2804 ∧ ∀ y ∈ Txt.split (claimsText cl) NL, y.length ≤ 700 := by
  refine ⟨?_, ?_, ?_⟩
  · refine plain_join (plain_of (by decide +kernel)) fun p hp => ?_
    obtain ⟨c, hc, rfl⟩ := List.mem_map.mp hp
    exact plain_app (plain_claim (h c hc)) plain_nl
  · have j := join_len "" (cl.map fun c => claimText c.1 c.2 ++ NL)
    have e0 : (Str.ofString "").length = 0 := rfl
    rw [e0, Nat.mul_zero, Nat.add_zero] at j
    have q := sum_le (fun x : Str => x.length) 701 (cl.map fun c => claimText c.1 c.2 ++ NL) fun x hx => by
      obtain ⟨c, hc, rfl⟩ := List.mem_map.mp hx
      have := claim_len (h c hc)
      show (claimText c.1 c.2 ++ NL).length ≤ 701
      rw [append_len]
      have : NL.length = 1 := rfl
      omega
    rw [List.length_map] at q
    exact Nat.le_trans j (by omega)
  · have e : claimsText cl = Txt.join NL ((cl.map fun c => claimText c.1 c.2) ++ [Str.ofString ""]) := by
      unfold claimsText
      rw [← ended, List.map_map]
      rfl
    rw [e]
    refine lines_le fun p hp => ?_
    rcases List.mem_append.mp hp with q | q
    · obtain ⟨c, hc, rfl⟩ := List.mem_map.mp q
      exact claim_len (h c hc)
    · rw [List.mem_singleton.mp q]
      exact Nat.zero_le _
theorem cut_prefix (z : Str) : ∃ b : Str, z = cutS z none (some (-1)) ++ b := ⟨⟨((TL.tl z).drop (z.length - 1)).toArray⟩, TL.ext_tl (by
  rw [TL.tl_append, cut_m1]
  exact (List.take_append_drop _ _).symm)⟩
end K17
set_option maxHeartbeats 1000000
namespace K17
open PySem PySem.Spec PyProof.Rows L2 Hx RZ
/-! ### many claims -/
section
variable {P : Program} {w : World} {K : PySem.W.Frag} {mg : Str → Option Value} {base : Heap}
def spMany (K : PySem.W.Frag) (T : List (Addr × Str)) : Sp := fun vs H Q _ => ∃ (d g c l : Addr) (n : Nat) (us : List V) (cl : List Claim), vs = [.ref d, .ref l] ∧ St H d g c (n + 10) ∧ H l = some (.lst us) ∧ l ≠ d ∧ l ≠ g ∧ Paired (fun v c => ClaimAt K H v c.1 c.2) us cl ∧ (∀ c ∈ cl, RightC c.1 c.2) ∧ cl.length ≤ 4 ∧ LamX.Tabs T H ∧
  ∀ H', St H' d g c n → Kx d g H H' → LamX.Tabs T H' → Q (.bl true) H'
theorem sc_k17_many : FnScope ["state", "some", "due", "claim_here", "lines_here", "spot", "short"] ["state", "some"] (defScope sL_k17_many) := ⟨rfl, rfl, rfl, by decide +kernel, rfl, by decide +kernel, by decide +kernel⟩
theorem ok_k17_many {CD : Addr} {T : List (Addr × Str)} (D : Dn K mg "_law_k17_many" sL_k17_many) (B0 : Ok P w K mg base L2.CX0 6 "_law_cl_text" ["claim_here"] (spLawText K)) (B1 : Ok P w K mg base (L2.CX P w) 7 "claims_text" ["claims"] (spClaimsText K CD)) (B2 : Ok P w K mg base L2.CX0 12 "_law_k17_lines_right" ["text_here"] (spLinesRight T))
    (B3 : Ok P w K mg base L2.CX0 2 "_law_draw" ["state", "room"] spDraw) (B4 : Ok P w K mg base L2.CX0 4 "_law_cl_bent" ["state", "text_here"] spBent) (h_len : mg "len" = none) (h_tuple : mg "tuple" = none) : Ok P w K mg base L2.CX0 13 "_law_k17_many" ["state", "some"] (spMany K T) := by
  obtain ⟨_, _, g_cl_text, k_cl_text, b_cl_text, F_cl_text⟩ := B0.ex
  obtain ⟨_, _, g_claims_text, k_claims_text, b_claims_text, F_claims_text⟩ := B1.ex
  obtain ⟨_, _, g_k17_lines_right, k_k17_lines_right, b_k17_lines_right, F_k17_lines_right⟩ := B2.ex
  obtain ⟨_, _, g_draw, k_draw, b_draw, F_draw⟩ := B3.ex
  obtain ⟨_, _, g_cl_bent, k_cl_bent, b_cl_bent, F_cl_bent⟩ := B4.ex
  refine Ok.mk0 D sc_k17_many (fun vs H Q E h => ?_) (fun _ _ _ _ _ _ us hl => match us, hl with | [_, _], _ => rfl) (fun f cdv A outer s H vs Q E hr h => ?_)
  · obtain ⟨d, g, c, l, n, us, cl, rfl, _⟩ := h
    rfl
  obtain ⟨d, g, c, l, n, us, cl, rfl, hS, hl, ld, lg, hus, rcs, few, hT, k⟩ := h
  have nd := sc_k17_many.nd
  have hr2 := hr.mono (show 2 ≤ 12 by decide)
  have hr4 := hr.mono (show 4 ≤ 12 by decide)
  have hr6 := hr.mono (show 6 ≤ 12 by decide)
  have hr7 := hr.mono (show 7 ≤ 12 by decide)
  refine ⟨_, (pss_cons (ps_set (i := 2) nd rfl (Or.inl rfl) (pe_join pe_str (pe_lc (own := [("claim_here", 3)]) (g := gName 3) (tt := tYes) rfl nd (pi_list (pv 1)) (blkOk_by (own := [("claim_here", 3)]) (N := ["state", "some", "due", "claim_here", "lines_here", "spot", "short"]) (sc := defScope sL_k17_many) (by decide +kernel)) (fun _ _ _ _ _ => pg_name (i := 3) nd rfl (Or.inl rfl)) (fun _ _ _ _ _ => pts_nil) (fun _ _ _ _ _ => (pe_op op_add_str (pe_call F_cl_text hr6 rfl g_cl_text k_cl_text b_cl_text .nil pass0 (pa_cons (pv 3) pa_nil)) pe_str)))))
  (pss_cons (ps_if (PW.pt (pw_or (pt_cmpR op_ne (pe_call F_claims_text hr7 rfl g_claims_text k_claims_text b_claims_text .nil passNo (pa_cons (pv 1) pa_nil)) (pv 2) (nomark _)) (pw_or (pt_cmpR op_ne (pe_call F_claims_text hr7 rfl g_claims_text k_claims_text b_claims_text .nil passNo (pa_cons (pe_callTy call_tuple_of (by rfl) h_tuple (by decide +kernel) (pa_cons (pv 1) pa_nil)) pa_nil)) (pv 2) (nomark _)) (pw_or1 (pt_not (pt_val (pe_call F_k17_lines_right hr rfl g_k17_lines_right k_k17_lines_right b_k17_lines_right .nil pass0 (pa_cons (pv 2) pa_nil))))))))
    (pss_one (ps_ret pe_bl))
    pss_nil)
  (pss_cons (ps_set (i := 4) nd rfl (Or.inl rfl) (pe_split (pv 2) pe_str))
  (pss_cons (ps_set (i := 5) nd rfl (Or.inl rfl) (pe_call F_draw hr2 rfl g_draw k_draw b_draw .nil pass0 (pa_cons (pv 0) (pa_cons (pe_lenS rfl h_len (pv 4)) pa_nil))))
  (pss_cons (ps_asg (pe_call F_cl_bent hr4 rfl g_cl_bent k_cl_bent b_cl_bent .nil pass0 (pa_cons (pv 0) (pa_cons (pe_ix ix_list (pv 4) (pv 5) (fun _ _ => rfl)) pa_nil))) (pg_sub (pv 4) (pv 5) set_list))
  (pss_cons (ps_set (i := 6) nd rfl (Or.inl rfl) (pe_ifExp (pt_cmpR op_eq (pe_call F_draw hr2 rfl g_draw k_draw b_draw .nil pass0 (pa_cons (pv 0) (pa_cons pe_int pa_nil))) pe_int (nomark _)) (pe_slice sl_str (pv 2) po_none (po_some (pe_un un_neg pe_int))) (pe_op op_add_str (pv 2) pe_str)))
  (pss_one (ps_ret (pe_and (pe_call F_k17_lines_right hr rfl g_k17_lines_right k_k17_lines_right b_k17_lines_right .nil pass0 (pa_cons (pe_join pe_str (pv 4)) pa_nil)) (pe_one (pe_call F_k17_lines_right hr rfl g_k17_lines_right k_k17_lines_right b_k17_lines_right .nil pass0 (pa_cons (pv 6) pa_nil)))))))))))), ?_⟩
  obtain ⟨dpl, dlen, dlin⟩ := claims_lined rcs few
  have lus := paired_len hus
  refine ⟨⟨_, rfl⟩, _, rfl, l, rfl, ⟨_, SqL.of hl⟩, fun Z hZ => ?_⟩
  refine lc_each cl (fun v c _ => v = .str (claimText c.1 c.2 ++ NL)) (fun _ _ _ _ _ h => h) hZ (by rw [sizeLine_eq]; omega) (fun i H1 hi s1 => ⟨_, _, SqL.of (s1 _ _ hl), List.getElem?_eq_getElem (by omega)⟩) (fun H1 s1 => ⟨_, SqL.of (s1 _ _ hl), by omega⟩) ?_ ?_
  · rintro i cc z H1 H' F hcc s1 ⟨rfl, yx⟩ kF
    have e := yx _ (SqL.of (s1 _ _ hl))
    obtain ⟨c', ec, hd⟩ := L2.paired_get hus e
    rw [hcc] at ec
    obtain rfl := Option.some.inj ec
    have rc := rcs cc (List.mem_of_getElem? hcc)
    have c7 := claim_len rc
    exact ⟨rfl, _, rfl, z, cc.1, cc.2, rfl, hd.keep (.of s1), rc, fun H2 s2 => ⟨_, NL, rfl, rfl, by have : NL.length = 1 := rfl; exact szl (by omega), kF _ _ rfl s2⟩⟩
  · intro acc H1 s1 eZ hacc
    have ea := paired_strs (f := fun c : Claim => claimText c.1 c.2 ++ NL) hacc
    subst ea
    refine ⟨Str.ofString "", Z, _, rfl, rfl, .inl (SqL.of eZ), ?_, ?_⟩
    · have q := sum_le (fun x : Str => x.length) 701 (cl.map fun c => claimText c.1 c.2 ++ NL) fun x hx => by
        obtain ⟨c, hc, rfl⟩ := List.mem_map.mp hx
        have := claim_len (rcs c hc)
        show (claimText c.1 c.2 ++ NL).length ≤ 701
        rw [append_len]
        have : NL.length = 1 := rfl
        omega
      rw [List.length_map] at q
      have e0 : (Str.ofString "").length = 0 := rfl
      rw [e0]
      omega
    show _
    have hus1 : Paired (fun v (c : Claim) => ClaimAt K H1 v c.1 c.2) us cl := paired_imp hus fun v c h => h.keep (.of s1)
    have hl1 := s1 _ _ hl
    have hdue : Txt.join (Str.ofString "") (cl.map fun c => claimText c.1 c.2 ++ NL) = claimsText cl := rfl
    rw [hdue]
    generalize hd2 : claimsText cl = due at dpl dlen dlin ⊢
    refine ⟨_, rfl, .ref l, rfl, .inr (.inr ⟨l, us, cl, rfl, .inl (SqL.of hl1), hus1, rcs, by omega, fun H2 s2 => ?_⟩)⟩
    rw [hd2]
    refine ⟨_, rfl, rfl, _, rfl, ?_⟩
    rw [deq_str, decide_eq_true rfl]
    refine iteF ⟨_, rfl, l, us, rfl, .inl ⟨SqL.of (s2 _ _ hl1), fun t ht => ?_⟩⟩
    have s3 := s2.trans (same_upd (o := .tup us) ht)
    have ht3 := SqT.of (K := K) (upd_same (H := H2) (a := t) (o := .tup us))
    generalize upd H2 t (.tup us) = H3 at s3 ht3 ⊢
    refine ⟨.ref t, rfl, .inr (.inr ⟨t, us, cl, rfl, .inr ht3, paired_imp hus1 fun v c h => h.keep (.of s3), rcs, by omega, fun H4 s4 => ?_⟩)⟩
    rw [hd2]
    refine ⟨_, rfl, rfl, _, rfl, ?_⟩
    rw [deq_str, decide_eq_true rfl]
    have s14 := s1.trans (s3.trans s4)
    refine iteF ⟨_, rfl, due, rfl, dpl, by omega, fun y hy => by have := dlin y hy; omega, hT.ext s14, fun H5 e5 T5 => ⟨_, rfl, iteF ?_⟩⟩
    have S5 := (hS.same s14).ext e5
    have x5 : Kx d g H H5 := (Kx.of s14).trans (.ext e5)
    have wcnt : (Txt.split due NL).length ≤ due.length + 2 := PyProof.Rows.split_le due NL
    have wp := plain_split (x := due) sep_nl dpl
    have wsum := split_sum (x := due) sep_nl
    obtain ⟨l0, ls0, ew⟩ := split_cons due NL
    refine ⟨_, rfl, ⟨_, rfl⟩, due, NL, rfl, rfl, by decide +kernel, szl (by omega), fun q hq => ?_⟩
    have s6 := same_upd (o := .lst ((Txt.split due NL).map V.str)) hq
    have hq6 : (upd H5 q (.lst ((Txt.split due NL).map V.str))) q = some (.lst ((Txt.split due NL).map V.str)) := upd_same
    have S6 := S5.same s6
    have T6 := T5.ext s6
    have offq := S5.off hq
    have offc := S5.offc hq
    generalize upd H5 q (.lst ((Txt.split due NL).map V.str)) = H6 at s6 hq6 S6 T6 ⊢
    have lpos : 0 < (Txt.split due NL).length := by rw [ew]; simp
    have x56 : Kx d g H5 H6 := .of s6
    have dcut : ∀ y ∈ Txt.split (cutS due none (some (-1))) NL, y.length ≤ 700 := by
      obtain ⟨b, eb⟩ := cut_prefix due
      exact lines_prefix (b := b) (by rw [← eb]; exact dlin)
    have dnl : ∀ y ∈ Txt.split (due ++ NL) NL, y.length ≤ 700 := fun y hy => by
      have e : due ++ NL = due ++ NL ++ Str.empty := TL.ext_tl (by rw [TL.tl_append _ Str.empty]; simp [TL.tl, Str.empty])
      rw [e, split_cat] at hy
      rcases List.mem_append.mp hy with w | w
      · exact dlin y w
      · have := split_len sep_nl y w
        have : Str.empty.length = 0 := rfl
        omega
    generalize Txt.split due NL = L at *
    refine ⟨_, rfl, _, rfl, q, _, rfl, .inl (SqL.of hq6), d, g, c, n + 9, _, rfl, S6, by rw [List.length_map]; omega, by rw [List.length_map]; exact small9000 (by omega), fun z H7 z0 z1 S7 kp7 => ?_⟩
    obtain ⟨i, rfl⟩ := Int.eq_ofNat_of_zero_le z0
    rw [List.length_map] at z1
    have hi : i < L.length := by omega
    have hq7 := kp7 _ _ hq6 offq.2 offq.1
    have T7 := tabs_kp T6 kp7 S6
    obtain ⟨ln, hln⟩ : ∃ ln, L[i]? = some ln := ⟨_, List.getElem?_eq_getElem hi⟩
    have mln := List.mem_of_getElem? hln
    have lln := dlin ln mln
    refine ⟨_, rfl, _, rfl, _, rfl, q, _, (i : Int), .str ln, rfl, rfl, SqL.of hq7, atI_nat (by rw [List.getElem?_map, hln]; rfl), d, g, c, n + 6, ln, rfl, S7, wp ln mln, by omega, fun b H8 pb lb S8 kp8 => ?_⟩
    have hq8 := kp8 _ _ hq7 offq.2 offq.1
    have T8 := tabs_kp T7 kp8 S7
    refine ⟨_, rfl, _, rfl, q, _, (i : Int), i, rfl, rfl, hq8, by rw [List.length_map]; exact ixN_at hi, ?_⟩
    have hq9 : (upd H8 q (.lst ((L.map V.str).set i (.str b)))) q = some (.lst ((L.set i b).map V.str)) := by rw [upd_same, List.map_set]
    have S9 : St (upd H8 q (.lst ((L.map V.str).set i (.str b)))) d g c (n + 6) := by
      obtain ⟨gs, cs, r, t, y1, y2, y3, y4⟩ := S8
      exact ⟨gs, cs, r, t, by rw [upd_ne offq.2.symm]; exact y1, by rw [upd_ne offq.1.symm]; exact y2, by rw [upd_ne offc.symm]; exact y3, y4⟩
    have T9 : LamX.Tabs T (upd H8 q (.lst ((L.map V.str).set i (.str b)))) := fun p hp => by
      obtain ⟨ps, a1, a2, a3⟩ := T8 p hp
      refine ⟨ps, by rw [upd_ne (ne_of a1 hq8 (by intro z; cases z))]; exact a1, a2, fun pos cv hcv => ?_⟩
      obtain ⟨c', y1, y2⟩ := a3 pos cv hcv
      exact ⟨c', y1, by rw [upd_ne (ne_of y2 hq8 (by intro z; unfold LamX.CodeO at z; cases z))]; exact y2⟩
    have x59 : Kx d g H5 (upd H8 q (.lst ((L.map V.str).set i (.str b)))) := fun b' o e t n1 n2 => by
      rw [upd_ne (ne_of_none e hq)]
      exact kp8 _ _ (kp7 _ _ (s6 _ _ e) n1 n2) n1 n2
    generalize upd H8 q (.lst ((L.map V.str).set i (.str b))) = H9 at hq9 S9 T9 x59 ⊢
    have sset := lenSum_set b hln
    have slen : (L.set i b).length = L.length := List.length_set
    have bset : ∀ p ∈ L.set i b, p.length ≤ 702 ∧ Plain p := fun p hp => by
      rcases List.mem_or_eq_of_mem_set hp with w | w
      · exact ⟨by have := dlin p w; omega, wp p w⟩
      · rw [w]; exact ⟨by omega, pb⟩
    have e1 : NL.length = 1 := rfl
    have jl := join_len NL (L.set i b)
    rw [e1, slen] at jl
    have jpl : Plain (Txt.join NL (L.set i b)) := plain_join plain_nl fun p hp => (bset p hp).2
    have jlin := lines_le (k := 702) fun p hp => (bset p hp).1
    have esum : lenSum L = (L.map (·.length)).sum := rfl
    have esum2 : lenSum (L.set i b) = ((L.set i b).map (·.length)).sum := rfl
    refine ⟨_, rfl, d, g, c, n + 5, 2, rfl, S9, by decide, by decide +kernel, fun z2 H10 _ _ S10 kp10 => ⟨rfl, _, rfl, ?_⟩⟩
    have hq10 := kp10 _ _ hq9 offq.2 offq.1
    have T10 := tabs_kp T9 kp10 S9
    rw [deq_int]
    have last : ∀ (y : Str) (H12 : Hp), LamX.ExtN H10 H12 → LamX.Tabs T H12 → Q (.bl true) H12 := fun y H12 e12 T12 => k H12 ((S10.ext e12).less (by omega)) (x5.trans (x59.trans ((Kx.kp kp10).trans (.ext e12)))) T12
    by_cases hz2 : z2 = 0
    case' pos =>
      have cl2 := cutS_length due none (some (-1))
      refine iteE (decide_eq_true hz2) ⟨_, rfl, _, rfl, _, rfl, due, rfl, szl (by omega), ?_⟩
      obtain ⟨y, hy⟩ : ∃ y : Str, y = cutS due none (some (-1)) := ⟨_, rfl⟩
      rw [← hy] at dcut cl2 ⊢
      have yfacts : Plain y ∧ y.length ≤ 3000 ∧ ∀ u ∈ Txt.split y NL, u.length ≤ 1000 := ⟨by rw [hy]; exact plain_cut dpl _ _, by omega, fun u hu => by have := dcut u hu; omega⟩
    case' neg =>
      refine iteG (decide_eq_false hz2) ⟨_, rfl, _, NL, rfl, rfl, szl (by omega), ?_⟩
      obtain ⟨y, hy⟩ : ∃ y : Str, y = due ++ NL := ⟨_, rfl⟩
      rw [← hy] at dnl ⊢
      have yfacts : Plain y ∧ y.length ≤ 3000 ∧ ∀ u ∈ Txt.split y NL, u.length ≤ 1000 := ⟨by rw [hy]; exact plain_app dpl plain_nl, by rw [hy, append_len]; omega, fun u hu => by have := dnl u hu; omega⟩
    all_goals
      obtain ⟨yp, yl, ylin⟩ := yfacts
      refine ⟨⟨_, rfl⟩, _, rfl, NL, q, L.set i b, rfl, rfl, .inl (SqL.of hq10), ?_, _, rfl, jpl, by omega, fun u hu => by have := jlin u hu; omega, T10, fun H11 e11 T11 => ⟨_, rfl, iteT ⟨_, rfl, y, rfl, yp, by omega, ylin, T11, fun H12 e12 T12 => last y H12 (e11.trans e12) T12⟩⟩⟩
      rw [e1, slen]
      omega
end
end K17
set_option maxHeartbeats 1000000
namespace K17
open PySem PySem.Spec PyProof.Rows L2 Hx RZ
/-! ### long numbers: what is read of them -/
/-- the text of digits -/
def digs (ds : List Nat) : Str := ⟨(ds.map fun d => 48 + d).toArray⟩
theorem digs_tl (ds : List Nat) : TL.tl (digs ds) = ds.map fun d => 48 + d := rfl
theorem digs_len (ds : List Nat) : (digs ds).length = ds.length := by rw [TL.len_tl, digs_tl, List.length_map]
theorem joinL_nil : ∀ ps : List (List Nat), TL.joinL [] ps = ps.flatten
  | [] => rfl
  | [p] => by simp [TL.joinL]
  | p :: q :: r => by
    show p ++ ([] ++ TL.joinL [] (q :: r)) = _
    rw [joinL_nil (q :: r)]
    simp
theorem join_digs {ds : List Nat} (h : ∀ d ∈ ds, d < 10) : Txt.join "" (ds.map fun d => natS ((d : Nat) : Int)) = digs ds := TL.ext_tl (by
  rw [TL.join_eq, TL.tl_join, digs_tl, show TL.tl (Str.ofString "") = [] by decide +kernel, joinL_nil, List.map_map]
  induction ds with
  | nil => rfl
  | cons d r ih =>
    rw [List.map_cons, List.flatten_cons, ih fun x hx => h x (List.mem_cons_of_mem _ hx), List.map_cons]
    show TL.tl (natS ((d : Nat) : Int)) ++ _ = _
    rw [natS_tl, TL.numL_lt (h d List.mem_cons_self)]
    rfl)
/-- thirty digits, none of them 0 -/
structure Thirty (ds : List Nat) : Prop where
  len : ds.length = 30
  dig : ∀ d ∈ ds, 1 ≤ d ∧ d < 10
def numV (ds : List Nat) : Nat := NumText.digitsVal (TL.tl (digs ds))
theorem dig_all {ds : List Nat} (h : ∀ d ∈ ds, d < 10) : ((digs ds).cps.toList.all fun c => decide (c ∈ DIG.cps.toList)) = true := by
  rw [List.all_eq_true]
  intro c hc
  obtain ⟨d, hd, rfl⟩ := List.mem_map.mp (show c ∈ ds.map fun d => 48 + d from hc)
  have := h d hd
  have e : DIG.cps.toList = [48, 49, 50, 51, 52, 53, 54, 55, 56, 57] := by decide +kernel
  rw [decide_eq_true_eq, e]
  simp
  omega
theorem thirty_whole {ds : List Nat} (h : Thirty ds) : wholeS (digs ds) = some (numV ds) := by
  have l := digs_len ds
  unfold wholeS
  rw [if_pos]
  · rfl
  refine ⟨⟨by rw [l, h.len]; decide, by rw [l, h.len]; decide⟩, dig_all fun d hd => (h.dig d hd).2, ?_⟩
  rintro ⟨_, q⟩
  cases ds with
  | nil => have := h.len; simp at this
  | cons d r =>
    have q2 : (48 + d : Nat) = 48 := Option.some.inj q
    have := (h.dig d List.mem_cons_self).1
    omega
theorem thirty_int {ds : List Nat} (h : Thirty ds) : intText? (digs ds) = some ((numV ds : Nat) : Int) := by
  have l := digs_len ds
  exact int_digits (by rw [l, h.len]; decide) (by rw [l, h.len]; decide) (dig_all fun d hd => (h.dig d hd).2)
theorem fold_ge : ∀ (l : List Nat) (a : Nat), a ≤ l.foldl (fun acc c => acc * 10 + (c - 48)) a
  | [], a => Nat.le_refl _
  | c :: r, a => Nat.le_trans (show a ≤ a * 10 + (c - 48) by omega) (fold_ge r _)
theorem thirty_pos {ds : List Nat} (h : Thirty ds) : 1 ≤ numV ds := by
  cases ds with
  | nil => have := h.len; simp at this
  | cons d r =>
    have h1 := (h.dig d List.mem_cons_self).1
    show 1 ≤ (((d :: r).map fun d => 48 + d).foldl (fun acc c => acc * 10 + (c - 48)) 0)
    rw [List.map_cons, List.foldl_cons]
    exact Nat.le_trans (by omega) (fold_ge _ _)
theorem no_stroke {ds : List Nat} (h : ∀ d ∈ ds, d < 10) : 47 ∉ TL.tl (digs ds) := fun m => by
  obtain ⟨d, hd, e⟩ := List.mem_map.mp (show 47 ∈ ds.map fun d => 48 + d from m)
  omega
theorem num_plain_text {x : Str} (h : 47 ∉ TL.tl x) : numRead x = (wholeS x).map fun n : Nat => Num.w (n : Int) := by
  rcases cut_or x with ⟨_, _, ep⟩ | ⟨p, r, _, ex, _, _⟩
  · unfold numRead
    rw [ep]
    cases hw : wholeS x with
    | none => rfl
    | some t =>
      show (if (Str.empty).length = 0 then some (Num.w t) else _) = _
      rw [if_pos (by rfl)]
      rfl
  · refine absurd ?_ h
    rw [ex, TL.tl_append, TL.tl_append, show TL.tl SL = [47] by decide +kernel]
    simp
theorem thirty_num {ds : List Nat} (h : Thirty ds) : numRead (digs ds) = some (.w (numV ds)) := by
  rw [num_plain_text (no_stroke fun d hd => (h.dig d hd).2), thirty_whole h]
  rfl
theorem whole_long {x : Str} (h : 30 < x.length) : wholeS x = none := by
  unfold wholeS
  rw [if_neg (fun q => by omega)]
/-- a number of more than thirty digits -/
theorem num_long {x : Str} (h : 47 ∉ TL.tl x) (l : 30 < x.length) : numRead x = none := by
  rw [num_plain_text h, whole_long l]
  rfl
theorem num_long2 {p x : Str} (hp : 47 ∉ TL.tl p) (h : 30 < x.length) : numRead (p ++ SL ++ x) = none := by
  unfold numRead
  rw [TL.partition_app (show TL.tl SL = 47 :: [] by decide +kernel) hp]
  show (match wholeS p with | none => none | some t => _) = _
  cases wholeS p with
  | none => rfl
  | some t =>
    show (if SL.length = 0 then _ else match wholeS x with | none => none | some b => _) = _
    rw [if_neg (by decide +kernel), whole_long h]
/-- the text of one term -/
def oneText (x : Str) (l : Lot) : Str := x ++ WW ++ Txt.join SPC l ++ RP
def numC (x : Str) : Prop := ∀ c ∈ TL.tl x, 47 ≤ c ∧ c ≤ 57
theorem one_read {x : Str} {l : Lot} (hx : numC x) (hl : namesS l = true) (ne : l ≠ []) : termRead (oneText x l) = termOf true (some l) (numRead x) := by
  have e : oneText x l = x ++ WW ++ (Txt.join SPC l ++ RP) := by
    unfold oneText
    simp only [app_assoc]
  have f : 32 ∉ TL.tl x := fun m => by have := hx 32 m; omega
  have p : Txt.partition (oneText x l) WW = (x, WW, Txt.join SPC l ++ RP) := by
    rw [e]
    exact TL.partition_app (show TL.tl WW = 32 :: [119, 40] by decide +kernel) f
  unfold termRead
  rw [p]
  show termOf (Txt.endswith (Txt.join SPC l ++ RP) RP) (namesRead (cutS (Txt.join SPC l ++ RP) none (some (-1)))) (numRead x) = _
  rw [ends_iff.mpr ⟨_, rfl⟩, cut_app (by rfl)]
  unfold namesRead
  rw [names_back hl ne, if_pos hl]
theorem one_chars {x : Str} {l : Lot} (hx : numC x) (hl : namesS l = true) : ∀ c ∈ TL.tl (oneText x l), okC c := fun c hc => by
  unfold oneText at hc
  rw [TL.tl_append, TL.tl_append, TL.tl_append] at hc
  have e1 : TL.tl WW = [32, 119, 40] := by decide +kernel
  have e2 : TL.tl RP = [41] := by decide +kernel
  rw [e1, e2] at hc
  simp only [List.mem_append, List.mem_cons, List.not_mem_nil, or_false] at hc
  unfold okC
  rcases hc with ((q | q) | q) | q
  · have := hx c q; omega
  · omega
  · have := lot_chars hl c q; omega
  · omega
theorem one_side {x : Str} {l : Lot} (hx : numC x) (hl : namesS l = true) (ne : l ≠ []) : sideRead (oneText x l) = match termOf true (some l) (numRead x) with | none => none | some t => some [t] := by
  have nz : oneText x l ≠ ZER := fun z => by
    have m : 119 ∈ TL.tl (oneText x l) := by
      unfold oneText
      rw [TL.tl_append, TL.tl_append, TL.tl_append, show TL.tl WW = [32, 119, 40] by decide +kernel]
      simp
    rw [z, show TL.tl ZER = [48] by decide +kernel] at m
    simp at m
  have es : Txt.split (oneText x l) PL = [oneText x l] := TL.map_tl_inj (by
    rw [split_tl sep_pl, pl_tl, TL.spl_last (free2l fun m => ?_), List.nil_append]
    · rfl
    · have := one_chars hx hl 43 m
      unfold okC at this
      omega)
  unfold sideRead
  rw [if_neg nz, es, List.map_cons, List.map_nil, one_read hx hl ne]
  cases termOf true (some l) (numRead x) <;> rfl
theorem zer_side : sideRead ZER = some [] := by
  unfold sideRead
  rw [if_pos rfl]
theorem one_left {x : Str} {l : Lot} (hx : numC x) (hl : namesS l = true) (ne : l ≠ []) : sidesRead (oneText x l ++ GE ++ ZER) = match termOf true (some l) (numRead x) with | none => none | some t => some [t] := by
  have p : Txt.partition (oneText x l ++ GE ++ ZER) GE = (oneText x l, GE, ZER) := partition_app2 ge_tl sep_ge (by decide) fun m => by
    have := one_chars hx hl 62 m
    unfold okC at this
    omega
  unfold sidesRead
  rw [p]
  show (match sideRead (oneText x l) with | none => none | some a => match sideRead ZER with | none => none | some b => some (a ++ b.map turnT)) = _
  rw [one_side hx hl ne, zer_side]
  cases termOf true (some l) (numRead x) <;> rfl
abbrev ABS : Str := Txt.join SPC ABl ++ CO
theorem tap_ab : tapsS ABl = true := by decide +kernel
theorem lot_a : lotS ABl Al = true := by decide +kernel
theorem lot_b : lotS ABl Bl = true := by decide +kernel
theorem one_text {x : Str} {l : Lot} (hx : numC x) (lo : lotS ABl l = true) : textRead (ABS ++ (oneText x l ++ GE ++ ZER)) = match termOf true (some l) (numRead x) with | none => none | some t => some (ABl, gathT [t]) := by
  obtain ⟨_, _, tn⟩ := taps_few tap_ab
  obtain ⟨hl, _⟩ := lot_few lo
  have p : Txt.partition (ABS ++ (oneText x l ++ GE ++ ZER)) CO = (Txt.join SPC ABl, CO, oneText x l ++ GE ++ ZER) :=
    TL.partition_app (show TL.tl CO = 58 :: [32] by decide +kernel) fun m => by
      have := lot_chars tn 58 m
      omega
  unfold textRead
  rw [p]
  show (if tapsS (Txt.split (Txt.join SPC ABl) SPC) = true then _ else _) = _
  rw [names_back tn (by decide), if_pos tap_ab]
  show (match sidesRead (oneText x l ++ GE ++ ZER) with | none => none | some ts => if (ts.all fun t => lotS ABl t.1) = true then some (ABl, gathT ts) else none) = _
  rw [one_left hx hl (lot_ne lo)]
  cases hn : termOf true (some l) (numRead x) with
  | none => rfl
  | some t =>
    obtain ⟨_, e, _⟩ := termOf_some hn
    have e2 : l = t.1 := Option.some.inj e
    show (if ([t].all fun t => lotS ABl t.1) = true then some (ABl, gathT [t]) else none) = some (ABl, gathT [t])
    rw [if_pos]
    show (lotS ABl t.1 && true) = true
    rw [← e2, lo]
    rfl
theorem gath_one {t : Term} (ok : t.2.ok = true) (nz : t.2 ≠ .w 0) : gathT [t] = [t] := by
  have c : Canon [t] := ⟨by simp [Rise], fun u hu => by rw [List.mem_singleton.mp hu]; exact ok, fun u hu => by rw [List.mem_singleton.mp hu]; exact nz⟩
  exact gath_to c.ok c fun l => sumV_canon c l
end K17
set_option maxHeartbeats 1000000
namespace K17
open PySem PySem.Spec PyProof.Rows L2 Hx RZ
/-! ### long numbers -/
theorem txt_one (x : Str) : Str.ofString "a b: " ++ x ++ Str.ofString " w(a) >= 0" = ABS ++ (oneText x Al ++ GE ++ ZER) := TL.ext_tl (by
  have e1 : TL.tl (Str.ofString "a b: ") = TL.tl ABS := by decide +kernel
  have e2 : TL.tl (Str.ofString " w(a) >= 0") = TL.tl WW ++ TL.tl (Txt.join SPC Al) ++ TL.tl RP ++ TL.tl GE ++ TL.tl ZER := by decide +kernel
  unfold oneText
  simp only [TL.tl_append _ _, e1, e2, List.append_assoc])
theorem txt_more (x : Str) : Str.ofString "a b: " ++ x ++ Str.ofString "1 w(a) >= 0" = Str.ofString "a b: " ++ (x ++ Str.ofString "1") ++ Str.ofString " w(a) >= 0" := TL.ext_tl (by
  have e2 : TL.tl (Str.ofString "1 w(a) >= 0") = TL.tl (Str.ofString "1") ++ TL.tl (Str.ofString " w(a) >= 0") := by decide +kernel
  simp only [TL.tl_append _ _, e2, List.append_assoc])
abbrev LA : Str := "a b: 0 >= 0"
theorem txt_two (x : Str) : Str.ofString "a b: 0 >= 0\na b: 1/1" ++ x ++ Str.ofString " w(a) >= 0\n" = LA ++ NL ++ (Str.ofString "a b: " ++ (Str.ofString "1" ++ SL ++ (Str.ofString "1" ++ x)) ++ Str.ofString " w(a) >= 0" ++ NL ++ Str.empty) := TL.ext_tl (by
  have e1 : TL.tl (Str.ofString "a b: 0 >= 0\na b: 1/1") = TL.tl LA ++ TL.tl NL ++ TL.tl (Str.ofString "a b: ") ++ TL.tl (Str.ofString "1") ++ TL.tl SL ++ TL.tl (Str.ofString "1") := by decide +kernel
  have e2 : TL.tl (Str.ofString " w(a) >= 0\n") = TL.tl (Str.ofString " w(a) >= 0") ++ TL.tl NL := by decide +kernel
  have e3 : TL.tl Str.empty = [] := rfl
  simp only [TL.tl_append _ _, e1, e2, e3, List.append_assoc, List.append_nil])
abbrev N30 : Int := 999999999999999999999999999999
theorem q_ok : Num.ok (.q 1 N30) = true := by decide +kernel
theorem q_ok2 : Num.ok (.q (-1) N30) = true := by decide +kernel
theorem nines : (Hx.mulS (Str.ofString "9") 30) = natS N30 := TL.ext_tl (by decide +kernel)
theorem nines_int : intText? (Hx.mulS (Str.ofString "9") 30) = some N30 := by
  have w : wholeS (natS N30) = some 999999999999999999999999999999 := whole_nat (n := 999999999999999999999999999999) (by decide)
  rw [nines]
  exact (whole_int w).1
theorem txt_nine : Str.ofString "a b: 0 >= 1/" ++ Hx.mulS (Str.ofString "9") 30 ++ Str.ofString " w(b)" = Txt.join SPC ABl ++ CO ++ (sideText [] ++ GE ++ sideText [(Bl, .q 1 N30)]) := TL.ext_tl (by
  have e : sideText [(Bl, .q 1 N30)] = natS 1 ++ SL ++ natS N30 ++ WW ++ Txt.join SPC Bl ++ RP := by
    unfold sideText
    rw [if_neg (by simp)]
    exact TL.ext_tl (by rw [TL.join_eq, TL.tl_join]; rfl)
  have e0 : sideText [] = ZER := rfl
  have e1 : TL.tl (Str.ofString "a b: 0 >= 1/") = TL.tl (Txt.join SPC ABl) ++ TL.tl CO ++ TL.tl ZER ++ TL.tl GE ++ TL.tl (natS 1) ++ TL.tl SL := by decide +kernel
  have e2 : TL.tl (Str.ofString " w(b)") = TL.tl WW ++ TL.tl (Txt.join SPC Bl) ++ TL.tl RP := by decide +kernel
  rw [e, e0, nines]
  simp only [TL.tl_append _ _, e1, e2, List.append_assoc])
theorem nine_read : textRead (Str.ofString "a b: 0 >= 1/" ++ Hx.mulS (Str.ofString "9") 30 ++ Str.ofString " w(b)") = some (ABl, gathT [(Bl, .q (-1) N30)]) := by
  rw [txt_nine, text_back tap_ab (fun t ht => by cases ht) (fun t ht => ?_) (fun t ht => by cases ht) fun t ht => ?_]
  · rfl
  · rw [List.mem_singleton.mp ht]
    exact ⟨⟨q_ok, by decide, by decide, by decide⟩, by decide, (lot_few lot_b).1, lot_ne lot_b⟩
  · rw [List.mem_singleton.mp ht]
    exact lot_b
theorem la_read : ∃ c, textRead LA = some c := by
  have e : LA = Txt.join SPC ABl ++ CO ++ (sideText [] ++ GE ++ sideText []) := TL.ext_tl (by decide +kernel)
  rw [e, text_back tap_ab (fun t ht => by cases ht) (fun t ht => by cases ht) (fun t ht => by cases ht) fun t ht => by cases ht]
  exact ⟨_, rfl⟩
theorem digs_numC {ds : List Nat} (h : ∀ d ∈ ds, d < 10) : numC (digs ds) := fun c hc => by
  obtain ⟨d, hd, rfl⟩ := List.mem_map.mp (show c ∈ ds.map fun d => 48 + d from hc)
  have := h d hd
  omega
theorem app_numC {x y : Str} (h : numC x) (k : numC y) : numC (x ++ y) := fun c hc => by
  rw [TL.tl_append] at hc
  rcases List.mem_append.mp hc with q | q
  · exact h c q
  · exact k c q
theorem one_numC : numC (Str.ofString "1") := fun c hc => by
  rw [show TL.tl (Str.ofString "1") = [49] by decide +kernel] at hc
  rw [List.mem_singleton.mp hc]
  decide
theorem sl_numC : numC SL := fun c hc => by
  rw [show TL.tl SL = [47] by decide +kernel] at hc
  rw [List.mem_singleton.mp hc]
  decide
section
variable {ds : List Nat}
theorem long_read (h : Thirty ds) : textRead (Str.ofString "a b: " ++ digs ds ++ Str.ofString " w(a) >= 0") = some (ABl, [(Al, .w (numV ds))]) := by
  have pos := thirty_pos h
  have nz : Num.w ((numV ds : Nat) : Int) ≠ .w 0 := fun e => by
    injection e with e
    omega
  rw [txt_one, one_text (digs_numC fun d hd => (h.dig d hd).2) lot_a, thirty_num h]
  show (match (if Num.w ((numV ds : Nat) : Int) = .w 0 then none else some (Al, Num.w ((numV ds : Nat) : Int))) with | none => none | some t => some (ABl, gathT [t])) = _
  rw [if_neg nz]
  show some (ABl, gathT [(Al, Num.w ((numV ds : Nat) : Int))]) = _
  rw [gath_one rfl nz]
theorem more_read (h : Thirty ds) : textRead (Str.ofString "a b: " ++ digs ds ++ Str.ofString "1 w(a) >= 0") = none := by
  have nc : numC (digs ds ++ Str.ofString "1") := app_numC (digs_numC fun d hd => (h.dig d hd).2) one_numC
  have l : 30 < (digs ds ++ Str.ofString "1").length := by
    rw [append_len, digs_len, h.len]
    decide
  have ns : 47 ∉ TL.tl (digs ds ++ Str.ofString "1") := fun m => by
    rw [TL.tl_append] at m
    rcases List.mem_append.mp m with q | q
    · exact no_stroke (fun d hd => (h.dig d hd).2) q
    · rw [show TL.tl (Str.ofString "1") = [49] by decide +kernel] at q
      simp at q
  rw [txt_more, txt_one, one_text nc lot_a, num_long ns l]
  rfl
abbrev L2' (ds : List Nat) : Str := Str.ofString "a b: " ++ (Str.ofString "1" ++ SL ++ (Str.ofString "1" ++ digs ds)) ++ Str.ofString " w(a) >= 0"
theorem part_read (h : Thirty ds) : textRead (L2' ds) = none := by
  have nd := digs_numC fun d hd => (h.dig d hd).2
  have nc : numC (Str.ofString "1" ++ SL ++ (Str.ofString "1" ++ digs ds)) := app_numC (app_numC one_numC sl_numC) (app_numC one_numC nd)
  have l : 30 < (Str.ofString "1" ++ digs ds).length := by
    rw [append_len, digs_len, h.len]
    decide
  unfold L2'
  rw [txt_one, one_text nc lot_a, num_long2 (fun m => by rw [show TL.tl (Str.ofString "1") = [49] by decide +kernel] at m; simp at m) l]
  rfl
theorem two_split (h : Thirty ds) : Txt.split (Str.ofString "a b: 0 >= 0\na b: 1/1" ++ digs ds ++ Str.ofString " w(a) >= 0\n") NL = [LA, L2' ds, Str.empty] := by
  have one : ∀ {x : Str}, 10 ∉ TL.tl x → Txt.split x NL = [x] := fun {x} hx => TL.map_tl_inj (by
    rw [split_tl sep_nl, nl_tl, TL.spl_last1 (S := []) hx]
    rfl)
  rw [txt_two, split_cat, split_cat, one (show 10 ∉ TL.tl LA by decide +kernel), one (show 10 ∉ TL.tl Str.empty by decide +kernel), one fun m => ?_]
  · rfl
  · rw [txt_one, TL.tl_append] at m
    have nd := digs_numC fun d hd => (h.dig d hd).2
    have nc : numC (Str.ofString "1" ++ SL ++ (Str.ofString "1" ++ digs ds)) := app_numC (app_numC one_numC sl_numC) (app_numC one_numC nd)
    rcases List.mem_append.mp m with q | q
    · exact absurd q (by decide +kernel)
    · rw [TL.tl_append, TL.tl_append] at q
      rcases List.mem_append.mp q with q | q
      · rcases List.mem_append.mp q with q | q
        · have := one_chars nc (lot_few lot_a).1 10 q
          unfold okC at this
          omega
        · rw [ge_tl] at q
          simp at q
      · exact absurd q (by decide +kernel)
theorem two_read (h : Thirty ds) : claimsRead (Str.ofString "a b: 0 >= 0\na b: 1/1" ++ digs ds ++ Str.ofString " w(a) >= 0\n") = .inl 2 := by
  obtain ⟨c, ec⟩ := la_read
  have e := claimsOf_none (ls := [LA, L2' ds]) (n := 0) (done := []) (j := 1) (by rw [List.map_cons, List.map_cons, part_read h]; rfl) fun m z hm hz => by
    have : m = 0 := by omega
    subst this
    rw [List.map_cons, ec] at hz
    have : some c = z := Option.some.inj hz
    rw [← this]
    rfl
  unfold claimsRead
  rw [two_split h]
  show (match claimsOf 0 [] [LA, L2' ds] with | .inl n => Sum.inl n | .inr cs => _) = (Sum.inl 2 : Nat ⊕ List Claim)
  rw [e]
end
end K17
set_option maxHeartbeats 1000000
namespace K17
open PySem PySem.Spec PyProof.Rows L2 Hx RZ
/-! ### long numbers: the law -/
section
variable {P : Program} {w : World} {K : PySem.W.Frag} {mg : Str → Option Value} {base : Heap}
def spLong (T : List (Addr × Str)) : Sp := fun vs H Q _ => ∃ (d g c : Addr) (n : Nat), vs = [.ref d] ∧ St H d g c (n + 40) ∧ LamX.Tabs T H ∧ ∀ H', Q (.bl true) H'
theorem sc_k17_long : FnScope ["state", "digits_here", "lap", "due"] ["state"] (defScope sL_k17_long) := ⟨rfl, rfl, rfl, by decide +kernel, rfl, by decide +kernel, by decide +kernel⟩
theorem ok_k17_long {CT CB CC CD P1 P2 P3 P4 : Addr} (X0 : Looks K mg CT CB CC CD) (F4 : Four P1 P2 P3 P4) (D : DnT K mg base "_law_k17_long" sL_k17_long P3) (B0 : Ok P w K mg base L2.CX0 2 "_law_draw" ["state", "room"] spDraw) (B1 : Ok P w K mg base (L2.CX P w) 8 "read_claim" ["text"] (spReadClaim K CB))
    (B2 : Ok P w K mg base (L2.CX P w) 8 "read_claims" ["text"] (spReadClaims K CB)) (B3 : Ok P w K mg base L2.CX0 5 "_law_cl_same" ["found", "due"] (spSame K)) (B4 : Ok P w K mg base (L2.CX P w) 5 "claim_of" ["taps", "terms"] (spClaimOf K)) (h_str : mg "str" = none) (h_int : mg "int" = none) (h_range : mg "range" = none) :
    Ok P w K mg base L2.CX0 12 "_law_k17_long" ["state"] (spLong (T4 P1 P2 P3 P4)) := by
  obtain ⟨_, _, g_draw, k_draw, b_draw, F_draw⟩ := B0.ex
  obtain ⟨_, _, g_read_claim, k_read_claim, b_read_claim, F_read_claim⟩ := B1.ex
  obtain ⟨_, _, g_read_claims, k_read_claims, b_read_claims, F_read_claims⟩ := B2.ex
  obtain ⟨_, _, g_cl_same, k_cl_same, b_cl_same, F_cl_same⟩ := B3.ex
  obtain ⟨_, _, g_claim_of, k_claim_of, b_claim_of, F_claim_of⟩ := B4.ex
  obtain ⟨fc, fdc, gc, Fc⟩ := X0.ca
  have bc := Fc.bindsN (ps := ["action"]) fun _ _ _ _ _ _ us hl => match us, hl with | [_], _ => rfl
  obtain ⟨occ, odc, dVc, kVc, docc, pmc, anc, cdc, ctc, oslc, rfl, lkc, hcdc, hDc, hKc⟩ := Fc.ex
  obtain ⟨fr, fdr, gr, Fr⟩ := X0.re
  have br := Fr.bindsN (ps := ["action", "line"]) fun _ _ _ _ _ _ us hl => match us, hl with | [_, _], _ => rfl
  obtain ⟨ocr, odr, dVr, kVr, docr, pmr, anr, cdr, ctr, oslr, rfl, lkr, hcdr, hDr, hKr⟩ := Fr.ex
  refine Ok.mk0T D sc_k17_long (fun vs H Q E h => ?_) (fun _ _ _ _ _ _ us hl => match us, hl with | [_], _ => rfl) (fun f c0 A outer s H vs Q E TB hr h => ?_)
  · obtain ⟨d, g, c, n, rfl, _⟩ := h
    rfl
  obtain ⟨d, g, c, n, rfl, hS, hT, k⟩ := h
  have nd := sc_k17_long.nd
  have hr2 := hr.mono (show 2 ≤ 11 by decide)
  have hr5 := hr.mono (show 5 ≤ 11 by decide)
  have hr8 := hr.mono (show 8 ≤ 11 by decide)
  refine ⟨_, (pss_cons (ps_set (i := 1) nd rfl (Or.inr rfl) (pe_join pe_str (pe_lc (own := [("lap", 2)]) (g := gName 2) (tt := tYes) rfl nd (pi_range1 rfl h_range (pa_cons pe_int pa_nil)) (blkOk_by (own := [("lap", 2)]) (N := ["state", "digits_here", "lap", "due"]) (sc := defScope sL_k17_long) (by decide +kernel)) (fun _ _ _ _ _ => pg_name (i := 2) nd rfl (Or.inl rfl)) (fun _ _ _ _ _ => pts_nil) (fun _ _ _ _ _ => (pe_callTy call_str_int (by rfl) h_str (by decide +kernel) (pa_cons (pe_op op_add pe_int (pe_call F_draw hr2 rfl g_draw k_draw b_draw .nil pass0 (pa_cons (pv 0) (pa_cons pe_int pa_nil)))) pa_nil))))))
  (pss_cons (ps_if (pt_not (pt_val (pe_call F_cl_same hr5 rfl g_cl_same k_cl_same b_cl_same .nil pass0 (pa_cons (pe_call F_read_claim hr8 rfl g_read_claim k_read_claim b_read_claim .nil passNo (pa_cons (pe_op op_add_str (pe_op op_add_str pe_str (pv 1)) pe_str) pa_nil)) (pa_cons (pe_tup (pa_cons (pe_tup (pa_cons pe_str (pa_cons pe_str pa_nil))) (pa_cons (pe_tup (pa_cons (pe_tup (pa_cons (pe_tup (pa_cons pe_str pa_nil)) (pa_cons (pe_callTy call_int_str (by rfl) h_int (by decide +kernel) (pa_cons (pv 1) pa_nil)) pa_nil))) pa_nil)) pa_nil))) pa_nil)))))
    (pss_one (ps_ret pe_bl))
    pss_nil)
  (pss_cons (ps_set (i := 3) nd rfl (Or.inl rfl) (pe_call F_claim_of hr5 rfl g_claim_of k_claim_of b_claim_of .nil passNo (pa_cons (pe_tup (pa_cons pe_str (pa_cons pe_str pa_nil))) (pa_cons (pe_lst (pa_cons (pe_tup (pa_cons (pe_tup (pa_cons pe_str pa_nil)) (pa_cons (pe_tup (pa_cons (pe_un un_neg pe_int) (pa_cons (pe_callTy call_int_str (by rfl) h_int (by decide +kernel) (pa_cons (pe_op op_mul_str pe_str pe_int) pa_nil)) pa_nil))) pa_nil))) pa_nil)) pa_nil))))
  (pss_cons (ps_if (pt_not (pt_val (pe_call F_cl_same hr5 rfl g_cl_same k_cl_same b_cl_same .nil pass0 (pa_cons (pe_call F_read_claim hr8 rfl g_read_claim k_read_claim b_read_claim .nil passNo (pa_cons (pe_op op_add_str (pe_op op_add_str pe_str (pe_op op_mul_str pe_str pe_int)) pe_str) pa_nil)) (pa_cons (pv 3) pa_nil)))))
    (pss_one (ps_ret pe_bl))
    pss_nil)
  (pss_cons (ps_if (pt_not (pt_val (pe_lam2 (k := 8) (T := T4 P1 P2 P3 P4) (TT := TRef K CT CB) (a := "action") (a1 := "action") (b := "line") (Nc := ["action", "found", "error"]) (xc := "_law_caught") (sc := defScope sL_caught) (gc := fc) (cdc := cdc) (Ng := ["action", "line", "found"])
      rfl gr Fr.kp lkr hcdr br sc_k17_refused rfl (Or.inl rfl) (gives_refused X0.er X0.inst gc Fc.kp lkc hcdc bc) TB rfl (List.mem_cons_of_mem _ (List.mem_cons_of_mem _ List.mem_cons_self)) F4.u3 hr (LamX.lamS_by (sc := defScope sL_k17_long) (by decide +kernel)) rfl (fun _ _ _ _ _ => rfl)
      (fun A outer s H E f c' hr' => pe_call F_read_claim hr' rfl g_read_claim k_read_claim b_read_claim .nil (passes_call (takes_of rfl rfl rfl rfl) (fun _ _ _ _ h => h)) (pa_cons (pe_op op_add_str (pe_op op_add_str pe_str (pv 1)) pe_str) pa_nil)) pe_int)))
    (pss_one (ps_ret pe_bl))
    pss_nil)
  (pss_one (ps_ret (pe_lam2 (k := 8) (T := T4 P1 P2 P3 P4) (TT := TRef K CT CB) (a := "action") (a1 := "action") (b := "line") (Nc := ["action", "found", "error"]) (xc := "_law_caught") (sc := defScope sL_caught) (gc := fc) (cdc := cdc) (Ng := ["action", "line", "found"])
      rfl gr Fr.kp lkr hcdr br sc_k17_refused rfl (Or.inl rfl) (gives_refused X0.er X0.inst gc Fc.kp lkc hcdc bc) TB rfl (List.mem_cons_of_mem _ (List.mem_cons_of_mem _ List.mem_cons_self)) F4.u3 hr (LamX.lamS_by (sc := defScope sL_k17_long) (by decide +kernel)) rfl (fun _ _ _ _ _ => rfl)
      (fun A outer s H E f c' hr' => pe_call F_read_claims hr' rfl g_read_claims k_read_claims b_read_claims .nil (passes_call (takes_of rfl rfl rfl rfl) (fun _ _ _ _ h => h)) (pa_cons (pe_op op_add_str (pe_op op_add_str pe_str (pv 1)) pe_str) pa_nil)) pe_int)))))))), ?_⟩
  have big : 100 ≤ sizeLine := by rw [sizeLine_eq]; decide
  have two : 2 ≤ sizeLine := by omega
  have onz : 1 ≤ sizeLine := by omega
  refine ⟨⟨_, rfl⟩, 30, rfl, by decide, by decide, fun Z hZ => ?_⟩
  have offZ := hS.off hZ
  have offcZ := hS.offc hZ
  refine lc_any (n := 30) (fun i H' => ∃ ds : List Nat, H' Z = some (.lst ((ds.map fun d => natS ((d : Nat) : Int)).map V.str)) ∧ ds.length = i ∧ (∀ d ∈ ds, 1 ≤ d ∧ d < 10) ∧ St H' d g c (n + 40 - i) ∧ Kp d g H H') ⟨[], upd_same, rfl, (fun _ h => by cases h), hS.same (same_upd hZ), Kp.of (same_upd hZ)⟩ (fun i H hi _ => hi) (fun H _ => Nat.le_refl _) ?_ ?_
  · rintro i x H1 H' hi ⟨ds, ea, dl, dd, S1, kp1⟩ ⟨rfl, rfl⟩
    refine ⟨rfl, ?_⟩
    unfold tYes
    simp only [↓reduceIte]
    refine ⟨_, rfl, d, g, c, n + 39 - i, 9, rfl, S1.less (by omega), by decide, by decide +kernel, fun z H2 z0 z9 S2 kp2 => ?_⟩
    obtain ⟨m, rfl⟩ := Int.eq_ofNat_of_zero_le z0
    have ea2 := kp2 _ _ ea offZ.2 offZ.1
    refine ⟨_, _, rfl, rfl, _, rfl, log_small (by omega), _, ea2, by rw [List.length_map, List.length_map]; omega, ds ++ [m + 1], ?_, by rw [List.length_append, dl]; rfl, ?_, ?_, ?_⟩
    · rw [upd_same, List.map_append, List.map_append]
      have e : (1 : Int) + ((m : Nat) : Int) = ((m + 1 : Nat) : Int) := by omega
      rw [e]
      rfl
    · intro q hq
      rcases List.mem_append.mp hq with w | w
      · exact dd q w
      · rw [List.mem_singleton.mp w]; omega
    · obtain ⟨gs, cs, r, t, y1, y2, y3, y4⟩ := S2
      have z := (⟨gs, cs, r, t, by rw [upd_ne offZ.2.symm]; exact y1, by rw [upd_ne offZ.1.symm]; exact y2, by rw [upd_ne offcZ.symm]; exact y3, y4⟩ : St (upd H2 Z (.lst (((ds.map fun d => natS ((d : Nat) : Int)).map V.str) ++ [.str (natS (1 + ((m : Nat) : Int)))]))) d g c (n + 39 - i))
      exact St.less z (by omega)
    · intro b o e n1 n2
      rw [upd_ne (ne_of_none e hZ)]
      exact kp2 _ _ (kp1 _ _ e n1 n2) n1 n2
  · rintro H1 ⟨ds, ea, dl, dd, S1, kp1⟩
    have th : Thirty ds := ⟨dl, dd⟩
    have T1 := tabs_kp hT kp1 hS
    refine ⟨Str.ofString "", Z, _, rfl, rfl, .inl (SqL.of ea), ?_, ?_⟩
    · have q := sum_le (fun x : Str => x.length) 1 (ds.map fun d => natS ((d : Nat) : Int)) fun x hx => by
        obtain ⟨m, hm, rfl⟩ := List.mem_map.mp hx
        have := (dd m hm).2
        show (natS ((m : Nat) : Int)).length ≤ 1
        rw [TL.len_tl, natS_tl, TL.numL_lt this]
        exact Nat.le_refl _
      rw [List.length_map, dl] at q
      rw [List.length_map, dl, show (Str.ofString "").length = 0 from rfl]
      omega
    have ej : Txt.join (Str.ofString "") (ds.map fun d => natS ((d : Nat) : Int)) = digs ds := join_digs fun m hm => (dd m hm).2
    rw [ej]
    have dlen : (digs ds).length = 30 := by rw [digs_len, dl]
    have r1 := long_read th
    have r2 := more_read th
    have r3 := two_read th
    have rs := two_split th
    have ri := thirty_int th
    have pos := thirty_pos th
    generalize numV ds = nv at r1 ri pos
    have l1 : (Str.ofString "a b: ").length = 5 := by decide +kernel
    have l2 : (Str.ofString " w(a) >= 0").length = 10 := by decide +kernel
    have l3 : (Str.ofString "1 w(a) >= 0").length = 11 := by decide +kernel
    have l4 : (Str.ofString "a b: 0 >= 0\na b: 1/1").length = 20 := by decide +kernel
    have l5 : (Str.ofString " w(a) >= 0\n").length = 11 := by decide +kernel
    have l6 : (Str.ofString "a b: 0 >= 1/").length = 12 := by decide +kernel
    have l7 : (Str.ofString " w(b)").length = 5 := by decide +kernel
    have l8 : (Hx.mulS (Str.ofString "9") 30).length = 30 := by decide +kernel
    have lsp : ∀ y ∈ Txt.split (Str.ofString "a b: 0 >= 0\na b: 1/1" ++ digs ds ++ Str.ofString " w(a) >= 0\n") NL, y.length ≤ 1000 := fun y hy => by
      have := split_len sep_nl y hy
      rw [append_len, append_len] at this
      omega
    generalize digs ds = Dx at dlen r1 r2 r3 ri lsp ⊢
    refine ⟨_, rfl, _, _, rfl, rfl, szl (by omega), _, _, rfl, rfl, by rw [append_len]; exact szl (by omega), .inr ⟨_, rfl, by rw [append_len, append_len]; omega, .inr ⟨_, r1, fun u H2 s2 hu => ?_⟩⟩⟩
    refine ⟨two, fun t1 h1 => ⟨onz, fun t2 h2 => ⟨_, rfl, Dx, _, rfl, ri, by omega, two, fun t3 h3 => ⟨onz, fun t4 h4 => ⟨two, fun t5 h5 => ?_⟩⟩⟩⟩⟩
    have u1 := same_upd (o := .tup [.str "a", .str "b"]) h1
    have u2 := same_upd (o := .tup [.str "a"]) h2
    have u3 := same_upd (o := .tup [.ref t2, .int ((nv : Nat) : Int)]) h3
    have u4 := same_upd (o := .tup [.ref t3]) h4
    have u5 := same_upd (o := .tup [.ref t1, .ref t4]) h5
    have o1 := (u2.trans (u3.trans (u4.trans u5))) _ _ (upd_same (H := H2) (a := t1) (o := .tup [.str "a", .str "b"]))
    have o2 := (u3.trans (u4.trans u5)) _ _ (upd_same (a := t2) (o := .tup [.str "a"]))
    have o3 := (u4.trans u5) _ _ (upd_same (a := t3) (o := .tup [.ref t2, .int ((nv : Nat) : Int)]))
    have o4 := u5 _ _ (upd_same (a := t4) (o := .tup [.ref t3]))
    have ux := u1.trans (u2.trans (u3.trans (u4.trans u5)))
    have hv5 : ClaimAt K _ (.ref t5) ABl [(Al, .w ((nv : Nat) : Int))] := ⟨t5, t1, t4, [.ref t3], rfl, SqT.of upd_same, SqT.of o1, SqT.of o4, .cons ⟨t3, t2, .int ((nv : Nat) : Int), rfl, SqT.of o3, o2, rfl⟩ .nil⟩
    refine ⟨u, .ref t5, ABl, [(Al, .w ((nv : Nat) : Int))], rfl, hu.keep (.of ux), hv5, read_rightG r1 (by rw [append_len, append_len]; omega), fun H3 s3 => ⟨_, rfl, iteF ?_⟩⟩
    have s13 := s2.trans (ux.trans s3)
    have S3 := S1.same s13
    have T3 := T1.ext s13
    clear o1 o2 o3 o4 u1 u2 u3 u4 u5 ux h1 h2 h3 h4 h5 hv5
    -- the claim of the long weight
    refine ⟨two, fun a1 h1 => ⟨onz, fun a2 h2 => ⟨_, rfl, _, _, rfl, rfl, by decide, by decide, by decide +kernel, by decide +kernel, _, N30, rfl, nines_int, by rw [show ((30 : Int).toNat) = 30 from rfl, l8]; decide, two, fun a3 h3 => ⟨two, fun a4 h4 => ⟨onz, fun a5 h5 => ?_⟩⟩⟩⟩⟩
    have u1 := same_upd (o := .tup [.str "a", .str "b"]) h1
    have u2 := same_upd (o := .tup [.str "b"]) h2
    have u3 := same_upd (o := .tup [.int (-1), .int N30]) h3
    have u4 := same_upd (o := .tup [.ref a2, .ref a3]) h4
    have u5 := same_upd (o := .lst [.ref a4]) h5
    have o1 := (u2.trans (u3.trans (u4.trans u5))) _ _ (upd_same (H := H3) (a := a1) (o := .tup [.str "a", .str "b"]))
    have o2 := (u3.trans (u4.trans u5)) _ _ (upd_same (a := a2) (o := .tup [.str "b"]))
    have o3 := (u4.trans u5) _ _ (upd_same (a := a3) (o := .tup [.int (-1), .int N30]))
    have o4 := u5 _ _ (upd_same (a := a4) (o := .tup [.ref a2, .ref a3]))
    have ux := u1.trans (u2.trans (u3.trans (u4.trans u5)))
    refine ⟨a1, a5, ABl, [.ref a4], [(Bl, .q (-1) N30)], rfl, SqT.of o1, tap_ab, SqL.of upd_same, .cons ⟨a4, a2, .ref a3, rfl, SqT.of o4, o2, ⟨a3, rfl, SqT.of o3⟩⟩ .nil, fun t ht => by rw [List.mem_singleton.mp ht]; exact q_ok2, fun t ht => by rw [List.mem_singleton.mp ht]; exact lot_b, by decide +kernel, fun v H4 s4 hv => ?_⟩
    have s34 := ux.trans s4
    have S4 := S3.same s34
    have T4' := T3.ext s34
    refine ⟨_, _, rfl, rfl, by decide, by decide, by decide +kernel, by decide +kernel, _, _, rfl, rfl, ?_, _, _, rfl, rfl, ?_, .inr ⟨_, rfl, ?_, .inr ⟨_, nine_read, fun u6 H6 s6 hu6 => ?_⟩⟩⟩
    · rw [show ((30 : Int).toNat) = 30 from rfl, l8]
      exact szl (by omega)
    · rw [show ((30 : Int).toNat) = 30 from rfl, append_len, l8]
      exact szl (by omega)
    · rw [show ((30 : Int).toNat) = 30 from rfl, append_len, append_len, l8]
      omega
    refine ⟨_, rfl, u6, v, ABl, gathT [(Bl, .q (-1) N30)], rfl, hu6, hv.keep (.of s6), read_rightG nine_read (by rw [append_len, append_len, l8]; omega), fun H7 s7 => ⟨_, rfl, iteF ?_⟩⟩
    have s47 := s6.trans s7
    have T7 := T4'.ext s47
    -- longer numbers
    refine ⟨T7, fun H8 e8 T8 => ⟨1, ⟨rfl, rfl⟩, fun R hRR => ?_⟩⟩
    unfold TCaught
    refine ⟨_, rfl, _, _, rfl, rfl, szl (by omega), _, _, rfl, rfl, by rw [append_len]; exact szl (by omega), .inr ⟨_, rfl, by rw [append_len, append_len]; omega, .inl ⟨r2, ?_⟩⟩⟩
    intro x9 H9 s9 nx9 ex9
    refine ⟨true, X0.er.exB, fun _ z hz => ?_, fun h => by cases h⟩
    have s10 := same_upd (o := ExK (.ref CB) (some x9) z) hz
    refine hRR z x9 _ upd_same (s10 _ _ ex9) ⟨_, rfl, iteF ?_⟩
    have T10 := T8.ext (s9.trans s10)
    refine ⟨T10, fun H11 e11 T11 => ⟨2, ⟨rfl, rfl⟩, fun R2 hRR2 => ?_⟩⟩
    unfold TCaught
    refine ⟨_, rfl, _, _, rfl, rfl, szl (by omega), _, _, rfl, rfl, by rw [append_len]; exact szl (by omega), .inr ⟨_, rfl, by rw [append_len, append_len]; omega, lsp, .inl ⟨2, r3, ?_⟩⟩⟩
    intro x12 H12 s12 nx12 ex12
    refine ⟨true, X0.er.exB, fun _ z hz => ?_, fun h => by cases h⟩
    have s13 := same_upd (o := ExK (.ref CB) (some x12) z) hz
    exact hRR2 z x12 _ upd_same (s13 _ _ ex12) (k _)
end
end K17
set_option maxHeartbeats 1000000
namespace K17
open PySem PySem.Spec PyProof.Rows L2 Hx RZ
theorem ints_of_all : ∀ {acc : List V}, (∀ y ∈ acc, ∃ z : Int, y = .int z) → ∃ cs : List Int, acc = cs.map V.int
  | [], _ => ⟨[], rfl⟩
  | y :: r, h => by
    obtain ⟨z, rfl⟩ := h y List.mem_cons_self
    obtain ⟨cs, e⟩ := ints_of_all fun x hx => h x (List.mem_cons_of_mem _ hx)
    exact ⟨z :: cs, by rw [e]; rfl⟩
section
variable {P : Program} {w : World} {K : PySem.W.Frag} {mg : Str → Option Value} {base : Heap}
def spBegun (K : PySem.W.Frag) : Sp := fun vs H Q _ => ∃ (s : Addr) (ns : List Int), vs = [.ref s] ∧ SqL K H s (ns.map V.int) ∧ ns.length ≤ 63 ∧ ∀ d g c H', St H' d g c 999999999 → Same H H' → Q (.ref d) H'
theorem sc_begun : FnScope ["script", "great", "cell"] ["script"] (defScope sL_begun) := ⟨rfl, rfl, rfl, by decide +kernel, rfl, by decide +kernel, by decide +kernel⟩
theorem ok_begun (D : Dn K mg "_law_begun" sL_begun) (h_abs : mg "abs" = none) : Ok P w K mg base L2.CX0 1 "_law_begun" ["script"] (spBegun K) := by
  refine Ok.mk0 D sc_begun (fun vs H Q E h => ?_) (fun _ _ _ _ _ _ us hl => match us, hl with | [_], _ => rfl) (fun f cdv A outer s H vs Q E hr h => ?_)
  · obtain ⟨x, ns, rfl, _⟩ := h
    rfl
  obtain ⟨s0, ns, rfl, hs, hl, k⟩ := h
  have nd := sc_begun.nd
  refine ⟨_, (pss_cons (ps_setLc (i := 1) (own := [("cell", 2)]) (g := gName 2) rfl nd rfl rfl (sw_true rfl rfl rfl (by decide +kernel)) (pi_list (pv 0)) (blkOk_by (own := [("cell", 2)]) (N := ["script", "great", "cell"]) (sc := defScope sL_begun) (by decide +kernel)) (fun _ _ _ _ _ => pg_name (i := 2) nd rfl (Or.inl rfl)) (fun _ _ _ _ _ => pts_one (pt_cmpR op_ge (pe_callB call_abs (by rfl) h_abs (by decide +kernel) (pa_cons (pv 2) pa_nil)) (pe_op op_pow pe_int pe_int) (nomark _))) (fun _ _ _ _ _ => (pe_op op_sub (pe_callB call_abs (by rfl) h_abs (by decide +kernel) (pa_cons (pv 2) pa_nil)) (pe_op op_pow pe_int pe_int))))
    (pss_one (ps_ret (pe_disp (pps_cons pe_str (pv 1) (pps_cons pe_str (pe_lc (own := [("cell", 2)]) (g := gName 2) (tt := tYes) rfl nd (pi_list (pv 0)) (blkOk_by (own := [("cell", 2)]) (N := ["script", "great", "cell"]) (sc := defScope sL_begun) (by decide +kernel)) (fun _ _ _ _ _ => pg_name (i := 2) nd rfl (Or.inl rfl)) (fun _ _ _ _ _ => pts_nil) (fun _ _ _ _ _ => (pe_callB call_abs (by rfl) h_abs (by decide +kernel) (pa_cons (pv 2) pa_nil)))) (pps_cons pe_str pe_int (pps_cons pe_str pe_int pps_nil)))) (by rfl) (by rfl) (fun z => by cases z) (by decide))))), ?_⟩
  have cp : CPow 10 18 := ⟨by decide, by decide, by decide⟩
  refine ⟨_, rfl, s0, rfl, ⟨_, hs⟩, fun g hg => ?_⟩
  refine lc_any (n := ns.length) (J := Itl K s0) (fun i H1 => ∃ gs : List Int, Same H H1 ∧ H1 g = some (.lst (gs.map V.int)) ∧ gs.length ≤ i) ⟨[], same_upd hg, upd_same, Nat.le_refl _⟩ (fun i H1 hi ⟨_, s1, _⟩ => ⟨_, _, same_seqL s1 hs, List.getElem?_eq_getElem (by simpa using hi)⟩) (fun H1 ⟨_, s1, _⟩ => ⟨_, same_seqL s1 hs, by simp⟩) ?_ ?_
  · rintro i x H1 H' hi ⟨gs, s1, eg, gl⟩ ⟨e9, yx⟩
    subst e9
    obtain ⟨z, rfl⟩ : ∃ z : Int, x = .int z := by
      have q := yx _ (same_seqL s1 hs)
      rw [List.getElem?_map] at q
      cases e : ns[i]? with
      | none => rw [e] at q; cases q
      | some z => rw [e] at q; exact ⟨z, (Option.some.inj q).symm⟩
    refine ⟨rfl, _, rfl, z, rfl, 10, 18, rfl, rfl, cp, _, _, rfl, rfl, _, rfl, ?_⟩
    by_cases hz : (10 : Int) ^ (18 : Int).toNat ≤ (if z < 0 then -z else z)
    · rw [decide_eq_true hz]
      refine iteT ⟨_, rfl, z, rfl, 10, 18, rfl, rfl, cp, _, _, rfl, rfl, gs.map V.int, eg, by rw [List.length_map, sizeLine_eq]; omega, gs ++ [(if z < 0 then -z else z) - (10 : Int) ^ (18 : Int).toNat], fun b u e => ?_, ?_, ?_⟩
      · rw [upd_ne (ne_of_none e hg)]
        exact s1 _ _ e
      · rw [upd_same, List.map_append]
        rfl
      · rw [List.length_append]; simp; omega
    · rw [decide_eq_false hz]
      exact iteF ⟨gs, s1, eg, by omega⟩
  · rintro H1 ⟨gs, s1, eg, gl⟩
    intro d hd
    have sd := same_upd (o := .dK []) hd
    refine ⟨_, rfl, _, rfl, s0, rfl, ⟨_, same_seqL (s1.trans sd) hs⟩, fun c hc => ?_⟩
    refine lc_rel (n := ns.length) (J := Itl K s0) (fun i y _ => ∃ z : Int, y = .int z) (fun _ _ _ _ _ h => h) hc (by rw [sizeLine_eq]; omega) (fun i H2 hi s2 => ⟨_, _, same_seqL (s1.trans (sd.trans s2)) hs, List.getElem?_eq_getElem (by simpa using hi)⟩) (fun H2 s2 => ⟨_, same_seqL (s1.trans (sd.trans s2)) hs, by simp⟩) ?_ ?_
    · rintro i x H2 H' F hi s2 ⟨e9, yx⟩ kk
      subst e9
      obtain ⟨z, rfl⟩ : ∃ z : Int, x = .int z := by
        have q := yx _ (same_seqL (s1.trans (sd.trans s2)) hs)
        rw [List.getElem?_map] at q
        cases e : ns[i]? with
        | none => rw [e] at q; cases q
        | some z => rw [e] at q; exact ⟨z, (Option.some.inj q).symm⟩
      exact ⟨rfl, _, rfl, z, rfl, kk _ _ ⟨_, rfl⟩ (Same.refl _)⟩
    · intro acc H2 s2 ec hl2 hy2
      obtain ⟨cs, rfl⟩ := ints_of_all (acc := acc) fun y hy => by
        obtain ⟨i, hi⟩ := List.getElem?_of_mem hy
        exact hy2 i y hi
      have ed := s2 _ _ (upd_same (H := H1) (a := d) (o := .dK []))
      have eg2 := s2 _ _ (sd _ _ eg)
      have ndg : d ≠ g := fun e => by rw [e, eg] at hd; cases hd
      have ndc : d ≠ c := fun e => by rw [← e, ed] at ec; cases ec
      have ncg : c ≠ g := fun e => by
        have q := sd _ _ eg
        rw [e] at hc
        rw [hc] at q
        cases q
      refine ⟨ed, kvS g c 0 0, rfl, by show 4 ≤ 15; decide, ?_⟩
      have em : mergeK [] (kvS g c 0 0) = kvS g c 0 0 := by
        unfold kvS
        kernel_rfl
      rw [em]
      refine k d g c _ ⟨gs, cs, 0, 0, upd_same, by rw [upd_ne ndg.symm]; exact eg2, by rw [upd_ne ndc.symm]; exact ec, ncg, by rw [List.length_map] at hl2; omega, by decide, by decide⟩ fun b u e => ?_
      have e1 := s1 _ _ e
      rw [upd_ne (ne_of_none e1 hd)]
      exact s2 _ _ (sd _ _ e1)
end
end K17
set_option maxHeartbeats 1000000
namespace K17
open PySem PySem.Spec PyProof.Rows L2 Hx RZ
/-! ### the law -/
/-- odd values -/
def OddAt (d g : Addr) (H : Hp) (v : V) : Prop := v = .non ∨ v = .int 5 ∨ v = .bl true ∨ v = .int 0 ∨ (∃ q, v = .ref q ∧ H q = some (.lst []) ∧ q ≠ d ∧ q ≠ g) ∨ ∃ q, v = .ref q ∧ H q = some (.tup [.str LA])
theorem OddAt.kx {d g c : Addr} {H H' : Hp} {v : V} {n : Nat} (e : Kx d g H H') (S : St H d g c n) : OddAt d g H v → OddAt d g H' v
  | .inl h => .inl h
  | .inr (.inl h) => .inr (.inl h)
  | .inr (.inr (.inl h)) => .inr (.inr (.inl h))
  | .inr (.inr (.inr (.inl h))) => .inr (.inr (.inr (.inl h)))
  | .inr (.inr (.inr (.inr (.inl ⟨q, e1, e2, e3, e4⟩)))) => .inr (.inr (.inr (.inr (.inl ⟨q, e1, e.lst e2 e3 e4, e3, e4⟩))))
  | .inr (.inr (.inr (.inr (.inr ⟨q, e1, e2⟩)))) => .inr (.inr (.inr (.inr (.inr ⟨q, e1, (e.tk S).1 _ _ e2⟩))))
theorem OddAt.dp {K : PySem.W.Frag} {d g : Addr} {H : Hp} {v : V} (h : OddAt d g H v) : ∃ dd, Dp K H v dd ∧ isTy (tagOf dd) "str" = false := by
  rcases h with rfl | rfl | rfl | rfl | ⟨q, rfl, e, _⟩ | ⟨q, rfl, e⟩
  · exact ⟨_, .non, rfl⟩
  · exact ⟨_, .int _, rfl⟩
  · exact ⟨_, .bl _, rfl⟩
  · exact ⟨_, .int _, rfl⟩
  · exact ⟨_, .lst (SqL.of e) .nil, rfl⟩
  · exact ⟨_, .tup (SqT.of e) (.cons (.str _) .nil), rfl⟩
theorem empty_text : textRead EMP = none := by
  have q : (textRead EMP).isNone = true := by decide +kernel
  exact Option.isNone_iff_eq_none.mp q
theorem empty_split : Txt.split EMP NL = [EMP] := TL.map_tl_inj (by
  rw [split_tl sep_nl]
  exact TL.spl_nil _ _ _)
theorem empty_claims : claimsRead EMP = .inr [] := by
  unfold claimsRead
  rw [empty_split]
  rfl
theorem tabs_upd {T : List (Addr × Str)} {H : Hp} {q : Addr} {xs ys : List V} (t : LamX.Tabs T H) (h : H q = some (.lst xs)) : LamX.Tabs T (upd H q (.lst ys)) := fun p hp => by
  obtain ⟨ps, a1, a2, a3⟩ := t p hp
  refine ⟨ps, by rw [upd_ne (ne_of a1 h (by intro z; cases z))]; exact a1, a2, fun pos cv hcv => ?_⟩
  obtain ⟨c', y1, y2⟩ := a3 pos cv hcv
  exact ⟨c', y1, by rw [upd_ne (ne_of y2 h (by intro z; unfold LamX.CodeO at z; cases z))]; exact y2⟩
theorem st_upd {H : Hp} {d g c q : Addr} {n : Nat} {o : HO} (h : St H d g c n) (qd : q ≠ d) (qg : q ≠ g) (qc : q ≠ c) : St (upd H q o) d g c n := by
  obtain ⟨gs, cs, r, t, y1, y2, y3, y4⟩ := h
  exact ⟨gs, cs, r, t, by rw [upd_ne qd.symm]; exact y1, by rw [upd_ne qg.symm]; exact y2, by rw [upd_ne qc.symm]; exact y3, y4⟩
theorem claims_dp {K : PySem.W.Frag} {H : Hp} {us : List V} {cl : List Claim} {bv : V} {bb : Claim0} (h : Paired (fun v c => ClaimAt K H v c.1 c.2) us cl) (hb : Dp K H bv bb.data) : Paired (fun v (c : Claim0) => Dp K H v c.data) (us ++ [bv]) (cl.map (fun c => claim0 c.1 c.2) ++ [bb]) := by
  induction h with
  | nil => exact .cons hb .nil
  | cons a _ ih =>
    refine .cons ?_ ih
    rw [claim0_data]
    exact ClaimAt.dp a
/-- wrong values for claims_text -/
def WrongAt (K : PySem.W.Frag) (d g : Addr) (H : Hp) (xs : List V) (v : V) : Prop := v = .non ∨ v = .int 5 ∨ v = .str "a b: 0 >= 0\n" ∨ (∃ q kvs, v = .ref q ∧ H q = some (.dK kvs) ∧ q ≠ d ∧ q ≠ g) ∨ ∃ q, v = .ref q ∧ H q = some (.lst xs) ∧ q ≠ d ∧ q ≠ g
theorem WrongAt.kx {K : PySem.W.Frag} {d g : Addr} {H H' : Hp} {xs : List V} {v : V} (e : Kx d g H H') : WrongAt K d g H xs v → WrongAt K d g H' xs v
  | .inl h => .inl h
  | .inr (.inl h) => .inr (.inl h)
  | .inr (.inr (.inl h)) => .inr (.inr (.inl h))
  | .inr (.inr (.inr (.inl ⟨q, kvs, e1, e2, e3, e4⟩))) => .inr (.inr (.inr (.inl ⟨q, kvs, e1, e _ _ e2 (fun ps z => by cases z) e3 e4, e3, e4⟩)))
  | .inr (.inr (.inr (.inr ⟨q, e1, e2, e3, e4⟩))) => .inr (.inr (.inr (.inr ⟨q, e1, e.lst e2 e3 e4, e3, e4⟩)))
theorem tNil_of {σ : L2.St} {H : Hp} {R : List V → Hp → Prop} (h : R [] H) : tNil σ H R := h
theorem wrong_goes {K : PySem.W.Frag} {C d g : Addr} {H : Hp} {xs : List V} {bs : List Claim0} {v : V} {Q : VK} {E : XK} (h : WrongAt K d g H xs v) (hp : Paired (fun v (c : Claim0) => Dp K H v c.data) xs bs) (fit : ∀ c ∈ bs, c.fit) (nok : bs.all Claim0.ok = false) (len : bs.length ≤ 1000)
    (raise : ∀ H', Same H H' → E (.ref C) none H') : spClaimsText K C [v] H Q E := by
  refine ⟨v, rfl, ?_⟩
  rcases h with rfl | rfl | rfl | ⟨q, kvs, rfl, e, _⟩ | ⟨q, rfl, e, _⟩
  · exact .inl ⟨⟨"NoneType", .base .non, .inl rfl⟩, raise⟩
  · exact .inl ⟨⟨"int", .base (.int _), .inr (.inl rfl)⟩, raise⟩
  · exact .inl ⟨⟨"str", .base (.str _), .inr (.inr (.inr (.inl rfl)))⟩, raise⟩
  · exact .inl ⟨⟨"dict", .base (.dK e), .inr (.inr (.inr (.inr rfl)))⟩, raise⟩
  · exact .inr (.inl ⟨q, xs, bs, rfl, .inl (SqL.of e), hp, fit, len, nok, raise⟩)
section
variable {P : Program} {w : World} {K : PySem.W.Frag} {mg : Str → Option Value} {base : Heap}
def spLaw (K : PySem.W.Frag) (T : List (Addr × Str)) : Sp := fun vs H Q _ => ∃ (a : Addr) (ns : List Int), vs = [.ref a] ∧ SqL K H a (ns.map V.int) ∧ ns.length ≤ 63 ∧ LamX.Tabs T H ∧ ∀ H', Q (.bl true) H'
theorem sc_law : FnScope ["script", "state", "some", "lap", "odd", "claim_here", "bad", "wrong"] ["script"] (defScope slaw) := ⟨rfl, rfl, rfl, by decide +kernel, rfl, by decide +kernel, by decide +kernel⟩
theorem ok_law {CT CB CC CD P1 P2 P3 P4 c0 f0 : Addr} (X0 : Looks K mg CT CB CC CD) (F4 : Four P1 P2 P3 P4) {oc dV kV doc pm ct : Value} {od an : Option Addr} {osl : Array (Option Value)} (lk0 : K.lookup f0 = some ⟨oc, od, .func (PySem.W.fnOf "law" "law" (defArgs slaw) (defBody slaw) (defScope slaw) dV kV doc pm an (.ref c0) ct), osl⟩) (hcd0 : PySem.W.codeIn K (.ref c0) "law" = true)
    (TB : LamX.TabB base mg c0 P4) (B0 : Ok P w K mg base L2.CX0 1 "_law_begun" ["script"] (spBegun K)) (B1 : Ok P w K mg base L2.CX0 2 "_law_draw" ["state", "room"] spDraw) (B2 : Ok P w K mg base L2.CX0 5 "_law_cl_claim" ["state", "taps_here", "most"] (spClaimD K)) (B3 : Ok P w K mg base L2.CX0 4 "_law_ct_taps" ["state", "least", "most"] (spTaps K))
    (B4 : Ok P w K mg base L2.CX0 3 "_law_pick" ["state", "some"] (spPick K)) (B5 : Ok P w K mg base L2.CX0 13 "_law_k17_one" ["state", "claim_here"] (spOne K (T4 P1 P2 P3 P4))) (B6 : Ok P w K mg base L2.CX0 13 "_law_k17_many" ["state", "some"] (spMany K (T4 P1 P2 P3 P4))) (B7 : Ok P w K mg base L2.CX0 4 "_law_ct_bad_claim" ["state"] (spBad K))
    (B8 : Ok P w K mg base (L2.CX P w) 8 "claim_text" ["claim"] (spClaimText K CC)) (B9 : Ok P w K mg base (L2.CX P w) 7 "claims_text" ["claims"] (spClaimsText K CD)) (B10 : Ok P w K mg base (L2.CX P w) 8 "read_claim" ["text"] (spReadClaim K CB)) (B11 : Ok P w K mg base (L2.CX P w) 8 "read_claims" ["text"] (spReadClaims K CB))
    (B12 : Ok P w K mg base L2.CX0 12 "_law_k17_long" ["state"] (spLong (T4 P1 P2 P3 P4))) (h_range : mg "range" = none) (h_dict : mg "dict" = none) :
    FnOk P w K mg base L2.CX0 14 f0 (PySem.W.fnOf "law" "law" (defArgs slaw) (defBody slaw) (defScope slaw) dV kV doc pm an (.ref c0) ct) ["script"] (spLaw K (T4 P1 P2 P3 P4)) := by
  obtain ⟨_, _, g_begun, k_begun, b_begun, F_begun⟩ := B0.ex
  obtain ⟨_, _, g_draw, k_draw, b_draw, F_draw⟩ := B1.ex
  obtain ⟨_, _, g_cl_claim, k_cl_claim, b_cl_claim, F_cl_claim⟩ := B2.ex
  obtain ⟨_, _, g_ct_taps, k_ct_taps, b_ct_taps, F_ct_taps⟩ := B3.ex
  obtain ⟨_, _, g_pick, k_pick, b_pick, F_pick⟩ := B4.ex
  obtain ⟨_, _, g_k17_one, k_k17_one, b_k17_one, F_k17_one⟩ := B5.ex
  obtain ⟨_, _, g_k17_many, k_k17_many, b_k17_many, F_k17_many⟩ := B6.ex
  obtain ⟨_, _, g_ct_bad_claim, k_ct_bad_claim, b_ct_bad_claim, F_ct_bad_claim⟩ := B7.ex
  obtain ⟨_, _, g_claim_text, k_claim_text, b_claim_text, F_claim_text⟩ := B8.ex
  obtain ⟨_, _, g_claims_text, k_claims_text, b_claims_text, F_claims_text⟩ := B9.ex
  obtain ⟨_, _, g_read_claim, k_read_claim, b_read_claim, F_read_claim⟩ := B10.ex
  obtain ⟨_, _, g_read_claims, k_read_claims, b_read_claims, F_read_claims⟩ := B11.ex
  obtain ⟨_, _, g_k17_long, k_k17_long, b_k17_long, F_k17_long⟩ := B12.ex
  obtain ⟨fc, fdc, gc, Fc⟩ := X0.ca
  have bc := Fc.bindsN (ps := ["action"]) fun _ _ _ _ _ _ us hl => match us, hl with | [_], _ => rfl
  obtain ⟨occ, odc, dVc, kVc, docc, pmc, anc, cdc, ctc, oslc, rfl, lkc, hcdc, hDc, hKc⟩ := Fc.ex
  obtain ⟨fr, fdr, gr, Fr⟩ := X0.re
  have br := Fr.bindsN (ps := ["action", "line"]) fun _ _ _ _ _ _ us hl => match us, hl with | [_, _], _ => rfl
  obtain ⟨ocr, odr, dVr, kVr, docr, pmr, anr, cdr, ctr, oslr, rfl, lkr, hcdr, hDr, hKr⟩ := Fr.ex
  have h_isinstance := X0.inst
  refine fn_of lk0 hcd0 sc_law (fun vs H Q E h => ?_) (fun A outer s H vs Q E hr h => ?_)
  · obtain ⟨a, ns, rfl, _⟩ := h
    rfl
  suffices hh : ∃ t, PSs (cxOf L2.CX0 P w K mg base ["script", "state", "some", "lap", "odd", "claim_here", "bad", "wrong"] "law" (defScope slaw) f0 (.ref c0) A outer s H E).nox (defBody slaw) t ∧ t { nx := fun _ H' => Q .non H', rt := Q } (L2.start ["script", "state", "some", "lap", "odd", "claim_here", "bad", "wrong"] vs) H by
    obtain ⟨t, ht, q⟩ := hh
    exact ⟨t, ht.nox, q⟩
  obtain ⟨a, ns, rfl, hs, hl, hT, k⟩ := h
  have nd := sc_law.nd
  have hu64 := hr.units
  have hr1 := hr.mono (show 1 ≤ 13 by decide)
  have hr2 := hr.mono (show 2 ≤ 13 by decide)
  have hr3 := hr.mono (show 3 ≤ 13 by decide)
  have hr4 := hr.mono (show 4 ≤ 13 by decide)
  have hr5 := hr.mono (show 5 ≤ 13 by decide)
  have hr8 := hr.mono (show 8 ≤ 13 by decide)
  have hr10 := hr.mono (show 10 ≤ 13 by decide)
  have hr11 := hr.mono (show 11 ≤ 13 by decide)
  have hr12 := hr.mono (show 12 ≤ 13 by decide)
  have m4 : (P4, q4) ∈ T4 P1 P2 P3 P4 := List.mem_cons_of_mem _ (List.mem_cons_of_mem _ (List.mem_cons_of_mem _ List.mem_cons_self))
  refine ⟨_, (pss_cons (ps_set (i := 1) nd rfl (Or.inr rfl) (pe_call F_begun hr1 rfl g_begun k_begun b_begun .nil pass0 (pa_cons (pv 0) pa_nil)))
  (pss_cons (ps_set (i := 2) nd rfl (Or.inl rfl) (pe_lst pa_nil))
  (pss_cons (ps_for PassesOwn.never rfl (pi_range1 rfl h_range (pa_cons (pe_call F_draw hr2 rfl g_draw k_draw b_draw .nil pass0 (pa_cons (pv 1) (pa_cons pe_int pa_nil))) pa_nil)) (pg_name (i := 3) nd rfl (Or.inl rfl))
    (pss_one (ps_expr (pe_bm PySem.F.plainAttrs_list PySem.F.slot_list_append PySem.F.type_list_append mt_append (pv 2) (pa_cons (pe_call F_cl_claim hr5 rfl g_cl_claim k_cl_claim b_cl_claim .nil pass0 (pa_cons (pv 1) (pa_cons (pe_call F_ct_taps hr4 rfl g_ct_taps k_ct_taps b_ct_taps .nil pass0 (pa_cons (pv 1) (pa_cons pe_int (pa_cons pe_int pa_nil)))) (pa_cons pe_int pa_nil)))) pa_nil)))))
  (pss_cons (ps_set (i := 4) nd rfl (Or.inr rfl) (pe_call F_pick hr3 rfl g_pick k_pick b_pick .nil pass0 (pa_cons (pv 1) (pa_cons (pe_lst (pa_cons pe_non (pa_cons pe_int (pa_cons (pe_lst pa_nil) (pa_cons pe_bl (pa_cons (pe_tup (pa_cons pe_str pa_nil)) (pa_cons pe_int pa_nil))))))) pa_nil))))
  (pss_cons (ps_if (PW.pt (pw_or (pt_cmpR (op_neD hu64) (pe_lc (own := [("claim_here", 5)]) (g := gName 5) rfl nd (pi_list (pv 2)) (blkOk_by (own := [("claim_here", 5)]) (N := ["script", "state", "some", "lap", "odd", "claim_here", "bad", "wrong"]) (sc := defScope slaw) (by decide +kernel)) (fun _ _ _ _ _ => pg_name (i := 5) nd rfl (Or.inl rfl)) (fun _ _ _ _ _ => pts_one (pt_not (pt_val (pe_call F_k17_one hr rfl g_k17_one k_k17_one b_k17_one .nil pass0 (pa_cons (pv 1) (pa_cons (pv 5) pa_nil)))))) (fun _ _ _ _ _ => pe_int)) (pe_lst pa_nil) (nomark _)) (pw_or1 (pt_not (pt_val (pe_call F_k17_many hr rfl g_k17_many k_k17_many b_k17_many .nil pass0 (pa_cons (pv 1) (pa_cons (pv 2) pa_nil))))))))
    (pss_one (ps_ret pe_bl))
    pss_nil)
  (pss_cons (ps_set (i := 6) nd rfl (Or.inr rfl) (pe_call F_ct_bad_claim hr4 rfl g_ct_bad_claim k_ct_bad_claim b_ct_bad_claim .nil pass0 (pa_cons (pv 1) pa_nil)))
  (pss_cons (ps_if (pt_not (pt_val (pe_callB call_isK (by rfl) h_isinstance (by decide +kernel) (pa_cons (LamX.pe_lamcall (k := 8) (T := T4 P1 P2 P3 P4) (TT := TCaught K CT) (a := "action") (Ng := ["action", "found", "error"]) (t := fun E => tCall (spClaimText K CC) [] E (tCons (tVar 6) tNil)) rfl gc Fc.kp lkc hcdc bc sc_caught rfl (Or.inl rfl)
      (caught_gives (p8 := ⟨0, 0, 0, 0⟩) rfl X0.er.tap (by decide) rfl rfl rfl (by decide +kernel) (by decide) (by decide) (by decide) (by decide) (fun _ => rfl) (fun _ => rfl)) TB rfl m4 F4.u4 hr10 (LamX.lamS_by (sc := defScope slaw) (by decide +kernel)) rfl (fun _ _ _ _ _ => rfl)
      (fun A outer s H E f c' hr' => pe_call F_claim_text hr' rfl g_claim_text k_claim_text b_claim_text .nil (passes_call (takes_of rfl rfl rfl rfl) (fun _ _ _ _ h => h)) (pa_cons (pv 6) pa_nil))) (pa_cons (pe_glob (v := .ref CC) rfl X0.er.bc rfl) pa_nil)))))
    (pss_one (ps_ret pe_bl))
    pss_nil)
  (pss_cons (ps_set (i := 7) nd rfl (Or.inr rfl) (pe_call F_pick hr3 rfl g_pick k_pick b_pick .nil pass0 (pa_cons (pv 1) (pa_cons (pe_lst (pa_cons pe_non (pa_cons pe_int (pa_cons (pe_op op_cat (pv 2) (pe_lst (pa_cons (pv 6) pa_nil))) (pa_cons pe_str (pa_cons (pe_callTy (call_dictP rfl) (by rfl) h_dict (by decide +kernel) (pa_cons (pe_lst (pa_cons (pe_tup (pa_cons pe_int (pa_cons (pv 6) pa_nil))) pa_nil)) pa_nil)) pa_nil)))))) pa_nil))))
  (pss_cons (ps_if (pt_not (pt_val (pe_callB call_isK (by rfl) h_isinstance (by decide +kernel) (pa_cons (LamX.pe_lamcall (k := 8) (T := T4 P1 P2 P3 P4) (TT := TCaught K CT) (a := "action") (Ng := ["action", "found", "error"]) (t := fun E => tCall (spClaimsText K CD) [] E (tCons (tVar 7) tNil)) rfl gc Fc.kp lkc hcdc bc sc_caught rfl (Or.inl rfl)
      (caught_gives (p8 := ⟨0, 0, 0, 0⟩) rfl X0.er.tap (by decide) rfl rfl rfl (by decide +kernel) (by decide) (by decide) (by decide) (by decide) (fun _ => rfl) (fun _ => rfl)) TB rfl m4 F4.u4 hr10 (LamX.lamS_by (sc := defScope slaw) (by decide +kernel)) rfl (fun _ _ _ _ _ => rfl)
      (fun A outer s H E f c' hr' => pe_call F_claims_text (hr'.mono (by decide)) rfl g_claims_text k_claims_text b_claims_text .nil (passes_call (takes_of rfl rfl rfl rfl) (fun _ _ _ _ h => h)) (pa_cons (pv 7) pa_nil))) (pa_cons (pe_glob (v := .ref CD) rfl X0.er.bd rfl) pa_nil)))))
    (pss_one (ps_ret pe_bl))
    pss_nil)
  (pss_cons (ps_if (pt_not (pt_val (pe_lam2 (k := 8) (T := T4 P1 P2 P3 P4) (TT := TRef K CT CB) (a := "action") (a1 := "action") (b := "line") (Nc := ["action", "found", "error"]) (xc := "_law_caught") (sc := defScope sL_caught) (gc := fc) (cdc := cdc) (Ng := ["action", "line", "found"]) (t := fun E => tCall (spReadClaim K CB) [] E (tCons (tVar 4) tNil))
      rfl gr Fr.kp lkr hcdr br sc_k17_refused rfl (Or.inl rfl) (gives_refused X0.er X0.inst gc Fc.kp lkc hcdc bc) TB rfl m4 F4.u4 hr11 (LamX.lamS_by (sc := defScope slaw) (by decide +kernel)) rfl (fun _ _ _ _ _ => rfl)
      (fun A outer s H E f c' hr' => pe_call F_read_claim hr' rfl g_read_claim k_read_claim b_read_claim .nil (passes_call (takes_of rfl rfl rfl rfl) (fun _ _ _ _ h => h)) (pa_cons (pv 4) pa_nil)) pe_int)))
    (pss_one (ps_ret pe_bl))
    pss_nil)
  (pss_cons (ps_if (pt_not (pt_val (pe_lam2 (k := 8) (T := T4 P1 P2 P3 P4) (TT := TRef K CT CB) (a := "action") (a1 := "action") (b := "line") (Nc := ["action", "found", "error"]) (xc := "_law_caught") (sc := defScope sL_caught) (gc := fc) (cdc := cdc) (Ng := ["action", "line", "found"]) (t := fun E => tCall (spReadClaims K CB) [] E (tCons (tVar 4) tNil))
      rfl gr Fr.kp lkr hcdr br sc_k17_refused rfl (Or.inl rfl) (gives_refused X0.er X0.inst gc Fc.kp lkc hcdc bc) TB rfl m4 F4.u4 hr11 (LamX.lamS_by (sc := defScope slaw) (by decide +kernel)) rfl (fun _ _ _ _ _ => rfl)
      (fun A outer s H E f c' hr' => pe_call F_read_claims hr' rfl g_read_claims k_read_claims b_read_claims .nil (passes_call (takes_of rfl rfl rfl rfl) (fun _ _ _ _ h => h)) (pa_cons (pv 4) pa_nil)) pe_int)))
    (pss_one (ps_ret pe_bl))
    pss_nil)
  (pss_one (ps_ret (pe_and (pe_lam2 (k := 8) (T := T4 P1 P2 P3 P4) (TT := TRef K CT CB) (a := "action") (a1 := "action") (b := "line") (Nc := ["action", "found", "error"]) (xc := "_law_caught") (sc := defScope sL_caught) (gc := fc) (cdc := cdc) (Ng := ["action", "line", "found"])
      rfl gr Fr.kp lkr hcdr br sc_k17_refused rfl (Or.inl rfl) (gives_refused X0.er X0.inst gc Fc.kp lkc hcdc bc) TB rfl m4 F4.u4 hr11 (LamX.lamS_by (sc := defScope slaw) (by decide +kernel)) rfl (fun _ _ _ _ _ => rfl)
      (fun A outer s H E f c' hr' => pe_call F_read_claim hr' rfl g_read_claim k_read_claim b_read_claim .nil (passes_call (takes_of rfl rfl rfl rfl) (fun _ _ _ _ h => h)) (pa_cons pe_str pa_nil)) pe_int)
      (pe_and (pe_cmpR (op_eqD hu64) (pe_call F_read_claims hr8 rfl g_read_claims k_read_claims b_read_claims .nil passNo (pa_cons pe_str pa_nil)) (pe_lst pa_nil) (nomark _)) (pe_one (pe_call F_k17_long hr12 rfl g_k17_long k_k17_long b_k17_long .nil pass0 (pa_cons (pv 1) pa_nil)))))))))))))))))), ?_⟩
  have big : 100 ≤ sizeLine := by rw [sizeLine_eq]; decide
  have sz : ∀ m : Nat, m ≤ 90 → m ≤ sizeLine := fun m h => by omega
  refine ⟨_, rfl, a, ns, rfl, hs, hl, fun d g c H1 S0 s1 => ?_⟩
  have T1 := hT.ext s1
  have S1 : St H1 d g c 10000 := S0.less (by decide)
  clear S0
  refine ⟨sz _ (by simp), fun p hp => ?_⟩
  have s2 := same_upd (o := .lst []) hp
  have pg := (S1.off hp).1
  have pd := (S1.off hp).2
  have pc := S1.offc hp
  have S2 := S1.same s2
  have T2 := T1.ext s2
  have hp2 : (upd H1 p (.lst [])) p = some (.lst []) := upd_same
  generalize upd H1 p (.lst []) = H2 at s2 S2 T2 hp2 ⊢
  refine ⟨_, rfl, d, g, c, 9999, 5, rfl, S2, by decide, by decide +kernel, fun z H3 z0 z5 S3 kp3 => ?_⟩
  obtain ⟨m, rfl⟩ := Int.eq_ofNat_of_zero_le z0
  have T3 := tabs_kp T2 kp3 S2
  have hp3 := kp3 _ _ hp2 pd pg
  refine ⟨(m : Int), rfl, by omega, by omega, ?_⟩
  rw [show ((m : Int)).toNat = m from Int.toNat_natCast m]
  let Pv : Nat → L2.St → Hp → Prop := fun i σ H' => ∃ (o3 : Option V) (us : List V) (cl : List Claim), σ = [some (.ref a), some (.ref d), some (.ref p), o3, none, none, none, none] ∧ H' p = some (.lst us) ∧ Paired (fun v (c : Claim) => ClaimAt K H' v c.1 c.2) us cl ∧ (∀ c ∈ cl, RightC c.1 c.2 ∧ ∀ t ∈ c.2, t.2 ∈ weights) ∧ cl.length = i ∧ St H' d g c (9000 - 200 * i) ∧ LamX.Tabs (T4 P1 P2 P3 P4) H'
  refine for_range Pv ⟨none, [], [], rfl, hp3, .nil, (fun _ h => by cases h), rfl, S3.less (by omega), T3⟩ ?_ ?_
  · rintro i σ H4 hi ⟨o3, us, cl, rfl, hp4, hus, rcs, cln, S4, T4'⟩
    refine ⟨_, rfl, .inl ⟨rfl, _, SqL.of hp4⟩, _, rfl, _, rfl, d, g, c, 8990 - 200 * i, rfl, S4.less (by omega), fun t taps H5 ht tp tin S5 kp5 => ?_⟩
    have T5 := tabs_kp T4' kp5 S4
    refine ⟨d, g, c, t, 8850 - 200 * i, taps, rfl, S5.less (by omega), ht, tp, tin, fun v L H6 hv rc hw S6 kp6 => ?_⟩
    have kp46 := kp5.trans kp6
    have hp6 := kp46 _ _ hp4 pd pg
    have T6 := tabs_kp T5 kp6 S5
    have ul := paired_len hus
    have tkp : TK H6 (upd H6 p (.lst (us ++ [v]))) := .lst hp6
    refine ⟨p, us, v, rfl, rfl, hp6, by omega, _, us ++ [v], cl ++ [(taps, L)], rfl, upd_same, ?_, ?_, by rw [List.length_append, cln]; rfl, (st_upd S6 pd pg pc).less (by omega), tabs_upd T6 hp6⟩
    · exact paired_snoc (paired_imp hus fun v c h => h.keep ((kp46.tk S4).trans tkp)) (ClaimAt.keep tkp hv)
    · intro c' hc'
      rcases List.mem_append.mp hc' with w | w
      · exact rcs c' w
      · rw [List.mem_singleton.mp w]
        exact ⟨rc, hw⟩
  · rintro σ H4 ⟨o3, us, cl, rfl, hp4, hus, rcs, cln, S4, T4'⟩
    have few : cl.length ≤ 4 := by omega
    have ul := paired_len hus
    have S4' : St H4 d g c 7000 := S4.less (by omega)
    clear S4
    -- an odd value
    refine ⟨_, rfl, sz _ (by simp), fun o1 h1 => ⟨sz _ (by simp), fun o2 h2 => ⟨sz _ (by simp), fun lq hlq => ?_⟩⟩⟩
    have u1 := same_upd (o := .lst []) h1
    have u2 := same_upd (o := .tup [.str LA]) h2
    have u3 := same_upd (o := .lst [.non, .int 5, .ref o1, .bl true, .ref o2, .int 0]) hlq
    have f1 := (u2.trans u3) _ _ (upd_same (H := H4) (a := o1) (o := .lst []))
    have f2 := u3 _ _ (upd_same (a := o2) (o := .tup [.str LA]))
    have off1 := S4'.off h1
    have offq := (S4'.same (u1.trans u2)).off hlq
    have ux := u1.trans (u2.trans u3)
    have S5 := S4'.same ux
    have T5 := T4'.ext ux
    refine ⟨d, g, c, lq, 6900, _, rfl, S5.less (by omega), SqL.of upd_same, offq.1, by simp, by simp, fun j ov H6 hov S6 kp6 => ?_⟩
    have odd : OddAt d g H6 ov := by
      match j, hov with
      | 0, h => cases h; exact .inl rfl
      | 1, h => cases h; exact .inr (.inl rfl)
      | 2, h => cases h; exact .inr (.inr (.inr (.inr (.inl ⟨o1, rfl, kp6 _ _ f1 off1.2 off1.1, off1.2, off1.1⟩))))
      | 3, h => cases h; exact .inr (.inr (.inl rfl))
      | 4, h => cases h; exact .inr (.inr (.inr (.inr (.inr ⟨o2, rfl, (kp6.tk S5).1 _ _ f2⟩))))
      | 5, h => cases h; exact .inr (.inr (.inr (.inl rfl)))
    have T6 := tabs_kp T5 kp6 S5
    have tk46 : TK H4 H6 := (TK.of ux).trans (kp6.tk S5)
    have hp6 := kp6 _ _ (ux _ _ hp4) pd pg
    have hus6 : Paired (fun v (c : Claim) => ClaimAt K H6 v c.1 c.2) us cl := paired_imp hus fun v c h => h.keep tk46
    clear f1 f2 u1 u2 u3 ux hov h1 h2 hlq T5 S5 kp6 tk46 hus
    -- each claim
    refine ⟨_, rfl, p, rfl, ⟨_, SqL.of hp6⟩, fun Z hZ => ?_⟩
    have offZ := S6.off hZ
    have offcZ := S6.offc hZ
    have sZ := same_upd (o := .lst []) hZ
    refine lc_any (n := us.length) (fun i H' => H' Z = some (.lst []) ∧ St H' d g c (6800 - 50 * i) ∧ Kx d g H6 H' ∧ LamX.Tabs (T4 P1 P2 P3 P4) H') ⟨upd_same, (S6.same sZ).less (by omega), .of sZ, T6.ext sZ⟩ (fun i H7 hi ⟨_, _, kx, _⟩ => ⟨_, _, SqL.of (kx.lst hp6 pd pg), List.getElem?_eq_getElem hi⟩) (fun H7 ⟨_, _, kx, _⟩ => ⟨_, SqL.of (kx.lst hp6 pd pg), Nat.le_refl _⟩) ?_ ?_
    · rintro i x H7 H' hi ⟨eZ, S7, kx, T7⟩ ⟨rfl, yx⟩
      have e := yx _ (SqL.of (kx.lst hp6 pd pg))
      obtain ⟨cc, ec, hcl⟩ := L2.paired_get hus6 e
      obtain ⟨rc, hw⟩ := rcs cc (List.mem_of_getElem? ec)
      refine ⟨rfl, _, rfl, _, rfl, d, g, c, 6750 - 50 * i, x, cc.1, cc.2, rfl, S7.less (by omega), hcl.keep (kx.tk S6), rc, hw, T7, fun H8 S8 kx8 T8 => ⟨_, rfl, iteF ⟨kx8.lst eZ offZ.2 offZ.1, S8.less (by omega), kx.trans kx8, T8⟩⟩⟩
    · rintro H7 ⟨eZ, S7, kx, T7⟩
      refine ones_ne (c := 0) eZ fun H8 s8 => ⟨_, rfl, iteF ?_⟩
      have S8 : St H8 d g c 6500 := (S7.same s8).less (by omega)
      have T8 := T7.ext s8
      have kx68 := kx.trans (.of s8)
      have hp8 := kx68.lst hp6 pd pg
      have hus8 : Paired (fun v (c : Claim) => ClaimAt K H8 v c.1 c.2) us cl := paired_imp hus6 fun v c h => h.keep (kx68.tk S6)
      refine ⟨_, rfl, _, rfl, d, g, c, p, 6400, us, cl, rfl, S8.less (by omega), hp8, pd, pg, hus8, fun c' hc' => (rcs c' hc').1, few, T8, fun H9 S9 kx9 T9 => ⟨_, rfl, iteF ?_⟩⟩
      have kx69 := kx68.trans kx9
      -- a value that is no claim
      refine ⟨_, rfl, d, g, c, 6300, rfl, S9.less (by omega), fun bv bb H10 hbd bfit bnok S10 kp10 => ?_⟩
      have T10 := tabs_kp T9 kp10 S9
      refine ⟨T10, fun H11 e11 T11 => ?_⟩
      unfold TCaught
      refine ⟨_, rfl, bv, rfl, .inl ⟨bb, hbd _ (.ext e11), bfit, bnok, fun H12 s12 => ⟨true, X0.er.exC, fun _ z hz => ?_, fun h => by cases h⟩⟩⟩
      have s13 := same_upd (o := ExK (.ref CC) none z) hz
      refine ⟨z, CC, none, .ref CC, .ref CC, true, rfl, upd_same, (fun y e => by cases e), X0.er.ecC, fun u r => r, kit_self, _, rfl, ?_⟩
      refine iteF ?_
      have k1013 : Kx d g H10 (upd H12 z (ExK (.ref CC) none z)) := (Kx.ext e11).trans (.of (s12.trans s13))
      have S13 := (S10.ext e11).same (s12.trans s13)
      have T13 := T11.ext (s12.trans s13)
      generalize upd H12 z (ExK (.ref CC) none z) = H13 at k1013 S13 T13 ⊢
      clear s12 s13 hz
      have kx613 := kx69.trans ((Kx.kp kp10).trans k1013)
      have hp13 := kx613.lst hp6 pd pg
      -- wrong values
      refine ⟨_, rfl, _, rfl, _, rfl, sz _ (by simp), fun l1 h1 => ⟨p, l1, us, [bv], rfl, rfl, (same_upd h1) _ _ hp13, upd_same, by simp; omega, fun l2 h2 => ?_⟩⟩
      have v1 := same_upd (o := .lst [bv]) h1
      have v2 := same_upd (o := .lst (us ++ [bv])) h2
      refine ⟨_, rfl, sz _ (by simp), fun t1 ht1 => ⟨sz _ (by simp), fun l3 h3 => ⟨l3, [t1], [(.inl 0, bv)], rfl, SqL.of upd_same, .cons (SqT.of ((same_upd h3) _ _ upd_same)) .nil, fun dd hdd => ⟨sz _ (by simp), fun l4 h4 => ?_⟩⟩⟩⟩
      have v3 := same_upd (o := .tup [.int 0, bv]) ht1
      have v4 := same_upd (o := .lst [.ref t1]) h3
      have v5 := same_upd (o := .dK (mergeK [] [(.inl 0, bv)])) hdd
      have v6 := same_upd (o := .lst [.non, .int 5, .ref l2, .str "a b: 0 >= 0\n", .ref dd]) h4
      have fl2 := (v3.trans (v4.trans (v5.trans v6))) _ _ (upd_same (a := l2) (o := .lst (us ++ [bv])))
      have fdd := v6 _ _ (upd_same (a := dd) (o := .dK (mergeK [] [(.inl 0, bv)])))
      have offl2 := (S13.same v1).off h2
      have offdd := (S13.same (v1.trans (v2.trans (v3.trans v4)))).off hdd
      have offl4 := (S13.same (v1.trans (v2.trans (v3.trans (v4.trans v5))))).off h4
      have vx := v1.trans (v2.trans (v3.trans (v4.trans (v5.trans v6))))
      have S14 := S13.same vx
      have T14 := T13.ext vx
      refine ⟨d, g, c, l4, 6200, _, rfl, S14.less (by omega), SqL.of upd_same, offl4.1, by simp, by simp, fun j wv H15 hwv S15 kp15 => ?_⟩
      have wrong : WrongAt K d g H15 (us ++ [bv]) wv := by
        match j, hwv with
        | 0, h => cases h; exact .inl rfl
        | 1, h => cases h; exact .inr (.inl rfl)
        | 2, h => cases h; exact .inr (.inr (.inr (.inr ⟨l2, rfl, kp15 _ _ fl2 offl2.2 offl2.1, offl2.2, offl2.1⟩)))
        | 3, h => cases h; exact .inr (.inr (.inl rfl))
        | 4, h => cases h; exact .inr (.inr (.inr (.inl ⟨dd, _, rfl, kp15 _ _ fdd offdd.2 offdd.1, offdd.2, offdd.1⟩)))
      have T15 := tabs_kp T14 kp15 S14
      have k1315 : Kx d g H13 H15 := (Kx.of vx).trans (.kp kp15)
      clear fl2 fdd offl2 offdd offl4 v1 v2 v3 v4 v5 v6 vx hwv h1 h2 ht1 h3 hdd h4 S14 T14 kp15
      refine ⟨T15, fun H16 e16 T16 => ?_⟩
      have k1516 : Kx d g H15 H16 := .ext e16
      have kx616 := kx613.trans (k1315.trans k1516)
      have k1016 := k1013.trans (k1315.trans k1516)
      have wrong16 := wrong.kx k1516
      have S16 := S15.ext e16
      have kx1316 := k1315.trans k1516
      have hp16 := kx616.lst hp6 pd pg
      have hus16 : Paired (fun v (c : Claim) => ClaimAt K H16 v c.1 c.2) us cl := paired_imp hus6 fun v c h => h.keep (kx616.tk S6)
      have big16 : Paired (fun v (c : Claim0) => Dp K H16 v c.data) (us ++ [bv]) (cl.map (fun c => claim0 c.1 c.2) ++ [bb]) := claims_dp hus16 (hbd _ k1016)
      have fits16 : ∀ c' ∈ cl.map (fun c => claim0 c.1 c.2) ++ [bb], c'.fit := fun c' hc' => by
        rcases List.mem_append.mp hc' with w | w
        · obtain ⟨c0', m0, rfl⟩ := List.mem_map.mp w
          exact right_fit (rcs c0' m0).1
        · rw [List.mem_singleton.mp w]
          exact bfit
      have nok16 : (cl.map (fun c => claim0 c.1 c.2) ++ [bb]).all Claim0.ok = false := by
        rw [List.all_append]
        simp [bnok]
      have len16 : (cl.map (fun c => claim0 c.1 c.2) ++ [bb]).length ≤ 1000 := by simp; omega
      refine ⟨_, rfl, ?_⟩
      refine tNil_of ?_
      simp only [List.append_nil]
      refine wrong_goes (C := CD) wrong16 big16 fits16 nok16 len16 fun H17 s17 => ?_
      refine ⟨true, X0.er.exD, fun _ z hz => ?_, fun h => by cases h⟩
      have s18 := same_upd (o := ExK (.ref CD) none z) hz
      refine ⟨z, CD, none, .ref CD, .ref CD, true, rfl, upd_same, (fun y e => by cases e), X0.er.ecD, fun u r => r, kit_self, _, rfl, iteF ?_⟩
      have T18 := T16.ext (s17.trans s18)
      have S18 := S16.same (s17.trans s18)
      have kx618 := kx616.trans (.of (s17.trans s18))
      generalize upd H17 z (ExK (.ref CD) none z) = H18 at T18 S18 kx618 ⊢
      clear s17 s18 hz big16 hus16 hp16 wrong16 wrong e16 e11
      have odd18 := odd.kx kx618 S6
      refine ⟨T18, fun H19 e19 T19 => ⟨1, ⟨rfl, rfl⟩, fun R hRR => ?_⟩⟩
      unfold TCaught
      have k1819 : Kx d g H18 H19 := .ext e19
      have odd19 := odd18.kx k1819 S18
      have S19 := S18.ext e19
      obtain ⟨dd, hdd, nostr⟩ := odd19.dp
      refine ⟨_, rfl, .inl ⟨ov, dd, rfl, hdd, nostr, ?_⟩⟩
      intro x3 H20 s20 nx3 ex3
      refine ⟨true, X0.er.exB, fun _ z3 hz3 => ?_, fun h => by cases h⟩
      have s21 := same_upd (o := ExK (.ref CB) (some x3) z3) hz3
      have S21 := S19.same (s20.trans s21)
      have T21 := T19.ext (s20.trans s21)
      have k1921 : Kx d g H19 (upd H20 z3 (ExK (.ref CB) (some x3) z3)) := .of (s20.trans s21)
      have odd21 := odd19.kx k1921 S19
      refine hRR z3 x3 _ upd_same (s21 _ _ ex3) ⟨_, rfl, iteF ?_⟩
      generalize upd H20 z3 (ExK (.ref CB) (some x3) z3) = H21 at S21 T21 k1921 odd21 ⊢
      clear s20 nx3 ex3 hz3 s21 hRR
      refine ⟨T21, fun H22 e22 T22 => ⟨1, ⟨rfl, rfl⟩, fun R hRR => ?_⟩⟩
      unfold TCaught
      have k2122 : Kx d g H21 H22 := .ext e22
      have odd22 := odd21.kx k2122 S21
      have S22 := S21.ext e22
      obtain ⟨d2, hd2, nostr2⟩ := odd22.dp
      refine ⟨_, rfl, .inl ⟨ov, d2, rfl, hd2, nostr2, ?_⟩⟩
      intro x4 H23 s23 nx4 ex4
      refine ⟨true, X0.er.exB, fun _ z4 hz4 => ?_, fun h => by cases h⟩
      have s24 := same_upd (o := ExK (.ref CB) (some x4) z4) hz4
      have S24 := S22.same (s23.trans s24)
      have T24 := T22.ext (s23.trans s24)
      refine hRR z4 x4 _ upd_same (s24 _ _ ex4) ⟨_, rfl, iteF ?_⟩
      generalize upd H23 z4 (ExK (.ref CB) (some x4) z4) = H24 at S24 T24 ⊢
      clear s23 nx4 ex4 hz4 s24 hRR
      -- the empty text
      refine ⟨T24, fun H25 e25 T25 => ⟨1, ⟨rfl, rfl⟩, fun R hRR => ?_⟩⟩
      unfold TCaught
      have S25 := S24.ext e25
      refine .inr ⟨EMP, rfl, by decide, .inl ⟨empty_text, ?_⟩⟩
      intro x5 H26 s26 nx5 ex5
      refine ⟨true, X0.er.exB, fun _ z5 hz5 => ?_, fun h => by cases h⟩
      have s27 := same_upd (o := ExK (.ref CB) (some x5) z5) hz5
      have S27 := S25.same (s26.trans s27)
      have T27 := T25.ext (s26.trans s27)
      refine hRR z5 x5 _ upd_same (s27 _ _ ex5) ⟨_, rfl, iteT ?_⟩
      generalize upd H26 z5 (ExK (.ref CB) (some x5) z5) = H27 at S27 T27 ⊢
      clear s26 nx5 ex5 hz5 s27 hRR
      refine .inr ⟨EMP, rfl, by decide, fun y hy => ?_, .inr ⟨[], empty_claims, fun lf us' H28 s28 hf hus' => ?_⟩⟩
      · rw [empty_split, List.mem_singleton] at hy
        rw [hy]
        decide
      · cases hus'
        refine ⟨sz _ (by simp), fun lz hz => ?_⟩
        have s29 := same_upd (o := .lst []) hz
        refine ⟨.list [], .list [], .lst (.of ((s29) _ _ hf)) .nil, .lst (.of upd_same) .nil, rfl, rfl, ?_⟩
        refine ⟨_, rfl, iteT ⟨_, rfl, d, g, c, 9, rfl, (S27.same (s28.trans s29)).less (by omega), T27.ext (s28.trans s29), fun H' => k H'⟩⟩
end
end K17
set_option maxHeartbeats 4000000
namespace K17
open PySem PySem.Spec PyProof.Rows L2 Hx RZ
/-! ### the end -/
theorem dn_of {K : PySem.W.Frag} {mg : Str → Option Value} {x : Str} {st : Stmt} (g : mg x = some (.ref (He.ga K x))) (F : ∃ fd, FunD K (dfn x st).name (dfn x st).qual (dfn x st).params (dfn x st).body (dfn x st).scope ((dfn x st).dvs K) ((dfn x st).kws K) (He.fAd K (dfn x st).at_) fd) : Dn K mg x st := by
  obtain ⟨fd, q⟩ := F
  exact ⟨_, fd, g, q⟩
theorem fourB_ok {K : PySem.W.Frag} (h : fourB K = true) : Four (tabA K "_law_k17_read_right") (tabA K "_law_k17_lines_right") (tabA K "_law_k17_long") (tabA K "law") := by
  unfold fourB at h
  simp only [Bool.and_eq_true, decide_eq_true_eq] at h
  obtain ⟨h1, h2, h3, h4, h5, h6⟩ := h
  exact ⟨h1, h2, h3, h4, h5, h6⟩
section
variable {w : World} {K : PySem.W.Frag} {mg : Str → Option Value} {base : Heap}
theorem bad_text {cda cc : Addr} {kV doc pm ct : Value} {an : Option Addr} (T : OexC K (aBT K)) (g : mg "BadText" = some (.ref (aBT K))) (iC : PySem.W.findIn K (.ref (aBT K)) "__init__" = some (some (.ref (aIni K)))) (tI : PySem.W.typeIn K (.ref (aIni K)) = some (.type "function"))
    (hno : PySem.W.findIn K (.ref (aBT K)) "line" = some none) (hm : mg "super" = none)
    (S : SupC PW0 K (aBT K) (aIni K) cda cc (PySem.W.ksFn "__init__" "BadText.__init__" (defArgs sBadText_init) (defBody sBadText_init) (defScope sBadText_init) .none kV doc pm an (.ref cda) ct cc)) (hcd : PySem.W.codeIn K (.ref cda) "BadText.__init__" = true) : BadT PW0 w K mg base (aBT K) := by
  refine ⟨T, g, aIni K, _, iC, tI, ini_ok (x := "self") (y := "line") (fld := "line") (k := 0) (ok := okLine) S hcd rfl rfl rfl rfl rfl (by decide +kernel) (by decide +kernel) (by decide +kernel) rfl rfl hm (by decide +kernel) rfl rfl hno
    (fun A outer s H => pa_cons (pe_joined (.cons pe_str (.cons (pe_fmt (pv 1)) .nil))) pa_nil) ?_ (by decide) (by decide) (by decide) (by decide) (fun _ => rfl) (fun _ => rfl) (fun _ => rfl) (fun _ => rfl) (fun _ => rfl) L2.CX0, ?_⟩
  · rintro a v H ⟨n, rfl, hn⟩ Q q
    refine ⟨Str.ofString "wrong in line ", rfl, ?_, _, rfl, .inr ⟨n, rfl, log_small (by omega), natS n, rfl, ?_, q _⟩⟩
    · rw [sizeLine_eq]
      decide +kernel
    · have l := natS_len (i := (n : Int)) (by omega) (by omega)
      have e0 : (Str.empty ++ Str.ofString "wrong in line ").length = 14 := by decide +kernel
      rw [append_len, e0, sizeLine_eq]
      omega
  · exact .all fun us hl => match us, hl with | [_, _], _ => rfl

theorem dnT_of {x : Str} {st : Stmt} (g : mg x = some (.ref (He.ga K x))) (F : ∃ fd, FunD K (dfn x st).name (dfn x st).qual (dfn x st).params (dfn x st).body (dfn x st).scope ((dfn x st).dvs K) ((dfn x st).kws K) (He.fAd K (dfn x st).at_) fd) (TB : LamX.TabB base mg (He.cT K (x, none)).1 (He.cT K (x, none)).2) : DnT K mg base x st (tabA K x) := by
  obtain ⟨fd, q⟩ := F
  obtain ⟨oc, od, dV, kV, doc, pm, an, cdv, ct, osl, efd, lk, hcd, hD, hK⟩ := q.ex
  refine ⟨_, fd, g, q, fun c ec => ?_⟩
  subst efd
  have e : He.codeOf K (x, none) = c := He.codeOf_eq lk ec
  have e1 : (He.cT K (x, none)).1 = c := e
  rw [e1] at TB
  exact TB
theorem own_of {x : Str} (c : (He.Fa.exc x).ok K = true) (g : mg x = some (.ref (He.ga K x))) : OwnE K mg x (He.ga K x) := by
  have xc := He.exc_ok c
  exact ⟨⟨_, _, _, _, PySem.F.excBase_ValueError, xc.1⟩, g, xc.2.1, xc.2.2.1, xc.2.2.2⟩
end
end K17
set_option maxHeartbeats 4000000
namespace K17
open PySem PySem.Spec PyProof.Rows L2 Hx RZ
section
variable {w : World} {K : PySem.W.Frag} {mg : Str → Option Value} {base : Heap}
theorem law_at {h : Heap} {f0 : Addr} (X : K.In h) (G : h.Ns mainGlobals mg) (S : He.SaysX fa fn [] tf ex w h K) (I : iniObs K = iniVal) (hfa : mg "law" = some (.ref f0)) : LamX.LawAtS PySem.Challenge.rw_behindtaps_k17_texts_of_claims w K L2.CX0 14 63 "script" mg f0 h := by
  have c := S.t.d
  have e := S.more
  unfold ex at e
  simp only [Bool.and_eq_true, decide_eq_true_eq] at e
  obtain ⟨e1, e2, e3, e4, e5, e6, e7, e8, e9, e10, e11⟩ := e
  have g_is_name := He.glo_ok X G (c.fact 0 (f := .glo "is_name") rfl)
  have g_are_names := He.glo_ok X G (c.fact 1 (f := .glo "are_names") rfl)
  have g_are_taps := He.glo_ok X G (c.fact 2 (f := .glo "are_taps") rfl)
  have g_is_lot := He.glo_ok X G (c.fact 3 (f := .glo "is_lot") rfl)
  have g_check_taps := He.glo_ok X G (c.fact 4 (f := .glo "check_taps") rfl)
  have g_is_whole := He.glo_ok X G (c.fact 5 (f := .glo "is_whole") rfl)
  have g_is_number := He.glo_ok X G (c.fact 6 (f := .glo "is_number") rfl)
  have g_divided := He.glo_ok X G (c.fact 7 (f := .glo "divided") rfl)
  have g_top_of := He.glo_ok X G (c.fact 8 (f := .glo "top_of") rfl)
  have g_bottom_of := He.glo_ok X G (c.fact 9 (f := .glo "bottom_of") rfl)
  have g_plus := He.glo_ok X G (c.fact 10 (f := .glo "plus") rfl)
  have g_turned := He.glo_ok X G (c.fact 11 (f := .glo "turned") rfl)
  have g_number_text := He.glo_ok X G (c.fact 12 (f := .glo "number_text") rfl)
  have g_read_number := He.glo_ok X G (c.fact 13 (f := .glo "read_number") rfl)
  have g_read_whole := He.glo_ok X G (c.fact 14 (f := .glo "read_whole") rfl)
  have g_is_claim := He.glo_ok X G (c.fact 15 (f := .glo "is_claim") rfl)
  have g_claim_of := He.glo_ok X G (c.fact 16 (f := .glo "claim_of") rfl)
  have g_is_term := He.glo_ok X G (c.fact 17 (f := .glo "is_term") rfl)
  have g_are_claim_terms := He.glo_ok X G (c.fact 18 (f := .glo "are_claim_terms") rfl)
  have g_check_claim := He.glo_ok X G (c.fact 19 (f := .glo "check_claim") rfl)
  have g_summed := He.glo_ok X G (c.fact 20 (f := .glo "summed") rfl)
  have g_greater_terms := He.glo_ok X G (c.fact 21 (f := .glo "greater_terms") rfl)
  have g_lesser_terms := He.glo_ok X G (c.fact 22 (f := .glo "lesser_terms") rfl)
  have g_claim_text := He.glo_ok X G (c.fact 23 (f := .glo "claim_text") rfl)
  have g_read_claim := He.glo_ok X G (c.fact 24 (f := .glo "read_claim") rfl)
  have g_claims_text := He.glo_ok X G (c.fact 25 (f := .glo "claims_text") rfl)
  have g_read_claims := He.glo_ok X G (c.fact 26 (f := .glo "read_claims") rfl)
  have g_text_in := He.glo_ok X G (c.fact 27 (f := .glo "text_in") rfl)
  have g_side_text := He.glo_ok X G (c.fact 28 (f := .glo "side_text") rfl)
  have g_term_text := He.glo_ok X G (c.fact 29 (f := .glo "term_text") rfl)
  have g_read_text := He.glo_ok X G (c.fact 30 (f := .glo "read_text") rfl)
  have g_read_sides := He.glo_ok X G (c.fact 31 (f := .glo "read_sides") rfl)
  have g_read_side := He.glo_ok X G (c.fact 32 (f := .glo "read_side") rfl)
  have g_read_term := He.glo_ok X G (c.fact 33 (f := .glo "read_term") rfl)
  have g_read_names := He.glo_ok X G (c.fact 34 (f := .glo "read_names") rfl)
  have g__law_begun := He.glo_ok X G (c.fact 35 (f := .glo "_law_begun") rfl)
  have g__law_blended := He.glo_ok X G (c.fact 36 (f := .glo "_law_blended") rfl)
  have g__law_draw := He.glo_ok X G (c.fact 37 (f := .glo "_law_draw") rfl)
  have g__law_pick := He.glo_ok X G (c.fact 38 (f := .glo "_law_pick") rfl)
  have g__law_shuffled := He.glo_ok X G (c.fact 39 (f := .glo "_law_shuffled") rfl)
  have g__law_caught := He.glo_ok X G (c.fact 40 (f := .glo "_law_caught") rfl)
  have g__law_ct_gcd := He.glo_ok X G (c.fact 41 (f := .glo "_law_ct_gcd") rfl)
  have g__law_ct_made := He.glo_ok X G (c.fact 42 (f := .glo "_law_ct_made") rfl)
  have g__law_ct_top := He.glo_ok X G (c.fact 43 (f := .glo "_law_ct_top") rfl)
  have g__law_ct_low := He.glo_ok X G (c.fact 44 (f := .glo "_law_ct_low") rfl)
  have g__law_ct_plus := He.glo_ok X G (c.fact 45 (f := .glo "_law_ct_plus") rfl)
  have g__law_ct_times := He.glo_ok X G (c.fact 46 (f := .glo "_law_ct_times") rfl)
  have g__law_ct_less := He.glo_ok X G (c.fact 47 (f := .glo "_law_ct_less") rfl)
  have g__law_ct_is_number := He.glo_ok X G (c.fact 48 (f := .glo "_law_ct_is_number") rfl)
  have g__law_ct_taps := He.glo_ok X G (c.fact 49 (f := .glo "_law_ct_taps") rfl)
  have g__law_ct_lots := He.glo_ok X G (c.fact 50 (f := .glo "_law_ct_lots") rfl)
  have g__law_ct_bad_claim := He.glo_ok X G (c.fact 51 (f := .glo "_law_ct_bad_claim") rfl)
  have g__law_cl_gathered := He.glo_ok X G (c.fact 52 (f := .glo "_law_cl_gathered") rfl)
  have g__law_cl_weight := He.glo_ok X G (c.fact 53 (f := .glo "_law_cl_weight") rfl)
  have g__law_cl_claim := He.glo_ok X G (c.fact 54 (f := .glo "_law_cl_claim") rfl)
  have g__law_cl_are_names := He.glo_ok X G (c.fact 55 (f := .glo "_law_cl_are_names") rfl)
  have g__law_cl_is_lot := He.glo_ok X G (c.fact 56 (f := .glo "_law_cl_is_lot") rfl)
  have g__law_cl_is_claim := He.glo_ok X G (c.fact 57 (f := .glo "_law_cl_is_claim") rfl)
  have g__law_cl_same := He.glo_ok X G (c.fact 58 (f := .glo "_law_cl_same") rfl)
  have g__law_cl_digits := He.glo_ok X G (c.fact 59 (f := .glo "_law_cl_digits") rfl)
  have g__law_cl_number_of := He.glo_ok X G (c.fact 60 (f := .glo "_law_cl_number_of") rfl)
  have g__law_cl_number_text := He.glo_ok X G (c.fact 61 (f := .glo "_law_cl_number_text") rfl)
  have g__law_cl_side_text := He.glo_ok X G (c.fact 62 (f := .glo "_law_cl_side_text") rfl)
  have g__law_cl_sides_text := He.glo_ok X G (c.fact 63 (f := .glo "_law_cl_sides_text") rfl)
  have g__law_cl_text := He.glo_ok X G (c.fact 64 (f := .glo "_law_cl_text") rfl)
  have g__law_cl_free_side := He.glo_ok X G (c.fact 65 (f := .glo "_law_cl_free_side") rfl)
  have g__law_cl_free_sides := He.glo_ok X G (c.fact 66 (f := .glo "_law_cl_free_sides") rfl)
  have g__law_cl_read_sides := He.glo_ok X G (c.fact 67 (f := .glo "_law_cl_read_sides") rfl)
  have g__law_cl_read := He.glo_ok X G (c.fact 68 (f := .glo "_law_cl_read") rfl)
  have g__law_cl_bent := He.glo_ok X G (c.fact 69 (f := .glo "_law_cl_bent") rfl)
  have g__law_heart_is_name := He.glo_ok X G (c.fact 70 (f := .glo "_law_heart_is_name") rfl)
  have g__law_k17_refused := He.glo_ok X G (c.fact 71 (f := .glo "_law_k17_refused") rfl)
  have g__law_k17_read_right := He.glo_ok X G (c.fact 72 (f := .glo "_law_k17_read_right") rfl)
  have g__law_k17_one := He.glo_ok X G (c.fact 73 (f := .glo "_law_k17_one") rfl)
  have g__law_k17_lines_right := He.glo_ok X G (c.fact 74 (f := .glo "_law_k17_lines_right") rfl)
  have g__law_k17_many := He.glo_ok X G (c.fact 75 (f := .glo "_law_k17_many") rfl)
  have g__law_k17_long := He.glo_ok X G (c.fact 76 (f := .glo "_law_k17_long") rfl)
  have g_law := He.glo_ok X G (c.fact 77 (f := .glo "law") rfl)
  have h_abs := He.free_ok X G (c.fact 78 (f := .free "abs") rfl)
  have h_all := He.free_ok X G (c.fact 79 (f := .free "all") rfl)
  have h_any := He.free_ok X G (c.fact 80 (f := .free "any") rfl)
  have h_bool := He.free_ok X G (c.fact 81 (f := .free "bool") rfl)
  have h_dict := He.free_ok X G (c.fact 82 (f := .free "dict") rfl)
  have h_int := He.free_ok X G (c.fact 83 (f := .free "int") rfl)
  have h_isinstance := He.free_ok X G (c.fact 84 (f := .free "isinstance") rfl)
  have h_len := He.free_ok X G (c.fact 85 (f := .free "len") rfl)
  have h_list := He.free_ok X G (c.fact 86 (f := .free "list") rfl)
  have h_max := He.free_ok X G (c.fact 87 (f := .free "max") rfl)
  have h_range := He.free_ok X G (c.fact 88 (f := .free "range") rfl)
  have h_sorted := He.free_ok X G (c.fact 89 (f := .free "sorted") rfl)
  have h_str := He.free_ok X G (c.fact 90 (f := .free "str") rfl)
  have h_super := He.free_ok X G (c.fact 91 (f := .free "super") rfl)
  have h_tuple := He.free_ok X G (c.fact 92 (f := .free "tuple") rfl)
  have h_zip := He.free_ok X G (c.fact 93 (f := .free "zip") rfl)
  have c_LETTERS := He.str_ok X G (c.fact 94 (f := .str "LETTERS" "abcdefghijklmnopqrstuvwxyz") rfl)
  have c_LETTERS_AND_DIGITS := He.str_ok X G (c.fact 95 (f := .str "LETTERS_AND_DIGITS" "abcdefghijklmnopqrstuvwxyz0123456789") rfl)
  have c_LONGEST_NAME := He.int_ok X G (c.fact 96 (f := .int "LONGEST_NAME" 8) rfl)
  have c_FEWEST_TAPS := He.int_ok X G (c.fact 97 (f := .int "FEWEST_TAPS" 2) rfl)
  have c_MOST_TAPS := He.int_ok X G (c.fact 98 (f := .int "MOST_TAPS" 6) rfl)
  have c_MOST_DIGITS := He.int_ok X G (c.fact 99 (f := .int "MOST_DIGITS" 30) rfl)
  have c_DIGITS := He.str_ok X G (c.fact 100 (f := .str "DIGITS" "0123456789") rfl)
  have g_TapError := He.glo_ok X G (c.fact 101 (f := .glo "TapError") rfl)
  have g_BadTaps := He.glo_ok X G (c.fact 102 (f := .glo "BadTaps") rfl)
  have g_BadClaim := He.glo_ok X G (c.fact 103 (f := .glo "BadClaim") rfl)
  have g_BadTerms := He.glo_ok X G (c.fact 104 (f := .glo "BadTerms") rfl)
  have g_BadClaims := He.glo_ok X G (c.fact 105 (f := .glo "BadClaims") rfl)
  have g_BadText := He.glo_ok X G (c.fact 106 (f := .glo "BadText") rfl)
  have F_is_name := c.def_ 0 (d := dfn "is_name" sis_name) rfl
  have F_are_names := c.def_ 1 (d := dfn "are_names" sare_names) rfl
  have F_are_taps := c.def_ 2 (d := dfn "are_taps" sare_taps) rfl
  have F_is_lot := c.def_ 3 (d := dfn "is_lot" sis_lot) rfl
  have F_check_taps := c.def_ 4 (d := dfn "check_taps" scheck_taps) rfl
  have F_is_whole := c.def_ 5 (d := dfn "is_whole" sis_whole) rfl
  have F_is_number := c.def_ 6 (d := dfn "is_number" sis_number) rfl
  have F_divided := c.def_ 7 (d := dfn "divided" sdivided) rfl
  have F_top_of := c.def_ 8 (d := dfn "top_of" stop_of) rfl
  have F_bottom_of := c.def_ 9 (d := dfn "bottom_of" sbottom_of) rfl
  have F_plus := c.def_ 10 (d := dfn "plus" splus) rfl
  have F_turned := c.def_ 11 (d := dfn "turned" sturned) rfl
  have F_number_text := c.def_ 12 (d := dfn "number_text" snumber_text) rfl
  have F_read_number := c.def_ 13 (d := dfn "read_number" sread_number) rfl
  have F_read_whole := c.def_ 14 (d := dfn "read_whole" sread_whole) rfl
  have F_is_claim := c.def_ 15 (d := dfn "is_claim" sis_claim) rfl
  have F_claim_of := c.def_ 16 (d := dfn "claim_of" sclaim_of) rfl
  have F_is_term := c.def_ 17 (d := dfn "is_term" sis_term) rfl
  have F_are_claim_terms := c.def_ 18 (d := dfn "are_claim_terms" sare_claim_terms) rfl
  have F_check_claim := c.def_ 19 (d := dfn "check_claim" scheck_claim) rfl
  have F_summed := c.def_ 20 (d := dfn "summed" ssummed) rfl
  have F_greater_terms := c.def_ 21 (d := dfn "greater_terms" sgreater_terms) rfl
  have F_lesser_terms := c.def_ 22 (d := dfn "lesser_terms" slesser_terms) rfl
  have F_claim_text := c.def_ 23 (d := dfn "claim_text" sclaim_text) rfl
  have F_read_claim := c.def_ 24 (d := dfn "read_claim" sread_claim) rfl
  have F_claims_text := c.def_ 25 (d := dfn "claims_text" sclaims_text) rfl
  have F_read_claims := c.def_ 26 (d := dfn "read_claims" sread_claims) rfl
  have F_text_in := c.def_ 27 (d := dfn "text_in" stext_in) rfl
  have F_side_text := c.def_ 28 (d := dfn "side_text" sside_text) rfl
  have F_term_text := c.def_ 29 (d := dfn "term_text" sterm_text) rfl
  have F_read_text := c.def_ 30 (d := dfn "read_text" sread_text) rfl
  have F_read_sides := c.def_ 31 (d := dfn "read_sides" sread_sides) rfl
  have F_read_side := c.def_ 32 (d := dfn "read_side" sread_side) rfl
  have F_read_term := c.def_ 33 (d := dfn "read_term" sread_term) rfl
  have F_read_names := c.def_ 34 (d := dfn "read_names" sread_names) rfl
  have F__law_begun := c.def_ 35 (d := dfn "_law_begun" sL_begun) rfl
  have F__law_blended := c.def_ 36 (d := dfn "_law_blended" sL_blended) rfl
  have F__law_draw := c.def_ 37 (d := dfn "_law_draw" sL_draw) rfl
  have F__law_pick := c.def_ 38 (d := dfn "_law_pick" sL_pick) rfl
  have F__law_shuffled := c.def_ 39 (d := dfn "_law_shuffled" sL_shuffled) rfl
  have F__law_caught := c.def_ 40 (d := dfn "_law_caught" sL_caught) rfl
  have F__law_ct_gcd := c.def_ 41 (d := dfn "_law_ct_gcd" sL_ct_gcd) rfl
  have F__law_ct_made := c.def_ 42 (d := dfn "_law_ct_made" sL_ct_made) rfl
  have F__law_ct_top := c.def_ 43 (d := dfn "_law_ct_top" sL_ct_top) rfl
  have F__law_ct_low := c.def_ 44 (d := dfn "_law_ct_low" sL_ct_low) rfl
  have F__law_ct_plus := c.def_ 45 (d := dfn "_law_ct_plus" sL_ct_plus) rfl
  have F__law_ct_times := c.def_ 46 (d := dfn "_law_ct_times" sL_ct_times) rfl
  have F__law_ct_less := c.def_ 47 (d := dfn "_law_ct_less" sL_ct_less) rfl
  have F__law_ct_is_number := c.def_ 48 (d := dfn "_law_ct_is_number" sL_ct_is_number) rfl
  have F__law_ct_taps := c.def_ 49 (d := dfn "_law_ct_taps" sL_ct_taps) rfl
  have F__law_ct_lots := c.def_ 50 (d := dfn "_law_ct_lots" sL_ct_lots) rfl
  have F__law_ct_bad_claim := c.def_ 51 (d := dfn "_law_ct_bad_claim" sL_ct_bad_claim) rfl
  have F__law_cl_gathered := c.def_ 52 (d := dfn "_law_cl_gathered" sL_cl_gathered) rfl
  have F__law_cl_weight := c.def_ 53 (d := dfn "_law_cl_weight" sL_cl_weight) rfl
  have F__law_cl_claim := c.def_ 54 (d := dfn "_law_cl_claim" sL_cl_claim) rfl
  have F__law_cl_are_names := c.def_ 55 (d := dfn "_law_cl_are_names" sL_cl_are_names) rfl
  have F__law_cl_is_lot := c.def_ 56 (d := dfn "_law_cl_is_lot" sL_cl_is_lot) rfl
  have F__law_cl_is_claim := c.def_ 57 (d := dfn "_law_cl_is_claim" sL_cl_is_claim) rfl
  have F__law_cl_same := c.def_ 58 (d := dfn "_law_cl_same" sL_cl_same) rfl
  have F__law_cl_digits := c.def_ 59 (d := dfn "_law_cl_digits" sL_cl_digits) rfl
  have F__law_cl_number_of := c.def_ 60 (d := dfn "_law_cl_number_of" sL_cl_number_of) rfl
  have F__law_cl_number_text := c.def_ 61 (d := dfn "_law_cl_number_text" sL_cl_number_text) rfl
  have F__law_cl_side_text := c.def_ 62 (d := dfn "_law_cl_side_text" sL_cl_side_text) rfl
  have F__law_cl_sides_text := c.def_ 63 (d := dfn "_law_cl_sides_text" sL_cl_sides_text) rfl
  have F__law_cl_text := c.def_ 64 (d := dfn "_law_cl_text" sL_cl_text) rfl
  have F__law_cl_free_side := c.def_ 65 (d := dfn "_law_cl_free_side" sL_cl_free_side) rfl
  have F__law_cl_free_sides := c.def_ 66 (d := dfn "_law_cl_free_sides" sL_cl_free_sides) rfl
  have F__law_cl_read_sides := c.def_ 67 (d := dfn "_law_cl_read_sides" sL_cl_read_sides) rfl
  have F__law_cl_read := c.def_ 68 (d := dfn "_law_cl_read" sL_cl_read) rfl
  have F__law_cl_bent := c.def_ 69 (d := dfn "_law_cl_bent" sL_cl_bent) rfl
  have F__law_heart_is_name := c.def_ 70 (d := dfn "_law_heart_is_name" sL_heart_is_name) rfl
  have F__law_k17_refused := c.def_ 71 (d := dfn "_law_k17_refused" sL_k17_refused) rfl
  have F__law_k17_read_right := c.def_ 72 (d := dfn "_law_k17_read_right" sL_k17_read_right) rfl
  have F__law_k17_one := c.def_ 73 (d := dfn "_law_k17_one" sL_k17_one) rfl
  have F__law_k17_lines_right := c.def_ 74 (d := dfn "_law_k17_lines_right" sL_k17_lines_right) rfl
  have F__law_k17_many := c.def_ 75 (d := dfn "_law_k17_many" sL_k17_many) rfl
  have F__law_k17_long := c.def_ 76 (d := dfn "_law_k17_long" sL_k17_long) rfl
  have D_is_name := dn_of g_is_name F_is_name
  have D_are_names := dn_of g_are_names F_are_names
  have D_are_taps := dn_of g_are_taps F_are_taps
  have D_is_lot := dn_of g_is_lot F_is_lot
  have D_check_taps := dn_of g_check_taps F_check_taps
  have D_is_whole := dn_of g_is_whole F_is_whole
  have D_is_number := dn_of g_is_number F_is_number
  have D_divided := dn_of g_divided F_divided
  have D_top_of := dn_of g_top_of F_top_of
  have D_bottom_of := dn_of g_bottom_of F_bottom_of
  have D_plus := dn_of g_plus F_plus
  have D_turned := dn_of g_turned F_turned
  have D_number_text := dn_of g_number_text F_number_text
  have D_read_number := dn_of g_read_number F_read_number
  have D_read_whole := dn_of g_read_whole F_read_whole
  have D_is_claim := dn_of g_is_claim F_is_claim
  have D_claim_of := dn_of g_claim_of F_claim_of
  have D_is_term := dn_of g_is_term F_is_term
  have D_are_claim_terms := dn_of g_are_claim_terms F_are_claim_terms
  have D_check_claim := dn_of g_check_claim F_check_claim
  have D_summed := dn_of g_summed F_summed
  have D_greater_terms := dn_of g_greater_terms F_greater_terms
  have D_lesser_terms := dn_of g_lesser_terms F_lesser_terms
  have D_claim_text := dn_of g_claim_text F_claim_text
  have D_read_claim := dn_of g_read_claim F_read_claim
  have D_claims_text := dn_of g_claims_text F_claims_text
  have D_read_claims := dn_of g_read_claims F_read_claims
  have D_text_in := dn_of g_text_in F_text_in
  have D_side_text := dn_of g_side_text F_side_text
  have D_term_text := dn_of g_term_text F_term_text
  have D_read_text := dn_of g_read_text F_read_text
  have D_read_sides := dn_of g_read_sides F_read_sides
  have D_read_side := dn_of g_read_side F_read_side
  have D_read_term := dn_of g_read_term F_read_term
  have D_read_names := dn_of g_read_names F_read_names
  have D__law_begun := dn_of g__law_begun F__law_begun
  have D__law_blended := dn_of g__law_blended F__law_blended
  have D__law_draw := dn_of g__law_draw F__law_draw
  have D__law_pick := dn_of g__law_pick F__law_pick
  have D__law_shuffled := dn_of g__law_shuffled F__law_shuffled
  have D__law_caught := dn_of g__law_caught F__law_caught
  have D__law_ct_gcd := dn_of g__law_ct_gcd F__law_ct_gcd
  have D__law_ct_made := dn_of g__law_ct_made F__law_ct_made
  have D__law_ct_top := dn_of g__law_ct_top F__law_ct_top
  have D__law_ct_low := dn_of g__law_ct_low F__law_ct_low
  have D__law_ct_plus := dn_of g__law_ct_plus F__law_ct_plus
  have D__law_ct_times := dn_of g__law_ct_times F__law_ct_times
  have D__law_ct_less := dn_of g__law_ct_less F__law_ct_less
  have D__law_ct_is_number := dn_of g__law_ct_is_number F__law_ct_is_number
  have D__law_ct_taps := dn_of g__law_ct_taps F__law_ct_taps
  have D__law_ct_lots := dn_of g__law_ct_lots F__law_ct_lots
  have D__law_ct_bad_claim := dn_of g__law_ct_bad_claim F__law_ct_bad_claim
  have D__law_cl_gathered := dn_of g__law_cl_gathered F__law_cl_gathered
  have D__law_cl_weight := dn_of g__law_cl_weight F__law_cl_weight
  have D__law_cl_claim := dn_of g__law_cl_claim F__law_cl_claim
  have D__law_cl_are_names := dn_of g__law_cl_are_names F__law_cl_are_names
  have D__law_cl_is_lot := dn_of g__law_cl_is_lot F__law_cl_is_lot
  have D__law_cl_is_claim := dn_of g__law_cl_is_claim F__law_cl_is_claim
  have D__law_cl_same := dn_of g__law_cl_same F__law_cl_same
  have D__law_cl_digits := dn_of g__law_cl_digits F__law_cl_digits
  have D__law_cl_number_of := dn_of g__law_cl_number_of F__law_cl_number_of
  have D__law_cl_number_text := dn_of g__law_cl_number_text F__law_cl_number_text
  have D__law_cl_side_text := dn_of g__law_cl_side_text F__law_cl_side_text
  have D__law_cl_sides_text := dn_of g__law_cl_sides_text F__law_cl_sides_text
  have D__law_cl_text := dn_of g__law_cl_text F__law_cl_text
  have D__law_cl_free_side := dn_of g__law_cl_free_side F__law_cl_free_side
  have D__law_cl_free_sides := dn_of g__law_cl_free_sides F__law_cl_free_sides
  have D__law_cl_read_sides := dn_of g__law_cl_read_sides F__law_cl_read_sides
  have D__law_cl_read := dn_of g__law_cl_read F__law_cl_read
  have D__law_cl_bent := dn_of g__law_cl_bent F__law_cl_bent
  have D__law_heart_is_name := dn_of g__law_heart_is_name F__law_heart_is_name
  have D__law_k17_refused := dn_of g__law_k17_refused F__law_k17_refused
  have D__law_k17_one := dn_of g__law_k17_one F__law_k17_one
  have D__law_k17_many := dn_of g__law_k17_many F__law_k17_many
  have o_BadClaim := own_of (c.fact 107 (f := .exc "BadClaim") rfl) g_BadClaim
  have o_BadClaims := own_of (c.fact 108 (f := .exc "BadClaims") rfl) g_BadClaims
  have o_BadTaps := own_of (c.fact 109 (f := .exc "BadTaps") rfl) g_BadTaps
  have o_BadTerms := own_of (c.fact 110 (f := .exc "BadTerms") rfl) g_BadTerms
  obtain ⟨cda, cc, kV1, doc1, pm1, ct1, an1, sup, hcd1⟩ := ini_of (oexB_ok e1) I e9
  have g_gcd := PySem.W.mg_of X G (He.eqO_ok e8)
  obtain ⟨fd, F⟩ := c.def_ 77 (d := dfn "law" slaw) rfl
  obtain ⟨oc, od, dV, kV, doc, pm, an, cdv, ct, osl, efd, lk0, hcd, hD, hK⟩ := F.ex
  obtain ⟨c0, ec0⟩ := He.codeIn_ref hcd
  subst ec0
  subst efd
  have ecode : He.codeOf K ("law", none) = c0 := He.codeOf_eq lk0 rfl
  have ef : He.ga K "law" = f0 := by
    have q := g_law.symm.trans hfa
    exact Value.ref.inj (Option.some.inj q)
  have m1 : (("_law_k17_read_right", none) : He.Defn) ∈ tf := List.mem_cons_self
  have m2 : (("_law_k17_lines_right", none) : He.Defn) ∈ tf := List.mem_cons_of_mem _ List.mem_cons_self
  have m3 : (("_law_k17_long", none) : He.Defn) ∈ tf := List.mem_cons_of_mem _ (List.mem_cons_of_mem _ List.mem_cons_self)
  have m4 : (("law", none) : He.Defn) ∈ tf := List.mem_cons_of_mem _ (List.mem_cons_of_mem _ (List.mem_cons_of_mem _ List.mem_cons_self))
  have bnd := FunD.bindsA (ps := ["script"]) F fun _ _ _ _ _ _ us hl => match us, hl with | [_], _ => rfl
  have f4 := fourB_ok e7
  subst ef
  refine ⟨_, tf.map (He.cT K), spLaw K (T4 (tabA K "_law_k17_read_right") (tabA K "_law_k17_lines_right") (tabA K "_law_k17_long") (tabA K "law")), fun p hp => ?_, fun p hp => ?_, fun p hp => ?_, fun s u => bnd s [u] rfl, fun H a ns hl _ hH hS => ⟨a, ns, rfl, hS, hl, fun p hp => ?_, fun _ => rfl⟩, fun base Xb Gb TB0 => ?_⟩
  · obtain ⟨t, ht, rfl⟩ := List.mem_map.mp hp
    exact S.empty t ht
  · obtain ⟨t, ht, rfl⟩ := List.mem_map.mp hp
    exact S.out t ht
  · obtain ⟨t, ht, rfl⟩ := List.mem_map.mp hp
    exact PySem.W.codeHd_of_K X (S.hd t ht)
  · simp only [List.mem_cons, List.not_mem_nil, or_false] at hp
    rcases hp with rfl | rfl | rfl | rfl
    · exact LamX.TabS.nil (hH _ (List.mem_map.mpr ⟨_, m1, rfl⟩))
    · exact LamX.TabS.nil (hH _ (List.mem_map.mpr ⟨_, m2, rfl⟩))
    · exact LamX.TabS.nil (hH _ (List.mem_map.mpr ⟨_, m3, rfl⟩))
    · exact LamX.TabS.nil (hH _ (List.mem_map.mpr ⟨_, m4, rfl⟩))
  have bt : BadT PW0 w K mg base (aBT K) := bad_text (oexB_ok e1) g_BadText (He.eqO_ok e10) e11 (He.eqO_ok e6) h_super sup hcd1
  have T__law_k17_read_right := dnT_of g__law_k17_read_right F__law_k17_read_right (TB0 _ (List.mem_map.mpr ⟨_, m1, rfl⟩))
  have T__law_k17_lines_right := dnT_of g__law_k17_lines_right F__law_k17_lines_right (TB0 _ (List.mem_map.mpr ⟨_, m2, rfl⟩))
  have T__law_k17_long := dnT_of g__law_k17_long F__law_k17_long (TB0 _ (List.mem_map.mpr ⟨_, m3, rfl⟩))
  have TB : LamX.TabB base mg c0 (tabA K "law") := by
    have q := TB0 _ (List.mem_map.mpr ⟨_, m4, rfl⟩)
    have e1 : (He.cT K ("law", none)).1 = c0 := ecode
    rw [e1] at q
    exact q
  have lk : Looks K mg (He.ga K "TapError") (aBT K) (He.ga K "BadClaim") (He.ga K "BadClaims") := ⟨⟨g_TapError, g_BadText, g_BadClaim, g_BadClaims, He.exm_ok (c.fact 111 (f := .exm "BadText" "TapError" true) rfl), He.exm_ok (c.fact 112 (f := .exm "BadClaim" "TapError" true) rfl), He.exm_ok (c.fact 113 (f := .exm "BadClaims" "TapError" true) rfl), excB_ok e2, excB_ok e3, excB_ok e4, xfB_ok e5, He.eqO_ok e6⟩, h_isinstance, D__law_caught, D__law_k17_refused⟩
  have B__law_blended := ok_blended (P := PW0) (w := w) (base := base) D__law_blended h_int
  have B__law_draw := ok_draw (P := PW0) (w := w) (base := base) D__law_draw B__law_blended h_int
  have B__law_pick := ok_pick (P := PW0) (w := w) (base := base) D__law_pick B__law_draw h_len
  have B__law_shuffled := ok_shuffled (P := PW0) (w := w) (base := base) D__law_shuffled B__law_draw h_len h_list
  have B__law_ct_gcd := ok_ct_gcd (P := PW0) (w := w) (base := base) D__law_ct_gcd h_abs h_int
  have B__law_ct_top := ok_ct_top (P := PW0) (w := w) (base := base) D__law_ct_top h_isinstance h_tuple
  have B__law_ct_low := ok_ct_low (P := PW0) (w := w) (base := base) D__law_ct_low h_isinstance h_tuple
  have B__law_ct_made := ok_ct_made (P := PW0) (w := w) (base := base) D__law_ct_made B__law_ct_gcd
  have B__law_ct_is_number := ok_ct_is_number (P := PW0) (w := w) (base := base) D__law_ct_is_number B__law_ct_gcd h_isinstance h_tuple h_int h_bool h_len
  have B_is_name := ok_is_name (P := PW0) (w := w) (base := base) D_is_name h_isinstance h_str h_len h_all c_LETTERS c_LETTERS_AND_DIGITS c_LONGEST_NAME
  have B_are_names := ok_are_names (P := PW0) (w := w) (base := base) D_are_names B_is_name h_isinstance h_tuple h_all h_zip
  have B_are_taps := ok_are_taps (P := PW0) (w := w) (base := base) D_are_taps B_are_names h_len c_FEWEST_TAPS c_MOST_TAPS
  have B_is_whole := ok_is_whole (P := PW0) (w := w) (base := base) D_is_whole h_isinstance h_int h_bool
  have B_is_number := ok_is_number (P := PW0) (w := w) (base := base) D_is_number B_is_whole h_isinstance h_tuple h_len g_gcd
  have B_top_of := ok_top_of (P := PW0) (w := w) (base := base) D_top_of h_isinstance h_tuple
  have B_number_text := ok_number_text (P := PW0) (w := w) (base := base) D_number_text h_isinstance h_tuple h_str
  have B_read_whole := ok_read_whole (P := PW0) (w := w) (base := base) D_read_whole h_len h_all h_int c_MOST_DIGITS c_DIGITS
  have B_read_number := ok_read_number (P := PW0) (w := w) (base := base) D_read_number B_read_whole B_is_number
  have B_bottom_of := ok_bottom_of (P := PW0) (w := w) (base := base) D_bottom_of h_isinstance h_tuple
  have B_turned := ok_turned (P := PW0) (w := w) (base := base) D_turned h_isinstance h_tuple
  have B_divided := ok_divided (P := PW0) (w := w) (base := base) D_divided g_gcd
  have B_plus := ok_plus (P := PW0) (w := w) (base := base) D_plus B_top_of B_bottom_of B_divided h_isinstance h_int
  have B__law_ct_plus := ok_ct_plus (P := PW0) (w := w) (base := base) D__law_ct_plus B__law_ct_top B__law_ct_low B__law_ct_made
  have B__law_ct_times := ok_ct_times (P := PW0) (w := w) (base := base) D__law_ct_times B__law_ct_top B__law_ct_low B__law_ct_made
  have B__law_ct_less := ok_ct_less2 (P := PW0) (w := w) (base := base) D__law_ct_less B__law_ct_top B__law_ct_low
  have B_is_lot := ok_is_lot (P := PW0) (w := w) (base := base) D_is_lot B_are_names h_len h_all
  have B_is_numberX := ok_is_numberX (P := PW0) (w := w) (base := base) D_is_number B_is_whole h_isinstance h_tuple h_len g_gcd
  have B_is_term := ok_is_term (P := PW0) (w := w) (base := base) D_is_term B_is_lot B_is_numberX h_isinstance h_tuple h_len
  have B_summed := ok_summed (P := PW0) (w := w) (base := base) D_summed B_plus h_tuple h_sorted
  have B__law_cl_gathered := ok_cl_gathered (P := PW0) (w := w) (base := base) D__law_cl_gathered B__law_ct_plus h_tuple h_sorted
  have B_are_claim_terms := ok_are_claim_terms (P := PW0) (w := w) (base := base) D_are_claim_terms B_is_term h_isinstance h_tuple h_all h_zip
  have B_is_claim := ok_is_claim (P := PW0) (w := w) (base := base) D_is_claim B_are_taps B_are_claim_terms h_isinstance h_tuple h_len
  have B_check_claim := ok_check_claim (P := PW0) (w := w) (base := base) o_BadClaim D_check_claim B_is_claim
  have B_greater_terms := ok_greater_terms (P := PW0) (w := w) (base := base) D_greater_terms B_top_of h_tuple
  have B_lesser_terms := ok_lesser_terms (P := PW0) (w := w) (base := base) D_lesser_terms B_top_of B_turned h_tuple
  have B_term_text := ok_term_text (P := PW0) (w := w) (base := base) D_term_text B_number_text
  have B_side_text := ok_side_text (P := PW0) (w := w) (base := base) D_side_text B_term_text h_len
  have B_text_in := ok_text_in (P := PW0) (w := w) (base := base) D_text_in B_side_text B_greater_terms B_lesser_terms
  have B_claim_text := ok_claim_text (P := PW0) (w := w) (base := base) D_claim_text B_check_claim B_text_in
  have B_claims_text := ok_claims_text (P := PW0) (w := w) (base := base) o_BadClaims D_claims_text B_is_claim B_text_in h_isinstance h_list h_tuple h_all
  have B_check_taps := ok_check_taps (P := PW0) (w := w) (base := base) o_BadTaps D_check_taps B_are_taps
  have B_claim_of := ok_claim_of (P := PW0) (w := w) (base := base) o_BadTerms D_claim_of B_check_taps B_is_term B_summed h_isinstance h_list h_tuple h_all
  have B_read_names := ok_read_names (P := PW0) (w := w) (base := base) D_read_names B_are_names h_tuple
  have B_read_term := ok_read_term (P := PW0) (w := w) (base := base) D_read_term B_read_number B_read_names
  have B_read_side := ok_read_side (P := PW0) (w := w) (base := base) D_read_side B_read_term h_any
  have B_read_sides := ok_read_sides (P := PW0) (w := w) (base := base) D_read_sides B_read_side B_turned
  have B_read_text := ok_read_text (P := PW0) (w := w) (base := base) D_read_text B_are_taps B_read_sides B_is_lot B_summed h_tuple h_all
  have W_read_claim := okw_read_claim (P := PW0) (w := w) (base := base) bt D_read_claim B_read_text h_isinstance h_str
  have B_read_claims := ok_read_claims (P := PW0) (w := w) (base := base) bt D_read_claims B_read_text h_isinstance h_str h_len h_range
  have B__law_heart_is_name := ok_heart_is_name (P := PW0) (w := w) (base := base) D__law_heart_is_name h_isinstance h_str h_len
  have B__law_cl_are_names := ok_cl_are_names (P := PW0) (w := w) (base := base) D__law_cl_are_names B__law_heart_is_name h_isinstance h_tuple h_zip
  have B__law_cl_is_lot := ok_cl_is_lot (P := PW0) (w := w) (base := base) D__law_cl_is_lot B__law_cl_are_names h_len
  have B__law_cl_is_claim := ok_cl_is_claim (P := PW0) (w := w) (base := base) D__law_cl_is_claim B__law_cl_are_names B__law_cl_is_lot B__law_ct_is_number h_isinstance h_tuple h_len
  have B__law_cl_same := ok_cl_same (P := PW0) (w := w) (base := base) D__law_cl_same B__law_cl_is_claim
  have B__law_cl_digits := ok_cl_digits (P := PW0) (w := w) (base := base) D__law_cl_digits h_len
  have B__law_cl_number_of := ok_cl_number_of (P := PW0) (w := w) (base := base) D__law_cl_number_of B__law_cl_digits B__law_ct_is_number h_len h_int
  have B__law_cl_number_text := ok_cl_number_text (P := PW0) (w := w) (base := base) D__law_cl_number_text h_isinstance h_tuple h_str
  have B__law_cl_side_text := ok_cl_side_text (P := PW0) (w := w) (base := base) D__law_cl_side_text B__law_ct_times B__law_ct_less B__law_cl_number_text
  have B__law_cl_sides_text := ok_cl_sides_text (P := PW0) (w := w) (base := base) D__law_cl_sides_text B__law_cl_side_text
  have B__law_cl_text := ok_cl_text (P := PW0) (w := w) (base := base) D__law_cl_text B__law_cl_sides_text
  have B__law_ct_taps := ok_ct_taps (P := PW0) (w := w) (base := base) D__law_ct_taps B__law_pick B__law_draw B__law_shuffled h_tuple h_sorted
  have B__law_ct_lots := ok_ct_lots (P := PW0) (w := w) (base := base) D__law_ct_lots h_len h_sorted
  have B__law_cl_weight := ok_cl_weight (P := PW0) (w := w) (base := base) D__law_cl_weight B__law_pick B__law_ct_times
  have B__law_cl_claim := ok_cl_claim (P := PW0) (w := w) (base := base) D__law_cl_claim B__law_draw B__law_shuffled B__law_ct_lots B__law_cl_weight B__law_cl_gathered
  have B__law_ct_bad_claim := ok_ct_bad_claim (P := PW0) (w := w) (base := base) D__law_ct_bad_claim B__law_pick
  have B__law_cl_read_sides := ok_cl_read_sides (P := PW0) (w := w) (base := base) D__law_cl_read_sides B__law_cl_number_of B__law_cl_are_names B__law_ct_times h_len h_zip h_tuple
  have B__law_cl_read := ok_cl_read (P := PW0) (w := w) (base := base) D__law_cl_read B__law_cl_read_sides B__law_cl_are_names B__law_cl_is_lot B__law_cl_gathered h_len h_max h_tuple
  have B__law_cl_bent := ok_cl_bent (P := PW0) (w := w) (base := base) D__law_cl_bent B__law_draw B__law_pick h_len h_list
  have B__law_cl_free_side := ok_cl_free_side (P := PW0) (w := w) (base := base) D__law_cl_free_side B__law_cl_number_text
  have B__law_cl_free_sides := ok_cl_free_sides (P := PW0) (w := w) (base := base) D__law_cl_free_sides B__law_draw B__law_pick B__law_shuffled B__law_ct_less B__law_ct_times B__law_ct_plus B__law_cl_free_side h_list
  have B__law_k17_read_right := ok_k17_read_right (P := PW0) (w := w) (base := base) lk f4 T__law_k17_read_right B__law_cl_read W_read_claim.ok B__law_cl_same
  have B__law_k17_one := ok_k17_one (P := PW0) (w := w) (base := base) D__law_k17_one B__law_cl_text B_claim_text W_read_claim B__law_cl_same B__law_cl_free_sides B__law_cl_bent B__law_pick B__law_k17_read_right
  have B__law_k17_lines_right := ok_k17_lines_right (P := PW0) (w := w) (base := base) lk f4 T__law_k17_lines_right B__law_cl_read B_read_claims B__law_cl_same h_len h_list h_zip
  have B__law_k17_many := ok_k17_many (P := PW0) (w := w) (base := base) D__law_k17_many B__law_cl_text B_claims_text B__law_k17_lines_right B__law_draw B__law_cl_bent h_len h_tuple
  have B__law_k17_long := ok_k17_long (P := PW0) (w := w) (base := base) lk f4 T__law_k17_long B__law_draw W_read_claim.ok B_read_claims B__law_cl_same B_claim_of h_str h_int h_range
  have B__law_begun := ok_begun (P := PW0) (w := w) (base := base) D__law_begun h_abs
  exact ok_law (P := PW0) (w := w) (base := base) lk f4 lk0 hcd TB B__law_begun B__law_draw B__law_cl_claim B__law_ct_taps B__law_pick B__law_k17_one B__law_k17_many B__law_ct_bad_claim B_claim_text B_claims_text W_read_claim.ok B_read_claims B__law_k17_long h_range h_dict
end
end K17
set_option maxHeartbeats 4000000
open PySem PySem.W PySem.Calls PyProof.Rows
theorem PySem.Challenge.cw_behindtaps_k17_texts_of_claims_holds : PySem.Challenge.rw_behindtaps_k17_texts_of_claims.Holds := by
  w_on; o_law
  refine HandSHeadRun.head_imp (r := OpenLaw.row PySem.Challenge.rw_behindtaps_k17_texts_of_claims) (q := view (OpenLaw.row PySem.Challenge.rw_behindtaps_k17_texts_of_claims).prog [0, 97]) (H := K17.hk) (ob := K17.ob) (M := 4000) (loose := K17.loose) (d := HandSHeadRun.topDef (OpenLaw.row PySem.Challenge.rw_behindtaps_k17_texts_of_claims).prog 97) (kwd := []) K17.ob_eq
    K17.run (by kernel_rfl) (by kernel_rfl) (by kernel_rfl) (by rfl) (by first | assumption | decide +kernel) (by decide +kernel) ⟨rfl, rfl, rfl, rfl, rfl, by decide +kernel⟩ ?hw ?hc
  case hw => w_witness2
  case hc =>
    refine LamX.walk_ofTsE (l := PySem.Challenge.rw_behindtaps_k17_texts_of_claims) (n := 63) (k := 14) (x := "script") (CX := fun _ => L2.CX0) rfl (by decide) (by kernel_rfl) ⟨rfl, by decide, by decide⟩ ?F (fun _ _ _ _ _ z => z)
    intro w mg fa h Y G hmg0
    obtain ⟨K, KX, c, i⟩ := Y
    have hmg : mg ("law" : PySem.Str) = some (.ref fa) := by
      have e : (HandSHeadRun.topDef (OpenLaw.row PySem.Challenge.rw_behindtaps_k17_texts_of_claims).prog 97).name = ("law" : PySem.Str) := by kernel_rfl
      rw [← e]
      exact hmg0
    exact ⟨K, KX, K17.law_at KX G c i hmg⟩
