import PyProof.Rows.All
import Wide.All
import OpenK.AllK
import Wide.FinOn
import KE.KSuper
import KE.KExcSuper
import HandS.ForMost
import HandS.ForExc
import HandS.ExcInit
import HandS.Defaults
import KE.KIsAll
import KE.KTryMore
import KE.KExcIs
import HandS.ExcIs
import HandS.ExcField
import HandS.Lambda
import HandS.Words
import HandS.WordsExc
import HandS.Wide
import HandS.Gcd
import HandS.FStr
import HandS.Flow
import HandS.More
import HandS.Star
import HandS.IsInst
import HandS.Zip
import HandS.Codes
import KE.KStateDown
import Lean
import HandS.Ends
import HandS.Head0
import HandS.Head1
import HandS.Head2
import HandS.Head3
import HandS.HeadEnd
import HandS.HeadHook1
import HandS.HeadHook2
import HandS.HeadHook3
import HandS.HeadHook4
import HandS.HeadWalk
import KE.KExcInit
import HandS.Comp
import HandS.TupAny
import HandS.Iter
import HandS.Text
import HandS.SetTxt0
import HandS.SetFor
import HandS.Set
import HandS.Strs
import PyProof.Rows.SortShellAny
import PyProof.AutoSeq1
import HandS.ExcOwn
import KE.Datum
import KE.DataMinMax
import KE.LtData
import KE.DataCmp
import KE.SortData
import HandS.DictTup
import HandS.Conv
import PyProof.Transfer
import KE.KDictPairs
import PyProof.SetRoads
import HandS.RepeatKit
import PyProof.StrOps2
import KE.KMathG
import KE.KEqDict
import HandS.SetBool
import HandS.SetKeys
import HandS.Deep
import HandS.Style
import HandS.CallLocal
import PyProof.P3Eq
import HandS.List
import HandS.TupMul
import Flt.Ops
import PyProof.StrOps
import PySem.Challenge.RW_behindtaps_k05_nets_judged_and_their_pla
set_option Elab.async false
set_option linter.all false
set_option maxRecDepth 100000
set_option maxHeartbeats 2000000
/-! own errors whose __init__ says super().__init__(e), over ValueError, one own class or more between -/
namespace Hx
open PySem PySem.Spec PyProof.Rows L2
abbrev initEnv (qual : Str) (sc : Scope) (s : Shared) (f cda cc : Addr) : Env := PySem.W.ksEnv qual sc s.heap.objs.size f (.ref cda) cc
/-- the body of such an __init__, entered at s -/
def cloCx (P : Program) (w : World) (K : PySem.W.Frag) (mg : Str → Option Value) (base : Heap) (N : List Str) (qual : Str) (sc : Scope) (f cda cc : Addr)
    (A : Around) (outer : List Env) (s : Shared) (H : Hp) : Cx :=
  { prog := P, w := w, K := K, mg := mg, base := base, A := A.deeper (initEnv qual sc s f cda cc), N := N, s_0 := s, H_0 := H, env := initEnv qual sc s f cda cc,
    outer := outer, stack := initEnv qual sc s f cda cc :: outer, ex := [], fn := fun _ => false, calm := true, pn := [], xe := fun _ _ => False }
section
variable {P : Program} {w : World} {K : PySem.W.Frag} {mg : Str → Option Value} {base : Heap} {qual x y : Str} {sc : Scope} {f cda cc : Addr}
  {A : Around} {outer : List Env} {s : Shared} {H : Hp}
theorem clo_start {v1 v2 : V} {u1 u2 : Value} {h1 : Heap} {tk : Nat} {oc : Obj} {vc : Option Value} (hk : sc.kind = .function) (hx : sc.names.lookup x = some .local) (hy : sc.names.lookup y = some .local) (nxy : x ≠ y)
    (nocell : ∀ z ∈ sc.names, z.2 ≠ .cell) (hfree : ∀ z ∈ sc.names, z.2 = .free → z.1 = "__class__") (hcc : base.get? cc = some oc) (hoc : oc.data = .cell vc)
    (hd : A.handled = none) (e0 : Env0 P w K mg base A outer s H) (r1 : RelV v1 u1) (r2 : RelV v2 u2)
    (hns : h1.Ns s.heap.objs.size fun z => ([(x, u1), (y, u2)] : List (Str × Value)).reverse.lookup z) (kp : ∀ b o, s.heap.get? b = some o → h1.get? b = some o) :
    Inv (cloCx P w K mg base [x, y] qual sc f cda cc A outer s H) [] [some v1, some v2] H { s with heap := h1, toks := tk } := by
  have none_ex : ∀ b : Addr, b ∉ (cloCx P w K mg base [x, y] qual sc f cda cc A outer s H).ex := fun b z => nomatch z
  have only : ∀ z c, ([("__class__", cc)] : List (Str × Addr)).lookup z = some c → z = "__class__" ∧ c = cc := fun z c e => by
    have m := PySem.mem_of_lookup e
    simp only [List.mem_singleton, Prod.mk.injEq] at m
    exact m
  have okX : (cloCx P w K mg base [x, y] qual sc f cda cc A outer s H).Ok := {
    mod := e0.mod
    kind := hk
    glob := rfl
    blt := rfl
    above := Nat.le_refl _
    inj := fun z z' c e e' => (only z c e).1.trans (only z' c e').1.symm
    has := fun z hz => by
      have hz' : sc.names.lookup z = some .cell ∨ sc.names.lookup z = some .free := hz
      rcases hz' with q | q
      · exact absurd rfl (nocell _ (PySem.mem_of_lookup q))
      · have e := hfree _ (PySem.mem_of_lookup q) rfl
        exact ⟨cc, by rw [show z = "__class__" from e]; rfl⟩
    cab := fun z c q _ => nomatch q
    hd := fun _ => hd
    frames := Around.frames_deeper e0.frames
    stk := .inr ⟨rfl, rfl⟩
    exf := fun b z => absurd z (none_ex b)
    bs := e0.bs
    bsz := e0.bsz
    noex := fun b _ _ => none_ex b
    exfs := fun b z => absurd z (none_ex b)
    funs := e0.funs
    frf := e0.frf }
  refine { ok := okX, os := rfl, bare := e0.bare, base := Un.kept kp, loc := ⟨_, hns, fun i z v e1 e2 e3 => ?_⟩, cell := fun z c e => ?_, free := e0.hok.fresh (Nat.le_refl _), freeC := fun z c e => ?_, pin := fun p hp => ?_, hok := e0.hok.kept kp, len := rfl }
  · match i, e1, e2 with
    | 0, e1, e2 =>
      cases e1
      cases e2
      refine ⟨u1, r1, .inl ⟨hx, ?_⟩⟩
      show ([(y, u2), (x, u1)] : List (Str × Value)).lookup x = some u1
      rw [List.lookup_cons]
      have : (x == y) = false := by simpa using nxy
      rw [this]
      simp [List.lookup]
    | 1, e1, e2 =>
      cases e1
      cases e2
      refine ⟨u2, r2, .inl ⟨hy, ?_⟩⟩
      show ([(y, u2), (x, u1)] : List (Str × Value)).lookup y = some u2
      simp [List.lookup]
  · obtain ⟨_, rfl⟩ := only z c e
    exact ⟨vc, oc, kp _ _ (e0.bs _ _ hcc).1, hoc⟩
  · obtain ⟨_, rfl⟩ := only z c e
    exact (e0.bs _ _ hcc).2
  · exact nomatch (show p ∈ ([] : List (Addr × Obj)) from hp)
end
/-- what the written part says of the error's class at C, its __init__ at f and that one's code object at cda -/
structure SupC (P : Program) (K : PySem.W.Frag) (C f cda cc : Addr) (fd : FuncData) : Prop where
  T : OexC K C
  fn : ∃ oc od osl, K.lookup f = some ⟨oc, od, .func fd, osl⟩
  code : ∃ c d vs sl file t, K.lookup cda = some ⟨c, d, .fields vs, sl⟩ ∧ vs[2]? = some (.str file t) ∧ ((P.main.file : Str) == file) = true
  cell : ∃ c d sl, K.lookup cc = some ⟨c, d, .cell (some (.ref C)), sl⟩
  cls : ∃ cd, PySem.W.clsIn K C = some cd
  own : PySem.W.mroIn K C (.ref C) = some true
  noop : PySem.W.nsIn K cStatics "thirdparty.any" = some none
  sup : PySem.W.ks_superIn K C C "__init__" = some (some (.builtin "ValueError.__init__"))
  ve : PySem.W.subIn K (.ref C) (.type "ValueError") = some true
section
variable {X : Cx} {pins : List (Addr × Obj)} {σ : L2.St} {H : Hp} {s : Shared} {a C u : Addr} {A : Around} {E : Value → Shared → Prop}
/-- the bound built-in __init__, called -/
theorem mw_call {us : List Value} {Q : Value → Shared → Prop} (T : OexC X.K C) (I : Inv X pins σ H s) (e : H a = some (exo a C none)) (hu : s.heap.get? u = some (PySem.W.kxs_mw "ValueError.__init__" a)) (hl : us.length ≤ sizeLine)
    (h : ∀ s', Inv X pins σ H s' → Q .none s') : wpAny (model X.prog X.w) A (call (.ref u) us) Q E s := by
  obtain ⟨nm, q, N, bs, bm, sn, sub, ab, col, dd, k0, k1, k2, k3, k5, hC, hbm⟩ := T.cls
  obtain ⟨t1, ho⟩ := exo_at I.hok e
  have FB := PySem.F.excBase_ValueError
  have hC' := I.kIn _ _ hC
  have fin : ∀ h', (∀ b o, b ≠ a → s.heap.get? b = some o → h'.get? b = some o) →
      h'.get? a = some ({ cls := .ref C, dict := none, data := .fields #[.ref s.heap.objs.size, .none, .none, .none, .bool false, .none] } : Obj) → ∀ t', Q .none { s with heap := h', toks := t' } := fun h' k hx t' => by
    have J := I.write (t' := t') (x := a) (e := a) (o := exo a C none) (by rw [e]; exact True.intro) (.inl rfl) k ⟨_, hx⟩ (exo_ok hx)
    have same : upd H a (exo a C none) = H := funext fun b => by
      by_cases hb : b = a
      · subst hb; rw [upd_same, e]
      · rw [upd_ne hb]
    rw [same] at J
    exact h _ J
  obtain ⟨hh, g, d, t, os⟩ := s
  refine wpAny_call (codeAny_of_tree ?_)
  show wpAny _ A.in1 (callAny (.ref u) ⟨us, []⟩) _ _ _
  simp only [callAny]
  refine wpAny_bind (wpAny_load hu ?_)
  simp only [PySem.W.kxs_mw, show (Value.type "method-wrapper" == Value.type "method" || Value.type "method-wrapper" == Value.type "builtin_function_or_method" || Value.type "method-wrapper" == Value.type "method-wrapper") = true by decide, if_true]
  refine PySem.W.KFB.if_so (by decide) ?_
  refine wpAny_bind (PySem.W.check_bound_init FB.toExcCallFacts hC' ho rfl ?_)
  refine wpAny_bind (wpAny_pure (wpAny_pure ?_))
  refine ⟨plainId_quiet FB.init.plain _, codeAny_builtin FB.initEntry ?_⟩
  exact PySem.W.exc_init_tree (cls := .ref C) (t0 := t1) (dv := none) (c2 := .none) (c3 := .none) (b4 := .bool false) ho hl fun h' k hx _ => fin h' k hx _

/-- super() in such an __init__ -/
theorem super_at {body : List Stmt} {p0 p1 : Pos} {whole : Sem Value} {f cda cc : Addr} {fd : FuncData} {ar : Arg} {Q : Value → Shared → Prop} (S : SupC X.prog X.K C f cda cc fd) (I : Inv X pins σ H s) (e : H a = some (exo a C none))
    (hf : X.env.func = some f) (hc : X.env.code = .ref cda) (hcl : X.env.cells.lookup ("__class__" : Str) = some cc) (hp : (fd.params.posonlyargs ++ fd.params.args).head? = some ar) (hN : X.N[0]? = some ar.arg) (h0 : σ[0]? = some (some (.ref a)))
    (hka : X.env.scope.names.lookup ar.arg = some .local) (hks : X.env.scope.names.lookup ("super" : Str) = some .globalImplicit) (hkc : X.env.scope.names.lookup ("__class__" : Str) = some .free) (hm : X.mg "super" = none)
    (htop : (X.prog.main.scope.names.lookup ("super" : Str)).isSome = false) (h : ∀ so h', (∀ b o, s.heap.get? b = some o → h'.get? b = some o) → h'.get? so = some (PySem.W.ks_superObj C a C) → s.heap.objs.size ≤ so → Q (.ref so) { s with heap := h' }) :
    _root_.PySem.wpAt (model X.prog X.w) X.A (.func body X.env) (attributeBase (.Call (.Name "super" p0) [] [] p1) "__init__" X.env whole) Q E s := by
  obtain ⟨oc, od, osl, lf⟩ := S.fn
  obtain ⟨c1, d1, vs, sl1, file, tf, lc, hvs, hfile⟩ := S.code
  obtain ⟨c2, d2, sl2, lcc⟩ := S.cell
  obtain ⟨cd, hcd⟩ := S.cls
  obtain ⟨t1, ho⟩ := exo_at I.hok e
  have KX := I.kIn
  obtain ⟨mb, hb, hbb⟩ := I.ok.mod.blt
  have nb := hb.keeps I.bk
  have ng := I.ok.mod.glob.keeps I.bk
  obtain ⟨m, hns, hloc⟩ := I.loc
  obtain ⟨us, ru, look⟩ := hloc 0 ar.arg (.ref a) hN h0 (.inl hka)
  obtain rfl : us = Value.ref a := ru
  have hself : m ar.arg = some (.ref a) := by
    rcases look with ⟨_, z⟩ | ⟨k, _⟩
    · exact z
    · have k' : X.env.scope.names.lookup ar.arg = some .cell ∨ X.env.scope.names.lookup ar.arg = some .free := k
      rw [hka] at k'
      rcases k' with k' | k' <;> cases k'
  obtain ⟨oD, hD1, hD2⟩ : ∃ oD, s.heap.get? C = some oD ∧ oD.data = .cls cd := by
    unfold PySem.W.clsIn at hcd
    split at hcd
    · rename_i z1 z2 z3 z4 hz
      cases hcd
      exact ⟨_, KX _ _ hz, rfl⟩
    · cases hcd
  refine PySem.ks_wpAt_super_base (env := X.env) hks hkc (by decide) hf (KX _ _ lf) rfl hp hc (KX _ _ lc) rfl hvs hfile htop ?_
  refine PySem.W.ks_loadName_global I.ok.kind hks (PySem.Calls.loadGlobal_builtin (env := X.env) (by rw [I.ok.glob]; exact ng) hm (by rw [I.ok.blt]; exact nb) ((hbb _ (by decide +kernel)).trans (by decide +kernel)) ⟨rfl, ?_⟩)
  refine wpAny_loadName_free I.ok.kind hkc hcl ⟨_, KX _ _ lcc, rfl⟩ ?_
  refine wpAny_loadName_local I.ok.kind hka hns hself ?_
  refine PySem.ks_wpAny_isType_cls hD1 hD2 ⟨rfl, ?_⟩
  obtain ⟨hh, g, d, t, os⟩ := s
  exact PySem.ks_wpAny_call_super hD1 hD2 ho rfl (fun c z => nomatch z) (PySem.W.looks_mroIn KX S.own) (fun h' q k => h _ h' k q (Nat.le_refl _))
/-- .__init__ of it -/
theorem super_meth {pl : Sem Bool} {so : Addr} {f cda cc : Addr} {fd : FuncData} {Q : Value × List Value → Shared → Prop} (S : SupC X.prog X.K C f cda cc fd) (I : Inv X pins σ H s) (e : H a = some (exo a C none)) (hso : s.heap.get? so = some (PySem.W.ks_superObj C a C))
    (h : ∀ q h', (∀ b o, s.heap.get? b = some o → h'.get? b = some o) → s.heap.objs.size ≤ q → h'.get? q = some (PySem.W.kxs_mw "ValueError.__init__" a) → Q (.ref q, []) { s with heap := h', toks := s.toks + 1 }) :
    wpAny (model X.prog X.w) A (getMethod (.ref so) "__init__" pl) Q E s := by
  obtain ⟨cd, hcd⟩ := S.cls
  obtain ⟨t1, ho⟩ := exo_at I.hok e
  have KX := I.kIn
  have J : PySem.W.InstAt s.heap a { cls := .ref C, dict := none, data := .fields #[.ref t1, .none, .none, .none, .bool false, .none] } C none := ⟨ho, rfl, rfl, trivial⟩
  have hm := S.sup
  unfold PySem.W.ks_superIn at hm
  rw [hcd] at hm
  have hI : PySem.W.Looks (model X.prog X.w) s.heap (isInstance (.ref a) (.type "ValueError")) true := J.type.andThen (PySem.W.looks_subIn KX S.ve)
  obtain ⟨hh, g, d, t, os⟩ := s
  refine PySem.W.kxs_getMethod PySem.W.kxs_ValueError hso (PySem.W.looks_opaque KX S.noop) (l₀ := cd.mro) ?_ rfl KX hm hI (PySem.W.ks_ne KX J hcd) (by decide) ?_
  · exact fun A Q E s k q => wpAny_bind ((PySem.W.looks_clsIn KX hcd) A _ E s k (wpAny_pure q))
  · exact h _ _ (fun b o z => Heap.get?_push_of_some _ z) (Nat.le_refl _) (Heap.get?_push_at rfl rfl)
/-- the statement super().__init__(e) -/
theorem super_stmt {pl : Sem Bool} {body : List Stmt} {p0 p1 p2 p3 p4 : Pos} {ex : Expr} {ta : TA} {f cda cc : Addr} {fd : FuncData} {ar : Arg} {Q : Flow → Shared → Prop} (S : SupC X.prog X.K C f cda cc fd) (I : Inv X [] σ H s) (e : H a = some (exo a C none))
    (hf : X.env.func = some f) (hc : X.env.code = .ref cda) (hcl : X.env.cells.lookup ("__class__" : Str) = some cc) (hp : (fd.params.posonlyargs ++ fd.params.args).head? = some ar) (hN : X.N[0]? = some ar.arg) (h0 : σ[0]? = some (some (.ref a)))
    (hka : X.env.scope.names.lookup ar.arg = some .local) (hks : X.env.scope.names.lookup ("super" : Str) = some .globalImplicit) (hkc : X.env.scope.names.lookup ("__class__" : Str) = some .free) (hm : X.mg "super" = none)
    (htop : (X.prog.main.scope.names.lookup ("super" : Str)).isSome = false) (ha : PA X [ex] ta) (hxe : X.xe = E) (hi : interactive X.env = false)
    (h : ta σ H fun vs H1 => H1 a = some (exo a C none) ∧ vs.length ≤ 1000 ∧ ∀ s', Inv X [] σ H1 s' → Q .next s')
    (hs : swapsWith (.Call (.Attribute (.Call (.Name "super" p0) [] [] p1) "__init__" p2) [ex] [] p3) none p4.line X.env = pure false := by rfl)
    (hst : starEach [ex] X.env = [(false, eval ex X.env)] := by rfl)
    (hev : eval (.Call (.Attribute (.Call (.Name "super" p0) [] [] p1) "__init__" p2) [ex] [] p3) X.env = (do
      let ov ← attributeBase (.Call (.Name "super" p0) [] [] p1) "__init__" X.env (eval (.Call (.Name "super" p0) [] [] p1) X.env)
      standAt p2.atName
      let (g, first) ← holding [ov] (getMethod ov "__init__" pl)
      callWith p3 g first (backTo p3 (starEach [ex] X.env)) []) := by rfl) :
    _root_.PySem.wpAt (model X.prog X.w) X.A (.func body X.env) (exec (.Expr (.Call (.Attribute (.Call (.Name "super" p0) [] [] p1) "__init__" p2) [ex] [] p3) p4) X.env) Q E s := by
  subst hxe
  refine PySem.ks_wpAt_Expr_any ?_ hi hs
  refine PySem.ks_wpAt_MethodCall ?_ hev
  refine super_at S I e hf hc hcl hp hN h0 hka hks hkc hm htop fun so h' k hso hsz => ?_
  have I1 : Inv X [] σ H { s with heap := h' } := I.kept (t' := s.toks) k
  refine super_meth S I1 e hso fun q h2 k2 hsz2 hq => ?_
  have I2 : Inv X [] σ H { s with heap := h2, toks := s.toks + 1 } := I1.kept (t' := s.toks + 1) k2
  have nq : H q = none := I1.hok.fresh hsz2
  have I3 : Inv X [(q, PySem.W.kxs_mw "ValueError.__init__" a)] σ H { s with heap := h2, toks := s.toks + 1 } := I2.pins_of fun p hp' => by
    obtain rfl : p = (q, PySem.W.kxs_mw "ValueError.__init__" a) := List.mem_singleton.mp hp'
    exact ⟨hq, nq, fun z => absurd (Nat.lt_of_lt_of_le I1.lt hsz2) (by rw [show q = X.env.locals from z]; exact Nat.lt_irrefl _), I1.nofs hsz2, fun v z => nomatch z⟩
  refine PySem.W.kxs_callWith (i := "ValueError.__init__") (u := q) (x := a) (by rw [hst]; rfl) ?_
  have hrun := ha.run p3 _ _ σ H _ I3 h
  rw [hst] at hrun ⊢
  refine PySem.Calls.evalArgs_plain (f := .ref q) (x := eval ex X.env) (rest := []) ?_
  refine wpAny_mono hrun (fun us s3 hh => ?_) fun _ _ z => z
  obtain ⟨vs, H1, I4, r, e1, hl, k4⟩ := hh
  have hu : s3.heap.get? q = some (PySem.W.kxs_mw "ValueError.__init__" a) := (I4.pin _ (List.mem_append_right _ (List.mem_singleton.mpr rfl))).1
  refine ⟨hu, ?_⟩
  have hlen : us.length ≤ sizeLine := by
    rw [← r.length, sizeLine_eq]
    omega
  exact mw_call (us := us) S.T (I4.pins_of fun p hp' => absurd hp' (by simp)) e1 hu hlen k4
end
/-- an error's own __init__(self, y): super().__init__(ex); self.fld = y -/
def spIni (C : Addr) (fld : Str) (ok : V → Prop) : Sp := fun vs H Q _ => ∃ (a : Addr) (v : V), vs = [.ref a, v] ∧ ok v ∧ H a = some (exo a C none) ∧
  ∀ (d : Addr) (H' : Hp), H d = none → d ≠ a → H' = upd (upd H d (exd d [(fld, v)])) a (exo a C (some d)) → Q .non H'
section
variable {P : Program} {w : World} {K : PySem.W.Frag} {mg : Str → Option Value} {base : Heap} {x y fld qual : Str} {sc : Scope} {f cda cc C : Addr} {params : Arguments} {dV kV doc pm ct : Value} {an : Option Addr} {ok : V → Prop} {k : Nat}
  {ex : Expr} {ta : TA} {p0 p1 p2 p3 p4 p5 p6 p7 p8 : Pos} {ar : Arg} {pl : Sem Bool}
theorem ini_ok (S : SupC P K C f cda cc (PySem.W.ksFn "__init__" qual params [.Expr (.Call (.Attribute (.Call (.Name "super" p0) [] [] p1) "__init__" p2) [ex] [] p3) p4, .Assign [.Attribute (.Name x p5) fld p6] (.Name y p7) p8] sc dV kV doc pm an (.ref cda) ct cc))
    (hcd : PySem.W.codeIn K (.ref cda) qual = true) (hk : sc.kind = .function) (hco : sc.isCoroutine = false) (hge : sc.isGenerator = false) (hx : sc.names.lookup x = some .local) (hy : sc.names.lookup y = some .local) (nxy : x ≠ y)
    (nocell : ∀ z ∈ sc.names, z.2 ≠ .cell) (hfree : ∀ z ∈ sc.names, z.2 = .free → z.1 = "__class__") (hks : sc.names.lookup ("super" : Str) = some .globalImplicit) (hkc : sc.names.lookup ("__class__" : Str) = some .free) (hm : mg "super" = none)
    (htop : (P.main.scope.names.lookup ("super" : Str)).isSome = false) (hp : (params.posonlyargs ++ params.args).head? = some ar) (har : ar.arg = x) (hf : PySem.W.findIn K (.ref C) fld = some none)
    (ha : ∀ (A : Around) (outer : List Env) (s : Shared) (H : Hp), PA (cloCx P w K mg base [x, y] qual sc f cda cc A outer s H) [ex] ta)
    (hta : ∀ (a : Addr) (v : V) (H : Hp), ok v → ∀ Q : List V → Hp → Prop, (∀ z, Q [z] H) → ta [some (.ref a), some v] H Q)
    (hd1 : (x == ("__debug__" : Str)) = false) (hd2 : (x == ("__classdict__" : Str)) = false) (hd3 : (y == ("__debug__" : Str)) = false) (hd4 : (y == ("__classdict__" : Str)) = false)
    (hi : ∀ s : Shared, interactive (initEnv qual sc s f cda cc) = false) (hsw : ∀ s : Shared, swapsWith (.Call (.Attribute (.Call (.Name "super" p0) [] [] p1) "__init__" p2) [ex] [] p3) none p4.line (initEnv qual sc s f cda cc) = pure false)
    (hst : ∀ s : Shared, starEach [ex] (initEnv qual sc s f cda cc) = [(false, eval ex (initEnv qual sc s f cda cc))])
    (hev : ∀ s : Shared, eval (.Call (.Attribute (.Call (.Name "super" p0) [] [] p1) "__init__" p2) [ex] [] p3) (initEnv qual sc s f cda cc) = (do
      let ov ← attributeBase (.Call (.Name "super" p0) [] [] p1) "__init__" (initEnv qual sc s f cda cc) (eval (.Call (.Name "super" p0) [] [] p1) (initEnv qual sc s f cda cc))
      standAt p2.atName
      let (g, first) ← holding [ov] (getMethod ov "__init__" pl)
      callWith p3 g first (backTo p3 (starEach [ex] (initEnv qual sc s f cda cc))) []))
    (hs2 : ∀ s : Shared, swapsWith (.Name y p7) (some (.Attribute (.Name x p5) fld p6)) p8.line (initEnv qual sc s f cda cc) = pure false) (CX : CXT) :
    FnOk P w K mg base CX (k + 1) f (PySem.W.ksFn "__init__" qual params [.Expr (.Call (.Attribute (.Call (.Name "super" p0) [] [] p1) "__init__" p2) [ex] [] p3) p4, .Assign [.Attribute (.Name x p5) fld p6] (.Name y p7) p8] sc dV kV doc pm an (.ref cda) ct cc) [x, y] (spIni C fld ok) := by
  refine ⟨fun vs H Q E h => ?_, fun A outer s H args us vs Q E hr e0 hb r hsp => ?_⟩
  · obtain ⟨a, v, rfl, _⟩ := h
    rfl
  obtain ⟨a, v, rfl, hok, hea, hQ⟩ := hsp
  cases r with
  | @cons _ u1 _ _ r1 r' =>
  cases r' with
  | @cons _ u2 _ _ r2 r'' =>
  cases r''
  have KX : K.In s.heap := e0.mod.kin.keeps fun b o e => (e0.bs b o e).1
  have lim : s.heap.NoLimit := e0.mod.nolimit.keeps fun b o e => (e0.bs b o e).1
  obtain ⟨oc, od, osl, lk⟩ := S.fn
  obtain ⟨c2, d2, sl2, lcc⟩ := S.cell
  subst har
  refine PySem.ks_codeAny_call_defAt hr.depth (KX _ _ lk) rfl lim (PySem.W.codeRec_of KX hcd) rfl hb nocell (fun z hz => ?_) (fun h1 hns kp => ?_) hco hge hk
  · rcases List.mem_cons.mp hz with rfl | hz
    · exact hx
    · rcases List.mem_cons.mp hz with rfl | hz
      · exact hy
      · cases hz
  have I0 : Inv (cloCx P w K mg base [ar.arg, y] qual sc f cda cc A outer s H) [] [some (.ref a), some v] H { s with heap := h1, toks := s.toks + 2 } :=
    clo_start hk hx hy nxy nocell hfree (e0.mod.kin _ _ lcc) rfl hr.hd e0 r1 r2 hns kp
  show _root_.PySem.wpAt _ ((cloCx P w K mg base [ar.arg, y] qual sc f cda cc A outer s H).A) (.func _ (cloCx P w K mg base [ar.arg, y] qual sc f cda cc A outer s H).env) (execs _ (cloCx P w K mg base [ar.arg, y] qual sc f cda cc A outer s H).env) _ _ _
  refine PySem.ks_wpAt_mono (E := (cloCx P w K mg base [ar.arg, y] qual sc f cda cc A outer s H).xe) (Q := fun fl s' => fl = .next ∧ ∃ σ' H', Inv (cloCx P w K mg base [ar.arg, y] qual sc f cda cc A outer s H) [] σ' H' s' ∧ Q .non H') ?_ (fun fl s' hh => ?_) fun _ _ z => False.elim z
  · refine PySem.ks_wpAt_execs_cons ?_
    refine super_stmt (pl := pl) (ta := ta) S I0 hea rfl rfl rfl hp rfl rfl hx hks hkc hm htop (ha A outer s H) rfl (hi s) (hta a v H hok _ fun z => ⟨hea, by simp, fun s' J => ?_⟩) (hsw s) (hst s) (hev s)
    refine wpAt_of_wpAny ?_
    have q := (pss_one (ps_ost (f := fld) (p' := p6) (pos := p8) (pe_var (X := cloCx P w K mg base [ar.arg, y] qual sc f cda cc A outer s H) (i := 0) (pos := p5) rfl (.inl hx) hd1 hd2) (pe_var (i := 1) (pos := p7) rfl (.inl hy) hd3 hd4) (hs2 s))).run [] s' _ H { nx := fun _ H' => Q .non H', rt := fun _ _ => False, bk := fun _ _ => False, ct := fun _ _ => False } J ?_
    · refine wpAny_mono q (fun fl s2 hh => ?_) fun _ _ z => z
      cases fl with
      | next =>
        obtain ⟨σ', H', J', q'⟩ := hh
        exact ⟨rfl, σ', H', J', q'⟩
      | ret u =>
        obtain ⟨_, _, _, _, _, z⟩ := hh
        exact z.elim
      | brk =>
        obtain ⟨_, _, _, z⟩ := hh
        exact z.elim
      | cont =>
        obtain ⟨_, _, _, z⟩ := hh
        exact z.elim
    · exact ⟨v, rfl, .ref a, rfl, a, C, rfl, S.T, hf, .inl ⟨hea, fun d hd nd => hQ d _ hd nd rfl⟩⟩
  · obtain ⟨rfl, σ', H', J, q⟩ := hh
    exact ⟨.non, H', J.os, J.bare, J.base, J.hok, rfl, q⟩
end
end Hx
set_option maxHeartbeats 4000000
/-! an error that an except clause catches, kept in a local name behind the suite: known from then on -/
namespace Hx
open PySem PySem.Spec PyProof.Rows L2
/-- at z: a caught error of the class cls, its own dict (none | at d) -/
def ExK (cls : Value) (d : Option Addr) (z : Addr) : HO := .ext fun h => ∃ (oe : Obj) (vs : Array Value), h.get? z = some oe ∧ Zc cls d oe ∧ oe.data = .fields vs
theorem exK_ok {P : Program} {w : World} {H : Hp} {h : Heap} {z : Addr} {cls : Value} {d : Option Addr} {oe : Obj} {vs : Array Value} (e : h.get? z = some oe) (q : Zc cls d oe) (hd : oe.data = .fields vs) : ObjOk P w H h z (ExK cls d z) :=
  ⟨⟨oe, vs, e, q, hd⟩, ⟨oe, e⟩, fun h1 h2 ⟨o, v, r, k⟩ m => ⟨o, v, m o r, k⟩⟩
theorem exK_at {P : Program} {w : World} {H : Hp} {h : Heap} {z : Addr} {cls : Value} {d : Option Addr} (ok : HOk P w H h) (e : H z = some (ExK cls d z)) : ∃ (oe : Obj) (vs : Array Value), h.get? z = some oe ∧ Zc cls d oe ∧ oe.data = .fields vs := (ok z _ e).1
section
variable {X : Cx} {pins : List (Addr × Obj)} {σ : L2.St} {H : Hp} {s : Shared}
/-- an object of ours, known from now on -/
theorem known {z : Addr} {o : HO} {oe : Obj} {vs : Array Value} (I : Inv X pins σ H s) (e : s.heap.get? z = some oe) (hd : oe.data = .fields vs) (nz : H z = none) (n0 : X.s_0.heap.get? z = none) (nL : z ≠ X.env.locals) (np : ∀ p ∈ X.pn ++ pins, p.1 ≠ z)
    (ok : ObjOk X.prog X.w (upd H z o) s.heap z o) : Inv X pins σ (upd H z o) s := by
  have old : ∀ {b : Addr} {u : HO}, H b = some u → upd H z o b = some u := fun q => by rw [upd_ne (ne_of_none q nz)]; exact q
  refine { ok := I.ok, os := I.os, bare := I.bare, base := ?_, loc := I.loc, cell := I.cell, free := ?_, freeC := fun y c q => ?_, pin := fun p hp => ?_, hok := fun b u q => ?_, len := I.len }
  · exact { keep := I.base.keep, slot := I.base.slot, there := I.base.there
            free := fun b u q n hx => by rw [upd_ne (fun y => by rw [y, n0] at q; cases q)]; exact I.base.free b u q n hx
            tups := fun b xs q => old (I.base.tups b xs q)
            frzs := fun b u v q => old (I.base.frzs b u v q)
            tbls := fun b ps q => by
              obtain ⟨m, r⟩ := I.base.tbls b ps q
              exact ⟨m, old r⟩ }
  · rw [upd_ne (Ne.symm nL)]; exact I.free
  · have nc : c ≠ z := fun y2 => by
      obtain ⟨v, oc, hc, hcd⟩ := I.cell y c q
      rw [y2, e] at hc
      cases hc
      rw [hd] at hcd
      cases hcd
    rw [upd_ne nc]; exact I.freeC y c q
  · obtain ⟨q1, q2, q3, q4, q5⟩ := I.pin p hp
    exact ⟨q1, by rw [upd_ne (np p hp)]; exact q2, q3, q4, q5⟩
  · by_cases hb : b = z
    · subst hb
      rw [upd_same] at q
      cases q
      exact ok
    · rw [upd_ne hb] at q
      exact (I.hok b u q).stay (fun _ _ _ r => r) (fun c r => old r) fun c xs r => old r
end
/-- what the clause wishes of an error of the body: it stands at slot j behind, known -/
def wKeep (K : PySem.W.Frag) (len : Nat) (c : Value) (i j : Nat) (Wo : WX) (D : Ends) : WX := fun cls d σ H =>
  ∃ b, PySem.W.exmOne K cls c = some b ∧ (b = true → ∀ z, H z = none → σ.length = len → D.nx (((σ.set i (some (.ref z))).set j (some (.ref z))).set i none) (upd H z (ExK cls d z))) ∧ (b = false → Wo cls d σ H)
section
variable {X : Cx} {x n g : Str} {c : Value} {i j : Nat} {body : List Stmt} {np p1 p2 p3 pos pos' : Pos} {tb : WX → TS} {Wo : WX}
theorem ps_try_keep (hs : X.stack = X.env :: X.outer) (hf : X.env.frame = some X.env.locals) (hex : X.ex = []) (hN : X.N.Nodup) (hi : X.N[i]? = some n) (hln : X.env.kindOf n = some .local) (hj : X.N[j]? = some g) (hlg : X.env.kindOf g = some .local) (hij : i ≠ j) (hil : i < X.N.length) (hc : Names X x c) (tk : Takes X Wo)
    (hb : ∀ (W : WX) (pn : List (Addr × Obj)) (xe : Value → Shared → Prop), Takes (X.tr pn xe) W → PassesOwn (model X.prog X.w) X.A X.env xe → PSs (X.tr pn xe) body (tb W))
    (hd1 : (n == ("__debug__" : Str)) = false) (hd2 : (n == ("__classdict__" : Str)) = false) (hd3 : (g == ("__debug__" : Str)) = false)
    (hsw : swapsWith (.Name n p2) (some (.Name g p1)) p3.line X.env = pure false) :
    PS X (.Try body [.ExceptHandler (some (.Name x np)) (some n) [.Assign [.Name g p1] (.Name n p2) p3] pos'] [] [] pos) (fun D σ H => tb (wKeep X.K X.N.length c i j Wo D) D σ H) := by
  refine ⟨fun pins s σ H D I h => ?_⟩
  have ok := I.ok
  have frames2 : X.A.frames = some (X.env :: X.outer) := ok.frames.trans (by rw [hs])
  refine wpAny_Try_except ?_
  have inner := (hb (wKeep X.K X.N.length c i j Wo D) (X.pn ++ pins) (fun e s₁ => wpAny (model X.prog X.w) X.A (noteFrame e X.env) (fun _ s₂ => wpAny (model X.prog X.w) X.A (setFlight e none)
    (fun _ s₃ => wpAny (model X.prog X.w) X.A (handleBy e X.env [.ExceptHandler (some (.Name x np)) (some n) [.Assign [.Name g p1] (.Name n p2) p3] pos']) (SP X pins D) X.xe s₃) X.xe s₂) X.xe s₁) (fun u s' xx => ?_) PassesOwn.looking).run [] s σ H D (I.toTry _) h
  · refine wpAny_mono inner (fun fl s1 hsp => ?_) (fun _ _ he => he)
    cases fl with
    | next =>
      obtain ⟨σ', H', J', q⟩ := hsp
      exact wpAny_execs_nil ⟨σ', H', J'.ofTry ok, q⟩
    | ret u =>
      obtain ⟨v, σ', H', J', r, q⟩ := hsp
      exact ⟨v, σ', H', J'.ofTry ok, r, q⟩
    | brk =>
      obtain ⟨σ', H', J', q⟩ := hsp
      exact ⟨σ', H', J'.ofTry ok, q⟩
    | cont =>
      obtain ⟨σ', H', J', q⟩ := hsp
      exact ⟨σ', H', J'.ofTry ok, q⟩
  · obtain ⟨z, G, t0, pins1, σ1, H1, cls, d, rfl, J0, ng, upS, sky, nz, oss, agg, b, hb1, yes, no⟩ := xx
    have J : Inv X pins σ1 H1 t0 := J0.ofTry ok
    have sky2 : Sky G (X.env :: X.outer) z (Zc cls d) X.env.locals s'.heap := hs ▸ sky
    show wpAny (model X.prog X.w) X.A (noteFrame (.ref z) X.env) _ _ _
    refine Sky.land Zc.steady frames2 hf sky2 fun h3 fl3 up3 => ?_
    have J3 : Inv X pins σ1 H1 { s' with heap := h3 } := J.landed ng fl3.1 (upS.trans up3) oss agg
    obtain ⟨oe3, vs3, he3, hz3, hd3'⟩ := fl3.there
    have nfr : z ∉ frs (X.env :: X.outer) := fun hm => by
      obtain ⟨_, o', e', hnf⟩ := fl3.2.2.1.mem hm
      rw [he3] at e'
      cases e'
      exact hnf _ hd3'
    have nL : z ≠ X.env.locals := fun q => nfr (List.mem_filterMap.mpr ⟨X.env, List.mem_cons_self, by rw [hf, q]⟩)
    have nF : z ∉ X.fs := fun hm => by
      obtain ⟨ev, hev, q⟩ := List.mem_filterMap.mp hm
      exact nfr (List.mem_filterMap.mpr ⟨ev, List.mem_cons_of_mem _ hev, q⟩)
    have nT : t0.heap.get? z = none := by
      cases q : t0.heap.get? z with
      | none => rfl
      | some o =>
        have q2 := ng z o q (by rw [hs]; exact nfr)
        rw [fl3.2.1] at q2
        cases q2
    have n0 : X.s_0.heap.get? z = none := by
      cases q : X.s_0.heap.get? z with
      | none => rfl
      | some o =>
        obtain ⟨o', q2⟩ := J.base.there z o q (by rw [hex]; exact fun y => nomatch y)
        rw [nT] at q2
        cases q2
    have nP : ∀ p ∈ X.pn ++ pins, p.1 ≠ z := fun p hp y => by
      have q := (J.pin p hp).1
      rw [y, nT] at q
      cases q
    refine wpAny_handleBy_cons (codeAny_handlers_test ?_) (by intro q; cases q)
    have ty : PySem.W.Looks (model X.prog X.w) h3 (typeOf (.ref z)) cls := fun A Q E s k q => wpAny_typeOf_ref (k _ _ he3) (by rw [hz3.1]; exact q)
    have mt := PySem.W.exm_one (M := model X.prog X.w) J3.kIn ty hb1
    have S3 := J3.suite he3 hd3' nz nL nF
    have test : ∀ {Q : Value → Shared → Prop} {E : Value → Shared → Prop}, Q c { s' with heap := h3 } → wpAny (model X.prog X.w) (X.A.mark (some (.ref z))) (eval (.Name x np) X.env) Q E { s' with heap := h3 } := fun q => by
      obtain ⟨hg, hdbg, hm | ⟨hm, hv, hnn⟩⟩ := hc
      · exact ld_glob (X := X.suite z ((z, oe3) :: (X.pn ++ pins))) S3 hg hm q hdbg
      · exact ld_blt (X := X.suite z ((z, oe3) :: (X.pn ++ pins))) S3 hg hm hv q hnn hdbg
    refine test (mt.here ?_)
    cases b with
    | true =>
      refine codeAny_handlers_suite_as ?_
      refine HandSPX.lands_againZ fl3 fun h4 fl4 up4 => ?_
      have J4 : Inv X pins σ1 H1 { s' with heap := h4 } := J.landed ng fl4.1 ((upS.trans up3).trans up4) oss agg
      obtain ⟨oe4, vs4, he4, hz4, hd4⟩ := fl4.there
      have S4 := J4.suite he4 hd4 nz nL nF
      refine store_ok (X := X.suite z ((z, oe4) :: (X.pn ++ pins))) (v := .ref z) S4 hN hi (.inl hln) rfl (fun s5 S5 => ?_) (.inr hln)
      have iσ : i < (σ1.set i (some (V.ref z))).length := by rw [List.length_set, J.len]; exact hil
      have step := (pss_one (ps_asg (X := X.suite z ((z, oe4) :: (X.pn ++ pins))) (pos := p3) (pe_var (i := i) (pos := p2) hi (.inl hln) hd1 hd2) (pg_name (i := j) (pos := p1) hN hj (.inl hlg) (hf := .inr hlg)) hsw)).run [] s5 (σ1.set i (some (.ref z))) H1
        { nx := fun σ6 H6 => σ6 = (σ1.set i (some (.ref z))).set j (some (.ref z)) ∧ H6 = H1, rt := fun _ _ => False, bk := fun _ _ => False, ct := fun _ _ => False } S5
        ⟨.ref z, by rw [List.getElem?_set_self (by rw [J.len]; exact hil)], rfl, rfl⟩
      refine wpAny_mono step (fun fl s6 hsp => ?_) (fun _ _ q => False.elim q)
      cases fl with
      | next =>
        obtain ⟨σ6, H6, S6, rfl, rfl⟩ := hsp
        refine gone_ok (X := X.suite z ((z, oe4) :: (X.pn ++ pins))) S6 hN hi hln fun s7 S7 => ?_
        have hp7 := S7.pin (z, oe4) (List.mem_append_left _ List.mem_cons_self)
        exact ⟨_, _, known (S7.unsuite ok) hp7.1 hd4 nz n0 nL nP (exK_ok hp7.1 hz4 hd4), yes rfl z nz J.len⟩
      | ret u =>
        obtain ⟨_, _, _, _, _, q⟩ := hsp
        exact q.elim
      | brk =>
        obtain ⟨_, _, _, q⟩ := hsp
        exact q.elim
      | cont =>
        obtain ⟨_, _, _, q⟩ := hsp
        exact q.elim
    | false =>
      show wpAny _ X.A (handleBy (.ref z) X.env []) _ _ _
      refine wpAny_handleBy_nil ?_
      obtain ⟨k1, k2, k3, oe, vs, T, oT, ts', he, hz, hd, h1, hr⟩ := id fl3
      unfold PySem.passOn
      refine wpAny_bind (wpAny_field he hd h1 ?_)
      rw [if_neg (show ¬ ((Value.ref T == Value.none) = true) by simp)]
      have goOn : wpAny (model X.prog X.w) X.A (setFlight (.ref z) X.env.frame) (fun _ s4 => wpAny (model X.prog X.w) X.A (throw (.ref z) : Sem Flow) (SP X pins D) X.xe s4) X.xe { s' with heap := h3 } := by
        rw [hf]
        refine HandSPX.setFlight_upZ fl3 fun h4 hh4 up4 => wpAny_throw (tk _ _ ?_)
        exact ⟨z, G, t0, pins, σ1, H1, cls, d, rfl, J, ng, (upS.trans up3).trans up4, .inr (.inr (by rw [hs]; exact hh4)), nz, oss, agg, no rfl⟩
      first
        | exact wpAny_bind (wpAny_pure (wpAny_bind goOn))
        | exact wpAny_bind goOn
end
/-! ### what is asked of such an error behind -/
section
variable {X : Cx} {pins : List (Addr × Obj)} {σ : L2.St} {H : Hp} {s : Shared}
/-- it is an instance of its class, its own dict (if there is one) an error's dict -/
theorem inst_of {z D : Addr} {d : Option Addr} (I : Inv X pins σ H s) (e : H z = some (ExK (.ref D) d z)) (hd : ∀ y, d = some y → ∃ fs, H y = some (.xd fs)) :
    ∃ oe od, PySem.W.InstAt s.heap z oe D od := by
  obtain ⟨oe, vs, ho, ⟨z1, z2⟩, hf⟩ := exK_at I.hok e
  cases d with
  | none =>
    refine ⟨oe, none, ho, z1, ?_, by rw [z2]; trivial⟩
    unfold PySem.W.notCls
    rw [hf] <;> rfl
  | some y =>
    obtain ⟨fs, hy⟩ := hd y rfl
    have q : ObjOk X.prog X.w H s.heap y (.xd fs) := I.hok y _ hy
    obtain ⟨mA, hns, _⟩ := q
    obtain ⟨od, hod, _⟩ := lookIn_ns hns
    refine ⟨oe, some od, ho, z1, ?_, by rw [z2]; exact hod⟩
    unfold PySem.W.notCls
    rw [hf] <;> rfl
end
/-- isinstance(e, c), e known as above -/
def rIsK (K : PySem.W.Frag) : List V → Hp → VK → Prop := fun xs H Q => ∃ (z D : Addr) (d : Option Addr) (c : V) (cv : Value) (b : Bool), xs = [.ref z, c] ∧ H z = some (ExK (.ref D) d z) ∧ (∀ y, d = some y → ∃ fs, H y = some (.xd fs)) ∧
  ExcC K D ∧ (∀ u, RelV c u → u = cv) ∧ PySem.W.kitOne K (.ref D) cv = some b ∧ Q (.bl b) H
theorem call_isK {X : Cx} : CallR X (.builtin "isinstance") (rIsK X.K) := by
  intro pins s σ H xs us Q I r h
  obtain ⟨z, D, d, c, cv, b, rfl, e, hd, C, hcv, kb, q⟩ := h
  cases r with
  | cons rx rr =>
    cases rr with
    | cons rt rr =>
      cases rr
      cases rx
      obtain rfl := hcv _ rt
      obtain ⟨oe, od, J⟩ := inst_of I e hd
      have cl : (PySem.W.clsIn X.K D).isSome = true := by
        obtain ⟨cd, hc, _⟩ := PySem.W.any_some C.hd
        rw [hc] <;> rfl
      exact PySem.W.kia_one (PySem.W.kitx_exc cl C.hg C.hk C.hs C.ha C.hn C.ht C.hm) I.kIn J kb (fun y => nomatch y) fun tk => ⟨.bl b, H, I.kept (t' := tk) fun _ _ y => y, rfl, q⟩
/-- e.n -/
def tKf (K : PySem.W.Frag) (n : Str) (te : TE) : TE := fun σ H Q => te σ H fun x H1 => ∃ (z D y : Addr) (fs : List (Str × V)) (v : V), x = .ref z ∧ H1 z = some (ExK (.ref D) (some y) z) ∧ XfC K D ∧ PySem.W.findIn K (.ref D) n = some none ∧
  H1 y = some (.xd fs) ∧ fs.lookup n = some v ∧ Q v H1
theorem pe_kf {X : Cx} {e : Expr} {te : TE} {pos : Pos} {n : Str} (he : PE X e te) (hb : attributeBase e n X.env (eval e X.env) = eval e X.env := by rfl) : PE X (.Attribute e n pos) (tKf X.K n te) := by
  refine ⟨fun pins s σ H Q I h => ?_⟩
  refine attr_of hb (thn (he.run pins s σ H _ I h) fun u s1 hh => ?_)
  obtain ⟨x, H1, I1, rx, z, D, y, fs, v, rfl, ez, T, hno, ey, l, q⟩ := hh
  obtain rfl : u = Value.ref z := rx
  obtain ⟨oe, vs, ho, ⟨z1, z2⟩, hf⟩ := exK_at I1.hok ez
  have hx : ObjOk X.prog X.w H1 s1.heap y (.xd fs) := I1.hok y _ ey
  obtain ⟨mA, hns, hr⟩ := hx
  obtain ⟨od, hod, hl⟩ := lookIn_ns hns
  obtain ⟨u2, hu, ru⟩ := RelO.some_of (v := v) (o := mA n) (by rw [← l]; exact hr n)
  have J : PySem.W.InstAt s1.heap z oe D (some od) := ⟨ho, z1, by unfold PySem.W.notCls; rw [hf] <;> rfl, by rw [z2]; exact hod⟩
  exact HandSPX.exc_get I1.kIn J T.ga T.gg T.exC (PySem.W.findObj_own T.hdC hno rfl (by rw [hl, hu])) (handed_of ru) ⟨v, H1, I1.tok _, ru, q⟩
end Hx
set_option maxHeartbeats 4000000
/-! x(lambda: body), x's def: found = None; try: a() except T as error: found = error; return found -/
namespace Hx
open PySem PySem.Spec PyProof.Rows L2 LamX
/-- what comes of it: None, or the error, known -/
def TCaught (K : PySem.W.Frag) (CT : Addr) : (XK → Hp → VK → Prop) → Hp → VK → Prop := fun tl H Q =>
  tl (fun cls d H' => ∃ b, PySem.W.exmOne K cls (.ref CT) = some b ∧ (b = true → ∀ z, H' z = none → Q (.ref z) (upd H' z (ExK cls d z))) ∧ (b = false → False)) H (fun _ H' => Q .non H')
section
variable {X : Cx}
theorem caught_gives {x a g n t q : Str} {sg : Scope} {f0 CT : Addr} {cdg : Value} {j : Nat} {p1 p2 p3 p4 p5 p6 p7 p8 p9 p10 p11 p12 p13 p14 p15 : Pos} (hge : sg.names.lookup t = some .globalImplicit) (hme : X.mg t = some (.ref CT)) (hde : (t == ("__debug__" : Str)) = false)
    (ha : sg.names.lookup a = some .local) (hg : sg.names.lookup g = some .local) (hn : sg.names.lookup n = some .local) (nd : ([a, g, n] : List Str).Nodup)
    (b1 : (n == ("__debug__" : Str)) = false) (b2 : (n == ("__classdict__" : Str)) = false) (b3 : (g == ("__debug__" : Str)) = false) (b4 : (g == ("__classdict__" : Str)) = false)
    (hsw : ∀ (s : Shared), swapsWith (.Name n p10) (some (.Name g p9)) p11.line (envOfC x sg s.heap.objs.size f0 cdg) = pure false) (hsw1 : ∀ (s : Shared), swapsWith (.Constant .none j p2) (some (.Name g p1)) p3.line (envOfC x sg s.heap.objs.size f0 cdg) = pure false) :
    GivesTo X [a, g, n] x sg f0 cdg [.Assign [.Name g p1] (.Constant .none j p2) p3,
      .Try [.Expr (.Call (.Name a p4) [] [] p5) p6] [.ExceptHandler (some (.Name t p7)) (some n) [.Assign [.Name g p9] (.Name n p10) p11] p12] [] [] p13, .Return (some (.Name g p14)) p15] a q (TCaught X.K CT) := by
  intro f c' s H Q tl act hc h
  have hgl : Gl (cxOf C8.CX0 X.prog X.w X.K X.mg X.base [a, g, n] x sg f0 cdg X.A X.stack s H C8.E0).nox t := hge
  refine ⟨_, pss_cons (ps_asg pe_non (pg_name (i := 1) nd rfl (.inl hg) (hf := .inr hg)) (hsw1 s)) (pss_cons (ps_try_keep (X := (cxOf C8.CX0 X.prog X.w X.K X.mg X.base [a, g, n] x sg f0 cdg X.A X.stack s H C8.E0).nox) (c := .ref CT) (i := 2) (j := 1)
      (tb := fun W D σ H => ∃ Ech : XK, (∀ cls d σ' H', Ech cls d H' → W cls d σ' H') ∧ σ[0]? = some (some (.ref f)) ∧ H c' = some (CodeO c' q) ∧ tl Ech H (fun _ H1 => D.nx σ H1))
      rfl rfl rfl nd rfl hn rfl hg (by decide) (by show 2 < 3; decide) ⟨hgl, hde, .inl hme⟩ LamX.takes0 (fun W pn xe tk _ => ?_) b1 b2 b3 (hsw s)) (pss_one (ps_ret (pe_var (i := 1) rfl (.inl hg) b3 b4)))), ?_⟩
  · refine ⟨fun pins s' σ H' D I h' => ?_⟩
    obtain ⟨Ech, hW, h1, h2, h3⟩ := h'
    exact (pss_one (ps_expr (pos := p6) (act W pn xe Ech p4 p5 tk hW))).run pins s' σ H' D I ⟨h1, h2, h3⟩
  · have e : (fun (_ : V) (H1 : Hp) => tRet (tVar 1) { nx := fun _ H' => Q .non H', rt := Q } (List.set (L2.start [a, g, n] [V.ref f]) 1 (some V.non)) H1) = fun (_ : V) (H1 : Hp) => Q .non H1 :=
      funext fun _ => funext fun H1 => propext ⟨fun ⟨v, hv, r⟩ => by cases hv; exact r, fun r => ⟨.non, rfl, r⟩⟩
    refine ⟨fun cls d H' => ∃ b, PySem.W.exmOne X.K cls (.ref CT) = some b ∧ (b = true → ∀ z, H' z = none → Q (.ref z) (upd H' z (ExK cls d z))) ∧ (b = false → False), fun cls d σ' H' hE => ?_, rfl, hc, ?_⟩
    rotate_left
    · show tl _ H (fun (_ : V) (H1 : Hp) => tRet (tVar 1) { nx := fun _ H' => Q .non H', rt := Q } (List.set (L2.start [a, g, n] [V.ref f]) 1 (some V.non)) H1)
      rw [e]
      exact h
    obtain ⟨b, e1, e2, e3⟩ := hE
    refine ⟨b, e1, fun hb z nz hl => ?_, fun hb => (e3 hb).elim⟩
    have hl' : σ'.length = 3 := hl
    refine ⟨.ref z, ?_, e2 hb z nz⟩
    match σ', hl' with
    | [s0, s1, s2], _ => rfl
end
end Hx
set_option maxHeartbeats 4000000
/-! data that stands in the heap: kept, compared -/
namespace Hx
open PySem PySem.Spec PyProof.Rows L2
theorem same_seqT {K : PySem.W.Frag} {H H' : Hp} {a : Addr} {xs : List V} (e : Same H H') (h : SqT K H a xs) : SqT K H' a xs := by
  rcases h with (h | ⟨o, h⟩) | h
  · exact .inl (.inl (e _ _ h))
  · exact .inl (.inr ⟨o, e _ _ h⟩)
  · exact .inr h
mutual
theorem dp_same {K : PySem.W.Frag} {H H' : Hp} (e : Same H H') : ∀ {v : V} {d : PyData}, Dp K H v d → Dp K H' v d
  | _, _, .non => .non
  | _, _, .bl b => .bl b
  | _, _, .int i => .int i
  | _, _, .str x => .str x
  | _, _, .lst h r => .lst (e.seq h) (dpAll_same e r)
  | _, _, .tup h r => .tup (same_seqT e h) (dpAll_same e r)
theorem dpAll_same {K : PySem.W.Frag} {H H' : Hp} (e : Same H H') : ∀ {vs : List V} {ds : List PyData}, DpAll K H vs ds → DpAll K H' vs ds
  | _, _, .nil => .nil
  | _, _, .cons h r => .cons (dp_same e h) (dpAll_same e r)
end
section
variable {K : PySem.W.Frag} {H : Hp}
theorem dpAll_ints : ∀ ns : List Int, DpAll K H (ns.map V.int) (ns.map PyData.int)
  | [] => .nil
  | n :: r => .cons (.int n) (dpAll_ints r)
theorem dpAll_strs : ∀ ns : List Str, DpAll K H (ns.map V.str) (ns.map PyData.str)
  | [] => .nil
  | n :: r => .cons (.str n) (dpAll_strs r)
theorem dpAll_len : ∀ {vs : List V} {ds : List PyData}, DpAll K H vs ds → vs.length = ds.length
  | _, _, .nil => rfl
  | _, _, .cons _ r => by simp [dpAll_len r]
theorem dpAll_app : ∀ {vs us : List V} {ds es : List PyData}, DpAll K H vs ds → DpAll K H us es → DpAll K H (vs ++ us) (ds ++ es)
  | _, _, _, _, .nil, h => h
  | _, _, _, _, .cons a r, h => .cons a (dpAll_app r h)
theorem dpAll_get : ∀ {vs : List V} {ds : List PyData} {i : Nat} {v : V}, DpAll K H vs ds → vs[i]? = some v → ∃ d, ds[i]? = some d ∧ Dp K H v d
  | _, _, 0, _, .cons a _, e => by cases e; exact ⟨_, rfl, a⟩
  | _, _, i + 1, v, .cons _ r, e => dpAll_get (i := i) r e
theorem dpAll_at : ∀ {vs : List V} {ds : List PyData} {i : Nat} {d : PyData}, DpAll K H vs ds → ds[i]? = some d → ∃ v, vs[i]? = some v ∧ Dp K H v d
  | _, _, 0, _, .cons a _, e => by cases e; exact ⟨_, rfl, a⟩
  | _, _, i + 1, v, .cons _ r, e => dpAll_at (i := i) r e
theorem dpAll_erase : ∀ {vs : List V} {ds : List PyData} (i : Nat), DpAll K H vs ds → DpAll K H (vs.eraseIdx i) (ds.eraseIdx i)
  | _, _, _, .nil => .nil
  | _, _, 0, .cons _ r => r
  | _, _, i + 1, .cons a r => .cons a (dpAll_erase i r)
theorem dpAll_take : ∀ {vs : List V} {ds : List PyData} (i : Nat), DpAll K H vs ds → DpAll K H (vs.take i) (ds.take i)
  | _, _, 0, _ => by simp; exact .nil
  | _, _, _ + 1, .nil => .nil
  | _, _, i + 1, .cons a r => .cons a (dpAll_take i r)
theorem dpAll_drop : ∀ {vs : List V} {ds : List PyData} (i : Nat), DpAll K H vs ds → DpAll K H (vs.drop i) (ds.drop i)
  | _, _, 0, h => h
  | _, _, _ + 1, .nil => .nil
  | _, _, i + 1, .cons _ r => dpAll_drop i r
end
/-- what may be compared: plain data, n deep at most -/
def Sh (n : Nat) (d : PyData) : Prop := d.canLay0 = true ∧ d.depth ≤ n
theorem Sh.up {n m : Nat} {d : PyData} (h : Sh n d) (l : n ≤ m) : Sh m d := ⟨h.1, Nat.le_trans h.2 l⟩
theorem Sh.shaped {n : Nat} {d : PyData} (h : Sh n d) (l : n ≤ 64) : SeqAt.shaped d = true := by
  simp [SeqAt.shaped, h.1, Nat.le_trans h.2 l]
theorem sh_int (i : Int) : Sh 0 (.int i) := ⟨rfl, by simp [PyData.depth]⟩
theorem sh_all {n : Nat} : ∀ {ds : List PyData}, (∀ d ∈ ds, Sh n d) → PyData.canLayAll0 ds = true ∧ PyData.depthAll ds ≤ n
  | [], _ => ⟨rfl, by simp [PyData.depthAll]⟩
  | d :: r, h => by
    obtain ⟨a, b⟩ := sh_all (ds := r) fun x hx => h x (List.mem_cons_of_mem _ hx)
    obtain ⟨c, e⟩ := h d List.mem_cons_self
    refine ⟨by simp [PyData.canLayAll0, c, a], ?_⟩
    simp only [PyData.depthAll]
    exact Nat.max_le.mpr ⟨e, b⟩
theorem sh_list {n : Nat} {ds : List PyData} (h : ∀ d ∈ ds, Sh n d) : Sh (n + 1) (.list ds) := by
  obtain ⟨a, b⟩ := sh_all h
  exact ⟨by simp [PyData.canLay0, a], by simp only [PyData.depth]; omega⟩
theorem sh_tup {n : Nat} {ds : List PyData} (h : ∀ d ∈ ds, Sh n d) : Sh (n + 1) (.tuple ds) := by
  obtain ⟨a, b⟩ := sh_all h
  exact ⟨by simp [PyData.canLay0, a], by simp only [PyData.depth]; omega⟩
theorem eqv_nil (ds : List PyData) : PyData.eqv (.list ds) (.list []) = ds.isEmpty := by
  cases ds <;> simp [PyData.eqv, PyData.eqvAll]
theorem idx0 {n : Nat} (h : 0 < n) : seqIndex? 0 n = some 0 := by
  unfold seqIndex?
  first | rfl | (simp; omega) | (split <;> simp <;> omega)
theorem idxN {n i : Nat} (h : i < n) : seqIndex? (i : Int) n = some i := by
  unfold seqIndex?
  first | (simp; omega) | (split <;> simp <;> omega)
/-! ### data without lists: it stays whatever is done -/
/-- tuples, and what is locked, stay -/
def TK (H H' : Hp) : Prop := (∀ b xs, H b = some (.tup xs) → H' b = some (.tup xs)) ∧ ∀ b o u, H b = some (.frz o u) → H' b = some (.frz o u)
theorem TK.refl (H : Hp) : TK H H := ⟨fun _ _ h => h, fun _ _ _ h => h⟩
theorem TK.trans {H H1 H2 : Hp} (a : TK H H1) (b : TK H1 H2) : TK H H2 := ⟨fun c xs h => b.1 c xs (a.1 c xs h), fun c o u h => b.2 c o u (a.2 c o u h)⟩
theorem TK.of {H H' : Hp} (e : Same H H') : TK H H' := ⟨fun b _ h => e b _ h, fun b _ _ h => e b _ h⟩
theorem TK.new {H : Hp} {a : Addr} {o : HO} (h : H a = none) : TK H (upd H a o) := .of fun b u e => by rw [upd_ne (ne_of_none e h)]; exact e
theorem TK.lst {H : Hp} {a : Addr} {o : HO} {xs : List V} (h : H a = some (.lst xs)) : TK H (upd H a o) :=
  ⟨fun b _ e => by rw [upd_ne (ne_of e h (by intro z; cases z))]; exact e, fun b _ _ e => by rw [upd_ne (ne_of e h (by intro z; cases z))]; exact e⟩
theorem TK.dct {H : Hp} {a : Addr} {o : HO} {xs : List (Key × V)} (h : H a = some (.dK xs)) : TK H (upd H a o) :=
  ⟨fun b _ e => by rw [upd_ne (ne_of e h (by intro z; cases z))]; exact e, fun b _ _ e => by rw [upd_ne (ne_of e h (by intro z; cases z))]; exact e⟩
theorem tk_seqT {K : PySem.W.Frag} {H H' : Hp} {a : Addr} {xs : List V} (e : TK H H') (h : SqT K H a xs) : SqT K H' a xs := by
  rcases h with (h | ⟨o, h⟩) | h
  · exact .inl (.inl (e.1 _ _ h))
  · exact .inl (.inr ⟨o, e.2 _ _ _ h⟩)
  · exact .inr h
mutual
inductive Dt (K : PySem.W.Frag) (H : Hp) : V → PyData → Prop
  | non : Dt K H .non .none
  | bl (b : Bool) : Dt K H (.bl b) (.bool b)
  | int (i : Int) : Dt K H (.int i) (.int i)
  | str (x : Str) : Dt K H (.str x) (.str x)
  | tup {a : Addr} {xs : List V} {ds : List PyData} : SqT K H a xs → DtAll K H xs ds → Dt K H (.ref a) (.tuple ds)
inductive DtAll (K : PySem.W.Frag) (H : Hp) : List V → List PyData → Prop
  | nil : DtAll K H [] []
  | cons {v : V} {vs : List V} {d : PyData} {ds : List PyData} : Dt K H v d → DtAll K H vs ds → DtAll K H (v :: vs) (d :: ds)
end
section
variable {K : PySem.W.Frag} {H H' : Hp}
mutual
theorem Dt.keep (e : TK H H') : ∀ {v : V} {d : PyData}, Dt K H v d → Dt K H' v d
  | _, _, .non => .non
  | _, _, .bl b => .bl b
  | _, _, .int i => .int i
  | _, _, .str x => .str x
  | _, _, .tup h r => .tup (tk_seqT e h) (DtAll.keep e r)
theorem DtAll.keep (e : TK H H') : ∀ {vs : List V} {ds : List PyData}, DtAll K H vs ds → DtAll K H' vs ds
  | _, _, .nil => .nil
  | _, _, .cons h r => .cons (Dt.keep e h) (DtAll.keep e r)
end
mutual
theorem Dt.dp : ∀ {v : V} {d : PyData}, Dt K H v d → Dp K H v d
  | _, _, .non => .non
  | _, _, .bl b => .bl b
  | _, _, .int i => .int i
  | _, _, .str x => .str x
  | _, _, .tup h r => .tup h (DtAll.dp r)
theorem DtAll.dp : ∀ {vs : List V} {ds : List PyData}, DtAll K H vs ds → DpAll K H vs ds
  | _, _, .nil => .nil
  | _, _, .cons h r => .cons (Dt.dp h) (DtAll.dp r)
end
theorem DtAll.ints : ∀ ns : List Int, DtAll K H (ns.map V.int) (ns.map PyData.int)
  | [] => .nil
  | n :: r => .cons (.int n) (DtAll.ints r)
theorem DtAll.strs : ∀ ns : List Str, DtAll K H (ns.map V.str) (ns.map PyData.str)
  | [] => .nil
  | n :: r => .cons (.str n) (DtAll.strs r)
theorem DtAll.len {vs : List V} {ds : List PyData} (h : DtAll K H vs ds) : vs.length = ds.length := dpAll_len h.dp
theorem DtAll.app : ∀ {vs us : List V} {ds es : List PyData}, DtAll K H vs ds → DtAll K H us es → DtAll K H (vs ++ us) (ds ++ es)
  | _, _, _, _, .nil, h => h
  | _, _, _, _, .cons a r, h => .cons a (DtAll.app r h)
theorem DtAll.get : ∀ {vs : List V} {ds : List PyData} {i : Nat} {v : V}, DtAll K H vs ds → vs[i]? = some v → ∃ d, ds[i]? = some d ∧ Dt K H v d
  | _, _, 0, _, .cons a _, e => by cases e; exact ⟨_, rfl, a⟩
  | _, _, i + 1, v, .cons _ r, e => DtAll.get (i := i) r e
theorem DtAll.at_ : ∀ {vs : List V} {ds : List PyData} {i : Nat} {d : PyData}, DtAll K H vs ds → ds[i]? = some d → ∃ v, vs[i]? = some v ∧ Dt K H v d
  | _, _, 0, _, .cons a _, e => by cases e; exact ⟨_, rfl, a⟩
  | _, _, i + 1, v, .cons _ r, e => DtAll.at_ (i := i) r e
theorem DtAll.erase : ∀ {vs : List V} {ds : List PyData} (i : Nat), DtAll K H vs ds → DtAll K H (vs.eraseIdx i) (ds.eraseIdx i)
  | _, _, _, .nil => .nil
  | _, _, 0, .cons _ r => r
  | _, _, i + 1, .cons a r => .cons a (DtAll.erase i r)
theorem DtAll.take : ∀ {vs : List V} {ds : List PyData} (i : Nat), DtAll K H vs ds → DtAll K H (vs.take i) (ds.take i)
  | _, _, 0, _ => by simp; exact .nil
  | _, _, _ + 1, .nil => .nil
  | _, _, i + 1, .cons a r => .cons a (DtAll.take i r)
theorem DtAll.drop : ∀ {vs : List V} {ds : List PyData} (i : Nat), DtAll K H vs ds → DtAll K H (vs.drop i) (ds.drop i)
  | _, _, 0, h => h
  | _, _, _ + 1, .nil => .nil
  | _, _, i + 1, .cons _ r => DtAll.drop i r
end
end Hx
set_option maxHeartbeats 4000000
namespace K05
open PySem PySem.Spec PyProof.Rows L2
/-! the text by places -/
def top (i : Nat) : Stmt := PySem.Challenge.pw_behindtaps_k05_nets_judged_and_their_pla.main.body.getD i (.Pass ⟨0, 0, 0, 0⟩)
abbrev s_wall : Stmt := top 2
abbrev sTooMany_init : Stmt := inClass (top 11) 0
abbrev sis_name : Stmt := top 19
abbrev sare_names : Stmt := top 20
abbrev sare_taps : Stmt := top 21
abbrev sis_lot : Stmt := top 22
abbrev scheck_lot : Stmt := top 23
abbrev scheck_sort : Stmt := top 24
abbrev slots_in : Stmt := top 25
abbrev sopposite_in : Stmt := top 26
abbrev splain_lot_in : Stmt := top 27
abbrev splain_lots_in : Stmt := top 28
abbrev sis_whole : Stmt := top 30
abbrev sis_number : Stmt := top 31
abbrev sdivided : Stmt := top 32
abbrev sis_number_from_0 : Stmt := top 33
abbrev sare_numbers : Stmt := top 34
abbrev stop_of : Stmt := top 35
abbrev sbottom_of : Stmt := top 36
abbrev splus : Stmt := top 37
abbrev sturned : Stmt := top 38
abbrev sminus : Stmt := top 39
abbrev stimes : Stmt := top 40
abbrev sis_less : Stmt := top 41
abbrev sover_one_bottom : Stmt := top 42
abbrev ssum_of : Stmt := top 43
abbrev snumber_text : Stmt := top 44
abbrev sis_net : Stmt := top 49
abbrev ssort_of : Stmt := top 50
abbrev sis_of_sort : Stmt := top 51
abbrev splaces_of : Stmt := top 52
abbrev sinner_of : Stmt := top 53
abbrev sbeside : Stmt := top 54
abbrev sscaled : Stmt := top 55
abbrev srenamed_net : Stmt := top 56
abbrev swithout_empty : Stmt := top 57
abbrev sturned_net : Stmt := top 58
abbrev smelted_net : Stmt := top 59
abbrev shidden_net : Stmt := top 60
abbrev sas_leads : Stmt := top 61
abbrev sas_hubs : Stmt := top 62
abbrev sas_pipes : Stmt := top 63
abbrev sis_part : Stmt := top 64
abbrev splaces_of_part : Stmt := top 65
abbrev splaces_in : Stmt := top 66
abbrev sinner_in : Stmt := top 67
abbrev shas_kind : Stmt := top 68
abbrev smixes_leads_and_hubs : Stmt := top 69
abbrev ssort_in : Stmt := top 70
abbrev scheck_net : Stmt := top 71
abbrev scheck_tap_left : Stmt := top 72
abbrev scheck_new_names : Stmt := top 73
abbrev ssmall_net : Stmt := top 74
abbrev snames_beside : Stmt := top 75
abbrev srenamed_part : Stmt := top 76
abbrev sjoins_places : Stmt := top 77
abbrev staps_without : Stmt := top 78
abbrev sturned_part : Stmt := top 79
abbrev sleads_like : Stmt := top 80
abbrev shub_like : Stmt := top 81
abbrev sis_pipe_or_small_hub : Stmt := top 82
abbrev spipes_like : Stmt := top 83
abbrev sCurrent_init : Stmt := inClass (top 85) 0
abbrev sCurrent_new_node : Stmt := inClass (top 85) 1
abbrev sCurrent_new_arc : Stmt := inClass (top 85) 2
abbrev sCurrent_run : Stmt := inClass (top 85) 3
abbrev sCurrent_levels_from : Stmt := inClass (top 85) 4
abbrev sCurrent_levels_to : Stmt := inClass (top 85) 5
abbrev sCurrent_levels_at : Stmt := inClass (top 85) 6
abbrev sCurrent_push : Stmt := inClass (top 85) 7
abbrev sCurrent_next_arc : Stmt := inClass (top 85) 8
abbrev sside_cost : Stmt := top 87
abbrev sis_side : Stmt := top 88
abbrev sleast_side : Stmt := top 89
abbrev sis_flow : Stmt := top 90
abbrev samount_of : Stmt := top 91
abbrev sgreatest_flow : Stmt := top 92
abbrev sflow_between : Stmt := top 93
abbrev swall : Stmt := top 94
abbrev swalls : Stmt := top 95
abbrev salike_nets : Stmt := top 96
abbrev sStream_init : Stmt := inClass (top 97) 0
abbrev sStream_arcs_of : Stmt := inClass (top 97) 1
abbrev sStream_node_before : Stmt := inClass (top 97) 2
abbrev sStream_node_behind : Stmt := inClass (top 97) 3
abbrev sStream_amount : Stmt := inClass (top 97) 4
abbrev sStream_near_places : Stmt := inClass (top 97) 5
abbrev sStream_flow : Stmt := inClass (top 97) 6
abbrev sStream_flow_of : Stmt := inClass (top 97) 7
abbrev scheck_blocks : Stmt := top 98
abbrev sare_places : Stmt := top 99
abbrev sis_block : Stmt := top 100
abbrev scuts : Stmt := top 101
abbrev sgreatest_amount : Stmt := top 102
abbrev swhat_a_lot_lets : Stmt := top 103
abbrev sall_plain : Stmt := top 104
abbrev sis_flow_between : Stmt := top 105
abbrev sruns_through : Stmt := top 106
abbrev swhat_leaves : Stmt := top 107
abbrev snet_text : Stmt := top 109
abbrev sL_begun : Stmt := top 111
abbrev sL_blended : Stmt := top 112
abbrev sL_draw : Stmt := top 113
abbrev sL_pick : Stmt := top 114
abbrev sL_shuffled : Stmt := top 115
abbrev sL_caught : Stmt := top 116
abbrev sL_is_truth : Stmt := top 117
abbrev sL_ct_gcd : Stmt := top 118
abbrev sL_ct_made : Stmt := top 119
abbrev sL_ct_top : Stmt := top 120
abbrev sL_ct_low : Stmt := top 121
abbrev sL_ct_less : Stmt := top 122
abbrev sL_ct_is_number : Stmt := top 123
abbrev sL_ct_number : Stmt := top 124
abbrev sL_ct_taps : Stmt := top 125
abbrev sL_ct_part : Stmt := top 126
abbrev sL_ct_net : Stmt := top 127
abbrev sL_ct_bad_net : Stmt := top 128
abbrev sL_an_every : Stmt := top 129
abbrev sL_an_ends : Stmt := top 130
abbrev sL_an_kind : Stmt := top 131
abbrev sL_an_width : Stmt := top 132
abbrev sL_an_net : Stmt := top 133
abbrev sL_an_drawn : Stmt := top 134
abbrev sL_an_is_word : Stmt := top 135
abbrev sL_an_rising : Stmt := top 136
abbrev sL_an_is_wide : Stmt := top 137
abbrev sL_an_is_part : Stmt := top 138
abbrev sL_an_is_net : Stmt := top 139
abbrev sL_an_near_part : Stmt := top 140
abbrev sL_an_near_taps : Stmt := top 141
abbrev sL_an_crowd : Stmt := top 142
abbrev sL_an_near : Stmt := top 143
abbrev sL_an_inner : Stmt := top 144
abbrev sL_an_told_right : Stmt := top 145
abbrev sL_an_all_refuse : Stmt := top 146
abbrev slaw : Stmt := top 147
/-! a def of the text, where the top left it; its promise -/
abbrev FnD (K : PySem.W.Frag) (x : Str) (st : Stmt) (f : Addr) (fd : FuncData) : Prop := FunD K x x (defArgs st) (defBody st) (defScope st) [] [] f fd
def Dn (K : PySem.W.Frag) (mg : Str → Option Value) (x : Str) (st : Stmt) : Prop := ∃ f fd, mg x = some (.ref f) ∧ FnD K x st f fd
structure Ok (P : Program) (w : World) (K : PySem.W.Frag) (mg : Str → Option Value) (base : Heap) (CX : CXT) (k : Nat) (x : Str) (ps : List Str) (sp : Sp) : Prop where
  ex : ∃ f fd, mg x = some (.ref f) ∧ PySem.W.keepIn K (.ref f) = true ∧ Binds K fd ps [] ∧ FnOk P w K mg base CX k f fd ps sp
section
variable {P : Program} {w : World} {K : PySem.W.Frag} {mg : Str → Option Value} {base : Heap}
/-- the rule for a def that lets nothing out -/
theorem Ok.mk0 {x : Str} {st : Stmt} {N ps : List Str} {k : Nat} {sp : Sp} (D : Dn K mg x st) (S : FnScope N ps (defScope st)) (len : ∀ vs H Q E, sp vs H Q E → vs.length = ps.length)
    (hb : ∀ (kV doc pm : Value) (an : Option Addr) (cdv ct : Value) (us : List Value), us.length = ps.length → bindArgs (PySem.W.fnOf x x (defArgs st) (defBody st) (defScope st) .none kV doc pm an cdv ct) ⟨us, []⟩ = pure (ps.zip us))
    (hbody : ∀ (f : Addr) (cdv : Value) (A : Around) (outer : List Env) (s : Shared) (H : Hp) (vs : List V) (Q : VK) (E : XK), Room k (A.deeper (envOfC x (defScope st) s.heap.objs.size f cdv)) → sp vs H Q E →
      ∃ t, PSs (cxOf L2.CX0 P w K mg base N x (defScope st) f cdv A outer s H E).nox (defBody st) t ∧ t { nx := fun _ H' => Q .non H', rt := Q } (L2.start N vs) H) : Ok P w K mg base L2.CX0 (k + 1) x ps sp := by
  obtain ⟨f, fd, g, F⟩ := D
  refine ⟨f, fd, g, F.kp, F.bindsN hb, F.ok S len fun cdv A outer s H vs Q E hr h => ?_⟩
  obtain ⟨t, ht, q⟩ := hbody f cdv A outer s H vs Q E hr h
  exact ⟨t, ht.nox, q⟩
/-- the same of a def that may raise -/
theorem Ok.mkX {x : Str} {st : Stmt} {N ps : List Str} {k : Nat} {sp : Sp} (D : Dn K mg x st) (S : FnScope N ps (defScope st)) (len : ∀ vs H Q E, sp vs H Q E → vs.length = ps.length)
    (hb : ∀ (kV doc pm : Value) (an : Option Addr) (cdv ct : Value) (us : List Value), us.length = ps.length → bindArgs (PySem.W.fnOf x x (defArgs st) (defBody st) (defScope st) .none kV doc pm an cdv ct) ⟨us, []⟩ = pure (ps.zip us))
    (hbody : ∀ (f : Addr) (cdv : Value) (A : Around) (outer : List Env) (s : Shared) (H : Hp) (vs : List V) (Q : VK) (E : XK), Room k (A.deeper (envOfC x (defScope st) s.heap.objs.size f cdv)) → sp vs H Q E →
      ∃ t, PSs (cxOf (L2.CX P w) P w K mg base N x (defScope st) f cdv A outer s H E) (defBody st) t ∧ t { nx := fun _ H' => Q .non H', rt := Q } (L2.start N vs) H) : Ok P w K mg base (L2.CX P w) (k + 1) x ps sp := by
  obtain ⟨f, fd, g, F⟩ := D
  exact ⟨f, fd, g, F.kp, F.bindsN hb, F.ok S len fun cdv A outer s H vs Q E hr h => hbody f cdv A outer s H vs Q E hr h⟩
end
end K05
set_option maxHeartbeats 1000000
namespace K05
open PySem PySem.Spec PyProof.Rows L2 Hx RZ
/-! ### the head: facts by names -/
def dfn (n : Str) (st : Stmt) : He.DefD := ⟨(n, none), n, n, defArgs st, defBody st, defScope st, [], []⟩
def mtd (c m q : Str) (st : Stmt) : He.DefD := ⟨(c, some m), m, q, defArgs st, defBody st, defScope st, [], []⟩
def fn0 : List He.DefD := [dfn "is_name" sis_name, dfn "are_names" sare_names, dfn "are_taps" sare_taps, dfn "check_sort" scheck_sort, dfn "is_whole" sis_whole, dfn "is_number" sis_number, dfn "is_number_from_0" sis_number_from_0, dfn "top_of" stop_of, dfn "is_net" sis_net, dfn "sort_of" ssort_of, dfn "is_of_sort" sis_of_sort, dfn "places_of" splaces_of, dfn "inner_of" sinner_of, dfn "beside" sbeside, dfn "scaled" sscaled, dfn "renamed_net" srenamed_net, dfn "without_empty" swithout_empty, dfn "turned_net" sturned_net, dfn "melted_net" smelted_net, dfn "hidden_net" shidden_net, dfn "as_leads" sas_leads, dfn "as_hubs" sas_hubs, dfn "as_pipes" sas_pipes, dfn "is_part" sis_part, dfn "places_of_part" splaces_of_part, dfn "places_in" splaces_in, dfn "inner_in" sinner_in, dfn "has_kind" shas_kind, dfn "mixes_leads_and_hubs" smixes_leads_and_hubs, dfn "sort_in" ssort_in]
def fn1 : List He.DefD := [dfn "check_net" scheck_net, dfn "side_cost" sside_cost, dfn "is_side" sis_side, dfn "least_side" sleast_side, dfn "is_flow" sis_flow, dfn "amount_of" samount_of, dfn "greatest_flow" sgreatest_flow, dfn "flow_between" sflow_between, dfn "wall" swall, dfn "walls" swalls, dfn "alike_nets" salike_nets, dfn "check_blocks" scheck_blocks, dfn "net_text" snet_text, dfn "_law_begun" sL_begun, dfn "_law_blended" sL_blended, dfn "_law_draw" sL_draw, dfn "_law_pick" sL_pick, dfn "_law_shuffled" sL_shuffled, dfn "_law_caught" sL_caught, dfn "_law_is_truth" sL_is_truth, dfn "_law_ct_gcd" sL_ct_gcd, dfn "_law_ct_made" sL_ct_made, dfn "_law_ct_top" sL_ct_top, dfn "_law_ct_low" sL_ct_low, dfn "_law_ct_less" sL_ct_less, dfn "_law_ct_is_number" sL_ct_is_number, dfn "_law_ct_number" sL_ct_number, dfn "_law_ct_taps" sL_ct_taps, dfn "_law_ct_part" sL_ct_part, dfn "_law_ct_net" sL_ct_net]
def fn2 : List He.DefD := [dfn "_law_ct_bad_net" sL_ct_bad_net, dfn "_law_an_every" sL_an_every, dfn "_law_an_ends" sL_an_ends, dfn "_law_an_kind" sL_an_kind, dfn "_law_an_width" sL_an_width, dfn "_law_an_net" sL_an_net, dfn "_law_an_drawn" sL_an_drawn, dfn "_law_an_is_word" sL_an_is_word, dfn "_law_an_rising" sL_an_rising, dfn "_law_an_is_wide" sL_an_is_wide, dfn "_law_an_is_part" sL_an_is_part, dfn "_law_an_is_net" sL_an_is_net, dfn "_law_an_near_part" sL_an_near_part, dfn "_law_an_near_taps" sL_an_near_taps, dfn "_law_an_crowd" sL_an_crowd, dfn "_law_an_near" sL_an_near, dfn "_law_an_inner" sL_an_inner, dfn "_law_an_told_right" sL_an_told_right, dfn "_law_an_all_refuse" sL_an_all_refuse, dfn "law" slaw]
def fn : List He.DefD := fn0 ++ fn1 ++ fn2
def fa0 : List He.Fa := [.glo "is_name", .glo "are_names", .glo "are_taps", .glo "check_sort", .glo "is_whole", .glo "is_number", .glo "is_number_from_0", .glo "top_of", .glo "is_net", .glo "sort_of", .glo "is_of_sort", .glo "places_of", .glo "inner_of", .glo "beside", .glo "scaled", .glo "renamed_net", .glo "without_empty", .glo "turned_net", .glo "melted_net", .glo "hidden_net", .glo "as_leads", .glo "as_hubs", .glo "as_pipes", .glo "is_part", .glo "places_of_part", .glo "places_in", .glo "inner_in", .glo "has_kind", .glo "mixes_leads_and_hubs", .glo "sort_in"]
def fa1 : List He.Fa := [.glo "check_net", .glo "side_cost", .glo "is_side", .glo "least_side", .glo "is_flow", .glo "amount_of", .glo "greatest_flow", .glo "flow_between", .glo "wall", .glo "walls", .glo "alike_nets", .glo "check_blocks", .glo "net_text", .glo "_law_begun", .glo "_law_blended", .glo "_law_draw", .glo "_law_pick", .glo "_law_shuffled", .glo "_law_caught", .glo "_law_is_truth", .glo "_law_ct_gcd", .glo "_law_ct_made", .glo "_law_ct_top", .glo "_law_ct_low", .glo "_law_ct_less", .glo "_law_ct_is_number", .glo "_law_ct_number", .glo "_law_ct_taps", .glo "_law_ct_part", .glo "_law_ct_net"]
def fa2 : List He.Fa := [.glo "_law_ct_bad_net", .glo "_law_an_every", .glo "_law_an_ends", .glo "_law_an_kind", .glo "_law_an_width", .glo "_law_an_net", .glo "_law_an_drawn", .glo "_law_an_is_word", .glo "_law_an_rising", .glo "_law_an_is_wide", .glo "_law_an_is_part", .glo "_law_an_is_net", .glo "_law_an_near_part", .glo "_law_an_near_taps", .glo "_law_an_crowd", .glo "_law_an_near", .glo "_law_an_inner", .glo "_law_an_told_right", .glo "_law_an_all_refuse", .glo "law", .free "ValueError", .free "abs", .free "all", .free "any", .free "bool", .free "int", .free "isinstance", .free "len", .free "list", .free "max"]
def fa3 : List He.Fa := [.free "min", .free "range", .free "set", .free "sorted", .free "str", .free "tuple", .free "zip", .str "LETTERS" "abcdefghijklmnopqrstuvwxyz", .str "LETTERS_AND_DIGITS" "abcdefghijklmnopqrstuvwxyz0123456789", .int "LONGEST_NAME" 8, .int "FEWEST_TAPS" 2, .int "MOST_TAPS" 6, .int "MOST_PARTS" 200, .int "MOST_PLACES" 40, .glo "TapError", .glo "BadLot", .glo "BadSort", .glo "BadNet", .glo "BadNumber", .glo "BadPlaces", .glo "BadFlow", .glo "TooMany", .glo "Current", .glo "Stream", .exc "BadNet", .exc "BadSort", .glo "SORTS", .exm "BadNet" "TapError" true, .exm "BadSort" "TapError" true]
def fa : List He.Fa := fa0 ++ fa1 ++ fa2 ++ fa3
def loose0 : List Str := ["TapError", "BadLot", "BadSort", "BadNet", "BadNumber", "BadPlaces", "BadFlow", "TooMany", "Current", "Stream", "LETTERS", "LETTERS_AND_DIGITS", "LONGEST_NAME", "FEWEST_TAPS", "MOST_TAPS", "SORTS", "MOST_PARTS", "MOST_PLACES", "FEWEST_TAPS_TO_LEAVE_ONE_OUT", "_wall", "is_name", "are_names", "are_taps", "is_lot", "check_lot", "check_sort", "lots_in", "opposite_in", "plain_lot_in", "plain_lots_in"]
def loose1 : List Str := ["is_whole", "is_number", "divided", "is_number_from_0", "are_numbers", "top_of", "bottom_of", "plus", "turned", "minus", "times", "is_less", "over_one_bottom", "sum_of", "number_text", "is_net", "sort_of", "is_of_sort", "places_of", "inner_of", "beside", "scaled", "renamed_net", "without_empty", "turned_net", "melted_net", "hidden_net", "as_leads", "as_hubs", "as_pipes"]
def loose2 : List Str := ["is_part", "places_of_part", "places_in", "inner_in", "has_kind", "mixes_leads_and_hubs", "sort_in", "check_net", "check_tap_left", "check_new_names", "small_net", "names_beside", "renamed_part", "joins_places", "taps_without", "turned_part", "leads_like", "hub_like", "is_pipe_or_small_hub", "pipes_like", "side_cost", "is_side", "least_side", "is_flow", "amount_of", "greatest_flow", "flow_between", "wall", "walls", "alike_nets"]
def loose3 : List Str := ["check_blocks", "are_places", "is_block", "cuts", "greatest_amount", "what_a_lot_lets", "all_plain", "is_flow_between", "runs_through", "what_leaves", "net_text", "_law_begun", "_law_blended", "_law_draw", "_law_pick", "_law_shuffled", "_law_caught", "_law_is_truth", "_law_ct_gcd", "_law_ct_made", "_law_ct_top", "_law_ct_low", "_law_ct_less", "_law_ct_is_number", "_law_ct_number", "_law_ct_taps", "_law_ct_part", "_law_ct_net", "_law_ct_bad_net", "_law_an_every"]
def loose4 : List Str := ["_law_an_ends", "_law_an_kind", "_law_an_width", "_law_an_net", "_law_an_drawn", "_law_an_is_word", "_law_an_rising", "_law_an_is_wide", "_law_an_is_part", "_law_an_is_net", "_law_an_near_part", "_law_an_near_taps", "_law_an_crowd", "_law_an_near", "_law_an_inner", "_law_an_told_right", "_law_an_all_refuse"]
def loose : List Str := loose0 ++ loose1 ++ loose2 ++ loose3 ++ loose4
def tfs : List He.Defn := [("_law_an_all_refuse", none), ("law", none)]
abbrev R : PySem.W.OpenRow := PySem.W.OpenLaw.row PySem.Challenge.rw_behindtaps_k05_nets_judged_and_their_pla
-- the index of law is 147, the view [0, 1, 147]
/-! facts of the errors' classes -/
def oneB : Option Bool → Bool
  | some b => b
  | none => false
theorem oneB_ok {x : Option Bool} (h : oneB x = true) : x = some true := by
  cases x with
  | none => cases h
  | some b =>
    have e : b = true := h
    rw [e]
abbrev bu (n : String) : Option (Option Value) := some (some (.builtin n))
def excB (K : PySem.W.Frag) (C : Addr) : Bool := He.eqO (PySem.W.findIn K (.ref C) "__getattribute__") (bu "BaseException.__getattribute__") && (He.eqO (PySem.W.findIn K (.ref C) "__getattr__") (some none) && (oneB (PySem.W.subIn K (.ref C) (.type "BaseException")) && (PySem.W.hasDictIn K C &&
  (He.eqO (PySem.W.findIn K (.ref C) "__class__") (bu "object.__class__") && (He.eqO (PySem.W.specialIn K (.builtin "object.__class__") "__get__") (bu "getset_descriptor.__get__") && (oneB (PySem.W.takesIn K (.builtin "object.__class__")) && oneB (PySem.W.mroIn K C (.type "object"))))))))
theorem excB_ok {K : PySem.W.Frag} {C : Addr} (h : excB K C = true) : ExcC K C := by
  unfold excB at h
  simp only [Bool.and_eq_true] at h
  obtain ⟨h1, h2, h3, h4, h5, h6, h7, h8⟩ := h
  exact ⟨He.eqO_ok h1, He.eqO_ok h2, oneB_ok h3, h4, He.eqO_ok h5, He.eqO_ok h6, oneB_ok h7, oneB_ok h8⟩
/-! ### the Hook -/
abbrev PW0 : Program := PySem.Challenge.pw_behindtaps_k05_nets_judged_and_their_pla
abbrev IniV : Type := Unit
def iniObs (_ : PySem.W.Frag) : IniV := ()
def iniVal : IniV := ()
abbrev tabA (K : PySem.W.Frag) (x : Str) : Addr := (He.cT K (x, none)).2
def twoB (K : PySem.W.Frag) : Bool := decide (tabA K "_law_an_all_refuse" ≠ tabA K "law")
/-- the tuple of the sorts -/
def sortsB (K : PySem.W.Frag) : Bool := match K.lookup (He.ga K "SORTS") with
  | some ⟨.type t, _, .seq its _, _⟩ => decide (t = "tuple") && (match its.toList with
    | [.str x _, .str y _, .str z _] => decide (x = "pipes") && (decide (y = "leads") && decide (z = "hubs"))
    | _ => false)
  | _ => false
def ex (K : PySem.W.Frag) : Bool := excB K (He.ga K "BadNet") && (excB K (He.ga K "BadSort") && (twoB K && (oneB (PySem.W.kitOne K (.ref (He.ga K "BadSort")) (.type "ValueError")) && (sortsB K && (He.eqO (PySem.W.nsIn K mainGlobals "gcd") (bu "math.gcd"))))))
/-- what is looked at, without what every function names -/
def nxt (g : Addr → Option Obj) (as : List Addr) : List Addr := ((as.flatMap fun a => match g a with
  | some o => (match o.data with
    | .func fd => He.refV fd.code ++ fd.closure.map (·.2)
    | _ => He.refsD o)
  | none => []).filter fun a => !(a == mainGlobals || a == builtinsNs)).eraseDups
def up (g : Addr → Option Obj) : Nat → List Addr
  | 0 => [mainGlobals]
  | n + 1 => nxt g (up g n)
abbrev reach (g : Addr → Option Obj) : PySem.W.Frag := He.frT g (cStatics :: mainGlobals :: (up g 1 ++ (up g 2 ++ (up g 3 ++ up g 4))))
abbrev AlY : Type := He.AlX × IniV
def obsY (g : Addr → Option Obj) : AlY := ((He.obsT fa fn [] (reach g), ex (reach g) && He.tabsB g tfs (reach g)), iniObs (reach g))
def valY (w : World) : AlY := (He.valX fn [] w, iniVal)
theorem saysY {w : World} {h : Heap} (e : obsY h.get? = valY w) : He.SaysX fa fn [] tfs ex w h (reach h.get?) ∧ iniObs (reach h.get?) = iniVal := by
  have e1 : He.obsT fa fn [] (reach h.get?) = He.valT fn [] w := congrArg (fun z : AlY => z.1.1) e
  have e2 : (ex (reach h.get?) && He.tabsB h.get? tfs (reach h.get?)) = true := congrArg (fun z : AlY => z.1.2) e
  have e3 : iniObs (reach h.get?) = iniVal := congrArg (fun z : AlY => z.2) e
  rw [Bool.and_eq_true] at e2
  have one : ∀ p ∈ tfs, PySem.W.codeHdIn (reach h.get?) (He.cT (reach h.get?) p).1 (He.cT (reach h.get?) p).2 = true ∧ ∃ o, h.get? (He.cT (reach h.get?) p).2 = some o ∧ He.emptyTab o = true := by
    intro p hp
    have z := List.all_eq_true.mp e2.2 p hp
    rw [Bool.and_eq_true] at z
    obtain ⟨z1, z2⟩ := z
    refine ⟨z1, ?_⟩
    split at z2
    · next o eo => exact ⟨o, eo, z2⟩
    · cases z2
  refine ⟨⟨e1, e2.1, fun p hp => (one p hp).1, fun p hp => ?_, fun p hp => ?_⟩, e3⟩
  · obtain ⟨_, o, a, b⟩ := one p hp
    exact He.frT_none a b
  · obtain ⟨_, o, a, b⟩ := one p hp
    rw [a, He.emptyTab_eq b]
def hk : PySem.W.Hook where
  α := AlY
  obs := fun s => obsY s.heap.get?
  val := fun w => valY w
  says := fun w h => ∃ K : PySem.W.Frag, K.In h ∧ He.SaysX fa fn [] tfs ex w h K ∧ iniObs K = iniVal
  of := fun _ _ e => ⟨_, He.frT_in, (saysY e).1, (saysY e).2⟩
  keeps := fun _ _ _ ⟨K, hK, c, d⟩ kp => ⟨K, PySem.W.Frag.In.keeps hK kp, ⟨c.t, c.more, c.hd, c.out, fun p hp => kp _ _ (c.empty p hp)⟩, d⟩
def ob (s : PySem.W.SharedT) : AlY := obsY (HandSHeadRun.getT s)
theorem ob_eq (s : PySem.W.SharedT) : ob s = hk.obs s.abs := by
  have e : HandSHeadRun.getT s = s.abs.heap.get? := funext (HandSHeadRun.getT_eq s)
  show obsY (HandSHeadRun.getT s) = obsY s.abs.heap.get?
  rw [e]
end K05
set_option maxHeartbeats 0
namespace K05
open PySem PySem.Spec PyProof.Rows L2 HandSHeadRun PySem.W
/-! the run of the top, in three looks (memory) -/
noncomputable abbrev whole (w : World) := wholeF (fun p => stepQ (denQ tabQ) p w) fenceQ 8000 R.prog
abbrev gOf (s : PySem.W.SharedT) : PySem.W.Frag := reach (HandSHeadRun.getT s)
theorem run1 (w : World) : (whole w).map (fun x => (looksF R.prog x.1.heap x.2.abs, seenQ (PySem.W.view R.prog [0, 1, 147]) loose (importedModules R.prog.main.body) (fun s => xlAt (PySem.W.view R.prog [0, 1, 147]) [] s && recOk R.toRowW.records s) x.2.abs)) = some (true, openGood (PySem.W.view R.prog [0, 1, 147]) loose) := by
  kernel_rfl
theorem run2 (w : World) : (whole w).map (fun x => (fa.all fun f => f.ok (gOf x.2), fn.map fun d => He.fnW (gOf x.2) d.at_)) = some (true, fn.map He.DefD.val) := by
  kernel_rfl
theorem run3 (w : World) : (whole w).map (fun x => (fn.all fun d => d.ok (gOf x.2), ex (gOf x.2) && He.tabsB (HandSHeadRun.getT x.2) tfs (gOf x.2), iniObs (gOf x.2))) = some (true, true, iniVal) := by
  kernel_rfl
theorem run (w : World) : HandSHeadRun.RunEqI R (PySem.W.view R.prog [0, 1, 147]) hk ob 8000 loose w := by
  have r1 := run1 w
  have r2 := run2 w
  have r3 := run3 w
  unfold HandSHeadRun.RunEqI
  show (whole w).map _ = _
  revert r1 r2 r3
  generalize whole w = o
  intro r1 r2 r3
  cases o with
  | none => cases r1
  | some x =>
    have e1 : (looksF R.prog x.1.heap x.2.abs, seenQ (PySem.W.view R.prog [0, 1, 147]) loose (importedModules R.prog.main.body) (fun s => xlAt (PySem.W.view R.prog [0, 1, 147]) [] s && recOk R.toRowW.records s) x.2.abs) = (true, openGood (PySem.W.view R.prog [0, 1, 147]) loose) := Option.some.inj r1
    have e2 : ((fa.all fun f => f.ok (gOf x.2)), fn.map fun d => He.fnW (gOf x.2) d.at_) = (true, fn.map He.DefD.val) := Option.some.inj r2
    have e3 : ((fn.all fun d => d.ok (gOf x.2)), ex (gOf x.2) && He.tabsB (HandSHeadRun.getT x.2) tfs (gOf x.2), iniObs (gOf x.2)) = (true, true, iniVal) := Option.some.inj r3
    obtain ⟨a1, a2⟩ := Prod.mk.inj e1
    obtain ⟨a3, a4⟩ := Prod.mk.inj e2
    obtain ⟨a5, a67⟩ := Prod.mk.inj e3
    obtain ⟨a6, a7⟩ := Prod.mk.inj a67
    have eo : ob x.2 = hk.val w := by
      show (((((fa.all fun f => f.ok (gOf x.2)) && fn.all fun d => d.ok (gOf x.2), fn.map fun d => He.fnW (gOf x.2) d.at_), ([] : List (Option (List (Option (Str × Int)))))), ex (gOf x.2) && He.tabsB (HandSHeadRun.getT x.2) tfs (gOf x.2)), iniObs (gOf x.2)) = ((((true, fn.map He.DefD.val), []), true), iniVal)
      rw [a3, a4, a5, a6, a7] <;> rfl
    show some (looksF R.prog x.1.heap x.2.abs, seenQ (PySem.W.view R.prog [0, 1, 147]) loose (importedModules R.prog.main.body) (fun s => xlAt (PySem.W.view R.prog [0, 1, 147]) [] s && recOk R.toRowW.records s) x.2.abs, ob x.2) = some (true, openGood (PySem.W.view R.prog [0, 1, 147]) loose, hk.val w)
    rw [a1, a2, eo]
    all_goals rfl
end K05
set_option maxHeartbeats 4000000
namespace K05
open PySem PySem.Spec PyProof.Rows L2 Hx
theorem fmod_in (a : Int) {p : Int} (h : 0 < p) : 0 ≤ a.fmod p ∧ a.fmod p < p := by
  rw [Int.fmod_eq_emod_of_nonneg a (by omega)]
  exact ⟨Int.emod_nonneg _ (by omega), Int.emod_lt_of_pos _ h⟩
/-! ### the law's draws: its state -/
def kvS (g c : Addr) (r t : Int) : List (Key × V) := [(.inr "great", .ref g), (.inr "cells", .ref c), (.inr "rest", .int r), (.inr "turn", .int t)]
theorem kvS_great {g c : Addr} {r t : Int} : valV (kvS g c r t) (.inr "great") = some (.ref g) := rfl
theorem kvS_cells {g c : Addr} {r t : Int} : valV (kvS g c r t) (.inr "cells") = some (.ref c) := by
  have n1 : ¬ ((Sum.inr "great" : Key) = .inr "cells") := by decide
  unfold kvS
  rw [valV_neg n1, valV_pos rfl]
theorem kvS_rest {g c : Addr} {r t : Int} : valV (kvS g c r t) (.inr "rest") = some (.int r) := by
  have n1 : ¬ ((Sum.inr "great" : Key) = .inr "rest") := by decide
  have n2 : ¬ ((Sum.inr "cells" : Key) = .inr "rest") := by decide
  unfold kvS
  rw [valV_neg n1, valV_neg n2, valV_pos rfl]
theorem kvS_turn {g c : Addr} {r t : Int} : valV (kvS g c r t) (.inr "turn") = some (.int t) := by
  have n1 : ¬ ((Sum.inr "great" : Key) = .inr "turn") := by decide
  have n2 : ¬ ((Sum.inr "cells" : Key) = .inr "turn") := by decide
  have n3 : ¬ ((Sum.inr "rest" : Key) = .inr "turn") := by decide
  unfold kvS
  rw [valV_neg n1, valV_neg n2, valV_neg n3, valV_pos rfl]
theorem kvS_putR {g c : Addr} {r t z : Int} : putK (kvS g c r t) (.inr "rest") (.int z) = kvS g c z t := by
  have e1 : ¬ ((Sum.inr "great" : Key) = .inr "rest") := by decide
  have e2 : ¬ ((Sum.inr "cells" : Key) = .inr "rest") := by decide
  have e3 : ¬ ((Sum.inr "turn" : Key) = .inr "rest") := by decide
  simp [putK, kvS, e1, e2, e3]
theorem kvS_putT {g c : Addr} {r t z : Int} : putK (kvS g c r t) (.inr "turn") (.int z) = kvS g c r z := by
  have e1 : ¬ ((Sum.inr "great" : Key) = .inr "turn") := by decide
  have e2 : ¬ ((Sum.inr "cells" : Key) = .inr "turn") := by decide
  have e3 : ¬ ((Sum.inr "rest" : Key) = .inr "turn") := by decide
  simp [putK, kvS, e1, e2, e3]
/-- the state at d, its great ones at g; n draws are still let -/
def St (H : Hp) (d g c : Addr) (n : Nat) : Prop := ∃ (gs cs : List Int) (r t : Int), H d = some (.dK (kvS g c r t)) ∧ H g = some (.lst (gs.map V.int)) ∧ H c = some (.lst (cs.map V.int)) ∧ c ≠ g ∧ cs.length ≤ 63 ∧ 0 ≤ t ∧ t + n ≤ 1000000000
theorem sget {H1 : Hp} {d : Addr} {x : Str} {v : V} {g c : Addr} {r t : Int} (e : H1 d = some (.dK (kvS g c r t))) (q : valV (kvS g c r t) (.inr x) = some v) : DGet H1 d (.str x) (some v) := by
  have z := DGet.k (k := Sum.inr x) e
  rw [q] at z
  exact z
theorem St.less {H : Hp} {d g c : Addr} {n m : Nat} (h : St H d g c n) (l : m ≤ n) : St H d g c m := by
  obtain ⟨gs, cs, r, t, h1, h2, h3, h4, h5, h6, h7⟩ := h
  exact ⟨gs, cs, r, t, h1, h2, h3, h4, h5, h6, by omega⟩
theorem St.same {H H' : Hp} {d g c : Addr} {n : Nat} (h : St H d g c n) (e : Same H H') : St H' d g c n := by
  obtain ⟨gs, cs, r, t, h1, h2, h3, h4, h5, h6, h7⟩ := h
  exact ⟨gs, cs, r, t, e _ _ h1, e _ _ h2, e _ _ h3, h4, h5, h6, h7⟩
theorem St.ne {H : Hp} {d g c : Addr} {n : Nat} (h : St H d g c n) : d ≠ g := by
  obtain ⟨gs, cs, r, t, h1, h2, h3, h4, h5, h6, h7⟩ := h
  exact ne_of h1 h2 (by intro z; cases z)
/-- all but the state's two objects is kept -/
def Kp (d g : Addr) (H H' : Hp) : Prop := ∀ b o, H b = some o → b ≠ d → b ≠ g → H' b = some o
theorem Kp.refl {d g : Addr} (H : Hp) : Kp d g H H := fun _ _ h _ _ => h
theorem Kp.trans {d g : Addr} {H H1 H2 : Hp} (a : Kp d g H H1) (b : Kp d g H1 H2) : Kp d g H H2 := fun c o h n m => b c o (a c o h n m) n m
theorem Kp.of {d g : Addr} {H H' : Hp} (e : Same H H') : Kp d g H H' := fun b o h _ _ => e b o h
section
variable {P : Program} {w : World} {K : PySem.W.Frag} {mg : Str → Option Value} {base : Heap}
/-! blended -/
def spBlended : Sp := fun vs H Q _ => ∃ (d g c : Addr) (n : Nat), vs = [.ref d] ∧ St H d g c (n + 1) ∧ ∀ (z : Int) H', St H' d g c n → Kp d g H H' → Q (.int z) H'
theorem sc_blended : FnScope ["state", "turn", "found", "prime", "blend", "cell"] ["state"] (defScope sL_blended) := ⟨rfl, rfl, rfl, by decide +kernel, rfl, by decide +kernel, by decide +kernel⟩
theorem ok_blended (D : Dn K mg "_law_blended" sL_blended) (h_int : mg "int" = none) : Ok P w K mg base L2.CX0 1 "_law_blended" ["state"] spBlended := by
  refine Ok.mk0 D sc_blended (fun vs H Q E h => ?_) (fun _ _ _ _ _ _ us hl => match us, hl with | [_], _ => rfl) (fun f cdv A outer s H vs Q E hr h => ?_)
  · obtain ⟨d, g, c, n, rfl, _⟩ := h
    rfl
  obtain ⟨d, g, c, n, rfl, hS, k⟩ := h
  have hu := hu_of hr
  have nd := sc_blended.nd
  obtain ⟨gs, cs, r, t, h1, h2, h3, h4, h5, h6, h7⟩ := hS
  have ndg : d ≠ g := ne_of h1 h2 (by intro z; cases z)
  have ndc : d ≠ c := ne_of h1 h3 (by intro z; cases z)
  refine ⟨_, (pss_cons (ps_par (i := 1) (j := 2) (by rfl) nd rfl rfl (by decide) rfl rfl (pa_cons (pe_op op_add (pe_dget hu (pv 0) pe_str (fun _ _ => rfl)) pe_int) (pa_cons pe_int pa_nil)) (by rfl))
    (pss_cons (ps_dput hu (pv 0) pe_str (pv 1) rfl)
    (pss_cons (ps_for PassesOwn.never rfl (pi_list (pe_lst (pa_cons pe_int (pa_cons pe_int (pa_cons pe_int pa_nil))))) (pg_name (i := 3) nd rfl (Or.inl rfl))
      (pss_cons (ps_set (i := 4) nd rfl (Or.inl rfl) (pe_op op_add (pe_op op_mul pe_int (pv 1)) (pe_op op_fdivN (pv 3) pe_int)))
      (pss_cons (ps_for PassesOwn.never rfl (pi_list (pe_dget hu (pv 0) pe_str (fun _ _ => rfl))) (pg_name (i := 5) nd rfl (Or.inl rfl))
        (pss_one (ps_set (i := 4) nd rfl (Or.inl rfl) (pe_op op_modN (pe_callTy call_int1 (by rfl) h_int (by decide +kernel) (pa_cons (pe_op op_add (pe_op op_add (pe_op op_mul (pv 4) pe_int) (pv 5)) (pv 1)) pa_nil)) (pv 3)))))
      (pss_one (ps_set (i := 2) nd rfl (Or.inl rfl) (pe_op op_add (pe_op op_mul (pv 2) pe_int) (pe_op op_modN (pe_callTy call_int1 (by rfl) h_int (by decide +kernel) (pa_cons (pe_op op_pow (pv 4) pe_int) pa_nil)) (pv 3))))))))
    (pss_one (ps_ret (pv 2)))))), ?_⟩
  -- turn, found
  refine ⟨.ref d, rfl, d, _, rfl, sget h1 kvS_turn, _, _, rfl, rfl, _, _, rfl, ?_⟩
  -- state['turn'] = turn
  refine ⟨_, rfl, _, rfl, d, _, rfl, DPut.k (k := Sum.inr "turn") h1 (by show 4 < sizeLine; decide), ?_⟩
  rw [kvS_putT]
  -- the primes
  refine ⟨by show 3 ≤ sizeLine; decide, fun l hl => ?_⟩
  have nl : ∀ {b o}, (upd H d (.dK (kvS g c r (t + 1)))) b = some o → b ≠ l := fun e => ne_of_none e hl
  have hdl : d ≠ l := nl upd_same
  refine ⟨l, rfl, ⟨_, SqL.of upd_same⟩, for_list (K := K) (a := l) (xs := [.int 2147483579, .int 2147483629, .int 2147483563]) (fun i σ H2 => H2 = upd (upd H d (.dK (kvS g c r (t + 1)))) l (.lst [.int 2147483579, .int 2147483629, .int 2147483563]) ∧
    ∃ (f : Int) (v3 v4 v5 : Option V), σ = [some (.ref d), some (.int (t + 1)), some (.int f), v3, v4, v5]) ⟨rfl, 0, _, _, _, rfl⟩ (fun i σ H2 _ ⟨e, _⟩ => by rw [e]; exact SqL.of upd_same) ?_ ?_⟩
  · rintro i x σ H2 hx ⟨rfl, f, v3, v4, v5, rfl⟩
    obtain ⟨p, rfl, p1, p2⟩ : ∃ p : Int, x = .int p ∧ 2147483563 ≤ p ∧ p ≤ 2147483629 := by
      match i, hx with
      | 0, hx => cases hx; exact ⟨_, rfl, by decide, by decide⟩
      | 1, hx => cases hx; exact ⟨_, rfl, by decide, by decide⟩
      | 2, hx => cases hx; exact ⟨_, rfl, by decide, by decide⟩
    have at1 : (upd (upd H d (.dK (kvS g c r (t + 1)))) l (.lst [.int 2147483579, .int 2147483629, .int 2147483563])) d = some (.dK (kvS g c r (t + 1))) := by rw [upd_ne hdl, upd_same]
    have at2 : (upd (upd H d (.dK (kvS g c r (t + 1)))) l (.lst [.int 2147483579, .int 2147483629, .int 2147483563])) c = some (.lst (cs.map V.int)) := by
      rw [upd_ne (nl (by rw [upd_ne ndc.symm]; exact h3)), upd_ne ndc.symm]
      exact h3
    refine ⟨_, rfl, _, _, rfl, rfl, .inl ⟨by decide, by decide⟩, _, rfl, _, _, rfl, rfl, ⟨by decide, by decide⟩, _, _, rfl, rfl, ?_⟩
    refine ⟨.ref d, rfl, d, _, rfl, sget at1 kvS_cells, c, rfl, ⟨_, SqL.of at2⟩, for_list (K := K) (a := c) (xs := cs.map V.int) (fun i σ H2 => H2 = upd (upd H d (.dK (kvS g c r (t + 1)))) l (.lst [.int 2147483579, .int 2147483629, .int 2147483563]) ∧
      ∃ (b : Int) (v5 : Option V), σ = [some (.ref d), some (.int (t + 1)), some (.int f), some (.int p), some (.int b), v5] ∧ b.natAbs < 2 ^ 64) ⟨rfl, _, _, rfl, ?_⟩ (fun i σ H2 _ ⟨e, _⟩ => by rw [e]; exact SqL.of at2) ?_ ?_⟩
    · show (48271 * (t + 1) + Int.fdiv p 53).natAbs < 2 ^ 64
      rw [Int.fdiv_eq_ediv_of_nonneg _ (by decide)]
      omega
    · rintro j y σ H3 hy ⟨rfl, b, v5, rfl, hb⟩
      obtain ⟨z, rfl⟩ : ∃ z, y = V.int z := by
        rw [List.getElem?_map] at hy
        cases e : cs[j]? with
        | none => rw [e] at hy; cases hy
        | some z => rw [e] at hy; exact ⟨z, (Option.some.inj hy).symm⟩
      refine ⟨_, rfl, _, _, rfl, rfl, .inr ⟨by decide, by decide⟩, _, rfl, _, _, rfl, rfl, _, rfl, _, _, rfl, rfl, .inl ⟨_, rfl, ?_⟩⟩
      refine ⟨_, rfl, _, _, rfl, rfl, by omega, ?_⟩
      refine ⟨rfl, _, _, rfl, ?_⟩
      obtain ⟨q1, q2⟩ := fmod_in (b * 69621 + z + (t + 1)) (show 0 < p by omega)
      omega
    · rintro σ H3 ⟨rfl, b, v5, rfl, hb⟩
      refine ⟨_, rfl, _, _, rfl, rfl, .inr ⟨by decide, by decide⟩, _, rfl, _, _, rfl, rfl, ⟨by decide, by decide, hb⟩, .inl ⟨_, rfl, ?_⟩⟩
      exact ⟨_, rfl, _, _, rfl, rfl, by omega, _, _, rfl, rfl, rfl, _, _, _, _, rfl⟩
  · rintro σ H2 ⟨rfl, f, v3, v4, v5, rfl⟩
    refine ⟨_, rfl, k f _ ⟨gs, cs, r, t + 1, by rw [upd_ne hdl, upd_same], ?_, ?_, h4, h5, by omega, by omega⟩ fun b o e n1 n2 => ?_⟩
    · rw [upd_ne (nl (by rw [upd_ne ndg.symm]; exact h2)), upd_ne ndg.symm]; exact h2
    · rw [upd_ne (nl (by rw [upd_ne ndc.symm]; exact h3)), upd_ne ndc.symm]; exact h3
    · have e' : (upd H d (.dK (kvS g c r (t + 1)))) b = some o := by rw [upd_ne n1]; exact e
      rw [upd_ne (nl e')]; exact e'
/-! draw -/
def spDraw : Sp := fun vs H Q _ => ∃ (d g c : Addr) (n : Nat) (room : Int), vs = [.ref d, .int room] ∧ St H d g c (n + 1) ∧ 0 < room ∧ room.natAbs < 2 ^ 9000 ∧ ∀ (z : Int) H', 0 ≤ z → z < room → St H' d g c n → Kp d g H H' → Q (.int z) H'
theorem sc_draw : FnScope ["state", "room", "found"] ["state", "room"] (defScope sL_draw) := ⟨rfl, rfl, rfl, by decide +kernel, rfl, by decide +kernel, by decide +kernel⟩
theorem ok_draw (D : Dn K mg "_law_draw" sL_draw) (B : Ok P w K mg base L2.CX0 1 "_law_blended" ["state"] spBlended) (h_int : mg "int" = none) : Ok P w K mg base L2.CX0 2 "_law_draw" ["state", "room"] spDraw := by
  obtain ⟨fB, fdB, g_blended, k_blended, b_blended, F_blended⟩ := B.ex
  refine Ok.mk0 D sc_draw (fun vs H Q E h => ?_) (fun _ _ _ _ _ _ us hl => match us, hl with | [_, _], _ => rfl) (fun f cdv A outer s H vs Q E hr h => ?_)
  · obtain ⟨d, g, c, n, room, rfl, _⟩ := h
    rfl
  obtain ⟨d, g, c, n, room, rfl, hS, hpos, hbits, k⟩ := h
  have hu := hu_of hr
  have hu64 := hr.units
  have nd := sc_draw.nd
  obtain ⟨gs, cs, r, t, h1, h2, h3, h4, h5, h6, h7⟩ := id hS
  have ndg : d ≠ g := hS.ne
  have ndc : d ≠ c := ne_of h1 h3 (by intro z; cases z)
  refine ⟨_, (C8.pss_cut (ps_if (pt_cmpR op_eq (pe_dget hu (pv 0) pe_str (fun _ _ => rfl)) pe_int (nomark _))
      (pss_one (ps_dput hu (pv 0) pe_str (pe_ifExp (pt_cmpR (op_neD hu64) (pe_dget hu (pv 0) pe_str (fun _ _ => rfl)) (pe_lst pa_nil) (nomark _)) (pe_bm PySem.F.plainAttrs_list PySem.F.slot_list_pop PySem.F.type_list_pop mt_popAt (pe_dget hu (pv 0) pe_str (fun _ _ => rfl)) (pa_cons pe_int pa_nil)) (pe_call F_blended hr rfl g_blended k_blended b_blended .nil pass0 (pa_cons (pv 0) pa_nil))) rfl))
      pss_nil)
    (pss_cons (ps_set (i := 2) nd rfl (Or.inl rfl) (pe_op op_modN (pe_callTy call_int1 (by rfl) h_int (by decide +kernel) (pa_cons (pe_dget hu (pv 0) pe_str (fun _ _ => rfl)) pa_nil)) (pv 1)))
    (pss_cons (ps_dput hu (pv 0) pe_str (pe_op op_fdivW (pe_dget hu (pv 0) pe_str (fun _ _ => rfl)) (pv 1)) rfl)
    (pss_one (ps_ret (pv 2)))))), ?_⟩
  refine ⟨fun σ H1 => σ = [some (.ref d), some (.int room), none] ∧ St H1 d g c n ∧ Kp d g H H1, ?_, ?_⟩
  · -- the rest is 0
    refine ⟨.ref d, rfl, d, _, rfl, sget h1 kvS_rest, rfl, _, rfl, ?_⟩
    refine ite2 (fun _ => ?_) (fun _ => ?_)
    · refine ⟨.ref d, rfl, d, _, rfl, sget h1 kvS_great, by decide, fun l hl => ?_⟩
      have nl : ∀ {b o}, H b = some o → b ≠ l := fun e => ne_of_none e hl
      have s1 : Same H (upd H l (.lst [])) := fun b o e => by rw [upd_ne (nl e)]; exact e
      have g1 : (upd H l (.lst [])) g = some (.lst (gs.map V.int)) := s1 _ _ h2
      have d1 : (upd H l (.lst [])) d = some (.dK (kvS g c r t)) := s1 _ _ h1
      refine ⟨.list (gs.map PyData.int), .list [], .lst (SqL.of g1) (dpAll_ints gs), .lst (SqL.of upd_same) .nil, (sh_list (n := 0) fun d hd => ?_).shaped (by decide), (sh_list (n := 0) fun d hd => absurd hd (by simp)).shaped (by decide), _, rfl, ?_⟩
      · obtain ⟨i, _, rfl⟩ := List.mem_map.mp hd
        exact sh_int i
      rw [eqv_nil]
      cases gs with
      | nil =>
        refine iteF ?_
        refine ⟨.ref d, rfl, d, g, c, n, rfl, hS.same s1, fun z H2 S2 k2 => ?_⟩
        obtain ⟨gs', cs', r', t', a1, a2, a3, a4, a5, a6, a7⟩ := S2
        refine ⟨_, rfl, d, _, rfl, DPut.k (k := Sum.inr "rest") a1 (by show 4 < sizeLine; decide), ?_⟩
        rw [kvS_putR]
        exact ⟨rfl, ⟨gs', cs', z, t', upd_same, by rw [upd_ne ndg.symm]; exact a2, by rw [upd_ne (fun e => by rw [e, a1] at a3; cases a3)]; exact a3, a4, a5, a6, a7⟩, fun b o e n1 n2 => by rw [upd_ne n1]; exact k2 b o (s1 b o e) n1 n2⟩
      | cons z zs =>
        refine iteT ?_
        refine ⟨.ref d, rfl, d, _, rfl, sget d1 kvS_great, .inl ⟨rfl, _, SqL.of g1⟩, g, _, 0, 0, .int z, rfl, rfl, g1, by decide, by decide, idx0 (by simp), rfl, ?_⟩
        refine ⟨_, rfl, d, _, rfl, DPut.k (k := Sum.inr "rest") (by rw [upd_ne ndg]; exact d1) (by show 4 < sizeLine; decide), ?_⟩
        rw [kvS_putR]
        exact ⟨rfl, ⟨zs, cs, z, t, upd_same, by rw [upd_ne ndg.symm, upd_same]; rfl, by rw [upd_ne ndc.symm, upd_ne h4]; exact s1 _ _ h3, h4, h5, h6, by omega⟩, fun b o e n1 n2 => by rw [upd_ne n1, upd_ne n2]; exact s1 b o e⟩
    · exact ⟨rfl, hS.less (by omega), Kp.refl H⟩
  · rintro σ H1 ⟨rfl, hS1, kp⟩
    obtain ⟨gs, cs, r, t, h1, h2, h3, h4, h5, h6, h7⟩ := hS1
    have ndc : d ≠ c := ne_of h1 h3 (by intro z; cases z)
    refine ⟨.ref d, rfl, d, _, rfl, sget h1 kvS_rest, .inl ⟨_, rfl, _, rfl, _, _, rfl, rfl, by omega, ?_⟩⟩
    refine ⟨.ref d, rfl, d, _, rfl, sget h1 kvS_rest, _, rfl, _, _, rfl, rfl, wide_div hpos hbits (by decide) (by decide), _, rfl, d, _, rfl, DPut.k (k := Sum.inr "rest") h1 (by show 4 < sizeLine; decide), ?_⟩
    rw [kvS_putR]
    obtain ⟨q1, q2⟩ := fmod_in r hpos
    exact ⟨_, rfl, k _ _ q1 q2 ⟨gs, cs, r / room, t, upd_same, by rw [upd_ne ndg.symm]; exact h2, by rw [upd_ne ndc.symm]; exact h3, h4, h5, h6, h7⟩ fun b o e n1 n2 => by rw [upd_ne n1]; exact kp b o e n1 n2⟩
/-! pick -/
theorem Kp.tk {d g c : Addr} {H H' : Hp} {n : Nat} (e : Kp d g H H') (S : St H d g c n) : TK H H' := by
  obtain ⟨gs, cs, r, t, h1, h2, _⟩ := S
  exact ⟨fun b xs q => e _ _ q (ne_of q h1 (by intro z; cases z)) (ne_of q h2 (by intro z; cases z)), fun b o u q => e _ _ q (ne_of q h1 (by intro z; cases z)) (ne_of q h2 (by intro z; cases z))⟩
theorem Kp.seq {K : PySem.W.Frag} {d g c a : Addr} {H H' : Hp} {n : Nat} {xs : List V} (e : Kp d g H H') (S : St H d g c n) (na : a ≠ g) (h : SqL K H a xs) : SqL K H' a xs := by
  obtain ⟨gs, cs, r, t, h1, h2, _⟩ := S
  rcases h with (h | ⟨o, h⟩) | h
  · exact .inl (.inl (e _ _ h (ne_of h h1 (by intro z; cases z)) na))
  · exact .inl (.inr ⟨o, e _ _ h (ne_of h h1 (by intro z; cases z)) na⟩)
  · exact .inr h
theorem Kp.new {d g a : Addr} {H H' : Hp} {o : HO} (e : Kp d g H H') (n : H a = none) : Kp d g H (upd H' a o) := fun b u q n1 n2 => by
  rw [upd_ne (ne_of_none q n)]
  exact e b u q n1 n2
def spPick (K : PySem.W.Frag) : Sp := fun vs H Q _ => ∃ (d g c a : Addr) (n : Nat) (xs : List V), vs = [.ref d, .ref a] ∧ St H d g c (n + 1) ∧ SqL K H a xs ∧ a ≠ g ∧ 0 < xs.length ∧ xs.length ≤ 100000 ∧
  ∀ (i : Nat) (x : V) H', xs[i]? = some x → St H' d g c n → Kp d g H H' → Q x H'
theorem sc_pick : FnScope ["state", "some"] ["state", "some"] (defScope sL_pick) := ⟨rfl, rfl, rfl, by decide +kernel, rfl, by decide +kernel, by decide +kernel⟩
theorem small9000 {n : Nat} (h : n ≤ 100000) : (n : Int).natAbs < 2 ^ 9000 := Nat.lt_of_lt_of_le (show n < 2 ^ 17 by omega) (Nat.pow_le_pow_right (by decide) (by decide))
theorem ok_pick (D : Dn K mg "_law_pick" sL_pick) (B : Ok P w K mg base L2.CX0 2 "_law_draw" ["state", "room"] spDraw) (h_len : mg "len" = none) : Ok P w K mg base L2.CX0 3 "_law_pick" ["state", "some"] (spPick K) := by
  obtain ⟨fB, fdB, g_draw, k_draw, b_draw, F_draw⟩ := B.ex
  refine Ok.mk0 D sc_pick (fun vs H Q E h => ?_) (fun _ _ _ _ _ _ us hl => match us, hl with | [_, _], _ => rfl) (fun f cdv A outer s H vs Q E hr h => ?_)
  · obtain ⟨d, g, c, a, n, xs, rfl, _⟩ := h
    rfl
  obtain ⟨d, g, c, a, n, xs, rfl, hS, hxs, na, h0, hm, k⟩ := h
  refine ⟨_, (pss_one (ps_ret (pe_ix ix_list (pv 1) (pe_call F_draw hr rfl g_draw k_draw b_draw .nil pass0 (pa_cons (pv 0) (pa_cons (pe_callB call_len_seq (by rfl) h_len (by decide +kernel) (pa_cons (pv 1) pa_nil)) pa_nil))) (fun _ _ => rfl)))), ?_⟩
  refine ⟨.ref a, rfl, .ref d, rfl, .ref a, rfl, a, xs, rfl, .inl hxs, d, g, c, n, _, rfl, hS, by omega, small9000 hm, fun z H' z0 z1 S' kp => ?_⟩
  obtain ⟨i, rfl⟩ := Int.eq_ofNat_of_zero_le z0
  have hi : i < xs.length := by omega
  exact ⟨a, xs, _, xs[i], rfl, rfl, kp.seq hS na hxs, atI_nat (List.getElem?_eq_getElem hi), k i _ H' (List.getElem?_eq_getElem hi) S' kp⟩
/-! shuffled -/
def spShuffled (K : PySem.W.Frag) : Sp := fun vs H Q _ => ∃ (d g c a : Addr) (n : Nat) (xs : List V) (ds : List PyData), vs = [.ref d, .ref a] ∧ St H d g c (n + xs.length) ∧ SqL K H a xs ∧ DtAll K H xs ds ∧ (∀ x ∈ ds, Sh 60 x) ∧ xs.length ≤ 100000 ∧
  ∀ (l : Addr) (ys : List V) H', ys.Perm xs → H l = none → H' l = some (.lst ys) → St H' d g c n → Kp d g H H' → Q (.ref l) H'
theorem sc_shuffled : FnScope ["state", "some", "left", "found"] ["state", "some"] (defScope sL_shuffled) := ⟨rfl, rfl, rfl, by decide +kernel, rfl, by decide +kernel, by decide +kernel⟩
theorem erase_perm {α : Type} {x : α} : ∀ {l : List α} {i : Nat}, l[i]? = some x → (x :: l.eraseIdx i).Perm l
  | [], _, h => by simp at h
  | y :: r, 0, h => by cases h; exact List.Perm.refl _
  | y :: r, i + 1, h => (List.Perm.swap y x _).trans ((erase_perm (l := r) (i := i) h).cons y)
theorem ok_shuffled (D : Dn K mg "_law_shuffled" sL_shuffled) (B : Ok P w K mg base L2.CX0 2 "_law_draw" ["state", "room"] spDraw) (h_len : mg "len" = none) (h_list : mg "list" = none) :
    Ok P w K mg base L2.CX0 3 "_law_shuffled" ["state", "some"] (spShuffled K) := by
  obtain ⟨fB, fdB, g_draw, k_draw, b_draw, F_draw⟩ := B.ex
  refine Ok.mk0 D sc_shuffled (fun vs H Q E h => ?_) (fun _ _ _ _ _ _ us hl => match us, hl with | [_, _], _ => rfl) (fun f cdv A outer s H vs Q E hr h => ?_)
  · obtain ⟨d, g, c, a, n, xs, ds, rfl, _⟩ := h
    rfl
  obtain ⟨d, g, c, a, n, xs, ds, rfl, hS, hxs, hds, hsh, hm, k⟩ := h
  have hu := hu_of hr
  have hu64 := hr.units
  have nd := sc_shuffled.nd
  refine ⟨_, (pss_cons (ps_par (i := 2) (j := 3) (by rfl) nd rfl rfl (by decide) rfl rfl (pa_cons (pe_callTy call_list_of (by rfl) h_list (by decide +kernel) (pa_cons (pv 1) pa_nil)) (pa_cons (pe_lst pa_nil) pa_nil)) (by rfl))
    (pss_cons (ps_while PassesOwn.never (pt_cmpR (op_neD hu64) (pv 2) (pe_lst pa_nil) (nomark _))
      (pss_one (ps_expr (pe_bm PySem.F.plainAttrs_list PySem.F.slot_list_append PySem.F.type_list_append mt_append (pv 3) (pa_cons (pe_bm PySem.F.plainAttrs_list PySem.F.slot_list_pop PySem.F.type_list_pop mt_popAt (pv 2) (pa_cons (pe_call F_draw hr rfl g_draw k_draw b_draw .nil pass0 (pa_cons (pv 0) (pa_cons (pe_callB call_len_seq (by rfl) h_len (by decide +kernel) (pa_cons (pv 2) pa_nil)) pa_nil))) pa_nil)) pa_nil)))))
    (pss_one (ps_ret (pv 3))))), ?_⟩
  refine ⟨.ref a, rfl, a, xs, rfl, .inl hxs, fun L hL => ⟨by decide, fun F hF => ⟨_, _, rfl, ?_⟩⟩⟩
  have nFL : F ≠ L := fun e => by rw [e, upd_same] at hF; cases hF
  have hF0 : H F = none := by rw [upd_ne nFL] at hF; exact hF
  have base0 : ∀ {b o}, H b = some o → (upd (upd H L (.lst xs)) F (.lst [])) b = some o := fun e => by rw [upd_ne (ne_of_none e hF0), upd_ne (ne_of_none e hL)]; exact e
  refine while_by (fun σ H1 => ∃ (ls fs : List V) (es : List PyData), σ = [some (.ref d), some (.ref a), some (.ref L), some (.ref F)] ∧ H1 L = some (.lst ls) ∧ H1 F = some (.lst fs) ∧ (fs ++ ls).Perm xs ∧ St H1 d g c (n + ls.length) ∧ Kp d g H H1 ∧
      DtAll K H1 ls es ∧ (∀ x ∈ es, Sh 60 x)) (fun _ H1 => match H1 L with | some (.lst ls) => ls.length | _ => 0) ?_ ?_ ?_
  · exact ⟨xs, [], ds, rfl, by rw [upd_ne nFL.symm, upd_same], upd_same, by simp, hS.same fun b o e => base0 e, Kp.of fun b o e => base0 e, hds.keep (.of fun b o e => base0 e), hsh⟩
  · rintro σ H1 ⟨ls, fs, es, rfl, eL, eF, pm, S1, kp, des, esh⟩
    have ll : ls.length + fs.length = xs.length := by have := pm.length_eq; simp at this; omega
    refine ⟨.ref L, rfl, by decide, fun z hz => ?_⟩
    have sz : Same H1 (upd H1 z (.lst [])) := fun b o e => by rw [upd_ne (ne_of_none e hz)]; exact e
    refine ⟨.list es, .list [], .lst (SqL.of (sz _ _ eL)) (dpAll_same sz des.dp), .lst (SqL.of upd_same) .nil, (sh_list esh).shaped (by decide), (sh_list (n := 0) fun d hd => absurd hd (by simp)).shaped (by decide), _, rfl, ?_⟩
    rw [eqv_nil]
    cases des with
    | nil =>
      refine iteF ⟨.ref F, rfl, ?_⟩
      have eF' := sz _ _ eF
      exact k F fs _ (by simpa using pm) hF0 eF' (S1.less (by omega) |>.same sz) fun b o e n1 n2 => sz _ _ (kp b o e n1 n2)
    | @cons v vs e es' dv dvs =>
      refine iteT ?_
      have S2 := S1.same sz
      have nLg : L ≠ g := fun q => by
        obtain ⟨gs, cs, r, t, q1, q2, _⟩ := hS
        rw [q, q2] at hL
        cases hL
      have nFg : F ≠ g := fun q => by
        obtain ⟨gs, cs, r, t, q1, q2, _⟩ := hS
        rw [q, q2] at hF0
        cases hF0
      have nLd : L ≠ d := fun q => by
        obtain ⟨gs, cs, r, t, q1, q2, _⟩ := hS
        rw [q, q1] at hL
        cases hL
      have nFd : F ≠ d := fun q => by
        obtain ⟨gs, cs, r, t, q1, q2, _⟩ := hS
        rw [q, q1] at hF0
        cases hF0
      refine ⟨.ref F, rfl, .inl ⟨rfl, _, SqL.of (sz _ _ eF)⟩, .ref L, rfl, .inl ⟨rfl, _, SqL.of (sz _ _ eL)⟩, .ref d, rfl, .ref L, rfl, L, _, rfl, .inl (SqL.of (sz _ _ eL)), d, g, c, n + vs.length, _, rfl, S2.less (by simp only [List.length_cons]; omega), by simp, small9000 (by simp at ll ⊢; omega), fun z' H2 z0 z1 S3 kp3 => ?_⟩
      obtain ⟨i, rfl⟩ := Int.eq_ofNat_of_zero_le z0
      have hi : i < (v :: vs).length := by omega
      have e2L : H2 L = some (.lst (v :: vs)) := kp3 _ _ (sz _ _ eL) nLd nLg
      have e2F : H2 F = some (.lst fs) := kp3 _ _ (sz _ _ eF) nFd nFg
      refine ⟨L, _, _, i, (v :: vs)[i], rfl, rfl, e2L, by omega, by simp at hi ll; omega, idxN hi, List.getElem?_eq_getElem hi, ?_⟩
      refine ⟨F, fs, _, rfl, rfl, by rw [upd_ne nFL]; exact e2F, by simp at ll; rw [sizeLine_eq]; omega, ?_⟩
      have t2 : TK H1 H2 := (TK.of sz).trans (kp3.tk S2)
      have tk : TK H1 (upd (upd H2 L (.lst ((v :: vs).eraseIdx i))) F (.lst (fs ++ [(v :: vs)[i]]))) := t2.trans ((TK.lst e2L).trans (TK.lst (by rw [upd_ne nFL]; exact e2F)))
      have lene : ((v :: vs).eraseIdx i).length = vs.length := by rw [List.length_eraseIdx_of_lt hi]; simp
      refine ⟨⟨(v :: vs).eraseIdx i, fs ++ [(v :: vs)[i]], (e :: es').eraseIdx i, rfl, by rw [upd_ne nFL.symm, upd_same], upd_same, ?_, ?_, fun b o q n1 n2 => ?_, ?_, fun x hx => esh x (List.mem_of_mem_eraseIdx hx)⟩, ?_⟩
      · refine List.Perm.trans ?_ pm
        rw [List.append_assoc]
        exact (erase_perm (List.getElem?_eq_getElem hi)).append_left fs
      · rw [lene]
        have nLc : L ≠ c := fun q => by
          obtain ⟨gs, cs, r, t, q1, q2, q3, _⟩ := hS
          rw [q, q3] at hL
          cases hL
        have nFc : F ≠ c := fun q => by
          obtain ⟨gs, cs, r, t, q1, q2, q3, _⟩ := hS
          rw [q, q3] at hF0
          cases hF0
        obtain ⟨gs, cs, r, t, q1, q2, q3, q4, q5, q6, q7⟩ := S3
        have away : ∀ {b}, b ≠ L → b ≠ F → (upd (upd H2 L (.lst ((v :: vs).eraseIdx i))) F (.lst (fs ++ [(v :: vs)[i]]))) b = H2 b := fun n1 n2 => by rw [upd_ne n2, upd_ne n1]
        exact ⟨gs, cs, r, t, by rw [away nLd.symm nFd.symm]; exact q1, by rw [away nLg.symm nFg.symm]; exact q2, by rw [away nLc.symm nFc.symm]; exact q3, q4, q5, q6, q7⟩
      · rw [upd_ne (ne_of_none q hF0), upd_ne (ne_of_none q hL)]
        exact kp3 _ _ (sz _ _ (kp b o q n1 n2)) n1 n2
      · exact (DtAll.cons dv dvs).erase i |>.keep tk
      · show (match (upd (upd H2 L _) F _) L with | some (.lst ls) => ls.length | _ => 0) < (match H1 L with | some (.lst ls) => ls.length | _ => 0)
        rw [upd_ne nFL.symm, upd_same, eL]
        show ((v :: vs).eraseIdx i).length < (v :: vs).length
        rw [lene]
        simp
  · intro σ H1 Q1 Q2 m h
    obtain ⟨v, e, h1, h2⟩ := h
    refine ⟨v, e, h1, fun z hz => ?_⟩
    obtain ⟨d1, d2, a1, a2, a3, a4, b, a5, a6⟩ := h2 z hz
    exact ⟨d1, d2, a1, a2, a3, a4, b, a5, m _ _ a6⟩
end
end K05
set_option maxHeartbeats 4000000
/-! isinstance of data; comprehensions whose element is told apart -/
namespace Hx
open PySem PySem.Spec PyProof.Rows L2
inductive Tg | non | bl | int | str | tup | lst
  deriving DecidableEq
def tagOf : PyData → Tg
  | .none => .non
  | .bool _ => .bl
  | .int _ => .int
  | .str _ => .str
  | .tuple _ => .tup
  | .list _ => .lst
  | .dict _ => .lst
def isTy : Tg → String → Bool
  | .non, _ => false
  | .bl, T => T == "bool" || T == "int"
  | .int, T => T == "int"
  | .str, T => T == "str"
  | .tup, T => T == "tuple"
  | .lst, T => T == "list"
def tgN : Tg → String
  | .non => "NoneType"
  | .bl => "bool"
  | .int => "int"
  | .str => "str"
  | .tup => "tuple"
  | .lst => "list"
theorem tg_kit {K : PySem.W.Frag} (g : Tg) {T : String} (h : T = "int" ∨ T = "bool" ∨ T = "str" ∨ T = "tuple" ∨ T = "list") : PySem.W.kitOne K (.type (tgN g)) (.type T) = some (isTy g T) := by
  rcases h with rfl | rfl | rfl | rfl | rfl <;> cases g <;> exact kit_ty (by decide +kernel)
theorem tyX_dp {K : PySem.W.Frag} {H : Hp} {v : V} {d : PyData} (h : Dp K H v d) : TyX K H v (.type (tgN (tagOf d))) := by
  cases h with
  | non => exact .base .non
  | bl b => exact .base (.bl b)
  | int i => exact .base (.int i)
  | str x => exact .base (.str x)
  | lst h r =>
    rcases h with (h | ⟨o, h⟩) | ⟨o, _, _, h, c, _⟩
    · exact .base (.lst h)
    · exact .base (.frz h)
    · exact .kList h c
  | tup h r =>
    rcases h with (h | ⟨o, h⟩) | ⟨o, _, _, h, c, _⟩
    · exact .base (.tup h)
    · exact .fTuple h
    · exact .kTuple h c
/-- isinstance(x, T), x data -/
def rIsD (K : PySem.W.Frag) : List V → Hp → VK → Prop := fun xs H Q => ∃ (x : V) (d : PyData) (T : String), xs = [x, .ty T] ∧ Dp K H x d ∧ (T = "int" ∨ T = "bool" ∨ T = "str" ∨ T = "tuple" ∨ T = "list") ∧ Q (.bl (isTy (tagOf d) T)) H
theorem call_isD {X : Cx} : CallR X (.builtin "isinstance") (rIsD X.K) := by
  intro pins s σ H xs us Q I r h
  obtain ⟨x, d, T, rfl, hd, hT, q⟩ := h
  exact call_isi pins s σ H _ us Q I r ⟨x, .ty T, _, .type T, _, rfl, .ty T, tyX_dp hd, tg_kit _ hT, q⟩
/-- isinstance(e, T) -/
def tIsD (K : PySem.W.Frag) (T : String) (te : TE) : TE := fun σ H Q => te σ H fun x H1 => ∃ d, Dp K H1 x d ∧ Q (.bl (isTy (tagOf d) T)) H1
theorem pe_isD {X : Cx} {K : PySem.W.Frag} (T : String) {e : Expr} {te : TE} {p p2 pos : Pos} (hK : X.K = K) (hm : X.mg "isinstance" = none) (hm2 : X.mg (Str.ofString T) = none) (he : PE X e te)
    (hT : T = "int" ∨ T = "bool" ∨ T = "str" ∨ T = "tuple" ∨ T = "list" := by decide) (hg : Gl X "isinstance" := by rfl) (hg2 : Gl X (Str.ofString T) := by rfl) (hv : bootBuiltins (Str.ofString T) = some (.type T) := by decide +kernel)
    (hn2 : Str.ofString T ≠ "__name__" := by decide) (hd2 : (Str.ofString T == ("__debug__" : Str)) = false := by decide) (hs : starEach [e, .Name (Str.ofString T) p2] X.env = (false, eval e X.env) :: starEach [.Name (Str.ofString T) p2] X.env := by rfl)
    (hs2 : starEach [.Name (Str.ofString T) p2] X.env = (false, eval (.Name (Str.ofString T) p2) X.env) :: starEach [] X.env := by rfl) (hpl : (backTo pos (starEach [.Name (Str.ofString T) p2] X.env)).any (·.1) = false := by rfl) :
    PE X (.Call (.Name "isinstance" p) [e, .Name (Str.ofString T) p2] [] pos) (tIsD K T te) := by
  subst hK
  have q := pe_callB (X := X) (x := "isinstance") (p := p) (pos := pos) (call_isD (X := X)) hg hm (by decide +kernel) (pa_cons he (pa_cons (pe_bltn (v := .ty T) (pos := p2) hg2 hm2 hv rfl hn2 hd2) pa_nil hs2) hs) (he := hs) (hpl := hpl)
  refine ⟨fun pins s σ H Q I h => q.run pins s σ H Q I ?_⟩
  have e0 : (fun (x : V) (H1 : Hp) => ∃ d, Dp X.K H1 x d ∧ Q (.bl (isTy (tagOf d) T)) H1) = fun (x : V) (H1 : Hp) => rIsD X.K [x, .ty T] H1 Q := funext fun x => funext fun H1 => propext
    ⟨fun ⟨d, a, b⟩ => ⟨x, d, T, rfl, a, hT, b⟩, fun ⟨x', d, T', e, a, _, b⟩ => by
      simp only [List.cons.injEq, V.ty.injEq, and_true] at e
      obtain ⟨rfl, rfl⟩ := e
      exact ⟨d, a, b⟩⟩
  show te σ H (fun x H1 => rIsD X.K [x, .ty T] H1 Q)
  rw [← e0]
  exact h
/-- len(e), e a list or a tuple -/
def tLenS (K : PySem.W.Frag) (te : TE) : TE := fun σ H Q => te σ H fun x H1 => ∃ p ys, x = .ref p ∧ (SqL K H1 p ys ∨ SqT K H1 p ys) ∧ Q (.int ys.length) H1
theorem pe_lenS {X : Cx} {K : PySem.W.Frag} {e : Expr} {te : TE} {p pos : Pos} (hK : X.K = K) (hm : X.mg "len" = none) (he : PE X e te) (hg : Gl X "len" := by rfl)
    (hs : starEach [e] X.env = (false, eval e X.env) :: starEach [] X.env := by rfl) (hpl : (backTo pos (starEach [] X.env)).any (·.1) = false := by rfl) : PE X (.Call (.Name "len" p) [e] [] pos) (tLenS K te) := by
  subst hK
  have q := pe_callB (X := X) (x := "len") (p := p) (pos := pos) (call_len_seq (X := X)) hg hm (by decide +kernel) (pa_cons he pa_nil hs) (he := hs) (hpl := hpl)
  refine ⟨fun pins s σ H Q I h => q.run pins s σ H Q I ?_⟩
  have e0 : (fun (x : V) (H1 : Hp) => ∃ p ys, x = .ref p ∧ (SqL X.K H1 p ys ∨ SqT X.K H1 p ys) ∧ Q (.int ys.length) H1) = fun (x : V) (H1 : Hp) => (∃ p ys, [x] = [V.ref p] ∧ (SqL X.K H1 p ys ∨ SqT X.K H1 p ys) ∧ Q (.int ys.length) H1) :=
    funext fun x => funext fun H1 => by simp only [List.cons.injEq, and_true]
  show te σ H (fun x H1 => (∃ p ys, [x] = [V.ref p] ∧ (SqL X.K H1 p ys ∨ SqT X.K H1 p ys) ∧ Q (.int ys.length) H1))
  rw [← e0]
  exact h
/-! ### comprehensions whose turns keep all that stands -/
section
variable {J : It} {n : Nat} {g : TG} {tt : TT} {te : TE} {vs : List Nat} {σ : L2.St} {H1 : Hp} {D : Addr} {Qd : Hp → Prop}
abbrev LcGoal (J : It) (g : TG) (tt : TT) (te : TE) (vs : List Nat) (σ : L2.St) (H1 : Hp) (D : Addr) (Qd : Hp → Prop) : Prop := ∃ W : Nat → Nat → Hp → Prop, (∃ m, W 0 m (upd H1 D (.lst []))) ∧ ∀ i m H, W i m H →
  (J.stop i H ∧ Qd H) ∨ (J.go i H ∧ ∃ Nx : Hp → Prop, (∀ H', Nx H' → ∃ m', m' < m ∧ W (i + 1) m' H') ∧ ∀ x H', J.yld i H x H' → g x (wipe σ vs) H' fun σ2 H2 => wipe σ2 vs = wipe σ vs ∧ tt σ2 H2 fun b H3 =>
    if b = true then te σ2 H3 fun y H4 => ∃ acc, H4 D = some (.lst acc) ∧ acc.length < sizeLine ∧ Nx (upd H4 D (.lst (acc ++ [y]))) else Nx H3)
theorem lc_any (Pv : Nat → Hp → Prop) (h0 : Pv 0 (upd H1 D (.lst []))) (go : ∀ i H, i < n → Pv i H → J.go i H) (stop : ∀ H, Pv n H → J.stop n H)
    (turn : ∀ i x H H', i < n → Pv i H → J.yld i H x H' → g x (wipe σ vs) H' fun σ2 H2 => wipe σ2 vs = wipe σ vs ∧ tt σ2 H2 fun b H3 =>
      if b = true then te σ2 H3 fun y H4 => ∃ acc, H4 D = some (.lst acc) ∧ acc.length < sizeLine ∧ Pv (i + 1) (upd H4 D (.lst (acc ++ [y]))) else Pv (i + 1) H3)
    (hd : ∀ H, Pv n H → Qd H) : LcGoal J g tt te vs σ H1 D Qd := by
  refine ⟨fun i m H => m = n - i ∧ i ≤ n ∧ Pv i H, ⟨n, by simp, Nat.zero_le _, h0⟩, ?_⟩
  rintro i m H ⟨rfl, hi, p⟩
  by_cases hlt : i < n
  · exact .inr ⟨go i H hlt p, Pv (i + 1), fun H' p' => ⟨n - (i + 1), by omega, rfl, hlt, p'⟩, fun x H' y => turn i x H H' hlt p y⟩
  · obtain rfl : i = n := by omega
    exact .inl ⟨stop H p, hd H p⟩
/-- .. and no test: the items by what they are -/
theorem lc_rel (Y : Nat → V → Hp → Prop) (hY : ∀ i y H H', TK H H' → Y i y H → Y i y H') (hn : H1 D = none) (hsz : n < sizeLine) (go : ∀ i H, i < n → Same H1 H → J.go i H) (stop : ∀ H, Same H1 H → J.stop n H)
    (turn : ∀ (i : Nat) (x : V) (H H' : Hp) (F : VK), i < n → Same H1 H → J.yld i H x H' → (∀ y H4, Y i y H4 → Same H H4 → F y H4) → g x (wipe σ vs) H' fun σ2 H2 => wipe σ2 vs = wipe σ vs ∧ te σ2 H2 F)
    (hd : ∀ acc H, Same H1 H → H D = some (.lst acc) → acc.length = n → (∀ i y, acc[i]? = some y → Y i y H) → Qd H) : LcGoal J g tYes te vs σ H1 D Qd := by
  have s1 : ∀ {H : Hp} {o : HO}, Same H1 H → Same H1 (upd H D o) := fun s b u e => by rw [upd_ne (ne_of_none e hn)]; exact s b u e
  refine lc_any (fun i H => ∃ acc, Same H1 H ∧ H D = some (.lst acc) ∧ acc.length = i ∧ ∀ j y, acc[j]? = some y → Y j y H) ⟨[], s1 (Same.refl H1), upd_same, rfl, fun j y e => by simp at e⟩ (fun i H hi ⟨_, s, _⟩ => go i H hi s) (fun H ⟨_, s, _⟩ => stop H s) ?_ fun H ⟨acc, s, e, l, k⟩ => hd acc H s e l k
  rintro i x H H' hi ⟨acc, s, e, l, k⟩ y
  have q := turn i x H H' (fun y H4 => ∃ acc, H4 D = some (.lst acc) ∧ acc.length < sizeLine ∧ ∃ acc', Same H1 (upd H4 D (.lst (acc ++ [y]))) ∧ (upd H4 D (.lst (acc ++ [y]))) D = some (.lst acc') ∧ acc'.length = i + 1 ∧ ∀ j y', acc'[j]? = some y' → Y j y' (upd H4 D (.lst (acc ++ [y])))) hi s y (fun z H4 yz s4 => ?_)
  · exact q
  have e4 := s4 _ _ e
  refine ⟨acc, e4, by omega, acc ++ [z], s1 (s.trans s4), upd_same, by simp [l], fun j y' ej => ?_⟩
  have tk : TK H4 (upd H4 D (.lst (acc ++ [z]))) := .lst e4
  by_cases hj : j < acc.length
  · rw [List.getElem?_append_left hj] at ej
    exact hY _ _ _ _ ((TK.of s4).trans tk) (k j y' ej)
  · have hj2 : j = acc.length := by
      have := (List.getElem?_eq_some_iff.mp ej).1
      simp at this
      omega
    subst hj2
    simp at ej
    subst ej
    rw [l]
    exact hY _ _ _ _ tk yz
end
end Hx
set_option maxHeartbeats 4000000
namespace K05
open PySem PySem.Spec PyProof.Rows L2 Hx
/-! ### numbers -/
inductive Num | w (i : Int) | q (t b : Int)
  deriving DecidableEq
def Num.data : Num → PyData
  | .w i => .int i
  | .q t b => .tuple [.int t, .int b]
def Num.top : Num → Int
  | .w i => i
  | .q t _ => t
def Num.low : Num → Int
  | .w _ => 1
  | .q _ b => b
def Num.ok : Num → Bool
  | .w _ => true
  | .q t b => decide (2 ≤ b) && decide ((Nat.gcd t.natAbs b.natAbs : Int) = 1)
def NumAt (K : PySem.W.Frag) (H : Hp) (v : V) : Num → Prop
  | .w i => v = .int i
  | .q t b => ∃ a, v = .ref a ∧ SqT K H a [.int t, .int b]
theorem NumAt.dt {K : PySem.W.Frag} {H : Hp} {v : V} : ∀ {n : Num}, NumAt K H v n → Dt K H v n.data
  | .w i, h => by
    obtain rfl : v = .int i := h
    exact .int i
  | .q t b, h => by
    obtain ⟨a, rfl, h⟩ := h
    exact .tup h (.cons (.int t) (.cons (.int b) .nil))
theorem NumAt.keep {K : PySem.W.Frag} {H H' : Hp} {v : V} (e : TK H H') : ∀ {n : Num}, NumAt K H v n → NumAt K H' v n
  | .w i, h => h
  | .q t b, ⟨a, h1, h2⟩ => ⟨a, h1, tk_seqT e h2⟩
def made (t b : Int) : Num := if b / (Nat.gcd t.natAbs b.natAbs : Int) = 1 then .w (t / (Nat.gcd t.natAbs b.natAbs : Int)) else .q (t / (Nat.gcd t.natAbs b.natAbs : Int)) (b / (Nat.gcd t.natAbs b.natAbs : Int))
section
variable {P : Program} {w : World} {K : PySem.W.Frag} {mg : Str → Option Value} {base : Heap}
/-! gcd -/
def spGcd : Sp := fun vs H Q _ => ∃ i j : Int, vs = [.int i, .int j] ∧ Q (.int (Nat.gcd i.natAbs j.natAbs : Nat)) H
theorem sc_ct_gcd : FnScope ["one", "other", "a", "b"] ["one", "other"] (defScope sL_ct_gcd) := ⟨rfl, rfl, rfl, by decide +kernel, rfl, by decide +kernel, by decide +kernel⟩
theorem ok_ct_gcd (D : Dn K mg "_law_ct_gcd" sL_ct_gcd) (h_abs : mg "abs" = none) (h_int : mg "int" = none) : Ok P w K mg base L2.CX0 1 "_law_ct_gcd" ["one", "other"] spGcd := by
  refine Ok.mk0 D sc_ct_gcd (fun vs H Q E h => ?_) (fun _ _ _ _ _ _ us hl => match us, hl with | [_, _], _ => rfl) (fun f cdv A outer s H vs Q E hr h => ?_)
  · obtain ⟨i, j, rfl, _⟩ := h
    rfl
  obtain ⟨i, j, rfl, k⟩ := h
  have nd := sc_ct_gcd.nd
  refine ⟨_, (pss_cons (ps_par (i := 2) (j := 3) (by rfl) nd rfl rfl (by decide) rfl rfl (pa_cons (pe_callB call_abs (by rfl) h_abs (by decide +kernel) (pa_cons (pv 0) pa_nil)) (pa_cons (pe_callB call_abs (by rfl) h_abs (by decide +kernel) (pa_cons (pv 1) pa_nil)) pa_nil)) (by rfl))
    (pss_cons (ps_while PassesOwn.never (pt_cmpR op_ne (pv 3) pe_int (nomark _))
      (pss_one (ps_par (i := 2) (j := 3) (by rfl) nd rfl rfl (by decide) rfl rfl (pa_cons (pv 3) (pa_cons (pe_op op_modN (pe_callTy call_int1 (by rfl) h_int (by decide +kernel) (pa_cons (pv 2) pa_nil)) (pv 3)) pa_nil)) (by rfl))))
    (pss_one (ps_ret (pv 2))))), ?_⟩
  refine ⟨_, rfl, _, rfl, _, rfl, _, rfl, _, _, rfl, ?_⟩
  have ab : ∀ z : Int, (if z < 0 then -z else z) = (z.natAbs : Int) := fun z => by split <;> omega
  rw [ab, ab]
  refine while_by (fun σ H1 => H1 = H ∧ ∃ a b : Nat, σ = [some (.int i), some (.int j), some (.int a), some (.int b)] ∧ Nat.gcd a b = Nat.gcd i.natAbs j.natAbs) (fun σ _ => match σ with | [_, _, _, some (.int b)] => b.natAbs | _ => 0) ⟨rfl, _, _, rfl, rfl⟩ ?_ ?_
  · rintro σ H1 ⟨rfl, a, b, rfl, e⟩
    refine ⟨_, rfl, rfl, _, rfl, ?_⟩
    by_cases hb : b = 0
    · subst hb
      refine iteNS rfl ⟨_, rfl, ?_⟩
      rw [Nat.gcd_zero_right] at e
      rw [e]
      exact k
    · have nb : decide (V.int (b : Int) = V.int 0) = false := decide_eq_false fun q => hb (by have := V.int.inj q; omega)
      rw [nb]
      refine iteT ⟨_, rfl, _, rfl, .inl ⟨_, rfl, _, rfl, _, _, rfl, rfl, by omega, _, _, rfl, ?_⟩⟩
      have em : (a : Int).fmod b = ((a % b : Nat) : Int) := by rw [Int.fmod_eq_emod_of_nonneg _ (by omega)]; rfl
      refine ⟨⟨rfl, b, a % b, ?_, ?_⟩, ?_⟩
      · show [some (V.int i), some (V.int j), some (V.int b), some (V.int ((a : Int).fmod b))] = [some (V.int i), some (V.int j), some (V.int b), some (V.int ((a % b : Nat) : Int))]
        rw [em]
      · rw [← e, Nat.gcd_comm b (a % b), ← Nat.gcd_rec, Nat.gcd_comm]
      · show ((a : Int).fmod b).natAbs < (b : Int).natAbs
        rw [em]
        have := Nat.mod_lt a (Nat.pos_of_ne_zero hb)
        omega
  · intro σ H1 Q1 Q2 m h
    obtain ⟨v, e, h1, b, h2, h3⟩ := h
    exact ⟨v, e, h1, b, h2, m _ _ h3⟩
/-! top, low -/
def spTop (K : PySem.W.Frag) (f : Num → Int) : Sp := fun vs H Q _ => ∃ (v : V) (n : Num), vs = [v] ∧ NumAt K H v n ∧ Q (.int (f n)) H
theorem sc_ct_top : FnScope ["item"] ["item"] (defScope sL_ct_top) := ⟨rfl, rfl, rfl, by decide +kernel, rfl, by decide +kernel, by decide +kernel⟩
theorem ok_ct_top (D : Dn K mg "_law_ct_top" sL_ct_top) (h_isinstance : mg "isinstance" = none) (h_tuple : mg "tuple" = none) : Ok P w K mg base L2.CX0 1 "_law_ct_top" ["item"] (spTop K Num.top) := by
  refine Ok.mk0 D sc_ct_top (fun vs H Q E h => ?_) (fun _ _ _ _ _ _ us hl => match us, hl with | [_], _ => rfl) (fun f cdv A outer s H vs Q E hr h => ?_)
  · obtain ⟨v, n, rfl, _⟩ := h
    rfl
  obtain ⟨v, n, rfl, hn, k⟩ := h
  refine ⟨_, (pss_one (ps_ret (pe_ifExp (pt_val (pe_isD "tuple" rfl h_isinstance h_tuple (pv 0))) (pe_ix ix_tup (pv 0) pe_int (fun _ _ => rfl)) (pv 0)))), ?_⟩
  cases n with
  | w i =>
    obtain rfl : v = .int i := hn
    exact ⟨_, rfl, .int i, .int i, false, rfl, iteF ⟨_, rfl, k⟩⟩
  | q t b =>
    have hn' := hn.dt.dp
    obtain ⟨a, rfl, ha⟩ := hn
    exact ⟨_, rfl, .tuple [.int t, .int b], hn', true, rfl, iteT ⟨_, rfl, a, _, 0, _, rfl, rfl, ha, rfl, k⟩⟩
theorem sc_ct_low : FnScope ["item"] ["item"] (defScope sL_ct_low) := ⟨rfl, rfl, rfl, by decide +kernel, rfl, by decide +kernel, by decide +kernel⟩
theorem ok_ct_low (D : Dn K mg "_law_ct_low" sL_ct_low) (h_isinstance : mg "isinstance" = none) (h_tuple : mg "tuple" = none) : Ok P w K mg base L2.CX0 1 "_law_ct_low" ["item"] (spTop K Num.low) := by
  refine Ok.mk0 D sc_ct_low (fun vs H Q E h => ?_) (fun _ _ _ _ _ _ us hl => match us, hl with | [_], _ => rfl) (fun f cdv A outer s H vs Q E hr h => ?_)
  · obtain ⟨v, n, rfl, _⟩ := h
    rfl
  obtain ⟨v, n, rfl, hn, k⟩ := h
  refine ⟨_, (pss_one (ps_ret (pe_ifExp (pt_val (pe_isD "tuple" rfl h_isinstance h_tuple (pv 0))) (pe_ix ix_tup (pv 0) pe_int (fun _ _ => rfl)) pe_int))), ?_⟩
  cases n with
  | w i =>
    obtain rfl : v = .int i := hn
    exact ⟨_, rfl, .int i, .int i, false, rfl, iteF k⟩
  | q t b =>
    have hn' := hn.dt.dp
    obtain ⟨a, rfl, ha⟩ := hn
    exact ⟨_, rfl, .tuple [.int t, .int b], hn', true, rfl, iteT ⟨_, rfl, a, _, 1, _, rfl, rfl, ha, rfl, k⟩⟩
/-! less than a small whole -/
theorem gcd_pos {t b : Int} (h : 0 < b) : 0 < (Nat.gcd t.natAbs b.natAbs : Int) := by
  have := Nat.gcd_pos_of_pos_right t.natAbs (show 0 < b.natAbs by omega)
  omega
theorem gcd_le {t b : Int} (h : 0 < b) : (Nat.gcd t.natAbs b.natAbs : Int).natAbs ≤ b.natAbs := by
  have := Nat.gcd_le_right (n := b.natAbs) t.natAbs (by omega)
  omega
def spMade (K : PySem.W.Frag) : Sp := fun vs H Q _ => ∃ t b : Int, vs = [.int t, .int b] ∧ 0 < b ∧ b.natAbs < 2 ^ 9000 ∧ ∀ v H', Same H H' → NumAt K H' v (made t b) → Q v H'
theorem sc_ct_made : FnScope ["top", "bottom", "common", "high", "low"] ["top", "bottom"] (defScope sL_ct_made) := ⟨rfl, rfl, rfl, by decide +kernel, rfl, by decide +kernel, by decide +kernel⟩
theorem ok_ct_made (D : Dn K mg "_law_ct_made" sL_ct_made) (B1 : Ok P w K mg base L2.CX0 1 "_law_ct_gcd" ["one", "other"] spGcd) : Ok P w K mg base L2.CX0 2 "_law_ct_made" ["top", "bottom"] (spMade K) := by
  obtain ⟨_, _, g_ct_gcd, k_ct_gcd, b_ct_gcd, F_ct_gcd⟩ := B1.ex
  refine Ok.mk0 D sc_ct_made (fun vs H Q E h => ?_) (fun _ _ _ _ _ _ us hl => match us, hl with | [_, _], _ => rfl) (fun f cdv A outer s H vs Q E hr h => ?_)
  · obtain ⟨t, b, rfl, _⟩ := h
    rfl
  obtain ⟨t, b, rfl, hb, h9, k⟩ := h
  have nd := sc_ct_made.nd
  refine ⟨_, (pss_cons (ps_set (i := 2) nd rfl (Or.inl rfl) (pe_call F_ct_gcd hr rfl g_ct_gcd k_ct_gcd b_ct_gcd .nil pass0 (pa_cons (pv 0) (pa_cons (pv 1) pa_nil))))
    (pss_cons (ps_set (i := 2) nd rfl (Or.inl rfl) (pe_ifExp (pt_cmpR op_gt (pv 1) pe_int (nomark _)) (pv 2) (pe_op op_sub pe_int (pv 2))))
    (pss_cons (ps_par (i := 3) (j := 4) (by rfl) nd rfl rfl (by decide) rfl rfl (pa_cons (pe_op op_fdivW (pv 0) (pv 2)) (pa_cons (pe_op op_fdivW (pv 1) (pv 2)) pa_nil)) (by rfl))
    (pss_one (ps_ret (pe_ifExp (pt_cmpR op_eq (pv 4) pe_int (nomark _)) (pv 3) (pe_tup (pa_cons (pv 3) (pa_cons (pv 4) pa_nil))))))))), ?_⟩
  have gp := gcd_pos (t := t) hb
  have g9 : (Nat.gcd t.natAbs b.natAbs : Int).natAbs < 2 ^ 9000 := Nat.lt_of_le_of_lt (gcd_le hb) h9
  refine ⟨_, rfl, _, rfl, t, b, rfl, _, rfl, _, _, rfl, rfl, _, rfl, ?_⟩
  rw [decide_eq_true hb]
  refine iteT ⟨_, rfl, ?_⟩
  refine ⟨_, rfl, _, rfl, _, _, rfl, rfl, wide_div gp g9 (by decide) (by decide), _, rfl, _, rfl, _, _, rfl, rfl, wide_div gp g9 (by decide) (by decide), _, _, rfl, ?_⟩
  refine ⟨_, rfl, rfl, _, rfl, ?_⟩
  by_cases h1 : b / (Nat.gcd t.natAbs b.natAbs : Int) = 1
  · rw [decide_eq_true (congrArg V.int h1)]
    refine iteT ⟨_, rfl, k _ H (Same.refl H) ?_⟩
    unfold made
    rw [if_pos h1]
    rfl
  · rw [decide_eq_false (fun q => h1 (V.int.inj q))]
    refine iteF ⟨_, rfl, _, rfl, (by show 2 ≤ sizeLine; decide), fun p hp => k _ _ (fun b o e => by rw [upd_ne (ne_of_none e hp)]; exact e) ?_⟩
    unfold made
    rw [if_neg h1]
    exact ⟨p, rfl, .inl (.inl upd_same)⟩
/-! is_number -/
def spIsNum (K : PySem.W.Frag) : Sp := fun vs H Q _ => ∃ (v : V) (n : Num), vs = [v] ∧ NumAt K H v n ∧ ∀ H', Same H H' → Q (.bl n.ok) H'
end
end K05
set_option maxHeartbeats 4000000
namespace Hx
open PySem PySem.Spec PyProof.Rows L2 RZ
/-! ### slices of tuples and lists, zip of two tuples -/
theorem cutV_whole {xs : List V} {lo hi : Option Int} (h : HT.sIx xs.length 0 lo = 0 ∧ HT.sIx xs.length xs.length hi = xs.length) : cutV xs lo hi = xs := by
  unfold cutV
  rw [h.1, h.2]
  simp
theorem rSlA_any {K : PySem.W.Frag} {H : Hp} {a : Addr} {xs ys : List V} {lo hi : Option Int} {Q : VK} (ha : SqT K H a xs) (hy : cutV xs lo hi = ys) (q : ∀ p H', Same H H' → SqT K H' p ys → Q (.ref p) H') : rSlA K (.ref a) lo hi H Q := by
  refine ⟨a, xs, rfl, ha, fun hw => ?_, fun _ p hp => ?_⟩
  · rw [cutV_whole hw] at hy
    subst hy
    exact q a H (Same.refl H) ha
  · refine q p _ (fun b u e => by rw [upd_ne (ne_of_none e hp)]; exact e) (SqT.of ?_)
    rw [upd_same, hy]
theorem cut_from {xs : List V} (k : Nat) : cutV xs (some (k : Int)) none = xs.drop k := by
  unfold cutV
  rw [HT.sIx_nat, HT.sIx_none]
  rcases Nat.le_total k xs.length with h | h
  · rw [Nat.min_eq_left h, List.take_of_length_le (by rw [List.length_drop]; omega)]
  · rw [Nat.min_eq_right h, List.drop_of_length_le (Nat.le_refl _), List.drop_of_length_le h]
    simp
theorem cut_between {xs : List V} (k m : Nat) (hm : m ≤ xs.length) : cutV xs (some (k : Int)) (some (m : Int)) = (xs.take m).drop k := by
  unfold cutV
  rw [HT.sIx_nat, HT.sIx_nat, Nat.min_eq_left hm, List.drop_take]
  rcases Nat.le_total k xs.length with h | h
  · rw [Nat.min_eq_left h]
  · rw [Nat.min_eq_right h, List.drop_of_length_le (Nat.le_refl _), List.drop_of_length_le h]
    simp
theorem cut_less1 {xs : List V} (k : Nat) : cutV xs (some (k : Int)) (some (-1)) = (xs.take (xs.length - 1)).drop k := by
  have e : HT.sIx xs.length xs.length (some (-1)) = xs.length - 1 := by
    show (if (-1 : Int) < 0 then ((-1 : Int) + (xs.length : Int)).toNat else min (-1 : Int).toNat xs.length) = _
    rw [if_pos (by decide)]
    omega
  unfold cutV
  rw [HT.sIx_nat, e, List.drop_take]
  rcases Nat.le_total k xs.length with h | h
  · rw [Nat.min_eq_left h]
  · rw [Nat.min_eq_right h, List.drop_of_length_le (Nat.le_refl _), List.drop_of_length_le h]
    simp
theorem zipT_same {H : Hp} {T : Addr} {x y : V} (h : H T = none) : Same H (upd H T (.tup [x, y])) := fun b u e => by rw [upd_ne (ne_of_none e h)]; exact e
/-- a comprehension over zip(a, b), tuples, the second the shorter one -/
theorem lc_zip {g : TG} {te : TE} {vs : List Nat} {σ : L2.St} {H1 : Hp} {D : Addr} {Qd : Hp → Prop} {K : PySem.W.Frag} {a b : Addr} {xs ys : List V} (ha : SqT K H1 a xs) (hb : SqT K H1 b ys) (hle : ys.length ≤ xs.length) (hsz : ys.length < sizeLine)
    (Y : Nat → V → Hp → Prop) (hY : ∀ i y H H', TK H H' → Y i y H → Y i y H') (hn : H1 D = none)
    (turn : ∀ (i : Nat) (x y : V) (T : Addr) (H H' : Hp) (F : VK), xs[i]? = some x → ys[i]? = some y → Same H1 H' → Same H H' → H' T = some (.tup [x, y]) → (∀ z H4, Y i z H4 → Same H H4 → F z H4) →
      g (.ref T) (wipe σ vs) H' fun σ2 H2 => wipe σ2 vs = wipe σ vs ∧ te σ2 H2 F)
    (hd : ∀ acc H, Same H1 H → H D = some (.lst acc) → acc.length = ys.length → (∀ i y, acc[i]? = some y → Y i y H) → Qd H) : LcGoal (ItzT K a b) g tYes te vs σ H1 D Qd := by
  refine lc_rel Y hY hn hsz (fun i H hi s => ?_) (fun H s => ?_) ?_ hd
  · exact ⟨_, _, _, _, same_seqT s ha, same_seqT s hb, List.getElem?_eq_getElem (show i < xs.length by omega), List.getElem?_eq_getElem hi⟩
  · exact ⟨_, _, same_seqT s ha, same_seqT s hb, .inr (Nat.le_refl _)⟩
  · rintro i _ H _ F hi s ⟨T, x, y, rfl, hT, rfl, qx, qy⟩ kk
    exact turn i x y T H _ F (qx _ (same_seqT s ha)) (qy _ (same_seqT s hb)) (s.trans (zipT_same hT)) (zipT_same hT) upd_same kk
/-- .. over a tuple -/
theorem lc_tup1 {g : TG} {te : TE} {vs : List Nat} {σ : L2.St} {H1 : Hp} {D : Addr} {Qd : Hp → Prop} {K : PySem.W.Frag} {a : Addr} {xs : List V} (ha : SqT K H1 a xs) (hsz : xs.length < sizeLine)
    (Y : Nat → V → Hp → Prop) (hY : ∀ i y H H', TK H H' → Y i y H → Y i y H') (hn : H1 D = none)
    (turn : ∀ (i : Nat) (x : V) (H : Hp) (F : VK), xs[i]? = some x → Same H1 H → (∀ z H4, Y i z H4 → Same H H4 → F z H4) →
      g x (wipe σ vs) H fun σ2 H2 => wipe σ2 vs = wipe σ vs ∧ te σ2 H2 F)
    (hd : ∀ acc H, Same H1 H → H D = some (.lst acc) → acc.length = xs.length → (∀ i y, acc[i]? = some y → Y i y H) → Qd H) : LcGoal (Itt K a) g tYes te vs σ H1 D Qd := by
  refine lc_rel Y hY hn hsz (fun i H hi s => ?_) (fun H s => ?_) ?_ hd
  · exact ⟨_, _, same_seqT s ha, List.getElem?_eq_getElem hi⟩
  · exact ⟨_, same_seqT s ha, Nat.le_refl _⟩
  · rintro i x H H' F hi s ⟨e, qx⟩ kk
    rw [e]
    exact turn i x H F (qx _ (same_seqT s ha)) s kk
/-- .. over a list that no turn touches -/
theorem same_seqL {K : PySem.W.Frag} {H H' : Hp} {a : Addr} {xs : List V} (e : Same H H') (h : SqL K H a xs) : SqL K H' a xs := by
  rcases h with (q | ⟨o, q⟩) | ⟨o, q⟩
  · exact .inl (.inl (e _ _ q))
  · exact .inl (.inr ⟨o, e _ _ q⟩)
  · exact .inr ⟨o, q⟩
theorem lc_lst1 {g : TG} {te : TE} {vs : List Nat} {σ : L2.St} {H1 : Hp} {D : Addr} {Qd : Hp → Prop} {K : PySem.W.Frag} {a : Addr} {xs : List V} (ha : SqL K H1 a xs) (hsz : xs.length < sizeLine)
    (Y : Nat → V → Hp → Prop) (hY : ∀ i y H H', TK H H' → Y i y H → Y i y H') (hn : H1 D = none)
    (turn : ∀ (i : Nat) (x : V) (H : Hp) (F : VK), xs[i]? = some x → Same H1 H → (∀ z H4, Y i z H4 → Same H H4 → F z H4) →
      g x (wipe σ vs) H fun σ2 H2 => wipe σ2 vs = wipe σ vs ∧ te σ2 H2 F)
    (hd : ∀ acc H, Same H1 H → H D = some (.lst acc) → acc.length = xs.length → (∀ i y, acc[i]? = some y → Y i y H) → Qd H) : LcGoal (Itl K a) g tYes te vs σ H1 D Qd := by
  refine lc_rel Y hY hn hsz (fun i H hi s => ?_) (fun H s => ?_) ?_ hd
  · exact ⟨_, _, same_seqL s ha, List.getElem?_eq_getElem hi⟩
  · exact ⟨_, same_seqL s ha, Nat.le_refl _⟩
  · rintro i x H H' F hi s ⟨e, qx⟩ kk
    rw [e]
    exact turn i x H F (qx _ (same_seqL s ha)) s kk
/-- what a comprehension of truths comes to -/
theorem bools_are {acc : List V} {bs : List Bool} (hl : acc.length = bs.length) (h : ∀ (i : Nat) (y : V), acc[i]? = some y → bs[i]?.map V.bl = some y) : acc = bs.map V.bl := by
  refine List.ext_getElem? fun i => ?_
  rw [List.getElem?_map]
  by_cases hi : i < acc.length
  · rw [List.getElem?_eq_getElem hi, h i _ (List.getElem?_eq_getElem hi)]
  · rw [List.getElem?_eq_none (by omega), List.getElem?_eq_none (by omega)]
    rfl
end Hx
set_option maxHeartbeats 4000000
namespace K05
open PySem PySem.Spec PyProof.Rows L2 Hx RZ
/-! ### names -/
abbrev LET : Str := "abcdefghijklmnopqrstuvwxyz"
abbrev LED : Str := "abcdefghijklmnopqrstuvwxyz0123456789"
def nameS (x : Str) : Bool := decide (1 ≤ x.length) && decide (x.length ≤ 8) && (match x.cps.toList with
  | [] => false
  | c :: _ => decide (c ∈ LET.cps.toList)) && x.cps.toList.all fun c => decide (c ∈ LED.cps.toList)
theorem str_bool {a b : Bool} : V.bl a = V.bl b ↔ a = b := ⟨V.bl.inj, congrArg _⟩
theorem bools_of {acc : List V} {bs : List Bool} (hl : acc.length = bs.length) (h : ∀ (i : Nat) (y : V), acc[i]? = some y → bs[i]?.map V.bl = some y) : acc = bs.map V.bl := by
  refine List.ext_getElem? fun i => ?_
  rw [List.getElem?_map]
  by_cases hi : i < acc.length
  · rw [List.getElem?_eq_getElem hi, h i _ (List.getElem?_eq_getElem hi)]
  · rw [List.getElem?_eq_none (by omega), List.getElem?_eq_none (by omega)]
    rfl
section
variable {P : Program} {w : World} {K : PySem.W.Frag} {mg : Str → Option Value} {base : Heap}
def spName (f : Str → Bool) : Sp := fun vs H Q _ => ∃ x : Str, vs = [.str x] ∧ x.length ≤ 100000 ∧ ∀ H', Same H H' → Q (.bl (f x)) H'
theorem sc_is_name : FnScope ["value", "sign"] ["value"] (defScope sis_name) := ⟨rfl, rfl, rfl, by decide +kernel, rfl, by decide +kernel, by decide +kernel⟩
theorem ok_is_name (D : Dn K mg "is_name" sis_name) (h_isinstance : mg "isinstance" = none) (h_str : mg "str" = none) (h_len : mg "len" = none) (h_all : mg "all" = none) (c1 : ∃ t, mg "LETTERS" = some (.str LET t)) (c2 : ∃ t, mg "LETTERS_AND_DIGITS" = some (.str LED t)) (c3 : ∃ t, mg "LONGEST_NAME" = some (.int 8 t)) :
    Ok P w K mg base L2.CX0 1 "is_name" ["value"] (spName nameS) := by
  obtain ⟨_, gLETTERS⟩ := c1
  obtain ⟨_, gLETTERS_AND_DIGITS⟩ := c2
  obtain ⟨_, gLONGEST_NAME⟩ := c3
  refine Ok.mk0 D sc_is_name (fun vs H Q E h => ?_) (fun _ _ _ _ _ _ us hl => match us, hl with | [_], _ => rfl) (fun f cdv A outer s H vs Q E hr h => ?_)
  · obtain ⟨x, rfl, _⟩ := h
    rfl
  obtain ⟨x, rfl, hx, k⟩ := h
  have nd := sc_is_name.nd
  refine ⟨_, (pss_cons (ps_if (PW.pt (pw_or (pt_not (pt_val (pe_isD "str" rfl h_isinstance h_str (pv 0)))) (pw_or1 (pt_not (pt_chain op_le op_le pe_int (pe_callB call_len_str (by rfl) h_len (by decide +kernel) (pa_cons (pv 0) pa_nil)) (pe_glob (v := .int 8) rfl gLONGEST_NAME ⟨_, rfl⟩))))))
      (pss_one (ps_ret pe_bl))
      pss_nil)
    (pss_one (ps_ret (pe_and (pe_cmpR op_in_sign (pe_ix ix_str (pv 0) pe_int (fun _ _ => rfl)) (pe_glob (v := .str LET) rfl gLETTERS ⟨_, rfl⟩) (by rfl)) (pe_one (pe_callB (cr_all rfl) (by rfl) h_all (by decide +kernel) (pa_cons (pe_lc (own := [("sign", 1)]) (g := gName 1) (tt := tYes) rfl nd (pi_str (pv 0)) (blkOk_by (own := [("sign", 1)]) (N := ["value", "sign"]) (sc := defScope sis_name) (by decide +kernel)) (fun _ _ _ _ _ => pg_name (i := 1) nd rfl (Or.inl rfl)) (fun _ _ _ _ _ => pts_nil) (fun _ _ _ _ _ => (pe_cmpR op_in_sign (pv 1) (pe_glob (v := .str LED) rfl gLETTERS_AND_DIGITS ⟨_, rfl⟩) (by rfl)))) pa_nil))))))), ?_⟩
  refine ⟨_, rfl, .str x, .str x, true, rfl, ?_⟩
  refine iteF ?_
  have hsz : x.length ≤ sizeLine := by rw [sizeLine_eq]; omega
  have hcs : x.cps.toList.length = x.length := by simp [Str.length]
  have fal : nameS x = false → Q (.bl false) H := fun e => by
    have z := k H (Same.refl H)
    rw [e] at z
    exact z
  refine ⟨_, rfl, _, rfl, hsz, _, _, rfl, rfl, _, rfl, ?_⟩
  by_cases h1 : 1 ≤ (x.length : Int)
  · rw [decide_eq_true h1]
    refine iteT ⟨_, _, rfl, rfl, _, rfl, ?_⟩
    by_cases h8 : (x.length : Int) ≤ 8
    · rw [decide_eq_true h8]
      refine iteF ?_
      obtain ⟨c, r, hcr⟩ : ∃ c r, x.cps.toList = c :: r := by
        cases e : x.cps.toList with
        | nil => rw [e] at hcs; simp at hcs; omega
        | cons c r => exact ⟨c, r, rfl⟩
      have hnm : nameS x = (decide (c ∈ LET.cps.toList) && x.cps.toList.all fun c => decide (c ∈ LED.cps.toList)) := by
        unfold nameS
        rw [decide_eq_true (show 1 ≤ x.length by omega), decide_eq_true (show x.length ≤ 8 by omega), hcr]
        rfl
      refine ⟨_, rfl, x, 0, c, rfl, rfl, hsz, ?_, c, _, rfl, rfl, _, rfl, ?_⟩
      · have z := atI_nat (xs := x.cps.toList) (j := 0) (v := c) (by rw [hcr]; rfl)
        exact z
      by_cases hc : c ∈ LET.cps.toList
      · rw [decide_eq_true hc] at hnm ⊢
        refine iteT ⟨_, rfl, x, rfl, fun D hD => ?_⟩
        have n8 : x.cps.size ≤ 8 := by have := hcs; simp at this; omega
        refine lc_rel (n := x.cps.size) (J := Its x) (fun i y _ => (x.cps.toList.map fun c => decide (c ∈ LED.cps.toList))[i]?.map V.bl = some y) (fun _ _ _ _ _ h => h) hD (by rw [sizeLine_eq]; omega) (fun i H hi _ => hi) (fun H _ => Nat.le_refl _) ?_ ?_
        · rintro i y H1 H' F hi s1 ⟨rfl, c, hc, rfl⟩ kk
          refine ⟨rfl, _, rfl, c, _, rfl, rfl, kk _ _ ?_ (Same.refl _)⟩
          rw [List.getElem?_map, Array.getElem?_toList, hc]
          rfl
        · intro acc H1 s1 e hl hy
          have eb : acc = (x.cps.toList.map fun c => decide (c ∈ LED.cps.toList)).map V.bl := bools_of (by simp [hl]) hy
          subst eb
          refine ⟨D, _, rfl, SqL.of e, ?_⟩
          have z := k H1 s1
          rw [hnm, Bool.true_and] at z
          rw [List.all_map]
          exact z
      · rw [decide_eq_false hc] at hnm ⊢
        exact iteF (fal (by rw [hnm]; rfl))
    · rw [decide_eq_false h8]
      refine iteT (fal ?_)
      unfold nameS
      rw [decide_eq_false (show ¬ x.length ≤ 8 by omega)]
      simp
  · rw [decide_eq_false h1]
    refine iteF ⟨_, rfl, iteT (fal ?_)⟩
    unfold nameS
    rw [decide_eq_false (show ¬ 1 ≤ x.length by omega)]
    simp
/-! names in a tuple -/
def riseS (ns : List Str) : Bool := (ns.zip (ns.drop 1)).all fun p => decide (p.1.cps.toList < p.2.cps.toList)
def namesS (ns : List Str) : Bool := ns.all nameS && riseS ns
def Sm (ns : List Str) : Prop := ns.length ≤ 100000 ∧ ∀ x ∈ ns, x.length ≤ 100000
def spNames (K : PySem.W.Frag) (f : List Str → Bool) : Sp := fun vs H Q _ => ∃ (a : Addr) (ns : List Str), vs = [.ref a] ∧ SqT K H a (ns.map V.str) ∧ Sm ns ∧ ∀ H', Same H H' → Q (.bl (f ns)) H'
theorem strs_at {ns : List Str} {i : Nat} {x : V} (h : (ns.map V.str)[i]? = some x) : ∃ y, ns[i]? = some y ∧ x = .str y := by
  rw [List.getElem?_map] at h
  cases e : ns[i]? with
  | none => rw [e] at h; cases h
  | some y => rw [e] at h; exact ⟨y, rfl, (Option.some.inj h).symm⟩
theorem same_new {H : Hp} {a : Addr} {o : HO} (h : H a = none) : Same H (upd H a o) := fun b u e => by rw [upd_ne (ne_of_none e h)]; exact e
theorem sqT_eq {K : PySem.W.Frag} {H : Hp} {a : Addr} {xs ys : List V} (h : H a = some (.tup xs)) (q : SqT K H a ys) (nk : ∀ o, K.lookup a = some o → False) : ys = xs := by
  rcases q with (q | ⟨o, q⟩) | ⟨o, _, _, q, _⟩
  · rw [h] at q; cases q; rfl
  · rw [h] at q; cases q
  · exact (nk _ q).elim
theorem sc_are_names : FnScope ["value", "name", "one", "other"] ["value"] (defScope sare_names) := ⟨rfl, rfl, rfl, by decide +kernel, rfl, by decide +kernel, by decide +kernel⟩
theorem ok_are_names (D : Dn K mg "are_names" sare_names) (B : Ok P w K mg base L2.CX0 1 "is_name" ["value"] (spName nameS)) (h_isinstance : mg "isinstance" = none) (h_tuple : mg "tuple" = none) (h_all : mg "all" = none) (h_zip : mg "zip" = none) :
    Ok P w K mg base L2.CX0 2 "are_names" ["value"] (spNames K namesS) := by
  obtain ⟨_, _, g_is_name, k_is_name, b_is_name, F_is_name⟩ := B.ex
  refine Ok.mk0 D sc_are_names (fun vs H Q E h => ?_) (fun _ _ _ _ _ _ us hl => match us, hl with | [_], _ => rfl) (fun f cdv A outer s H vs Q E hr h => ?_)
  · obtain ⟨x, ns, rfl, _⟩ := h
    rfl
  obtain ⟨a, ns, rfl, ha, ⟨hl, hm⟩, k⟩ := h
  have nd := sc_are_names.nd
  refine ⟨_, (pss_cons (ps_if (PW.pt (pw_or (pt_not (pt_val (pe_isD "tuple" rfl h_isinstance h_tuple (pv 0)))) (pw_or1 (pt_not (pt_val (pe_callB (cr_all rfl) (by rfl) h_all (by decide +kernel) (pa_cons (pe_lc (own := [("name", 1)]) (g := gName 1) (tt := tYes) rfl nd (pi_tup (pv 0)) (blkOk_by (own := [("name", 1)]) (N := ["value", "name", "one", "other"]) (sc := defScope sare_names) (by decide +kernel)) (fun _ _ _ _ _ => pg_name (i := 1) nd rfl (Or.inl rfl)) (fun _ _ _ _ _ => pts_nil) (fun _ _ _ _ _ => (pe_call F_is_name hr rfl g_is_name k_is_name b_is_name .nil pass0 (pa_cons (pv 1) pa_nil)))) pa_nil)))))))
      (pss_one (ps_ret pe_bl))
      pss_nil)
    (pss_one (ps_ret (pe_callB (cr_all rfl) (by rfl) h_all (by decide +kernel) (pa_cons (pe_lc (own := [("one", 2), ("other", 3)]) (g := gTup K 2 (gCons (gName 2) (gCons (gName 3) gNil))) (tt := tYes) rfl nd (pi_zipA (by rfl) h_zip (pa_cons (pv 0) (pa_cons (pe_slice sl_tupA (pv 0) (po_some pe_int) po_none) pa_nil))) (blkOk_by (own := [("one", 2), ("other", 3)]) (N := ["value", "name", "one", "other"]) (sc := defScope sare_names) (by decide +kernel)) (fun _ _ _ _ _ => pg_tup (by rfl) (pgs_cons (pg_name (i := 2) nd rfl (Or.inl rfl)) (pgs_cons (pg_name (i := 3) nd rfl (Or.inl rfl)) pgs_nil))) (fun _ _ _ _ _ => pts_nil) (fun _ _ _ _ _ => (pe_cmpR op_lt_str (pv 2) (pv 3) (nomark _)))) pa_nil))))), ?_⟩
  refine ⟨_, rfl, .tuple (ns.map PyData.str), .tup ha (dpAll_strs ns), true, rfl, ?_⟩
  refine iteF ?_
  refine ⟨_, rfl, a, rfl, ⟨_, ha⟩, fun L hL => ?_⟩
  refine lc_rel (n := ns.length) (J := Itt K a) (fun i y _ => (ns.map nameS)[i]?.map V.bl = some y) (fun _ _ _ _ _ h => h) hL (by rw [sizeLine_eq]; omega) (fun i H1 hi s1 => ?_) (fun H1 s1 => ?_) ?_ ?_
  · exact ⟨_, _, same_seqT s1 ha, List.getElem?_eq_getElem (by simpa using hi)⟩
  · exact ⟨_, same_seqT s1 ha, by simp⟩
  · rintro i y H1 H' F hi s1 ⟨rfl, yx⟩ kk
    have e := yx _ (same_seqT s1 ha)
    obtain ⟨z, hz, rfl⟩ := strs_at e
    refine ⟨rfl, .str z, rfl, z, rfl, hm z (List.mem_of_getElem? hz), fun H4 s4 => kk _ _ ?_ s4⟩
    rw [List.getElem?_map, hz]
    rfl
  · intro acc H1 s1 e hacc hy
    have eb : acc = (ns.map nameS).map V.bl := bools_of (by simp [hacc]) hy
    subst eb
    refine ⟨L, _, rfl, SqL.of e, _, rfl, ?_⟩
    have ea : (ns.map nameS).all id = ns.all nameS := by rw [List.all_map]; rfl
    rw [ea]
    cases hall : ns.all nameS with
    | false =>
      refine iteT ?_
      have z := k H1 s1
      unfold namesS at z
      rw [hall] at z
      exact z
    | true =>
      refine iteF ?_
      refine ⟨_, rfl, _, rfl, _, rfl, ?_⟩
      show tNoPart _ _ _
      unfold tNoPart
      refine rSlA_any (same_seqT s1 ha) (cut_from 1) fun b H2 s2 hb => ?_
      rw [← List.map_drop] at hb
      refine ⟨a, b, _, _, rfl, .inr ⟨same_seqT (s1.trans s2) ha, hb, fun Z hZ => ?_⟩⟩
      refine lc_zip (same_seqT (s1.trans s2) ha) hb (by simp) (by rw [sizeLine_eq]; simp; omega) (fun i y _ => (((ns.zip (ns.drop 1)).map fun p => decide (p.1.cps.toList < p.2.cps.toList))[i]?.map V.bl) = some y) (fun _ _ _ _ _ h => h) hZ ?_ ?_
      · intro i x y T H3 H4 F hx hy s3 s4 hT kk
        obtain ⟨x, ex, rfl⟩ := strs_at hx
        obtain ⟨y, ey, rfl⟩ := strs_at hy
        refine ⟨T, _, rfl, SqT.of hT, rfl, _, _, rfl, _, _, rfl, ⟨rfl, rfl, _, rfl, _, rfl, _, _, rfl, rfl, ?_⟩⟩
        refine kk _ _ ?_ s4
        rw [List.getElem?_map, List.getElem?_zip_eq_some (z := (x, y)) |>.mpr ⟨ex, ey⟩]
        rfl
      · intro acc H3 s3 e3 hl3 hy3
        have eb : acc = ((ns.zip (ns.drop 1)).map fun p => decide (p.1.cps.toList < p.2.cps.toList)).map V.bl := bools_of (by simp [hl3]) hy3
        subst eb
        refine ⟨Z, _, rfl, SqL.of e3, ?_⟩
        have z := k H3 (s1.trans (s2.trans s3))
        unfold namesS riseS at z
        rw [hall, Bool.true_and] at z
        rw [List.all_map]
        exact z
end
end K05
set_option maxHeartbeats 4000000
namespace K05
open PySem PySem.Spec PyProof.Rows L2 Hx RZ
/-! ### taps, numbers, texts of numbers: the program -/
def tapsS (ns : List Str) : Bool := namesS ns && (decide (2 ≤ ns.length) && decide (ns.length ≤ 6))
abbrev natS (n : Int) : Str := Str.ofString (toString n)
def Num.text : Num → Str
  | .w i => natS i
  | .q t b => natS t ++ "/" ++ natS b
def Num.low30 (n : Num) : Prop := n.top.natAbs < 10 ^ 31 ∧ n.low.natAbs < 10 ^ 31
def Num.ok0 (n : Num) : Bool := n.ok && decide (0 ≤ n.top)
theorem log_small {n : Nat} (h : n < 10 ^ 31) : n.log2 < 1920 := by
  by_cases e : n = 0
  · subst e; decide
  · exact (Nat.log2_lt e).mpr (Nat.lt_trans h (by decide +kernel))
theorem natS_len {i : Int} (h0 : 0 ≤ i) (h : i < 10 ^ 31) : (natS i).length ≤ 31 := PyProof.Rows.toString_length_le h0 (by decide) h
theorem dle {a : Nat} {k : Nat} : decide ((k : Int) ≤ (a : Int)) = decide (k ≤ a) := by
  by_cases h : k ≤ a
  · rw [decide_eq_true h, decide_eq_true (by omega)]
  · rw [decide_eq_false h, decide_eq_false (by omega)]
theorem deq_int {i j : Int} : decide (V.int i = V.int j) = decide (i = j) := by
  by_cases q : i = j
  · rw [decide_eq_true q, decide_eq_true (congrArg V.int q)]
  · rw [decide_eq_false q, decide_eq_false (fun y => q (V.int.inj y))]
theorem deq_str {i j : Str} : decide (V.str i = V.str j) = decide (i = j) := by
  by_cases q : i = j
  · rw [decide_eq_true q, decide_eq_true (congrArg V.str q)]
  · rw [decide_eq_false q, decide_eq_false (fun y => q (V.str.inj y))]
section
variable {P : Program} {w : World} {K : PySem.W.Frag} {mg : Str → Option Value} {base : Heap}
theorem sc_are_taps : FnScope ["value"] ["value"] (defScope sare_taps) := ⟨rfl, rfl, rfl, by decide +kernel, rfl, by decide +kernel, by decide +kernel⟩
theorem ok_are_taps (D : Dn K mg "are_taps" sare_taps) (B : Ok P w K mg base L2.CX0 2 "are_names" ["value"] (spNames K namesS)) (h_len : mg "len" = none) (c1 : ∃ t, mg "FEWEST_TAPS" = some (.int 2 t)) (c2 : ∃ t, mg "MOST_TAPS" = some (.int 6 t)) :
    Ok P w K mg base L2.CX0 3 "are_taps" ["value"] (spNames K tapsS) := by
  obtain ⟨_, gFEWEST_TAPS⟩ := c1
  obtain ⟨_, gMOST_TAPS⟩ := c2
  obtain ⟨_, _, g_are_names, k_are_names, b_are_names, F_are_names⟩ := B.ex
  refine Ok.mk0 D sc_are_taps (fun vs H Q E h => ?_) (fun _ _ _ _ _ _ us hl => match us, hl with | [_], _ => rfl) (fun f cdv A outer s H vs Q E hr h => ?_)
  · obtain ⟨x, ns, rfl, _⟩ := h
    rfl
  obtain ⟨a, ns, rfl, ha, hm, k⟩ := h
  refine ⟨_, (pss_one (ps_ret (pe_and (pe_call F_are_names hr rfl g_are_names k_are_names b_are_names .nil pass0 (pa_cons (pv 0) pa_nil)) (pe_one (pe_chain op_le op_le (pe_glob (v := .int 2) rfl gFEWEST_TAPS ⟨_, rfl⟩) (pe_lenS rfl h_len (pv 0)) (pe_glob (v := .int 6) rfl gMOST_TAPS ⟨_, rfl⟩)))))), ?_⟩
  refine ⟨_, rfl, a, ns, rfl, ha, hm, fun H1 s1 => ⟨_, rfl, ?_⟩⟩
  have z := k H1 s1
  unfold tapsS at z
  cases hn : namesS ns with
  | false =>
    rw [hn] at z
    exact iteF z
  | true =>
    rw [hn, Bool.true_and] at z
    refine iteT ⟨_, rfl, a, _, rfl, .inr (same_seqT s1 ha), _, _, rfl, rfl, _, rfl, ?_⟩
    rw [List.length_map]
    by_cases h2 : 2 ≤ ns.length
    · rw [show decide (2 ≤ (ns.length : Int)) = true from decide_eq_true (by omega)]
      refine iteT ⟨_, _, rfl, rfl, ?_⟩
      rw [decide_eq_true h2, Bool.true_and] at z
      rw [← dle] at z
      exact z
    · rw [show decide (2 ≤ (ns.length : Int)) = false from decide_eq_false (by omega)]
      rw [decide_eq_false h2] at z
      exact iteF z
/-! whole -/
def isW (d : PyData) : Bool := isTy (tagOf d) "int" && !isTy (tagOf d) "bool"
def spWhole (K : PySem.W.Frag) : Sp := fun vs H Q _ => ∃ (v : V) (d : PyData), vs = [v] ∧ Dp K H v d ∧ Q (.bl (isW d)) H
theorem sc_is_whole : FnScope ["value"] ["value"] (defScope sis_whole) := ⟨rfl, rfl, rfl, by decide +kernel, rfl, by decide +kernel, by decide +kernel⟩
theorem ok_is_whole (D : Dn K mg "is_whole" sis_whole) (h_isinstance : mg "isinstance" = none) (h_int : mg "int" = none) (h_bool : mg "bool" = none) :
    Ok P w K mg base L2.CX0 1 "is_whole" ["value"] (spWhole K) := by
  refine Ok.mk0 D sc_is_whole (fun vs H Q E h => ?_) (fun _ _ _ _ _ _ us hl => match us, hl with | [_], _ => rfl) (fun f cdv A outer s H vs Q E hr h => ?_)
  · obtain ⟨x, ns, rfl, _⟩ := h
    rfl
  obtain ⟨v, d, rfl, hd, k⟩ := h
  refine ⟨_, (pss_one (ps_ret (pe_and (pe_isD "int" rfl h_isinstance h_int (pv 0)) (pe_one (pe_not (pe_isD "bool" rfl h_isinstance h_bool (pv 0))))))), ?_⟩
  refine ⟨_, rfl, d, hd, _, rfl, ?_⟩
  unfold isW at k
  cases e : isTy (tagOf d) "int" with
  | false =>
    rw [e] at k
    exact iteF k
  | true =>
    rw [e, Bool.true_and] at k
    exact iteT ⟨_, rfl, d, hd, _, rfl, k⟩
/-! number -/
theorem sc_is_number : FnScope ["value", "top", "bottom"] ["value"] (defScope sis_number) := ⟨rfl, rfl, rfl, by decide +kernel, rfl, by decide +kernel, by decide +kernel⟩
theorem ok_is_number (D : Dn K mg "is_number" sis_number) (B : Ok P w K mg base L2.CX0 1 "is_whole" ["value"] (spWhole K)) (h_isinstance : mg "isinstance" = none) (h_tuple : mg "tuple" = none) (h_len : mg "len" = none) (g_gcd : mg "gcd" = some (.builtin "math.gcd")) :
    Ok P w K mg base L2.CX0 2 "is_number" ["value"] (spIsNum K) := by
  obtain ⟨_, _, g_is_whole, k_is_whole, b_is_whole, F_is_whole⟩ := B.ex
  refine Ok.mk0 D sc_is_number (fun vs H Q E h => ?_) (fun _ _ _ _ _ _ us hl => match us, hl with | [_], _ => rfl) (fun f cdv A outer s H vs Q E hr h => ?_)
  · obtain ⟨x, ns, rfl, _⟩ := h
    rfl
  obtain ⟨v, n, rfl, hn, k⟩ := h
  have nd := sc_is_number.nd
  refine ⟨_, (pss_cons (ps_if (pt_val (pe_call F_is_whole hr rfl g_is_whole k_is_whole b_is_whole .nil pass0 (pa_cons (pv 0) pa_nil)))
      (pss_one (ps_ret pe_bl))
      pss_nil)
    (pss_cons (ps_if (PW.pt (pw_or (pt_not (pt_val (pe_isD "tuple" rfl h_isinstance h_tuple (pv 0)))) (pw_or1 (pt_cmpR op_ne (pe_lenS rfl h_len (pv 0)) pe_int (nomark _)))))
      (pss_one (ps_ret pe_bl))
      pss_nil)
    (pss_cons (ps_asg (pv 0) (pg_tup (by rfl) (pgs_cons (pg_name (i := 1) nd rfl (Or.inl rfl)) (pgs_cons (pg_name (i := 2) nd rfl (Or.inl rfl)) pgs_nil))))
    (pss_one (ps_ret (pe_and (pe_call F_is_whole hr rfl g_is_whole k_is_whole b_is_whole .nil pass0 (pa_cons (pv 1) pa_nil)) (pe_and (pe_call F_is_whole hr rfl g_is_whole k_is_whole b_is_whole .nil pass0 (pa_cons (pv 2) pa_nil)) (pe_and (pe_cmpR op_ge (pv 2) pe_int (nomark _)) (pe_one (pe_cmpR op_eq (pe_callBfun cr_gcd (by rfl) g_gcd (pa_cons (pv 1) (pa_cons (pv 2) pa_nil))) pe_int (nomark _))))))))))), ?_⟩
  cases n with
  | w i =>
    obtain rfl : v = .int i := hn
    exact ⟨_, rfl, .int i, .int i, rfl, .int i, _, rfl, iteT (k H (Same.refl H))⟩
  | q t b =>
    have hn' := hn.dt.dp
    obtain ⟨a, rfl, ha⟩ := hn
    refine ⟨_, rfl, .ref a, .tuple [.int t, .int b], rfl, hn', _, rfl, iteF ?_⟩
    refine ⟨_, rfl, .tuple [.int t, .int b], hn', true, rfl, iteF ?_⟩
    refine ⟨_, rfl, a, _, rfl, .inr ha, rfl, _, rfl, iteF ?_⟩
    refine ⟨_, rfl, a, _, rfl, ha, rfl, _, _, rfl, _, _, rfl, rfl, ?_⟩
    refine ⟨_, rfl, .int t, .int t, rfl, .int t, _, rfl, iteT ?_⟩
    refine ⟨_, rfl, .int b, .int b, rfl, .int b, _, rfl, iteT ?_⟩
    have ek : Num.ok (.q t b) = (decide (2 ≤ b) && decide ((Nat.gcd t.natAbs b.natAbs : Int) = 1)) := rfl
    refine ⟨_, rfl, _, _, rfl, rfl, _, rfl, ?_⟩
    have z := k _ (Same.refl H)
    rw [ek] at z
    by_cases h2 : 2 ≤ b
    · rw [decide_eq_true h2] at z ⊢
      rw [Bool.true_and, ← deq_int] at z
      refine iteT ⟨_, rfl, _, rfl, t, b, rfl, rfl, z⟩
    · rw [decide_eq_false h2] at z ⊢
      exact iteF z
/-! its top; from 0 on -/
theorem sc_top_of : FnScope ["value"] ["value"] (defScope stop_of) := ⟨rfl, rfl, rfl, by decide +kernel, rfl, by decide +kernel, by decide +kernel⟩
theorem ok_top_of (D : Dn K mg "top_of" stop_of) (h_isinstance : mg "isinstance" = none) (h_tuple : mg "tuple" = none) : Ok P w K mg base L2.CX0 1 "top_of" ["value"] (spTop K Num.top) := by
  refine Ok.mk0 D sc_top_of (fun vs H Q E h => ?_) (fun _ _ _ _ _ _ us hl => match us, hl with | [_], _ => rfl) (fun f cdv A outer s H vs Q E hr h => ?_)
  · obtain ⟨x, ns, rfl, _⟩ := h
    rfl
  obtain ⟨v, n, rfl, hn, k⟩ := h
  refine ⟨_, (pss_one (ps_ret (pe_ifExp (pt_val (pe_isD "tuple" rfl h_isinstance h_tuple (pv 0))) (pe_ix ix_tup (pv 0) pe_int (fun _ _ => rfl)) (pv 0)))), ?_⟩
  cases n with
  | w i =>
    obtain rfl : v = .int i := hn
    exact ⟨_, rfl, .int i, .int i, _, rfl, iteF ⟨_, rfl, k⟩⟩
  | q t b =>
    have hn' := hn.dt.dp
    obtain ⟨a, rfl, ha⟩ := hn
    exact ⟨_, rfl, .tuple [.int t, .int b], hn', _, rfl, iteT ⟨_, rfl, a, _, 0, _, rfl, rfl, ha, rfl, k⟩⟩
theorem sc_is_number_from_0 : FnScope ["value"] ["value"] (defScope sis_number_from_0) := ⟨rfl, rfl, rfl, by decide +kernel, rfl, by decide +kernel, by decide +kernel⟩
def spIsNum0 (K : PySem.W.Frag) : Sp := fun vs H Q _ => ∃ (v : V) (n : Num), vs = [v] ∧ NumAt K H v n ∧ ∀ H', Same H H' → Q (.bl n.ok0) H'
theorem ok_is_number_from_0 (D : Dn K mg "is_number_from_0" sis_number_from_0) (B1 : Ok P w K mg base L2.CX0 2 "is_number" ["value"] (spIsNum K)) (B2 : Ok P w K mg base L2.CX0 1 "top_of" ["value"] (spTop K Num.top)) : Ok P w K mg base L2.CX0 3 "is_number_from_0" ["value"] (spIsNum0 K) := by
  obtain ⟨_, _, g_is_number, k_is_number, b_is_number, F_is_number⟩ := B1.ex
  obtain ⟨_, _, g_top_of, k_top_of, b_top_of, F_top_of⟩ := B2.ex
  refine Ok.mk0 D sc_is_number_from_0 (fun vs H Q E h => ?_) (fun _ _ _ _ _ _ us hl => match us, hl with | [_], _ => rfl) (fun f cdv A outer s H vs Q E hr h => ?_)
  · obtain ⟨x, ns, rfl, _⟩ := h
    rfl
  obtain ⟨v, n, rfl, hn, k⟩ := h
  refine ⟨_, (pss_one (ps_ret (pe_and (pe_call F_is_number hr rfl g_is_number k_is_number b_is_number .nil pass0 (pa_cons (pv 0) pa_nil)) (pe_one (pe_cmpR op_ge (pe_call F_top_of (hr.mono (by decide)) rfl g_top_of k_top_of b_top_of .nil pass0 (pa_cons (pv 0) pa_nil)) pe_int (nomark _)))))), ?_⟩
  refine ⟨_, rfl, v, n, rfl, hn, fun H1 s1 => ⟨_, rfl, ?_⟩⟩
  have z := k H1 s1
  unfold Num.ok0 at z
  cases e : n.ok with
  | false =>
    rw [e] at z
    exact iteF z
  | true =>
    rw [e, Bool.true_and] at z
    exact iteT ⟨_, rfl, v, n, rfl, hn.keep (.of s1), _, _, rfl, rfl, z⟩
/-! the text of a number -/
def spNumText (K : PySem.W.Frag) : Sp := fun vs H Q _ => ∃ (v : V) (n : Num), vs = [v] ∧ NumAt K H v n ∧ 0 ≤ n.top ∧ n.top < 10 ^ 31 ∧ 0 ≤ n.low ∧ n.low < 10 ^ 31 ∧ Q (.str n.text) H
end
end K05
set_option maxHeartbeats 4000000
/-! ### sets of texts: set(list), set(tuple), sorted(set) -/
namespace Hx
open PySem PySem.Spec PyProof.Rows L2 PySem.Froz
/-- the walk over the set is told -/
def Told (w : World) (t : SetTable) : Prop := w.params.followText "set-order" = true ∨ t.led = true
/-- the set at a holds just the texts l, each once -/
def TxR (P : Program) (w : World) (h : Heap) (a : Addr) (l : List Str) : Prop :=
  ∃ D : SD, h.get? a = some (sObj "set" D) ∧ TxOk P w D l ∧ l.Nodup ∧ Ris D.2.2.place.toList ∧ Told w D.2.2
theorem TxR.at {P : Program} {w : World} {h h' : Heap} {a : Addr} {l : List Str} (R : TxR P w h a l) (k : ∀ o, h.get? a = some o → h'.get? a = some o) : TxR P w h' a l := by
  obtain ⟨D, e, r⟩ := R
  exact ⟨D, k _ e, r⟩
theorem told_add {w : World} {D : SD} {x : Int} {v : Value} (r : Ris D.2.2.place.toList) (q : Told w D.2.2) : Ris (addTx x v D).2.2.place.toList ∧ Told w (addTx x v D).2.2 := by
  obtain ⟨es, ep, t⟩ := D
  have r1 := layNew_ris t es x v r
  have l1 := layNew_led t es x v
  have q1 : Told w (layNew t es x v).2.1 := q.imp id fun z => by rw [l1]; exact z
  unfold addTx
  generalize layNew t es x v = Z at r1 q1
  obtain ⟨es1, t1, wd, gv⟩ := Z
  dsimp only at r1 q1 ⊢
  have both : ∀ t2 : SetTable, t2.place = t1.place → t2.led = t1.led → Ris (tailTx ep es1 t2 wd).2.2.place.toList ∧ Told w (tailTx ep es1 t2 wd).2.2 := fun t2 p2 l2 => by
    have r2 : Ris t2.place.toList := by rw [p2]; exact r1
    have q2 : Told w t2 := q1.imp id fun z => by rw [l2]; exact z
    unfold tailTx
    split
    · exact ⟨relayAll_ris t2 es1 _, q2.imp id fun z => by rw [relayAll_led t2 es1 _]; exact z⟩
    · exact ⟨r2, q2⟩
  split
  · exact both _ rfl rfl
  · exact both _ rfl rfl
section
variable {P : Program} {w : World} {A : Around} {E : Value → Shared → Prop} {s : Shared}
/-- a text that is in -/
theorem had_x {a : Addr} {T : String} {D : SD} {l : List Str} {y : Str} {u : Tok} {Q : Bool → Shared → Prop} (ho : s.heap.get? a = some (sObj T D)) (F : TxOk P w D l) (hy : y ∈ l) (hb : l.length < scanBound) (h : Q false s) :
    wpAny (model P w) A (setAddHashed a (.str y u) (hashStr w y)) Q E s := by
  obtain ⟨arr, c0, tb⟩ := D
  have nb : arr.size < scanBound := by rw [F.sz]; exact hb
  obtain ⟨e0, me, qe⟩ := (F.mem y).mp hy
  unfold setAddHashed setAddHashedIn
  refine wpAny_holding (wpAny_bind (wpAny_setState_of ho rfl F.fit ?_))
  dsimp only
  rw [byScan_of rfl nb F.el]
  simp only [↓reduceIte]
  unfold setAddByScan
  refine wpAny_bind (wpAny_bind (wpAny_rule (wpAny_bind (wpAny_setScan_of (knd := strKind P w) (k := y) (is_str y u) ho rfl F.fit F.el ?_))))
  cases hf : List.findIdx? (fun e => (strKind P w).is y e.2) arr.toList with
  | none =>
    have c := List.findIdx?_eq_none_iff.mp hf e0 me
    rw [qe] at c
    cases c
  | some j =>
    dsimp only
    exact wpAny_pure (wpAny_pure h)
/-- a text more -/
theorem addR {a : Addr} {l : List Str} {y : Str} {u : Tok} {Q : Bool → Shared → Prop} (R : TxR P w s.heap a l) (hb : l.length + 1 < scanBound)
    (h : ∀ b h' l', Heap.SameBut a s.heap h' → TxR P w h' a l' → (∀ z, z ∈ l' ↔ z = y ∨ z ∈ l) → l'.length ≤ l.length + 1 → Q b { s with heap := h' }) :
    wpAny (model P w) A (setAddHashed a (.str y u) (hashStr w y)) Q E s := by
  obtain ⟨D, ho, F, nd, r, q⟩ := R
  by_cases hy : y ∈ l
  · exact had_x ho F hy (by omega) (h false s.heap l (Heap.SameBut.refl a s.heap) ⟨D, ho, F, nd, r, q⟩ (fun z => ⟨.inr, fun e => e.elim (fun e => e ▸ hy) id⟩) (Nat.le_succ _))
  · refine add_x ho F hy hb (h true _ (y :: l) (Heap.SameBut.update s.heap a _) ⟨_, get_upd _ ho rfl, add_ok u F, List.nodup_cons.mpr ⟨hy, nd⟩, told_add r q⟩ (fun z => List.mem_cons) (by simp))
theorem fresh_tx {h : Heap} {a : Addr} (ho : h.get? a = some { cls := .type "set", dict := none, data := .set #[] 0 (.fresh 0 0 (!w.params.followText "set-order")) }) : TxR P w h a [] :=
  ⟨(#[], 0, .fresh 0 0 (!w.params.followText "set-order")), ho, TxOk.nil (by rfl), .nil, List.Pairwise.nil, by
    show _ ∨ (!w.params.followText "set-order") = true
    cases w.params.followText "set-order" <;> simp⟩
/-- the adds of all that an iterator gives -/
theorem update_tx {I : Addr} {fp wr : List Addr} {G : Array GenState → Array GenState → Prop} {n : Nat} {Pv : Nat → Value → Prop} {St : Nat → Shared → Prop} {R : Result → Shared → Prop}
    (W : WalksS P w A.in1 I fp wr G n Pv St) (Z : Addr) (hZ : Z ∉ fp) (xs : List Str) (hn : n = xs.length) (hb : xs.length + 1 < scanBound) (hv : ∀ i v, Pv i v → ∃ x t, xs[i]? = some x ∧ v = .str x t) :
    ∀ (m i : Nat) (s : Shared) (l : List Str), n - i = m → i ≤ n → St i s → TxR P w s.heap Z l → (∀ z, z ∈ l ↔ z ∈ xs.take i) → l.length ≤ i →
      (∀ s' l', Moved (Z :: wr) G s s' → TxR P w s'.heap Z l' → (∀ z, z ∈ l' ↔ z ∈ xs) → l'.length ≤ n → R (.ok (.ret .none)) s') →
      codeAny (model P w) A (.builtin "set.update.loop" ⟨[.ref Z, .ref I], []⟩) R s := by
  have nw : Z ∉ wr := fun q => hZ (W.sub _ q)
  have up : ∀ b ∈ wr, b ∈ Z :: wr := fun b => List.mem_cons_of_mem _
  intro m
  induction m with
  | zero =>
    intro i s l e0 hi st T hl ln k
    obtain rfl : i = n := by omega
    refine codeAny_builtin F.entry_set_update_loop ?_
    rw [Around.under_plainId F.plain_set_update_loop _]
    refine wpAny_bind (m := pyNext (.ref I)) (W.done s _ _ st fun s1 mv => ?_)
    show wpAny _ A.in1 (ret .none) _ _ s1
    refine wpAny_pure (k s1 l (mv.mono up) (T.at fun o => mv.heap Z o nw) (fun z => ?_) ln)
    rw [hl, List.take_of_length_le (by omega)]
  | succ m ih =>
    intro i s l e0 hi st T hl ln k
    have lt : i < n := by omega
    refine codeAny_builtin F.entry_set_update_loop ?_
    rw [Around.under_plainId F.plain_set_update_loop _]
    refine wpAny_bind (m := pyNext (.ref I)) (W.item i s _ _ lt st fun v s1 pv st1 mv => ?_)
    obtain ⟨x, t, hx, rfl⟩ := hv i v pv
    refine wpAny_bind (m := holding [Value.str x t] (setAdd Z (.str x t))) (wpAny_holding ?_)
    unfold setAdd
    refine wpAny_holding (wpAny_bind ((strKind P w).pyHash (k := x) (is_str x t) ?_))
    refine addR (s := { s1 with toks := s1.toks + 1 }) (T.at fun o => mv.heap Z o nw) (by omega) fun b h2 l2 sb T2 m2 n2 => ?_
    refine wpAny_pure ⟨plainId_quiet F.plain_set_update_loop _, ih (i + 1) _ l2 (by omega) lt (W.frame _ s1 _ _ st1 (Nat.le_succ _) fun c hc o e => ?_) T2 (fun z => ?_) (by omega) fun s3 l3 mv3 T3 m3 n3 => k s3 l3 (Moved.trans W.gtrans ((mv.mono up).then_heap (Nat.le_succ _) fun c o nc e => ?_) mv3) T3 m3 n3⟩
    · rw [sb.2 c (fun q => hZ (q ▸ hc))]
      exact e
    · rw [m2, hl, List.take_add_one, hx, List.mem_append]
      simp [or_comm]
    · rw [sb.2 c (fun q => nc (q ▸ List.mem_cons_self))]
      exact e
abbrev newSet (w : World) : Obj := { cls := .type "set", dict := none, data := .set #[] 0 (.fresh 0 0 (!w.params.followText "set-order")) }
set_option maxHeartbeats 8000000 in
/-- set(v), by what its __init__ does -/
theorem call_set_by {v : Value} {Q : Value → Shared → Prop} (Good : Shared → Prop)
    (hi : ∀ A' : Around, A'.handled = A.handled → codeAny (model P w) A' (.call (.builtin "set.__init__") ⟨[.ref s.heap.objs.size, v], []⟩) (wants (fun r s2 => r = .none ∧ Good s2) E) { s with heap := s.heap.push (newSet w) })
    (k : ∀ s2, Good s2 → Q (.ref s.heap.objs.size) s2) : wpAny (model P w) A (call (.type "set") [v]) Q E s := by
  have am := F.called_set.made
  have as := F.called_set.sub
  have an := F.called_set.notType
  have ac := F.called_set.canCreate
  have at1 := F.typeCall_set_1 v
  obtain ⟨cx, tl, mro⟩ := F.called_set.mro
  refine wpAny_call (codeAny_of_tree ?_)
  show wpAny _ _ (callAny (.type "set") _) _ _ s
  refine wpAny_pure ⟨Code.quiet_builtin _ (by decide +kernel), codeAny_builtin F.entry_type_call ?_⟩
  rw [Around.under_plain (weight_type_call_type "set" [v] []) rfl]
  repeat (any_goals (first | assumption | wp_step))
  refine codeAny_mono (code_set_led1 v (E := E) (Q₁ := fun x s₁ => x = .ref s.heap.objs.size ∧ s₁ = { s with heap := s.heap.push (newSet w) }) ⟨rfl, rfl⟩) fun r s₁ d => ?_
  match r, d with
  | .error _, d => exact d
  | .ok (.ret x), d =>
    obtain ⟨rfl, rfl⟩ := d
    have ob : (s.heap.push (newSet w)).get? s.heap.objs.size = some (newSet w) := Heap.get?_push_size _ rfl
    have ty : Shared.TypeIs { s with heap := s.heap.push (newSet w) } (.ref s.heap.objs.size) "set" := ⟨_, ob, rfl⟩
    have il := F.called_set.init.lookup
    have ib := F.called_set.init.bind (.ref s.heap.objs.size)
    repeat (any_goals (first | assumption | wp_step))
    refine codeAny_mono (hi A.in1 rfl) fun r2 s2 d2 => ?_
    match r2, d2 with
    | .error _, d2 => exact d2
    | .ok (.ret y), d2 =>
      obtain ⟨rfl, g⟩ := d2
      repeat (any_goals (first | assumption | wp_step))
      exact k _ g
    | .ok .brk, d2 => exact d2.elim
    | .ok .cont, d2 => exact d2.elim
    | .ok .next, d2 => exact d2.elim
  | .ok .brk, d => exact d.elim
  | .ok .cont, d => exact d.elim
  | .ok .next, d => exact d.elim
theorem str_val {its : Array Value} {xs : List Str} (hs : StrsAre its.toList xs) : ∀ (i : Nat) (v : Value), its[i]? = some v → ∃ x t, xs[i]? = some x ∧ v = .str x t := fun i v e => by
  obtain ⟨x, t, e1, e2⟩ := hs.item i v (by rw [Array.getElem?_toList]; exact e)
  exact ⟨x, t, e2, e1⟩
/-- what set(v) leaves -/
def Made (P : Program) (w : World) (s : Shared) (xs : List Str) (s2 : Shared) : Prop :=
  ∃ (g : Heap) (k : Nat) (l : List Str), s2 = { s with heap := g, toks := k } ∧ TxR P w g s.heap.objs.size l ∧ (∀ z, z ∈ l ↔ z ∈ xs) ∧ l.length ≤ xs.length ∧ ∀ b o, s.heap.get? b = some o → g.get? b = some o
theorem made_end {xs : List Str} {s' : Shared} {l : List Str} {it : Obj} {n : Nat} (mv : Moved (s.heap.objs.size :: [(s.heap.push (newSet w)).objs.size]) (fun a b => b = a) { s with heap := (s.heap.push (newSet w)).push it } s')
    (T : TxR P w s'.heap s.heap.objs.size l) (m : ∀ z, z ∈ l ↔ z ∈ xs) (hl : l.length ≤ n) (hn : n = xs.length) : Made P w s xs s' := by
  have eg : s'.gens = s.gens := mv.gens
  have ed : s'.drawn = s.drawn := mv.drawn
  have eo : s'.os = s.os := mv.os
  obtain ⟨g, ge, dr, tk, os⟩ := s'
  simp only at eg ed eo
  subst eg ed eo
  refine ⟨g, tk, l, rfl, T, m, by omega, fun b o e => ?_⟩
  have lt := Heap.lt_size e
  refine mv.heap b o (fun q => ?_) (Heap.get?_push_of_some _ (Heap.get?_push_of_some _ e))
  rw [Heap.size_push] at q
  simp only [List.mem_cons, List.mem_singleton, List.not_mem_nil, or_false] at q
  rcases q with q | q
  · exact Nat.lt_irrefl _ (q ▸ lt)
  · exact Nat.lt_irrefl _ (Nat.lt_of_lt_of_le (q ▸ lt) (Nat.le_succ _))
set_option maxHeartbeats 8000000 in
theorem init_tupS {p : Addr} {its : Array Value} (xs : List Str) (hh : A.handled = none) (hp : s.heap.IsTuple p its) (hs : StrsAre its.toList xs) (hb : xs.length + 1 < scanBound) :
    codeAny (model P w) A (.call (.builtin "set.__init__") ⟨[.ref s.heap.objs.size, .ref p], []⟩) (wants (fun r s2 => r = .none ∧ Made P w s xs s2) E) { s with heap := s.heap.push (newSet w) } := by
  have ne : its.size = xs.length := by have q := hs.length; rwa [Array.length_toList] at q
  have ob : (s.heap.push (newSet w)).get? s.heap.objs.size = some (newSet w) := Heap.get?_push_size _ rfl
  refine codeAny_call_builtin F.called_set.init.plain F.entry_set_init (check_set_init_1 ⟨_, ob, rfl⟩ ?_)
  obtain ⟨⟨cl, dc, da, sl⟩, ho, ec, nn, ed⟩ := hp
  simp only at ec ed
  subst ec ed
  have ho2 : (s.heap.push (newSet w)).get? p = some { cls := .type "tuple", dict := dc, data := .seq its nn, slots := sl } := Heap.get?_push_of_some _ ho
  have pt : (s.heap.push (newSet w)).IsTuple p its := ⟨_, ho2, rfl, nn, rfl⟩
  have n1 := F.sub_tuple_set
  have n2 := F.sub_tuple_frozenset
  have n3 : (Value.type "tuple" == Value.type "dict") = false := by decide
  unfold Builtin.«set.__init__» noKeywords Builtin.Frozenset.updateFrom
  generalize hI : pyIter = PI
  wp_walk
  subst hI
  refine wpAny_pyIter_tuple pt (wpAny_bind (wpAny_runValue ?_))
  have lp : p < s.heap.objs.size := Heap.lt_size ho
  have np : p ≠ (s.heap.push (newSet w)).objs.size := by rw [Heap.size_push]; exact Nat.ne_of_lt (Nat.lt_succ_of_lt lp)
  have hZ : s.heap.objs.size ∉ [(s.heap.push (newSet w)).objs.size, p] := by
    rw [Heap.size_push]
    simp only [List.mem_cons, List.not_mem_nil, or_false, not_or]
    exact ⟨fun q => Nat.lt_irrefl _ (Nat.lt_of_lt_of_le (Nat.lt_succ_self _) (Nat.le_of_eq q.symm)), fun q => Nat.lt_irrefl _ (Nat.lt_of_le_of_lt (Nat.le_of_eq q) lp)⟩
  refine update_tx ((Walks.tuple (by simpa using hh) _ p np its).toS) s.heap.objs.size hZ xs ne hb (str_val hs) (its.size - 0) 0 _ [] rfl (Nat.zero_le _) ⟨⟨_, Heap.get?_push_size _ rfl, rfl, rfl⟩, pt.push _⟩ (fresh_tx (Heap.get?_push_of_some _ ob)) (fun z => by simp) (Nat.le_refl 0) fun s3 l3 mv T m3 n3 => ?_
  exact wpAny_pure (wpAny_pure ⟨rfl, made_end mv T m3 n3 ne⟩)
theorem call_set_tupS {p : Addr} {its : Array Value} (xs : List Str) {Q : Value → Shared → Prop} (hh : A.handled = none) (hp : s.heap.IsTuple p its) (hs : StrsAre its.toList xs) (hb : xs.length + 1 < scanBound)
    (k : ∀ s2, Made P w s xs s2 → Q (.ref s.heap.objs.size) s2) : wpAny (model P w) A (call (.type "set") [.ref p]) Q E s :=
  call_set_by (Made P w s xs) (fun A' e => init_tupS xs (e.trans hh) hp hs hb) k
set_option maxHeartbeats 8000000 in
theorem init_listS {p : Addr} {its : Array Value} (xs : List Str) (hh : A.handled = none) (hp : s.heap.IsList p its) (hs : StrsAre its.toList xs) (hb : xs.length + 1 < scanBound) :
    codeAny (model P w) A (.call (.builtin "set.__init__") ⟨[.ref s.heap.objs.size, .ref p], []⟩) (wants (fun r s2 => r = .none ∧ Made P w s xs s2) E) { s with heap := s.heap.push (newSet w) } := by
  have ne : its.size = xs.length := by have q := hs.length; rwa [Array.length_toList] at q
  have ob : (s.heap.push (newSet w)).get? s.heap.objs.size = some (newSet w) := Heap.get?_push_size _ rfl
  refine codeAny_call_builtin F.called_set.init.plain F.entry_set_init (check_set_init_1 ⟨_, ob, rfl⟩ ?_)
  obtain ⟨⟨cl, dc, da, sl⟩, ho, ec, nn, ed⟩ := hp
  simp only at ec ed
  subst ec ed
  have ho2 : (s.heap.push (newSet w)).get? p = some { cls := .type "list", dict := dc, data := .seq its nn, slots := sl } := Heap.get?_push_of_some _ ho
  have pt : (s.heap.push (newSet w)).IsList p its := ⟨_, ho2, rfl, nn, rfl⟩
  have n1 := F.sub_list_set
  have n2 := F.sub_list_frozenset
  have n3 : (Value.type "list" == Value.type "dict") = false := by decide
  unfold Builtin.«set.__init__» noKeywords Builtin.Frozenset.updateFrom
  generalize hI : pyIter = PI
  wp_walk
  subst hI
  refine wpAny_pyIter_list pt (wpAny_bind (wpAny_runValue ?_))
  have lp : p < s.heap.objs.size := Heap.lt_size ho
  have np : p ≠ (s.heap.push (newSet w)).objs.size := by rw [Heap.size_push]; exact Nat.ne_of_lt (Nat.lt_succ_of_lt lp)
  have hZ : s.heap.objs.size ∉ [(s.heap.push (newSet w)).objs.size, p] := by
    rw [Heap.size_push]
    simp only [List.mem_cons, List.not_mem_nil, or_false, not_or]
    exact ⟨fun q => Nat.lt_irrefl _ (Nat.lt_of_lt_of_le (Nat.lt_succ_self _) (Nat.le_of_eq q.symm)), fun q => Nat.lt_irrefl _ (Nat.lt_of_le_of_lt (Nat.le_of_eq q) lp)⟩
  refine update_tx ((Walks.list (by simpa using hh) _ p np its).toS) s.heap.objs.size hZ xs ne hb (str_val hs) (its.size - 0) 0 _ [] rfl (Nat.zero_le _) ⟨⟨_, Heap.get?_push_size _ rfl, rfl, rfl⟩, pt.push _⟩ (fresh_tx (Heap.get?_push_of_some _ ob)) (fun z => by simp) (Nat.le_refl 0) fun s3 l3 mv T m3 n3 => ?_
  exact wpAny_pure (wpAny_pure ⟨rfl, made_end mv T m3 n3 ne⟩)
theorem call_set_lstS {p : Addr} {its : Array Value} (xs : List Str) {Q : Value → Shared → Prop} (hh : A.handled = none) (hp : s.heap.IsList p its) (hs : StrsAre its.toList xs) (hb : xs.length + 1 < scanBound)
    (k : ∀ s2, Made P w s xs s2 → Q (.ref s.heap.objs.size) s2) : wpAny (model P w) A (call (.type "set") [.ref p]) Q E s :=
  call_set_by (Made P w s xs) (fun A' e => init_listS xs (e.trans hh) hp hs hb) k
end
end Hx
set_option maxHeartbeats 4000000
/-! ### sorted(set of texts), and the rules -/
namespace Hx
open PySem PySem.Spec PyProof.Rows L2 PySem.Froz
theorem perm_of_sub {α : Type} [BEq α] [LawfulBEq α] : ∀ {l m : List α}, l.Nodup → (∀ x ∈ l, x ∈ m) → m.length ≤ l.length → l.Perm m
  | [], m, _, _, h => by
    have : m = [] := List.length_eq_zero_iff.mp (Nat.le_zero.mp h)
    rw [this]
  | x :: l, m, nd, sub, h => by
    have nx := (List.nodup_cons.mp nd).1
    have hm := sub x List.mem_cons_self
    have p := List.perm_cons_erase hm
    have hl : (m.erase x).length ≤ l.length := by
      rw [List.length_erase_of_mem hm]
      simp at h
      omega
    refine (List.Perm.cons x (perm_of_sub (List.nodup_cons.mp nd).2 (fun y hy => ?_) hl)).trans p.symm
    exact (List.mem_erase_of_ne (a := y) (b := x) fun e => nx (by rw [← e]; exact hy)).mpr (sub y (List.mem_cons_of_mem _ hy))
theorem strs_in {P : Program} {w : World} {D : SD} {l : List Str} (F : TxOk P w D l) {v : Value} (hv : v ∈ D.1.toList.map (·.2)) : ∃ x t, v = .str x t := by
  obtain ⟨e, he, rfl⟩ := List.mem_map.mp hv
  obtain ⟨⟨k, hk, _⟩, _⟩ := F.el e he
  have hk2 : Value.isStrOf k e.2 = true := hk
  cases e2 : e.2 with
  | str x t => exact ⟨x, t, rfl⟩
  | _ => rw [e2] at hk2; cases hk2
theorem texts_perm {P : Program} {w : World} {D : SD} {l : List Str} (F : TxOk P w D l) (nd : l.Nodup) : l.Perm ((D.1.toList.map (·.2)).map strOf) := by
  refine perm_of_sub nd (fun x hx => ?_) (by rw [List.length_map, List.length_map, Array.length_toList, F.sz]; exact Nat.le_refl _)
  obtain ⟨e, he, hk⟩ := (F.mem x).mp hx
  have hm : e.2 ∈ D.1.toList.map (·.2) := List.mem_map.mpr ⟨e, he, rfl⟩
  obtain ⟨y, t, e2⟩ := strs_in F hm
  refine List.mem_map.mpr ⟨e.2, hm, ?_⟩
  have hk2 : Value.isStrOf x e.2 = true := hk
  rw [e2] at hk2 ⊢
  have q : (y == x) = true ∨ (x == y) = true := by
    first
      | exact .inl hk2
      | exact .inr hk2
  show y = x
  rcases q with q | q
  · exact eq_of_beq q
  · exact (eq_of_beq q).symm
section
variable {P : Program} {w : World} {A : Around} {E : Value → Shared → Prop} {s : Shared}
theorem sorted_tx {a : Addr} {l : List Str} {Q : Value → Shared → Prop} (R : TxR P w s.heap a l) (hh : A.handled = none) (hb : l.length < scanBound)
    (k : ∀ (s' : Shared) (p : Addr) (out : Array Value) (c : Nat) (ys : List Str), (∀ b o, s.heap.get? b = some o → s'.heap.get? b = some o) → s'.gens = s.gens → s'.os = s.os → s.heap.objs.size ≤ p →
      s'.heap.get? p = some (seqObj "list" out c) → StrsAre out.toList ys → ys.Perm l → sortedS ys = true → Q (.ref p) s') : wpAny (model P w) A (call (.builtin "sorted") [.ref a]) Q E s := by
  obtain ⟨D, ho, F, nd, r, q⟩ := R
  have nb : D.1.size < scanBound := by rw [F.sz]; exact hb
  refine Calls.call_function_entry kind_sorted plain_sorted entry_sorted (args_sorted1 _) ?_
  unfold Builtin.«sorted»
  refine wpAny_bind (m := checkCount "sorted" 1 1 _) (wpAny_pure (wpAny_bind (collect_set (A := A.in1) hh ⟨_, ho, rfl, rfl⟩ F.fit nb r q fun s1 vs k1 z1 g1 o1 pm => ?_)))
  have hl : vs.length = l.length := by rw [pm.length_eq, List.length_map, Array.length_toList, F.sz]
  have sv : StrsAre vs (vs.map strOf) := strsAre_map vs fun v hv => strs_in F (pm.mem_iff.mp hv)
  have pl : (vs.map strOf).Perm l := (pm.map strOf).trans (texts_perm F nd).symm
  have small : vs.length ≤ sizeLine := by
    rw [hl, sizeLine_eq]
    exact Nat.le_of_lt (Nat.lt_of_lt_of_le hb (by decide))
  refine wpAny_bind (wpAny_newList ?_ small)
  have hx : (s1.heap.push (seqObj "list" vs.toArray 0)).get? s1.heap.objs.size = some (seqObj "list" vs.toArray 0) := Heap.get?_push_size _ rfl
  refine wpAny_bind (wpAny_holding (wpAny_call_entry slot_list_sort ⟨_, hx, rfl⟩ entry_list_sort (list_sort_treeKAny strKind_oneLt hx sv.keysOf (fun v₁ v₂ rest e => keyKind_strs (by rw [← e]; exact sv)) small fun st hp hs => ?_) (args_list_sort _)))
  obtain ⟨ys, y1, y2, y3⟩ := sorted_out_str sv hp hs
  obtain ⟨c, hc⟩ := sortedHeap_at (vs := vs) (out := (arrOf st).map (·.2)) hx
  refine ⟨_, rfl, wpAny_pure ⟨_, rfl, k _ s1.heap.objs.size _ c ys (fun b u e => ?_) g1 o1 z1 hc y1 (y2.trans pl) y3⟩⟩
  have e1 := k1 b u e
  have lt := Heap.lt_size e1
  show (sortedHeap (s1.heap.push (seqObj "list" vs.toArray 0)) _ vs _).get? b = some u
  rw [sortedHeap_old (Nat.ne_of_lt lt) (by rw [size_push']; exact Nat.lt_succ_of_lt lt)]
  exact Heap.get?_push_of_some _ e1
end
/-- the set of texts at a -/
def TxO (P : Program) (w : World) (a : Addr) (l : List Str) : HO := .ext fun h => TxR P w h a l
section
variable {X : Cx}
theorem txO_new {P : Program} {w : World} {H : Hp} {h : Heap} {a : Addr} {l : List Str} (R : TxR P w h a l) : ObjOk P w H h a (TxO P w a l) := by
  obtain ⟨D, ho, _⟩ := id R
  exact ⟨R, ⟨_, ho⟩, fun h1 h2 p k => TxR.at p k⟩
theorem txO_get {pins : List (Addr × Obj)} {σ : L2.St} {H : Hp} {s : Shared} {a : Addr} {l : List Str} (I : Inv X pins σ H s) (ha : H a = some (TxO X.prog X.w a l)) : TxR X.prog X.w s.heap a l := (I.hok a _ ha).1
/-- set(xs), xs a list or a tuple of texts -/
def rSetS (K : PySem.W.Frag) (P : Program) (w : World) : List V → Hp → VK → Prop := fun vs H Q => ∃ (p : Addr) (xs : List Str), vs = [V.ref p] ∧ (SqL K H p (xs.map V.str) ∨ SqT K H p (xs.map V.str)) ∧ xs.length + 1 < scanBound ∧
  ∀ (l : List Str) (q : Addr), l.Nodup → (∀ z, z ∈ l ↔ z ∈ xs) → l.length ≤ xs.length → H q = none → Q (.ref q) (upd H q (TxO P w q l))
theorem cr_setS (hc : X.calm = true) : CallR X (.type "set") (rSetS X.K X.prog X.w) := by
  intro pins s σ H vs us Q I r h
  obtain ⟨p, xs, rfl, hp, hb, k⟩ := h
  rw [Vals.ref1 r]
  have fin : ∀ s2, Made X.prog X.w s xs s2 → EP X pins σ Q (.ref s.heap.objs.size) s2 := fun s2 md => by
    obtain ⟨g, tk, l, rfl, T, m, hl, kp⟩ := md
    have hn : H s.heap.objs.size = none := I.hok.fresh (Nat.le_refl _)
    have nd : l.Nodup := T.elim fun D z => z.2.2.1
    exact ⟨.ref _, upd H s.heap.objs.size (TxO X.prog X.w s.heap.objs.size l), I.laid (t' := tk) kp (Nat.le_refl _) (txO_new T), rfl, k l _ nd m hl hn⟩
  rcases hp with hp | hp
  · obtain ⟨its, rv, pl, _⟩ := I.list hp
    exact call_set_lstS xs (I.ok.hd hc) pl.isList (by simpa using strsAre_of rv) hb fin
  · obtain ⟨its, rv, pl, _⟩ := I.tuple hp
    exact call_set_tupS xs (I.ok.hd hc) pl (by simpa using strsAre_of rv) hb fin
/-- sorted(found) -/
def rSortTx (P : Program) (w : World) : List V → Hp → VK → Prop := fun vs H Q => ∃ (a : Addr) (l : List Str), vs = [V.ref a] ∧ H a = some (TxO P w a l) ∧ l.length < scanBound ∧
  ∀ (ys : List Str) (p : Addr), ys.Perm l → sortedS ys = true → H p = none → Q (.ref p) (upd H p (.lst (ys.map V.str)))
theorem cr_sortTx (hc : X.calm = true) : CallR X (.builtin "sorted") (rSortTx X.prog X.w) := by
  intro pins s σ H vs us Q I r h
  obtain ⟨a, l, rfl, ha, hb, k⟩ := h
  rw [Vals.ref1 r]
  refine sorted_tx (txO_get I ha) (I.ok.hd hc) hb fun s2 p out c ys kp eg eo hp hg hs pm so => ?_
  have hn : H p = none := I.hok.fresh hp
  have len : (ys.map V.str).length ≤ sizeLine := by
    rw [List.length_map, pm.length_eq, sizeLine_eq]
    exact Nat.le_of_lt (Nat.lt_of_lt_of_le hb (by decide))
  obtain ⟨h2, g2, d2, t2, o2⟩ := s2
  simp only at eg eo
  subst eg eo
  exact ⟨.ref p, upd H p (.lst (ys.map V.str)), I.call (ch := []) (Un.laid kp hp hn) (I.hok.laid kp hp ⟨len, out.toList, c, vals_of_strs hs, hg⟩) I.bare (fun _ z => nomatch z), rfl, k ys p pm so hn⟩
end
end Hx
set_option maxHeartbeats 4000000
/-! ### found.extend(t), t a tuple; for x in a list or a tuple -/
namespace Hx
open PySem PySem.Spec PyProof.Rows L2
set_option maxRecDepth 8000 in
theorem ext_tup (p : Addr) (xs : Array Value) (k : Nat) (t : Addr) (ys : Array Value) (m : Nat) (dc : Option Addr) (sl : Array (Option Value)) (h0 : ¬(!xs.isEmpty && Builtin.List.listTooLong (xs.size + ys.size)) = true) (h1 : xs.size ≤ sizeLine) (h2 : xs.size + ys.size ≤ sizeLine + 1) :
    Meets (Builtin.«list.extend» ⟨[.ref p, .ref t], []⟩) (fun _ R s => s.heap.get? p = some { cls := .type "list", dict := none, data := .seq xs k, slots := #[] } ∧ s.heap.get? t = some { cls := .type "tuple", dict := dc, data := .seq ys m, slots := sl } ∧ R (.ok (.ret .none)) { s with heap := s.heap.update p (Obj.mapSeq fun x => x ++ ys), toks := s.toks }) :=
  .of_wp fun prog w A R s h => by
    obtain ⟨hp, g, d, tk, os⟩ := s
    obtain ⟨ep, et, h⟩ := h
    have f2 := AutoSeq1.sub_tuple_tuple
    have f3 := AutoSeq1.sub_list_list
    have f4 := AutoSeq1.sub_tuple_list
    have f5 := AutoSeq1.sub_list_tuple
    have fz : (xs ++ ys).size ≤ sizeLine + 1 := by rw [Array.size_append]; exact h2
    wp_walk using (wpAny_updateSeq ep rfl (hz := h1) (_hz' := fz)), AutoSeq1.wpAny_loadPart' ep, AutoSeq1.wpAny_loadPart' et
    exact ⟨_, rfl, h⟩
section
variable {X : Cx}
def rExtT (K : PySem.W.Frag) : V → List V → Hp → VK → Prop := fun x vs H Q => ∃ l b xs zs, x = .ref l ∧ vs = [.ref b] ∧ H l = some (.lst xs) ∧ SqT K H b zs ∧ xs.length + zs.length ≤ sizeLine ∧ Q .non (upd H l (.lst (xs ++ zs)))
theorem mt_extT : MtM X "list.extend" (rExtT X.K) := by
  intro pins s σ H x vs v us Q I rx rv h
  obtain ⟨l, b, xs, zs, rfl, rfl, hl, hb, hz, q⟩ := h
  cases rx
  obtain ⟨u, rfl, ru⟩ := rv.one
  cases ru
  obtain ⟨zl, its, n, r, el, e⟩ := I.lstM hl
  obtain ⟨jts, r2, ⟨⟨cl, dc, da, sl⟩, e2, ec, n2, ed⟩, _⟩ := I.tuple hb
  simp only at ec ed
  subst ec ed
  have l2 : jts.length = zs.length := r2.length.symm
  have sz : its.toArray.size + jts.toArray.size ≤ sizeLine := by rw [List.size_toArray, List.size_toArray]; omega
  have nl : ¬ (!its.toArray.isEmpty && Builtin.List.listTooLong (its.toArray.size + jts.toArray.size)) = true := by
    rw [notLongL sz, Bool.and_false]
    exact Bool.false_ne_true
  refine call_meets F.slot_list_extend ⟨_, e, rfl⟩ F.entry_list_extend (F.args_list_extend_2 _ _) (ext_tup l its.toArray n b jts.toArray n2 dc sl nl (by rw [List.size_toArray]; omega) (by omega)) ⟨e, e2, ?_⟩
  refine ⟨.non, _, I.lset (its' := its ++ jts) hl e (by simp) (r.append r2) ?_, rfl, q⟩
  rw [List.length_append]
  omega
variable {tg : Expr}
/-- a list or a tuple, walked -/
def iSeq (K : PySem.W.Frag) (tl : TE) : TI := fun σ H R => tl σ H fun x H1 => ∃ a xs, x = .ref a ∧ ((SqL K H1 a xs ∧ R (Itl K a) H1) ∨ (SqT K H1 a xs ∧ R (Itt K a) H1))
theorem pi_seq {l : Expr} {tl : TE} (hl : PE X l tl) : PI X tg l (iSeq X.K tl) := by
  refine ⟨fun pins s σ H R I h => ?_⟩
  refine thn (hl.run pins s σ H _ I h) fun v s1 ⟨x, H1, I1, r1, q1⟩ => ?_
  obtain ⟨a, xs, e, q⟩ := q1
  subst e
  cases r1
  have off : ∀ b, b ∈ [s1.heap.objs.size] → ∀ i : Nat, b = s1.heap.objs.size := fun b hb _ => by simpa using hb
  rcases q with ⟨hq, q⟩ | ⟨hq, q⟩
  · obtain ⟨its, rv, p, hz⟩ := I1.list hq
    refine wpAny_pyIter_list p.isList ⟨s1.heap.objs.size, [s1.heap.objs.size], _, _, H1, rfl, I1.kept (t' := s1.toks) fun b o e => Heap.get?_push_of_some _ e, turn_list a _, ⟨_, Heap.get?_push_size _ rfl, rfl, rfl⟩, fun b hb => ?_, q⟩
    rw [off b hb 0]
    exact I1.fpOk (Nat.le_refl _) (I1.hok.fresh (Nat.le_refl _))
  · obtain ⟨its, rv, p, hz⟩ := I1.tuple hq
    refine wpAny_pyIter_tuple (show s1.heap.IsTuple a its.toArray from p) ⟨s1.heap.objs.size, [s1.heap.objs.size], _, _, H1, rfl, I1.kept (t' := s1.toks) fun b o e => Heap.get?_push_of_some _ e, turn_tuple a _, ⟨_, Heap.get?_push_size _ rfl, rfl, rfl⟩, fun b hb => ?_, q⟩
    rw [off b hb 0]
    exact I1.fpOk (Nat.le_refl _) (I1.hok.fresh (Nat.le_refl _))
end
end Hx
set_option maxHeartbeats 4000000
namespace K05
open PySem PySem.Spec PyProof.Rows L2 Hx RZ
/-! ### parts of nets -/
theorem same_upd {H : Hp} {a : Addr} {o : HO} (h : H a = none) : Same H (upd H a o) := fun b u e => by rw [upd_ne (ne_of_none e h)]; exact e
abbrev HUB : Str := "hub"
abbrev PIPE : Str := "pipe"
abbrev LEAD : Str := "lead"
/-- a part, right or wrong: words and a number, or a hub -/
inductive Raw | flat (ws : List Str) (n : Num) | hub (ns : List Str) (n : Num)
  deriving DecidableEq
def Raw.num : Raw → Num
  | .flat _ n => n
  | .hub _ n => n
def Raw.ends : Raw → List Str
  | .flat (_ :: x :: y :: _) _ => [x, y]
  | .flat _ _ => []
  | .hub ns _ => ns
def Raw.word : Raw → Str
  | .flat (k :: _) _ => k
  | .flat [] _ => ""
  | .hub _ _ => HUB
def Raw.ok : Raw → Bool
  | .flat [k, x, y] n => (nameS x && nameS y) && ((decide (k = PIPE) && decide (x.cps.toList < y.cps.toList)) || (decide (k = LEAD) && decide (x ≠ y))) && n.ok0
  | .flat _ _ => false
  | .hub ns n => namesS ns && decide (2 ≤ ns.length) && n.ok0
def RawAt (K : PySem.W.Frag) (H : Hp) (v : V) : Raw → Prop
  | .flat ws n => ∃ a u, v = .ref a ∧ SqT K H a (ws.map V.str ++ [u]) ∧ NumAt K H u n
  | .hub ns n => ∃ a b u, v = .ref a ∧ SqT K H a [.str HUB, .ref b, u] ∧ SqT K H b (ns.map V.str) ∧ NumAt K H u n
theorem RawAt.keep {K : PySem.W.Frag} {H H' : Hp} {v : V} (e : TK H H') : ∀ {r : Raw}, RawAt K H v r → RawAt K H' v r
  | .flat ws n, ⟨a, u, h1, h2, h3⟩ => ⟨a, u, h1, tk_seqT e h2, h3.keep e⟩
  | .hub ns n, ⟨a, b, u, h1, h2, h3, h4⟩ => ⟨a, b, u, h1, tk_seqT e h2, tk_seqT e h3, h4.keep e⟩
inductive RawsAt (K : PySem.W.Frag) (H : Hp) : List V → List Raw → Prop
  | nil : RawsAt K H [] []
  | cons {v : V} {r : Raw} {vs : List V} {rs : List Raw} (h : RawAt K H v r) (t : RawsAt K H vs rs) : RawsAt K H (v :: vs) (r :: rs)
section
variable {K : PySem.W.Frag} {H H' : Hp}
theorem RawsAt.keep (e : TK H H') : ∀ {vs : List V} {rs : List Raw}, RawsAt K H vs rs → RawsAt K H' vs rs
  | _, _, .nil => .nil
  | _, _, .cons h t => .cons (h.keep e) (t.keep e)
theorem RawsAt.len : ∀ {vs : List V} {rs : List Raw}, RawsAt K H vs rs → vs.length = rs.length
  | _, _, .nil => rfl
  | _, _, .cons _ t => by simp [t.len]
theorem RawsAt.get : ∀ {vs : List V} {rs : List Raw} {i : Nat} {v : V}, RawsAt K H vs rs → vs[i]? = some v → ∃ r, rs[i]? = some r ∧ RawAt K H v r
  | _, _, 0, _, .cons h _, e => by simp at e; subst e; exact ⟨_, rfl, h⟩
  | _, _, i + 1, _, .cons _ t, e => by simpa using t.get (i := i) (by simpa using e)
theorem RawsAt.app : ∀ {vs us : List V} {rs qs : List Raw}, RawsAt K H vs rs → RawsAt K H us qs → RawsAt K H (vs ++ us) (rs ++ qs)
  | _, _, _, _, .nil, u => u
  | _, _, _, _, .cons h t, u => .cons h (t.app u)
end
/-- a right part -/
inductive Right : Raw → Prop
  | two (k x y : Str) (n : Num) (hx : nameS x = true) (hy : nameS y = true) (hk : (k = PIPE ∧ x.cps.toList < y.cps.toList) ∨ (k = LEAD ∧ x ≠ y)) (hn : n.ok0 = true) : Right (.flat [k, x, y] n)
  | hub (ns : List Str) (n : Num) (h : namesS ns = true) (h2 : 2 ≤ ns.length) (hn : n.ok0 = true) : Right (.hub ns n)
theorem no_ok {b : Bool} (e : b = false) (h : b = true) : False := by rw [e] at h; cases h
theorem Raw.right {r : Raw} (ok : r.ok = true) : Right r := by
  cases r with
  | hub ns n =>
    have h : ((namesS ns && decide (2 ≤ ns.length)) && n.ok0) = true := ok
    rw [Bool.and_eq_true, Bool.and_eq_true, decide_eq_true_eq] at h
    exact .hub ns n h.1.1 h.1.2 h.2
  | flat ws n =>
    rcases ws with _ | ⟨k, _ | ⟨x, _ | ⟨y, _ | ⟨z, t⟩⟩⟩⟩
    · exact (no_ok rfl ok).elim
    · exact (no_ok rfl ok).elim
    · exact (no_ok rfl ok).elim
    · have h : ((nameS x && nameS y) && ((decide (k = PIPE) && decide (x.cps.toList < y.cps.toList)) || (decide (k = LEAD) && decide (x ≠ y))) && n.ok0) = true := ok
      rw [Bool.and_eq_true, Bool.and_eq_true, Bool.and_eq_true, Bool.or_eq_true, Bool.and_eq_true, Bool.and_eq_true, decide_eq_true_eq, decide_eq_true_eq, decide_eq_true_eq, decide_eq_true_eq] at h
      exact .two k x y n h.1.1.1 h.1.1.2 h.1.2 h.2
    · exact (no_ok rfl ok).elim
theorem pipe_hub : PIPE ≠ HUB := by decide +kernel
theorem lead_hub : LEAD ≠ HUB := by decide +kernel
theorem pipe_lead : PIPE ≠ LEAD := by decide +kernel
/-- a right part has its first word and its number -/
theorem raw_first {K : PySem.W.Frag} {H : Hp} {v : V} {r : Raw} (h : RawAt K H v r) (ok : Right r) : ∃ a xs, v = .ref a ∧ SqT K H a xs ∧ atI xs 0 = some (.str r.word) ∧ (∃ u, atI xs (-1) = some u ∧ NumAt K H u r.num) := by
  cases ok with
  | two k x y n hx hy hk hn =>
    obtain ⟨a, u, e, ha, hu⟩ := h
    exact ⟨a, _, e, ha, rfl, u, rfl, hu⟩
  | hub ns n _ _ _ =>
    obtain ⟨a, b, u, e, ha, hb, hu⟩ := h
    exact ⟨a, _, e, ha, rfl, u, rfl, hu⟩
section
variable {P : Program} {w : World} {K : PySem.W.Frag} {mg : Str → Option Value} {base : Heap}
end
end K05
set_option maxHeartbeats 1000000
namespace K05
open PySem PySem.Spec PyProof.Rows L2 Hx RZ
theorem ix_tupK {X : Cx} {K : PySem.W.Frag} (h : X.K = K) : IxR X (rIxT K) := by subst h; exact ix_tup
section
variable {P : Program} {w : World} {K : PySem.W.Frag} {mg : Str → Option Value} {base : Heap}
def spEnds (K : PySem.W.Frag) : Sp := fun vs H Q _ => ∃ (v : V) (r : Raw), vs = [v] ∧ RawAt K H v r ∧ Right r ∧ ∀ p H', Same H H' → SqT K H' p (r.ends.map V.str) → Q (.ref p) H'
theorem sc_places_of_part : FnScope ["part"] ["part"] (defScope splaces_of_part) := ⟨rfl, rfl, rfl, by decide +kernel, rfl, by decide +kernel, by decide +kernel⟩
theorem ok_places_of_part (D : Dn K mg "places_of_part" splaces_of_part) : Ok P w K mg base L2.CX0 1 "places_of_part" ["part"] (spEnds K) := by
  refine Ok.mk0 D sc_places_of_part (fun vs H Q E h => ?_) (fun _ _ _ _ _ _ us hl => match us, hl with | [_], _ => rfl) (fun f cdv A outer s H vs Q E hr h => ?_)
  · obtain ⟨x, ns, rfl, _⟩ := h
    rfl
  obtain ⟨v, r, rfl, hv, ok, k⟩ := h
  refine ⟨_, (pss_one (ps_ret (pe_ifExp (pt_cmpR op_eq (pe_ix ix_tup (pv 0) pe_int (fun _ _ => rfl)) pe_str (nomark _)) (pe_ix ix_tup (pv 0) pe_int (fun _ _ => rfl)) (pe_slice sl_tupA (pv 0) (po_some pe_int) (po_some pe_int))))), ?_⟩
  cases ok with
  | hub ns n _ _ _ =>
    obtain ⟨a, b, u, rfl, ha, hb, hu⟩ := hv
    refine ⟨_, rfl, a, _, 0, _, rfl, rfl, ha, rfl, rfl, _, rfl, ?_⟩
    exact iteT ⟨_, rfl, a, _, 1, _, rfl, rfl, ha, rfl, k b H (Same.refl H) hb⟩
  | two kw x y n hx hy hk hn =>
    obtain ⟨a, u, rfl, ha, hu⟩ := hv
    have nk : kw ≠ HUB := by
      rcases hk with ⟨e, _⟩ | ⟨e, _⟩ <;> rw [e]
      · exact pipe_hub
      · exact lead_hub
    refine ⟨_, rfl, a, _, 0, _, rfl, rfl, ha, rfl, rfl, _, rfl, ?_⟩
    rw [decide_eq_false (fun q => nk (V.str.inj q))]
    refine iteF ⟨_, rfl, _, rfl, _, rfl, ?_⟩
    show rSlA K (.ref a) (some ((1 : Nat) : Int)) (some ((3 : Nat) : Int)) H _
    exact rSlA_any ha (ys := [.str x, .str y]) (cut_between 1 3 (by simp)) fun p H' s q => k p H' s q
/-! has_kind -/
def hasK (w : Str) (rs : List Raw) : Bool := rs.any fun r => decide (r.word = w)
def spHas (K : PySem.W.Frag) : Sp := fun vs H Q _ => ∃ (a : Addr) (us : List V) (rs : List Raw) (x : Str), vs = [.ref a, .str x] ∧ (SqL K H a us ∨ SqT K H a us) ∧ us.length ≤ 100000 ∧ RawsAt K H us rs ∧ (∀ r ∈ rs, Right r) ∧ ∀ H', Same H H' → Q (.bl (hasK x rs)) H'
theorem sc_has_kind : FnScope ["parts", "kind", "part"] ["parts", "kind"] (defScope shas_kind) := ⟨rfl, rfl, rfl, by decide +kernel, rfl, by decide +kernel, by decide +kernel⟩
theorem any_map_id {α : Type} (f : α → Bool) (l : List α) : (l.map f).any id = l.any f := by rw [List.any_map]; rfl
theorem ok_has_kind (D : Dn K mg "has_kind" shas_kind) (h_any : mg "any" = none) : Ok P w K mg base L2.CX0 1 "has_kind" ["parts", "kind"] (spHas K) := by
  refine Ok.mk0 D sc_has_kind (fun vs H Q E h => ?_) (fun _ _ _ _ _ _ us hl => match us, hl with | [_, _], _ => rfl) (fun f cdv A outer s H vs Q E hr h => ?_)
  · obtain ⟨a, us, rs, x, rfl, _⟩ := h
    rfl
  obtain ⟨a, us, rs, x, rfl, ha, hl, hu, ok, k⟩ := h
  have nd := sc_has_kind.nd
  refine ⟨_, (pss_one (ps_ret (pe_callB (cr_any rfl) (by rfl) h_any (by decide +kernel) (pa_cons (pe_lc (own := [("part", 2)]) (g := gName 2) (tt := tYes) rfl nd (pi_seq (pv 0)) (blkOk_by (own := [("part", 2)]) (N := ["parts", "kind", "part"]) (sc := defScope shas_kind) (by decide +kernel)) (fun _ _ _ _ _ => pg_name (i := 2) nd rfl (Or.inl rfl)) (fun _ _ _ _ _ => pts_nil) (fun _ _ _ _ _ => (pe_cmpR op_eq (pe_ix (ix_tupK (K := K) rfl) (pv 2) pe_int (fun _ _ => rfl)) (pv 1) (nomark _)))) pa_nil)))), ?_⟩
  refine ⟨_, rfl, a, us, rfl, ?_⟩
  have size : us.length < sizeLine := by rw [sizeLine_eq]; omega
  rcases ha with ha | ha
  all_goals first
    | refine .inl ⟨ha, fun D hD => lc_lst1 ha size (fun i y _ => (rs.map fun r => decide (r.word = x))[i]?.map V.bl = some y) (fun _ _ _ _ _ h => h) hD ?_ ?_⟩
    | refine .inr ⟨ha, fun D hD => lc_tup1 ha size (fun i y _ => (rs.map fun r => decide (r.word = x))[i]?.map V.bl = some y) (fun _ _ _ _ _ h => h) hD ?_ ?_⟩
  all_goals first
    | (intro i v H1 F hv s1 kk
       obtain ⟨r, hr2, hraw⟩ := hu.get hv
       obtain ⟨b, ys, rfl, hb, h0, _⟩ := raw_first hraw (ok r (List.mem_of_getElem? hr2))
       refine ⟨rfl, _, rfl, b, ys, 0, _, rfl, rfl, same_seqT s1 hb, h0, _, rfl, rfl, kk _ _ ?_ (Same.refl _)⟩
       rw [List.getElem?_map, hr2, deq_str]
       rfl)
    | (intro acc H1 s1 e hl1 hy1
       have eb : acc = (rs.map fun r => decide (r.word = x)).map V.bl := bools_of (by simp [hl1, hu.len]) hy1
       subst eb
       refine ⟨D, _, rfl, SqL.of e, ?_⟩
       have z := k H1 s1
       rw [any_map_id]
       exact z)
/-! both kinds -/
def mixS (rs : List Raw) : Bool := hasK LEAD rs && hasK HUB rs
def spMix (K : PySem.W.Frag) : Sp := fun vs H Q _ => ∃ (a : Addr) (us : List V) (rs : List Raw), vs = [.ref a] ∧ (SqL K H a us ∨ SqT K H a us) ∧ us.length ≤ 100000 ∧ RawsAt K H us rs ∧ (∀ r ∈ rs, Right r) ∧ ∀ H', Same H H' → Q (.bl (mixS rs)) H'
theorem sc_mixes_leads_and_hubs : FnScope ["parts"] ["parts"] (defScope smixes_leads_and_hubs) := ⟨rfl, rfl, rfl, by decide +kernel, rfl, by decide +kernel, by decide +kernel⟩
theorem ok_mixes (D : Dn K mg "mixes_leads_and_hubs" smixes_leads_and_hubs) (B : Ok P w K mg base L2.CX0 1 "has_kind" ["parts", "kind"] (spHas K)) : Ok P w K mg base L2.CX0 2 "mixes_leads_and_hubs" ["parts"] (spMix K) := by
  obtain ⟨_, _, g_has_kind, k_has_kind, b_has_kind, F_has_kind⟩ := B.ex
  refine Ok.mk0 D sc_mixes_leads_and_hubs (fun vs H Q E h => ?_) (fun _ _ _ _ _ _ us hl => match us, hl with | [_], _ => rfl) (fun f cdv A outer s H vs Q E hr h => ?_)
  · obtain ⟨a, us, rs, rfl, _⟩ := h
    rfl
  obtain ⟨a, us, rs, rfl, ha, hl, hu, ok, k⟩ := h
  refine ⟨_, (pss_one (ps_ret (pe_and (pe_call F_has_kind hr rfl g_has_kind k_has_kind b_has_kind .nil pass0 (pa_cons (pv 0) (pa_cons pe_str pa_nil))) (pe_one (pe_call F_has_kind hr rfl g_has_kind k_has_kind b_has_kind .nil pass0 (pa_cons (pv 0) (pa_cons pe_str pa_nil))))))), ?_⟩
  refine ⟨_, rfl, a, us, rs, LEAD, rfl, ha, hl, hu, ok, fun H1 s1 => ⟨_, rfl, ?_⟩⟩
  have ha1 : SqL K H1 a us ∨ SqT K H1 a us := ha.imp (same_seqL s1) (same_seqT s1)
  unfold mixS at k
  cases e : hasK LEAD rs with
  | false =>
    have z := k H1 s1
    rw [e] at z
    exact iteF z
  | true =>
    refine iteT ⟨_, rfl, a, us, rs, HUB, rfl, ha1, hl, hu.keep (.of s1), ok, fun H2 s2 => ?_⟩
    have z := k H2 (s1.trans s2)
    rw [e, Bool.true_and] at z
    exact z
end
end K05
set_option maxHeartbeats 1000000
namespace K05
open PySem PySem.Spec PyProof.Rows L2 Hx RZ
/-! ### all places -/
def allEnds (taps : List Str) (rs : List Raw) : List Str := taps ++ rs.flatMap Raw.ends
/-- the list of the places at p -/
def Places (ys ends : List Str) : Prop := ys.Nodup ∧ (∀ z, z ∈ ys ↔ z ∈ ends) ∧ sortedS ys = true
theorem ends_step {taps : List Str} {rs : List Raw} {i : Nat} {r : Raw} (h : rs[i]? = some r) : allEnds taps (rs.take i) ++ r.ends = allEnds taps (rs.take (i + 1)) := by
  unfold allEnds
  rw [List.take_add_one, h, List.flatMap_append, List.append_assoc]
  simp
theorem ends_le {taps : List Str} {rs : List Raw} (i : Nat) : (allEnds taps (rs.take i)).length ≤ (allEnds taps rs).length := by
  have e : rs = rs.take i ++ rs.drop i := (List.take_append_drop i rs).symm
  have q : allEnds taps rs = allEnds taps (rs.take i) ++ (rs.drop i).flatMap Raw.ends := by
    unfold allEnds
    rw [List.append_assoc, ← List.flatMap_append, ← e]
  rw [q, List.length_append]
  omega
section
variable {P : Program} {w : World} {K : PySem.W.Frag} {mg : Str → Option Value} {base : Heap}
def spPlaces (K : PySem.W.Frag) : Sp := fun vs H Q _ => ∃ (t a : Addr) (taps : List Str) (us : List V) (rs : List Raw), vs = [.ref t, .ref a] ∧ SqT K H t (taps.map V.str) ∧ (SqL K H a us ∨ SqT K H a us) ∧ RawsAt K H us rs ∧ (∀ r ∈ rs, Right r) ∧
  (allEnds taps rs).length + 1 < scanBound ∧ ∀ p ys H', Same H H' → H' p = some (.lst (ys.map V.str)) → H p = none → Places ys (allEnds taps rs) → Q (.ref p) H'
theorem sc_places_in : FnScope ["taps", "parts", "found", "part"] ["taps", "parts"] (defScope splaces_in) := ⟨rfl, rfl, rfl, by decide +kernel, rfl, by decide +kernel, by decide +kernel⟩
theorem scan_line {n : Nat} (h : n + 1 < scanBound) : n ≤ sizeLine := by
  rw [sizeLine_eq]
  have e : scanBound ≤ 16777216 := by decide
  omega
theorem ok_places_in (D : Dn K mg "places_in" splaces_in) (B : Ok P w K mg base L2.CX0 1 "places_of_part" ["part"] (spEnds K)) (h_list : mg "list" = none) (h_set : mg "set" = none) (h_sorted : mg "sorted" = none) : Ok P w K mg base L2.CX0 2 "places_in" ["taps", "parts"] (spPlaces K) := by
  obtain ⟨_, _, g_places_of_part, k_places_of_part, b_places_of_part, F_places_of_part⟩ := B.ex
  refine Ok.mk0 D sc_places_in (fun vs H Q E h => ?_) (fun _ _ _ _ _ _ us hl => match us, hl with | [_, _], _ => rfl) (fun f cdv A outer s H vs Q E hr h => ?_)
  · obtain ⟨t, a, taps, us, rs, rfl, _⟩ := h
    rfl
  obtain ⟨t, a, taps, us, rs, rfl, ht, ha, hu, ok, hb, k⟩ := h
  have nd := sc_places_in.nd
  refine ⟨_, (pss_cons (ps_set (i := 2) nd rfl (Or.inl rfl) (pe_callTy call_list_of (by rfl) h_list (by decide +kernel) (pa_cons (pv 0) pa_nil)))
    (pss_cons (ps_for PassesOwn.never rfl (pi_seq (pv 1)) (pg_name (i := 3) nd rfl (Or.inl rfl))
      (pss_one (ps_expr (pe_bm PySem.F.plainAttrs_list PySem.F.slot_list_extend PySem.F.type_list_extend mt_extT (pv 2) (pa_cons (pe_call F_places_of_part hr rfl g_places_of_part k_places_of_part b_places_of_part .nil pass0 (pa_cons (pv 3) pa_nil)) pa_nil)))))
    (pss_one (ps_ret (pe_callB (cr_sortTx rfl) (by rfl) h_sorted (by decide +kernel) (pa_cons (pe_callTy (cr_setS rfl) (by rfl) h_set (by decide +kernel) (pa_cons (pv 2) pa_nil)) pa_nil)))))), ?_⟩
  refine ⟨_, rfl, t, _, rfl, .inr ht, fun l hl => ?_⟩
  have s0 : Same H (upd H l (.lst (taps.map V.str))) := same_upd hl
  refine ⟨_, rfl, a, us, rfl, ?_⟩
  let Pv : Nat → L2.St → Hp → Prop := fun i σ H' => (∃ o, σ = [some (.ref t), some (.ref a), some (.ref l), o]) ∧ Same H H' ∧ H' l = some (.lst ((allEnds taps (rs.take i)).map V.str))
  have h0 : Pv 0 [some (.ref t), some (.ref a), some (.ref l), none] (upd H l (.lst (taps.map V.str))) := ⟨⟨_, rfl⟩, s0, by rw [upd_same]; unfold allEnds; simp⟩
  have fin : ∀ σ H', Pv us.length σ H' → tRet (tCB (rSortTx P w) (tCons (tCB (rSetS K P w) (tCons (tVar 2) tNil)) tNil)) { nx := fun _ H' => Q .non H', rt := Q } σ H' := by
    rintro σ H' ⟨⟨o, rfl⟩, s1, el⟩
    rw [hu.len, List.take_length] at el
    refine ⟨_, rfl, l, _, rfl, .inl (SqL.of el), hb, fun ls q nd2 m2 l2 hq => ?_⟩
    refine ⟨q, ls, rfl, upd_same, by omega, fun ys p pm so hp => ?_⟩
    have s2 : Same H' (upd (upd H' q (TxO P w q ls)) p (.lst (ys.map V.str))) := (same_upd hq).trans (same_upd hp)
    have hpH : H p = none := by
      cases e : H p with
      | none => rfl
      | some o2 => rw [((s1.trans (same_upd hq)) p o2 e)] at hp; cases hp
    exact k p ys _ (s1.trans s2) upd_same hpH ⟨pm.nodup_iff.mpr nd2, fun z => by rw [pm.mem_iff, m2], so⟩
  have len : ∀ (i : Nat) (r : Raw), rs[i]? = some r → ((allEnds taps (rs.take i)).map V.str).length + (r.ends.map V.str).length ≤ sizeLine := fun i r h => by
    have q := ends_le (taps := taps) (rs := rs) (i + 1)
    rw [← ends_step h, List.length_append] at q
    rw [List.length_map, List.length_map]
    have := scan_line hb
    omega
  rcases ha with ha | ha
  all_goals first
    | refine .inl ⟨same_seqL s0 ha, for_list Pv h0 (fun i σ H' _ z => same_seqL z.2.1 ha) ?_ fin⟩
    | refine .inr ⟨same_seqT s0 ha, for_tup Pv h0 (fun i σ H' _ z => same_seqT z.2.1 ha) ?_ fin⟩
  all_goals
    rintro i x σ H' hx ⟨⟨o, rfl⟩, s1, el⟩
    obtain ⟨r, hr2, hraw⟩ := hu.get hx
    refine ⟨_, rfl, ?_, _, rfl, x, r, rfl, hraw.keep (.of s1), ok r (List.mem_of_getElem? hr2), fun p H2 s2 hp => ?_⟩
    · exact .inl ⟨rfl, _, SqL.of el⟩
    have e2 := s2 _ _ el
    refine ⟨l, p, _, _, rfl, rfl, e2, hp, len i r hr2, ⟨_, rfl⟩, fun b u e => ?_, ?_⟩
    · rw [upd_ne (ne_of_none e hl)]
      exact s2 _ _ (s1 _ _ e)
    · rw [upd_same, ← List.map_append, ends_step hr2]
end
end K05
set_option maxHeartbeats 1000000
namespace K05
open PySem PySem.Spec PyProof.Rows L2 Hx RZ
/-! ### is_part, is_net -/
theorem scan_strs {xs : List V} (h : xs.all (fun x => match x with | .str _ => true | .int _ => true | _ => false) = true) : True := trivial
section
variable {P : Program} {w : World} {K : PySem.W.Frag} {mg : Str → Option Value} {base : Heap}
def spRight (K : PySem.W.Frag) : Sp := fun vs H Q _ => ∃ (v : V) (r : Raw), vs = [v] ∧ RawAt K H v r ∧ Right r ∧ (∀ x ∈ r.ends, x.length ≤ 100000) ∧ r.ends.length ≤ 100000 ∧ ∀ H', Same H H' → Q (.bl true) H'
theorem sc_is_part : FnScope ["value", "kind", "start", "end", "_"] ["value"] (defScope sis_part) := ⟨rfl, rfl, rfl, by decide +kernel, rfl, by decide +kernel, by decide +kernel⟩
theorem ok_is_part (D : Dn K mg "is_part" sis_part) (B0 : Ok P w K mg base L2.CX0 3 "is_number_from_0" ["value"] (spIsNum0 K)) (B1 : Ok P w K mg base L2.CX0 2 "are_names" ["value"] (spNames K namesS)) (B2 : Ok P w K mg base L2.CX0 1 "is_name" ["value"] (spName nameS))
    (h_isinstance : mg "isinstance" = none) (h_tuple : mg "tuple" = none) (h_len : mg "len" = none) : Ok P w K mg base L2.CX0 4 "is_part" ["value"] (spRight K) := by
  obtain ⟨_, _, g_is_number_from_0, k_is_number_from_0, b_is_number_from_0, F_is_number_from_0⟩ := B0.ex
  obtain ⟨_, _, g_are_names, k_are_names, b_are_names, F_are_names⟩ := B1.ex
  obtain ⟨_, _, g_is_name, k_is_name, b_is_name, F_is_name⟩ := B2.ex
  refine Ok.mk0 D sc_is_part (fun vs H Q E h => ?_) (fun _ _ _ _ _ _ us hl => match us, hl with | [_], _ => rfl) (fun f cdv A outer s H vs Q E hr h => ?_)
  · obtain ⟨x, r, rfl, _⟩ := h
    rfl
  obtain ⟨v, r, rfl, hv, ok, hx, hl, k⟩ := h
  have nd := sc_is_part.nd
  have hr2 := hr.mono (show 2 ≤ 3 by decide)
  have hr1 := hr.mono (show 1 ≤ 3 by decide)
  refine ⟨_, (pss_cons (ps_if (PW.pt (pw_or (pt_not (pt_val (pe_isD "tuple" rfl h_isinstance h_tuple (pv 0)))) (pw_or (pt_cmpR op_notIn_seq (pe_lenS rfl h_len (pv 0)) (pe_tup (pa_cons pe_int (pa_cons pe_int pa_nil))) (by rfl)) (pw_or1 (pt_not (pt_val (pe_call F_is_number_from_0 hr rfl g_is_number_from_0 k_is_number_from_0 b_is_number_from_0 .nil pass0 (pa_cons (pe_ix ix_tup (pv 0) (pe_un un_neg pe_int) (fun _ _ => rfl)) pa_nil))))))))
      (pss_one (ps_ret pe_bl))
      pss_nil)
    (pss_cons (ps_if (pt_cmpR op_eq (pe_lenS rfl h_len (pv 0)) pe_int (nomark _))
      (pss_one (ps_ret (pe_and (pe_cmpR op_eq (pe_ix ix_tup (pv 0) pe_int (fun _ _ => rfl)) pe_str (nomark _)) (pe_and (pe_call F_are_names hr2 rfl g_are_names k_are_names b_are_names .nil pass0 (pa_cons (pe_ix ix_tup (pv 0) pe_int (fun _ _ => rfl)) pa_nil)) (pe_one (pe_cmpR op_ge (pe_lenS rfl h_len (pe_ix ix_tup (pv 0) pe_int (fun _ _ => rfl))) pe_int (nomark _)))))))
      pss_nil)
    (pss_cons (ps_asg (pv 0) (pg_tup (by rfl) (pgs_cons (pg_name (i := 1) nd rfl (Or.inl rfl)) (pgs_cons (pg_name (i := 2) nd rfl (Or.inl rfl)) (pgs_cons (pg_name (i := 3) nd rfl (Or.inl rfl)) (pgs_cons (pg_name (i := 4) nd rfl (Or.inl rfl)) pgs_nil))))))
    (pss_cons (ps_if (PW.pt (pw_or (pt_not (pt_val (pe_call F_is_name hr1 rfl g_is_name k_is_name b_is_name .nil pass0 (pa_cons (pv 2) pa_nil)))) (pw_or1 (pt_not (pt_val (pe_call F_is_name hr1 rfl g_is_name k_is_name b_is_name .nil pass0 (pa_cons (pv 3) pa_nil)))))))
      (pss_one (ps_ret pe_bl))
      pss_nil)
    (pss_one (ps_ret (pe_or (pe_and (pe_cmpR op_eq (pv 1) pe_str (nomark _)) (pe_one (pe_cmpR op_lt_str (pv 2) (pv 3) (nomark _)))) (pe_one (pe_and (pe_cmpR op_eq (pv 1) pe_str (nomark _)) (pe_one (pe_cmpR op_ne (pv 2) (pv 3) (nomark _)))))))))))), ?_⟩
  cases ok with
  | hub ns n h1 h2 h0 =>
    obtain ⟨a, b, u, rfl, ha, hb, hu⟩ := hv
    refine ⟨_, rfl, .tuple [.str HUB, .tuple (ns.map .str), n.data], .tup ha (.cons (.str _) (.cons (.tup hb (dpAll_strs ns)) (.cons hu.dt.dp .nil))), true, rfl, iteF ?_⟩
    refine ⟨_, rfl, a, _, rfl, .inr ha, ?_⟩
    refine ⟨(by show 2 ≤ sizeLine; rw [sizeLine_eq]; decide), fun p hp => ?_⟩
    have s1 := same_upd (o := .tup [.int 3, .int 4]) hp
    refine ⟨p, _, rfl, .inr (SqT.of upd_same), rfl, rfl, false, rfl, iteF ?_⟩
    have ha1 := same_seqT s1 ha
    refine ⟨_, rfl, _, rfl, a, _, -1, u, rfl, rfl, ha1, rfl, u, n, rfl, hu.keep (.of s1), fun H2 s2 => ⟨_, rfl, ?_⟩⟩
    rw [h0]
    have s12 := s1.trans s2
    have ha2 := same_seqT s12 ha
    refine iteF ⟨_, rfl, a, _, rfl, .inr ha2, rfl, true, rfl, iteT ?_⟩
    refine ⟨_, rfl, a, _, 0, _, rfl, rfl, ha2, rfl, rfl, true, rfl, iteT ?_⟩
    refine ⟨_, rfl, a, _, 1, _, rfl, rfl, ha2, rfl, b, ns, rfl, same_seqT s12 hb, ⟨hl, hx⟩, fun H3 s3 => ⟨_, rfl, ?_⟩⟩
    have s13 := s12.trans s3
    rw [h1]
    refine iteT ⟨_, rfl, a, _, 1, _, rfl, rfl, same_seqT s13 ha, rfl, b, _, rfl, .inr (same_seqT s13 hb), _, _, rfl, rfl, ?_⟩
    have z := k H3 s13
    rw [show true = decide ((2 : Int) ≤ ((ns.map V.str).length : Int)) from (decide_eq_true (by rw [List.length_map]; omega)).symm] at z
    exact z
  | two kw x y n n1 n2 hk h0 =>
    obtain ⟨a, u, rfl, ha, hu⟩ := hv
    refine ⟨_, rfl, .tuple [.str kw, .str x, .str y, n.data], .tup ha (.cons (.str _) (.cons (.str _) (.cons (.str _) (.cons hu.dt.dp .nil)))), true, rfl, iteF ?_⟩
    refine ⟨_, rfl, a, _, rfl, .inr ha, (by show 2 ≤ sizeLine; rw [sizeLine_eq]; decide), fun p hp => ?_⟩
    have s1 := same_upd (o := .tup [.int 3, .int 4]) hp
    refine ⟨p, _, rfl, .inr (SqT.of upd_same), rfl, rfl, false, rfl, iteF ?_⟩
    have ha1 := same_seqT s1 ha
    refine ⟨_, rfl, _, rfl, a, _, -1, u, rfl, rfl, ha1, rfl, u, n, rfl, hu.keep (.of s1), fun H2 s2 => ⟨_, rfl, ?_⟩⟩
    rw [h0]
    have s12 := s1.trans s2
    have ha2 := same_seqT s12 ha
    refine iteF ⟨_, rfl, a, _, rfl, .inr ha2, rfl, false, rfl, iteF ?_⟩
    refine ⟨_, rfl, a, _, rfl, ha2, rfl, _, _, rfl, _, _, rfl, _, _, rfl, _, _, rfl, rfl, ?_⟩
    refine ⟨_, rfl, x, rfl, hx x (by show x ∈ [x, y]; simp), fun H3 s3 => ⟨_, rfl, ?_⟩⟩
    rw [n1]
    refine iteF ⟨_, rfl, y, rfl, hx y (by show y ∈ [x, y]; simp), fun H4 s4 => ⟨_, rfl, ?_⟩⟩
    rw [n2]
    refine iteF ?_
    have z := k H4 (s12.trans (s3.trans s4))
    rcases hk with ⟨rfl, lt⟩ | ⟨rfl, ne⟩
    · refine ⟨_, rfl, rfl, true, congrArg V.bl (decide_eq_true rfl), iteT ⟨_, rfl, _, rfl, x, y, rfl, rfl, ?_⟩⟩
      rw [decide_eq_true lt]
      exact ⟨true, rfl, iteT z⟩
    · refine ⟨_, rfl, rfl, false, congrArg V.bl (decide_eq_false fun q => pipe_lead (V.str.inj q).symm), iteF ?_⟩
      refine ⟨false, rfl, iteF ⟨_, rfl, rfl, true, congrArg V.bl (decide_eq_true rfl), iteT ⟨_, rfl, _, rfl, rfl, ?_⟩⟩⟩
      rw [decide_eq_false (fun q => ne (V.str.inj q))]
      exact z
/-! is_net -/
structure NetOk (taps : List Str) (rs : List Raw) : Prop where
  tp : tapsS taps = true
  right : ∀ r ∈ rs, Right r
  few : rs.length ≤ 200
  mix : mixS rs = false
  places : ∀ ys, Places ys (allEnds taps rs) → ys.length ≤ 40
  tsz : Sm taps
  esz : ∀ r ∈ rs, (∀ x ∈ r.ends, x.length ≤ 100000) ∧ r.ends.length ≤ 100000
  sum : (allEnds taps rs).length + 1 < scanBound
def NetAt (K : PySem.W.Frag) (H : Hp) (v : V) (taps : List Str) (rs : List Raw) : Prop := ∃ a t b us, v = .ref a ∧ SqT K H a [.ref t, .ref b] ∧ SqT K H t (taps.map V.str) ∧ SqT K H b us ∧ RawsAt K H us rs
theorem NetAt.keep {K : PySem.W.Frag} {H H' : Hp} {v : V} {taps : List Str} {rs : List Raw} (e : TK H H') : NetAt K H v taps rs → NetAt K H' v taps rs
  | ⟨a, t, b, us, h1, h2, h3, h4, h5⟩ => ⟨a, t, b, us, h1, tk_seqT e h2, tk_seqT e h3, tk_seqT e h4, h5.keep e⟩
def Raw.data : Raw → PyData
  | .flat ws n => .tuple (ws.map .str ++ [n.data])
  | .hub ns n => .tuple [.str HUB, .tuple (ns.map .str), n.data]
def netData (taps : List Str) (rs : List Raw) : PyData := .tuple [.tuple (taps.map .str), .tuple (rs.map Raw.data)]
theorem RawAt.dt {H : Hp} {v : V} : ∀ {r : Raw}, RawAt K H v r → Dt K H v r.data
  | .flat ws n, ⟨a, u, e, h2, h3⟩ => by
    subst e
    exact .tup h2 ((DtAll.strs ws).app (.cons h3.dt .nil))
  | .hub ns n, ⟨a, b, u, e, h2, h3, h4⟩ => by
    subst e
    exact .tup h2 (.cons (.str _) (.cons (.tup h3 (DtAll.strs ns)) (.cons h4.dt .nil)))
theorem RawsAt.dt {H : Hp} : ∀ {vs : List V} {rs : List Raw}, RawsAt K H vs rs → DtAll K H vs (rs.map Raw.data)
  | _, _, .nil => .nil
  | _, _, .cons h t => .cons h.dt t.dt
theorem NetAt.dt {H : Hp} {v : V} {taps : List Str} {rs : List Raw} : NetAt K H v taps rs → Dt K H v (netData taps rs)
  | ⟨a, t, b, us, e, h2, h3, h4, h5⟩ => by
    subst e
    exact .tup h2 (.cons (.tup h3 (DtAll.strs taps)) (.cons (.tup h4 h5.dt) .nil))
def spIsNet (K : PySem.W.Frag) : Sp := fun vs H Q _ => (vs = [V.non] ∧ Q (.bl false) H) ∨ ∃ (v : V) (taps : List Str) (rs : List Raw), vs = [v] ∧ NetAt K H v taps rs ∧ NetOk taps rs ∧ ∀ H', Same H H' → Q (.bl true) H'
theorem sc_is_net : FnScope ["value", "taps", "parts", "part"] ["value"] (defScope sis_net) := ⟨rfl, rfl, rfl, by decide +kernel, rfl, by decide +kernel, by decide +kernel⟩
theorem ok_is_net (D : Dn K mg "is_net" sis_net) (B0 : Ok P w K mg base L2.CX0 3 "are_taps" ["value"] (spNames K tapsS)) (B1 : Ok P w K mg base L2.CX0 4 "is_part" ["value"] (spRight K)) (B2 : Ok P w K mg base L2.CX0 2 "mixes_leads_and_hubs" ["parts"] (spMix K)) (B3 : Ok P w K mg base L2.CX0 2 "places_in" ["taps", "parts"] (spPlaces K))
    (h_isinstance : mg "isinstance" = none) (h_tuple : mg "tuple" = none) (h_len : mg "len" = none) (h_all : mg "all" = none) (c1 : ∃ t, mg "MOST_PARTS" = some (.int 200 t)) (c2 : ∃ t, mg "MOST_PLACES" = some (.int 40 t)) : Ok P w K mg base L2.CX0 5 "is_net" ["value"] (spIsNet K) := by
  obtain ⟨_, gMOST_PARTS⟩ := c1
  obtain ⟨_, gMOST_PLACES⟩ := c2
  obtain ⟨_, _, g_are_taps, k_are_taps, b_are_taps, F_are_taps⟩ := B0.ex
  obtain ⟨_, _, g_is_part, k_is_part, b_is_part, F_is_part⟩ := B1.ex
  obtain ⟨_, _, g_mixes_leads_and_hubs, k_mixes_leads_and_hubs, b_mixes_leads_and_hubs, F_mixes_leads_and_hubs⟩ := B2.ex
  obtain ⟨_, _, g_places_in, k_places_in, b_places_in, F_places_in⟩ := B3.ex
  refine Ok.mk0 D sc_is_net (fun vs H Q E h => ?_) (fun _ _ _ _ _ _ us hl => match us, hl with | [_], _ => rfl) (fun f cdv A outer s H vs Q E hr h => ?_)
  · rcases h with ⟨rfl, _⟩ | ⟨v, taps, rs, rfl, _⟩ <;> rfl
  have nd := sc_is_net.nd
  have hr3 := hr.mono (show 3 ≤ 4 by decide)
  have hr2 := hr.mono (show 2 ≤ 4 by decide)
  refine ⟨_, (pss_cons (ps_if (PW.pt (pw_or (pt_not (pt_val (pe_isD "tuple" rfl h_isinstance h_tuple (pv 0)))) (pw_or1 (pt_cmpR op_ne (pe_lenS rfl h_len (pv 0)) pe_int (nomark _)))))
      (pss_one (ps_ret pe_bl))
      pss_nil)
    (pss_cons (ps_asg (pv 0) (pg_tup (by rfl) (pgs_cons (pg_name (i := 1) nd rfl (Or.inl rfl)) (pgs_cons (pg_name (i := 2) nd rfl (Or.inl rfl)) pgs_nil))))
    (pss_cons (ps_if (PW.pt (pw_or (pt_not (pt_val (pe_call F_are_taps hr3 rfl g_are_taps k_are_taps b_are_taps .nil pass0 (pa_cons (pv 1) pa_nil)))) (pw_or (pt_not (pt_val (pe_isD "tuple" rfl h_isinstance h_tuple (pv 2)))) (pw_or1 (pt_cmpR op_gt (pe_lenS rfl h_len (pv 2)) (pe_glob (v := .int 200) rfl gMOST_PARTS ⟨_, rfl⟩) (nomark _))))))
      (pss_one (ps_ret pe_bl))
      pss_nil)
    (pss_cons (ps_if (PW.pt (pw_or (pt_not (pt_val (pe_callB (cr_all rfl) (by rfl) h_all (by decide +kernel) (pa_cons (pe_lc (own := [("part", 3)]) (g := gName 3) (tt := tYes) rfl nd (pi_tup (pv 2)) (blkOk_by (own := [("part", 3)]) (N := ["value", "taps", "parts", "part"]) (sc := defScope sis_net) (by decide +kernel)) (fun _ _ _ _ _ => pg_name (i := 3) nd rfl (Or.inl rfl)) (fun _ _ _ _ _ => pts_nil) (fun _ _ _ _ _ => (pe_call F_is_part hr rfl g_is_part k_is_part b_is_part .nil pass0 (pa_cons (pv 3) pa_nil)))) pa_nil)))) (pw_or1 (pt_val (pe_call F_mixes_leads_and_hubs hr2 rfl g_mixes_leads_and_hubs k_mixes_leads_and_hubs b_mixes_leads_and_hubs .nil pass0 (pa_cons (pv 2) pa_nil))))))
      (pss_one (ps_ret pe_bl))
      pss_nil)
    (pss_one (ps_ret (pe_cmpR op_le (pe_lenS rfl h_len (pe_call F_places_in hr2 rfl g_places_in k_places_in b_places_in .nil pass0 (pa_cons (pv 1) (pa_cons (pv 2) pa_nil)))) (pe_glob (v := .int 40) rfl gMOST_PLACES ⟨_, rfl⟩) (nomark _)))))))), ?_⟩
  rcases h with ⟨rfl, k⟩ | ⟨v, taps, rs, rfl, ⟨a, t, b, us, rfl, ha, ht, hb, hu⟩, ok, k⟩
  · exact ⟨_, rfl, .none, .non, false, rfl, iteT k⟩
  have ll := hu.len
  have few := ok.few
  refine ⟨_, rfl, netData taps rs, (NetAt.dt ⟨a, t, b, us, rfl, ha, ht, hb, hu⟩).dp, true, rfl, iteF ?_⟩
  refine ⟨_, rfl, a, _, rfl, .inr ha, rfl, false, rfl, iteF ?_⟩
  refine ⟨_, rfl, a, _, rfl, ha, rfl, _, _, rfl, _, _, rfl, rfl, ?_⟩
  refine ⟨_, rfl, t, taps, rfl, ht, ok.tsz, fun H1 s1 => ⟨_, rfl, ?_⟩⟩
  rw [ok.tp]
  refine iteF ⟨_, rfl, .tuple (rs.map Raw.data), .tup (same_seqT s1 hb) (dpAll_same s1 hu.dt.dp), true, rfl, iteF ?_⟩
  refine ⟨_, rfl, b, us, rfl, .inr (same_seqT s1 hb), _, _, rfl, rfl, _, rfl, ?_⟩
  rw [decide_eq_false (by omega)]
  refine iteF ⟨_, rfl, b, rfl, ⟨_, same_seqT s1 hb⟩, fun L hL => lc_tup1 (same_seqT s1 hb) (by rw [sizeLine_eq]; omega) (fun i y _ => y = .bl true) (fun _ _ _ _ _ h => h) hL ?_ ?_⟩
  · intro i v H2 F hv s2 kk
    obtain ⟨r, hr5, hraw⟩ := hu.get hv
    have mr := List.mem_of_getElem? hr5
    exact ⟨rfl, _, rfl, v, r, rfl, hraw.keep (.of (s1.trans s2)), ok.right r mr, (ok.esz r mr).1, (ok.esz r mr).2, fun H3 s3 => kk _ _ rfl s3⟩
  · intro acc H2 s2 e hl hy
    have eb : acc = (List.replicate us.length true).map V.bl := bools_of (by simp [hl]) fun i y hi => by
      have q := (List.getElem?_eq_some_iff.mp hi).1
      rw [hy i y hi, List.getElem?_replicate, if_pos (by omega)]
      rfl
    subst eb
    have s12 := s1.trans s2
    refine ⟨L, _, rfl, SqL.of e, _, rfl, ?_⟩
    rw [show (List.replicate us.length true).all id = true by simp]
    refine iteF ⟨_, rfl, b, us, rs, rfl, .inr (same_seqT s12 hb), by omega, hu.keep (.of s12), ok.right, fun H3 s3 => ⟨_, rfl, ?_⟩⟩
    rw [ok.mix]
    have s13 := s12.trans s3
    refine iteF ⟨_, rfl, _, rfl, t, b, taps, us, rs, rfl, same_seqT s13 ht, .inr (same_seqT s13 hb), hu.keep (.of s13), ok.right, ok.sum, fun p ys H4 s4 hp _ pl => ?_⟩
    refine ⟨p, _, rfl, .inl (SqL.of hp), _, _, rfl, rfl, ?_⟩
    have z := k H4 (s13.trans s4)
    have q := ok.places ys pl
    rw [show true = decide (((ys.map V.str).length : Int) ≤ 40) from (decide_eq_true (by rw [List.length_map]; omega)).symm] at z
    exact z
end
end K05
set_option maxHeartbeats 1000000
namespace K05
open PySem PySem.Spec PyProof.Rows L2 Hx RZ
/-! ### check_net -/
structure OwnE (K : PySem.W.Frag) (mg : Str → Option Value) (x : Str) (C : Addr) : Prop where
  q : ∃ B newId initId bmB, ExcBaseFacts B newId initId bmB ∧ PySem.W.excIn K C bmB newId = true
  g : mg x = some (.ref C)
  k : PySem.W.keepIn K (.ref C) = true
  b : PySem.W.subIn K (.ref C) (.type "BaseException") = some true
  t : PySem.W.typeIn K (.ref C) = some (.type "type")
section
variable {P : Program} {w : World} {K : PySem.W.Frag} {mg : Str → Option Value} {base : Heap}
def spCheck (K : PySem.W.Frag) (C : Addr) : Sp := fun vs H Q E => (vs = [V.non] ∧ E (.ref C) none H) ∨ ∃ (v : V) (taps : List Str) (rs : List Raw), vs = [v] ∧ NetAt K H v taps rs ∧ NetOk taps rs ∧ ∀ H', Same H H' → Q .non H'
theorem sc_check_net : FnScope ["net"] ["net"] (defScope scheck_net) := ⟨rfl, rfl, rfl, by decide +kernel, rfl, by decide +kernel, by decide +kernel⟩
theorem ok_check_net {C : Addr} (T : OwnE K mg "BadNet" C) (D : Dn K mg "check_net" scheck_net) (B : Ok P w K mg base L2.CX0 5 "is_net" ["value"] (spIsNet K)) : Ok P w K mg base (L2.CX P w) 6 "check_net" ["net"] (spCheck K C) := by
  obtain ⟨_, _, g_is_net, k_is_net, b_is_net, F_is_net⟩ := B.ex
  obtain ⟨b0, nI, iI, bm, fx, qx⟩ := T.q
  refine Ok.mkX D sc_check_net (fun vs H Q E h => ?_) (fun _ _ _ _ _ _ us hl => match us, hl with | [_], _ => rfl) (fun f cdv A outer s H vs Q E hr h => ?_)
  · rcases h with ⟨rfl, _⟩ | ⟨v, taps, rs, rfl, _⟩ <;> rfl
  refine ⟨_, (pss_one (ps_if (pt_not (pt_val (pe_call F_is_net hr rfl g_is_net k_is_net b_is_net .nil pass0 (pa_cons (pv 0) pa_nil))))
    (pss_one (ps_raise rfl (takes_of rfl rfl rfl rfl) (pmk_own fx qx T.g T.k (raises_own T.b T.t) (by exact rfl))))
    pss_nil)), ?_⟩
  rcases h with ⟨rfl, k⟩ | ⟨v, taps, rs, rfl, hn, ok, k⟩
  · exact ⟨_, rfl, .inl ⟨rfl, _, rfl, iteT k⟩⟩
  · exact ⟨_, rfl, .inr ⟨v, taps, rs, rfl, hn, ok, fun H1 s1 => ⟨_, rfl, iteF (k H1 s1)⟩⟩⟩
end
end K05
set_option maxHeartbeats 1000000
namespace K05
open PySem PySem.Spec PyProof.Rows L2 Hx RZ
/-! ### the text of a net -/
abbrev SPC : Str := " "
abbrev NL : Str := "\n"
abbrev TAPS : Str := "taps"
def tapsLine (taps : List Str) : Str := Txt.join SPC (TAPS :: taps)
def partLine (r : Raw) : Str := Txt.join SPC (r.word :: (r.ends ++ [r.num.text]))
def netLines (taps : List Str) (rs : List Raw) : List Str := tapsLine taps :: rs.map partLine
def netText (taps : List Str) (rs : List Raw) : Str := Txt.join "" ((netLines taps rs).map (· ++ NL))
def NumFit (n : Num) : Prop := 0 ≤ n.top ∧ n.top < 10 ^ 31 ∧ 0 ≤ n.low ∧ n.low < 10 ^ 31
theorem append_len (x y : Str) : (x ++ y).length = x.length + y.length := by rw [TL.len_tl, TL.tl_append, List.length_append, ← TL.len_tl, ← TL.len_tl]
theorem num_len {n : Num} (h : NumFit n) : n.text.length ≤ 63 := by
  obtain ⟨t0, t1, l0, l1⟩ := h
  cases n with
  | w i =>
    have := natS_len t0 t1
    show (natS i).length ≤ 63
    simp only [Num.top] at this
    omega
  | q t b =>
    have h1 := natS_len t0 t1
    have h2 := natS_len l0 l1
    show (natS t ++ "/" ++ natS b).length ≤ 63
    rw [append_len, append_len]
    simp only [Num.top, Num.low] at h1 h2
    have : (Str.ofString "/").length = 1 := rfl
    omega
theorem joinL_len (S : List Nat) : ∀ ps : List (List Nat), (TL.joinL S ps).length ≤ (ps.map (·.length)).sum + ps.length * S.length
  | [] => by simp [TL.joinL]
  | [p] => by simp [TL.joinL]
  | p :: q :: r => by
    have ih := joinL_len S (q :: r)
    show (p ++ (S ++ TL.joinL S (q :: r))).length ≤ _
    rw [List.length_append, List.length_append]
    simp only [List.map_cons, List.sum_cons, List.length_cons] at ih ⊢
    rw [Nat.add_mul (r.length + 1) 1]
    omega
theorem join_len (y : Str) (ps : List Str) : (Txt.join y ps).length ≤ (ps.map (·.length)).sum + ps.length * y.length := by
  rw [TL.join_eq, TL.len_tl, TL.tl_join]
  refine Nat.le_trans (joinL_len _ _) ?_
  rw [List.map_map, List.length_map, ← TL.len_tl]
  have e : (List.length ∘ TL.tl) = fun x : Str => x.length := funext fun x => (TL.len_tl x).symm
  rw [e]
  exact Nat.le_refl _
theorem sum_le {α : Type} (f : α → Nat) (c : Nat) : ∀ l : List α, (∀ x ∈ l, f x ≤ c) → (l.map f).sum ≤ l.length * c
  | [], _ => by simp
  | x :: l, h => by
    have a := h x List.mem_cons_self
    have b := sum_le f c l fun y hy => h y (List.mem_cons_of_mem _ hy)
    rw [List.map_cons, List.sum_cons, List.length_cons, Nat.add_mul]
    omega
theorem name_len {x : Str} (h : nameS x = true) : x.length ≤ 8 := by
  unfold nameS at h
  simp only [Bool.and_eq_true, decide_eq_true_eq] at h
  exact h.1.1.2
theorem right_ends {r : Raw} (h : Right r) : ∀ x ∈ r.ends, nameS x = true := by
  cases h with
  | two k x y n hx hy hk hn =>
    intro z hz
    have e : z = x ∨ z = y := by simpa [Raw.ends] using hz
    rcases e with e | e <;> rw [e] <;> assumption
  | hub ns n h1 h2 hn =>
    intro z hz
    unfold namesS at h1
    rw [Bool.and_eq_true] at h1
    exact List.all_eq_true.mp h1.1 z hz
theorem right_word {r : Raw} (h : Right r) : r.word.length ≤ 4 := by
  cases h with
  | two k x y n hx hy hk hn =>
    rcases hk with ⟨e, _⟩ | ⟨e, _⟩ <;> rw [show Raw.word (.flat [k, x, y] n) = k from rfl, e] <;> decide +kernel
  | hub ns n h1 h2 hn => rw [show Raw.word (.hub ns n) = HUB from rfl]; decide +kernel
/-- what a part's line is joined of -/
theorem part_sum {r : Raw} (h : Right r) (hn : NumFit r.num) : ((r.word :: (r.ends ++ [r.num.text])).map (·.length)).sum ≤ 67 + r.ends.length * 8 := by
  have a := right_word h
  have b := num_len hn
  have c := sum_le (fun x : Str => x.length) 8 r.ends fun x hx => name_len (right_ends h x hx)
  simp only [List.map_cons, List.sum_cons, List.map_append, List.sum_append, List.map_nil, List.sum_nil]
  omega
theorem part_len {r : Raw} (h : Right r) (hn : NumFit r.num) : (partLine r).length ≤ 69 + r.ends.length * 9 := by
  have a := join_len SPC (r.word :: (r.ends ++ [r.num.text]))
  have b := part_sum h hn
  have e : SPC.length = 1 := rfl
  rw [e, List.length_cons, List.length_append] at a
  simp only [List.length_cons, List.length_nil] at a
  unfold partLine
  omega
theorem taps_sum {taps : List Str} (h : tapsS taps = true) : ((TAPS :: taps).map (·.length)).sum ≤ 4 + taps.length * 8 ∧ taps.length ≤ 6 := by
  unfold tapsS at h
  simp only [Bool.and_eq_true, decide_eq_true_eq] at h
  obtain ⟨h1, _, h6⟩ := h
  unfold namesS at h1
  rw [Bool.and_eq_true] at h1
  have c := sum_le (fun x : Str => x.length) 8 taps fun x hx => name_len (List.all_eq_true.mp h1.1 x hx)
  have e : TAPS.length = 4 := rfl
  simp only [List.map_cons, List.sum_cons]
  exact ⟨by omega, h6⟩
theorem taps_len {taps : List Str} (h : tapsS taps = true) : (tapsLine taps).length ≤ 59 := by
  have a := join_len SPC (TAPS :: taps)
  have b := taps_sum h
  have e : SPC.length = 1 := rfl
  rw [e, List.length_cons] at a
  unfold tapsLine
  omega
theorem ends_sum : ∀ rs : List Raw, (rs.map fun r => r.ends.length).sum = (rs.flatMap Raw.ends).length
  | [] => rfl
  | r :: rs => by
    rw [List.map_cons, List.sum_cons, List.flatMap_cons, List.length_append, ends_sum rs]
theorem parts_sum : ∀ rs : List Raw, (∀ r ∈ rs, Right r ∧ NumFit r.num) → ((rs.map partLine).map (fun x => (x ++ NL).length)).sum ≤ rs.length * 70 + (rs.flatMap Raw.ends).length * 9
  | [], _ => by simp
  | r :: rs, h => by
    have a := part_len (h r List.mem_cons_self).1 (h r List.mem_cons_self).2
    have b := parts_sum rs fun q hq => h q (List.mem_cons_of_mem _ hq)
    have e : NL.length = 1 := rfl
    simp only [List.map_cons, List.sum_cons, List.length_cons, List.flatMap_cons, List.length_append, append_len, e] at b ⊢
    omega
/-- the whole text is small -/
theorem text_small {taps : List Str} {rs : List Raw} (ok : NetOk taps rs) (hn : ∀ r ∈ rs, NumFit r.num) : (((netLines taps rs).map (· ++ NL)).map (·.length)).sum ≤ 60000 := by
  have a := taps_len ok.tp
  have b := parts_sum rs fun r h => ⟨ok.right r h, hn r h⟩
  have c := ok.sum
  have d := ok.few
  have e : NL.length = 1 := rfl
  have f : scanBound = 4096 := rfl
  unfold allEnds at c
  rw [List.length_append, f] at c
  unfold netLines
  rw [List.map_cons, List.map_cons, List.sum_cons, append_len, List.map_map]
  have g : (List.map ((fun x : Str => x.length) ∘ fun x => x ++ NL) (rs.map partLine)).sum = ((rs.map partLine).map (fun x => (x ++ NL).length)).sum := rfl
  rw [g]
  omega
end K05
set_option maxHeartbeats 1000000
/-! ### [1 for x in xs if t], held against [] -/
namespace Hx
open PySem PySem.Spec PyProof.Rows L2
section
variable {J : It} {n : Nat} {g : TG} {tt : TT} {vs : List Nat} {σ : L2.St} {H1 : Hp} {D : Addr} {Qd : Hp → Prop}
theorem lc_ones (f : Nat → Bool) (hn : H1 D = none) (hsz : n < sizeLine) (go : ∀ i H, i < n → Same H1 H → J.go i H) (stop : ∀ H, Same H1 H → J.stop n H)
    (turn : ∀ (i : Nat) (x : V) (H H' : Hp) (F : Bool → Hp → Prop), i < n → Same H1 H → J.yld i H x H' → (∀ H4, Same H H4 → F (f i) H4) → g x (wipe σ vs) H' fun σ2 H2 => wipe σ2 vs = wipe σ vs ∧ tt σ2 H2 F)
    (hd : ∀ c H, Same H1 H → H D = some (.lst (List.replicate c (.int 1))) → c ≤ n → (c = 0 ↔ ∀ i, i < n → f i = false) → Qd H) : LcGoal J g tt (tC (.int 1)) vs σ H1 D Qd := by
  have s1 : ∀ {H : Hp} {o : HO}, Same H1 H → Same H1 (upd H D o) := fun s b u e => by rw [upd_ne (ne_of_none e hn)]; exact s b u e
  refine lc_any (fun i H => ∃ c, Same H1 H ∧ H D = some (.lst (List.replicate c (.int 1))) ∧ c ≤ i ∧ (c = 0 ↔ ∀ j, j < i → f j = false)) ⟨0, s1 (Same.refl H1), upd_same, Nat.le_refl _, ⟨fun _ j hj => by omega, fun _ => rfl⟩⟩ (fun i H hi ⟨_, s, _⟩ => go i H hi s) (fun H ⟨_, s, _⟩ => stop H s) ?_ fun H ⟨c, s, e, l, k⟩ => hd c H s e l k
  rintro i x H H' hi ⟨c, s, e, l, k⟩ y
  have q := turn i x H H' (fun b H3 => if b = true then ∃ acc, H3 D = some (.lst acc) ∧ acc.length < sizeLine ∧ ∃ c, Same H1 (upd H3 D (.lst (acc ++ [.int 1]))) ∧ (upd H3 D (.lst (acc ++ [.int 1]))) D = some (.lst (List.replicate c (.int 1))) ∧ c ≤ i + 1 ∧ (c = 0 ↔ ∀ j, j < i + 1 → f j = false)
    else ∃ c, Same H1 H3 ∧ H3 D = some (.lst (List.replicate c (.int 1))) ∧ c ≤ i + 1 ∧ (c = 0 ↔ ∀ j, j < i + 1 → f j = false)) hi s y fun H4 s4 => ?_
  · exact q
  have e4 := s4 _ _ e
  cases hf : f i with
  | true =>
    rw [if_pos rfl]
    refine ⟨_, e4, by rw [List.length_replicate]; omega, c + 1, s1 (s.trans s4), ?_, by omega, ⟨fun z => by omega, fun z => by rw [z i (by omega)] at hf; cases hf⟩⟩
    rw [upd_same, List.replicate_succ']
  | false =>
    rw [if_neg (by decide)]
    refine ⟨c, s.trans s4, e4, by omega, ?_⟩
    rw [k]
    exact ⟨fun z j hj => by
      by_cases q : j = i
      · rw [q]; exact hf
      · exact z j (by omega), fun z j hj => z j (by omega)⟩
end
theorem ones_sh (c : Nat) : SeqAt.shaped (.list (List.replicate c (.int 1))) = true := (sh_list (n := 0) fun d hd => by rw [(List.mem_replicate.mp hd).2]; exact sh_int 1).shaped (by decide)
theorem nil_sh : SeqAt.shaped (.list []) = true := (sh_list (n := 0) fun d hd => by simp at hd).shaped (by decide)
theorem ones_dp {K : PySem.W.Frag} {H : Hp} {D : Addr} {c : Nat} (e : H D = some (.lst (List.replicate c (.int 1)))) : Dp K H (.ref D) (.list (List.replicate c (.int 1))) := by
  have q := dpAll_ints (K := K) (H := H) (List.replicate c 1)
  rw [List.map_replicate, List.map_replicate] at q
  exact .lst (SqL.of e) q
theorem ones_nil (c : Nat) : PyData.eqv (.list (List.replicate c (.int 1))) (.list []) = decide (c = 0) := by
  rw [eqv_nil]
  cases c <;> simp
/-- .. != [] -/
theorem ones_ne {K : PySem.W.Frag} {H : Hp} {D : Addr} {c : Nat} {Q : VK} (e : H D = some (.lst (List.replicate c (.int 1)))) (k : ∀ H', Same H H' → Q (.bl (!decide (c = 0))) H') :
    ([] : List V).length ≤ sizeLine ∧ ∀ p, H p = none → rNeD K (.ref D) (.ref p) (upd H p (.lst [])) Q := by
  refine ⟨by simp, fun p hp => ?_⟩
  have s : Same H (upd H p (.lst [])) := fun b u q => by rw [upd_ne (ne_of_none q hp)]; exact q
  refine ⟨_, .list [], ones_dp (s _ _ e), .lst (SqL.of upd_same) .nil, ones_sh c, nil_sh, ?_⟩
  rw [ones_nil]
  exact k _ s
/-- .. == [] -/
theorem ones_eq {K : PySem.W.Frag} {H : Hp} {D : Addr} {c : Nat} {Q : VK} (e : H D = some (.lst (List.replicate c (.int 1)))) (k : ∀ H', Same H H' → Q (.bl (decide (c = 0))) H') :
    ([] : List V).length ≤ sizeLine ∧ ∀ p, H p = none → rEqD K (.ref D) (.ref p) (upd H p (.lst [])) Q := by
  refine ⟨by simp, fun p hp => ?_⟩
  have s : Same H (upd H p (.lst [])) := fun b u q => by rw [upd_ne (ne_of_none q hp)]; exact q
  refine ⟨_, .list [], ones_dp (s _ _ e), .lst (SqL.of upd_same) .nil, ones_sh c, nil_sh, ?_⟩
  rw [ones_nil]
  exact k _ s
end Hx
set_option maxHeartbeats 1000000
namespace K05
open PySem PySem.Spec PyProof.Rows L2 Hx RZ
/-! ### rising lists of names -/
def ded : List Str → List Str
  | [] => []
  | x :: l => if x ∈ ded l then ded l else x :: ded l
theorem ded_mem : ∀ (l : List Str) (z : Str), z ∈ ded l ↔ z ∈ l
  | [], z => Iff.rfl
  | x :: l, z => by
    unfold ded
    split
    · next h =>
      rw [ded_mem l z, List.mem_cons]
      exact ⟨.inr, fun q => q.elim (fun e => by rw [e]; exact (ded_mem l x).mp h) id⟩
    · rw [List.mem_cons, List.mem_cons, ded_mem l z]
theorem ded_nodup : ∀ l : List Str, (ded l).Nodup
  | [] => .nil
  | x :: l => by
    unfold ded
    split
    · exact ded_nodup l
    · next h => exact List.nodup_cons.mpr ⟨h, ded_nodup l⟩
theorem rSlL_any {K : PySem.W.Frag} {H : Hp} {a : Addr} {xs ys : List V} {lo hi : Option Int} {Q : VK} (ha : SqL K H a xs) (hy : cutV xs lo hi = ys) (q : ∀ p, H p = none → Q (.ref p) (upd H p (.lst ys))) : rSlL K (.ref a) lo hi H Q :=
  ⟨a, xs, rfl, ha, fun p hp => by rw [hy]; exact q p hp⟩
theorem nodup_le {l m : List Str} (nd : l.Nodup) (sub : ∀ x ∈ l, x ∈ m) : l.length ≤ m.length := by
  induction l generalizing m with
  | nil => exact Nat.zero_le _
  | cons x l ih =>
    have n2 := List.nodup_cons.mp nd
    have hx := sub x List.mem_cons_self
    have q := ih (m := m.erase x) n2.2 fun y hy => (List.mem_erase_of_ne fun e => n2.1 (by rw [← e]; exact hy)).mpr (sub y (List.mem_cons_of_mem _ hy))
    rw [List.length_erase_of_mem hx] at q
    have := List.length_pos_of_mem hx
    simp
    omega
theorem dle2 {a : Nat} {k : Nat} : decide ((a : Int) ≤ (k : Int)) = decide (a ≤ k) := dle
def cntU (l : List Str) : Nat := (ded l).length
theorem places_len {ys ends : List Str} (h : Places ys ends) : ys.length = cntU ends :=
  Nat.le_antisymm (nodup_le h.1 fun x hx => (ded_mem _ _).mpr ((h.2.1 x).mp hx)) (nodup_le (ded_nodup _) fun x hx => (h.2.1 x).mpr ((ded_mem _ _).mp hx))
abbrev tl (x : Str) : List Nat := x.cps.toList
theorem tl_inj {x y : Str} (h : tl x = tl y) : x = y := TL.ext_tl h
def Asc (l : List Str) : Prop := l.Pairwise fun a b => tl a < tl b
theorem lt_tr {a b c : List Nat} (h : a < b) (k : b < c) : a < c := List.lt_trans h k
theorem lt_ir (a : List Nat) : ¬ a < a := List.lt_irrefl a
theorem lt_or {a b : List Nat} (h : ¬ b < a) (ne : a ≠ b) : a < b := by
  rcases Classical.em (a < b) with q | q
  · exact q
  · exact absurd (List.le_antisymm (show a ≤ b from h) (show b ≤ a from q)) ne
theorem rise_asc : ∀ {l : List Str}, riseS l = true → Asc l
  | [], _ => .nil
  | [x], _ => by simp [Asc]
  | x :: y :: r, h => by
    have e : riseS (x :: y :: r) = (decide (tl x < tl y) && riseS (y :: r)) := by
      unfold riseS
      rfl
    rw [e, Bool.and_eq_true, decide_eq_true_eq] at h
    have q := rise_asc h.2
    refine List.pairwise_cons.mpr ⟨fun z hz => ?_, q⟩
    rcases List.mem_cons.mp hz with e | e
    · rw [e]; exact h.1
    · exact lt_tr h.1 ((List.pairwise_cons.mp q).1 z e)
theorem asc_rise : ∀ {l : List Str}, Asc l → riseS l = true
  | [], _ => rfl
  | [x], _ => rfl
  | x :: y :: r, h => by
    have e : riseS (x :: y :: r) = (decide (tl x < tl y) && riseS (y :: r)) := by
      unfold riseS
      rfl
    have q := List.pairwise_cons.mp h
    rw [e, asc_rise q.2, decide_eq_true (q.1 y List.mem_cons_self)]
    rfl
theorem asc_eq : ∀ {l m : List Str}, Asc l → Asc m → (∀ z, z ∈ l ↔ z ∈ m) → l = m
  | [], m, _, _, h => by
    cases m with
    | nil => rfl
    | cons y m => exact absurd ((h y).mpr List.mem_cons_self) (by simp)
  | x :: l, [], _, _, h => absurd ((h x).mp List.mem_cons_self) (by simp)
  | x :: l, y :: m, hl, hm, h => by
    have ql := List.pairwise_cons.mp hl
    have qm := List.pairwise_cons.mp hm
    have exy : x = y := by
      have hx := (h x).mp List.mem_cons_self
      have hy := (h y).mpr List.mem_cons_self
      rcases List.mem_cons.mp hx with e | e
      · exact e
      · rcases List.mem_cons.mp hy with e2 | e2
        · exact e2.symm
        · exact absurd (lt_tr (qm.1 x e) (ql.1 y e2)) (lt_ir _)
    subst exy
    congr 1
    refine asc_eq ql.2 qm.2 fun z => ⟨fun hz => ?_, fun hz => ?_⟩
    · rcases List.mem_cons.mp ((h z).mp (List.mem_cons_of_mem _ hz)) with e | e
      · exact absurd (ql.1 z hz) (by rw [e]; exact lt_ir _)
      · exact e
    · rcases List.mem_cons.mp ((h z).mpr (List.mem_cons_of_mem _ hz)) with e | e
      · exact absurd (qm.1 z hz) (by rw [e]; exact lt_ir _)
      · exact e
theorem rising_of : ∀ {p : Str} {l : List Str}, risingS p l = true → (p :: l).Nodup → Asc (p :: l)
  | p, [], _, _ => by simp [Asc]
  | p, x :: r, h, nd => by
    have e : risingS p (x :: r) = (!ltCps x.cps.toList p.cps.toList && risingS x r) := rfl
    rw [e, Bool.and_eq_true, ltCps_eq, Bool.not_eq_true', decide_eq_false_iff_not] at h
    have n2 := List.nodup_cons.mp nd
    have q := rising_of h.2 n2.2
    have pl : tl p < tl x := lt_or h.1 fun e => n2.1 (by rw [tl_inj e]; exact List.mem_cons_self)
    refine List.pairwise_cons.mpr ⟨fun z hz => ?_, q⟩
    rcases List.mem_cons.mp hz with e | e
    · rw [e]; exact pl
    · exact lt_tr pl ((List.pairwise_cons.mp q).1 z e)
theorem places_asc {ys ends : List Str} (h : Places ys ends) : Asc ys := by
  obtain ⟨nd, _, so⟩ := h
  cases ys with
  | nil => exact .nil
  | cons x r => exact rising_of so nd
/-- list(ns) == sorted(set(ns)) -/
theorem rise_iff {ns ys : List Str} (h : Places ys ns) : decide (ns = ys) = riseS ns := by
  rw [Bool.eq_iff_iff, decide_eq_true_eq]
  constructor
  · intro e
    rw [e]
    exact asc_rise (places_asc h)
  · intro e
    exact asc_eq (rise_asc e) (places_asc h) fun z => (h.2.1 z).symm
theorem eqv_strs (xs ys : List Str) : PyData.eqv (.list (xs.map .str)) (.list (ys.map .str)) = decide (xs = ys) := PySem.W.eqvAll_map xs ys
theorem name_signs {x : Str} (h : nameS x = true) : ∀ c ∈ x.cps.toList, c < 128 := by
  unfold nameS at h
  simp only [Bool.and_eq_true] at h
  intro c hc
  have q := List.all_eq_true.mp h.2 c hc
  rw [decide_eq_true_eq] at q
  have e : (LED.cps.toList.all fun c => decide (c < 128)) = true := by decide +kernel
  exact of_decide_eq_true (List.all_eq_true.mp e c q)
theorem name_ok {x : Str} (h : nameS x = true) : PyData.canLay0 (.str x) = true := by
  have q := name_signs h
  show (x.cps.all fun c => decide (c < 0x110000)) = true
  rw [← Array.all_toList, List.all_eq_true]
  intro c hc
  rw [decide_eq_true_eq]
  have := q c hc
  omega
theorem names_sh {xs : List Str} (h : ∀ x ∈ xs, nameS x = true) : SeqAt.shaped (.list (xs.map .str)) = true := (sh_list (n := 0) fun d hd => by
  obtain ⟨x, hx, rfl⟩ := List.mem_map.mp hd
  exact ⟨name_ok (h x hx), by simp [PyData.depth]⟩).shaped (by decide)
end K05
set_option maxHeartbeats 1000000
/-! ### sorted(list of texts), any size -/
namespace Hx
open PySem PySem.Spec PyProof.Rows L2
section
variable {X : Cx}
def rSrtS (K : PySem.W.Frag) : List V → Hp → VK → Prop := fun vs H Q => ∃ (a : Addr) (xs : List Str), vs = [V.ref a] ∧ SqL K H a (xs.map V.str) ∧ xs.length ≤ sizeLine ∧
  ∀ (ys : List Str) (p : Addr), ys.Perm xs → sortedS ys = true → H p = none → Q (.ref p) (upd H p (.lst (ys.map V.str)))
theorem cr_srtS : CallR X (.builtin "sorted") (rSrtS X.K) := by
  intro pins s σ H vs us Q I r h
  obtain ⟨a, xs, rfl, hs, hz, q⟩ := h
  obtain ⟨its, rv, hl, _⟩ := I.list hs
  rw [Vals.ref1 r]
  have le := rv.length
  rw [List.length_map] at le
  refine PyProof.Rows.sorted_strsAny hl.isList rv.strs (by rw [← le]; exact hz) fun out ys y1 y2 y3 => ?_
  obtain ⟨c, hc⟩ := PyProof.Rows.sortedAll_at s.heap its out
  have hz2 : (ys.map V.str).length ≤ sizeLine := by rw [List.length_map, y2.length_eq]; exact hz
  exact ⟨.ref _, upd H (s.heap.objs.size + 1) (.lst (ys.map V.str)), I.laid (t' := s.toks) (fun _ _ => PyProof.Rows.sortedAll_old) (Nat.le_succ _) ⟨hz2, out.toList, c, vals_of_strs y1, hc⟩, rfl, q ys _ y2 y3 (I.hok.fresh (Nat.le_succ _))⟩
end
theorem inV_strs {z : Str} : ∀ fs : List Str, inV (.str z) (fs.map V.str) = decide (z ∈ fs)
  | [] => by simp [inV]
  | f :: fs => by
    have ih := inV_strs (z := z) fs
    have e : inV (.str z) ((f :: fs).map V.str) = ((f == z) || inV (.str z) (fs.map V.str)) := rfl
    rw [e, ih]
    by_cases h : f = z
    · subst h; simp
    · have h2 : ¬ z = f := fun q => h q.symm
      simp [h, h2]
theorem flat_strs (fs : List Str) : (fs.map V.str).all flatV = true := by
  rw [List.all_eq_true]
  intro v hv
  obtain ⟨x, _, rfl⟩ := List.mem_map.mp hv
  rfl
end Hx
set_option maxHeartbeats 1000000
namespace K05
open PySem PySem.Spec PyProof.Rows L2 Hx RZ
/-! ### an_ends, an_every -/
section
variable {P : Program} {w : World} {K : PySem.W.Frag} {mg : Str → Option Value} {base : Heap}
theorem right_hub {r : Raw} (h : Right r) {H : Hp} {v : V} (hv : RawAt K H v r) : (∃ a xs b, v = .ref a ∧ SqT K H a xs ∧ atI xs 0 = some (.str HUB) ∧ atI xs 1 = some (.ref b) ∧ SqT K H b (r.ends.map V.str)) ∨
    (∃ a xs kw, v = .ref a ∧ SqT K H a xs ∧ atI xs 0 = some (.str kw) ∧ kw ≠ HUB ∧ cutV xs (some ((1 : Nat) : Int)) (some ((3 : Nat) : Int)) = r.ends.map V.str) := by
  cases h with
  | hub ns n _ _ _ =>
    obtain ⟨a, b, u, rfl, ha, hb, hu⟩ := hv
    exact .inl ⟨a, _, b, rfl, ha, rfl, rfl, hb⟩
  | two kw x y n hx hy hk hn =>
    obtain ⟨a, u, rfl, ha, hu⟩ := hv
    refine .inr ⟨a, _, kw, rfl, ha, rfl, ?_, cut_between 1 3 (by simp)⟩
    rcases hk with ⟨e, _⟩ | ⟨e, _⟩ <;> rw [e]
    · exact pipe_hub
    · exact lead_hub
theorem sc_an_ends : FnScope ["part"] ["part"] (defScope sL_an_ends) := ⟨rfl, rfl, rfl, by decide +kernel, rfl, by decide +kernel, by decide +kernel⟩
theorem ok_an_ends (D : Dn K mg "_law_an_ends" sL_an_ends) : Ok P w K mg base L2.CX0 1 "_law_an_ends" ["part"] (spEnds K) := by
  refine Ok.mk0 D sc_an_ends (fun vs H Q E h => ?_) (fun _ _ _ _ _ _ us hl => match us, hl with | [_], _ => rfl) (fun f cdv A outer s H vs Q E hr h => ?_)
  · obtain ⟨x, ns, rfl, _⟩ := h
    rfl
  obtain ⟨v, r, rfl, hv, ok, k⟩ := h
  refine ⟨_, (pss_one (ps_ret (pe_ifExp (pt_cmpR op_eq (pe_ix ix_tup (pv 0) pe_int (fun _ _ => rfl)) pe_str (nomark _)) (pe_ix ix_tup (pv 0) pe_int (fun _ _ => rfl)) (pe_slice sl_tupA (pv 0) (po_some pe_int) (po_some pe_int))))), ?_⟩
  rcases right_hub ok hv with ⟨a, xs, b, rfl, ha, h0, h1, hb⟩ | ⟨a, xs, kw, rfl, ha, h0, nk, hc⟩
  · exact ⟨_, rfl, a, _, 0, _, rfl, rfl, ha, h0, rfl, true, congrArg V.bl (decide_eq_true rfl), iteT ⟨_, rfl, a, _, 1, _, rfl, rfl, ha, h1, k b H (Same.refl H) hb⟩⟩
  · refine ⟨_, rfl, a, _, 0, _, rfl, rfl, ha, h0, rfl, false, congrArg V.bl (decide_eq_false (fun q => nk (V.str.inj q))), iteF ⟨_, rfl, _, rfl, _, rfl, ?_⟩⟩
    show rSlA K (.ref a) (some ((1 : Nat) : Int)) (some ((3 : Nat) : Int)) H _
    exact rSlA_any ha hc fun p H' s q => k p H' s q
theorem allEnds_app (taps : List Str) (rs : List Raw) (r : Raw) : allEnds taps (rs ++ [r]) = allEnds taps rs ++ r.ends := by
  unfold allEnds
  rw [List.flatMap_append, List.append_assoc]
  simp
def spEvery (K : PySem.W.Frag) : Sp := fun vs H Q _ => ∃ (v : V) (taps : List Str) (rs : List Raw), vs = [v] ∧ NetAt K H v taps rs ∧ taps.Nodup ∧ (∀ r ∈ rs, Right r) ∧ (allEnds taps rs).length ≤ 4000 ∧
  ∀ p ys H', Same H H' → H' p = some (.lst (ys.map V.str)) → Places ys (allEnds taps rs) → Q (.ref p) H'
theorem sc_an_every : FnScope ["net_here", "found", "part", "place"] ["net_here"] (defScope sL_an_every) := ⟨rfl, rfl, rfl, by decide +kernel, rfl, by decide +kernel, by decide +kernel⟩
theorem ok_an_every (D : Dn K mg "_law_an_every" sL_an_every) (h_list : mg "list" = none) (h_sorted : mg "sorted" = none) : Ok P w K mg base L2.CX0 1 "_law_an_every" ["net_here"] (spEvery K) := by
  refine Ok.mk0 D sc_an_every (fun vs H Q E h => ?_) (fun _ _ _ _ _ _ us hl => match us, hl with | [_], _ => rfl) (fun f cdv A outer s H vs Q E hr h => ?_)
  · obtain ⟨x, t, r, rfl, _⟩ := h
    rfl
  obtain ⟨v, taps, rs, rfl, ⟨a, t, b, us, rfl, ha, ht, hb, hu⟩, tnd, ok, hl, k⟩ := h
  have nd := sc_an_every.nd
  refine ⟨_, (pss_cons (ps_set (i := 1) nd rfl (Or.inl rfl) (pe_callTy call_list_of (by rfl) h_list (by decide +kernel) (pa_cons (pe_ix ix_tup (pv 0) pe_int (fun _ _ => rfl)) pa_nil)))
    (pss_cons (ps_for PassesOwn.never rfl (pi_tup (pe_ix ix_tup (pv 0) pe_int (fun _ _ => rfl))) (pg_name (i := 2) nd rfl (Or.inl rfl))
      (pss_one (ps_for PassesOwn.never rfl (pi_tup (pe_ifExp (pt_cmpR op_eq (pe_ix ix_tup (pv 2) pe_int (fun _ _ => rfl)) pe_str (nomark _)) (pe_ix ix_tup (pv 2) pe_int (fun _ _ => rfl)) (pe_slice sl_tupA (pv 2) (po_some pe_int) (po_some pe_int)))) (pg_name (i := 3) nd rfl (Or.inl rfl))
        (pss_one (ps_if (pt_cmpR op_notIn_seq (pv 3) (pv 1) (by rfl))
          (pss_one (ps_expr (pe_bm PySem.F.plainAttrs_list PySem.F.slot_list_append PySem.F.type_list_append mt_append (pv 1) (pa_cons (pv 3) pa_nil))))
          pss_nil)))))
    (pss_one (ps_ret (pe_callB cr_srtS (by rfl) h_sorted (by decide +kernel) (pa_cons (pv 1) pa_nil)))))), ?_⟩
  refine ⟨_, rfl, a, _, 0, _, rfl, rfl, ha, rfl, t, _, rfl, .inr ht, fun l hl0 => ?_⟩
  have s0 : Same H (upd H l (.lst (taps.map V.str))) := same_upd hl0
  refine ⟨_, rfl, a, _, 1, _, rfl, rfl, same_seqT s0 ha, rfl, b, rfl, ⟨_, same_seqT s0 hb⟩, ?_⟩
  let Pv : Nat → L2.St → Hp → Prop := fun i σ H' => ∃ (o1 o2 : Option V) (fs : List Str), σ = [some (.ref a), some (.ref l), o1, o2] ∧ Same H H' ∧ H' l = some (.lst (fs.map V.str)) ∧ fs.Nodup ∧ ∀ z, z ∈ fs ↔ z ∈ allEnds taps (rs.take i)
  refine for_tup Pv ⟨_, _, taps, rfl, s0, upd_same, tnd, fun z => by unfold allEnds; simp⟩ (fun i σ H' _ ⟨_, _, _, z⟩ => same_seqT z.2.1 hb) ?_ ?_
  · rintro i x σ H' hx ⟨o1, o2, fs, rfl, s4, el, fnd, fm⟩
    obtain ⟨r, hr2, hraw⟩ := hu.get hx
    have mr := List.mem_of_getElem? hr2
    have hraw4 := hraw.keep (.of s4)
    let Pw : Hp → Nat → L2.St → Hp → Prop := fun H6 j σ H5 => ∃ (o2 : Option V) (fs : List Str), σ = [some (.ref a), some (.ref l), some x, o2] ∧ TK H6 H5 ∧ Same H H5 ∧ H5 l = some (.lst (fs.map V.str)) ∧ fs.Nodup ∧ ∀ z, z ∈ fs ↔ z ∈ allEnds taps (rs.take i) ++ r.ends.take j
    have h0 : ∀ H5, Same H' H5 → Pw H5 0 [some (.ref a), some (.ref l), some x, o2] H5 := fun H5 s5 => ⟨_, fs, rfl, .refl _, s4.trans s5, s5 _ _ el, fnd, fun z => by rw [fm]; simp⟩
    have bound : ∀ j (gs : List Str), gs.Nodup → (∀ z, z ∈ gs ↔ z ∈ allEnds taps (rs.take i) ++ r.ends.take j) → gs.length ≤ 4000 := fun j gs g1 g2 => by
      refine Nat.le_trans (nodup_le (m := allEnds taps rs) g1 fun z hz => ?_) hl
      have q := (g2 z).mp hz
      have e : z ∈ allEnds taps (rs.take (i + 1)) := by
        rw [← ends_step hr2]
        rcases List.mem_append.mp q with q | q
        · exact List.mem_append_left _ q
        · exact List.mem_append_right _ (List.mem_of_mem_take q)
      unfold allEnds at e ⊢
      rcases List.mem_append.mp e with q | q
      · exact List.mem_append_left _ q
      · obtain ⟨r2, hr2, hz2⟩ := List.mem_flatMap.mp q
        exact List.mem_append_right _ (List.mem_flatMap.mpr ⟨r2, List.mem_of_mem_take hr2, hz2⟩)
    rcases right_hub (ok r mr) hraw4 with ⟨pa, xs, pb, rfl, hpa, e0, e1, hpb⟩ | ⟨pa, xs, kw, rfl, hpa, e0, nk, hc⟩
    all_goals first
      | refine ⟨_, rfl, pa, _, 0, _, rfl, rfl, hpa, e0, rfl, true, congrArg V.bl (decide_eq_true rfl), iteT ⟨_, rfl, pa, _, 1, _, rfl, rfl, hpa, e1, pb, rfl, ⟨_, hpb⟩, for_tup (xs := r.ends.map V.str) (Pw H') (h0 _ (Same.refl _)) (fun j σ H5 _ ⟨_, _, _, z⟩ => tk_seqT z.1 hpb) ?_ ?_⟩⟩
      | (refine ⟨_, rfl, pa, _, 0, _, rfl, rfl, hpa, e0, rfl, false, congrArg V.bl (decide_eq_false (fun q => nk (V.str.inj q))), iteF ⟨_, rfl, _, rfl, _, rfl, ?_⟩⟩
         show rSlA K (.ref pa) (some ((1 : Nat) : Int)) (some ((3 : Nat) : Int)) H' _
         refine rSlA_any hpa hc fun q H5 s5 hq => ⟨q, rfl, ⟨_, hq⟩, for_tup (xs := r.ends.map V.str) (Pw H5) (h0 _ s5) (fun j σ H5 _ ⟨_, _, _, z⟩ => tk_seqT z.1 hq) ?_ ?_⟩)
    all_goals first
      | (intro σ H6 pw
         obtain ⟨o3, gs, e9, tk, s6, el6, gnd, gm⟩ := pw
         have gm2 : ∀ u, u ∈ gs ↔ u ∈ allEnds taps (rs.take (i + 1)) := fun u => by
           rw [gm u, List.length_map, List.take_length, ends_step hr2]
         exact ⟨_, _, gs, e9, s6, el6, gnd, gm2⟩)
      | (rintro j y σ H6 hy ⟨o3, gs, rfl, tk, s6, el6, gnd, gm⟩
         obtain ⟨z, hz, rfl⟩ := strs_at hy
         have eT : ∀ u, u ∈ allEnds taps (rs.take i) ++ r.ends.take (j + 1) ↔ u ∈ allEnds taps (rs.take i) ++ r.ends.take j ∨ u = z := fun u => by
           rw [List.take_add_one, hz, ← List.append_assoc, List.mem_append (t := Option.toList _)]
           simp
         refine ⟨_, rfl, _, rfl, l, _, rfl, .inl (SqL.of el6), rfl, Hx.flat_strs gs, _, congrArg V.bl (congrArg Bool.not (inV_strs gs)), ?_⟩
         by_cases hin : z ∈ gs
         · rw [decide_eq_true hin]
           exact iteF ⟨_, gs, rfl, tk, s6, el6, gnd, fun u => by
             rw [eT, ← gm]
             exact ⟨.inl, fun q => q.elim id fun e => by rw [e]; exact hin⟩⟩
         · rw [decide_eq_false hin]
           have gl := bound j gs gnd gm
           refine iteT ⟨_, rfl, .inl ⟨rfl, _, SqL.of el6⟩, _, rfl, l, _, _, rfl, rfl, el6, by rw [sizeLine_eq, List.length_map]; omega, ?_⟩
           refine ⟨_, gs ++ [z], rfl, tk.trans (.lst el6), fun b2 o e => ?_, ?_, ?_, fun u => ?_⟩
           · rw [upd_ne (ne_of_none e hl0)]
             exact s6 _ _ e
           · rw [upd_same, List.map_append]
             rfl
           · exact List.nodup_append.mpr ⟨gnd, by simp, fun u hu v hv e => hin (by rw [List.mem_singleton.mp hv] at e; rw [← e]; exact hu)⟩
           · rw [eT, ← gm, List.mem_append, List.mem_singleton])
  · rintro σ H' ⟨o1, o2, fs, rfl, s4, el, fnd, fm⟩
    rw [hu.len, List.take_length] at fm
    have fl : fs.length ≤ 4000 := Nat.le_trans (nodup_le fnd fun x hx => (fm x).mp hx) hl
    refine ⟨_, rfl, l, fs, rfl, SqL.of el, by rw [sizeLine_eq]; omega, fun ys p pm so hp => ?_⟩
    exact k p ys _ (s4.trans (same_upd hp)) upd_same ⟨pm.nodup_iff.mpr fnd, fun z => by rw [pm.mem_iff, fm], so⟩
end
end K05
set_option maxHeartbeats 1000000
namespace K05
open PySem PySem.Spec PyProof.Rows L2 Hx RZ
/-! ### the law draws numbers and taps -/
theorem cut_to {xs : List V} : cutV xs none (some (-1)) = xs.take (xs.length - 1) := by
  have e : HT.sIx xs.length xs.length (some (-1)) = xs.length - 1 := by
    show (if (-1 : Int) < 0 then ((-1 : Int) + (xs.length : Int)).toNat else min (-1 : Int).toNat xs.length) = _
    rw [if_pos (by decide)]
    omega
  unfold cutV
  rw [e]
  show (xs.drop 0).take (xs.length - 1 - 0) = _
  rw [List.drop_zero, Nat.sub_zero]
theorem rCatA_any {K : PySem.W.Frag} {H : Hp} {a b : Addr} {xs ys : List V} {Q : VK} (ha : SqT K H a xs) (hb : SqT K H b ys) (len : xs.length + ys.length ≤ sizeLine) (q : ∀ p H', Same H H' → SqT K H' p (xs ++ ys) → Q (.ref p) H') : rCatA K (.ref a) (.ref b) H Q :=
  ⟨a, b, xs, ys, rfl, rfl, ha, hb, len, fun e => q b H (Same.refl H) (by rw [e]; exact hb), fun _ e => q a H (Same.refl H) (by rw [e, List.append_nil]; exact ha), fun _ _ p hp => q p _ (same_upd hp) (SqT.of upd_same)⟩
theorem asc_nodup {l : List Str} (h : Asc l) : l.Nodup := List.Pairwise.imp (fun {a b} (q : tl a < tl b) (e : a = b) => lt_ir _ (by rw [e] at q; exact q)) h
inductive NumsL (K : PySem.W.Frag) (H : Hp) : List V → List Num → Prop
  | nil : NumsL K H [] []
  | cons {v : V} {n : Num} {vs : List V} {ns : List Num} (h : NumAt K H v n) (t : NumsL K H vs ns) : NumsL K H (v :: vs) (n :: ns)
theorem NumsL.get {K : PySem.W.Frag} {H : Hp} : ∀ {vs : List V} {ns : List Num} {i : Nat} {v : V}, NumsL K H vs ns → vs[i]? = some v → ∃ n, ns[i]? = some n ∧ NumAt K H v n
  | _, _, 0, _, .cons h _, e => by simp at e; subst e; exact ⟨_, rfl, h⟩
  | _, _, i + 1, _, .cons _ t, e => by simpa using t.get (i := i) (by simpa using e)
def smalls : List Num := [.w 1, .w 2, .w 1, .w 3, .w 1, .q 1 2, .w 0, .w 5, .q 3 2, .w 4, .q 2 3, .w 10]
theorem smalls_ok : ∀ n ∈ smalls, n.ok0 = true ∧ NumFit n := by
  unfold NumFit
  decide +kernel
theorem St.off {H : Hp} {d g c l : Addr} {n : Nat} (h : St H d g c n) (hl : H l = none) : l ≠ g ∧ l ≠ d := by
  obtain ⟨gs, cs, r, t, h1, h2, _⟩ := h
  refine ⟨fun e => ?_, fun e => ?_⟩
  · rw [← e, hl] at h2; cases h2
  · rw [← e, hl] at h1; cases h1
section
variable {P : Program} {w : World} {K : PySem.W.Frag} {mg : Str → Option Value} {base : Heap}
def spNumber (K : PySem.W.Frag) : Sp := fun vs H Q _ => ∃ (d g c : Addr) (n : Nat), vs = [.ref d] ∧ St H d g c (n + 1) ∧ ∀ v m H', NumAt K H' v m → m ∈ smalls → St H' d g c n → Kp d g H H' → Q v H'
theorem sc_ct_number : FnScope ["state"] ["state"] (defScope sL_ct_number) := ⟨rfl, rfl, rfl, by decide +kernel, rfl, by decide +kernel, by decide +kernel⟩
theorem ok_ct_number (D : Dn K mg "_law_ct_number" sL_ct_number) (B : Ok P w K mg base L2.CX0 3 "_law_pick" ["state", "some"] (spPick K)) : Ok P w K mg base L2.CX0 4 "_law_ct_number" ["state"] (spNumber K) := by
  obtain ⟨_, _, g_pick, k_pick, b_pick, F_pick⟩ := B.ex
  refine Ok.mk0 D sc_ct_number (fun vs H Q E h => ?_) (fun _ _ _ _ _ _ us hl => match us, hl with | [_], _ => rfl) (fun f cdv A outer s H vs Q E hr h => ?_)
  · obtain ⟨d, g, c, n, rfl, _⟩ := h
    rfl
  obtain ⟨d, g, c, n, rfl, hS, k⟩ := h
  refine ⟨_, (pss_one (ps_ret (pe_call F_pick hr rfl g_pick k_pick b_pick .nil pass0 (pa_cons (pv 0) (pa_cons (pe_lst (pa_cons pe_int (pa_cons pe_int (pa_cons pe_int (pa_cons pe_int (pa_cons pe_int (pa_cons (pe_tup (pa_cons pe_int (pa_cons pe_int pa_nil))) (pa_cons pe_int (pa_cons pe_int (pa_cons (pe_tup (pa_cons pe_int (pa_cons pe_int pa_nil))) (pa_cons pe_int (pa_cons (pe_tup (pa_cons pe_int (pa_cons pe_int pa_nil))) (pa_cons pe_int pa_nil))))))))))))) pa_nil))))), ?_⟩
  have two : (2 : Nat) ≤ sizeLine := by rw [sizeLine_eq]; decide
  refine ⟨_, rfl, two, fun p1 hp1 => ⟨two, fun p2 hp2 => ⟨two, fun p3 hp3 => ⟨by show 12 ≤ sizeLine; rw [sizeLine_eq]; decide, fun l hl => ?_⟩⟩⟩⟩
  have s1 := same_upd (o := .tup [.int 1, .int 2]) hp1
  have s2 := same_upd (o := .tup [.int 3, .int 2]) hp2
  have s3 := same_upd (o := .tup [.int 2, .int 3]) hp3
  have s4 := same_upd (o := .lst [.int 1, .int 2, .int 1, .int 3, .int 1, .ref p1, .int 0, .int 5, .ref p2, .int 4, .ref p3, .int 10]) hl
  have sall := s1.trans (s2.trans (s3.trans s4))
  have o1 := (s2.trans (s3.trans s4)) _ _ (upd_same (H := H) (a := p1) (o := .tup [.int 1, .int 2]))
  have o2 := (s3.trans s4) _ _ (upd_same (a := p2) (o := .tup [.int 3, .int 2]))
  have o3 := s4 _ _ (upd_same (a := p3) (o := .tup [.int 2, .int 3]))
  have S4 := hS.same sall
  have off := (hS.same (s1.trans (s2.trans s3))).off hl
  refine ⟨d, g, c, l, n, _, rfl, S4, SqL.of upd_same, off.1, by simp, by simp, fun i x H' hx S' kp => ?_⟩
  have tk := kp.tk S4
  have nums : NumsL K H' [.int 1, .int 2, .int 1, .int 3, .int 1, .ref p1, .int 0, .int 5, .ref p2, .int 4, .ref p3, .int 10] smalls :=
    .cons rfl (.cons rfl (.cons rfl (.cons rfl (.cons rfl (.cons ⟨p1, rfl, SqT.of (tk.1 _ _ o1)⟩ (.cons rfl (.cons rfl (.cons ⟨p2, rfl, SqT.of (tk.1 _ _ o2)⟩ (.cons rfl (.cons ⟨p3, rfl, SqT.of (tk.1 _ _ o3)⟩ (.cons rfl .nil)))))))))))
  obtain ⟨m, hm, hn⟩ := nums.get hx
  exact k x m H' hn (List.mem_of_getElem? hm) S' ((Kp.of sall).trans kp)
end
end K05
set_option maxHeartbeats 1000000
namespace K05
open PySem PySem.Spec PyProof.Rows L2 Hx RZ
abbrev someA : List Str := ["a", "b", "c", "d", "e", "f"]
abbrev someB : List Str := ["north", "south", "t1", "t2", "u", "west"]
def tapsAll : List Str := someA ++ someB
theorem names_all : (tapsAll.all nameS) = true := by decide +kernel
theorem a_nodup : someA.Nodup := by decide +kernel
theorem b_nodup : someB.Nodup := by decide +kernel
def unS : V → Str
  | .str x => x
  | _ => ""
theorem perm_strs {ys : List V} {A : List Str} (h : ys.Perm (A.map V.str)) : ∃ zs : List Str, zs.Perm A ∧ ys = zs.map V.str := by
  refine ⟨ys.map unS, ?_, ?_⟩
  · have q := h.map unS
    rw [List.map_map] at q
    have e : (unS ∘ V.str) = id := rfl
    rw [e, List.map_id] at q
    exact q
  · have q : ∀ y ∈ ys, V.str (unS y) = y := fun y hy => by
      obtain ⟨x, _, rfl⟩ := List.mem_map.mp (h.mem_iff.mp hy)
      rfl
    rw [List.map_map]
    exact (List.map_id' ys).symm.trans (List.map_congr_left fun y hy => (q y hy).symm)
theorem cut_upto {xs : List V} (k : Nat) : cutV xs none (some (k : Int)) = xs.take k := by
  unfold cutV
  rw [HT.sIx_nat]
  show (xs.drop 0).take (min k xs.length - 0) = _
  rw [List.drop_zero, Nat.sub_zero, ← List.take_eq_take_min]
/-- sorted texts without a double rise -/
theorem sorted_asc {ys : List Str} (nd : ys.Nodup) (so : sortedS ys = true) : Asc ys := places_asc (ends := ys) ⟨nd, fun _ => Iff.rfl, so⟩
section
variable {P : Program} {w : World} {K : PySem.W.Frag} {mg : Str → Option Value} {base : Heap}
def spTaps (K : PySem.W.Frag) : Sp := fun vs H Q _ => ∃ (d g c : Addr) (n M : Nat), vs = [.ref d, .int 2, .int (M : Int)] ∧ (2 ≤ M ∧ M ≤ 6) ∧ St H d g c (n + 8) ∧ ∀ t taps H', SqT K H' t (taps.map V.str) → tapsS taps = true → 2 ≤ taps.length ∧ taps.length ≤ 6 → (∀ x ∈ taps, x ∈ tapsAll) → St H' d g c n → Kp d g H H' → Q (.ref t) H'
theorem sc_ct_taps : FnScope ["state", "least", "most", "some", "many"] ["state", "least", "most"] (defScope sL_ct_taps) := ⟨rfl, rfl, rfl, by decide +kernel, rfl, by decide +kernel, by decide +kernel⟩
theorem ok_ct_taps (D : Dn K mg "_law_ct_taps" sL_ct_taps) (B0 : Ok P w K mg base L2.CX0 3 "_law_pick" ["state", "some"] (spPick K)) (B1 : Ok P w K mg base L2.CX0 2 "_law_draw" ["state", "room"] spDraw) (B2 : Ok P w K mg base L2.CX0 3 "_law_shuffled" ["state", "some"] (spShuffled K))
    (h_tuple : mg "tuple" = none) (h_sorted : mg "sorted" = none) : Ok P w K mg base L2.CX0 4 "_law_ct_taps" ["state", "least", "most"] (spTaps K) := by
  obtain ⟨_, _, g_pick, k_pick, b_pick, F_pick⟩ := B0.ex
  obtain ⟨_, _, g_draw, k_draw, b_draw, F_draw⟩ := B1.ex
  obtain ⟨_, _, g_shuffled, k_shuffled, b_shuffled, F_shuffled⟩ := B2.ex
  refine Ok.mk0 D sc_ct_taps (fun vs H Q E h => ?_) (fun _ _ _ _ _ _ us hl => match us, hl with | [_, _, _], _ => rfl) (fun f cdv A outer s H vs Q E hr h => ?_)
  · obtain ⟨d, g, c, n, M, rfl, _⟩ := h
    rfl
  obtain ⟨d, g, c, n, M, rfl, hM, hS, k⟩ := h
  have nd := sc_ct_taps.nd
  have hr2 := hr.mono (show 2 ≤ 3 by decide)
  refine ⟨_, (pss_cons (ps_set (i := 3) nd rfl (Or.inl rfl) (pe_call F_pick hr rfl g_pick k_pick b_pick .nil pass0 (pa_cons (pv 0) (pa_cons (pe_lst (pa_cons (pe_lst (pa_cons pe_str (pa_cons pe_str (pa_cons pe_str (pa_cons pe_str (pa_cons pe_str (pa_cons pe_str pa_nil))))))) (pa_cons (pe_lst (pa_cons pe_str (pa_cons pe_str (pa_cons pe_str (pa_cons pe_str (pa_cons pe_str (pa_cons pe_str pa_nil))))))) pa_nil))) pa_nil))))
    (pss_cons (ps_set (i := 4) nd rfl (Or.inl rfl) (pe_op op_add (pv 1) (pe_call F_draw hr2 rfl g_draw k_draw b_draw .nil pass0 (pa_cons (pv 0) (pa_cons (pe_op op_add (pe_op op_sub (pv 2) (pv 1)) pe_int) pa_nil)))))
    (pss_one (ps_ret (pe_callTy call_tuple_of (by rfl) h_tuple (by decide +kernel) (pa_cons (pe_callB cr_sortedS (by rfl) h_sorted (by decide +kernel) (pa_cons (pe_slice sl_list (pe_call F_shuffled hr rfl g_shuffled k_shuffled b_shuffled .nil pass0 (pa_cons (pv 0) (pa_cons (pv 3) pa_nil))) po_none (po_some (pv 4))) pa_nil)) pa_nil)))))), ?_⟩
  have six : (6 : Nat) ≤ sizeLine := by rw [sizeLine_eq]; decide
  refine ⟨_, rfl, six, fun a1 ha1 => ⟨six, fun a2 ha2 => ⟨by show 2 ≤ sizeLine; rw [sizeLine_eq]; decide, fun l hl => ?_⟩⟩⟩
  have s1 := same_upd (o := .lst (someA.map V.str)) ha1
  have s2 := same_upd (o := .lst (someB.map V.str)) ha2
  have s3 := same_upd (o := .lst [.ref a1, .ref a2]) hl
  have sall := s1.trans (s2.trans s3)
  have o1 := (s2.trans s3) _ _ (upd_same (H := H) (a := a1) (o := .lst (someA.map V.str)))
  have o2 := s3 _ _ (upd_same (a := a2) (o := .lst (someB.map V.str)))
  have S3 := hS.same sall
  have off1 := hS.off ha1
  have off2 := (hS.same s1).off ha2
  have offl := (hS.same (s1.trans s2)).off hl
  refine ⟨d, g, c, l, n + 7, _, rfl, S3, SqL.of upd_same, offl.1, by simp, by simp, fun i x H2 hx S2 kp => ?_⟩
  have kp0 := (Kp.of sall).trans kp
  obtain ⟨ax, A, rfl, hA, noff, ndA, lA, sub⟩ : ∃ (ax : Addr) (A : List Str), x = .ref ax ∧ H2 ax = some (.lst (A.map V.str)) ∧ ax ≠ g ∧ A.Nodup ∧ A.length = 6 ∧ ∀ z ∈ A, z ∈ tapsAll := by
    match i, hx with
    | 0, hx =>
      cases hx
      exact ⟨a1, someA, rfl, kp _ _ o1 off1.2 off1.1, off1.1, a_nodup, rfl, fun z hz => List.mem_append_left _ hz⟩
    | 1, hx =>
      cases hx
      exact ⟨a2, someB, rfl, kp _ _ o2 off2.2 off2.1, off2.1, b_nodup, rfl, fun z hz => List.mem_append_right _ hz⟩
  refine ⟨_, rfl, _, rfl, _, rfl, _, rfl, _, _, rfl, rfl, _, _, rfl, rfl, d, g, c, n + 6, (M : Int) - 2 + 1, rfl, S2, by omega, Nat.lt_of_lt_of_le (show ((M : Int) - 2 + 1).natAbs < 2 ^ 17 by omega) (Nat.pow_le_pow_right (by decide) (by omega)), fun z H3 z0 z5 S4 kp2 => ?_⟩
  obtain ⟨m, rfl⟩ := Int.eq_ofNat_of_zero_le z0
  have hA3 := kp2 _ _ hA (fun e => by have := S2; obtain ⟨gs, cs, r, t, h1, _⟩ := this; rw [e, h1] at hA; cases hA) noff
  refine ⟨_, _, rfl, rfl, ?_⟩
  refine ⟨_, rfl, _, rfl, d, g, c, ax, n, A.map V.str, A.map .str, rfl, by rw [List.length_map, lA]; exact S4, SqL.of hA3, DtAll.strs A, ?_, by rw [List.length_map, lA]; decide, fun l2 ys H5 pm hl2 e2 S6 kp3 => ?_⟩
  · intro dd hd
    obtain ⟨x, hx2, rfl⟩ := List.mem_map.mp hd
    exact ⟨name_ok (List.all_eq_true.mp names_all x (sub x hx2)), by simp [PyData.depth]⟩
  obtain ⟨zs, pz, rfl⟩ := perm_strs pm
  have zlen : zs.length = 6 := by rw [pz.length_eq, lA]
  have hcut : cutV (zs.map V.str) none (some ((2 : Int) + (m : Int))) = (zs.take (2 + m)).map V.str := by
    rw [show ((2 : Int) + (m : Int)) = ((2 + m : Nat) : Int) by omega, cut_upto, List.map_take]
  show tNoPart _ _ _
  unfold tNoPart
  refine ⟨_, rfl, _, rfl, ?_⟩
  refine rSlL_any (SqL.of e2) hcut fun q hq => ?_
  have s5 := same_upd (o := .lst ((zs.take (2 + m)).map V.str)) hq
  refine ⟨q, zs.take (2 + m), rfl, SqL.of upd_same, by rw [List.length_take]; omega, fun ys p pm2 so hp => ?_⟩
  have s6 := s5.trans (same_upd (o := .lst (ys.map V.str)) hp)
  refine ⟨p, _, rfl, .inl ⟨SqL.of upd_same, fun t ht => ?_⟩⟩
  have s7 := s6.trans (same_upd (o := .tup (ys.map V.str)) ht)
  have inA : ∀ z ∈ ys, z ∈ A := fun z hz => pz.mem_iff.mp (List.mem_of_mem_take (pm2.mem_iff.mp hz))
  have ynd : ys.Nodup := pm2.nodup_iff.mpr ((pz.nodup_iff.mpr ndA).sublist (List.take_sublist _ _))
  have ylen : ys.length = 2 + m := by rw [pm2.length_eq, List.length_take]; omega
  have tok : tapsS ys = true := by
    unfold tapsS namesS
    rw [asc_rise (sorted_asc ynd so), show ys.all nameS = true from List.all_eq_true.mpr fun z hz => List.all_eq_true.mp names_all z (sub z (inA z hz)), decide_eq_true (show 2 ≤ ys.length by omega), decide_eq_true (show ys.length ≤ 6 by omega)]
    rfl
  exact k t ys _ (SqT.of upd_same) tok ⟨by omega, by omega⟩ (fun z hz => sub z (inA z hz)) (S6.same s7) (kp0.trans (kp2.trans (kp3.trans (Kp.of s7))))
end
end K05
set_option maxHeartbeats 1000000
/-! ### min and max of a list of two texts -/
namespace Hx
open PySem PySem.Spec PyProof.Rows L2
section
variable {X : Cx}
def lessS (x y : Str) : Bool := decide (x.cps.toList < y.cps.toList)
def minS (x y : Str) : Str := if lessS y x then y else x
def maxS (x y : Str) : Str := if lessS x y then y else x
def rTwo (K : PySem.W.Frag) (f : Str → Str → Str) : List V → Hp → VK → Prop := fun vs H Q => ∃ (a : Addr) (x y : Str), vs = [V.ref a] ∧ SqL K H a [.str x, .str y] ∧ Q (.str (f x y)) H
theorem str_of_reads {h : Heap} {v : Value} {m : Str} {bs : List Addr} (r : Reads h v (.str m) bs) : ∃ t, v = .str m t := by
  cases r
  exact ⟨_, rfl⟩
theorem two_alike (x y : Str) : PySem.W.AlikeAll [.str x, .str y] := by
  refine ⟨fun a ha b hb => ?_, fun a ha => ?_⟩
  · simp at ha hb
    rcases ha with e | e <;> rcases hb with e2 | e2 <;> rw [e, e2] <;> rfl
  · simp at ha
    rcases ha with e | e <;> rw [e] <;> simp
theorem two_depth {A : Around} (x y : Str) (hu : A.units + 64 < cLine) : A.units + 1 + PyData.depthAll [.str x, .str y] < cLine := by
  have e : PyData.depthAll [.str x, .str y] = 0 := by simp [PyData.depthAll, PyData.depth]
  rw [e]
  omega
theorem cr_min2S (hc : X.calm = true) (hu : X.A.units + 64 < cLine) : CallR X (.builtin "min") (rTwo X.K minS) := by
  intro pins s σ H vs us Q I r h
  obtain ⟨a, x, y, rfl, hs, q⟩ := h
  obtain ⟨its, rv, pl, _⟩ := I.list hs
  rw [Vals.ref1 r]
  obtain ⟨as, ra⟩ := Dp.readsAll I [.str x, .str y] [.str x, .str y] its (.cons (.str x) (.cons (.str y) .nil)) rv
  refine PySem.W.min_list_data (vs := its.toArray) (I.ok.hd hc) pl.isList ra (two_alike x y) (two_depth x y hu) fun i v h' tk bs _ rd k => ?_
  have e : PySem.W.minD (.str x) [.str y] = .str (minS x y) := by
    show (if PySem.W.dataLt (.str y) (.str x) then PyData.str y else PyData.str x) = _
    rw [PySem.W.dataLt_str]
    unfold minS lessS
    split <;> rfl
  rw [e] at rd
  obtain ⟨t, rfl⟩ := str_of_reads rd
  exact ⟨.str _, H, I.kept (t' := tk) k, ⟨t, rfl⟩, q⟩
theorem cr_max2S (hc : X.calm = true) (hu : X.A.units + 64 < cLine) : CallR X (.builtin "max") (rTwo X.K maxS) := by
  intro pins s σ H vs us Q I r h
  obtain ⟨a, x, y, rfl, hs, q⟩ := h
  obtain ⟨its, rv, pl, _⟩ := I.list hs
  rw [Vals.ref1 r]
  obtain ⟨as, ra⟩ := Dp.readsAll I [.str x, .str y] [.str x, .str y] its (.cons (.str x) (.cons (.str y) .nil)) rv
  refine PySem.W.max_list_data (vs := its.toArray) (I.ok.hd hc) pl.isList ra (two_alike x y) (two_depth x y hu) fun i v h' tk bs _ rd k => ?_
  have e : PySem.W.maxD (.str x) [.str y] = .str (maxS x y) := by
    show (if PySem.W.dataLt (.str x) (.str y) then PyData.str y else PyData.str x) = _
    rw [PySem.W.dataLt_str]
    unfold maxS lessS
    split <;> rfl
  rw [e] at rd
  obtain ⟨t, rfl⟩ := str_of_reads rd
  exact ⟨.str _, H, I.kept (t' := tk) k, ⟨t, rfl⟩, q⟩
end
end Hx
set_option maxHeartbeats 1000000
namespace K05
open PySem PySem.Spec PyProof.Rows L2 Hx RZ
abbrev LEADS : Str := "leads"
abbrev HUBS : Str := "hubs"
/-- a drawn part -/
structure Drawn (ps : List Str) (sort : Str) (r : Raw) : Prop where
  right : Right r
  sub : ∀ z ∈ r.ends, z ∈ ps
  few : r.ends.length ≤ 4
  lead : r.word = LEAD → sort = LEADS
  hub : r.word = HUB → sort = HUBS
theorem Drawn.mono {ps : List Str} {sort : Str} {r : Raw} (h : Drawn ps sort r) : r.word = HUB ∨ r.word ≠ HUB := Classical.em _
section
variable {P : Program} {w : World} {K : PySem.W.Frag} {mg : Str → Option Value} {base : Heap}
def spPart (K : PySem.W.Frag) : Sp := fun vs H Q _ => ∃ (d g c pl : Addr) (n : Nat) (ps : List Str) (sort : Str), vs = [.ref d, .ref pl, .str sort] ∧ St H d g c (n + 13) ∧ SqL K H pl (ps.map V.str) ∧ ps.Nodup ∧ (∀ x ∈ ps, nameS x = true) ∧ 2 ≤ ps.length ∧ ps.length ≤ 9 ∧
  ∀ v r H', RawAt K H' v r → Drawn ps sort r → r.num ∈ smalls → St H' d g c n → Kp d g H H' → Q v H'
theorem sc_ct_part : FnScope ["state", "places_here", "sort_here", "some", "width"] ["state", "places_here", "sort_here"] (defScope sL_ct_part) := ⟨rfl, rfl, rfl, by decide +kernel, rfl, by decide +kernel, by decide +kernel⟩
theorem ok_ct_part (D : Dn K mg "_law_ct_part" sL_ct_part) (B0 : Ok P w K mg base L2.CX0 3 "_law_shuffled" ["state", "some"] (spShuffled K)) (B1 : Ok P w K mg base L2.CX0 4 "_law_ct_number" ["state"] (spNumber K)) (B2 : Ok P w K mg base L2.CX0 2 "_law_draw" ["state", "room"] spDraw)
    (h_tuple : mg "tuple" = none) (h_sorted : mg "sorted" = none) (h_len : mg "len" = none) (h_min : mg "min" = none) (h_max : mg "max" = none) : Ok P w K mg base L2.CX0 5 "_law_ct_part" ["state", "places_here", "sort_here"] (spPart K) := by
  obtain ⟨_, _, g_shuffled, k_shuffled, b_shuffled, F_shuffled⟩ := B0.ex
  obtain ⟨_, _, g_ct_number, k_ct_number, b_ct_number, F_ct_number⟩ := B1.ex
  obtain ⟨_, _, g_draw, k_draw, b_draw, F_draw⟩ := B2.ex
  refine Ok.mk0 D sc_ct_part (fun vs H Q E h => ?_) (fun _ _ _ _ _ _ us hl => match us, hl with | [_, _, _], _ => rfl) (fun f cdv A outer s H vs Q E hr h => ?_)
  · obtain ⟨d, g, c, pl, n, ps, sort, rfl, _⟩ := h
    rfl
  obtain ⟨d, g, c, pl, n, ps, sort, rfl, hS, hpl, pnd, pn, p2, p9, k⟩ := h
  have nd := sc_ct_part.nd
  have hu64 := hr.units
  have hr3 := hr.mono (show 3 ≤ 4 by decide)
  have hr2 := hr.mono (show 2 ≤ 4 by decide)
  refine ⟨_, (pss_cons (ps_set (i := 3) nd rfl (Or.inl rfl) (pe_call F_shuffled hr3 rfl g_shuffled k_shuffled b_shuffled .nil pass0 (pa_cons (pv 0) (pa_cons (pv 1) pa_nil))))
    (pss_cons (ps_set (i := 4) nd rfl (Or.inl rfl) (pe_call F_ct_number hr rfl g_ct_number k_ct_number b_ct_number .nil pass0 (pa_cons (pv 0) pa_nil)))
    (C8.pss_cut (ps_if (PW.pt (pw_and (pt_cmpR op_eq (pv 2) pe_str (nomark _)) (pw_and1 (pt_cmpR op_gt (pe_call F_draw hr2 rfl g_draw k_draw b_draw .nil pass0 (pa_cons (pv 0) (pa_cons pe_int pa_nil))) pe_int (nomark _)))))
      (pss_one (ps_ret (pe_tup (pa_cons pe_str (pa_cons (pe_ix ix_list (pv 3) pe_int (fun _ _ => rfl)) (pa_cons (pe_ix ix_list (pv 3) pe_int (fun _ _ => rfl)) (pa_cons (pv 4) pa_nil)))))))
      pss_nil)
    (C8.pss_cut (ps_if (PW.pt (pw_and (pt_cmpR op_eq (pv 2) pe_str (nomark _)) (pw_and (pt_cmpR op_gt (pe_lenS rfl h_len (pv 3)) pe_int (nomark _)) (pw_and1 (pt_cmpR op_gt (pe_call F_draw hr2 rfl g_draw k_draw b_draw .nil pass0 (pa_cons (pv 0) (pa_cons pe_int pa_nil))) pe_int (nomark _))))))
      (pss_one (ps_ret (pe_tup (pa_cons pe_str (pa_cons (pe_callTy call_tuple_of (by rfl) h_tuple (by decide +kernel) (pa_cons (pe_callB cr_sortedS (by rfl) h_sorted (by decide +kernel) (pa_cons (pe_slice sl_list (pv 3) po_none (po_some (pe_op op_add pe_int (pe_call F_draw hr2 rfl g_draw k_draw b_draw .nil pass0 (pa_cons (pv 0) (pa_cons (pe_callB (call_min2 rfl) (by rfl) h_min (by decide +kernel) (pa_cons pe_int (pa_cons (pe_op op_sub (pe_lenS rfl h_len (pv 3)) pe_int) pa_nil))) pa_nil)))))) pa_nil)) pa_nil)) (pa_cons (pv 4) pa_nil))))))
      pss_nil)
    (pss_one (ps_ret (pe_tup (pa_cons pe_str (pa_cons (pe_callB (cr_min2S rfl hu64) (by rfl) h_min (by decide +kernel) (pa_cons (pe_slice sl_list (pv 3) po_none (po_some pe_int)) pa_nil)) (pa_cons (pe_callB (cr_max2S rfl hu64) (by rfl) h_max (by decide +kernel) (pa_cons (pe_slice sl_list (pv 3) po_none (po_some pe_int)) pa_nil)) (pa_cons (pv 4) pa_nil))))))))))), ?_⟩
  refine ⟨_, rfl, _, rfl, d, g, c, pl, n + 13 - ps.length, ps.map V.str, ps.map .str, rfl, (by rw [List.length_map]; exact hS.less (by omega)), hpl, DtAll.strs ps, ?_, by rw [List.length_map]; omega, fun l ys H2 pm hl e2 S2 kp => ?_⟩
  · intro dd hd
    obtain ⟨x, hx2, rfl⟩ := List.mem_map.mp hd
    exact ⟨name_ok (pn x hx2), by simp [PyData.depth]⟩
  obtain ⟨zs, pz, rfl⟩ := perm_strs pm
  have zlen : zs.length = ps.length := pz.length_eq
  have znd : zs.Nodup := pz.nodup_iff.mpr pnd
  have zsub : ∀ z ∈ zs, z ∈ ps := fun z hz => pz.mem_iff.mp hz
  obtain ⟨z0, z1, zr, rfl⟩ : ∃ z0 z1 zr, zs = z0 :: z1 :: zr := by
    match zs, zlen with
    | [], e => simp at e; omega
    | [_], e => simp at e; omega
    | a :: b :: r, _ => exact ⟨a, b, r, rfl⟩
  have offl := hS.off hl
  have S2' : St H2 d g c (n + 3 + 1) := S2.less (by omega)
  refine ⟨_, rfl, d, g, c, n + 3, rfl, S2', fun wv m H3 hm ms S3 kp2 => ?_⟩
  have e3 := kp2 _ _ e2 offl.2 offl.1
  have kp02 := kp.trans kp2
  have n0 := smalls_ok m ms
  have nn : ¬ z0 = z1 := fun e => (List.nodup_cons.mp znd).1 (by rw [e]; exact List.mem_cons_self)
  have nz0 := pn z0 (zsub z0 (by simp))
  have nz1 := pn z1 (zsub z1 (by simp))
  have four : (4 : Nat) ≤ sizeLine := by rw [sizeLine_eq]; decide
  have isz : ∀ {H' : Hp} {k : Nat}, St H' d g c k → Kp d g H3 H' → H' l = some (.lst ((z0 :: z1 :: zr).map V.str)) := fun _ kq => kq _ _ e3 offl.2 offl.1
  let Mid : Nat → L2.St → Hp → Prop := fun k σ H' => σ = [some (.ref d), some (.ref pl), some (.str sort), some (.ref l), some wv] ∧ St H' d g c k ∧ Kp d g H3 H'
  have fin : ∀ v r H', RawAt K H' v r → Drawn ps sort r → r.num = m → ∀ {j : Nat}, St H' d g c (n + j) → Kp d g H3 H' → Q v H' := fun v r H' hraw dr er j S' kq => k v r H' hraw dr (by rw [er]; exact ms) (S'.less (by omega)) (kp02.trans kq)
  refine ⟨Mid (n + 2), ?_, ?_⟩
  · -- leads
    refine ⟨_, rfl, rfl, _, rfl, ?_⟩
    rw [deq_str]
    by_cases hs : sort = LEADS
    · rw [decide_eq_true hs]
      refine iteT ⟨_, rfl, d, g, c, n + 2, 3, rfl, S3, by decide, by decide +kernel, fun z H4 z0' z3' S4 kp3 => ?_⟩
      refine ⟨_, _, rfl, rfl, _, rfl, ?_⟩
      by_cases hz : (0 : Int) < z
      · rw [decide_eq_true hz]
        have hl4 := SqL.of (K := K) (isz S4 kp3)
        refine iteT ⟨_, rfl, l, _, 0, .str z0, rfl, rfl, hl4, atI_nat (j := 0) rfl, _, rfl, l, _, 1, .str z1, rfl, rfl, hl4, atI_nat (j := 1) rfl, _, rfl, four, fun p hp => ?_⟩
        have s5 := same_upd (o := .tup [.str LEAD, .str z0, .str z1, wv]) hp
        refine fin _ (.flat [LEAD, z0, z1] m) _ ⟨p, wv, rfl, SqT.of upd_same, (hm.keep (kp3.tk S3)).keep (.of s5)⟩ ⟨.two _ _ _ _ nz0 nz1 (.inr ⟨rfl, nn⟩) n0.1, fun z hz => ?_, by show 2 ≤ 4; decide, fun _ => hs, fun e => absurd e lead_hub⟩ rfl (S4.same s5) (kp3.trans (Kp.of s5))
        have e : z = z0 ∨ z = z1 := by simpa [Raw.ends] using hz
        rcases e with e | e <;> rw [e]
        · exact zsub z0 (by simp)
        · exact zsub z1 (by simp)
      · rw [decide_eq_false hz]
        exact iteF ⟨rfl, S4, kp3⟩
    · rw [decide_eq_false hs]
      exact iteF (iteF ⟨rfl, S3.less (by omega), Kp.refl _⟩)
  rintro σ H4 ⟨rfl, S4, kp4⟩
  have hl4 := SqL.of (K := K) (isz S4 kp4)
  have hm4 := hm.keep (kp4.tk S3)
  refine ⟨Mid n, ?_, ?_⟩
  · -- hubs
    refine ⟨_, rfl, rfl, _, rfl, ?_⟩
    rw [deq_str]
    by_cases hs : sort = HUBS
    · rw [decide_eq_true hs]
      refine iteT ⟨_, rfl, l, _, rfl, .inl hl4, _, _, rfl, rfl, _, rfl, ?_⟩
      rw [List.length_map]
      by_cases h2 : (2 : Int) < ((z0 :: z1 :: zr).length : Int)
      · rw [decide_eq_true h2]
        refine iteT ⟨_, rfl, d, g, c, n + 1, 3, rfl, S4, by decide, by decide +kernel, fun z H5 z0' z3' S5 kp5 => ?_⟩
        refine ⟨_, _, rfl, rfl, _, rfl, ?_⟩
        have kp45 := kp4.trans kp5
        by_cases hz : (0 : Int) < z
        · rw [decide_eq_true hz]
          have hl5 := SqL.of (K := K) (isz S5 kp45)
          refine iteT ⟨_, rfl, ?_⟩
          show tNoPart _ _ _
          unfold tNoPart
          have ln : 3 ≤ (z0 :: z1 :: zr).length := by omega
          have room : (0 : Int) < (if (((z0 :: z1 :: zr).map V.str).length : Int) - 1 < 3 then (((z0 :: z1 :: zr).map V.str).length : Int) - 1 else 3) ∧ (if (((z0 :: z1 :: zr).map V.str).length : Int) - 1 < 3 then (((z0 :: z1 :: zr).map V.str).length : Int) - 1 else 3) ≤ 3 ∧ (if (((z0 :: z1 :: zr).map V.str).length : Int) - 1 < 3 then (((z0 :: z1 :: zr).map V.str).length : Int) - 1 else 3) ≤ ((z0 :: z1 :: zr).length : Int) - 1 := by
            rw [List.length_map]
            split <;> omega
          generalize hroom : (if (((z0 :: z1 :: zr).map V.str).length : Int) - 1 < 3 then (((z0 :: z1 :: zr).map V.str).length : Int) - 1 else 3) = rm at room
          refine ⟨_, rfl, _, rfl, l, _, rfl, .inl hl5, _, _, rfl, rfl, 3, _, rfl, d, g, c, n, rm, by rw [← hroom]; rfl, S5, room.1, ?_, fun y H6 y0 yr S6 kp6 => ?_⟩
          · obtain ⟨q, rfl⟩ := Int.eq_ofNat_of_zero_le (Int.le_of_lt room.1)
            exact small9000 (by omega)
          obtain ⟨q, rfl⟩ := Int.eq_ofNat_of_zero_le y0
          have kp46 := kp45.trans kp6
          have e6 := isz S6 kp46
          refine ⟨_, _, rfl, rfl, _, rfl, ?_⟩
          have hcut : cutV ((z0 :: z1 :: zr).map V.str) none (some ((2 : Int) + (q : Int))) = ((z0 :: z1 :: zr).take (2 + q)).map V.str := by
            rw [show ((2 : Int) + (q : Int)) = ((2 + q : Nat) : Int) by omega, cut_upto, List.map_take]
          refine rSlL_any (SqL.of e6) hcut fun u hu => ?_
          have s7 := same_upd (o := .lst (((z0 :: z1 :: zr).take (2 + q)).map V.str)) hu
          refine ⟨u, _, rfl, SqL.of upd_same, by rw [List.length_take]; omega, fun ys p pm2 so hp => ?_⟩
          have s8 := s7.trans (same_upd (o := .lst (ys.map V.str)) hp)
          refine ⟨p, _, rfl, .inl ⟨SqL.of upd_same, fun t ht => ?_⟩⟩
          have s9 := s8.trans (same_upd (o := .tup (ys.map V.str)) ht)
          refine ⟨_, rfl, by show 3 ≤ sizeLine; rw [sizeLine_eq]; decide, fun b hb => ?_⟩
          have sb := same_upd (o := .tup [.str HUB, .ref t, wv]) hb
          have inz : ∀ x ∈ ys, x ∈ z0 :: z1 :: zr := fun x hx => List.mem_of_mem_take (pm2.mem_iff.mp hx)
          have ynd : ys.Nodup := pm2.nodup_iff.mpr (znd.sublist (List.take_sublist _ _))
          have ylen : ys.length = 2 + q := by rw [pm2.length_eq, List.length_take]; omega
          have yok : namesS ys = true := by
            unfold namesS
            rw [asc_rise (sorted_asc ynd so), show ys.all nameS = true from List.all_eq_true.mpr fun x hx => pn x (zsub x (inz x hx))]
            rfl
          exact fin _ (.hub ys m) _ ⟨b, t, wv, rfl, SqT.of upd_same, same_seqT sb (SqT.of upd_same), ((hm4.keep (kp5.tk S4)).keep (kp6.tk S5)).keep (.of (s9.trans sb))⟩ ⟨.hub _ _ yok (by omega) n0.1, fun x hx => zsub x (inz x hx), by show ys.length ≤ 4; omega, fun e => absurd e.symm lead_hub, fun _ => hs⟩ rfl (j := 0) (S6.same (s9.trans sb)) (kp46.trans (Kp.of (s9.trans sb)))
        · rw [decide_eq_false hz]
          exact iteF ⟨rfl, S5.less (by omega), kp45⟩
      · rw [decide_eq_false h2]
        exact iteF (iteF ⟨rfl, S4.less (by omega), kp4⟩)
    · rw [decide_eq_false hs]
      exact iteF (iteF ⟨rfl, S4.less (by omega), kp4⟩)
  rintro σ H5 ⟨rfl, S5, kp5⟩
  have e5 := isz S5 kp5
  have hm5 := hm.keep (kp5.tk S3)
  have hcut : cutV ((z0 :: z1 :: zr).map V.str) none (some ((2 : Nat) : Int)) = [.str z0, .str z1] := by
    rw [cut_upto]
    rfl
  refine ⟨_, rfl, ?_⟩
  show tNoPart _ _ _
  unfold tNoPart
  refine ⟨_, rfl, ?_⟩
  refine rSlL_any (SqL.of e5) hcut fun u hu => ?_
  have s6 := same_upd (o := .lst [.str z0, .str z1]) hu
  refine ⟨u, z0, z1, rfl, SqL.of upd_same, _, rfl, ?_⟩
  refine ⟨_, rfl, ?_⟩
  refine rSlL_any (SqL.of (s6 _ _ e5)) hcut fun v hv => ?_
  have s7 := s6.trans (same_upd (o := .lst [.str z0, .str z1]) hv)
  refine ⟨v, z0, z1, rfl, SqL.of upd_same, _, rfl, four, fun b hb => ?_⟩
  have s8 := s7.trans (same_upd (o := .tup [.str PIPE, .str (minS z0 z1), .str (maxS z0 z1), wv]) hb)
  have mm : (minS z0 z1 = z0 ∧ maxS z0 z1 = z1 ∧ tl z0 < tl z1) ∨ (minS z0 z1 = z1 ∧ maxS z0 z1 = z0 ∧ tl z1 < tl z0) := by
    unfold minS maxS lessS
    by_cases q : tl z0 < tl z1
    · have q2 : ¬ tl z1 < tl z0 := fun h => lt_ir _ (lt_tr q h)
      rw [decide_eq_true q, decide_eq_false q2]
      exact .inl ⟨rfl, rfl, q⟩
    · have q2 : tl z1 < tl z0 := lt_or q fun e => nn (tl_inj e).symm
      rw [decide_eq_false q, decide_eq_true q2]
      exact .inr ⟨rfl, rfl, q2⟩
  have base0 : nameS (minS z0 z1) = true ∧ nameS (maxS z0 z1) = true ∧ tl (minS z0 z1) < tl (maxS z0 z1) ∧ minS z0 z1 ∈ ps ∧ maxS z0 z1 ∈ ps := by
    rcases mm with ⟨a1, a2, a3⟩ | ⟨a1, a2, a3⟩ <;> rw [a1, a2]
    · exact ⟨nz0, nz1, a3, zsub z0 (by simp), zsub z1 (by simp)⟩
    · exact ⟨nz1, nz0, a3, zsub z1 (by simp), zsub z0 (by simp)⟩
  obtain ⟨b1, b2, b3, b4, b5⟩ := base0
  refine fin _ (.flat [PIPE, minS z0 z1, maxS z0 z1] m) _ ⟨b, wv, rfl, SqT.of upd_same, hm5.keep (.of s8)⟩ ⟨.two _ _ _ _ b1 b2 (.inl ⟨rfl, b3⟩) n0.1, fun z hz => ?_, by show 2 ≤ 4; decide, fun e => absurd e pipe_lead, fun e => absurd e pipe_hub⟩ rfl (j := 0) (S5.same s8) (kp5.trans (Kp.of s8))
  have e : z = minS z0 z1 ∨ z = maxS z0 z1 := by simpa [Raw.ends] using hz
  rcases e with e | e <;> rw [e]
  · exact b4
  · exact b5
end
end K05
set_option maxHeartbeats 1000000
namespace K05
open PySem PySem.Spec PyProof.Rows L2 Hx RZ
abbrev inA : List Str := ["k", "p", "q"]
abbrev inB : List Str := ["in1", "in2", "z"]
def innerAll : List Str := inA ++ inB
theorem inner_names : (innerAll.all nameS) = true := by decide +kernel
theorem inner_apart : (tapsAll.all fun x => !decide (x ∈ innerAll)) = true := by decide +kernel
theorem inA_nodup : inA.Nodup := by decide +kernel
theorem inB_nodup : inB.Nodup := by decide +kernel
theorem St.offc {H : Hp} {d g c l : Addr} {n : Nat} (h : St H d g c n) (hl : H l = none) : l ≠ c := by
  obtain ⟨gs, cs, r, t, h1, h2, h3, _⟩ := h
  intro e
  rw [← e, hl] at h3
  cases h3
section
variable {P : Program} {w : World} {K : PySem.W.Frag} {mg : Str → Option Value} {base : Heap}
/-- a drawn net: its places' names, its sort -/
structure NetD (taps : List Str) (rs : List Raw) : Prop where
  tp : tapsS taps = true
  ps : ∃ (ps : List Str) (sort : Str), ps.length ≤ 9 ∧ (∀ x ∈ taps, x ∈ ps) ∧ ps.Nodup ∧ ∀ r ∈ rs, Drawn ps sort r
  few : rs.length ≤ 9
  one : 3 ≤ rs.length
/-- which inner places there are at most -/
def InnR (taps : List Str) (rs : List Raw) : Prop := ∃ I : List Str, I.length ≤ 3 ∧ (∀ x ∈ I, x ∈ innerAll) ∧ ∀ r ∈ rs, ∀ x ∈ r.ends, x ∈ taps ∨ x ∈ I
/-- no leads but in leads, no hubs but in hubs -/
def SoR (sort : Str) (r : Raw) : Prop := (r.word = LEAD → sort = LEADS) ∧ (r.word = HUB → sort = HUBS)
def SortR (sort : Str) (rs : List Raw) : Prop := ∀ r ∈ rs, SoR sort r
def spNet (K : PySem.W.Frag) : Sp := fun vs H Q _ => ∃ (d g c t : Addr) (n : Nat) (taps : List Str) (sort : Str), vs = [.ref d, .ref t, .str sort] ∧ St H d g c (n + 120) ∧ SqT K H t (taps.map V.str) ∧ tapsS taps = true ∧ (∀ x ∈ taps, x ∈ tapsAll) ∧
  ∀ v rs H', NetAt K H' v taps rs → NetD taps rs → InnR taps rs → SortR sort rs → (∀ r ∈ rs, r.num ∈ smalls) → St H' d g c n → Kp d g H H' → Q v H'
theorem sc_ct_net : FnScope ["state", "taps_here", "sort_here", "inner", "places_here", "parts_here", "lap"] ["state", "taps_here", "sort_here"] (defScope sL_ct_net) := ⟨rfl, rfl, rfl, by decide +kernel, rfl, by decide +kernel, by decide +kernel⟩
theorem ok_ct_net (D : Dn K mg "_law_ct_net" sL_ct_net) (B0 : Ok P w K mg base L2.CX0 2 "_law_draw" ["state", "room"] spDraw) (B1 : Ok P w K mg base L2.CX0 3 "_law_pick" ["state", "some"] (spPick K)) (B2 : Ok P w K mg base L2.CX0 5 "_law_ct_part" ["state", "places_here", "sort_here"] (spPart K))
    (h_tuple : mg "tuple" = none) (h_list : mg "list" = none) (h_range : mg "range" = none) : Ok P w K mg base L2.CX0 6 "_law_ct_net" ["state", "taps_here", "sort_here"] (spNet K) := by
  obtain ⟨_, _, g_draw, k_draw, b_draw, F_draw⟩ := B0.ex
  obtain ⟨_, _, g_pick, k_pick, b_pick, F_pick⟩ := B1.ex
  obtain ⟨_, _, g_ct_part, k_ct_part, b_ct_part, F_ct_part⟩ := B2.ex
  refine Ok.mk0 D sc_ct_net (fun vs H Q E h => ?_) (fun _ _ _ _ _ _ us hl => match us, hl with | [_, _, _], _ => rfl) (fun f cdv A outer s H vs Q E hr h => ?_)
  · obtain ⟨d, g, c, t, n, taps, sort, rfl, _⟩ := h
    rfl
  obtain ⟨d, g, c, t, n, taps, sort, rfl, hS, ht, tok, tin, k⟩ := h
  have nd := sc_ct_net.nd
  have hr3 := hr.mono (show 3 ≤ 5 by decide)
  have hr2 := hr.mono (show 2 ≤ 5 by decide)
  refine ⟨_, (pss_cons (ps_set (i := 3) nd rfl (Or.inl rfl) (pe_slice sl_list (pe_ix ix_list (pe_lst (pa_cons (pe_lst (pa_cons pe_str (pa_cons pe_str (pa_cons pe_str pa_nil)))) (pa_cons (pe_lst (pa_cons pe_str (pa_cons pe_str (pa_cons pe_str pa_nil)))) pa_nil))) (pe_call F_draw hr2 rfl g_draw k_draw b_draw .nil pass0 (pa_cons (pv 0) (pa_cons pe_int pa_nil))) (fun _ _ => rfl)) po_none (po_some (pe_call F_pick hr3 rfl g_pick k_pick b_pick .nil pass0 (pa_cons (pv 0) (pa_cons (pe_lst (pa_cons pe_int (pa_cons pe_int (pa_cons pe_int (pa_cons pe_int pa_nil))))) pa_nil))))))
    (pss_cons (ps_set (i := 4) nd rfl (Or.inr rfl) (pe_op op_cat (pe_callTy call_list_of (by rfl) h_list (by decide +kernel) (pa_cons (pv 1) pa_nil)) (pv 3)))
    (pss_cons (ps_setLc (i := 5) (own := [("lap", 6)]) (g := gName 6) (tt := tYes) rfl nd rfl rfl (sw_true rfl rfl rfl (by decide +kernel)) (pi_range1 rfl h_range (pa_cons (pe_op op_add pe_int (pe_call F_draw hr2 rfl g_draw k_draw b_draw .nil pass0 (pa_cons (pv 0) (pa_cons pe_int pa_nil)))) pa_nil)) (blkOk_by (own := [("lap", 6)]) (N := ["state", "taps_here", "sort_here", "inner", "places_here", "parts_here", "lap"]) (sc := defScope sL_ct_net) (by decide +kernel)) (fun _ _ _ _ _ => pg_name (i := 6) nd rfl (Or.inl rfl)) (fun _ _ _ _ _ => pts_nil) (fun _ _ _ _ _ => (pe_call F_ct_part hr rfl g_ct_part k_ct_part b_ct_part .nil pass0 (pa_cons (pv 0) (pa_cons (pv 4) (pa_cons (pv 2) pa_nil))))))
    (pss_one (ps_ret (pe_tup (pa_cons (pv 1) (pa_cons (pe_callTy call_tuple_of (by rfl) h_tuple (by decide +kernel) (pa_cons (pv 5) pa_nil)) pa_nil)))))))), ?_⟩
  have three : (3 : Nat) ≤ sizeLine := by rw [sizeLine_eq]; decide
  have two : (2 : Nat) ≤ sizeLine := by rw [sizeLine_eq]; decide
  refine ⟨three, fun a1 ha1 => ⟨three, fun a2 ha2 => ⟨two, fun l hl => ?_⟩⟩⟩
  have s1 := same_upd (o := .lst (inA.map V.str)) ha1
  have s2 := same_upd (o := .lst (inB.map V.str)) ha2
  have s3 := same_upd (o := .lst [.ref a1, .ref a2]) hl
  have sall := s1.trans (s2.trans s3)
  have o1 := (s2.trans s3) _ _ (upd_same (H := H) (a := a1) (o := .lst (inA.map V.str)))
  have o2 := s3 _ _ (upd_same (a := a2) (o := .lst (inB.map V.str)))
  have S3 := hS.same sall
  have off1 := hS.off ha1
  have off2 := (hS.same s1).off ha2
  have offl := (hS.same (s1.trans s2)).off hl
  have ol := upd_same (H := upd (upd H a1 (.lst (inA.map V.str))) a2 (.lst (inB.map V.str))) (a := l) (o := .lst [.ref a1, .ref a2])
  refine ⟨_, rfl, d, g, c, n + 119, 2, rfl, S3, by decide, by decide +kernel, fun z H4 z0 z2 S4 kp => ?_⟩
  obtain ⟨i, rfl⟩ := Int.eq_ofNat_of_zero_le z0
  have ol4 := kp _ _ ol offl.2 offl.1
  obtain ⟨ax, I, hxI, hI, noff, ndI, lI, sub⟩ : ∃ (ax : Addr) (I : List Str), [V.ref a1, .ref a2][i]? = some (.ref ax) ∧ H4 ax = some (.lst (I.map V.str)) ∧ (ax ≠ g ∧ ax ≠ d) ∧ I.Nodup ∧ I.length = 3 ∧ ∀ z ∈ I, z ∈ innerAll := by
    match i, (show i < 2 by omega) with
    | 0, _ => exact ⟨a1, inA, rfl, kp _ _ o1 off1.2 off1.1, off1, inA_nodup, rfl, fun z hz => List.mem_append_left _ hz⟩
    | 1, _ => exact ⟨a2, inB, rfl, kp _ _ o2 off2.2 off2.1, off2, inB_nodup, rfl, fun z hz => List.mem_append_right _ hz⟩
  refine ⟨l, _, (i : Int), _, rfl, rfl, SqL.of ol4, atI_nat hxI, ?_⟩
  show tNoPart _ _ _
  unfold tNoPart
  refine ⟨_, rfl, by show 4 ≤ sizeLine; rw [sizeLine_eq]; decide, fun l2 hl2 => ?_⟩
  have s5 := same_upd (o := .lst [.int 2, .int 1, .int 3, .int 0]) hl2
  have off5 := S4.off hl2
  refine ⟨d, g, c, l2, n + 118, [.int 2, .int 1, .int 3, .int 0], rfl, S4.same s5, SqL.of upd_same, off5.1, by simp, by simp, fun i2 x H6 hx S6 kp2 => ?_⟩
  obtain ⟨m, rfl, m3⟩ : ∃ m : Nat, x = .int (m : Nat) ∧ m ≤ 3 := by
    match i2, hx with
    | 0, hx => cases hx; exact ⟨2, rfl, by decide⟩
    | 1, hx => cases hx; exact ⟨1, rfl, by decide⟩
    | 2, hx => cases hx; exact ⟨3, rfl, by decide⟩
    | 3, hx => cases hx; exact ⟨0, rfl, by decide⟩
  have hI6 := kp2 _ _ (s5 _ _ hI) noff.2 noff.1
  refine ⟨_, rfl, ?_⟩
  refine rSlL_any (SqL.of hI6) (ys := (I.take m).map V.str) (by rw [cut_upto, List.map_take]) fun q hq => ?_
  have s7 := same_upd (o := .lst ((I.take m).map V.str)) hq
  have kp06 := (Kp.of sall).trans (kp.trans ((Kp.of s5).trans kp2))
  have tk06 := kp06.tk hS
  have ht7 := same_seqT s7 (tk_seqT tk06 ht)
  refine ⟨_, rfl, t, _, rfl, .inr ht7, fun p hp => ?_⟩
  have s8 := same_upd (o := .lst (taps.map V.str)) hp
  refine ⟨_, rfl, p, q, taps.map V.str, (I.take m).map V.str, rfl, rfl, upd_same, s8 _ _ upd_same, ?_, fun r hr9 => ?_⟩
  · have := (taps_sum tok).2
    rw [List.length_map, List.length_map, List.length_take, sizeLine_eq]
    omega
  have s9 := same_upd (o := .lst (taps.map V.str ++ (I.take m).map V.str)) hr9
  have s79 := s7.trans (s8.trans s9)
  have er : (upd (upd (upd H6 q (.lst ((I.take m).map V.str))) p (.lst (taps.map V.str))) r (.lst (taps.map V.str ++ (I.take m).map V.str))) r = some (.lst ((taps ++ I.take m).map V.str)) := by rw [upd_same, List.map_append]
  have S9 := S6.same s79
  have offr := (S6.same (s7.trans s8)).off hr9
  have ht9 := same_seqT (s8.trans s9) ht7
  have kp09 := kp06.trans (Kp.of s79)
  generalize upd (upd (upd H6 q (.lst ((I.take m).map V.str))) p (.lst (taps.map V.str))) r (.lst (taps.map V.str ++ (I.take m).map V.str)) = H9 at er S9 ht9 kp09 ⊢
  generalize hps : taps ++ I.take m = ps at er
  have t6 := (taps_sum tok).2
  have t2 : 2 ≤ taps.length := by
    have q := tok
    unfold tapsS at q
    simp only [Bool.and_eq_true, decide_eq_true_eq] at q
    exact q.2.1
  have tnm : namesS taps = true := by
    have q := tok
    unfold tapsS at q
    rw [Bool.and_eq_true] at q
    exact q.1
  unfold namesS at tnm
  rw [Bool.and_eq_true] at tnm
  have pl9 : ps.length ≤ 9 := by rw [← hps, List.length_append, List.length_take]; omega
  have pl2 : 2 ≤ ps.length := by rw [← hps, List.length_append]; omega
  have pnm : ∀ x ∈ ps, nameS x = true := fun x hx => by
    rw [← hps] at hx
    rcases List.mem_append.mp hx with e | e
    · exact List.all_eq_true.mp tnm.1 x e
    · exact List.all_eq_true.mp inner_names x (sub x (List.mem_of_mem_take e))
  have pnd : ps.Nodup := by
    rw [← hps]
    refine List.nodup_append.mpr ⟨asc_nodup (rise_asc tnm.2), ndI.sublist (List.take_sublist _ _), fun x hx y hy e => ?_⟩
    have q := List.all_eq_true.mp inner_apart x (tin x hx)
    rw [e] at q
    simp [sub y (List.mem_of_mem_take hy)] at q
  refine ⟨_, rfl, d, g, c, n + 117, 7, rfl, S9, by decide, by decide +kernel, fun z2 H10 y0 y7 S10 kp3 => ?_⟩
  obtain ⟨w2, rfl⟩ := Int.eq_ofNat_of_zero_le y0
  have er10 := kp3 _ _ er offr.2 offr.1
  refine ⟨_, _, rfl, rfl, _, rfl, by omega, by omega, fun Z hZ => ?_⟩
  have offZ := S10.off hZ
  have en : ((3 : Int) + (w2 : Int)).toNat = 3 + w2 := by omega
  show LcGoal (Itr 0 ((3 : Int) + (w2 : Int)).toNat) _ _ _ _ _ _ _ _
  rw [en]
  refine lc_any (n := 3 + w2) (J := Itr 0 (3 + w2)) (fun i H => ∃ acc rs, H Z = some (.lst acc) ∧ RawsAt K H acc rs ∧ (∀ r ∈ rs, Drawn ps sort r ∧ r.num ∈ smalls) ∧ rs.length = i ∧ St H d g c (n + 13 * (9 - i)) ∧ Kp d g H10 H) ⟨[], [], upd_same, .nil, fun r hr => by simp at hr, rfl, (S10.same (same_upd hZ)).less (by omega), Kp.of (same_upd hZ)⟩ (fun i H hi _ => hi) (fun H _ => Nat.le_refl _) ?_ ?_
  · rintro i x H11 H' hi ⟨acc, rs, ea, hraws, hdr, rl, S11, kp4⟩ ⟨rfl, hx2⟩
    refine ⟨rfl, ?_⟩
    unfold tYes
    simp only [↓reduceIte]
    refine ⟨_, rfl, _, rfl, _, rfl, d, g, c, r, n + 13 * (9 - (i + 1)), ps, sort, rfl, S11.less (by omega), SqL.of (kp4 _ _ er10 offr.2 offr.1), pnd, pnm, pl2, pl9, fun v r5 H12 hraw dr ms S12 kp5 => ?_⟩
    have ea2 := kp5 _ _ ea offZ.2 offZ.1
    have tk5 := kp5.tk S11
    have sl : TK H12 (upd H12 Z (.lst (acc ++ [v]))) := .lst ea2
    have al : acc.length = rs.length := hraws.len
    refine ⟨acc, ea2, by rw [sizeLine_eq]; omega, acc ++ [v], rs ++ [r5], upd_same, ((hraws.keep tk5).keep sl).app (.cons (hraw.keep sl) .nil), fun r7 hr7 => ?_, by rw [List.length_append, rl]; rfl, ?_, ?_⟩
    · rcases List.mem_append.mp hr7 with e | e
      · exact hdr r7 e
      · rw [List.mem_singleton.mp e]; exact ⟨dr, ms⟩
    · obtain ⟨gs, cs, r1, t1, h1, h2, h3, h4⟩ := S12
      exact ⟨gs, cs, r1, t1, by rw [upd_ne offZ.2.symm]; exact h1, by rw [upd_ne offZ.1.symm]; exact h2, by
        have nc : c ≠ Z := fun e => S10.offc hZ e.symm
        rw [upd_ne nc]; exact h3, h4⟩
    · intro b o e n1 n2
      by_cases hb : b = Z
      · rw [hb, hZ] at e; cases e
      · rw [upd_ne hb]
        exact kp5 _ _ (kp4 _ _ e n1 n2) n1 n2
  · rintro H11 ⟨acc, rs, ea, hraws, hdr, rl, S11, kp4⟩
    have kp911 := kp3.trans kp4
    have ht11 := tk_seqT (kp911.tk S9) ht9
    refine ⟨_, rfl, _, rfl, Z, acc, rfl, .inl ⟨SqL.of ea, fun b hb => ⟨two, fun v hv => ?_⟩⟩⟩
    have s12 := same_upd (o := .tup acc) hb
    have s13 := same_upd (o := .tup [.ref t, .ref b]) hv
    have s123 := s12.trans s13
    refine k _ rs _ ⟨v, t, b, acc, rfl, SqT.of upd_same, same_seqT s123 ht11, same_seqT s13 (SqT.of upd_same), hraws.keep (.of s123)⟩ ⟨tok, ⟨ps, sort, pl9, fun x hx => by rw [← hps]; exact List.mem_append_left _ hx, pnd, fun r hr => (hdr r hr).1⟩, by omega, by omega⟩ ⟨I.take m, by rw [List.length_take]; omega, fun x hx => sub x (List.mem_of_mem_take hx), fun r hr x hx => by have q := (hdr r hr).1.sub x hx; rw [← hps] at q; exact List.mem_append.mp q⟩ (fun r hr => ⟨(hdr r hr).1.lead, (hdr r hr).1.hub⟩) (fun r hr => (hdr r hr).2) ((S11.same s123).less (by omega)) (kp09.trans (kp911.trans (Kp.of s123)))
end
end K05
set_option maxHeartbeats 1000000
namespace K05
open PySem PySem.Spec PyProof.Rows L2 Hx RZ
/-- a number of at most thirty digits, from 0 on -/
structure Num30 (m : Num) : Prop where
  ok : m.ok0 = true
  t0 : 0 ≤ m.top
  t1 : m.top < 10 ^ 30
  l0 : 0 ≤ m.low
  l1 : m.low < 10 ^ 30
theorem Num30.fit {m : Num} (h : Num30 m) : NumFit m := ⟨h.t0, Int.lt_trans h.t1 (by decide), h.l0, Int.lt_trans h.l1 (by decide)⟩
theorem smalls_30 {m : Num} (h : m ∈ smalls) : Num30 m := by
  have q : ∀ n ∈ smalls, n.ok0 = true ∧ 0 ≤ n.top ∧ n.top < 10 ^ 30 ∧ 0 ≤ n.low ∧ n.low < 10 ^ 30 := by decide +kernel
  obtain ⟨a, b, c, d, e⟩ := q m h
  exact ⟨a, b, c, d, e⟩
theorem made_30 {t b : Int} (t0 : 0 ≤ t) (t1 : t < 10 ^ 30) (b1 : 1 ≤ b) (b2 : b < 10 ^ 30) : Num30 (made t b) := by
  obtain ⟨t, rfl⟩ := Int.eq_ofNat_of_zero_le t0
  obtain ⟨b, rfl⟩ := Int.eq_ofNat_of_zero_le (Int.le_trans (by decide) b1)
  have bp : 0 < b := by omega
  have gp : 0 < Nat.gcd t b := Nat.gcd_pos_of_pos_right t bp
  have e1 : ((t : Int) / (Nat.gcd (t : Int).natAbs (b : Int).natAbs : Int)) = ((t / Nat.gcd t b : Nat) : Int) := by simp
  have e2 : ((b : Int) / (Nat.gcd (t : Int).natAbs (b : Int).natAbs : Int)) = ((b / Nat.gcd t b : Nat) : Int) := by simp
  have lt : t / Nat.gcd t b ≤ t := Nat.div_le_self _ _
  have lb : b / Nat.gcd t b ≤ b := Nat.div_le_self _ _
  have pb : 0 < b / Nat.gcd t b := Nat.div_pos (Nat.le_of_dvd bp (Nat.gcd_dvd_right t b)) gp
  unfold made
  rw [e1, e2]
  split
  · next h =>
    refine ⟨?_, ?_, ?_, ?_, ?_⟩
    · show (true && decide (0 ≤ (((t / Nat.gcd t b : Nat) : Int)))) = true
      rw [decide_eq_true (Int.natCast_nonneg _)]
      rfl
    · show (0 : Int) ≤ ((t / Nat.gcd t b : Nat) : Int); exact Int.natCast_nonneg _
    · show ((t / Nat.gcd t b : Nat) : Int) < 10 ^ 30; omega
    · show (0 : Int) ≤ 1; decide
    · show (1 : Int) < 10 ^ 30; decide
  · next h =>
    have ge : 2 ≤ b / Nat.gcd t b := by omega
    have cop : Nat.gcd (t / Nat.gcd t b) (b / Nat.gcd t b) = 1 := Nat.gcd_div_gcd_div_gcd_of_pos_right bp
    refine ⟨?_, ?_, ?_, ?_, ?_⟩
    · show ((decide ((2 : Int) ≤ ((b / Nat.gcd t b : Nat) : Int)) && decide ((Nat.gcd ((t / Nat.gcd t b : Nat) : Int).natAbs ((b / Nat.gcd t b : Nat) : Int).natAbs : Int) = 1)) && decide (0 ≤ (((t / Nat.gcd t b : Nat) : Int)))) = true
      rw [decide_eq_true (show (2 : Int) ≤ ((b / Nat.gcd t b : Nat) : Int) by exact Int.ofNat_le.mpr ge), decide_eq_true (show (0 : Int) ≤ ((t / Nat.gcd t b : Nat) : Int) from Int.natCast_nonneg _)]
      simp only [Int.natAbs_natCast, cop]
      rfl
    · show (0 : Int) ≤ ((t / Nat.gcd t b : Nat) : Int); exact Int.natCast_nonneg _
    · show ((t / Nat.gcd t b : Nat) : Int) < 10 ^ 30; omega
    · show (0 : Int) ≤ ((b / Nat.gcd t b : Nat) : Int); exact Int.natCast_nonneg _
    · show ((b / Nat.gcd t b : Nat) : Int) < 10 ^ 30; omega
section
variable {P : Program} {w : World} {K : PySem.W.Frag} {mg : Str → Option Value} {base : Heap}
def spWidth (K : PySem.W.Frag) : Sp := fun vs H Q _ => ∃ (d g c : Addr) (n : Nat), vs = [.ref d, .bl true] ∧ St H d g c (n + 3) ∧ ∀ v m H', NumAt K H' v m → Num30 m → St H' d g c n → Kp d g H H' → Q v H'
end
end K05
set_option maxHeartbeats 1000000
namespace K05
open PySem PySem.Spec PyProof.Rows L2 Hx RZ
def Raw.withN : Raw → Num → Raw
  | .flat ws _, m => .flat ws m
  | .hub ns _, m => .hub ns m
theorem withN_ends (r : Raw) (m : Num) : (r.withN m).ends = r.ends := by
  cases r with
  | hub ns n => rfl
  | flat ws n =>
    rcases ws with _ | ⟨k, _ | ⟨x, _ | ⟨y, t⟩⟩⟩ <;> rfl
theorem withN_word (r : Raw) (m : Num) : (r.withN m).word = r.word := by
  cases r with
  | hub ns n => rfl
  | flat ws n => cases ws <;> rfl
theorem withN_num (r : Raw) (m : Num) : (r.withN m).num = m := by cases r <;> rfl
theorem withN_right {r : Raw} {m : Num} (h : Right r) (hm : m.ok0 = true) : Right (r.withN m) := by
  cases h with
  | two k x y n hx hy hk hn => exact .two k x y m hx hy hk hm
  | hub ns n h1 h2 hn => exact .hub ns m h1 h2 hm
theorem withN_drawn {ps : List Str} {sort : Str} {r : Raw} {m : Num} (h : Drawn ps sort r) (hm : m.ok0 = true) : Drawn ps sort (r.withN m) where
  right := withN_right h.right hm
  sub := by rw [withN_ends]; exact h.sub
  few := by rw [withN_ends]; exact h.few
  lead := by rw [withN_word]; exact h.lead
  hub := by rw [withN_word]; exact h.hub
/-- all but the last item -/
theorem raw_init {K : PySem.W.Frag} {H : Hp} {v : V} {r : Raw} (h : RawAt K H v r) (ok : Right r) : ∃ a xs ys u, v = .ref a ∧ SqT K H a xs ∧ xs = ys ++ [u] ∧ ys ≠ [] ∧ ys.length ≤ 3 ∧ ∀ (H' : Hp) (b : Addr) (w : V) (m : Num), TK H H' → SqT K H' b (ys ++ [w]) → NumAt K H' w m → RawAt K H' (.ref b) (r.withN m) := by
  cases ok with
  | two k x y n hx hy hk hn =>
    obtain ⟨a, u, e, ha, hu⟩ := h
    exact ⟨a, _, [.str k, .str x, .str y], u, e, ha, rfl, by simp, by simp, fun H' b w m tk hb hw => ⟨b, w, rfl, hb, hw⟩⟩
  | hub ns n _ _ _ =>
    obtain ⟨a, b0, u, e, ha, hb0, hu⟩ := h
    exact ⟨a, _, [.str HUB, .ref b0], u, e, ha, rfl, by simp, by simp, fun H' b w m tk hb hw => ⟨b, b0, w, rfl, hb, tk_seqT tk hb0, hw⟩⟩
theorem sl_tupAK {X : Cx} {K : PySem.W.Frag} (h : X.K = K) : SlR X (rSlA K) := by subst h; exact sl_tupA
theorem op_catAK {X : Cx} {K : PySem.W.Frag} (h : X.K = K) : OpR X (binaryOp .Add) (rCatA K) := by subst h; exact op_catA
section
variable {P : Program} {w : World} {K : PySem.W.Frag} {mg : Str → Option Value} {base : Heap}
def spANet (K : PySem.W.Frag) : Sp := fun vs H Q _ => ∃ (d g c t : Addr) (n : Nat) (taps : List Str) (sort : Str), vs = [.ref d, .ref t, .str sort] ∧ St H d g c (n + 148) ∧ SqT K H t (taps.map V.str) ∧ tapsS taps = true ∧ (∀ x ∈ taps, x ∈ tapsAll) ∧
  ∀ v rs H', NetAt K H' v taps rs → NetD taps rs → InnR taps rs → SortR sort rs → (∀ r ∈ rs, Num30 r.num) → St H' d g c n → Kp d g H H' → Q v H'
end
end K05
set_option maxHeartbeats 1000000
namespace K05
open PySem PySem.Spec PyProof.Rows L2 Hx RZ
section
variable {P : Program} {w : World} {K : PySem.W.Frag} {mg : Str → Option Value} {base : Heap}
def spDrawn (K : PySem.W.Frag) : Sp := fun vs H Q _ => ∃ (d g c : Addr) (n M : Nat), vs = [.ref d, .int 2, .int (M : Int)] ∧ (2 ≤ M ∧ M ≤ 6) ∧ St H d g c (n + 157) ∧
  ∀ v taps rs H', NetAt K H' v taps rs → NetD taps rs → InnR taps rs → 2 ≤ taps.length ∧ taps.length ≤ 6 → (∀ x ∈ taps, x ∈ tapsAll) → (∀ r ∈ rs, Num30 r.num) → St H' d g c n → Kp d g H H' → Q v H'
/-- a drawn net is one -/
theorem drawn_ok {taps : List Str} {rs : List Raw} (h : NetD taps rs) : NetOk taps rs := by
  obtain ⟨ps, sort, pl9, psub, pnd, dr⟩ := h.ps
  have few := h.few
  have t6 := (taps_sum h.tp).2
  have tn : ∀ x ∈ taps, nameS x = true := by
    have q := h.tp
    unfold tapsS namesS at q
    simp only [Bool.and_eq_true] at q
    exact fun x hx => List.all_eq_true.mp q.1.1 x hx
  have esub : ∀ z ∈ allEnds taps rs, z ∈ ps := fun z hz => by
    unfold allEnds at hz
    rcases List.mem_append.mp hz with e | e
    · exact psub z e
    · obtain ⟨r, hr, hz⟩ := List.mem_flatMap.mp e
      exact (dr r hr).sub z hz
  have esum : ((rs.map fun r => r.ends.length)).sum ≤ rs.length * 4 := sum_le _ 4 rs fun r hr => (dr r hr).few
  refine ⟨h.tp, fun r hr => (dr r hr).right, by omega, ?_, fun ys pl => ?_, ⟨by omega, fun x hx => by have := name_len (tn x hx); omega⟩, fun r hr => ⟨fun x hx => by have := name_len (right_ends (dr r hr).right x hx); omega, by have := (dr r hr).few; omega⟩, ?_⟩
  · unfold mixS
    cases e1 : hasK LEAD rs with
    | false => rfl
    | true =>
      cases e2 : hasK HUB rs with
      | false => rfl
      | true =>
        unfold hasK at e1 e2
        obtain ⟨r1, m1, q1⟩ := List.any_eq_true.mp e1
        obtain ⟨r2, m2, q2⟩ := List.any_eq_true.mp e2
        have a := (dr r1 m1).lead (of_decide_eq_true q1)
        have b := (dr r2 m2).hub (of_decide_eq_true q2)
        rw [a] at b
        exact absurd b (by decide +kernel)
  · rw [places_len pl]
    have q : cntU (allEnds taps rs) ≤ ps.length := nodup_le (ded_nodup _) fun x hx => esub x ((ded_mem _ x).mp hx)
    omega
  · unfold allEnds
    rw [List.length_append, ← ends_sum, show scanBound = 4096 from rfl]
    omega
end
end K05
set_option maxHeartbeats 1000000
namespace K05
open PySem PySem.Spec PyProof.Rows L2 Hx RZ
theorem ints_of_all : ∀ {acc : List V}, (∀ y ∈ acc, ∃ z : Int, y = .int z) → ∃ cs : List Int, acc = cs.map V.int
  | [], _ => ⟨[], rfl⟩
  | y :: r, h => by
    obtain ⟨z, rfl⟩ := h y List.mem_cons_self
    obtain ⟨cs, e⟩ := ints_of_all fun x hx => h x (List.mem_cons_of_mem _ hx)
    exact ⟨z :: cs, by rw [e]; rfl⟩
section
variable {P : Program} {w : World} {K : PySem.W.Frag} {mg : Str → Option Value} {base : Heap}
def spBegun (K : PySem.W.Frag) : Sp := fun vs H Q _ => ∃ (s : Addr) (ns : List Int), vs = [.ref s] ∧ SqL K H s (ns.map V.int) ∧ ns.length ≤ 63 ∧ ∀ d g c H', St H' d g c 999999999 → Same H H' → Q (.ref d) H'
theorem sc_begun : FnScope ["script", "great", "cell"] ["script"] (defScope sL_begun) := ⟨rfl, rfl, rfl, by decide +kernel, rfl, by decide +kernel, by decide +kernel⟩
theorem ok_begun (D : Dn K mg "_law_begun" sL_begun) (h_abs : mg "abs" = none) : Ok P w K mg base L2.CX0 1 "_law_begun" ["script"] (spBegun K) := by
  refine Ok.mk0 D sc_begun (fun vs H Q E h => ?_) (fun _ _ _ _ _ _ us hl => match us, hl with | [_], _ => rfl) (fun f cdv A outer s H vs Q E hr h => ?_)
  · obtain ⟨x, ns, rfl, _⟩ := h
    rfl
  obtain ⟨s0, ns, rfl, hs, hl, k⟩ := h
  have nd := sc_begun.nd
  refine ⟨_, (pss_cons (ps_setLc (i := 1) (own := [("cell", 2)]) (g := gName 2) rfl nd rfl rfl (sw_true rfl rfl rfl (by decide +kernel)) (pi_list (pv 0)) (blkOk_by (own := [("cell", 2)]) (N := ["script", "great", "cell"]) (sc := defScope sL_begun) (by decide +kernel)) (fun _ _ _ _ _ => pg_name (i := 2) nd rfl (Or.inl rfl)) (fun _ _ _ _ _ => pts_one (pt_cmpR op_ge (pe_callB call_abs (by rfl) h_abs (by decide +kernel) (pa_cons (pv 2) pa_nil)) (pe_op op_pow pe_int pe_int) (nomark _))) (fun _ _ _ _ _ => (pe_op op_sub (pe_callB call_abs (by rfl) h_abs (by decide +kernel) (pa_cons (pv 2) pa_nil)) (pe_op op_pow pe_int pe_int))))
    (pss_one (ps_ret (pe_disp (pps_cons pe_str (pv 1) (pps_cons pe_str (pe_lc (own := [("cell", 2)]) (g := gName 2) (tt := tYes) rfl nd (pi_list (pv 0)) (blkOk_by (own := [("cell", 2)]) (N := ["script", "great", "cell"]) (sc := defScope sL_begun) (by decide +kernel)) (fun _ _ _ _ _ => pg_name (i := 2) nd rfl (Or.inl rfl)) (fun _ _ _ _ _ => pts_nil) (fun _ _ _ _ _ => (pe_callB call_abs (by rfl) h_abs (by decide +kernel) (pa_cons (pv 2) pa_nil)))) (pps_cons pe_str pe_int (pps_cons pe_str pe_int pps_nil)))) (by rfl) (by rfl) (fun z => by cases z) (by decide))))), ?_⟩
  have cp : CPow 10 18 := ⟨by decide, by decide, by decide⟩
  refine ⟨_, rfl, s0, rfl, ⟨_, hs⟩, fun g hg => ?_⟩
  refine lc_any (n := ns.length) (J := Itl K s0) (fun i H1 => ∃ gs : List Int, Same H H1 ∧ H1 g = some (.lst (gs.map V.int)) ∧ gs.length ≤ i) ⟨[], same_upd hg, upd_same, Nat.le_refl _⟩ (fun i H1 hi ⟨_, s1, _⟩ => ⟨_, _, same_seqL s1 hs, List.getElem?_eq_getElem (by simpa using hi)⟩) (fun H1 ⟨_, s1, _⟩ => ⟨_, same_seqL s1 hs, by simp⟩) ?_ ?_
  · rintro i x H1 H' hi ⟨gs, s1, eg, gl⟩ ⟨e9, yx⟩
    subst e9
    obtain ⟨z, rfl⟩ : ∃ z : Int, x = .int z := by
      have q := yx _ (same_seqL s1 hs)
      rw [List.getElem?_map] at q
      cases e : ns[i]? with
      | none => rw [e] at q; cases q
      | some z => rw [e] at q; exact ⟨z, (Option.some.inj q).symm⟩
    refine ⟨rfl, _, rfl, z, rfl, 10, 18, rfl, rfl, cp, _, _, rfl, rfl, _, rfl, ?_⟩
    by_cases hz : (10 : Int) ^ (18 : Int).toNat ≤ (if z < 0 then -z else z)
    · rw [decide_eq_true hz]
      refine iteT ⟨_, rfl, z, rfl, 10, 18, rfl, rfl, cp, _, _, rfl, rfl, gs.map V.int, eg, by rw [List.length_map, sizeLine_eq]; omega, gs ++ [(if z < 0 then -z else z) - (10 : Int) ^ (18 : Int).toNat], fun b u e => ?_, ?_, ?_⟩
      · rw [upd_ne (ne_of_none e hg)]
        exact s1 _ _ e
      · rw [upd_same, List.map_append]
        rfl
      · rw [List.length_append]; simp; omega
    · rw [decide_eq_false hz]
      exact iteF ⟨gs, s1, eg, by omega⟩
  · rintro H1 ⟨gs, s1, eg, gl⟩
    intro d hd
    have sd := same_upd (o := .dK []) hd
    refine ⟨_, rfl, _, rfl, s0, rfl, ⟨_, same_seqL (s1.trans sd) hs⟩, fun c hc => ?_⟩
    refine lc_rel (n := ns.length) (J := Itl K s0) (fun i y _ => ∃ z : Int, y = .int z) (fun _ _ _ _ _ h => h) hc (by rw [sizeLine_eq]; omega) (fun i H2 hi s2 => ⟨_, _, same_seqL (s1.trans (sd.trans s2)) hs, List.getElem?_eq_getElem (by simpa using hi)⟩) (fun H2 s2 => ⟨_, same_seqL (s1.trans (sd.trans s2)) hs, by simp⟩) ?_ ?_
    · rintro i x H2 H' F hi s2 ⟨e9, yx⟩ kk
      subst e9
      obtain ⟨z, rfl⟩ : ∃ z : Int, x = .int z := by
        have q := yx _ (same_seqL (s1.trans (sd.trans s2)) hs)
        rw [List.getElem?_map] at q
        cases e : ns[i]? with
        | none => rw [e] at q; cases q
        | some z => rw [e] at q; exact ⟨z, (Option.some.inj q).symm⟩
      exact ⟨rfl, _, rfl, z, rfl, kk _ _ ⟨_, rfl⟩ (Same.refl _)⟩
    · intro acc H2 s2 ec hl2 hy2
      obtain ⟨cs, rfl⟩ := ints_of_all (acc := acc) fun y hy => by
        obtain ⟨i, hi⟩ := List.getElem?_of_mem hy
        exact hy2 i y hi
      have ed := s2 _ _ (upd_same (H := H1) (a := d) (o := .dK []))
      have eg2 := s2 _ _ (sd _ _ eg)
      have ndg : d ≠ g := fun e => by rw [e, eg] at hd; cases hd
      have ndc : d ≠ c := fun e => by rw [← e, ed] at ec; cases ec
      have ncg : c ≠ g := fun e => by
        have q := sd _ _ eg
        rw [e] at hc
        rw [hc] at q
        cases q
      refine ⟨ed, kvS g c 0 0, rfl, by show 4 ≤ 15; decide, ?_⟩
      have em : mergeK [] (kvS g c 0 0) = kvS g c 0 0 := by
        unfold kvS
        kernel_rfl
      rw [em]
      refine k d g c _ ⟨gs, cs, 0, 0, upd_same, by rw [upd_ne ndg.symm]; exact eg2, by rw [upd_ne ndc.symm]; exact ec, ncg, by rw [List.length_map] at hl2; omega, by decide, by decide⟩ fun b u e => ?_
      have e1 := s1 _ _ e
      rw [upd_ne (ne_of_none e1 hd)]
      exact s2 _ _ (sd _ _ e1)
end
end K05
set_option maxHeartbeats 1000000
/-! ### tuples of texts: <, >=, sorted(list), sorted(dict) -/
namespace Hx
open PySem PySem.Spec PyProof.Rows L2
abbrev cmpLt := PySem.W.dataLt
def rLtD (K : PySem.W.Frag) : R2 := fun x y H Q => ∃ d e, Dp K H x d ∧ Dp K H y e ∧ PySem.W.alike d e = true ∧ d ≠ .none ∧ d.depth ≤ 50 ∧ Q (.bl (PySem.W.dataLt d e)) H
def rGeD (K : PySem.W.Frag) : R2 := fun x y H Q => ∃ d e, Dp K H x d ∧ Dp K H y e ∧ PySem.W.alike d e = true ∧ d ≠ .none ∧ d.depth ≤ 50 ∧ Q (.bl (!PySem.W.dataLt d e)) H
section
variable {X : Cx}
theorem op_ltD (hu : X.A.units + 64 < cLine) : OpR X (compareOp .Lt) (rLtD X.K) := by
  intro pins s σ H x y v u Q I rx ry h
  obtain ⟨d, e, hd, he, ha, hn, hz, q⟩ := h
  obtain ⟨as, r1⟩ := Dp.reads I d x v hd rx
  obtain ⟨bs, r2⟩ := Dp.reads I e y u he ry
  exact PySem.W.lt_data r1 r2 ha hn (by have := Nat.min_le_left d.depth e.depth; omega) ⟨.bl _, H, I, rfl, q⟩
theorem op_geD (hu : X.A.units + 64 < cLine) : OpR X (compareOp .GtE) (rGeD X.K) := by
  intro pins s σ H x y v u Q I rx ry h
  obtain ⟨d, e, hd, he, ha, hn, hz, q⟩ := h
  obtain ⟨as, r1⟩ := Dp.reads I d x v hd rx
  obtain ⟨bs, r2⟩ := Dp.reads I e y u he ry
  exact PySem.W.ge_data r1 r2 ha hn (by have := Nat.min_le_left d.depth e.depth; omega) ⟨.bl _, H, I, rfl, q⟩
end
section
variable {β : Type}
theorem each_vals {f : β → V} : ∀ {bs : List β} {us : List Value}, Vals (bs.map f) us → PySem.W.EachIs (fun u b => RelV (f b) u) us bs
  | [], _, r => by cases r; exact .nil
  | b :: bs, _, r => by
    cases r with
    | cons h t => exact .cons h (each_vals t)
theorem vals_each {f : β → V} : ∀ {bs : List β} {us : List Value}, PySem.W.EachIs (fun u b => RelV (f b) u) us bs → Vals (bs.map f) us
  | _, _, .nil => .nil
  | _, _, .cons h t => .cons h (vals_each t)
theorem each_mem {R : Value → β → Prop} {S : Value → β → Prop} : ∀ {us : List Value} {bs : List β}, PySem.W.EachIs R us bs → (∀ b ∈ bs, ∀ u, R u b → S u b) → PySem.W.EachIs S us bs
  | _, _, .nil, _ => .nil
  | _, _, .cons h t, k => .cons (k _ List.mem_cons_self _ h) (each_mem t fun b hb u r => k b (List.mem_cons_of_mem _ hb) u r)
end
abbrev sortD {β : Type} (enc : β → PyData) (bs : List β) : List β := bs.mergeSort (PySem.W.dataLe false enc)
section
variable {X : Cx}
def rSrtD (K : PySem.W.Frag) : List V → Hp → VK → Prop := fun vs H Q => ∃ (a : Addr) (bs : List (V × PyData)), vs = [.ref a] ∧ SqL K H a (bs.map (·.1)) ∧ (∀ b ∈ bs, Dp K H b.1 b.2) ∧ PySem.W.AllAlike (bs.map (·.2)) ∧ PySem.W.Sortable (bs.map (·.2)) ∧
  bs.length ≤ sizeLine ∧ (∀ b ∈ bs, b.2.depth ≤ 50) ∧ ∀ p, H p = none → Q (.ref p) (upd H p (.lst ((sortD (·.2) bs).map (·.1))))
theorem cr_srtD (hu : X.A.units + 64 < cLine) : CallR X (.builtin "sorted") (rSrtD X.K) := by
  intro pins s σ H vs us Q I r h
  obtain ⟨a, bs, rfl, hs, hd, hal, hk, hz, hp, q⟩ := h
  obtain ⟨its, rv, hl, _⟩ := I.list hs
  rw [Vals.ref1 r]
  have e1 := each_vals rv
  have e2 : PySem.W.EachIs (fun (v : Value) (b : V × PyData) => ∃ as, Reads s.heap v b.2 as) its bs := each_mem e1 fun b hb u hr => Dp.reads I b.2 b.1 u (hd b hb) hr
  refine PySem.W.sorted_data (enc := fun b : V × PyData => b.2) hl.isList e1 e2 hal hk hz (fun b hb => ?_) fun out h1 h2 => ?_
  · have := hp b hb
    omega
  · obtain ⟨c, hc⟩ := PyProof.Rows.sortedAll_at s.heap its out.toArray
    have hz2 : ((sortD (·.2) bs).map (·.1)).length ≤ sizeLine := by rw [List.length_map, List.length_mergeSort]; exact hz
    exact ⟨.ref _, upd H (s.heap.objs.size + 1) (.lst ((sortD (·.2) bs).map (·.1))), I.laid (t' := s.toks) (fun _ _ => PyProof.Rows.sortedAll_old) (Nat.le_succ _) ⟨hz2, out, c, vals_each h2, hc⟩, rfl, q _ (I.hok.fresh (Nat.le_succ _))⟩
end
/-! sorted(d), keys tuples of texts -/
abbrev lotK (ns : List Str) : List Key := ns.map Sum.inr
abbrev lotD (ns : List Str) : PyData := .tuple (ns.map PyData.str)
theorem kV_lot (ns : List Str) : (lotK ns).map kV = ns.map V.str := by
  unfold lotK
  rw [List.map_map]
  rfl
theorem alike_lots : ∀ xs ys : List Str, PySem.W.alikeAll (xs.map PyData.str) (ys.map PyData.str) = true
  | [], _ => by simp [PySem.W.alikeAll]
  | _ :: _, [] => by simp [PySem.W.alikeAll]
  | x :: xs, y :: ys => by
    have ih := alike_lots xs ys
    simp only [List.map_cons, PySem.W.alikeAll, PySem.W.alike, ih, Bool.and_self]
theorem alike_lot (xs ys : List Str) : PySem.W.alike (lotD xs) (lotD ys) = true := by
  show PySem.W.alike (.tuple _) (.tuple _) = true
  simp only [PySem.W.alike]
  exact alike_lots xs ys
theorem depth_strs : ∀ xs : List Str, PyData.depthAll (xs.map PyData.str) = 0
  | [] => by simp [PyData.depthAll]
  | x :: xs => by
    simp only [List.map_cons, PyData.depthAll, PyData.depth, depth_strs xs]
    rfl
theorem depth_lot (xs : List Str) : (lotD xs).depth ≤ 1 := by
  show PyData.depth (.tuple _) ≤ 1
  simp only [PyData.depth, depth_strs]
  omega
def rSrtDT : List V → Hp → VK → Prop := fun xs H Q => ∃ (d : Addr) (es : List (List Str × V)), xs = [.ref d] ∧ Rd H d (.dT (es.map fun e => (lotK e.1, e.2))) ∧ (∀ e ∈ es, e.1 ≠ []) ∧
  ∀ (p : Addr) (bs : List (Addr × List Str)), H p = none → bs.map (·.2) = es.map (·.1) → (∀ b ∈ bs, H b.1 = some (.tup (b.2.map V.str))) →
    Q (.ref p) (upd H p (.lst ((sortD (fun b : Addr × List Str => lotD b.2) bs).map fun b => .ref b.1)))
theorem keys_pairs {H : Hp} : ∀ {es : List (List Str × V)} {bs : List Addr}, IsKeys H (es.map fun e => (lotK e.1, e.2)) bs → ∃ cs : List (Addr × List Str), cs.map (·.1) = bs ∧ cs.map (·.2) = es.map (·.1) ∧ ∀ c ∈ cs, H c.1 = some (.tup (c.2.map V.str))
  | [], _, r => by
    cases r
    exact ⟨[], rfl, rfl, by simp⟩
  | e :: es, _, r => by
    have r' : Paired (fun p b => H b = some (.tup (p.1.map kV))) ((lotK e.1, e.2) :: es.map fun e => (lotK e.1, e.2)) _ := r
    cases r' with
    | cons h t =>
      obtain ⟨cs, c1, c2, c3⟩ := keys_pairs t
      refine ⟨(_, e.1) :: cs, by rw [List.map_cons, c1], by rw [List.map_cons, List.map_cons, c2], fun c hc => ?_⟩
      rcases List.mem_cons.mp hc with q | q
      · rw [q]
        rw [kV_lot] at h
        exact h
      · exact c3 c q
section
variable {X : Cx}
theorem cr_srtDT (hc : X.calm = true) (hu : X.A.units + 64 < cLine) : CallR X (.builtin "sorted") rSrtDT := by
  intro pins s σ H xs us Q I r h
  obtain ⟨d, es, rfl, hd, hne, q⟩ := h
  obtain ⟨u, rfl, rx⟩ := r.one
  cases rx
  obtain ⟨z, hs, ks, pr, o, ents, ep, ho, hx, hdt, he, hn⟩ := (show ObjOk X.prog X.w H s.heap d (.dT (es.map fun e => (lotK e.1, e.2))) from hd.ok I.hok)
  have l1 : ents.size = ks.length := size_of_entries he
  have l2 : (es.map fun e => (lotK e.1, e.2)).length = ks.length := Paired.length pr
  obtain ⟨cs, c1, c2, c3⟩ := keys_pairs (isKeys_of pr)
  have lc : cs.length = ks.length := by
    have := congrArg List.length c1
    rw [List.length_map, List.length_map] at this
    exact this
  have hz : ks.length ≤ sizeLine := by omega
  refine Calls.call_function_entry PyProof.Rows.kind_sorted PyProof.Rows.plain_sorted PyProof.Rows.entry_sorted (PyProof.Rows.args_sorted1 _) ?_
  unfold Builtin.«sorted»
  refine wpAny_bind (m := checkCount "sorted" 1 1 _) (wpAny_pure ?_)
  refine wpAny_bind (PySem.W.kdu_collect (A := X.A.in1) (kdl_raw hs hx hdt) (I.ok.hd hc) ho (by omega) fun h' tk acc hk it => ?_)
  have ea : acc.toList = ks.map fun x => Value.ref x.2.1 := by
    have hl : acc.toList.length = ks.length := by rw [Array.length_toList, it.1]; exact l1
    apply List.ext_getElem?
    intro j
    rw [List.getElem?_map]
    cases hj : acc.toList[j]? with
    | none =>
      have h1 := List.getElem?_eq_none_iff.mp hj
      rw [List.getElem?_eq_none (by omega)]
      all_goals rfl
    | some v =>
      obtain ⟨en, hen, hv⟩ := it.2 j v (by rw [← Array.getElem?_toList]; exact hj)
      have qe := entry_at he j
      rw [hen] at qe
      cases hb : ks[j]? with
      | none =>
        rw [hb] at qe
        exact nomatch (show some en = none from qe)
      | some b =>
        rw [hb] at qe
        have e2 : en = entryOfKey (tupleKind (mixKind X.prog X.w)) b := Option.some.inj qe
        rw [hv, e2]
        all_goals rfl
  have eb : acc.toList = cs.map fun c => Value.ref c.1 := by
    have e3 : (cs.map fun c => Value.ref c.1) = (cs.map (·.1)).map Value.ref := by rw [List.map_map]; rfl
    rw [ea, e3, c1, List.map_map]
    rfl
  have hal : acc.toList.length = cs.length := by rw [eb, List.length_map]
  have I1 : Inv X pins σ H { s with heap := h', toks := tk } := I.kept hk
  have rv : Vals (cs.map fun c => V.ref c.1) acc.toList := by
    have q2 := vals_refs (cs.map (·.1))
    rw [List.map_map, List.map_map] at q2
    rw [eb]
    exact q2
  have e1 := each_vals rv
  refine wpAny_bind (wpAny_newList ?_ (by rw [hal, lc]; exact hz))
  have hoL : (h'.push (seqObj "list" acc.toList.toArray 0)).get? h'.objs.size = some (seqObj "list" acc.toList.toArray 0) := Heap.get?_push_size _ rfl
  show wpAny _ _ _ _ _ { s with heap := h'.push (seqObj "list" acc.toList.toArray 0), toks := tk }
  have hpn := I1.hok.fresh (Nat.le_refl _)
  have er : PySem.W.EachIs (fun (v : Value) (b : Addr × List Str) => ∃ as, Reads (h'.push (seqObj "list" acc.toList.toArray 0)) v (lotD b.2) as ∧ h'.objs.size ∉ as) acc.toList cs := each_mem e1 fun b hb u hr => by
    have hb3 := c3 b hb
    obtain ⟨as, ra⟩ := Dp.reads I1 (lotD b.2) (.ref b.1) u (.tup (SqT.of hb3) (dpAll_strs b.2)) hr
    refine ⟨as, PyProof.Rows.Reads.keeps (fun _ _ e => Heap.get?_push_of_some _ e) ra, fun hm => ?_⟩
    obtain ⟨ob, hob⟩ := PyProof.On.reads_mem_get ra _ hm
    exact absurd (Heap.lt_size hob) (Nat.lt_irrefl _)
  refine wpAny_bind (wpAny_holding (PySem.W.list_sort_data (enc := fun b : Addr × List Str => lotD b.2) (s := { s with heap := h'.push (seqObj "list" acc.toList.toArray 0), toks := tk }) hoL e1 er (PySem.W.AllAlike.of fun b b' => alike_lot b.2 b'.2) ?_ (by rw [lc]; exact hz) (fun b hb => ?_) fun out h1 h2 => ?_))
  · exact .inl fun x hx => by
      obtain ⟨b, hb, rfl⟩ := List.mem_map.mp hx
      have mb : b.2 ∈ es.map (·.1) := by rw [← c2]; exact List.mem_map.mpr ⟨b, hb, rfl⟩
      obtain ⟨e, me, ee⟩ := List.mem_map.mp mb
      have := hne e me
      rw [ee] at this
      cases hb2 : b.2 with
      | nil => exact absurd hb2 this
      | cons x r => exact ⟨_, _, by show lotD _ = _; rfl⟩
  · have := depth_lot b.2
    show X.A.in1.units + 1 + (lotD b.2).depth < cLine
    have e5 : X.A.in1.units ≤ X.A.units + 2 := by first | exact Nat.le_succ_of_le (Nat.le_refl _) | (show X.A.units + _ ≤ _; omega)
    omega
  · obtain ⟨e', he'⟩ := PyProof.Rows.sortedHeap_at (vs := acc.toList) (out := out.toArray) hoL
    have hz2 : ((sortD (fun b : Addr × List Str => lotD b.2) cs).map fun b => V.ref b.1).length ≤ sizeLine := by rw [List.length_map, List.length_mergeSort, lc]; exact hz
    refine wpAny_pure ⟨_, rfl, .ref h'.objs.size, upd H h'.objs.size (.lst ((sortD (fun b : Addr × List Str => lotD b.2) cs).map fun b => V.ref b.1)), I1.laid (t' := tk) (fun b u e => ?_) (Nat.le_refl _)
      ⟨hz2, out, e', vals_each h2, he'⟩, rfl, q _ cs hpn c2 c3⟩
    have hb : b < h'.objs.size := Heap.lt_size e
    rw [PyProof.Rows.sortedHeap_old (Nat.ne_of_lt hb) (by rw [size_push']; exact Nat.lt_succ_of_lt hb)]
    exact Heap.get?_push_of_some _ e
end
end Hx
set_option maxHeartbeats 1000000
/-! ### comprehensions with a test; dicts with lots as keys -/
namespace Hx
open PySem PySem.Spec PyProof.Rows L2
theorem paired_imp {α β : Type} {F G : α → β → Prop} : ∀ {l : List α} {m : List β}, Paired F l m → (∀ a b, F a b → G a b) → Paired G l m
  | _, _, .nil, _ => .nil
  | _, _, .cons h t, k => .cons (k _ _ h) (paired_imp t k)
theorem paired_get2 {α β : Type} {F : α → β → Prop} : ∀ {l : List α} {m : List β} {i : Nat} {b : β}, Paired F l m → m[i]? = some b → ∃ a, l[i]? = some a ∧ F a b
  | _, _, 0, _, .cons h _, e => by
    simp at e
    subst e
    exact ⟨_, rfl, h⟩
  | _, _, i + 1, a, .cons _ t, e => by
    simp at e
    obtain ⟨b, hb, f⟩ := paired_get2 (i := i) t e
    exact ⟨b, by simpa using hb, f⟩
theorem paired_len {α β : Type} {F : α → β → Prop} {l : List α} {m : List β} (h : Paired F l m) : l.length = m.length := Paired.length h
theorem paired_snoc {α β : Type} {F : α → β → Prop} {l : List α} {m : List β} {a : α} {b : β} (h : Paired F l m) (k : F a b) : Paired F (l ++ [a]) (m ++ [b]) := Paired.snoc h k
theorem paired_app {α β : Type} {F : α → β → Prop} : ∀ {l l' : List α} {m m' : List β}, Paired F l m → Paired F l' m' → Paired F (l ++ l') (m ++ m')
  | _, _, _, _, .nil, k => k
  | _, _, _, _, .cons h t, k => .cons h (paired_app t k)
theorem paired_all {α β : Type} {F : α → β → Prop} {l : List α} {m : List β} (hl : l.length = m.length) (h : ∀ (i : Nat) a b, l[i]? = some a → m[i]? = some b → F a b) : Paired F l m := by
  induction l generalizing m with
  | nil =>
    cases m with
    | nil => exact .nil
    | cons b m => simp at hl
  | cons a l ih =>
    cases m with
    | nil => simp at hl
    | cons b m =>
      exact .cons (h 0 a b rfl rfl) (ih (by simpa using hl) fun i x y e1 e2 => h (i + 1) x y (by simpa using e1) (by simpa using e2))
section
variable {J : It} {g : TG} {tt : TT} {te : TE} {vs : List Nat} {σ : L2.St} {H1 : Hp} {D : Addr} {Qd : Hp → Prop} {β : Type}
/-- a comprehension whose test is known by the data -/
theorem lc_filt (ds : List β) (p : β → Bool) (R : V → β → Hp → Prop) (hR : ∀ v b H H', TK H H' → R v b H → R v b H') (hn : H1 D = none) (hsz : ds.length < sizeLine) (go : ∀ i H, i < ds.length → Same H1 H → J.go i H) (stop : ∀ H, Same H1 H → J.stop ds.length H)
    (turn : ∀ (i : Nat) (b : β) (x : V) (H H' : Hp) (F : VK) (G : Hp → Prop), ds[i]? = some b → Same H1 H → J.yld i H x H' → (p b = true → ∀ y H4, R y b H4 → Same H H4 → F y H4) → (p b = false → ∀ H4, Same H H4 → G H4) →
      g x (wipe σ vs) H' fun σ2 H2 => wipe σ2 vs = wipe σ vs ∧ tt σ2 H2 fun c H3 => if c = true then te σ2 H3 F else G H3)
    (hd : ∀ acc H, Same H1 H → H D = some (.lst acc) → Paired (fun v b => R v b H) acc (ds.filter p) → Qd H) : LcGoal J g tt te vs σ H1 D Qd := by
  have s1 : ∀ {H : Hp} {o : HO}, Same H1 H → Same H1 (upd H D o) := fun s b u e => by rw [upd_ne (ne_of_none e hn)]; exact s b u e
  refine lc_any (n := ds.length) (fun i H => ∃ acc, Same H1 H ∧ H D = some (.lst acc) ∧ Paired (fun v b => R v b H) acc ((ds.take i).filter p)) ⟨[], s1 (Same.refl H1), upd_same, .nil⟩ (fun i H hi ⟨_, s, _⟩ => go i H hi s) (fun H ⟨_, s, _⟩ => stop H s) ?_ fun H ⟨acc, s, e, k⟩ => hd acc H s e (by rw [List.take_length] at k; exact k)
  rintro i x H H' hi ⟨acc, s, e, k⟩ y
  have hb : ds[i]? = some ds[i] := List.getElem?_eq_getElem hi
  have et : ds.take (i + 1) = ds.take i ++ [ds[i]] := by rw [List.take_add_one, hb]; rfl
  have small : acc.length < sizeLine := by
    rw [paired_len k]
    have h1 : ((ds.take i).filter p).length ≤ (ds.take i).length := List.length_filter_le _ _
    have h2 : (ds.take i).length ≤ ds.length := by rw [List.length_take]; omega
    omega
  refine turn i ds[i] x H H' _ _ hb s y (fun hp z H4 rz s4 => ?_) (fun hp H4 s4 => ?_)
  · have e4 := s4 _ _ e
    refine ⟨acc, e4, small, acc ++ [z], s1 (s.trans s4), upd_same, ?_⟩
    have tk : TK H4 (upd H4 D (.lst (acc ++ [z]))) := .lst e4
    rw [et, List.filter_append, List.filter_cons, if_pos hp]
    exact paired_snoc (paired_imp k fun v b h => hR _ _ _ _ ((TK.of s4).trans tk) h) (hR _ _ _ _ tk rz)
  · refine ⟨acc, s.trans s4, s4 _ _ e, ?_⟩
    rw [et, List.filter_append, List.filter_cons, if_neg (by rw [hp]; decide)]
    simp only [List.filter_nil, List.append_nil]
    exact paired_imp k fun v b h => hR _ _ _ _ (TK.of s4) h
/-- .. and no test -/
theorem lc_each (ds : List β) (R : V → β → Hp → Prop) (hR : ∀ v b H H', TK H H' → R v b H → R v b H') (hn : H1 D = none) (hsz : ds.length < sizeLine) (go : ∀ i H, i < ds.length → Same H1 H → J.go i H) (stop : ∀ H, Same H1 H → J.stop ds.length H)
    (turn : ∀ (i : Nat) (b : β) (x : V) (H H' : Hp) (F : VK), ds[i]? = some b → Same H1 H → J.yld i H x H' → (∀ y H4, R y b H4 → Same H H4 → F y H4) →
      g x (wipe σ vs) H' fun σ2 H2 => wipe σ2 vs = wipe σ vs ∧ te σ2 H2 F)
    (hd : ∀ acc H, Same H1 H → H D = some (.lst acc) → Paired (fun v b => R v b H) acc ds → Qd H) : LcGoal J g tYes te vs σ H1 D Qd := by
  refine lc_rel (fun i y H => ∃ b, ds[i]? = some b ∧ R y b H) (fun i y H H' tk ⟨b, e, r⟩ => ⟨b, e, hR _ _ _ _ tk r⟩) hn hsz go stop (fun i x H H' F hi s y kk => ?_) fun acc H s e hl k => ?_
  · exact turn i ds[i] x H H' F (List.getElem?_eq_getElem hi) s y fun z H4 r s4 => kk z H4 ⟨_, List.getElem?_eq_getElem hi, r⟩ s4
  · refine hd acc H s e (paired_all hl fun i a b e1 e2 => ?_)
    obtain ⟨b', e3, r⟩ := k i a e1
    rw [e2] at e3
    cases e3
    exact r
end
/-! dicts with lots as keys -/
theorem lotK_inj {a b : List Str} (h : lotK a = lotK b) : a = b := by
  induction a generalizing b with
  | nil =>
    cases b with
    | nil => rfl
    | cons y b => cases h
  | cons x a ih =>
    cases b with
    | nil => cases h
    | cons y b =>
      have h' : (Sum.inr x : Key) :: lotK a = Sum.inr y :: lotK b := h
      injection h' with h1 h2
      rw [Sum.inr.inj h1, ih h2]
theorem TK.dctT {H : Hp} {a : Addr} {o : HO} {xs : List (List Key × V)} (h : H a = some (.dT xs)) : TK H (upd H a o) :=
  ⟨fun b _ e => by rw [upd_ne (ne_of e h (by intro z; cases z))]; exact e, fun b _ _ e => by rw [upd_ne (ne_of e h (by intro z; cases z))]; exact e⟩
abbrev lotE (e : List Str × V) : List Key × V := (lotK e.1, e.2)
theorem valV_lot (l : List Str) : ∀ es : List (List Str × V), valV (es.map lotE) (lotK l) = (es.find? fun e => decide (e.1 = l)).map (·.2)
  | [] => rfl
  | e :: es => by
    rw [List.map_cons, List.find?_cons]
    by_cases h : e.1 = l
    · rw [valV_pos (p := lotE e) (by show lotK e.1 = lotK l; rw [h]), decide_eq_true h]
      rfl
    · rw [valV_neg (p := lotE e) (fun q => h (lotK_inj q)), decide_eq_false h, valV_lot l es]
def putE (es : List (List Str × V)) (l : List Str) (v : V) : List (List Str × V) := match es with
  | [] => [(l, v)]
  | e :: r => if e.1 = l then (e.1, v) :: r else e :: putE r l v
theorem putK_lot (l : List Str) (v : V) : ∀ es : List (List Str × V), (es.map (·.1)).Nodup → putK (es.map lotE) (lotK l) v = (putE es l v).map lotE := by
  have same : ∀ es : List (List Str × V), l ∉ es.map (·.1) → (es.map lotE).map (fun kv => if kv.1 = lotK l then (kv.1, v) else kv) = es.map lotE := fun es hn => by
    rw [List.map_map]
    refine List.map_congr_left fun e he => ?_
    show (if lotK e.1 = lotK l then (lotK e.1, v) else lotE e) = lotE e
    rw [if_neg fun q => hn (List.mem_map.mpr ⟨e, he, lotK_inj q⟩)]
  have anyE : ∀ es : List (List Str × V), (((es.map lotE).any fun kv => decide (kv.1 = lotK l)) = true ↔ l ∈ es.map (·.1)) := fun es => by
    rw [List.any_eq_true]
    constructor
    · rintro ⟨kv, hkv, h⟩
      obtain ⟨e, he, rfl⟩ := List.mem_map.mp hkv
      exact List.mem_map.mpr ⟨e, he, lotK_inj (of_decide_eq_true h)⟩
    · intro h
      obtain ⟨e, he, q⟩ := List.mem_map.mp h
      exact ⟨lotE e, List.mem_map.mpr ⟨e, he, rfl⟩, decide_eq_true (by show lotK e.1 = lotK l; rw [q])⟩
  have there : ∀ es : List (List Str × V), (es.map (·.1)).Nodup → l ∈ es.map (·.1) → (es.map lotE).map (fun kv => if kv.1 = lotK l then (kv.1, v) else kv) = (putE es l v).map lotE := fun es => by
    induction es with
    | nil => intro _ h; simp at h
    | cons e r ih =>
      intro n h
      rw [List.map_cons, List.nodup_cons] at n
      unfold putE
      by_cases q : e.1 = l
      · rw [if_pos q, List.map_cons, List.map_cons, same r (q ▸ n.1)]
        show (if lotK e.1 = lotK l then (lotK e.1, v) else lotE e) :: _ = _
        rw [if_pos (by rw [q])]
        rfl
      · rw [if_neg q, List.map_cons, List.map_cons, List.map_cons]
        have h2 : l ∈ r.map (·.1) := by
          rw [List.map_cons] at h
          rcases List.mem_cons.mp h with z | z
          · exact absurd z.symm q
          · exact z
        rw [ih n.2 h2]
        show (if lotK e.1 = lotK l then (lotK e.1, v) else lotE e) :: _ = _
        rw [if_neg fun z => q (lotK_inj z)]
  have new : ∀ es : List (List Str × V), l ∉ es.map (·.1) → es.map lotE ++ [(lotK l, v)] = (putE es l v).map lotE := fun es => by
    induction es with
    | nil => intro _; rfl
    | cons e r ih =>
      intro h
      rw [List.map_cons, List.mem_cons, not_or] at h
      unfold putE
      rw [if_neg fun q => h.1 q.symm, List.map_cons, List.map_cons, List.cons_append, ih h.2]
  intro es n
  unfold putK
  by_cases h : l ∈ es.map (·.1)
  · rw [if_pos ((anyE es).mpr h), there es n h]
  · rw [if_neg fun q => h ((anyE es).mp q), new es h]
end Hx
namespace Hx
open PySem PySem.Spec PyProof.Rows L2
section
variable {X : Cx} {K : PySem.W.Frag}
theorem op_neDK (hK : X.K = K) (hu : X.A.units + 64 < cLine) : OpR X (compareOp .NotEq) (rNeD K) := by
  subst hK
  exact op_neD hu
theorem op_eqDK (hK : X.K = K) (hu : X.A.units + 64 < cLine) : OpR X (compareOp .Eq) (rEqD K) := by
  subst hK
  exact op_eqD hu
theorem op_ltDK (hK : X.K = K) (hu : X.A.units + 64 < cLine) : OpR X (compareOp .Lt) (rLtD K) := by
  subst hK
  exact op_ltD hu
theorem op_geDK (hK : X.K = K) (hu : X.A.units + 64 < cLine) : OpR X (compareOp .GtE) (rGeD K) := by
  subst hK
  exact op_geD hu
end
end Hx
namespace Hx
open PySem PySem.Spec PyProof.Rows L2
theorem ix_tupK {X : Cx} {K : PySem.W.Frag} (h : X.K = K) : IxR X (rIxT K) := by subst h; exact ix_tup
theorem sl_tupAK {X : Cx} {K : PySem.W.Frag} (h : X.K = K) : SlR X (rSlA K) := by subst h; exact sl_tupA
theorem op_catAK {X : Cx} {K : PySem.W.Frag} (h : X.K = K) : OpR X (binaryOp .Add) (rCatA K) := by subst h; exact op_catA
theorem paired_strs {β : Type} {f : β → Str} : ∀ {acc : List V} {ds : List β}, Paired (fun v b => v = .str (f b)) acc ds → acc = (ds.map f).map V.str
  | _, _, .nil => rfl
  | _, _, .cons h t => by rw [h, paired_strs t]; rfl
theorem paired_bools {β : Type} {f : β → Bool} : ∀ {acc : List V} {ds : List β}, Paired (fun v b => v = .bl (f b)) acc ds → acc = (ds.map f).map V.bl
  | _, _, .nil => rfl
  | _, _, .cons h t => by rw [h, paired_bools t]; rfl
end Hx
namespace Hx
open PySem PySem.Spec PyProof.Rows L2
section
variable {J : It} {g : TG} {tt : TT} {vs : List Nat} {σ : L2.St} {H1 : Hp} {D : Addr} {Qd : Hp → Prop} {β : Type}
/-- [1 for .. if ..], by the data -/
theorem lc_onesD (ds : List β) (p : β → Bool) (hn : H1 D = none) (hsz : ds.length < sizeLine) (go : ∀ i H, i < ds.length → Same H1 H → J.go i H) (stop : ∀ H, Same H1 H → J.stop ds.length H)
    (turn : ∀ (i : Nat) (b : β) (x : V) (H H' : Hp) (F : Bool → Hp → Prop), ds[i]? = some b → Same H1 H → J.yld i H x H' → (∀ H4, Same H H4 → F (p b) H4) → g x (wipe σ vs) H' fun σ2 H2 => wipe σ2 vs = wipe σ vs ∧ tt σ2 H2 F)
    (hd : ∀ c H, Same H1 H → H D = some (.lst (List.replicate c (.int 1))) → decide (c = 0) = (ds.all fun b => !p b) → Qd H) : LcGoal J g tt (tC (.int 1)) vs σ H1 D Qd := by
  refine lc_ones (fun i => match ds[i]? with | some b => p b | none => false) hn hsz go stop (fun i x H H' F hi s y kk => ?_) fun c H s e hc hz => ?_
  · have eb : ds[i]? = some ds[i] := List.getElem?_eq_getElem hi
    refine turn i ds[i] x H H' F eb s y fun H4 s4 => ?_
    have z := kk H4 s4
    rw [eb] at z
    exact z
  · refine hd c H s e ?_
    rw [Bool.eq_iff_iff, decide_eq_true_eq, hz, List.all_eq_true]
    constructor
    · intro h b hb
      obtain ⟨i, hi⟩ := List.getElem?_of_mem hb
      have q := h i (List.getElem?_eq_some_iff.mp hi).1
      rw [hi] at q
      have q' : p b = false := q
      rw [q']
      rfl
    · intro h i hi
      rw [List.getElem?_eq_getElem hi]
      have q := h _ (List.getElem_mem hi)
      show p ds[i] = false
      simpa using q
end
/-- texts of plain signs -/
def Plain (x : Str) : Prop := ∀ c ∈ TL.tl x, c < 128
theorem plain_lay {x : Str} (h : Plain x) : PyData.canLay0 (.str x) = true := by
  show (x.cps.all fun c => decide (c < 0x110000)) = true
  rw [← Array.all_toList, List.all_eq_true]
  intro c hc
  rw [decide_eq_true_eq]
  have := h c hc
  omega
theorem plain_sign {c : Nat} (h : c < 128) : PyData.canLay0 (.str ⟨#[c]⟩) = true := plain_lay fun d hd => by
  have e : TL.tl (⟨#[c]⟩ : Str) = [c] := rfl
  rw [e] at hd
  rw [List.mem_singleton.mp hd]
  exact h
theorem strs_sh {xs : List Str} (h : ∀ x ∈ xs, Plain x) : SeqAt.shaped (.list (xs.map .str)) = true := (sh_list (n := 0) fun d hd => by
  obtain ⟨x, hx, rfl⟩ := List.mem_map.mp hd
  exact ⟨plain_lay (h x hx), by simp [PyData.depth]⟩).shaped (by decide)
/-- a list of plain texts == [] -/
theorem strs_eq {K : PySem.W.Frag} {H : Hp} {D : Addr} {xs : List Str} {Q : VK} (hx : ∀ x ∈ xs, Plain x) (e : H D = some (.lst (xs.map V.str))) (k : ∀ H', Same H H' → Q (.bl xs.isEmpty) H') :
    ([] : List V).length ≤ sizeLine ∧ ∀ p, H p = none → rEqD K (.ref D) (.ref p) (upd H p (.lst [])) Q := by
  refine ⟨by simp, fun p hp => ?_⟩
  have s : Same H (upd H p (.lst [])) := fun b u q => by rw [upd_ne (ne_of_none q hp)]; exact q
  refine ⟨_, .list [], .lst (SqL.of (s _ _ e)) (dpAll_strs xs), .lst (SqL.of upd_same) .nil, strs_sh hx, nil_sh, ?_⟩
  rw [eqv_nil]
  have q : (xs.map PyData.str).isEmpty = xs.isEmpty := by cases xs <;> rfl
  rw [q]
  exact k _ s
theorem strs_ne {K : PySem.W.Frag} {H : Hp} {D : Addr} {xs : List Str} {Q : VK} (hx : ∀ x ∈ xs, Plain x) (e : H D = some (.lst (xs.map V.str))) (k : ∀ H', Same H H' → Q (.bl (!xs.isEmpty)) H') :
    ([] : List V).length ≤ sizeLine ∧ ∀ p, H p = none → rNeD K (.ref D) (.ref p) (upd H p (.lst [])) Q := by
  refine ⟨by simp, fun p hp => ?_⟩
  have s : Same H (upd H p (.lst [])) := fun b u q => by rw [upd_ne (ne_of_none q hp)]; exact q
  refine ⟨_, .list [], .lst (SqL.of (s _ _ e)) (dpAll_strs xs), .lst (SqL.of upd_same) .nil, strs_sh hx, nil_sh, ?_⟩
  rw [eqv_nil]
  have q : (xs.map PyData.str).isEmpty = xs.isEmpty := by cases xs <;> rfl
  rw [q]
  exact k _ s
end Hx
set_option maxHeartbeats 1000000
namespace Hx
open PySem PySem.Spec PyProof.Rows L2
/-! dict(l) of a list of pairs whose keys are tuples -/
def mergeT (kvs more : List (List Key × V)) : List (List Key × V) := more.foldl (fun acc kv => putK acc kv.1 kv.2) kvs
theorem length_mergeT : ∀ (more kvs : List (List Key × V)), (mergeT kvs more).length ≤ kvs.length + more.length
  | [], kvs => by show kvs.length ≤ kvs.length + 0; omega
  | p :: r, kvs => by
    have h1 := length_mergeT r (putK kvs p.1 p.2)
    have h2 := length_putK kvs p.1 p.2
    show (mergeT (putK kvs p.1 p.2) r).length ≤ _
    rw [List.length_cons]; omega
theorem KT.merge {H : Hp} : ∀ {more : List (List Key × V)} {rs : List (List Key × Addr × Value)} {kvs : List (List Key × V)} {xs : List (List Key × Addr × Value)}, KT H more rs → KT H kvs xs → KT H (mergeT kvs more) (storedAllH xs rs) := by
  intro more rs kvs xs r
  induction r generalizing kvs xs with
  | nil => intro q; exact q
  | @cons p q ps qs h t ih =>
    intro r0
    obtain ⟨h1, h2, h3⟩ := h
    have e : KT H (putK kvs p.1 p.2) (storedH xs q.1 q.2.1 q.2.2) := by
      rw [← h1]
      exact r0.put p.1 h2 h3
    exact ih e
/-- new keys all: the dict is the list -/
theorem mergeT_new : ∀ {more kvs : List (List Key × V)}, (more.map (·.1)).Nodup → (∀ p ∈ more, valV kvs p.1 = none) → mergeT kvs more = kvs ++ more
  | [], kvs, _, _ => by rw [List.append_nil]; rfl
  | p :: r, kvs, nd, hn => by
    rw [List.map_cons, List.nodup_cons] at nd
    show mergeT (putK kvs p.1 p.2) r = _
    rw [putK_new p.2 (hn p List.mem_cons_self), mergeT_new nd.2 fun q hq => ?_, List.append_assoc]
    · rfl
    · have ne : ¬ q.1 = p.1 := fun e => nd.1 (by rw [← e]; exact List.mem_map.mpr ⟨q, hq, rfl⟩)
      rw [valV_snoc p.1 q.1 p.2 kvs (hn p List.mem_cons_self), if_neg ne]
      exact hn q (List.mem_cons_of_mem _ hq)
section
variable {X : Cx}
theorem pairsT_of {pins : List (Addr × Obj)} {σ : L2.St} {H : Hp} {s : Shared} (I : Inv X pins σ H s) : ∀ {ps : List Addr} {kvs : List (List Key × V)}, Paired (fun p kv => ∃ b, SqT X.K H p [.ref b, kv.2] ∧ H b = some (.tup (kv.1.map kV))) ps kvs →
    ∃ rs : List (List Key × Addr × Value), KT H kvs rs ∧ rs.length = ps.length ∧ ∀ (j : Nat) (q : List Key × Addr × Value), rs[j]? = some q → ∃ p : Addr, ps[j]? = some p ∧ s.heap.IsTuple p #[.ref q.2.1, q.2.2]
  | _, _, .nil => ⟨[], .nil, rfl, fun j q e => by simp at e⟩
  | _, _, .cons (a := p) (b := kv) h t => by
    obtain ⟨rs, r, hl, hp⟩ := pairsT_of I t
    obtain ⟨b, h1, h2⟩ := h
    obtain ⟨its, rv, ht, _⟩ := I.tuple h1
    obtain ⟨u, y, ei, ru, ry⟩ := vals2 rv
    subst ei
    cases ru
    refine ⟨(kv.1, b, y) :: rs, .cons ⟨rfl, h2, ry⟩ r, by rw [List.length_cons, List.length_cons, hl], fun j q e => ?_⟩
    cases j with
    | zero =>
      have e' : (kv.1, b, y) = q := Option.some.inj e
      subst e'
      obtain ⟨o, ho, hc, n, hd⟩ := ht
      exact ⟨p, rfl, o, ho, hc, n, hd⟩
    | succ j =>
      obtain ⟨p', e1, e2⟩ := hp j q (by simpa using e)
      exact ⟨p', by simpa using e1, e2⟩
theorem call_dictT (hcalm : X.calm = true) (hu : X.A.units + 2 < cLine) : CallR X (.type "dict") (fun xs H Q => ∃ (a : Addr) (ps : List Addr) (kvs : List (List Key × V)), xs = [.ref a] ∧ SqL X.K H a (ps.map V.ref) ∧ Paired (fun p kv => ∃ b, SqT X.K H p [.ref b, kv.2] ∧ H b = some (.tup (kv.1.map kV))) ps kvs ∧
    ∀ p, H p = none → Q (.ref p) (upd H p (.dT (mergeT [] kvs)))) := by
  intro pins s σ H xs us Q I r q
  obtain ⟨a, ps, kvs, ex, hq, hp, q⟩ := q
  subst ex
  obtain ⟨u, eu, rx⟩ := vals1 r
  subst eu
  cases rx
  obtain ⟨its, rv, pl, hz⟩ := I.list hq
  have ei := refs_at rv
  subst ei
  rw [List.length_map] at hz
  obtain ⟨rs, rel, hl, hpr⟩ := pairsT_of I hp
  obtain ⟨o, n, ho, hc, hd, hdat⟩ := pl
  have el : kvs.length = rs.length := Paired.length rel
  have keys : ∀ x ∈ rs, H x.2.1 = some (.tup (x.1.map kV)) := by
    clear hpr hl el hp q
    induction rel with
    | nil => intro x hx; cases hx
    | @cons p q ps' qs h t ih =>
      intro x hx
      rcases List.mem_cons.mp hx with e | e
      · rw [e, ← h.1]; exact h.2.1
      · exact ih x e
  let prs : List (Value × Value) := rs.map fun q => (.ref q.2.1, q.2.2)
  have lp : prs.length = rs.length := List.length_map _
  refine call_dict_pairsH (knd := tupleKind (mixKind X.prog X.w)) (ps := rs) (PairArg.list a (ps.map Value.ref).toArray (fun j => ps.getD j 0) prs) (I.ok.hd hcalm) hu ⟨⟨o, n, ho, hc, hd, hdat⟩, ?_, fun j k v e => ?_⟩ ⟨lp.symm, fun i key v e => ?_⟩ (fun h' hk x hx => ?_) (by rw [lp, hl]; exact hz) fun h' tk hd' k => ?_
  · rw [List.size_toArray, List.length_map, lp, hl]
  · rw [List.getElem?_map] at e
    obtain ⟨q1, e1, e2⟩ := Option.map_eq_some_iff.mp e
    obtain ⟨p, e3, e4⟩ := hpr j q1 e1
    obtain ⟨e5, e6⟩ := Prod.mk.inj e2
    subst e5 e6
    have e7 : ps.getD j 0 = p := by rw [List.getD_eq_getElem?_getD, e3]; rfl
    refine ⟨?_, ?_⟩
    · rw [List.getElem?_toArray, List.getElem?_map, e3]
      show some (Value.ref p) = some (Value.ref (ps.getD j 0))
      rw [e7]
    · show PairAt s.heap (ps.getD j 0) _ _
      rw [e7]
      exact .inl e4
  · have e' : prs[i]? = some (key, v) := e
    rw [List.getElem?_map] at e'
    obtain ⟨q1, e1, e2⟩ := Option.map_eq_some_iff.mp e'
    obtain ⟨e5, e6⟩ := Prod.mk.inj e2
    subst e5 e6
    exact ⟨q1.1, q1.2.1, e1, rfl⟩
  · obtain ⟨ob, its2, n2, h1, h2, h3, h4⟩ := key_of (P := X.prog) (w := X.w) I.hok (keys x hx)
    exact ⟨ob, its2, n2, hk _ _ (Nat.ne_of_lt (Heap.lt_size h1)) (by simp) h1, h2, h3, h4⟩
  · have hm : (s.heap.objs.size == sysModules) = false := beq_eq_false_iff_ne.mpr (Nat.ne_of_gt I.big)
    have hlen : (mergeT [] kvs).length ≤ sizeLine := by
      refine Nat.le_trans (length_mergeT kvs []) ?_
      rw [List.length_nil, Nat.zero_add, el, hl]
      exact hz
    have fr : H s.heap.objs.size = none := I.hok.fresh (Nat.le_refl _)
    have kt : KT H (mergeT [] kvs) (storedAllH [] rs) := KT.merge rel .nil
    obtain ⟨o2, es, ep, g1, g2, g3, g4, _, g5⟩ := hd'
    refine ⟨.ref s.heap.objs.size, upd H s.heap.objs.size (.dT (mergeT [] kvs)), I.laid (t' := tk) (fun b ob e => k b ob (by simp) e) (Nat.le_refl _) ?_, rfl, q _ fr⟩
    refine ⟨hlen, hm, storedAllH [] rs, kt.keeps fun b ys e => ?_, o2, es, ep, g1, g2, g3, g4, g5⟩
    rw [upd_ne (ne_of_none e fr)]
    exact e
end
end Hx
set_option maxHeartbeats 1000000
namespace Hx
open PySem PySem.Spec PyProof.Rows L2 PySem.Froz
/-! len of a set of texts -/
def rLenTx (P : Program) (w : World) : List V → Hp → VK → Prop := fun vs H Q => ∃ (a : Addr) (l : List Str), vs = [V.ref a] ∧ H a = some (TxO P w a l) ∧ l.length < scanBound ∧ Q (.int l.length) H
theorem cr_lenTx {X : Cx} : CallR X (.builtin "len") (rLenTx X.prog X.w) := by
  intro pins s σ H vs us Q I r h
  obtain ⟨a, l, rfl, ha, hb, q⟩ := h
  rw [Vals.ref1 r]
  obtain ⟨D, ho, F, _⟩ := txO_get I ha
  have e := F.sz
  refine call_len_set ho ⟨rfl, rfl, rfl⟩ rfl F.fit ?_ ?_
  · have := fits_of_scanBound hb
    rw [e]
    rw [sizeLine_eq] at this
    omega
  · rw [e]
    exact ⟨.int l.length, H, I.tok _, ⟨_, rfl⟩, q⟩
end Hx
set_option maxHeartbeats 2000000
/-! itertools.combinations(list, n) -/
namespace Cmb
open PySem PySem.Spec
open Sem (wp)
theorem mro_c : mroOf (.type "itertools.combinations") = pure [.type "itertools.combinations", .type "object"] := by rw [mroOf_type]; kernel_rfl
theorem new_c : typeLookup (.type "itertools.combinations") "__new__" = pure (some (.builtin "itertools.combinations.__new__")) := by rw [typeLookup_type, builtinLookup_eq_fast]; kernel_rfl
theorem init_c : Slot "itertools.combinations" "__init__" "object.__init__" :=
  .of (owner := "object") (n := "__init__") (by rw [typeLookup_type, builtinLookup_eq_fast]; kernel_rfl) (by decide +kernel) (by decide +kernel) (by decide +kernel)
    (by first | exact .inl (by decide +kernel) | exact .inr (by decide +kernel)) (by rw [isSubtype_type]; kernel_rfl)
theorem sub_c : isSubtype (.type "itertools.combinations") (.type "itertools.combinations") = pure true := by rw [isSubtype_type]; kernel_rfl
theorem called_c : TypeCalled "itertools.combinations" "itertools.combinations.__new__" "object.__init__" :=
  ⟨by decide +kernel, by decide +kernel, ⟨_, _, mro_c⟩, madeBy_type mro_c new_c (by decide +kernel), by decide +kernel, sub_c, init_c⟩
theorem typeCall_c (a b : Value) : checkTypeCall "itertools.combinations" ⟨[a, b], []⟩ = pure () := by kernel_rfl
theorem newCall_c (a b : Value) : checkBuiltinCall "itertools.combinations.__new__" ⟨[.type "itertools.combinations", a, b], []⟩ = pure () := by kernel_rfl
theorem entry_new_c : entryFor table "itertools.combinations.__new__" = some Builtin.«itertools.combinations.__new__» := entryFor_of_tree (by kernel_rfl)
theorem iter_c : Slot "itertools.combinations" "__iter__" "itertools.combinations.__iter__" :=
  .of (owner := "itertools.combinations") (n := "__iter__") (by rw [typeLookup_type, builtinLookup_eq_fast]; kernel_rfl) (by decide +kernel) (by decide +kernel) (by decide +kernel)
    (by first | exact .inl (by decide +kernel) | exact .inr (by decide +kernel)) sub_c
theorem next_c : Slot "itertools.combinations" "__next__" "itertools.combinations.__next__" :=
  .of (owner := "itertools.combinations") (n := "__next__") (by rw [typeLookup_type, builtinLookup_eq_fast]; kernel_rfl) (by decide +kernel) (by decide +kernel) (by decide +kernel)
    (by first | exact .inl (by decide +kernel) | exact .inr (by decide +kernel)) sub_c
theorem entry_iter_c : entryFor table "itertools.combinations.__iter__" = some Builtin.«dict_keyiterator.__iter__» :=
  entryFor_alias (id' := "dict_keyiterator.__iter__") (by kernel_rfl) (by first | rfl | decide +kernel | (unfold String.splitOn; simp +decide [String.splitOnAux])) (by decide +kernel) (by kernel_rfl)
theorem entry_next_c : entryFor table "itertools.combinations.__next__" = some Builtin.«itertools.combinations.__next__» := entryFor_of_tree (by kernel_rfl)
theorem owner_c : Manifest.owners.lookup (String.ofList ['s', 'n', 'o', 'i', 't', 'a', 'n', 'i', 'b', 'm', 'o', 'c', '.', 's', 'l', 'o', 'o', 't', 'r', 'e', 't', 'i'].reverse) = some Manifest.sig_itertools_combinations := by kernel_rfl
theorem args_iter_c (a : Value) : argsOk "itertools.combinations.__iter__" ⟨[a], []⟩ := by
  unfold argsOk; rw [signature?_of (id := "itertools.combinations.__iter__") (n := ['_', '_', 'r', 'e', 't', 'i', '_', '_']) (o := ['s', 'n', 'o', 'i', 't', 'a', 'n', 'i', 'b', 'm', 'o', 'c', '.', 's', 'l', 'o', 'o', 't', 'r', 'e', 't', 'i']) (by kernel_rfl) owner_c]; kernel_rfl
theorem args_next_c (a : Value) : argsOk "itertools.combinations.__next__" ⟨[a], []⟩ := by
  unfold argsOk; rw [signature?_of (id := "itertools.combinations.__next__") (n := ['_', '_', 't', 'x', 'e', 'n', '_', '_']) (o := ['s', 'n', 'o', 'i', 't', 'a', 'n', 'i', 'b', 'm', 'o', 'c', '.', 's', 'l', 'o', 'o', 't', 'r', 'e', 't', 'i']) (by kernel_rfl) owner_c]; kernel_rfl
theorem noDict_c : typeHasDict (.type "itertools.combinations") = false := by decide +kernel
end Cmb
set_option maxHeartbeats 1000000
/-! ### a text times a whole -/
namespace Hx
open PySem PySem.Spec PyProof.Rows L2
section
variable {X : Cx}
def mulS (x : Str) (n : Nat) : Str := ⟨(List.replicate n x.cps).foldl (· ++ ·) #[]⟩
theorem joined_size (z : Array Nat) : ∀ (n : Nat) (a : Array Nat), ((List.replicate n z).foldl (· ++ ·) a).size = a.size + n * z.size
  | 0, a => by simp
  | n + 1, a => by
    rw [List.replicate_succ, List.foldl_cons, joined_size z n (a ++ z), Array.size_append, Nat.succ_mul]
    omega
theorem mulS_length (x : Str) (n : Nat) : (mulS x n).length = n * x.length := by
  unfold mulS Str.length
  rw [joined_size]
  simp
theorem joined_toList (z : Array Nat) : ∀ (n : Nat) (a : Array Nat), ((List.replicate n z).foldl (· ++ ·) a).toList = a.toList ++ (List.replicate n z.toList).flatten
  | 0, a => by simp
  | n + 1, a => by
    rw [List.replicate_succ, List.foldl_cons, joined_toList z n (a ++ z), Array.toList_append, List.replicate_succ, List.flatten_cons, List.append_assoc]
theorem mulS_toList (x : Str) (n : Nat) : (mulS x n).cps.toList = (List.replicate n x.cps.toList).flatten := by
  unfold mulS
  rw [joined_toList]
  simp
/-- one sign, n times -/
theorem mulS_one (c n : Nat) : (mulS ⟨#[c]⟩ n).cps.toList = List.replicate n c := by
  rw [mulS_toList]
  simp
theorem op_mul_str : OpR X (binaryOp .Mult) (fun x y H Q => ∃ i n, x = .str i ∧ y = .int n ∧ 2 ≤ n ∧ n ≤ 4096 ∧ 1 ≤ i.length ∧ i.length ≤ 4096 ∧ Q (.str (mulS i n.toNat)) H) := by
  intro pins s σ H x y v u Q I rx ry h
  obtain ⟨i, n, rfl, rfl, h2, h3, l1, l2, q⟩ := h
  obtain ⟨t, rfl⟩ := rx
  obtain ⟨t', rfl⟩ := ry
  have e1 : ¬ n < 1 := by omega
  have e2 : (n == 1 || i.length == 0) = false := by
    rw [Bool.or_eq_false_iff]
    exact ⟨by simp; omega, by simp; omega⟩
  refine PySem.P.mul_str ?_ (fun _ _ => ?_) (fun _ _ => ?_) ?_
  · rw [Bool.or_eq_false_iff]
    exact ⟨decide_eq_false (by omega), decide_eq_false (by omega)⟩
  · have : (4096 : Int) ≤ (2 ^ 63 - 1) / n := (Int.le_ediv_iff_mul_le (by omega)).mpr (by omega)
    omega
  · have hm : i.length * n.toNat ≤ 4096 * 4096 := Nat.mul_le_mul l2 (by omega)
    unfold Builtin.Str.tooLong sizeLine
    simp
    omega
  · rw [if_neg e1, if_neg (by rw [e2]; decide)]
    refine ⟨?_, .str (mulS i n.toNat), H, I.tok _, ⟨_, rfl⟩, q⟩
    have hm : n.toNat * i.length ≤ 4096 * 4096 := Nat.mul_le_mul (by omega) l2
    have e := mulS_length i n.toNat
    unfold mulS at e
    rw [e]
    unfold sizeLine
    omega
end
end Hx
set_option maxHeartbeats 1000000
/-! ### f(k = v, ..): keywords only -/
namespace Hx
open PySem PySem.Spec PyProof.Rows L2
section
variable {X : Cx} {CX : CXT} {k : Nat} {f : Addr} {fd : FuncData} {ps ks : List Str} {sp : Sp} {E : XK} {x : Str} {p pos : Pos} {kws : List Keyword} {tk : TA} {g : List Value → List Value → List Value} {gV : List V → List V → List V}
theorem pe_callKw (F : FnOk X.prog X.w X.K X.mg X.base CX k f fd ps sp) (hr : Room k X.A) (hg : Gl X x) (hm : X.mg x = some (.ref f)) (hk : PySem.W.keepIn X.K (.ref f) = true) (hb : KBn X.K fd ps 0 ks g gV) (hx : Passes CX X E)
    (hkw : PK X kws tk) (hall : (backToKw pos (keywordEach kws X.env)).all (·.1.isSome) = true := by rfl) (hks : (backToKw pos (keywordEach kws X.env)).filterMap (·.1) = ks := by rfl) (hdb : (x == ("__debug__" : Str)) = false := by decide)
    (hpl : ((backTo pos (starEach [] X.env)).any (·.1) || (backToKw pos (keywordEach kws X.env)).any (·.1.isNone)) = false := by rfl) :
    PE X (.Call (.Name x p) [] kws pos) (fun σ H Q => tk σ H fun zs H2 => zs.length = ks.length ∧ sp (gV [] zs) H2 Q E) := by
  refine ⟨fun pins s σ H Q I h => ?_⟩
  refine wpAny_Call_Name_kw (ld_glob I hg hm ?_ hdb)
  refine PySem.W.callWith_KW0 (h₀ := X.base) I.ok.mod.kin hk hall ?_ hpl
  refine thn (hkw.run pos pins s σ H _ I h) fun ws s2 ⟨zs, H2, I2, rz, l2, q2⟩ => ⟨I2.kIn, ?_⟩
  rw [hks]
  exact run_fnN (us := []) (vs := []) F hr hb hx I2 .nil rz rfl l2 q2
/-- one parameter, no defaults, called by its name -/
theorem kb_one {K : PySem.W.Frag} {fd : FuncData} {q : Str} (h : ∀ (s : Shared) (u : Value), BindsTo s fd ⟨[], [(q, u)]⟩ [(q, u)]) : KBn K fd [q] 0 [q] (fun _ ws => ws) (fun _ zs => zs) where
  to := fun s us ws X l1 l2 => by
    match ws, l2 with
    | [u], _ =>
      obtain rfl : us = [] := List.length_eq_zero_iff.mp l1
      exact h s u
  rel := fun _ r => r
end
end Hx
set_option maxHeartbeats 1000000
namespace Hx
open PySem PySem.Spec PyProof.Rows L2
/-! ### xs[i] op= e of a list -/
def rGetL (K : PySem.W.Frag) : V → V → Hp → VK → Prop := fun x y H Q => ∃ (p : Addr) (xs : List V) (i : Nat) (v : V), x = .ref p ∧ y = .int (i : Int) ∧ SqL K H p xs ∧ xs[i]? = some v ∧ Q v H
theorem get_listP {X : Cx} : PGet X (rGetL X.K) := by
  intro pins s σ H x y u v Q I rx ry h
  obtain ⟨p, xs, i, z, rfl, rfl, hq, he, q⟩ := h
  obtain rfl : u = Value.ref p := rx
  obtain ⟨t, rfl⟩ := ry
  obtain ⟨its, r, pl, hz⟩ := I.list hq
  obtain ⟨w, ew, rw'⟩ := r.get he
  have hl := r.length
  have hn := line63
  obtain ⟨lt, _⟩ := List.getElem?_eq_some_iff.mp he
  exact wpAny_getItem_list pl.isList (by omega) (by omega) (by rw [Int.toNat_natCast]; simpa using ew) ⟨z, H, I, rw', q⟩
theorem iteG {c : Bool} {P R : Prop} (h : c = false) (p : R) : if c = true then P else R := by rw [h, if_neg (by decide)]; exact p
theorem iteE {c : Bool} {P R : Prop} (h : c = true) (p : P) : if c = true then P else R := by rw [if_pos h]; exact p
/-! ### bits of naturals -/
theorem not_not (x : Int) : Builtin.bitNot (Builtin.bitNot x) = x := by
  unfold Builtin.bitNot
  omega
theorem or_nat (a b : Nat) : Builtin.bitOr (a : Int) (b : Int) = ((a ||| b : Nat) : Int) := by
  have n1 : ∀ x : Nat, decide (0 ≤ Builtin.bitNot (x : Int)) = false := fun x => decide_eq_false (by unfold Builtin.bitNot; omega)
  unfold Builtin.bitOr
  have e : Builtin.bitAnd (Builtin.bitNot (a : Int)) (Builtin.bitNot (b : Int)) = Builtin.bitNot ((a ||| b : Nat) : Int) := by
    unfold Builtin.bitAnd
    rw [n1, n1]
    show Builtin.bitNot (((Builtin.bitNot (Builtin.bitNot (a : Int))).toNat ||| (Builtin.bitNot (Builtin.bitNot (b : Int))).toNat : Nat) : Int) = _
    rw [not_not, not_not, Int.toNat_natCast, Int.toNat_natCast]
  rw [e, not_not]
theorem and_nat (a b : Nat) : Builtin.bitAnd (a : Int) (b : Int) = ((a &&& b : Nat) : Int) := by
  unfold Builtin.bitAnd
  rw [decide_eq_true (by omega : (0 : Int) ≤ (a : Int)), decide_eq_true (by omega : (0 : Int) ≤ (b : Int))]
  show ((((a : Int).toNat &&& (b : Int).toNat : Nat)) : Int) = _
  rw [Int.toNat_natCast, Int.toNat_natCast]
theorem xor_zero (a : Nat) : Builtin.bitXor (a : Int) 0 = (a : Int) := by
  unfold Builtin.bitXor
  have h := or_nat a 0
  have h2 := and_nat a 0
  rw [Nat.or_zero] at h
  rw [Nat.and_zero] at h2
  have h' : Builtin.bitOr (a : Int) 0 = (a : Int) := h
  have h2' : Builtin.bitAnd (a : Int) 0 = ((0 : Nat) : Int) := h2
  rw [h', h2']
  omega
theorem xor_one (a : Nat) : Builtin.bitXor (a : Int) 1 = ((if a % 2 = 0 then a + 1 else a - 1 : Nat) : Int) := by
  unfold Builtin.bitXor
  have h : Builtin.bitOr (a : Int) 1 = ((a ||| 1 : Nat) : Int) := or_nat a 1
  have h2 : Builtin.bitAnd (a : Int) 1 = ((a &&& 1 : Nat) : Int) := and_nat a 1
  have m : (a ||| 1) % 2 = 1 := Nat.or_mod_two_eq_one.mpr (.inr rfl)
  have d : (a ||| 1) / 2 = a / 2 := by
    rw [Nat.or_div_two]
    exact Nat.or_zero _
  rw [h, h2, Nat.and_one_is_mod]
  split <;> omega
/-! ### inside a comprehension -/
theorem ix_listK {X : Cx} {K : PySem.W.Frag} (hK : X.K = K) : IxR X (rIxL K) := by
  subst hK
  exact ix_list
theorem pe_fldK {X : Cx} {K : PySem.W.Frag} {e : Expr} {f : Str} {pos : Pos} {ta : TE} (hK : X.K = K) (he : PE X e ta) (hb : attributeBase e f X.env (eval e X.env) = eval e X.env) : PE X (.Attribute e f pos) (tFld K ta f) := by
  subst hK
  exact pe_fld he hb
end Hx
set_option maxHeartbeats 1000000
namespace Hx
open PySem PySem.Spec PyProof.Rows L2
/-! ### math.lcm of naturals -/
def rLcm : List V → Hp → VK → Prop := fun vs H Q => ∃ a b k : Nat, vs = [.int (a : Int), .int (b : Int)] ∧ a < 2 ^ k ∧ b < 2 ^ k ∧ 0 < k ∧ k ≤ 6000 ∧ Q (.int ((Nat.lcm a b : Nat) : Int)) H
theorem log_ltk {a k : Nat} (h : a < 2 ^ k) (hk : 0 < k) : a.log2 < k := by
  by_cases z : a = 0
  · rw [z]
    exact hk
  · exact (Nat.log2_lt z).mpr h
theorem lcm_le (a b : Nat) : Nat.lcm a b ≤ a * b := Nat.div_le_self _ _
theorem lcm_one (a : Nat) : Nat.lcm 1 a = a := by simp [Nat.lcm]
theorem lcm_log {a b k : Nat} (ha : a < 2 ^ k) (hb : b < 2 ^ k) (hk : 0 < k) : (Nat.lcm a b).log2 < k + k := by
  refine log_ltk ?_ (by omega)
  rw [Nat.pow_add]
  exact Nat.lt_of_le_of_lt (lcm_le a b) (Nat.mul_lt_mul'' ha hb)
theorem max_ltk {a b k : Nat} (ha : a < 2 ^ k) (hb : b < 2 ^ k) : max a b < 2 ^ k := Nat.max_lt.mpr ⟨ha, hb⟩
theorem lcm_conds {a b k : Nat} (ha : a < 2 ^ k) (hb : b < 2 ^ k) (hk : 0 < k) (h6 : k ≤ 6000) : ¬(max 1 a).log2 / 30 + 1 > 450 ∧ ¬(max a b).log2 / 30 + 1 > 450 ∧ (Nat.lcm a b).log2 < bitsLine := by
  have one : 1 < 2 ^ k := Nat.one_lt_two_pow (by omega)
  have l1 := log_ltk (max_ltk one ha) hk
  have l2 := log_ltk (max_ltk ha hb) hk
  have l3 := lcm_log ha hb hk
  refine ⟨by omega, by omega, ?_⟩
  rw [bitsLine_eq]
  omega
theorem cr_lcm {X : Cx} : CallR X (.builtin "math.lcm") rLcm := by
  intro pins s σ H vs us Q I r h
  obtain ⟨a, b, k, rfl, ha, hb, hk, h6, q⟩ := h
  obtain ⟨t, u, rfl⟩ := Vals.int2 r
  obtain ⟨c1, c2, c3⟩ := lcm_conds ha hb hk h6
  have ea : (a : Int).natAbs = a := Int.natAbs_natCast a
  have eb : (b : Int).natAbs = b := Int.natAbs_natCast b
  have e : (Nat.lcm 1 (a : Int).natAbs).lcm (b : Int).natAbs = Nat.lcm a b := by rw [ea, eb, lcm_one]
  refine call_function_meets PySem.W.MGF.kind_lcm PySem.W.MGF.plain_lcm PySem.W.MGF.entry_lcm (PySem.W.MGF.args_lcm _ _) (PySem.W.mg_run_lcm (a : Int) t (b : Int) u (by rw [ea]; exact c1) (by rw [ea, eb]; exact c2) (by rw [e, Int.natAbs_natCast]; exact c3)).meets ?_
  exact ⟨.int _, H, I.tok _, ⟨_, by rw [e]⟩, q⟩
end Hx
set_option maxHeartbeats 1000000
namespace Hx
open PySem PySem.Spec PyProof.Rows L2 RZ
/-! ### zip of what are each a list or a tuple -/
section
variable {prog : Program} {w : World} {A : Around} {E : Value → Shared → Prop} {s : Shared}
/-- i stands at place k of the list or tuple at l -/
def Steps : Bool → Heap → Addr → Addr → Nat → Array Value → Prop
  | true, h, i, l, k, vs => h.IsTupleIter i l k ∧ h.IsTuple l vs
  | false, h, i, l, k, vs => h.IsListIter i l k ∧ h.IsList l vs
theorem Steps.far {t : Bool} {h h' : Heap} {i l c : Addr} {k : Nat} {vs : Array Value} (S : Steps t h i l k vs) (e : Heap.ExtBut c h h') (ni : i ≠ c) (nl : l ≠ c) : Steps t h' i l k vs :=
  match t, S with
  | true, S => ⟨S.1.extBut e ni, S.2.extBut e nl⟩
  | false, S => ⟨S.1.extBut e ni, S.2.extBut e nl⟩
theorem Steps.next {t : Bool} {i l : Addr} {k : Nat} {vs : Array Value} {x : Value} {Q : Value → Shared → Prop} (S : Steps t s.heap i l k vs) (nl : l ≠ i) (hx : vs[k]? = some x)
    (q : ∀ g, Steps t g i l (k + 1) vs → Heap.SameBut i s.heap g → Q x { s with heap := g }) : wpAny (model prog w) A (Builtin.SmallTypes.nextOf (.ref i)) Q E s :=
  match t, S, q with
  | true, S, q => nextOf_tuple_item S.1 S.2 hx fun g a b => q g ⟨a, S.2.extBut b.extBut nl⟩ b
  | false, S, q => wpAny_nextOf_list_item S.1 S.2 hx fun g a b => q g ⟨a, S.2.extBut b.extBut nl⟩ b
theorem Steps.over {t : Bool} {i l : Addr} {k : Nat} {vs : Array Value} {Q : Value → Shared → Prop} (hh : A.handled = none) (S : Steps t s.heap i l k vs) (hx : vs[k]? = none)
    (q : ∀ g e, Heap.ExtBut i s.heap g → (∃ o, g.get? e = some o ∧ o.cls = .type "StopIteration") → E (.ref e) { s with heap := g }) : wpAny (model prog w) A (Builtin.SmallTypes.nextOf (.ref i)) Q E s :=
  match t, S with
  | true, S => nextOf_tuple_end hh S.1 S.2 hx q
  | false, S => wpAny_nextOf_list_end hh S.1 S.2 hx q
theorem Steps.lt {t : Bool} {h : Heap} {i l : Addr} {k : Nat} {vs : Array Value} (S : Steps t h i l k vs) : i < h.objs.size :=
  match t, S with
  | true, ⟨⟨_, e, _⟩, _⟩ => Heap.lt_size e
  | false, ⟨⟨_, e, _⟩, _⟩ => Heap.lt_size e
variable {z TI TO i1 i2 l1 l2 : Addr} {t1 t2 : Bool} {k1 k2 : Nat} {us vs : Array Value}
theorem zipM_item0 {x y p q : Value} {R : Value → Shared → Prop} (D : ZipApart z TI TO i1 i2 l1 l2) (hz : IsZip s.heap z TI TO .none) (hI : IsPair s.heap TI (.ref i1) (.ref i2)) (hO : IsPair s.heap TO p q)
    (S1 : Steps t1 s.heap i1 l1 k1 us) (S2 : Steps t2 s.heap i2 l2 k2 vs) (hx : us[k1]? = some x) (hy : vs[k2]? = some y)
    (fin : ∀ g, IsZip g z TI TO (rawInt s.heap.objs.size) → IsPair g TO x y → Steps t1 g i1 l1 (k1 + 1) us → Steps t2 g i2 l2 (k2 + 1) vs → IsPair g s.heap.objs.size x y →
      (∀ c o, c ≠ z → c ≠ TO → c ≠ i1 → c ≠ i2 → s.heap.get? c = some o → g.get? c = some o) → R (.ref s.heap.objs.size) { s with heap := g }) :
    wpAny (model prog w) A (Builtin.«zip.__next__» ⟨[.ref z], []⟩) (fun r s' => ∃ v, r = .done (.ret v) ∧ R v s') E s := by
  show wpAny _ _ (field (.ref z) 2 >>= _) _ E s
  refine wpAny_bind (wpAny_field hz rfl (x := Value.bool false) rfl ?_)
  show wpAny _ _ (field (.ref z) 3 >>= _) _ E s
  refine wpAny_bind (wpAny_field hz rfl (x := Value.ref TI) rfl ?_)
  refine wpAny_bind (wpAny_seqItems hI rfl ?_)
  show wpAny _ _ (Builtin.SmallTypes.ownedTupleIsFree (.ref z) >>= _) _ E s
  refine wpAny_bind ?_
  unfold Builtin.SmallTypes.ownedTupleIsFree
  refine wpAny_bind (wpAny_field hz rfl (x := Value.none) rfl (wpAny_pure ?_))
  simp only [if_true]
  refine wpAny_bind (wpAny_rule ?_)
  refine wpAny_bind (wpAny_field hz rfl (x := Value.ref TO) rfl ?_)
  refine wpAny_bind (wpAny_setField_rec hz (by simp) fun g1 z1 b1 => ?_)
  have z1' : IsZip g1 z TI TO .ellipsis := z1
  have T1 : Steps t1 g1 i1 l1 k1 us := S1.far b1.extBut D.i1z D.l1z
  have T2 : Steps t2 g1 i2 l2 k2 vs := S2.far b1.extBut D.i2z D.l2z
  have O1 : IsPair g1 TO p q := b1.extBut TO _ D.TOz hO
  refine wpAny_bind ?_
  simp only [List.zipIdx_cons, List.zipIdx_nil, List.forIn_cons, List.forIn_nil]
  -- the first
  refine wpAny_bind (wpAny_bind (wpAny_onRaise ?_))
  show wpAny _ _ (Builtin.SmallTypes.nextOf (.ref i1) >>= _) _ _ { s with heap := g1 }
  refine wpAny_bind (Steps.next (s := { s with heap := g1 }) T1 D.l1i1 hx fun g2 U1 b2 => wpAny_pure ?_)
  have U2 : Steps t2 g2 i2 l2 k2 vs := T2.far b2.extBut D.i12.symm D.l2i1
  have O2 : IsPair g2 TO p q := b2.extBut TO _ D.TOi1 O1
  refine wpAny_bind (wpAny_seqItems O2 rfl ?_)
  refine wpAny_bind (wpAny_updateSeq_pair O2 fun g3 O3 b3 => ?_)
  have O3' : IsPair g3 TO x q := O3
  have V1 : Steps t1 g3 i1 l1 (k1 + 1) us := U1.far b3.extBut D.TOi1.symm D.l1TO
  have V2 : Steps t2 g3 i2 l2 k2 vs := U2.far b3.extBut D.TOi2.symm D.l2TO
  refine wpAny_bind (wpAny_letGo (wpAny_pure ?_))
  -- the second
  refine wpAny_bind (wpAny_bind (wpAny_onRaise ?_))
  show wpAny _ _ (Builtin.SmallTypes.nextOf (.ref i2) >>= _) _ _ { s with heap := g3 }
  refine wpAny_bind (Steps.next (s := { s with heap := g3 }) V2 D.l2i2 hy fun g4 W2 b4 => wpAny_pure ?_)
  have W1 : Steps t1 g4 i1 l1 (k1 + 1) us := V1.far b4.extBut D.i12 D.l1i2
  have O4 : IsPair g4 TO x q := b4.extBut TO _ D.TOi2 O3'
  refine wpAny_bind (wpAny_seqItems O4 rfl ?_)
  refine wpAny_bind (wpAny_updateSeq_pair O4 fun g5 O5 b5 => ?_)
  have O5' : IsPair g5 TO x y := O5
  have X1 : Steps t1 g5 i1 l1 (k1 + 1) us := W1.far b5.extBut D.TOi1.symm D.l1TO
  have X2 : Steps t2 g5 i2 l2 (k2 + 1) vs := W2.far b5.extBut D.TOi2.symm D.l2TO
  refine wpAny_bind (wpAny_letGo (wpAny_pure (wpAny_pure ?_)))
  -- the new pair
  refine wpAny_bind (wpAny_seqItems O5' rfl ?_)
  refine wpAny_bind (wpAny_newTuple ?_)
  have sz : g5.objs.size = s.heap.objs.size := by rw [b5.1, b4.1, b3.1, b2.1, b1.1]
  have z5 : IsZip g5 z TI TO .ellipsis := b5.extBut z _ D.TOz.symm (b4.extBut z _ D.i2z.symm (b3.extBut z _ D.TOz.symm (b2.extBut z _ D.i1z.symm z1')))
  have keep : ∀ c o, c ≠ z → c ≠ TO → c ≠ i1 → c ≠ i2 → s.heap.get? c = some o → g5.get? c = some o := fun c o n1 n2 n3 n4 u =>
    b5.extBut c o n2 (b4.extBut c o n4 (b3.extBut c o n2 (b2.extBut c o n3 (b1.extBut c o n1 u))))
  have zl : z < g5.objs.size := Heap.lt_size z5
  show wpAny _ _ (Builtin.SmallTypes.ownedTupleHandOut (.ref z) (.ref g5.objs.size) >>= _) _ E _
  refine wpAny_bind ?_
  unfold Builtin.SmallTypes.ownedTupleHandOut
  have z6 : IsZip (g5.push { cls := .type "tuple", data := .seq #[x, y] }) z TI TO .ellipsis := Heap.get?_push_of_some _ z5
  refine wpAny_bind (wpAny_setField_rec z6 (by simp) fun g7 z7 b7 => ?_)
  have z7' : IsZip g7 z TI TO (rawInt g5.objs.size) := z7
  refine wpAny_setField_rec z7' (by simp) fun g8 z8 b8 => ?_
  have z8' : IsZip g8 z TI TO (rawInt g5.objs.size) := z8
  have ext : Heap.ExtBut z g5 g8 := fun c o n u => b8.extBut c o n (b7.extBut c o n (Heap.get?_push_of_some _ u))
  have P8 : IsPair g8 g5.objs.size x y := b8.extBut _ _ (Nat.ne_of_gt zl) (b7.extBut _ _ (Nat.ne_of_gt zl) (Heap.get?_push_size _ rfl))
  rw [sz] at z8' P8
  refine wpAny_pure ⟨_, rfl, ?_⟩
  show R (.ref g5.objs.size) _
  rw [sz]
  exact fin g8 z8' (ext _ _ D.TOz O5') (X1.far ext D.i1z D.l1z) (X2.far ext D.i2z D.l2z) P8 fun c o n1 n2 n3 n4 u => ext c o n1 (keep c o n1 n2 n3 n4 u)
theorem zipM_end0 {p q : Value} {R : Fin → Shared → Prop} (hh : A.handled = none) (D : ZipApart z TI TO i1 i2 l1 l2) (hz : IsZip s.heap z TI TO .none) (hI : IsPair s.heap TI (.ref i1) (.ref i2)) (hO : IsPair s.heap TO p q)
    (S1 : Steps t1 s.heap i1 l1 k1 us) (S2 : Steps t2 s.heap i2 l2 k2 vs) (no : us[k1]? = none ∨ vs[k2]? = none)
    (fin : ∀ g e, (∀ c o, c ≠ z → c ≠ TO → c ≠ i1 → c ≠ i2 → s.heap.get? c = some o → g.get? c = some o) → (∃ o, g.get? e = some o ∧ o.cls = .type "StopIteration") → E (.ref e) { s with heap := g }) :
    wpAny (model prog w) A (Builtin.«zip.__next__» ⟨[.ref z], []⟩) R E s := by
  show wpAny _ _ (field (.ref z) 2 >>= _) _ E s
  refine wpAny_bind (wpAny_field hz rfl (x := Value.bool false) rfl ?_)
  show wpAny _ _ (field (.ref z) 3 >>= _) _ E s
  refine wpAny_bind (wpAny_field hz rfl (x := Value.ref TI) rfl ?_)
  refine wpAny_bind (wpAny_seqItems hI rfl ?_)
  show wpAny _ _ (Builtin.SmallTypes.ownedTupleIsFree (.ref z) >>= _) _ E s
  refine wpAny_bind ?_
  unfold Builtin.SmallTypes.ownedTupleIsFree
  refine wpAny_bind (wpAny_field hz rfl (x := Value.none) rfl (wpAny_pure ?_))
  simp only [if_true]
  refine wpAny_bind (wpAny_rule ?_)
  refine wpAny_bind (wpAny_field hz rfl (x := Value.ref TO) rfl ?_)
  refine wpAny_bind (wpAny_setField_rec hz (by simp) fun g1 z1 b1 => ?_)
  have z1' : IsZip g1 z TI TO .ellipsis := z1
  have T1 : Steps t1 g1 i1 l1 k1 us := S1.far b1.extBut D.i1z D.l1z
  have T2 : Steps t2 g1 i2 l2 k2 vs := S2.far b1.extBut D.i2z D.l2z
  have O1 : IsPair g1 TO p q := b1.extBut TO _ D.TOz hO
  -- the zip is set to its end once one has none left
  have last : ∀ (g : Heap) (e : Addr), IsZip g z TI TO .ellipsis → (∀ c o, c ≠ z → c ≠ TO → c ≠ i1 → c ≠ i2 → s.heap.get? c = some o → g.get? c = some o) → (∃ o, g.get? e = some o ∧ o.cls = .type "StopIteration") →
      ∀ g', Heap.SameBut z g g' → E (.ref e) { s with heap := g' } := fun g e zg kg ⟨o, ho, co⟩ g' b => by
    have ne : e ≠ z := fun w => by
      subst w
      rw [zg] at ho
      cases ho
      simp at co
    exact fin g' e (fun c o n1 n2 n3 n4 u => b.extBut c o n1 (kg c o n1 n2 n3 n4 u)) ⟨o, b.extBut e o ne ho, co⟩
  refine wpAny_bind ?_
  simp only [List.zipIdx_cons, List.zipIdx_nil, List.forIn_cons, List.forIn_nil]
  refine wpAny_bind (wpAny_bind (wpAny_onRaise ?_))
  show wpAny _ _ (Builtin.SmallTypes.nextOf (.ref i1) >>= _) _ _ { s with heap := g1 }
  cases hx : us[k1]? with
  | none =>
    refine wpAny_bind (Steps.over (s := { s with heap := g1 }) hh T1 hx fun g2 e b2 he => ?_)
    have z2 : IsZip g2 z TI TO .ellipsis := b2 z _ D.i1z.symm z1'
    exact wpAny_setField_rec z2 (by simp) fun g3 _ b3 => last g2 e z2 (fun c o n1 _ n3 _ u => b2 c o n3 (b1.extBut c o n1 u)) he g3 b3
  | some x =>
    have hy : vs[k2]? = none := no.resolve_left fun w => by rw [hx] at w; cases w
    refine wpAny_bind (Steps.next (s := { s with heap := g1 }) T1 D.l1i1 hx fun g2 U1 b2 => wpAny_pure ?_)
    have O2 : IsPair g2 TO p q := b2.extBut TO _ D.TOi1 O1
    refine wpAny_bind (wpAny_seqItems O2 rfl ?_)
    refine wpAny_bind (wpAny_updateSeq_pair O2 fun g3 O3 b3 => ?_)
    refine wpAny_bind (wpAny_letGo (wpAny_pure ?_))
    refine wpAny_bind (wpAny_bind (wpAny_onRaise ?_))
    show wpAny _ _ (Builtin.SmallTypes.nextOf (.ref i2) >>= _) _ _ { s with heap := g3 }
    have V2 : Steps t2 g3 i2 l2 k2 vs := (T2.far b2.extBut D.i12.symm D.l2i1).far b3.extBut D.TOi2.symm D.l2TO
    refine wpAny_bind (Steps.over (s := { s with heap := g3 }) hh V2 hy fun g4 e b4 he => ?_)
    have z4 : IsZip g4 z TI TO .ellipsis := b4 z _ D.i2z.symm (b3.extBut z _ D.TOz.symm (b2.extBut z _ D.i1z.symm z1'))
    exact wpAny_setField_rec z4 (by simp) fun g5 _ b5 => last g4 e z4 (fun c o n1 n2 n3 n4 u => b4 c o n4 (b3.extBut c o n2 (b2.extBut c o n3 (b1.extBut c o n1 u)))) he g5 b5
theorem zipM_item {x y p q : Value} {R : Option Value → Shared → Prop} (D : ZipApart z TI TO i1 i2 l1 l2) (hz : IsZip s.heap z TI TO .none) (hI : IsPair s.heap TI (.ref i1) (.ref i2)) (hO : IsPair s.heap TO p q)
    (S1 : Steps t1 s.heap i1 l1 k1 us) (S2 : Steps t2 s.heap i2 l2 k2 vs) (hx : us[k1]? = some x) (hy : vs[k2]? = some y)
    (fin : ∀ g, IsZip g z TI TO (rawInt s.heap.objs.size) → IsPair g TO x y → Steps t1 g i1 l1 (k1 + 1) us → Steps t2 g i2 l2 (k2 + 1) vs → IsPair g s.heap.objs.size x y →
      (∀ c o, c ≠ z → c ≠ TO → c ≠ i1 → c ≠ i2 → s.heap.get? c = some o → g.get? c = some o) → R (some (.ref s.heap.objs.size)) { s with heap := g }) : wpAny (model prog w) A (pyNext (.ref z)) R E s := by
  have tz : s.TypeIs (.ref z) "zip" := ⟨_, hz, rfl⟩
  unfold pyNext
  refine wpAny_bind (wpAny_attempt (wpAny_callSpecial?_slot (name := Str.ofString "__next__") tz F.slot_zip_next (wpAny_call_entry F.slot_zip_next tz F.entry_zip_next ?_ (F.args_zip_next_1 _))))
  exact zipM_item0 D hz hI hO S1 S2 hx hy fun g a b c d e f => wpAny_pure (fin g a b c d e f)
theorem zipM_end {p q : Value} {R : Option Value → Shared → Prop} (hh : A.handled = none) (D : ZipApart z TI TO i1 i2 l1 l2) (hz : IsZip s.heap z TI TO .none) (hI : IsPair s.heap TI (.ref i1) (.ref i2)) (hO : IsPair s.heap TO p q)
    (S1 : Steps t1 s.heap i1 l1 k1 us) (S2 : Steps t2 s.heap i2 l2 k2 vs) (no : us[k1]? = none ∨ vs[k2]? = none)
    (fin : ∀ g, (∀ c o, c ≠ z → c ≠ TO → c ≠ i1 → c ≠ i2 → s.heap.get? c = some o → g.get? c = some o) → R none { s with heap := g }) : wpAny (model prog w) A (pyNext (.ref z)) R E s := by
  have tz : s.TypeIs (.ref z) "zip" := ⟨_, hz, rfl⟩
  unfold pyNext
  refine wpAny_bind (wpAny_attempt (wpAny_callSpecial?_slot (name := Str.ofString "__next__") tz F.slot_zip_next (wpAny_call_entry F.slot_zip_next tz F.entry_zip_next ?_ (F.args_zip_next_1 _))))
  refine zipM_end0 hh D hz hI hO S1 S2 no fun g e k ⟨o, ho, co⟩ => ?_
  exact wpAny_bind (wpAny_isInstance (T := "StopIteration") (b := true) ⟨o, ho, co⟩ isSubtype_stop (wpAny_pure (fin g k)))
end
/-! zip(tuple, list) -/
def hp1 (h : Heap) (a : Addr) : Heap := h.push { cls := .type "tuple_iterator", data := .fields #[.ref a, .int 0 0] }
def hp2 (h : Heap) (a b : Addr) : Heap := (hp1 h a).push { cls := .type "list_iterator", data := .fields #[.ref b, .int 0 0] }
def hp3 (h : Heap) (a b : Addr) : Heap := (hp2 h a b).push { cls := .type "tuple", data := .seq #[.ref h.objs.size, .ref (hp1 h a).objs.size] }
def hp4 (h : Heap) (a b : Addr) : Heap := (hp3 h a b).push { cls := .type "tuple", data := .seq #[.none, .none] }
def hp5 (h : Heap) (a b : Addr) : Heap := (hp4 h a b).push { cls := .type "zip", data := .fields #[.none, .bool false, .bool false, .ref (hp2 h a b).objs.size, .ref (hp3 h a b).objs.size] }
theorem meets_zipM (a b : Addr) (xs ys : Array Value) : Meets (Builtin.«zip.__new__» ⟨[.type "zip", .ref a, .ref b], []⟩) (fun _ R s => s.heap.IsTuple a xs ∧ s.heap.IsList b ys ∧ R (.ok (.ret (.ref (hp4 s.heap a b).objs.size))) { s with heap := hp5 s.heap a b }) :=
  .of_wp fun prog w A R s h => by
    obtain ⟨hp, g, d, tk, os⟩ := s
    obtain ⟨ha, hb, h⟩ := h
    have hsub := sub_zip
    have A1 : Heap.IsTuple (Shared.heap ⟨hp, g, d, tk, os⟩) a xs := ha
    have B1 : Heap.IsList (Shared.heap ⟨hp.push { cls := .type "tuple_iterator", data := .fields #[.ref a, .int 0 0] }, g, d, tk, os⟩) b ys := Heap.IsList.push hb _
    wp_walk using wpAny_pyIter_tuple A1, wpAny_pyIter_list B1
    exact ⟨_, rfl, h⟩
section
variable {prog : Program} {w : World} {A : Around} {E : Value → Shared → Prop} {s : Shared}
theorem call_zipM {a b : Addr} {xs ys : Array Value} {Q : Value → Shared → Prop} (ha : s.heap.IsTuple a xs) (hb : s.heap.IsList b ys)
    (go : ∀ g, IsZip g (s.heap.objs.size + 4) (s.heap.objs.size + 2) (s.heap.objs.size + 3) .none → IsPair g (s.heap.objs.size + 2) (.ref s.heap.objs.size) (.ref (s.heap.objs.size + 1)) → IsPair g (s.heap.objs.size + 3) .none .none →
      g.IsTupleIter s.heap.objs.size a 0 → g.IsListIter (s.heap.objs.size + 1) b 0 → (∀ c o, s.heap.get? c = some o → g.get? c = some o) → Q (.ref (s.heap.objs.size + 4)) { s with heap := g }) : wpAny (model prog w) A (call (.type "zip") [.ref a, .ref b]) Q E s := by
  refine callType_new F.called_zip (by decide) (F.typeCall_zip_2 _ _) (F.newCall_zip_2 _ _) (fun o => F.args_object_init_3 o _ _) F.entry_zip_new (meets_zipM a b xs ys) ⟨ha, hb, ?_⟩
  have e1 : (hp1 s.heap a).objs.size = s.heap.objs.size + 1 := Heap.size_push ..
  have e2 : (hp2 s.heap a b).objs.size = s.heap.objs.size + 2 := by unfold hp2; rw [Heap.size_push, e1]
  have e3 : (hp3 s.heap a b).objs.size = s.heap.objs.size + 3 := by unfold hp3; rw [Heap.size_push, e2]
  have e4 : (hp4 s.heap a b).objs.size = s.heap.objs.size + 4 := by unfold hp4; rw [Heap.size_push, e3]
  have up : ∀ {g : Heap} {o o' : Obj} {c : Addr}, g.get? c = some o → (g.push o').get? c = some o := fun u => Heap.get?_push_of_some _ u
  have q4 : (hp5 s.heap a b).get? (hp4 s.heap a b).objs.size = some _ := Heap.get?_push_size _ rfl
  have q3 : (hp5 s.heap a b).get? (hp3 s.heap a b).objs.size = some _ := up (Heap.get?_push_size _ rfl)
  have q2 : (hp5 s.heap a b).get? (hp2 s.heap a b).objs.size = some _ := up (up (Heap.get?_push_size _ rfl))
  have q1 : (hp5 s.heap a b).get? (hp1 s.heap a).objs.size = some _ := up (up (up (Heap.get?_push_size _ rfl)))
  have q0 : (hp5 s.heap a b).get? s.heap.objs.size = some _ := up (up (up (up (Heap.get?_push_size _ rfl))))
  rw [e4, e3, e2] at q4
  rw [e3] at q3
  rw [e2, e1] at q2
  rw [e1] at q1
  show _ ∧ _
  rw [e4]
  exact ⟨⟨_, q4, rfl⟩, go _ q4 q2 q3 ⟨_, q0, rfl, rfl⟩ ⟨_, q1, rfl, rfl⟩ fun c o u => up (up (up (up (up u))))⟩
end
end Hx
set_option maxHeartbeats 1000000
namespace Hx
open PySem PySem.Spec PyProof.Rows L2 RZ
/-- the tuple at a, the list at b as they stand at each turn -/
def ItzM (K : PySem.W.Frag) (a b : Addr) : It where
  go := fun i H => ∃ (xs ys : List V) (x y : V), SqT K H a xs ∧ SqL K H b ys ∧ xs[i]? = some x ∧ ys[i]? = some y
  yld := fun i H v H' => ∃ T x y, v = .ref T ∧ H T = none ∧ H' = upd H T (.tup [x, y]) ∧ (∀ xs, SqT K H a xs → xs[i]? = some x) ∧ ∀ ys, SqL K H b ys → ys[i]? = some y
  stop := fun i H => ∃ xs ys : List V, SqT K H a xs ∧ SqL K H b ys ∧ (xs.length ≤ i ∨ ys.length ≤ i)
theorem turn_zipM {P : Program} {w : World} {K : PySem.W.Frag} {elts : List Expr} {kk : Nat} {tpos : Pos} {a b z TI TO i1 i2 : Addr} (D : ZipApart z TI TO i1 i2 a b) :
    Turn P w K (.Tuple elts kk tpos) (ItzM K a b) [z, TI, TO, i1, i2] z (fun i h => IsZip h z TI TO .none ∧ IsPair h TI (.ref i1) (.ref i2) ∧ (∃ x y, IsPair h TO x y) ∧ h.IsTupleIter i1 a i ∧ h.IsListIter i2 b i) where
  mem := by simp
  obj := fun i h st c hc => by
    obtain ⟨hz, hI, ⟨x, y, hO⟩, ⟨o1, e1, _, d1⟩, ⟨o2, e2, _, d2⟩⟩ := st
    simp only [List.mem_cons, List.not_mem_nil, or_false] at hc
    rcases hc with rfl | rfl | rfl | rfl | rfl
    · exact ⟨_, hz, fun v q => nomatch q⟩
    · exact ⟨_, hI, fun v q => nomatch q⟩
    · exact ⟨_, hO, fun v q => nomatch q⟩
    · exact ⟨o1, e1, fun v q => by rw [d1] at q; cases q⟩
    · exact ⟨o2, e2, fun v q => by rw [d2] at q; cases q⟩
  keep := fun i h h' st k => by
    obtain ⟨hz, hI, ⟨x, y, hO⟩, h1, h2⟩ := st
    exact ⟨k _ (by simp) _ hz, k _ (by simp) _ hI, ⟨x, y, k _ (by simp) _ hO⟩, h1.at fun o u => k _ (by simp) o u, h2.at fun o u => k _ (by simp) o u⟩
  item := by
    intro X hP hw hK hc i pins s σ H E I hf st hg
    subst hP hw hK
    obtain ⟨hz, hI, ⟨x0, y0, hO⟩, h1, h2⟩ := st
    obtain ⟨xs, ys, x, y, qx, qy, ex, ey⟩ := hg
    obtain ⟨as, rx, p1, _⟩ := I.tuple qx
    obtain ⟨bs, ry, p2, _⟩ := I.list qy
    obtain ⟨u, hu, ru⟩ := rx.get ex
    obtain ⟨v, hv, rv⟩ := ry.get ey
    have zl : z < s.heap.objs.size := Heap.lt_size hz
    refine zipM_item (t1 := true) (t2 := false) D hz hI hO ⟨h1, p1⟩ ⟨h2, p2.isList⟩ (x := u) (y := v) (by simpa using hu) (by simpa using hv) fun g z' O' S1 S2 P' k' => ?_
    refine ⟨_, rfl, wpAny_letOwnedTupleGo_zip (s := { s with heap := g }) z' fun g2 z2 sb => ?_⟩
    have far : ∀ c o, c ≠ z → g.get? c = some o → g2.get? c = some o := fun c o n w => (sb.2 c n).trans w
    have P2 := far _ _ (Nat.ne_of_gt zl) P'
    have new : ObjOk X.prog X.w (upd H s.heap.objs.size (.tup [x, y])) g2 s.heap.objs.size (.tup [x, y]) :=
      ⟨by show 2 ≤ sizeLine; rw [sizeLine_eq]; exact (by decide : (2 : Nat) ≤ 16777216), [u, v], .cons ru (.cons rv .nil), ⟨_, P2, rfl, _, rfl⟩⟩
    have I1 : Inv X pins σ (upd H s.heap.objs.size (.tup [x, y])) { s with heap := g2 } :=
      I.turnedNew (t' := s.toks) (ch := [z, TI, TO, i1, i2]) (fun c o hb w => far c o (fun e => hb (by simp [e])) (k' c o (fun e => hb (by simp [e])) (fun e => hb (by simp [e])) (fun e => hb (by simp [e])) (fun e => hb (by simp [e])) w)) hf (Nat.le_refl _) new
    refine ⟨.ref s.heap.objs.size, _, I1, rfl, ⟨_, x, y, rfl, I.hok.fresh (Nat.le_refl _), rfl, fun l hl => by rw [I.tuple_inj hl qx]; exact ex, fun l hl => by rw [I.list_inj hl qy]; exact ey⟩, ⟨z2, ?_, ⟨u, v, ?_⟩, ?_, ?_⟩, fun c hcm => ?_⟩
    · exact far _ _ D.TIz (k' _ _ D.TIz D.TITO D.TIi1 D.TIi2 hI)
    · exact far _ _ D.TOz O'
    · exact S1.1.at fun o w => far _ _ D.i1z w
    · exact S2.1.at fun o w => far _ _ D.i2z w
    · have lt : c < s.heap.objs.size := by
        simp only [List.mem_cons, List.not_mem_nil, or_false] at hcm
        rcases hcm with rfl | rfl | rfl | rfl | rfl
        · exact zl
        · exact Heap.lt_size hI
        · exact Heap.lt_size hO
        · exact (show Steps true s.heap _ a i as.toArray from ⟨h1, p1⟩).lt
        · exact (show Steps false s.heap _ b i bs.toArray from ⟨h2, p2.isList⟩).lt
      rw [upd_ne (Nat.ne_of_lt lt)]
      exact (hf c hcm).1
  done := by
    intro X hP hw hK hc i pins s σ H E I hf st hg
    subst hP hw hK
    obtain ⟨hz, hI, ⟨x0, y0, hO⟩, h1, h2⟩ := st
    obtain ⟨xs, ys, qx, qy, no⟩ := hg
    obtain ⟨as, rx, p1, _⟩ := I.tuple qx
    obtain ⟨bs, ry, p2, _⟩ := I.list qy
    have l1 := rx.length
    have l2 := ry.length
    have no' : as.toArray[i]? = none ∨ bs.toArray[i]? = none := no.imp (fun q => by simp; omega) fun q => by simp; omega
    exact zipM_end (t1 := true) (t2 := false) (I.ok.hd hc) D hz hI hO ⟨h1, p1⟩ ⟨h2, p2.isList⟩ no' fun g k' => ⟨rfl, I.turnedL (t' := s.toks) (ch := [z, TI, TO, i1, i2]) (fun c o hb w =>
      k' c o (fun e => hb (by simp [e])) (fun e => hb (by simp [e])) (fun e => hb (by simp [e])) (fun e => hb (by simp [e])) w) hf⟩
  self := fun A i s Q E st h => wpAny_pyIter_zip st.1 h
def iZipM (K : PySem.W.Frag) (ta : TA) : TI := fun σ H R => ta σ H fun vs H1 => ∃ a b xs ys, vs = [.ref a, .ref b] ∧ SqT K H1 a xs ∧ SqL K H1 b ys ∧ R (ItzM K a b) H1
theorem pi_zipM {X : Cx} {e e2 : Expr} {ta : TA} {p pos tpos : Pos} {elts : List Expr} {kk : Nat} (hg : Gl X "zip") (hm : X.mg "zip" = none) (ha : PA X [e, e2] ta)
    (hs : starEach [e, e2] X.env = (false, eval e X.env) :: starEach [e2] X.env := by rfl) (hpl : (backTo pos (starEach [e2] X.env)).any (·.1) = false := by rfl) :
    PI X (.Tuple elts kk tpos) (.Call (.Name "zip" p) [e, e2] [] pos) (iZipM X.K ta) := by
  refine ⟨fun pins s σ H R I h => ?_⟩
  refine Call_ (ld_blt I hg hm PyProof.Rows.boot_zip (PyProof.Rows.callWith_type1 (thn (ha.run pos pins s σ H _ I h) fun us s1 ⟨vs, H1, I1, r1, q1⟩ => ?_) hs hpl))
  obtain ⟨a, b, xs, ys, rfl, qx, qy, q⟩ := q1
  cases r1 with
  | cons r r1 =>
   cases r1 with
   | cons r2 r1 =>
    cases r1
    cases r
    cases r2
    obtain ⟨as, rx, p1, _⟩ := I1.tuple qx
    obtain ⟨bs, ry, p2, _⟩ := I1.list qy
    obtain ⟨o1, ho1, _⟩ := id p1
    have lb : b < s1.heap.objs.size := p2.lt
    refine call_zipM (show s1.heap.IsTuple a as.toArray from p1) p2.isList fun g hz hI hO h1 h2 hk => wpAny_pyIter_zip hz ?_
    have I2 : Inv X pins σ H1 { s1 with heap := g } := I1.kept (t' := s1.toks) hk
    refine ⟨s1.heap.objs.size + 4, [s1.heap.objs.size + 4, s1.heap.objs.size + 2, s1.heap.objs.size + 3, s1.heap.objs.size, s1.heap.objs.size + 1], _, _, H1, rfl, I2, turn_zipM (PySem.W.ktu_apart s1.heap.objs.size a b (Heap.lt_size ho1) lb), ⟨hz, hI, ⟨_, _, hO⟩, h1, h2⟩, fun c hcm => ?_, q⟩
    have le : s1.heap.objs.size ≤ c := by
      simp only [List.mem_cons, List.not_mem_nil, or_false] at hcm
      rcases hcm with rfl | rfl | rfl | rfl | rfl <;> omega
    exact I1.fpOk le (I1.hok.fresh le)
end Hx
set_option maxHeartbeats 1000000
namespace Hx
open PySem PySem.Spec PyProof.Rows L2 RZ
/-! ### e.f as one of many targets -/
def gFld (K : PySem.W.Frag) (to : TE) (f : Str) : TG := fun v σ H Q => to σ H fun x H1 => ∃ a C dx fs, x = .ref a ∧ H1 a = some (.ins C dx fs) ∧ Cls K C ∧ NoAttr K C f ∧ fs.length < 1000 ∧ Q σ (upd H1 a (.ins C dx (putF f v fs)))
theorem pg_fld {X : Cx} {o : Expr} {to : TE} {f : Str} {pos : Pos} (ho : PE X o to) : PG X (.Attribute o f pos) (gFld X.K to f) := by
  refine ⟨fun pins s σ H v u Q I r h => ?_⟩
  rw [PySem.assign_Attribute]
  refine wpAny_bind (wpAny_holding (thn (ho.run pins s σ H _ I h) fun ov s1 ⟨x, H1, I1, r1, a, C, dx, fs, ex, ea, c, n, l, q⟩ => ?_))
  subst ex
  obtain rfl : ov = Value.ref a := r1
  refine wpAny_bind (wpAny_standAt (wpAny_bind (wpAny_holding ?_)))
  exact setattr_ok I1 ea c n l r fun s3 I3 => wpAny_release ⟨σ, _, I3, q⟩
theorem paired_map {α β γ : Type} {F : α → γ → Prop} (f : β → γ) : ∀ {l : List α} {m : List β}, Paired (fun a b => F a (f b)) l m → Paired F l (m.map f)
  | _, _, .nil => .nil
  | _, _, .cons h t => .cons h (paired_map f t)
theorem look_put {f g : Str} {v : V} {fs : List (Str × V)} {o : Option V} (h : fs.lookup g = o) (n : g ≠ f) : (putF f v fs).lookup g = o := by
  rw [lookup_putF, if_neg n]
  exact h
theorem look_new {f : Str} {v : V} {fs : List (Str × V)} : (putF f v fs).lookup f = some v := by
  rw [lookup_putF, if_pos rfl]
end Hx
set_option maxHeartbeats 1000000
namespace Hx
open PySem PySem.Spec PyProof.Rows L2 RZ
/-! ### sorted(tuple of texts) -/
section
variable {prog : Program} {w : World} {A : Around} {E : Value → Shared → Prop} {s : Shared}
theorem collect_tupl {t : Addr} {us : List Value} {Q : List Value → Shared → Prop} (ht : s.heap.IsTuple t us.toArray) (sz : us.length ≤ sizeLine)
    (k : Q us { s with heap := (s.heap.push (seqObj "list" #[] 0)).update s.heap.objs.size (Obj.mapSeq (· ++ us.toArray)) }) : wpAny (model prog w) A (collect (.ref t)) Q E s := by
  obtain ⟨o, eo, co, n, dt⟩ := id ht
  unfold collect
  refine wpAny_bind (wpAny_runValue (codeAny_builtin entry_proto_collect' ?_))
  show wpAny _ _ (do again (.builtin "list.__iadd__" ⟨[← newList [], .ref t], []⟩)) _ E s
  refine wpAny_bind (wpAny_newList (wpAny_pure ⟨Code.quiet_builtin _ (by decide +kernel), codeAny_builtin entry_list_iadd' ?_⟩))
  show wpAny _ _ (Builtin.List.listExtendWith (.ref s.heap.objs.size) (.ref t) (.ref s.heap.objs.size)) _ _ { s with heap := s.heap.push (seqObj "list" #[] 0) }
  unfold Builtin.List.listExtendWith
  have eo1 : (s.heap.push (seqObj "list" #[] 0)).get? t = some o := Heap.get?_push_of_some _ eo
  have self : (s.heap.push (seqObj "list" #[] 0)).get? s.heap.objs.size = some (seqObj "list" #[] 0) := Heap.get?_push_size _ rfl
  refine wpAny_bind (wpAny_typeOf (T := "tuple") ⟨o, eo1, co⟩ ?_)
  have tt : (Value.type "tuple" == Value.type "tuple") = true := by rfl
  rw [tt, Bool.or_true, if_pos rfl]
  refine wpAny_bind (listItems_at eo1 dt ?_)
  refine wpAny_bind (listItems_at (xs := #[]) (n := 0) self rfl ?_)
  rw [if_neg (by simp)]
  have szu : ((#[] : Array Value) ++ us.toArray).size ≤ sizeLine + 1 := by
    simp only [Array.size_append, List.size_toArray, List.length_nil]
    omega
  refine wpAny_bind (listUpdate_at (xs := #[]) (n := 0) self rfl ?_ (Nat.zero_le _) szu)
  refine wpAny_pure ?_
  show wpAny (model prog w) A (do
      let o ← load s.heap.objs.size
      match o.data with
      | .seq xs _ => pure xs.toList
      | _ => unsupported "internal:collect") Q E { s with heap := (s.heap.push (seqObj "list" #[] 0)).update s.heap.objs.size (Obj.mapSeq (· ++ us.toArray)) }
  refine wpAny_bind (wpAny_load (get?_update_seq self _) ?_)
  show wpAny _ _ (pure ((#[] : Array Value) ++ us.toArray).toList) Q E _
  rw [show ((#[] : Array Value) ++ us.toArray).toList = us by simp]
  exact wpAny_pure k
theorem sorted_tupl {t : Addr} {us : List Value} {xs : List Str} {Q : Value → Shared → Prop} (ht : s.heap.IsTuple t us.toArray) (hS : StrsAre us xs) (sz : us.length ≤ sizeLine)
    (k : ∀ (out : Array Value) (ys : List Str), StrsAre out.toList ys → ys.Perm xs → sortedS ys = true → Q (.ref (s.heap.objs.size + 1)) { s with heap := sortedAll s.heap us out }) : wpAny (model prog w) A (call (.builtin "sorted") [.ref t]) Q E s := by
  refine Calls.call_function_entry kind_sorted plain_sorted entry_sorted (args_sorted1 _) ?_
  unfold Builtin.«sorted»
  refine wpAny_bind (m := checkCount "sorted" 1 1 _) (wpAny_pure ?_)
  refine wpAny_bind (collect_tupl ht sz ?_)
  refine wpAny_bind (wpAny_newList ?_)
  have e1 : ((s.heap.push (seqObj "list" #[] 0)).update s.heap.objs.size (Obj.mapSeq (· ++ us.toArray))).objs.size = s.heap.objs.size + 1 := by
    rw [Heap.size_update, size_push']
  have e2 : (((s.heap.push (seqObj "list" #[] 0)).update s.heap.objs.size (Obj.mapSeq (· ++ us.toArray))).push (seqObj "list" us.toArray 0)).get? (s.heap.objs.size + 1) = some (seqObj "list" us.toArray 0) := by
    rw [← e1]
    exact Heap.get?_push_size _ rfl
  show wpAny _ _ _ _ _ { s with heap := ((s.heap.push (seqObj "list" #[] 0)).update s.heap.objs.size (Obj.mapSeq (· ++ us.toArray))).push (seqObj "list" us.toArray 0) }
  rw [e1]
  refine wpAny_bind (wpAny_holding (wpAny_call_entry slot_list_sort ⟨_, e2, rfl⟩ entry_list_sort (list_sort_treeKAny strKind_oneLt e2 hS.keysOf (fun a b l e => keyKind_strs (by rw [← e]; exact hS)) sz fun st pm so => ⟨_, rfl, ?_⟩) (args_list_sort _)))
  obtain ⟨ys, y1, y2, y3⟩ := sorted_out_str hS pm so
  exact wpAny_pure ⟨_, rfl, k _ ys y1 y2 y3⟩
end
section
variable {X : Cx}
def rSrtST (K : PySem.W.Frag) : List V → Hp → VK → Prop := fun vs H Q => ∃ (a : Addr) (xs : List Str), vs = [V.ref a] ∧ SqT K H a (xs.map V.str) ∧ xs.length ≤ sizeLine ∧
  ∀ (ys : List Str) (p : Addr), ys.Perm xs → sortedS ys = true → H p = none → Q (.ref p) (upd H p (.lst (ys.map V.str)))
theorem cr_srtST : CallR X (.builtin "sorted") (rSrtST X.K) := by
  intro pins s σ H vs us Q I r h
  obtain ⟨a, xs, rfl, hs, hz, q⟩ := h
  obtain ⟨its, rv, ht, _⟩ := I.tuple hs
  rw [Vals.ref1 r]
  have le := rv.length
  rw [List.length_map] at le
  refine sorted_tupl ht rv.strs (by omega) fun out ys y1 y2 y3 => ?_
  obtain ⟨e, he⟩ := PyProof.Rows.sortedAll_at s.heap its out
  have z : (ys.map V.str).length ≤ sizeLine := by rw [List.length_map, y2.length_eq]; exact hz
  have fr := I.hok.fresh (Nat.le_succ s.heap.objs.size)
  exact ⟨.ref _, upd H (s.heap.objs.size + 1) (.lst (ys.map V.str)), I.laid (t' := s.toks) (fun _ _ => PyProof.Rows.sortedAll_old) (Nat.le_succ _) ⟨z, out.toList, e, vals_of_strs y1, he⟩, rfl, q ys _ y2 y3 fr⟩
theorem cr_srtSTK {K : PySem.W.Frag} (hK : X.K = K) : CallR X (.builtin "sorted") (rSrtST K) := by
  subst hK
  exact cr_srtST
end
end Hx
set_option maxHeartbeats 4000000
namespace Hx
open PySem PySem.Spec PyProof.Rows L2 RZ
section
variable {prog : Program} {w : World} {A : Around} {E : Value → Shared → Prop} {s : Shared}
theorem collect_lst {t : Addr} {us : List Value} {n : Nat} {o : Obj} {Q : List Value → Shared → Prop} (eo : s.heap.get? t = some o) (co : o.cls = .type "list") (dt : o.data = .seq us.toArray n) (sz : us.length ≤ sizeLine)
    (k : Q us { s with heap := (s.heap.push (seqObj "list" #[] 0)).update s.heap.objs.size (Obj.mapSeq (· ++ us.toArray)) }) : wpAny (model prog w) A (collect (.ref t)) Q E s := by
  unfold collect
  refine wpAny_bind (wpAny_runValue (codeAny_builtin entry_proto_collect' ?_))
  show wpAny _ _ (do again (.builtin "list.__iadd__" ⟨[← newList [], .ref t], []⟩)) _ E s
  refine wpAny_bind (wpAny_newList (wpAny_pure ⟨Code.quiet_builtin _ (by decide +kernel), codeAny_builtin entry_list_iadd' ?_⟩))
  show wpAny _ _ (Builtin.List.listExtendWith (.ref s.heap.objs.size) (.ref t) (.ref s.heap.objs.size)) _ _ { s with heap := s.heap.push (seqObj "list" #[] 0) }
  unfold Builtin.List.listExtendWith
  have eo1 : (s.heap.push (seqObj "list" #[] 0)).get? t = some o := Heap.get?_push_of_some _ eo
  have self : (s.heap.push (seqObj "list" #[] 0)).get? s.heap.objs.size = some (seqObj "list" #[] 0) := Heap.get?_push_size _ rfl
  refine wpAny_bind (wpAny_typeOf (T := "list") ⟨o, eo1, co⟩ ?_)
  have tt : (Value.type "list" == Value.type "list") = true := by rfl
  rw [tt, Bool.or_true, Bool.true_or, if_pos rfl]
  refine wpAny_bind (listItems_at eo1 dt ?_)
  refine wpAny_bind (listItems_at (xs := #[]) (n := 0) self rfl ?_)
  rw [if_neg (by simp)]
  have szu : ((#[] : Array Value) ++ us.toArray).size ≤ sizeLine + 1 := by
    simp only [Array.size_append, List.size_toArray, List.length_nil]
    omega
  refine wpAny_bind (listUpdate_at (xs := #[]) (n := 0) self rfl ?_ (Nat.zero_le _) szu)
  refine wpAny_pure ?_
  show wpAny (model prog w) A (do
      let o ← load s.heap.objs.size
      match o.data with
      | .seq xs _ => pure xs.toList
      | _ => unsupported "internal:collect") Q E { s with heap := (s.heap.push (seqObj "list" #[] 0)).update s.heap.objs.size (Obj.mapSeq (· ++ us.toArray)) }
  refine wpAny_bind (wpAny_load (get?_update_seq self _) ?_)
  show wpAny _ _ (pure ((#[] : Array Value) ++ us.toArray).toList) Q E _
  rw [show ((#[] : Array Value) ++ us.toArray).toList = us by simp]
  exact wpAny_pure k
theorem collect_size (h : Heap) (us : List Value) : ((h.push (seqObj "list" #[] 0)).update h.objs.size (Obj.mapSeq (· ++ us.toArray))).objs.size = h.objs.size + 1 := by
  rw [Heap.size_update, Heap.size_push]
theorem collect_old {h : Heap} {us : List Value} {b : Addr} {o : Obj} (e : h.get? b = some o) : ((h.push (seqObj "list" #[] 0)).update h.objs.size (Obj.mapSeq (· ++ us.toArray))).get? b = some o :=
  (Heap.get?_update_other _ _ (Nat.ne_of_gt (Heap.lt_size e))).trans (Heap.get?_push_of_some _ e)
end
end Hx
set_option maxHeartbeats 4000000
namespace Cmb
open PySem PySem.Spec PyProof.Rows L2 RZ
open Sem (wp)
/-- an iterator over combinations: its pool, how far it is, what it gave last, its indices -/
abbrev IsC (h : Heap) (it pool : Addr) (st : Int) (last : Value) (ix : List Nat) : Prop :=
  h.get? it = some { cls := .type "itertools.combinations", dict := none, data := .fields ([.ref pool, .int st 0, last] ++ ix.map fun (i : Nat) => rawInt i).toArray, slots := #[] }
theorem meets_new {l : Addr} {us : List Value} {n : Nat} {o : Obj} {r : Nat} {t : Tok} (hr : r ≤ us.length) (small : us.length ≤ 100) :
    Meets (Builtin.«itertools.combinations.__new__» ⟨[.type "itertools.combinations", .ref l, .int r t], []⟩)
      (fun _ R s => s.heap.get? l = some o ∧ o.cls = .type "list" ∧ o.data = .seq us.toArray n ∧ ∀ h' pool it, s.heap.objs.size ≤ pool → s.heap.objs.size ≤ it → it ≠ pool → IsC h' it pool 0 .none (List.range r) → h'.get? pool = some { cls := .type "tuple", data := .seq us.toArray } → (∀ b o, s.heap.get? b = some o → h'.get? b = some o) → R (.ok (.ret (.ref it))) { s with heap := h' }) :=
  .of_wp fun prog w A R s ⟨ho, hc, hd, h⟩ => by
    obtain ⟨hp, g, dd, tk, os⟩ := s
    have hsub := sub_c
    have hdc := noDict_c
    have hsub2 : isSubtype (Value.type "itertools.combinations") (Value.type ("itertools." ++ "combinations")) = pure true := by rw [show ("itertools." ++ "combinations" : String) = "itertools.combinations" from by decide +kernel]; exact sub_c
    repeat (first | wp_step | simp only [List.head?_cons, Option.some_or, List.getElem?_cons_succ, List.getElem?_cons_zero, List.length_cons, List.length_nil, List.forIn_nil])
    have hn : ¬ ((decide ((r : Int) < -2 ^ 63) || decide ((r : Int) ≥ 2 ^ 63)) = true) := by
      rw [decide_eq_false (by omega), decide_eq_false (by omega)]
      decide
    rw [if_neg hn]
    refine wpAny_pure ?_
    refine wpAny_bind (Hx.collect_lst ho hc hd (by rw [sizeLine_eq]; omega) ?_)
    rw [if_neg (show ¬ ((r : Int) < 0) by omega)]
    have hm : ¬ (Builtin.Itertools.itTooMany (r : Int) = true) := by
      unfold Builtin.Itertools.itTooMany
      rw [decide_eq_true_eq]
      omega
    rw [if_neg hm]
    have sz := Hx.collect_size hp us
    have old := fun {b : Addr} {ob : Obj} (e : hp.get? b = some ob) => Hx.collect_old (us := us) e
    show wpAny (model prog w) A.in1 (newTuple us >>= fun v => pure (Value.type "itertools.combinations", v, us.length, r)) _ _ { heap := (hp.push (seqObj "list" #[] 0)).update hp.objs.size (Obj.mapSeq (· ++ us.toArray)), gens := g, drawn := dd, toks := tk, os := os }
    generalize (hp.push (seqObj "list" #[] 0)).update hp.objs.size (Obj.mapSeq (· ++ us.toArray)) = h1 at sz old ⊢
    refine wpAny_bind (wpAny_newTuple ?_ (by rw [sizeLine_eq]; omega))
    refine wpAny_pure ?_
    show wpAny _ _ (Builtin.Itertools.itNewRecord (.type "itertools.combinations") ([.ref h1.objs.size, rawInt (if r > us.length then 2 else 0), .none] ++ (List.range r).map fun (i : Nat) => rawInt i) >>= fun v => ret v) _ _ { heap := h1.push { cls := .type "tuple", data := .seq us.toArray }, gens := g, drawn := dd, toks := tk, os := os }
    rw [if_neg (show ¬ r > us.length by omega)]
    refine wpAny_bind ?_
    unfold Builtin.Itertools.itNewRecord
    rw [hdc]
    show wpAny _ _ (newObj (.type "itertools.combinations") (.fields ([.ref h1.objs.size, rawInt 0, .none] ++ (List.range r).map fun (i : Nat) => rawInt i).toArray)) _ _ _
    have ep : (h1.push { cls := .type "tuple", data := .seq us.toArray }).get? h1.objs.size = some { cls := .type "tuple", data := .seq us.toArray } := Heap.get?_push_size _ rfl
    have lp : (h1.push { cls := .type "tuple", data := .seq us.toArray }).objs.size = h1.objs.size + 1 := Heap.size_push _ _
    refine wpAny_newObj_type (wpAny_pure ⟨_, rfl, h _ h1.objs.size (h1.push { cls := .type "tuple", data := .seq us.toArray }).objs.size (by show hp.objs.size ≤ h1.objs.size; omega) (by show hp.objs.size ≤ (h1.push { cls := .type "tuple", data := .seq us.toArray }).objs.size; omega) (by omega) (Heap.get?_push_size _ rfl) (Heap.get?_push_of_some _ ep) fun b ob e => Heap.get?_push_of_some _ (Heap.get?_push_of_some _ (old e))⟩) ?_
    show (([.ref h1.objs.size, rawInt 0, .none] ++ (List.range r).map fun (i : Nat) => rawInt i).toArray : Array Value).size ≤ sizeLine + 2
    rw [List.size_toArray, List.length_append, List.length_map, List.length_range, sizeLine_eq]
    simp only [List.length_cons, List.length_nil]
    omega
end Cmb
set_option maxHeartbeats 4000000
namespace Cmb
open PySem PySem.Spec PyProof.Rows L2 RZ
open Sem (wp)
theorem nums_back (ix : List Nat) : (([Value.none, Value.none, Value.none].map id ++ ix.map fun (i : Nat) => rawInt i).drop 3).map (fun v => match v with | .int n _ => n.toNat | _ => 0) = ix := by
  show ((ix.map fun (i : Nat) => rawInt i)).map _ = ix
  rw [List.map_map]
  exact List.map_id ix
section
variable {prog : Program} {w : World} {A : Around} {E : Value → Shared → Prop} {s : Shared}
theorem call_comb {l : Addr} {us : List Value} {n : Nat} {o : Obj} {r : Nat} {t : Tok} {Q : Value → Shared → Prop} (hr : r ≤ us.length) (small : us.length ≤ 100) (ho : s.heap.get? l = some o) (hc : o.cls = .type "list") (hd : o.data = .seq us.toArray n)
    (h : ∀ h' pool it, s.heap.objs.size ≤ pool → s.heap.objs.size ≤ it → it ≠ pool → IsC h' it pool 0 .none (List.range r) → h'.get? pool = some { cls := .type "tuple", data := .seq us.toArray } → (∀ b o, s.heap.get? b = some o → h'.get? b = some o) → Q (.ref it) { s with heap := h' }) :
    wpAny (model prog w) A (call (.type "itertools.combinations") [.ref l, .int r t]) Q E s := by
  refine callType_new called_c (by decide +kernel) (typeCall_c _ _) (newCall_c _ _) (fun obj => F.args_object_init_3 obj _ _) entry_new_c (meets_new hr small) ⟨ho, hc, hd, fun h' pool it a b c d e f => ?_⟩
  exact ⟨⟨_, d, rfl⟩, h h' pool it a b c d e f⟩
theorem iter_comb {it pool : Addr} {st : Int} {last : Value} {ix : List Nat} {Q : Value → Shared → Prop} (hit : IsC s.heap it pool st last ix) (h : Q (.ref it) s) : wpAny (model prog w) A (pyIter (.ref it)) Q E s := by
  have hT : s.TypeIs (.ref it) "itertools.combinations" := ⟨_, hit, rfl⟩
  refine wpAny_pyIter_slot hT iter_c (wpAny_call_entry iter_c hT entry_iter_c ?_ (args_iter_c _))
  show wpAny _ _ (ret (.ref it)) _ _ s
  exact wpAny_pure ⟨_, rfl, "itertools.combinations", _, hT, next_c.lookup, h⟩
/-- what is handed out: a new tuple of the items at the indices -/
theorem hand {it pool : Addr} {st : Int} {last : Value} {ix : List Nat} {us : List Value} {Q : Fin → Shared → Prop} (hit : IsC s.heap it pool st last ix) (hp : s.heap.get? pool = some { cls := .type "tuple", data := .seq us.toArray }) (sz : ix.length ≤ 100)
    (h : ∀ h' r, r = s.heap.objs.size → IsC h' it pool st (.ref r) ix → h'.get? r = some { cls := .type "tuple", data := .seq (ix.map fun i => us.toArray.getD i .none).toArray } → h'.objs.size = s.heap.objs.size + 1 → (∀ b o, b ≠ it → s.heap.get? b = some o → h'.get? b = some o) → Q (.done (.ret (.ref r))) { s with heap := h' }) :
    wpAny (model prog w) A (do
      let result ← (do
        let items ← Builtin.Itertools.itPoolItems (.ref pool)
        newTuple (ix.map fun i => items.getD i .none))
      let before ← field (.ref it) 2
      setField (.ref it) 2 result
      letGo [before] [result]
      ret result) Q E s := by
  obtain ⟨hh, g, dd, tk, os⟩ := s
  refine wpAny_bind ?_
  refine wpAny_bind ?_
  show wpAny _ _ (load pool >>= _) _ _ _
  refine wpAny_bind (wpAny_load hp ?_)
  refine wpAny_pure ?_
  refine wpAny_newTuple ?_ (by rw [List.length_map, sizeLine_eq]; omega)
  have lit : it < hh.objs.size := Heap.lt_size hit
  have hit1 : IsC (hh.push { cls := .type "tuple", data := .seq (ix.map fun i => us.toArray.getD i .none).toArray }) it pool st last ix := Heap.get?_push_of_some _ hit
  have er : (hh.push { cls := .type "tuple", data := .seq (ix.map fun i => us.toArray.getD i .none).toArray }).get? hh.objs.size = some { cls := .type "tuple", data := .seq (ix.map fun i => us.toArray.getD i .none).toArray } := Heap.get?_push_size _ rfl
  have es : (hh.push { cls := .type "tuple", data := .seq (ix.map fun i => us.toArray.getD i .none).toArray }).objs.size = hh.objs.size + 1 := Heap.size_push _ _
  have old : ∀ b o, hh.get? b = some o → (hh.push { cls := .type "tuple", data := .seq (ix.map fun i => us.toArray.getD i .none).toArray }).get? b = some o := fun b o e => Heap.get?_push_of_some _ e
  generalize (hh.push { cls := .type "tuple", data := .seq (ix.map fun i => us.toArray.getD i .none).toArray }) = h1 at hit1 er es old ⊢
  refine wpAny_bind (wpAny_field hit1 rfl (x := last) rfl ?_)
  refine wpAny_bind (wpAny_setField_rec hit1 (by simp) fun h2 e2 sb => ?_)
  refine wpAny_bind (wpAny_letGo (wpAny_pure ?_))
  refine h h2 _ rfl ?_ ?_ (by rw [sb.1]; exact es) fun b o nb e => (sb.2 b nb).trans (old b o e)
  · exact e2
  · exact (sb.2 _ (Nat.ne_of_gt lit)).trans er
/-- the indices that are laid down -/
theorem read_ix {it pool : Addr} {st : Int} {last : Value} {ix : List Nat} {Q : List Nat → Shared → Prop} (hit : IsC s.heap it pool st last ix) (h : Q ix s) : wpAny (model prog w) A (Builtin.Itertools.itNumbersFrom (.ref it) 3) Q E s := by
  show wpAny _ _ (load it >>= _) _ _ _
  refine wpAny_bind (wpAny_load hit ?_)
  refine wpAny_pure ?_
  have e := nums_back ix
  have e2 : (([Value.ref pool, .int st 0, last] ++ ix.map fun (i : Nat) => rawInt i).toArray.toList.drop 3).map (fun v => match v with | .int n _ => n.toNat | _ => 0) = ix := e
  show Q ((([Value.ref pool, .int st 0, last] ++ ix.map fun (i : Nat) => rawInt i).toArray.toList.drop 3).map (fun v => match v with | .int n _ => n.toNat | _ => 0)) s
  rw [e2]
  exact h
theorem read_st {it pool : Addr} {st : Int} {last : Value} {ix : List Nat} {Q : Int → Shared → Prop} (hit : IsC s.heap it pool st last ix) (h : Q st s) : wpAny (model prog w) A (Builtin.Itertools.itIntField (.ref it) 1) Q E s := by
  show wpAny _ _ (field (.ref it) 1 >>= _) _ _ _
  refine wpAny_bind (wpAny_field hit rfl (x := .int st 0) rfl ?_)
  exact wpAny_pure h
/-- the first one -/
theorem next_first {it pool : Addr} {last : Value} {ix : List Nat} {us : List Value} {Q : Option Value → Shared → Prop} (hit : IsC s.heap it pool 0 last ix) (hp : s.heap.get? pool = some { cls := .type "tuple", data := .seq us.toArray }) (hne : it ≠ pool) (sz : ix.length ≤ 100)
    (h : ∀ h' r, r = s.heap.objs.size → IsC h' it pool 1 (.ref r) ix → h'.get? r = some { cls := .type "tuple", data := .seq (ix.map fun i => us.toArray.getD i .none).toArray } → h'.objs.size = s.heap.objs.size + 1 → (∀ b o, b ≠ it → s.heap.get? b = some o → h'.get? b = some o) → Q (some (.ref r)) { s with heap := h' }) :
    wpAny (model prog w) A (pyNext (.ref it)) Q E s := by
  have hT : s.TypeIs (.ref it) "itertools.combinations" := ⟨_, hit, rfl⟩
  unfold pyNext
  refine wpAny_bind (wpAny_attempt (wpAny_callSpecial?_slot (name := Str.ofString "__next__") hT next_c (wpAny_call_entry next_c hT entry_next_c ?_ (args_next_c _))))
  show wpAny _ _ (slotArgs "__next__" 0 ⟨[.ref it], []⟩ >>= _) _ _ s
  refine wpAny_bind (wpAny_pure ?_)
  refine wpAny_bind (wpAny_field hit rfl (x := .ref pool) rfl ?_)
  refine wpAny_bind (read_ix hit ?_)
  refine wpAny_bind (read_st hit ?_)
  show wpAny _ _ (setField (.ref it) 1 (rawInt 1) >>= _) _ _ s
  refine wpAny_bind (wpAny_setField_rec hit (by simp) fun h1 e1 sb => ?_)
  have hit1 : IsC h1 it pool 1 last ix := e1
  have hp1 : h1.get? pool = some { cls := .type "tuple", data := .seq us.toArray } := (sb.2 _ (Ne.symm hne)).trans hp
  refine hand (s := { s with heap := h1 }) hit1 hp1 sz fun h' r er a b c d => ?_
  refine ⟨_, rfl, wpAny_pure (h h' r (er.trans sb.1) a b (c.trans (by rw [show ({ s with heap := h1 } : Shared).heap.objs.size = h1.objs.size from rfl, sb.1])) fun b' o nb e => d b' o nb ((sb.2 b' nb).trans e))⟩
end
end Cmb
set_option maxHeartbeats 4000000
namespace Cmb
open PySem PySem.Spec PyProof.Rows L2 RZ
open Sem (wp)
/-- all ways to take r of a list, in order -/
def combs {α : Type} : List α → Nat → List (List α)
  | _, 0 => [[]]
  | [], _ + 1 => []
  | x :: xs, r + 1 => (combs xs r).map (fun l => x :: l) ++ combs xs (r + 1)
/-- the rows of indices that a step goes through -/
def walk (step : Nat → List Nat → Option (List Nat)) (n : Nat) : Nat → List Nat → List (List Nat)
  | 0, ix => [ix]
  | k + 1, ix => ix :: (match step n ix with
    | some jx => walk step n k jx
    | none => [])
def pairs6 : List (Nat × Nat) := [(2, 1), (3, 1), (3, 2), (4, 1), (4, 2), (4, 3), (5, 1), (5, 2), (5, 3), (5, 4), (6, 1), (6, 2), (6, 3), (6, 4), (6, 5)]
theorem lay3 {a b c : Value} {l m : List Value} : ([a, b, c] ++ l).toArray.extract 0 3 ++ m.toArray = ([a, b, c] ++ m).toArray := by
  simp
theorem next_step : ∃ step : Nat → List Nat → Option (List Nat),
    (∀ (prog : Program) (w : World) (A : Around) (E : Value → Shared → Prop) (s : Shared) (it pool : Addr) (last : Value) (ix jx : List Nat) (us : List Value) (Q : Option Value → Shared → Prop), IsC s.heap it pool 1 last ix → s.heap.get? pool = some { cls := .type "tuple", data := .seq us.toArray } → it ≠ pool → jx.length ≤ 100 → step us.length ix = some jx →
      (∀ h' r, r = s.heap.objs.size → IsC h' it pool 1 (.ref r) jx → h'.get? r = some { cls := .type "tuple", data := .seq (jx.map fun i => us.toArray.getD i .none).toArray } → h'.objs.size = s.heap.objs.size + 1 → (∀ b o, b ≠ it → s.heap.get? b = some o → h'.get? b = some o) → Q (some (.ref r)) { s with heap := h' }) → wpAny (model prog w) A (pyNext (.ref it)) Q E s) ∧
    (∀ (prog : Program) (w : World) (A : Around) (E : Value → Shared → Prop) (s : Shared) (it pool : Addr) (last : Value) (ix : List Nat) (us : List Value) (Q : Option Value → Shared → Prop), A.handled = none → IsC s.heap it pool 1 last ix → s.heap.get? pool = some { cls := .type "tuple", data := .seq us.toArray } → step us.length ix = none →
      (∀ h', (∀ b o, b ≠ it → s.heap.get? b = some o → h'.get? b = some o) → Q none { s with heap := h' }) → wpAny (model prog w) A (pyNext (.ref it)) Q E s) ∧
    (pairs6.all fun p => decide (walk step p.1 70 (List.range p.2) = combs (List.range p.1) p.2)) = true := by
  apply Exists.intro
  refine ⟨?_, ?_, ?_⟩
  · intro prog w A E s it pool last ix jx us Q hit hp hne sz hs h
    have hT : s.TypeIs (.ref it) "itertools.combinations" := ⟨_, hit, rfl⟩
    unfold pyNext
    refine wpAny_bind (wpAny_attempt (wpAny_callSpecial?_slot (name := Str.ofString "__next__") hT next_c (wpAny_call_entry next_c hT entry_next_c ?_ (args_next_c _))))
    show wpAny _ _ (slotArgs "__next__" 0 ⟨[.ref it], []⟩ >>= _) _ _ s
    refine wpAny_bind (wpAny_pure ?_)
    refine wpAny_bind (wpAny_field hit rfl (x := .ref pool) rfl ?_)
    refine wpAny_bind (read_ix hit ?_)
    refine wpAny_bind (read_st hit ?_)
    show wpAny _ _ (Builtin.Itertools.itPoolItems (.ref pool) >>= _) _ _ s
    refine wpAny_bind ?_
    show wpAny _ _ (load pool >>= _) _ _ s
    refine wpAny_bind (wpAny_load hp (wpAny_pure ?_))
    split
    · next nx heq =>
      have e := heq.symm.trans hs
      cases e
      refine wpAny_bind ?_
      show wpAny _ _ (updateFields it fun fs => fs.extract 0 3 ++ (jx.map fun (n : Nat) => rawInt n).toArray) _ _ _
      refine wpAny_updateFields hit rfl ?_ ?_
      · have e1 := Heap.get?_update_self (Obj.mapFields fun fs => fs.extract 0 3 ++ (jx.map fun (n : Nat) => rawInt n).toArray) hit rfl
        have sb : Heap.SameBut it s.heap (s.heap.update it (Obj.mapFields fun fs => fs.extract 0 3 ++ (jx.map fun (n : Nat) => rawInt n).toArray)) := Heap.SameBut.update ..
        generalize s.heap.update it (Obj.mapFields fun fs => fs.extract 0 3 ++ (jx.map fun (n : Nat) => rawInt n).toArray) = h1 at e1 sb ⊢
        have hit1 : IsC h1 it pool 1 last jx := by
          refine e1.trans ?_
          show some ({ cls := .type "itertools.combinations", dict := none, data := .fields ((([.ref pool, .int 1 0, last] ++ ix.map fun (i : Nat) => rawInt i).toArray.extract 0 3) ++ (jx.map fun (n : Nat) => rawInt n).toArray), slots := #[] } : Obj) = _
          rw [lay3]
        have hp1 : h1.get? pool = some { cls := .type "tuple", data := .seq us.toArray } := (sb.2 _ (Ne.symm hne)).trans hp
        refine hand (s := { s with heap := h1 }) hit1 hp1 sz fun h' r er a b c d => ?_
        exact ⟨_, rfl, wpAny_pure (h h' r (er.trans sb.1) a b (c.trans (by rw [show ({ s with heap := h1 } : Shared).heap.objs.size = h1.objs.size from rfl, sb.1])) fun b' o nb e => d b' o nb ((sb.2 b' nb).trans e))⟩
      · show ((([.ref pool, .int 1 0, last] ++ ix.map fun (i : Nat) => rawInt i).toArray.extract 0 3) ++ (jx.map fun (n : Nat) => rawInt n).toArray).size ≤ sizeLine + 3
        rw [lay3, List.size_toArray, List.length_append, List.length_map, sizeLine_eq]
        simp only [List.length_cons, List.length_nil]
        omega
    · next heq =>
      have e := heq.symm.trans hs
      cases e
  · intro prog w A E s it pool last ix us Q hh hit hp hs hQ
    have hT : s.TypeIs (.ref it) "itertools.combinations" := ⟨_, hit, rfl⟩
    unfold pyNext
    refine wpAny_bind (wpAny_attempt (wpAny_callSpecial?_slot (name := Str.ofString "__next__") hT next_c (wpAny_call_entry next_c hT entry_next_c ?_ (args_next_c _))))
    show wpAny _ _ (slotArgs "__next__" 0 ⟨[.ref it], []⟩ >>= _) _ _ s
    refine wpAny_bind (wpAny_pure ?_)
    refine wpAny_bind (wpAny_field hit rfl (x := .ref pool) rfl ?_)
    refine wpAny_bind (read_ix hit ?_)
    refine wpAny_bind (read_st hit ?_)
    show wpAny _ _ (Builtin.Itertools.itPoolItems (.ref pool) >>= _) _ _ s
    refine wpAny_bind ?_
    show wpAny _ _ (load pool >>= _) _ _ s
    refine wpAny_bind (wpAny_load hp (wpAny_pure ?_))
    split
    · next nx heq =>
      have e := heq.symm.trans hs
      cases e
    · next heq =>
      refine wpAny_bind (wpAny_setField_rec hit (by simp) fun h1 e1 sb => ?_)
      show wpAny _ _ (newExc (.type "StopIteration") [] >>= _) _ _ _
      refine wpAny_bind ?_
      simp only [newExc, newTuple]
      refine wpAny_bind (wpAny_newObj_type ?_ (by size_fits))
      refine wpAny_bind (m := firstArgMember _ _) (wpAny_of_eq (a := Value.none) (by first | rfl | (simp only [firstArgMember]; rfl)) ?_)
      refine wpAny_newObj_type ?_ (by size_fits)
      simp only [raiseNew]
      refine wpAny_bind (wpAny_handled ?_)
      first | rw [show A.in1.handled = none from hh] | rw [hh]
      refine wpAny_bind (wpAny_pure (wpAny_throw ?_))
      refine wpAny_bind (wpAny_isInstance (T := "StopIteration") (b := true) ⟨_, Heap.get?_push_size _ rfl, rfl⟩ isSubtype_stop ?_)
      exact wpAny_pure (hQ _ fun b o nb e => Heap.get?_push_of_some _ (Heap.get?_push_of_some _ ((sb.2 b nb).trans e)))
  · decide +kernel
end Cmb
set_option maxHeartbeats 2000000
namespace Cmb
open PySem PySem.Spec PyProof.Rows L2 RZ
theorem walk_head {step : Nat → List Nat → Option (List Nat)} {n : Nat} : ∀ (k : Nat) (ix : List Nat), ∃ r, walk step n k ix = ix :: r
  | 0, ix => ⟨[], rfl⟩
  | k + 1, ix => ⟨_, rfl⟩
theorem walk_next {step : Nat → List Nat → Option (List Nat)} {n : Nat} : ∀ {k : Nat} {ix : List Nat} {i : Nat} {a b : List Nat}, (walk step n k ix)[i]? = some a → (walk step n k ix)[i + 1]? = some b → step n a = some b
  | 0, ix, i, a, b, h1, h2 => by
    have e : walk step n 0 ix = [ix] := rfl
    rw [e] at h2
    simp at h2
  | k + 1, ix, i, a, b, h1, h2 => by
    have e : walk step n (k + 1) ix = ix :: (match step n ix with | some jx => walk step n k jx | none => []) := rfl
    rw [e] at h1 h2
    rw [List.getElem?_cons_succ] at h2
    cases hs : step n ix with
    | none =>
      rw [hs] at h2
      simp at h2
    | some jx =>
      rw [hs] at h1 h2
      have h2' : (walk step n k jx)[i]? = some b := h2
      cases i with
      | zero =>
        obtain ⟨r, er⟩ := walk_head (step := step) (n := n) k jx
        rw [er] at h2'
        have ea : ix = a := Option.some.inj h1
        have eb : jx = b := Option.some.inj h2'
        rw [← ea, ← eb]
        exact hs
      | succ i =>
        have h1' : (walk step n k jx)[i]? = some a := h1
        exact walk_next h1' h2'
theorem walk_last {step : Nat → List Nat → Option (List Nat)} {n : Nat} : ∀ {k : Nat} {ix : List Nat} {i : Nat} {a : List Nat}, (walk step n k ix).length ≤ k → (walk step n k ix)[i]? = some a → (walk step n k ix).length = i + 1 → step n a = none
  | 0, ix, i, a, h0, h1, h2 => by omega
  | k + 1, ix, i, a, h0, h1, h2 => by
    have e : walk step n (k + 1) ix = ix :: (match step n ix with | some jx => walk step n k jx | none => []) := rfl
    rw [e] at h0 h1 h2
    cases hs : step n ix with
    | none =>
      rw [hs] at h1 h2
      have l : i = 0 := by simpa using h2.symm
      subst l
      have ea : ix = a := Option.some.inj h1
      rw [← ea]
      exact hs
    | some jx =>
      rw [hs] at h0 h1 h2
      have h0' : (walk step n k jx).length ≤ k := by
        have : (ix :: walk step n k jx).length ≤ k + 1 := h0
        simpa using this
      have h2' : (walk step n k jx).length = i := by
        have : (ix :: walk step n k jx).length = i + 1 := h2
        simpa using this
      obtain ⟨r, er⟩ := walk_head (step := step) (n := n) k jx
      cases i with
      | zero => rw [er] at h2'; cases h2'
      | succ i =>
        have h1' : (walk step n k jx)[i]? = some a := h1
        exact walk_last h0' h1' h2'
theorem combs_facts : (pairs6.all fun p => decide ((combs (List.range p.1) p.2).length ≤ 70 ∧ (combs (List.range p.1) p.2)[0]? = some (List.range p.2) ∧ p.2 ≤ p.1 ∧ p.1 ≤ 6 ∧ ∀ ix ∈ combs (List.range p.1) p.2, ix.length ≤ 6)) = true := by decide +kernel
/-- the rows of items -/
def rowsOf (xs : List V) (n r : Nat) : List (List V) := (combs (List.range n) r).map fun ix => ix.map fun j => xs.getD j .non
def Itc (rows : List (List V)) : It :=
  ⟨fun i _ => i < rows.length, fun i H x H' => ∃ T c, x = .ref T ∧ H T = none ∧ rows[i]? = some c ∧ H' = upd H T (.tup c), fun i _ => rows.length ≤ i⟩
theorem rel_getD {xs : List V} {us : List Value} (h : Vals xs us) (j : Nat) : RelV (xs.getD j .non) (us.toArray.getD j .none) := by
  have e : us.toArray.getD j .none = (us[j]?).getD .none := by
    rw [Array.getD_eq_getD_getElem?, List.getElem?_toArray]
  rw [e, List.getD_eq_getElem?_getD]
  have l := h.length
  cases hx : xs[j]? with
  | none =>
    have q := List.getElem?_eq_none_iff.mp hx
    rw [List.getElem?_eq_none (by omega)]
    exact rfl
  | some x =>
    obtain ⟨u, hu, r⟩ := h.get hx
    rw [hu]
    exact r
theorem rel_row {xs : List V} {us : List Value} (h : Vals xs us) : ∀ ix : List Nat, Vals (ix.map fun j => xs.getD j .non) (ix.map fun j => us.toArray.getD j .none)
  | [] => .nil
  | j :: ix => .cons (rel_getD h j) (rel_row h ix)
/-- where the iterator stands -/
def TnC (it pool : Addr) (us : List Value) (n r : Nat) (i : Nat) (h : Heap) : Prop :=
  h.get? pool = some { cls := .type "tuple", data := .seq us.toArray } ∧ it ≠ pool ∧ ((i = 0 ∧ IsC h it pool 0 .none (List.range r)) ∨ ∃ (last : Value) (ix : List Nat) (m : Nat), i = m + 1 ∧ (combs (List.range n) r)[m]? = some ix ∧ IsC h it pool 1 last ix)
theorem turn_comb {P : Program} {w : World} {K : PySem.W.Frag} {tg : Expr} {it pool : Addr} {xs : List V} {us : List Value} {r : Nat} (hv : Vals xs us) (hp : (us.length, r) ∈ pairs6) :
    Turn P w K tg (Itc (rowsOf xs us.length r)) [it, pool] it (TnC it pool us us.length r) where
  mem := by simp
  obj := fun i h st b hb => by
    obtain ⟨h1, _, h2⟩ := st
    have e : b = it ∨ b = pool := by simpa using hb
    rcases e with e | e
    · rw [e]
      rcases h2 with ⟨_, h2⟩ | ⟨_, _, _, _, _, h2⟩
      · exact ⟨_, h2, fun v z => nomatch z⟩
      · exact ⟨_, h2, fun v z => nomatch z⟩
    · rw [e]
      exact ⟨_, h1, fun v z => nomatch z⟩
  keep := fun i h h' st k => by
    obtain ⟨h1, ne, h2⟩ := st
    refine ⟨k pool (by simp) _ h1, ne, ?_⟩
    rcases h2 with ⟨e, h2⟩ | ⟨last, ix, m, e1, e2, h2⟩
    · exact .inl ⟨e, k it (by simp) _ h2⟩
    · exact .inr ⟨last, ix, m, e1, e2, k it (by simp) _ h2⟩
  item := by
    intro X hP hw hK hc i pins s σ H E I hf st hg
    subst hP hw hK
    obtain ⟨step, more, _, tab⟩ := next_step
    have wk : walk step us.length 70 (List.range r) = combs (List.range us.length) r := of_decide_eq_true (List.all_eq_true.mp tab _ hp)
    obtain ⟨f1, f2, f3, f4, f5⟩ := of_decide_eq_true (List.all_eq_true.mp combs_facts _ hp)
    obtain ⟨h1, ne, h2⟩ := st
    have hgi : i < (rowsOf xs us.length r).length := hg
    have hL : i < (combs (List.range us.length) r).length := by
      unfold rowsOf at hgi
      rw [List.length_map] at hgi
      exact hgi
    have hlt : ∀ b ∈ [it, pool], b < s.heap.objs.size := fun b hb => by
      have e : b = it ∨ b = pool := by simpa using hb
      rcases e with e | e
      · rw [e]
        rcases h2 with ⟨_, h2⟩ | ⟨_, _, _, _, _, h2⟩
        · exact Heap.lt_size h2
        · exact Heap.lt_size h2
      · rw [e]; exact Heap.lt_size h1
    have core : ∀ (ix : List Nat), (combs (List.range us.length) r)[i]? = some ix → ∀ (h' : Heap) (q : Addr), q = s.heap.objs.size → IsC h' it pool 1 (.ref q) ix → h'.get? q = some { cls := .type "tuple", data := .seq (ix.map fun i => us.toArray.getD i .none).toArray } → (∀ b o, b ≠ it → s.heap.get? b = some o → h'.get? b = some o) →
        ∃ u, some (Value.ref q) = some u ∧ wpAny (model X.prog X.w) X.A (letOwnedTupleGo tg (.ref it) u) (fun _ s2 => ∃ x H', Inv X pins σ H' s2 ∧ RelV x u ∧ (Itc (rowsOf xs us.length r)).yld i H x H' ∧ TnC it pool us us.length r (i + 1) s2.heap ∧ ∀ b ∈ [it, pool], H' b = none) E { s with heap := h' } := fun ix hix h' q eq a b old => by
      subst eq
      have l6 := f5 ix (List.mem_of_getElem? hix)
      refine ⟨_, rfl, go_of (s := { s with heap := h' }) a rfl rfl (by decide) ?_⟩
      have new : ObjOk X.prog X.w (upd H s.heap.objs.size (.tup (ix.map fun j => xs.getD j .non))) h' s.heap.objs.size (.tup (ix.map fun j => xs.getD j .non)) :=
        ⟨by rw [List.length_map, sizeLine_eq]; omega, _, rel_row hv ix, ⟨_, b, rfl, _, rfl⟩⟩
      have I1 : Inv X pins σ (upd H s.heap.objs.size (.tup (ix.map fun j => xs.getD j .non))) { s with heap := h' } :=
        I.turnedNew (t' := s.toks) (ch := [it, pool]) (fun c o hb e => old c o (fun z => hb (by simp [z])) e) hf (Nat.le_refl _) new
      refine ⟨.ref s.heap.objs.size, _, I1, rfl, ⟨_, _, rfl, I.hok.fresh (Nat.le_refl _), ?_, rfl⟩, ⟨old _ _ (Ne.symm ne) h1, ne, .inr ⟨_, ix, i, rfl, hix, a⟩⟩, fun c hcm => ?_⟩
      · unfold rowsOf
        rw [List.getElem?_map, hix]
        rfl
      · rw [upd_ne (Nat.ne_of_lt (hlt c hcm))]
        exact (hf c hcm).1
    rcases h2 with ⟨e, h2⟩ | ⟨last, ix, m, e1, e2, h2⟩
    · subst e
      exact next_first h2 h1 ne (by rw [List.length_range]; omega) fun h' q eq a b c old => core _ f2 h' q eq a b old
    · subst e1
      have hj := List.getElem?_eq_getElem hL
      have st1 : step us.length ix = some _ := walk_next (k := 70) (ix := List.range r) (by rw [wk]; exact e2) (by rw [wk]; exact hj)
      exact more _ _ _ _ s it pool last ix _ us _ h2 h1 ne (by have := f5 _ (List.mem_of_getElem? hj); omega) st1 fun h' q eq a b c old => core _ hj h' q eq a b old
  done := by
    intro X hP hw hK hc i pins s σ H E I hf st hg
    subst hP hw hK
    obtain ⟨step, _, ends, tab⟩ := next_step
    have wk : walk step us.length 70 (List.range r) = combs (List.range us.length) r := of_decide_eq_true (List.all_eq_true.mp tab _ hp)
    obtain ⟨f1, f2, f3, f4, f5⟩ := of_decide_eq_true (List.all_eq_true.mp combs_facts _ hp)
    obtain ⟨h1, ne, h2⟩ := st
    have hgi : (rowsOf xs us.length r).length ≤ i := hg
    have hL : (combs (List.range us.length) r).length ≤ i := by
      unfold rowsOf at hgi
      rw [List.length_map] at hgi
      exact hgi
    rcases h2 with ⟨e, h2⟩ | ⟨last, ix, m, e1, e2, h2⟩
    · subst e
      exact absurd (List.getElem?_eq_some_iff.mp f2).1 (Nat.not_lt.mpr hL)
    · subst e1
      have lm := (List.getElem?_eq_some_iff.mp e2).1
      have st1 : step us.length ix = none := walk_last (k := 70) (ix := List.range r) (i := m) (by rw [wk]; exact f1) (by rw [wk]; exact e2) (by rw [wk]; omega)
      exact ends _ _ _ _ s it pool last ix us _ (I.ok.hd hc) h2 h1 st1 fun h' old => ⟨rfl, I.turnedL (t' := s.toks) (ch := [it, pool]) (fun c o hb e => old c o (fun z => hb (by simp [z])) e) hf⟩
  self := fun A i s Q E st h => by
    obtain ⟨_, _, h2⟩ := st
    rcases h2 with ⟨_, h2⟩ | ⟨_, _, _, _, _, h2⟩
    · exact iter_comb h2 h
    · exact iter_comb h2 h
def iComb (K : PySem.W.Frag) (ta : TA) : TI := fun σ H R => ta σ H fun vs H1 => ∃ (l : Addr) (xs : List V) (r : Nat), vs = [.ref l, .int r] ∧ SqL K H1 l xs ∧ (xs.length, r) ∈ pairs6 ∧ R (Itc (rowsOf xs xs.length r)) H1
theorem pi_comb {X : Cx} {e e2 : Expr} {ta : TA} {p pos : Pos} {tg : Expr} (hg : Gl X "combinations") (hm : X.mg "combinations" = some (.type "itertools.combinations")) (ha : PA X [e, e2] ta)
    (hs : starEach [e, e2] X.env = (false, eval e X.env) :: starEach [e2] X.env := by rfl) (hpl : (backTo pos (starEach [e2] X.env)).any (·.1) = false := by rfl) :
    PI X tg (.Call (.Name "combinations" p) [e, e2] [] pos) (iComb X.K ta) := by
  refine ⟨fun pins s σ H R I h => ?_⟩
  refine Call_ (ld_glob I hg hm (PyProof.Rows.callWith_type1 (thn (ha.run pos pins s σ H _ I h) fun us s1 ⟨vs, H1, I1, r1, q1⟩ => ?_) hs hpl))
  obtain ⟨l, xs, r, ex, hq, hpr, q⟩ := q1
  subst ex
  obtain ⟨u, v, rfl, ru, rv⟩ := vals2 r1
  cases ru
  obtain ⟨t, rfl⟩ := (show ∃ t, v = Value.int r t from rv)
  obtain ⟨its, rv2, pl, hz⟩ := I1.list hq
  have le := rv2.length
  have hpr' : (its.length, r) ∈ pairs6 := by rw [← le]; exact hpr
  obtain ⟨f1, f2, f3, f4, f5⟩ := of_decide_eq_true (List.all_eq_true.mp combs_facts _ hpr')
  obtain ⟨o, n, ho, hc, hd, hdat⟩ := pl
  refine call_comb (us := its) (by exact f3) (by omega) ho hc hdat fun h' pool it g1 g2 ne e1 e2 old => ?_
  refine iter_comb e1 ?_
  have I2 : Inv X pins σ H1 { s1 with heap := h' } := I1.kept (t' := s1.toks) old
  refine ⟨it, [it, pool], _, _, H1, rfl, I2, turn_comb rv2 hpr', ⟨e2, ne, .inl ⟨rfl, e1⟩⟩, fun b hb => ?_, ?_⟩
  · have e : b = it ∨ b = pool := by simpa using hb
    have hle : s1.heap.objs.size ≤ b := by
      rcases e with e | e
      · rw [e]; exact g2
      · rw [e]; exact g1
    exact I1.fpOk hle (I1.hok.fresh hle)
  · rw [← le]
    exact q
end Cmb
set_option maxHeartbeats 1000000
namespace Cmb
open PySem PySem.Spec PyProof.Rows L2 RZ
theorem combs_map {α β : Type} (f : α → β) : ∀ (l : List α) (r : Nat), combs (l.map f) r = (combs l r).map (List.map f)
  | _, 0 => by
    unfold combs
    rfl
  | [], _ + 1 => rfl
  | x :: l, r + 1 => by
    show (combs (l.map f) r).map (fun c => f x :: c) ++ combs (l.map f) (r + 1) = ((combs l r).map (fun c => x :: c) ++ combs l (r + 1)).map (List.map f)
    rw [combs_map f l r, combs_map f l (r + 1), List.map_append, List.map_map, List.map_map]
    rfl
theorem combs_mem {α : Type} {c : List α} : ∀ {l : List α} {r : Nat}, c ∈ combs l r ↔ c.Sublist l ∧ c.length = r
  | l, 0 => by
    have e : combs l 0 = [[]] := by unfold combs; rfl
    rw [e, List.mem_singleton]
    constructor
    · rintro rfl
      exact ⟨List.nil_sublist _, rfl⟩
    · exact fun h => List.length_eq_zero_iff.mp h.2
  | [], r + 1 => by
    have e : combs ([] : List α) (r + 1) = [] := rfl
    rw [e]
    constructor
    · intro h
      cases h
    · rintro ⟨h1, h2⟩
      rw [List.sublist_nil.mp h1] at h2
      cases h2
  | x :: l, r + 1 => by
    have e : combs (x :: l) (r + 1) = (combs l r).map (fun c => x :: c) ++ combs l (r + 1) := rfl
    rw [e, List.mem_append, List.mem_map]
    constructor
    · rintro (⟨d, hd, rfl⟩ | h)
      · obtain ⟨h1, h2⟩ := combs_mem.mp hd
        exact ⟨h1.cons_cons x, by rw [List.length_cons, h2]⟩
      · obtain ⟨h1, h2⟩ := combs_mem.mp h
        exact ⟨h1.cons x, h2⟩
    · rintro ⟨h1, h2⟩
      cases h1 with
      | cons _ h => exact .inr (combs_mem.mpr ⟨h, h2⟩)
      | cons_cons _ h =>
        refine .inl ⟨_, combs_mem.mpr ⟨h, ?_⟩, rfl⟩
        rw [List.length_cons] at h2
        omega
theorem rows_eq (xs : List V) (r : Nat) : rowsOf xs xs.length r = combs xs r := by
  have e : (List.range xs.length).map (fun j => xs.getD j .non) = xs := by
    apply List.ext_getElem?
    intro j
    rw [List.getElem?_map]
    by_cases h : j < xs.length
    · rw [List.getElem?_range h, List.getElem?_eq_getElem h]
      show some (xs.getD j .non) = some xs[j]
      rw [List.getD_eq_getElem?_getD, List.getElem?_eq_getElem h]
      rfl
    · rw [List.getElem?_eq_none (by rw [List.length_range]; omega), List.getElem?_eq_none (by omega)]
      rfl
  unfold rowsOf
  have q := combs_map (fun j => xs.getD j .non) (List.range xs.length) r
  rw [e] at q
  exact q.symm
/-- the rows of names -/
theorem rows_names (ns : List Str) (r : Nat) : rowsOf (ns.map V.str) (ns.map V.str).length r = (combs ns r).map (List.map V.str) := by
  rw [rows_eq, combs_map]
theorem pi_combK {X : Cx} {K : PySem.W.Frag} {e e2 : Expr} {ta : TA} {p pos : Pos} {tg : Expr} (hK : X.K = K) (hg : Gl X "combinations") (hm : X.mg "combinations" = some (.type "itertools.combinations")) (ha : PA X [e, e2] ta)
    (hs : starEach [e, e2] X.env = (false, eval e X.env) :: starEach [e2] X.env := by rfl) (hpl : (backTo pos (starEach [e2] X.env)).any (·.1) = false := by rfl) :
    PI X tg (.Call (.Name "combinations" p) [e, e2] [] pos) (iComb K ta) := by
  subst hK
  exact pi_comb hg hm ha hs hpl
theorem call_list_ofK {X : Cx} {K : PySem.W.Frag} (hK : X.K = K) : CallR X (.type "list") (fun xs H Q => ∃ p ys, xs = [.ref p] ∧ (SqL K H p ys ∨ SqT K H p ys) ∧ ∀ l, H l = none → Q (.ref l) (upd H l (.lst ys))) := by
  subst hK
  exact call_list_of
end Cmb
set_option maxHeartbeats 1000000
/-! ### two dicts whose keys are tuples: d == e -/
namespace Hx
open PySem PySem.Spec PyProof.Rows L2 PySem.W
section
variable {prog : Program} {w : World} {κ : Type} [DecidableEq κ] {kd : HeapKind prog w κ} {A : Around} {E : Value → Shared → Prop} {s : Shared}
abbrev Ent (κ : Type) := κ × Addr × Value
/-- what the other dict says of one entry -/
def Says (A : Around) (s : Shared) (other : List (Ent κ)) (x : Ent κ) (yes : Bool) : Prop :=
  (atKey other x.1 = none ∧ yes = false) ∨ ∃ q, atKey other x.1 = some q ∧ SeqAt.EqAt A s x.2.2 q.2 yes
theorem range_cons (i n : Nat) : List.range' i (n + 1) = i :: List.range' (i + 1) n := rfl
theorem pairs_told {nm : String} {c d : Addr} {mine other : List (Ent κ)} {says : Ent κ → Bool} {Q : Bool → Shared → Prop} (nc : (c == sysModules) = false) (nd : (d == sysModules) = false) (ro : kd.room A)
    (hc : s.heap.DictOfH kd c mine) (hd : s.heap.DictOfH kd d other) (len : mine.length = other.length) (told : ∀ x ∈ mine, Says A s other x (says x)) (q : Q (mine.all says) s) :
    wpAny (model prog w) A (Builtin.Dict.samePairs nm c d) Q E s := by
  obtain ⟨o1, t1, ep1, g1, _, w1, l1, i1, n1⟩ := hc
  obtain ⟨o2, t2, ep2, g2, _, w2, l2, i2, n2⟩ := hd
  have z1 := size_of_entries l1
  have z2 := size_of_entries l2
  have zz : t1.size = t2.size := by rw [z1, z2, len]
  unfold Builtin.Dict.samePairs
  unfold Builtin.Dict.showsAll
  rw [nc, nd]
  refine wpAny_bind (wpAny_pure (wpAny_bind (wpAny_pure (wpAny_bind (wpAny_dictEntries g1 w1 ?_)))))
  refine wpAny_bind (wpAny_dictEntries g2 w2 ?_)
  rw [if_neg (show ¬ (t1.size != t2.size) = true by rw [zz]; simp)]
  refine wpAny_bind (wpAny_dictEpoch g1 w1 (wpAny_bind ?_))
  rw [Std.Legacy.Range.forIn_eq_forIn_range' _ _ _]
  -- `pre` has been looked at and said yes, `post` is to come
  refine wpAny_forIn_list _ (fun todo m s' => s' = s ∧ m = (none, ()) ∧ ∃ pre post, mine = pre ++ post ∧ todo = List.range' pre.length post.length ∧ pre.all says = true) _ ?_ ?_ _ _ ⟨rfl, rfl, [], mine, rfl, by simp [z1], rfl⟩
  · rintro i rest m s' ⟨rfl, rfl, pre, post, split, et, yes⟩
    match post, et with
    | x :: post, et =>
      rw [List.length_cons, range_cons] at et
      obtain ⟨rfl, rfl⟩ := List.cons.inj et
      have at1 : mine[pre.length]? = some x := by rw [split, List.getElem?_append_right (Nat.le_refl _), Nat.sub_self]; rfl
      have xin := List.mem_of_getElem? at1
      have key := i1 x xin
      have tx := told x xin
      have qall : says x = false → Q false s' := fun e => by
        have z : mine.all says = false := by rw [split, List.all_append, List.all_cons, e, Bool.false_and, Bool.and_false]
        rw [z] at q
        exact q
      refine wpAny_bind (wpAny_dictEntries g1 w1 ?_)
      rw [entry_at l1 pre.length, at1]
      refine wpAny_bind (wpAny_holding (wpAny_bind (wpAny_dictFind_heap ro key g2 w2 l2 i2 n2 (fun none_ => ?_) fun j p hj => ?_)))
      · rcases tx with ⟨_, e⟩ | ⟨p, e, _⟩
        · refine wpAny_pure ?_
          exact wpAny_pure (wpAny_pure (qall e))
        · rw [atKey_none_of_get none_] at e
          cases e
      · refine wpAny_bind (wpAny_dictEntries g2 w2 ?_)
        rw [entry_at l2 j, hj]
        have found := atKey_of_get n2 hj
        rcases tx with ⟨e, _⟩ | ⟨p2, e, eq⟩
        · rw [found] at e
          cases e
        · rw [found] at e
          cases e
          refine wpAny_holding (eq prog w _ _ ?_)
          cases sx : says x with
          | false => exact wpAny_pure (wpAny_pure (qall sx))
          | true =>
            refine wpAny_bind (wpAny_dictEpoch g1 w1 ?_)
            rw [if_neg (show ¬ (ep1 != ep1) = true by simp)]
            exact wpAny_pure ⟨rfl, rfl, pre ++ [x], post, by rw [split, List.append_assoc]; rfl, by rw [List.length_append]; rfl, by rw [List.all_append, yes, List.all_cons, sx]; rfl⟩
  · rintro m s' ⟨rfl, rfl, pre, post, split, et, yes⟩
    match post, et with
    | [], _ =>
      rw [List.append_nil] at split
      rw [split, yes] at q
      exact wpAny_pure q
theorem eq_told {c d : Addr} {mine other : List (Ent κ)} {says : Ent κ → Bool} {Q : Value → Shared → Prop} (nc : (c == sysModules) = false) (nd : (d == sysModules) = false) (ro : kd.room A.in1) (hc : s.heap.DictOfH kd c mine) (hd : s.heap.DictOfH kd d other) (hu : A.units < cLine)
    (len : mine.length = other.length) (told : ∀ x ∈ mine, Says A.in1 s other x (says x)) (q : Q (.bool (mine.all says)) s) : wpAny (model prog w) A (compareOp .Eq (.ref c) (.ref d)) Q E s := by
  have t1 := hc.typeIs
  have t2 := hd.typeIs
  refine wpAny_richCompare_same_room (op := .Eq) t1 t2 PySem.F.slot_dict_eq ?_ hu
  refine wpAny_call_entry PySem.F.slot_dict_eq t1 PySem.F.entry_dict_eq ?_ (PySem.F.args_dict_eq_2 _ _)
  have two : ∀ {Q' : Value × Value → Shared → Prop} {E' : Value → Shared → Prop}, Q' (.ref c, .ref d) s → wpAny (model prog w) A.in1 (Builtin.Dict.dictSlotArgs "__eq__" ⟨[.ref c, .ref d], []⟩) Q' E' s := fun q' => by
    unfold Builtin.Dict.dictSlotArgs; exact wpAny_bind (wpAny_notOrdered_dict t1 (wpAny_pure q'))
  refine wpAny_bind (two (wpAny_bind (wpAny_isInstance (T := "dict") t2 PySem.F.sub_dict_dict ?_)))
  rw [if_neg (show ¬ (!true) = true by decide)]
  refine wpAny_bind (wpAny_pure (wpAny_bind (wpAny_pure (wpAny_bind (pairs_told nc nd ro hc hd len told (wpAny_pure ⟨_, rfl, And.intro (by intro z; cases z) (by rw [show (mine.all says == true) = mine.all says by cases mine.all says <;> rfl]; exact q)⟩))))))
end
section
variable {X : Cx}
/-- two such dicts, as long: D and D2 tell what their values are -/
def rEqT (K : PySem.W.Frag) : R2 := fun x y H Q => ∃ (a b : Addr) (ks ls : List (List Key × V)) (D D2 : List Key → PyData), x = .ref a ∧ y = .ref b ∧ H a = some (.dT ks) ∧ H b = some (.dT ls) ∧ ks.length = ls.length ∧
  (∀ p ∈ ks, Dp K H p.2 (D p.1) ∧ SeqAt.shaped (D p.1) = true) ∧ (∀ p ∈ ls, Dp K H p.2 (D2 p.1) ∧ SeqAt.shaped (D2 p.1) = true) ∧
  Q (.bl (ks.all fun p => (valV ls p.1).isSome && PyData.eqv (D p.1) (D2 p.1))) H
theorem valV_in {kvs : List (List Key × V)} {k : List Key} {v : V} (h : valV kvs k = some v) : (k, v) ∈ kvs := by
  induction kvs with
  | nil => cases h
  | cons p r ih =>
    by_cases e : p.1 = k
    · rw [valV_pos e] at h
      have e2 := Option.some.inj h
      rw [← e, ← e2]
      exact List.mem_cons_self
    · rw [valV_neg e] at h
      exact List.mem_cons_of_mem _ (ih h)
theorem kt_mem {H : Hp} : ∀ {ks : List (List Key × V)} {xs : List (Ent (List Key))}, KT H ks xs → ∀ x ∈ xs, ∃ p ∈ ks, p.1 = x.1 ∧ RelV p.2 x.2.2
  | _, _, .nil, x, h => by cases h
  | _, _, .cons (a := p) (b := y) h t, x, m => by
    rcases List.mem_cons.mp m with e | e
    · rw [e]
      exact ⟨p, List.mem_cons_self, h.1, h.2.2⟩
    · obtain ⟨p', h1, h2⟩ := kt_mem t x e
      exact ⟨p', List.mem_cons_of_mem _ h1, h2⟩
theorem kt_all {H : Hp} {f : List Key → Bool} : ∀ {ks : List (List Key × V)} {xs : List (Ent (List Key))}, KT H ks xs → (xs.all fun x => f x.1) = ks.all fun p => f p.1
  | _, _, .nil => rfl
  | _, _, .cons h t => by rw [List.all_cons, List.all_cons, kt_all t, h.1]
theorem op_eqT {K : PySem.W.Frag} (hK : X.K = K) (hu : X.A.units + 66 < cLine) : OpR X (compareOp .Eq) (rEqT K) := by
  subst hK
  intro pins s σ H x y v u Q I rx ry h
  obtain ⟨a, b, ks, ls, D, D2, rfl, rfl, ea, eb, len, h1, h2, q⟩ := h
  obtain rfl : v = Value.ref a := rx; obtain rfl : u = Value.ref b := ry
  obtain ⟨_, na, xs, ra, da⟩ := dt_of I.hok ea
  obtain ⟨_, nb, ys, rb, db⟩ := dt_of I.hok eb
  have e1 : ks.length = xs.length := Paired.length ra
  have e2 : ls.length = ys.length := Paired.length rb
  refine eq_told (says := fun x => (valV ls x.1).isSome && PyData.eqv (D x.1) (D2 x.1)) na nb (tupleKind_room_in1 (by show X.A.units + 1 < cLine; omega)) da db (by omega) (by omega) (fun x hx => ?_) ⟨.bl _, H, I, rfl, ?_⟩
  · obtain ⟨p, hp, ek, rp⟩ := kt_mem ra x hx
    obtain ⟨hd, hs⟩ := h1 p hp
    rw [ek] at hd hs
    have rv := KT.val rb x.1
    cases e : valV ls x.1 with
    | none =>
      rw [e] at rv
      refine .inl ⟨?_, rfl⟩
      cases ea : atKey ys x.1 with
      | none => rfl
      | some z => rw [ea] at rv; exact False.elim rv
    | some v' =>
      rw [e] at rv
      cases ea : atKey ys x.1 with
      | none => rw [ea] at rv; exact False.elim rv
      | some z =>
        rw [ea] at rv
        obtain ⟨hd2, hs2⟩ := h2 _ (valV_in e)
        obtain ⟨as, r1⟩ := Dp.reads I _ _ _ hd rp
        obtain ⟨bs, r2⟩ := Dp.reads I _ _ _ hd2 rv
        exact .inr ⟨z, ea, keq_at r1 r2 hs hs2 (by show X.A.units + 1 + 64 < cLine; omega)⟩
  · rw [kt_all (f := fun k => (valV ls k).isSome && PyData.eqv (D k) (D2 k)) ra]
    exact q
end
end Hx
set_option maxHeartbeats 2000000
/-! ### {e for x in ..}: the members ints or texts -/
namespace Hx
open PySem PySem.Spec PyProof.Rows L2 PpSet
abbrev setLit (w : World) : Obj := { cls := .type "set", dict := none, data := .set #[] 0 (.fresh 0 0 (!w.params.followText "set-order")) }
/-- how many members, which ones -/
def moreK (S : Key → Bool) (k : Key) : Key → Bool := fun j => S j || decide (j = k)
def cntK (S : Key → Bool) (k : Key) (n : Nat) : Nat := if S k = true then n else n + 1
def tScK (P : Program) (w : World) (wi : TI) (g : TG) (tt : TT) (te : TE) (vs : List Nat) : TE := fun τ H Q => wi τ H fun J H1 => ∀ D, H1 D = none →
  ∃ W : Nat → Nat → Hp → Prop, (∃ m, W 0 m (upd H1 D (SetK P w D (fun _ => false) 0))) ∧ ∀ i m H, W i m H →
    (J.stop i H ∧ Q (.ref D) H) ∨ (J.go i H ∧ ∃ Nx : Hp → Prop, (∀ H', Nx H' → ∃ m', m' < m ∧ W (i + 1) m' H') ∧ ∀ x H', J.yld i H x H' → g x (wipe τ vs) H' fun τ2 H2 => wipe τ2 vs = wipe τ vs ∧ tt τ2 H2 fun b H3 =>
      if b = true then te τ2 H3 fun y H4 => ∃ (k : Key) (S : Key → Bool) (n : Nat), y = kV k ∧ H4 D = some (SetK P w D S n) ∧ n + 1 < scanBound ∧ Nx (upd H4 D (SetK P w D (moreK S k) (cntK S k n))) else Nx H3)
theorem setK_lit {P : Program} {w : World} {h : Heap} : (h.push (setLit w)).SetOf (mixKind P w) h.objs.size (fun _ => false) 0 :=
  ⟨setLit w, #[], 0, _, Heap.get?_push_size _ rfl, ⟨rfl, rfl, rfl⟩, rfl, (fun z hz => by simp at hz), by simp, by decide, by rfl, rfl⟩
section
variable {X : Cx}
/-- a member more -/
theorem add_key {pn : List (Addr × Obj)} {τ : L2.St} {H : Hp} {s : Shared} {D : Addr} {k : Key} {S : Key → Bool} {n : Nat} {u : Value} {Q : Value → Shared → Prop} {E : Value → Shared → Prop} (I : Inv X pn τ H s) (hD : H D = some (SetK X.prog X.w D S n)) (room : n + 1 < scanBound) (ru : RelV (kV k) u)
    (q : ∀ s', Inv X pn τ (upd H D (SetK X.prog X.w D (moreK S k) (cntK S k n))) s' → Q .none s') : wpAny (model X.prog X.w) X.A (call (.builtin "set.add") [.ref D, u]) Q E s := by
  refine call_set_add (kV_is ru) (key_scan ru) (setK_get I hD) room fun h' sb new => q _ ?_
  obtain ⟨o, _, _, _, ho, _⟩ := id new
  exact I.write (e := D) (t' := s.toks + 1) (by rw [hD]; trivial) (.inl rfl) (fun b z ne hz => (sb.2 b ne).trans hz) ⟨o, ho⟩ (setK_new new)
/-- back where the def goes on: what was made is turned into the value -/
theorem back_key {pn : List (Addr × Obj)} {τ : L2.St} {H' : Hp} {s' : Shared} {m : Str → Option Value} {D C : Addr} {Q : VK} (I' : Inv X pn τ H' s') (q : Q (.ref D) H') (hn : s'.heap.Ns C m) (f : FpOk X pn H' C) :
    compPost (model X.prog X.w) X.A X.xe none (EP X pn τ Q) (.ref D) C (.ok .next) s' := by
  obtain ⟨a0, a1, a2, a3, a4, a5⟩ := f
  exact ⟨m, hn, fun h'' sb => ⟨.ref D, H', I'.turned (t' := s'.toks) (fun b o ne z => (sb.2 b ne).trans z) a0 a1 a3 a4 a5, rfl, q⟩⟩
theorem pe_scK {elt tg iter : Expr} {ifs : List Expr} {scope : Scope} {own : List (PySem.Str × Nat)} {pos : Pos} {wi : TI} {g : TG} {tt : TT} {te : TE} (hc : X.calm = true) (hN : X.N.Nodup) (hi : PI X tg iter wi) (ok : BlkOk X.N X.env.scope scope own)
    (pgo : ∀ (s : Shared) (H : Hp) (C : Addr) (cl : List (PySem.Str × Addr)) (fp : List Addr), PG (X.blk s H scope (compEnvC scope cl C X.env) fp) tg g) (pto : ∀ (s : Shared) (H : Hp) (C : Addr) (cl : List (PySem.Str × Addr)) (fp : List Addr), PTs (X.blk s H scope (compEnvC scope cl C X.env) fp) ifs tt)
    (peo : ∀ (s : Shared) (H : Hp) (C : Addr) (cl : List (PySem.Str × Addr)) (fp : List Addr), PE (X.blk s H scope (compEnvC scope cl C X.env) fp) elt te) (hs : ∀ x, foldedSetIterable iter X.env x = pure x := by intro _; rfl) :
    PE X (.SetComp elt [⟨tg, iter, ifs, 0⟩] scope pos) (tScK X.prog X.w wi g tt te (own.map (·.2))) := by
  refine ⟨fun pn s τ H Q I h => ?_⟩
  rw [eval_SetComp]
  have cells : ∀ y ∈ scope.names, y.2 = .free → ∃ c, X.env.cells.lookup y.1 = some c := fun y hy e => (ok.free y hy e).elim (fun k => I.ok.has _ (.inl k)) fun k => I.ok.has _ (.inr k)
  refine wpAny_comprehension_free (use := none) rfl hs (closure_ok cells) ok.kind (fun y hy e => by rw [ok.uniq y hy, e]) (thn (hi.run pn s τ H _ I h) fun _ _ hx => thn hx fun itv s2 walk => ?_)
  obtain ⟨it, fp, tn, J, H2, rfl, I2, T, st2, f2, q⟩ := walk
  refine newSet_ok ?_
  refine newEnv_comp ?_
  -- the new set
  obtain ⟨D, hD⟩ : ∃ D, s2.heap.objs.size = D := ⟨_, rfl⟩
  have nD : H2 D = none := I2.hok.fresh (Nat.le_of_eq hD)
  obtain ⟨W, ⟨m0, w0⟩, turn⟩ := q D nD
  rw [hD]
  let sA : Shared := { s2 with heap := s2.heap.push (setLit X.w) }
  let HA : Hp := upd H2 D (SetK X.prog X.w D (fun _ => false) 0)
  have IA : Inv X pn τ HA sA := I2.laid (t' := s2.toks) (fun b o e => Heap.get?_push_of_some _ e) (Nat.le_of_eq hD) (by rw [← hD]; exact setK_new setK_lit)
  have low : ∀ b ∈ fp, b < s2.heap.objs.size := fun b hb => (T.obj _ _ st2 b hb).elim fun o z => Heap.lt_size z.1
  have fA : ∀ b ∈ fp, FpOk X pn HA b ∧ b < sA.heap.objs.size := fun b hb => by
    have l := low b hb
    obtain ⟨z1, z2⟩ := f2 b hb
    refine ⟨⟨?_, z2⟩, ?_⟩
    · show (upd H2 D _) b = none
      rw [upd_ne (by rw [← hD]; exact Nat.ne_of_lt l)]
      exact z1
    · show b < (s2.heap.push _).objs.size
      rw [Heap.size_push]
      exact Nat.lt_succ_of_lt l
  have stA : tn 0 sA.heap := T.keep _ _ _ st2 fun b _ o e => Heap.get?_push_of_some _ e
  have IB := block_start IA ok hN fA
  let ce : Env := compEnvC scope (cellsFrom (sA.heap.objs.size + 1) scope.names (cloFrom X.env.cells scope.names [])) sA.heap.objs.size X.env
  let Y : Cx := X.blk sA HA scope ce fp
  let code : Expr := .SetComp elt [⟨tg, iter, ifs, 0⟩] scope pos
  let sB : Shared := { sA with heap := pushCells (sA.heap.push { cls := .type "dict", data := .dict #[] }) scope.names }
  let Post := compPost (model X.prog X.w) X.A X.xe none (EP X pn τ Q) (.ref D) sA.heap.objs.size
  have stB : tn 0 sB.heap := T.keep _ _ _ stA fun b _ o e => pushCells_keeps _ _ _ _ (Heap.get?_push_of_some _ e)
  have nA : ∀ b ∈ fp, HA b = none := fun b hb => (fA b hb).1.1
  have fpo : ∀ {τ' : L2.St} {H' : Hp} {s' : Shared}, L2.Inv Y [] τ' H' s' → (∀ b ∈ fp, H' b = none) → ∀ b ∈ fp, FpOk Y [] H' b := fun {τ' H' s'} I' hn b hb => by
    obtain ⟨y1, y2⟩ := I'.ok.exf b hb
    exact ⟨hn b hb, y1, I'.ok.exfs b hb, .inl hb, fun x c e => y2 x c e, fun p hp => by cases hp⟩
  have around : codeAny (model X.prog X.w) X.A (.compLoop code 0 (.ref it) (.ref D) ce) Post sB := by
    refine compLoopS_any (fun n s' => ∃ i H', L2.Inv Y [] (wipe τ (own.map (·.2))) H' s' ∧ tn i s'.heap ∧ (∀ b ∈ fp, H' b = none) ∧ W i n H') (fun n s5 at5 => ?_) m0 ⟨0, HA, IB, stB, nA, w0⟩
    obtain ⟨i, H5, I5, st5, n5, w5⟩ := at5
    rcases turn i n H5 w5 with ⟨stop, fin⟩ | ⟨go, Nx, less, step⟩
    · refine thnF (T.done Y rfl rfl rfl hc i [] s5 _ H5 (fun _ _ => False) I5 (fpo I5 n5) st5 stop) fun r s6 out => ?_
      obtain ⟨rfl, I6⟩ := out
      have I7 : L2.Inv X pn τ H5 s6 := IA.call' (ch := fp) I6.os I6.base I6.hok I6.bare fun b hb => by
        obtain ⟨_, a1, a2, a3, a4, a5⟩ := (fA b hb).1
        exact ⟨a3, a1, a4, a5⟩
      have nC : H5 sA.heap.objs.size = none := I6.free
      obtain ⟨m, hn, _⟩ := I6.loc
      exact back_key I7 fin hn (IA.fpOk (Nat.le_refl _) nC)
    · refine thnF (T.item Y rfl rfl rfl hc i [] s5 _ H5 (fun _ _ => False) I5 (fpo I5 n5) st5 go) fun r s6 out => ?_
      obtain ⟨u, rfl, more⟩ := out
      refine thnF more fun _ s7 out7 => ?_
      obtain ⟨x, H7, I7, r7, y7, st7, n7⟩ := out7
      have I7' := I7.pinned (fpo I7 n7) (T.obj _ _ st7)
      refine thnF ((pgo sA HA _ _ fp).run _ s7 _ H7 x u _ I7' r7 (step x H7 y7)) fun _ s8 out8 => ?_
      obtain ⟨τ8, H8, I8, w8, q8⟩ := out8
      refine thnF ((pto sA HA _ _ fp).run _ s8 τ8 H8 _ I8 q8) fun b s9 out9 => ?_
      obtain ⟨H9, I9, q9⟩ := out9
      have onward : ∀ {s' : Shared} {H' : Hp}, L2.Inv Y ([] ++ pinsAt fp s7.heap) τ8 H' s' → Nx H' → ∃ m, m < n ∧ ∃ i H', L2.Inv Y [] (wipe τ (own.map (·.2))) H' s' ∧ tn i s'.heap ∧ (∀ b ∈ fp, H' b = none) ∧ W i m H' := fun {s' H'} I' nx => by
        obtain ⟨m', lt, w'⟩ := less H' nx
        have kept : ∀ b ∈ fp, ∀ o, s7.heap.get? b = some o → s'.heap.get? b = some o ∧ H' b = none := fun b hb o e => by
          have z := I'.pin (b, o) (List.mem_append_right _ (List.mem_append_right _ (mem_pinsAt hb e)))
          exact ⟨z.1, z.2.1⟩
        refine ⟨m', lt, i + 1, H', (I'.unpinned (pins := [])).weak (by rw [← w8, wipe_length]) (fun j v e => ?_), T.keep _ _ _ st7 fun b hb o e => (kept b hb o e).1, fun b hb => ?_, w'⟩
        · rw [← w8] at e
          exact (wipe_some e).1
        · obtain ⟨o, e, -⟩ := T.obj _ _ st7 b hb
          exact (kept b hb o e).2
      by_cases hb : b = true
      · rw [if_pos hb] at q9 ⊢
        refine thnF ((peo sA HA _ _ fp).run _ s9 τ8 H9 _ I9 q9) fun z s10 out10 => ?_
        obtain ⟨yv, H10, I10, r10, k, S, c, rfl, hD10, room, nx⟩ := out10
        exact add_key (X := Y) I10 hD10 room r10 fun s11 I11 => onward I11 nx
      · rw [if_neg hb] at q9 ⊢
        exact onward I9 q9
  exact codeAny_compStart_set around (T.self X.A 0 _ _ _ stB around)
end
end Hx
set_option maxHeartbeats 1000000
/-! ### a set of texts made by a walk, and how many they are -/
namespace Hx
open PySem PySem.Spec PyProof.Rows L2
def rLenK (P : Program) (w : World) : List V → Hp → VK → Prop := fun vs H Q => ∃ (a : Addr) (S : Key → Bool) (n : Nat), vs = [V.ref a] ∧ H a = some (SetK P w a S n) ∧ Q (.int n) H
theorem cr_lenK {X : Cx} : CallR X (.builtin "len") (rLenK X.prog X.w) := by
  intro pins s σ H vs us Q I r h
  obtain ⟨a, S, n, rfl, ha, q⟩ := h
  rw [Vals.ref1 r]
  obtain ⟨o, es, ep, t, ho, hx, hd, _, _, lt, fit, en⟩ := setK_get I ha
  have z := fits_of_scanBound lt
  refine call_len_set ho hx hd fit (by rw [sizeLine_eq] at z; omega) ?_
  rw [en]
  exact ⟨.int n, H, I.tok _, ⟨_, rfl⟩, q⟩
section
variable {P : Program} {w : World} {J : It} {g : TG} {te : TE} {vs : List Nat} {σ : L2.St} {H1 : Hp} {D : Addr} {Qd : Hp → Prop} {β : Type}
abbrev ScGoal (P : Program) (w : World) (J : It) (g : TG) (tt : TT) (te : TE) (vs : List Nat) (σ : L2.St) (H1 : Hp) (D : Addr) (Qd : Hp → Prop) : Prop :=
  ∃ W : Nat → Nat → Hp → Prop, (∃ m, W 0 m (upd H1 D (SetK P w D (fun _ => false) 0))) ∧ ∀ i m H, W i m H →
    (J.stop i H ∧ Qd H) ∨ (J.go i H ∧ ∃ Nx : Hp → Prop, (∀ H', Nx H' → ∃ m', m' < m ∧ W (i + 1) m' H') ∧ ∀ x H', J.yld i H x H' → g x (wipe σ vs) H' fun τ2 H2 => wipe τ2 vs = wipe σ vs ∧ tt τ2 H2 fun b H3 =>
      if b = true then te τ2 H3 fun y H4 => ∃ (k : Key) (S : Key → Bool) (n : Nat), y = kV k ∧ H4 D = some (SetK P w D S n) ∧ n + 1 < scanBound ∧ Nx (upd H4 D (SetK P w D (moreK S k) (cntK S k n))) else Nx H3)
/-- the members by what they are -/
theorem scK_each (ds : List β) (f : β → Str) (hn : H1 D = none) (hsz : ds.length + 1 < scanBound) (go : ∀ i H, i < ds.length → Same H1 H → J.go i H) (stop : ∀ H, Same H1 H → J.stop ds.length H)
    (turn : ∀ (i : Nat) (b : β) (x : V) (H H' : Hp) (F : VK), ds[i]? = some b → Same H1 H → J.yld i H x H' → (∀ H4, Same H H4 → F (.str (f b)) H4) → g x (wipe σ vs) H' fun σ2 H2 => wipe σ2 vs = wipe σ vs ∧ te σ2 H2 F)
    (hd : ∀ S n H, Same H1 H → H D = some (SetK P w D S n) → n ≤ ds.length → (n = ds.length ↔ (ds.map f).Nodup) → Qd H) : ScGoal P w J g tYes te vs σ H1 D Qd := by
  have s1 : ∀ {H : Hp} {o : HO}, Same H1 H → Same H1 (upd H D o) := fun s b u e => by
    rw [upd_ne (ne_of_none e hn)]
    exact s b u e
  let Pv : Nat → Hp → Prop := fun i H => ∃ S n, Same H1 H ∧ H D = some (SetK P w D S n) ∧ (∀ x : Str, S (.inr x) = decide (x ∈ (ds.take i).map f)) ∧ n ≤ i ∧ (n = i ↔ ((ds.take i).map f).Nodup)
  refine ⟨fun i m H => m = ds.length - i ∧ i ≤ ds.length ∧ Pv i H, ⟨_, rfl, Nat.zero_le _, fun _ => false, 0, s1 (Same.refl H1), upd_same, fun x => by simp, Nat.le_refl _, by simp⟩, ?_⟩
  rintro i m H ⟨rfl, hi, S, n, s, e, mem, le, nod⟩
  by_cases lt : i < ds.length
  · refine .inr ⟨go i H lt s, fun H' => Pv (i + 1) H', fun H' p => ⟨ds.length - (i + 1), by omega, rfl, lt, p⟩, fun x H' y => ?_⟩
    have eb := List.getElem?_eq_getElem lt
    generalize ds[i] = b at eb
    have et : (ds.take (i + 1)).map f = (ds.take i).map f ++ [f b] := by rw [List.take_succ, eb, List.map_append]; rfl
    unfold tYes
    simp only [↓reduceIte]
    refine turn i b x H H' _ eb s y fun H4 s4 => ⟨.inr (f b), S, n, rfl, s4 _ _ e, by omega, moreK S (.inr (f b)), cntK S (.inr (f b)) n, s1 (s.trans s4), upd_same, fun z => ?_, ?_, ?_⟩
    · show (S (.inr z) || decide ((.inr z : Key) = .inr (f b))) = _
      rw [mem z, et, Bool.eq_iff_iff, Bool.or_eq_true, decide_eq_true_eq, decide_eq_true_eq, decide_eq_true_eq, List.mem_append, List.mem_singleton]
      exact ⟨fun h => h.imp id Sum.inr.inj, fun h => h.imp id (congrArg Sum.inr)⟩
    · unfold cntK
      split <;> omega
    · unfold cntK
      rw [mem, et]
      by_cases old : f b ∈ (ds.take i).map f
      · rw [decide_eq_true old, if_pos rfl]
        constructor
        · intro z
          omega
        · intro z
          exact absurd rfl ((List.nodup_append.mp z).2.2 _ old _ List.mem_cons_self)
      · rw [decide_eq_false old, if_neg (by decide)]
        constructor
        · intro z
          refine List.nodup_append.mpr ⟨nod.mp (by omega), by simp, fun a ha c hc q => old ?_⟩
          rw [List.mem_singleton] at hc
          rw [← hc, ← q]
          exact ha
        · intro z
          have := nod.mpr (List.nodup_append.mp z).1
          omega
  · obtain rfl : i = ds.length := by omega
    rw [List.take_length] at nod
    exact .inl ⟨stop H s, hd S n H s e le nod⟩
end
end Hx
set_option maxHeartbeats 2000000
set_option exponentiation.threshold 10000
namespace K05
open PySem PySem.Spec PyProof.Rows L2 Hx RZ
/-! ### any data: names, numbers -/
section
variable {K : PySem.W.Frag} {H : Hp}
theorem dp_num {v : V} : ∀ {n : Num}, Dp K H v n.data → NumAt K H v n
  | .w i, h => by
    have h' : Dp K H v (.int i) := h
    cases h'
    rfl
  | .q t b, h => by
    have h' : Dp K H v (.tuple [.int t, .int b]) := h
    cases h' with
    | tup h1 h2 =>
      cases h2 with
      | cons a1 a2 =>
        cases a1
        cases a2 with
        | cons b1 b2 =>
          cases b1
          cases b2
          exact ⟨_, rfl, h1⟩
theorem dp_strs : ∀ {us : List V} {ns : List Str}, DpAll K H us (ns.map .str) → us = ns.map V.str
  | _, [], h => by
    have h' : DpAll K H _ [] := h
    cases h'
    rfl
  | _, x :: ns, h => by
    have h' : DpAll K H _ (.str x :: ns.map .str) := h
    cases h' with
    | cons a1 a2 =>
      cases a1
      rw [dp_strs a2]
      rfl
theorem dp_words {v : V} {ns : List Str} (h : Dp K H v (.tuple (ns.map .str))) : ∃ a, v = .ref a ∧ SqT K H a (ns.map V.str) := by
  cases h with
  | tup h1 h2 =>
    rw [dp_strs h2] at h1
    exact ⟨_, rfl, h1⟩
theorem dp_snoc : ∀ {us : List V} {ns : List Str} {d : PyData}, DpAll K H us (ns.map .str ++ [d]) → ∃ u, us = ns.map V.str ++ [u] ∧ Dp K H u d
  | _, [], d, h => by
    have h' : DpAll K H _ [d] := h
    cases h' with
    | cons a1 a2 =>
      cases a2
      exact ⟨_, rfl, a1⟩
  | _, x :: ns, d, h => by
    have h' : DpAll K H _ (.str x :: (ns.map .str ++ [d])) := h
    cases h' with
    | cons a1 a2 =>
      cases a1
      obtain ⟨u, e, q⟩ := dp_snoc a2
      rw [e]
      exact ⟨u, rfl, q⟩
theorem dp_raw {v : V} : ∀ {r : Raw}, Dp K H v r.data → RawAt K H v r
  | .flat ws n, h => by
    have h' : Dp K H v (.tuple (ws.map .str ++ [n.data])) := h
    cases h' with
    | tup h1 h2 =>
      obtain ⟨u, e, q⟩ := dp_snoc h2
      rw [e] at h1
      exact ⟨_, u, rfl, h1, dp_num q⟩
  | .hub ns n, h => by
    have h' : Dp K H v (.tuple [.str HUB, .tuple (ns.map .str), n.data]) := h
    cases h' with
    | tup h1 h2 =>
      cases h2 with
      | cons a1 a2 =>
        cases a1
        cases a2 with
        | cons b1 b2 =>
          obtain ⟨b, rfl, hb⟩ := dp_words b1
          cases b2 with
          | cons c1 c2 =>
            cases c2
            exact ⟨_, b, _, rfl, h1, hb, dp_num c1⟩
theorem dp_raws : ∀ {us : List V} {rs : List Raw}, DpAll K H us (rs.map Raw.data) → RawsAt K H us rs
  | _, [], h => by
    have h' : DpAll K H _ [] := h
    cases h'
    exact .nil
  | _, r :: rs, h => by
    have h' : DpAll K H _ (r.data :: rs.map Raw.data) := h
    cases h' with
    | cons a1 a2 => exact .cons (dp_raw a1) (dp_raws a2)
theorem dp_net {v : V} {ns : List Str} {rs : List Raw} (h : Dp K H v (netData ns rs)) : NetAt K H v ns rs := by
  have h' : Dp K H v (.tuple [.tuple (ns.map .str), .tuple (rs.map Raw.data)]) := h
  cases h' with
  | tup h1 h2 =>
    cases h2 with
    | cons a1 a2 =>
      obtain ⟨t, rfl, ht⟩ := dp_words a1
      cases a2 with
      | cons b1 b2 =>
        cases b2
        cases b1 with
        | tup c1 c2 => exact ⟨_, t, _, _, rfl, h1, ht, c1, dp_raws c2⟩
theorem dp_len : ∀ {us : List V} {ds : List PyData}, DpAll K H us ds → us.length = ds.length
  | _, _, .nil => rfl
  | _, _, .cons _ h => by rw [List.length_cons, List.length_cons, dp_len h]
end
theorem num_inj {n m : Num} (h : n.data = m.data) : n = m := by
  cases n with
  | w i =>
    cases m with
    | w j => cases h; rfl
    | q t b => cases h
  | q t b =>
    cases m with
    | w j => cases h
    | q t2 b2 => cases h; rfl
def bnd (n : Nat) : Nat := if n ≤ 10 then 19 else 1000
theorem bnd_up {n m : Nat} (l : n ≤ m) : bnd n ≤ bnd m := by
  unfold bnd
  split <;> split <;> omega
theorem bnd_le (n : Nat) : bnd n ≤ 1000 := by
  unfold bnd
  split <;> omega
theorem bnd_19 (n : Nat) : 19 ≤ bnd n := by
  unfold bnd
  split <;> omega
/-- data with bounds -/
inductive Fine : Nat → PyData → Prop
  | non (n : Nat) : Fine n .none
  | bl (n : Nat) (b : Bool) : Fine n (.bool b)
  | int (n : Nat) (i : Int) (h : i.natAbs < 2 ^ 1000) : Fine n (.int i)
  | str (n : Nat) (s : Str) (h : s.length ≤ 100000) (c : (PyData.str s).canLay0 = true) : Fine n (.str s)
  | lst (n : Nat) (ds : List PyData) (h : ∀ d ∈ ds, Fine n d) (l : ds.length ≤ bnd (n + 1)) : Fine (n + 1) (.list ds)
  | tup (n : Nat) (ds : List PyData) (h : ∀ d ∈ ds, Fine n d) (l : ds.length ≤ bnd (n + 1)) : Fine (n + 1) (.tuple ds)
theorem Fine.sh {n : Nat} {d : PyData} (h : Fine n d) : Sh n d := by
  induction h with
  | non n => exact ⟨rfl, by simp [PyData.depth]⟩
  | bl n b => exact ⟨rfl, by simp [PyData.depth]⟩
  | int n i h => exact (sh_int i).up (Nat.zero_le _)
  | str n s h c => exact ⟨c, by simp [PyData.depth]⟩
  | lst n ds h l ih => exact sh_list ih
  | tup n ds h l ih => exact sh_tup ih
theorem Fine.up {n m : Nat} {d : PyData} (h : Fine n d) (l : n ≤ m) : Fine m d := by
  induction h generalizing m with
  | non n => exact .non _
  | bl n b => exact .bl _ b
  | int n i h => exact .int _ i h
  | str n s h c => exact .str _ s h c
  | lst n ds h l2 ih =>
    cases m with
    | zero => omega
    | succ m => exact .lst m ds (fun d hd => ih d hd (by omega)) (Nat.le_trans l2 (bnd_up l))
  | tup n ds h l2 ih =>
    cases m with
    | zero => omega
    | succ m => exact .tup m ds (fun d hd => ih d hd (by omega)) (Nat.le_trans l2 (bnd_up l))
theorem Fine.tupl {n : Nat} {ds : List PyData} (h : Fine n (.tuple ds)) : ds.length ≤ 1000 ∧ ∀ d ∈ ds, Fine n d := by
  cases h with
  | tup n ds h l => exact ⟨Nat.le_trans l (bnd_le _), fun d hd => (h d hd).up (by omega)⟩
theorem Fine.tupS {n : Nat} {ds : List PyData} (h : Fine (n + 1) (.tuple ds)) : ds.length ≤ bnd (n + 1) ∧ ∀ d ∈ ds, Fine n d := by
  cases h with
  | tup n ds h l => exact ⟨l, h⟩
theorem Fine.name {n : Nat} {x : Str} (h : nameS x = true) : Fine n (.str x) := .str n x (by have := name_len h; omega) (name_ok h)
def nameD : PyData → Bool
  | .str x => nameS x
  | _ => false
/-- a number of a sort -/
def NumIs (p : Num → Bool) (d : PyData) : Prop := ∃ n : Num, d = n.data ∧ p n = true
theorem f_iff {p : Prop} (n : ¬ p) : false = true ↔ p := ⟨fun z => Bool.noConfusion z, fun z => absurd z n⟩
theorem t_iff {p : Prop} (n : p) : true = true ↔ p := ⟨fun _ => n, fun _ => rfl⟩
theorem num_flat {p : Num → Bool} {d : PyData} (h1 : isW d = false) (h2 : isTy (tagOf d) "tuple" = false) : ¬ NumIs p d := fun ⟨n, e, _⟩ => by
  subst e
  cases n with
  | w i => cases h1
  | q t b => cases h2
theorem num_lenD {p : Num → Bool} {ds : List PyData} (h : ds.length ≠ 2) : ¬ NumIs p (.tuple ds) := fun ⟨n, e, _⟩ => by
  cases n with
  | w i => cases e
  | q t b =>
    cases e
    exact h rfl
theorem isW_int {d : PyData} (h : isW d = true) : ∃ i, d = .int i := by
  cases d with
  | int i => exact ⟨i, rfl⟩
  | bool b => cases h
  | none => cases h
  | str s => cases h
  | list l => cases h
  | tuple l => cases h
  | dict l => cases h
theorem num_two {p : Num → Bool} {d1 d2 : PyData} (h : isW d1 = false ∨ isW d2 = false) : ¬ NumIs p (.tuple [d1, d2]) := fun ⟨n, e, _⟩ => by
  cases n with
  | w i => cases e
  | q t b =>
    cases e
    rcases h with h | h <;> cases h
theorem num_q {p : Num → Bool} {t b : Int} : NumIs p (.tuple [.int t, .int b]) ↔ p (.q t b) = true := by
  constructor
  · rintro ⟨n, e, h⟩
    cases n with
    | w i => cases e
    | q t b => cases e; exact h
  · exact fun h => ⟨.q t b, rfl, h⟩
theorem dp_two {K : PySem.W.Frag} {H : Hp} {us : List V} {d1 d2 : PyData} (h : DpAll K H us [d1, d2]) : ∃ u1 u2, us = [u1, u2] ∧ Dp K H u1 d1 ∧ Dp K H u2 d2 := by
  cases h with
  | cons a t =>
    cases t with
    | cons b t =>
      cases t
      exact ⟨_, _, rfl, a, b⟩
theorem two_of {α : Type} {l : List α} (h : l.length = 2) : ∃ a b, l = [a, b] := by
  match l, h with
  | [a, b], _ => exact ⟨a, b, rfl⟩
section
variable {P : Program} {w : World} {K : PySem.W.Frag} {mg : Str → Option Value} {base : Heap}
/-! ### names of any kind -/
def NameV (K : PySem.W.Frag) (H : Hp) (v : V) (b : Bool) : Prop := (∃ x : Str, v = .str x ∧ x.length ≤ 100000 ∧ b = nameS x) ∨ ∃ d, Dp K H v d ∧ isTy (tagOf d) "str" = false ∧ b = false
theorem NameV.same {H H' : Hp} {v : V} {b : Bool} (s : Same H H') : NameV K H v b → NameV K H' v b
  | .inl h => .inl h
  | .inr ⟨d, h1, h2, h3⟩ => .inr ⟨d, dp_same s h1, h2, h3⟩
def spNameX (K : PySem.W.Frag) : Sp := fun vs H Q _ => ∃ (v : V) (b : Bool), vs = [v] ∧ NameV K H v b ∧ ∀ H', Same H H' → Q (.bl b) H'
theorem ok_is_nameX (D : Dn K mg "is_name" sis_name) (h_isinstance : mg "isinstance" = none) (h_str : mg "str" = none) (h_len : mg "len" = none) (h_all : mg "all" = none) (c1 : ∃ t, mg "LETTERS" = some (.str LET t)) (c2 : ∃ t, mg "LETTERS_AND_DIGITS" = some (.str LED t)) (c3 : ∃ t, mg "LONGEST_NAME" = some (.int 8 t)) :
    Ok P w K mg base L2.CX0 1 "is_name" ["value"] (spNameX K) := by
  obtain ⟨_, gLETTERS⟩ := c1
  obtain ⟨_, gLETTERS_AND_DIGITS⟩ := c2
  obtain ⟨_, gLONGEST_NAME⟩ := c3
  refine Ok.mk0 D sc_is_name (fun vs H Q E h => ?_) (fun _ _ _ _ _ _ us hl => match us, hl with | [_], _ => rfl) (fun f cdv A outer s H vs Q E hr h => ?_)
  · obtain ⟨_, _, rfl, _⟩ := h
    rfl
  obtain ⟨v, b, rfl, hv, k⟩ := h
  have nd := sc_is_name.nd
  refine ⟨_, (pss_cons (ps_if (PW.pt (pw_or (pt_not (pt_val (pe_isD "str" rfl h_isinstance h_str (pv 0)))) (pw_or1 (pt_not (pt_chain op_le op_le pe_int (pe_callB call_len_str (by rfl) h_len (by decide +kernel) (pa_cons (pv 0) pa_nil)) (pe_glob (v := .int 8) rfl gLONGEST_NAME ⟨_, rfl⟩))))))
      (pss_one (ps_ret pe_bl))
      pss_nil)
    (pss_one (ps_ret (pe_and (pe_cmpR op_in_sign (pe_ix ix_str (pv 0) pe_int (fun _ _ => rfl)) (pe_glob (v := .str LET) rfl gLETTERS ⟨_, rfl⟩) (by rfl)) (pe_one (pe_callB (cr_all rfl) (by rfl) h_all (by decide +kernel) (pa_cons (pe_lc (own := [("sign", 1)]) (g := gName 1) (tt := tYes) rfl nd (pi_str (pv 0)) (blkOk_by (own := [("sign", 1)]) (N := ["value", "sign"]) (sc := defScope sis_name) (by decide +kernel)) (fun _ _ _ _ _ => pg_name (i := 1) nd rfl (Or.inl rfl)) (fun _ _ _ _ _ => pts_nil) (fun _ _ _ _ _ => (pe_cmpR op_in_sign (pv 1) (pe_glob (v := .str LED) rfl gLETTERS_AND_DIGITS ⟨_, rfl⟩) (by rfl)))) pa_nil))))))), ?_⟩
  rcases hv with ⟨x, rfl, hx, rfl⟩ | ⟨d, hd, ht, rfl⟩
  rotate_left
  · exact ⟨_, rfl, d, hd, false, congrArg V.bl ht, iteT (k H (Same.refl H))⟩
  refine ⟨_, rfl, .str x, .str x, true, rfl, ?_⟩
  refine iteF ?_
  have hsz : x.length ≤ sizeLine := by rw [sizeLine_eq]; omega
  have hcs : x.cps.toList.length = x.length := by simp [Str.length]
  have fal : nameS x = false → Q (.bl false) H := fun e => by
    have z := k H (Same.refl H)
    rw [e] at z
    exact z
  refine ⟨_, rfl, _, rfl, hsz, _, _, rfl, rfl, _, rfl, ?_⟩
  by_cases h1 : 1 ≤ (x.length : Int)
  · rw [decide_eq_true h1]
    refine iteT ⟨_, _, rfl, rfl, _, rfl, ?_⟩
    by_cases h8 : (x.length : Int) ≤ 8
    · rw [decide_eq_true h8]
      refine iteF ?_
      obtain ⟨c, r, hcr⟩ : ∃ c r, x.cps.toList = c :: r := by
        cases e : x.cps.toList with
        | nil => rw [e] at hcs; simp at hcs; omega
        | cons c r => exact ⟨c, r, rfl⟩
      have hnm : nameS x = (decide (c ∈ LET.cps.toList) && x.cps.toList.all fun c => decide (c ∈ LED.cps.toList)) := by
        unfold nameS
        rw [decide_eq_true (show 1 ≤ x.length by omega), decide_eq_true (show x.length ≤ 8 by omega), hcr]
        rfl
      refine ⟨_, rfl, x, 0, c, rfl, rfl, hsz, ?_, c, _, rfl, rfl, _, rfl, ?_⟩
      · have z := atI_nat (xs := x.cps.toList) (j := 0) (v := c) (by rw [hcr]; rfl)
        exact z
      by_cases hc : c ∈ LET.cps.toList
      · rw [decide_eq_true hc] at hnm ⊢
        refine iteT ⟨_, rfl, x, rfl, fun D hD => ?_⟩
        have n8 : x.cps.size ≤ 8 := by have := hcs; simp at this; omega
        refine lc_rel (n := x.cps.size) (J := Its x) (fun i y _ => (x.cps.toList.map fun c => decide (c ∈ LED.cps.toList))[i]?.map V.bl = some y) (fun _ _ _ _ _ h => h) hD (by rw [sizeLine_eq]; omega) (fun i H hi _ => hi) (fun H _ => Nat.le_refl _) ?_ ?_
        · rintro i y H1 H' F hi s1 ⟨rfl, c, hc, rfl⟩ kk
          refine ⟨rfl, _, rfl, c, _, rfl, rfl, kk _ _ ?_ (Same.refl _)⟩
          rw [List.getElem?_map, Array.getElem?_toList, hc]
          rfl
        · intro acc H1 s1 e hl hy
          have eb : acc = (x.cps.toList.map fun c => decide (c ∈ LED.cps.toList)).map V.bl := bools_of (by simp [hl]) hy
          subst eb
          refine ⟨D, _, rfl, SqL.of e, ?_⟩
          have z := k H1 s1
          rw [hnm, Bool.true_and] at z
          rw [List.all_map]
          exact z
      · rw [decide_eq_false hc] at hnm ⊢
        exact iteF (fal (by rw [hnm]; rfl))
    · rw [decide_eq_false h8]
      refine iteT (fal ?_)
      unfold nameS
      rw [decide_eq_false (show ¬ x.length ≤ 8 by omega)]
      simp
  · rw [decide_eq_false h1]
    refine iteF ⟨_, rfl, iteT (fal ?_)⟩
    unfold nameS
    rw [decide_eq_false (show ¬ 1 ≤ x.length by omega)]
    simp
theorem name_v {K : PySem.W.Frag} {H : Hp} {v : V} {n : Nat} {d : PyData} (h : Dp K H v d) (f : Fine n d) : NameV K H v (nameD d) := by
  cases h with
  | str x =>
    cases f with
    | str n x h c => exact .inl ⟨x, rfl, h, rfl⟩
  | non => exact .inr ⟨_, .non, rfl, rfl⟩
  | bl b => exact .inr ⟨_, .bl b, rfl, rfl⟩
  | int i => exact .inr ⟨_, .int i, rfl, rfl⟩
  | lst a b => exact .inr ⟨_, .lst a b, rfl, rfl⟩
  | tup a b => exact .inr ⟨_, .tup a b, rfl, rfl⟩
def spNumP (K : PySem.W.Frag) (p : Num → Bool) : Sp := fun vs H Q _ => ∃ (v : V) (d : PyData) (n : Nat), vs = [v] ∧ Dp K H v d ∧ Fine n d ∧ ∀ (b : Bool) H', Same H H' → (b = true ↔ NumIs p d) → Q (.bl b) H'
theorem ok_is_numberP (D : Dn K mg "is_number" sis_number) (B : Ok P w K mg base L2.CX0 1 "is_whole" ["value"] (spWhole K)) (h_isinstance : mg "isinstance" = none) (h_tuple : mg "tuple" = none) (h_len : mg "len" = none) (g_gcd : mg "gcd" = some (.builtin "math.gcd")) :
    Ok P w K mg base L2.CX0 2 "is_number" ["value"] (spNumP K Num.ok) := by
  obtain ⟨_, _, g_is_whole, k_is_whole, b_is_whole, F_is_whole⟩ := B.ex
  refine Ok.mk0 D sc_is_number (fun vs H Q E h => ?_) (fun _ _ _ _ _ _ us hl => match us, hl with | [_], _ => rfl) (fun f cdv A outer s H vs Q E hr h => ?_)
  · obtain ⟨v, _, _, rfl, _⟩ := h
    rfl
  obtain ⟨v, d, n, rfl, hv, fd, k⟩ := h
  have nd := sc_is_number.nd
  refine ⟨_, (pss_cons (ps_if (pt_val (pe_call F_is_whole hr rfl g_is_whole k_is_whole b_is_whole .nil pass0 (pa_cons (pv 0) pa_nil)))
      (pss_one (ps_ret pe_bl))
      pss_nil)
    (pss_cons (ps_if (PW.pt (pw_or (pt_not (pt_val (pe_isD "tuple" rfl h_isinstance h_tuple (pv 0)))) (pw_or1 (pt_cmpR op_ne (pe_lenS rfl h_len (pv 0)) pe_int (nomark _)))))
      (pss_one (ps_ret pe_bl))
      pss_nil)
    (pss_cons (ps_asg (pv 0) (pg_tup (by rfl) (pgs_cons (pg_name (i := 1) nd rfl (Or.inl rfl)) (pgs_cons (pg_name (i := 2) nd rfl (Or.inl rfl)) pgs_nil))))
    (pss_one (ps_ret (pe_and (pe_call F_is_whole hr rfl g_is_whole k_is_whole b_is_whole .nil pass0 (pa_cons (pv 1) pa_nil)) (pe_and (pe_call F_is_whole hr rfl g_is_whole k_is_whole b_is_whole .nil pass0 (pa_cons (pv 2) pa_nil)) (pe_and (pe_cmpR op_ge (pv 2) pe_int (nomark _)) (pe_one (pe_cmpR op_eq (pe_callBfun cr_gcd (by rfl) g_gcd (pa_cons (pv 1) (pa_cons (pv 2) pa_nil))) pe_int (nomark _))))))))))), ?_⟩
  refine ⟨_, rfl, v, d, rfl, hv, _, rfl, ?_⟩
  cases hw : isW d with
  | true =>
    obtain ⟨i, rfl⟩ := isW_int hw
    exact iteT (k true H (Same.refl H) (t_iff ⟨.w i, rfl, rfl⟩))
  | false =>
    refine iteF ⟨_, rfl, d, hv, _, rfl, ?_⟩
    cases ht : isTy (tagOf d) "tuple" with
    | false => exact iteT (iteT (k false H (Same.refl H) (f_iff (num_flat hw ht))))
    | true =>
      refine iteF ?_
      cases hv with
      | non => cases ht
      | bl b => cases ht
      | int i => cases ht
      | str x => cases ht
      | lst a b => cases ht
      | @tup a us ds ha hds =>
        have ul : us.length = ds.length := dp_len hds
        refine ⟨_, rfl, a, _, rfl, .inr ha, rfl, _, rfl, ?_⟩
        by_cases l2 : ds.length = 2
        rotate_left
        · refine iteE ?_ (k false H (Same.refl H) (f_iff (num_lenD l2)))
          rw [decide_eq_false (fun z => l2 (by have := V.int.inj z; omega))]
          rfl
        refine iteG (by rw [decide_eq_true (by rw [ul, l2]; rfl)]; rfl) ?_
        obtain ⟨d1, d2, rfl⟩ := two_of l2
        obtain ⟨u1, u2, rfl, h1, h2⟩ := dp_two hds
        refine ⟨_, rfl, a, _, rfl, ha, rfl, _, _, rfl, _, _, rfl, rfl, ?_⟩
        refine ⟨_, rfl, u1, d1, rfl, h1, _, rfl, ?_⟩
        cases w1 : isW d1 with
        | false => exact iteF (k false H (Same.refl H) (f_iff (num_two (.inl w1))))
        | true =>
          refine iteT ⟨_, rfl, u2, d2, rfl, h2, _, rfl, ?_⟩
          cases w2 : isW d2 with
          | false => exact iteF (k false H (Same.refl H) (f_iff (num_two (.inr w2))))
          | true =>
            obtain ⟨t, rfl⟩ := isW_int w1
            obtain ⟨b, rfl⟩ := isW_int w2
            cases h1
            cases h2
            refine iteT ⟨_, rfl, _, _, rfl, rfl, _, rfl, ?_⟩
            have ek : Num.ok (.q t b) = (decide (2 ≤ b) && decide ((Nat.gcd t.natAbs b.natAbs : Int) = 1)) := rfl
            have z : ∀ bb, bb = Num.ok (.q t b) → Q (.bl bb) H := fun bb e => k bb H (Same.refl H) (by rw [e]; exact num_q.symm)
            by_cases h2 : 2 ≤ b
            · rw [decide_eq_true h2] at ek ⊢
              rw [Bool.true_and, ← deq_int] at ek
              refine iteT ⟨_, rfl, _, rfl, t, b, rfl, rfl, z _ ek.symm⟩
            · rw [decide_eq_false h2] at ek ⊢
              exact iteF (z _ ek.symm)
theorem ok_is_number_from_0P (D : Dn K mg "is_number_from_0" sis_number_from_0) (B1 : Ok P w K mg base L2.CX0 2 "is_number" ["value"] (spNumP K Num.ok)) (B2 : Ok P w K mg base L2.CX0 1 "top_of" ["value"] (spTop K Num.top)) : Ok P w K mg base L2.CX0 3 "is_number_from_0" ["value"] (spNumP K Num.ok0) := by
  obtain ⟨_, _, g_is_number, k_is_number, b_is_number, F_is_number⟩ := B1.ex
  obtain ⟨_, _, g_top_of, k_top_of, b_top_of, F_top_of⟩ := B2.ex
  refine Ok.mk0 D sc_is_number_from_0 (fun vs H Q E h => ?_) (fun _ _ _ _ _ _ us hl => match us, hl with | [_], _ => rfl) (fun f cdv A outer s H vs Q E hr h => ?_)
  · obtain ⟨x, _, _, rfl, _⟩ := h
    rfl
  obtain ⟨v, d, n, rfl, hv, fd, k⟩ := h
  refine ⟨_, (pss_one (ps_ret (pe_and (pe_call F_is_number hr rfl g_is_number k_is_number b_is_number .nil pass0 (pa_cons (pv 0) pa_nil)) (pe_one (pe_cmpR op_ge (pe_call F_top_of (hr.mono (by decide)) rfl g_top_of k_top_of b_top_of .nil pass0 (pa_cons (pv 0) pa_nil)) pe_int (nomark _)))))), ?_⟩
  refine ⟨_, rfl, v, d, n, rfl, hv, fd, fun b H1 s1 hb => ⟨_, rfl, ?_⟩⟩
  cases b with
  | false =>
    refine iteF (k false H1 s1 (f_iff fun ⟨m, e, h0⟩ => ?_))
    have : m.ok = true := by
      unfold Num.ok0 at h0
      rw [Bool.and_eq_true] at h0
      exact h0.1
    exact Bool.noConfusion (hb.mpr ⟨m, e, this⟩)
  | true =>
    obtain ⟨m, rfl, hm⟩ := hb.mp rfl
    have hn := dp_num (dp_same s1 hv)
    refine iteT ⟨_, rfl, v, m, rfl, hn, _, _, rfl, rfl, ?_⟩
    refine k _ H1 s1 ?_
    rw [decide_eq_true_eq]
    constructor
    · intro h
      refine ⟨m, rfl, ?_⟩
      unfold Num.ok0
      rw [hm, Bool.true_and]
      exact decide_eq_true h
    · rintro ⟨m', e, h0⟩
      have e2 : m' = m := num_inj e.symm
      subst e2
      unfold Num.ok0 at h0
      rw [Bool.and_eq_true] at h0
      exact of_decide_eq_true h0.2
end
end K05
set_option maxHeartbeats 2000000
set_option exponentiation.threshold 10000
namespace K05
open PySem PySem.Spec PyProof.Rows L2 Hx RZ
/-! ### any data: ascending names, taps, parts, nets -/
def NamesP (p : List Str → Bool) (d : PyData) : Prop := ∃ ns : List Str, d = .tuple (ns.map .str) ∧ p ns = true
def PartP (d : PyData) : Prop := ∃ r : Raw, d = r.data ∧ Right r
structure NetR (taps : List Str) (rs : List Raw) : Prop where
  tp : tapsS taps = true
  right : ∀ r ∈ rs, Right r
  few : rs.length ≤ 200
  mix : mixS rs = false
  places : ∀ ys, Places ys (allEnds taps rs) → ys.length ≤ 40
def NetP (d : PyData) : Prop := ∃ taps rs, d = netData taps rs ∧ NetR taps rs
theorem notup_names {p : List Str → Bool} {d : PyData} (h : isTy (tagOf d) "tuple" = false) : ¬ NamesP p d := fun ⟨ns, e, _⟩ => by
  subst e
  cases h
theorem strs_inj {ns ms : List Str} (h : ns.map PyData.str = ms.map PyData.str) : ns = ms := (List.map_inj_right (fun _ _ e => PyData.str.inj e)).mp h
theorem names_all_of : ∀ {ds : List PyData}, ds.all nameD = true → ∃ ns : List Str, ds = ns.map .str ∧ ns.all nameS = true
  | [], _ => ⟨[], rfl, rfl⟩
  | d :: ds, h => by
    rw [List.all_cons, Bool.and_eq_true] at h
    obtain ⟨ns, rfl, h2⟩ := names_all_of h.2
    cases d with
    | str x => exact ⟨x :: ns, rfl, by rw [List.all_cons, h2, Bool.and_true]; exact h.1⟩
    | none => cases h.1
    | bool b => cases h.1
    | int i => cases h.1
    | list l => cases h.1
    | tuple l => cases h.1
    | dict l => cases h.1
theorem all_names {ns : List Str} : (ns.map PyData.str).all nameD = ns.all nameS := by
  rw [List.all_map]
  rfl
theorem dpAll_get {K : PySem.W.Frag} {H : Hp} : ∀ {us : List V} {ds : List PyData} {i : Nat} {v : V}, DpAll K H us ds → us[i]? = some v → ∃ d, ds[i]? = some d ∧ Dp K H v d
  | _, _, 0, _, .cons h _, e => by cases e; exact ⟨_, rfl, h⟩
  | _, _, i + 1, _, .cons _ t, e => dpAll_get (i := i) t e
theorem dpAll_at {K : PySem.W.Frag} {H : Hp} : ∀ {us : List V} {ds : List PyData} {i : Nat} {d : PyData}, DpAll K H us ds → ds[i]? = some d → ∃ v, us[i]? = some v ∧ Dp K H v d
  | _, _, 0, _, .cons h _, e => by cases e; exact ⟨_, rfl, h⟩
  | _, _, i + 1, _, .cons _ t, e => dpAll_at (i := i) t e
section
variable {P : Program} {w : World} {K : PySem.W.Frag} {mg : Str → Option Value} {base : Heap}
def spData (K : PySem.W.Frag) (p : PyData → Prop) : Sp := fun vs H Q _ => ∃ (v : V) (d : PyData) (n : Nat), vs = [v] ∧ Dp K H v d ∧ Fine n d ∧ n ≤ 40 ∧ ∀ (b : Bool) H', Same H H' → (b = true ↔ p d) → Q (.bl b) H'
theorem ok_are_namesP (D : Dn K mg "are_names" sare_names) (B : Ok P w K mg base L2.CX0 1 "is_name" ["value"] (spNameX K)) (h_isinstance : mg "isinstance" = none) (h_tuple : mg "tuple" = none) (h_all : mg "all" = none) (h_zip : mg "zip" = none) :
    Ok P w K mg base L2.CX0 2 "are_names" ["value"] (spData K (NamesP namesS)) := by
  obtain ⟨_, _, g_is_name, k_is_name, b_is_name, F_is_name⟩ := B.ex
  refine Ok.mk0 D sc_are_names (fun vs H Q E h => ?_) (fun _ _ _ _ _ _ us hl => match us, hl with | [_], _ => rfl) (fun f cdv A outer s H vs Q E hr h => ?_)
  · obtain ⟨x, _, _, rfl, _⟩ := h
    rfl
  obtain ⟨v, d, n, rfl, hv, fd, n40, k⟩ := h
  have nd := sc_are_names.nd
  refine ⟨_, (pss_cons (ps_if (PW.pt (pw_or (pt_not (pt_val (pe_isD "tuple" rfl h_isinstance h_tuple (pv 0)))) (pw_or1 (pt_not (pt_val (pe_callB (cr_all rfl) (by rfl) h_all (by decide +kernel) (pa_cons (pe_lc (own := [("name", 1)]) (g := gName 1) (tt := tYes) rfl nd (pi_tup (pv 0)) (blkOk_by (own := [("name", 1)]) (N := ["value", "name", "one", "other"]) (sc := defScope sare_names) (by decide +kernel)) (fun _ _ _ _ _ => pg_name (i := 1) nd rfl (Or.inl rfl)) (fun _ _ _ _ _ => pts_nil) (fun _ _ _ _ _ => (pe_call F_is_name hr rfl g_is_name k_is_name b_is_name .nil pass0 (pa_cons (pv 1) pa_nil)))) pa_nil)))))))
      (pss_one (ps_ret pe_bl))
      pss_nil)
    (pss_one (ps_ret (pe_callB (cr_all rfl) (by rfl) h_all (by decide +kernel) (pa_cons (pe_lc (own := [("one", 2), ("other", 3)]) (g := gTup K 2 (gCons (gName 2) (gCons (gName 3) gNil))) (tt := tYes) rfl nd (pi_zipA (by rfl) h_zip (pa_cons (pv 0) (pa_cons (pe_slice sl_tupA (pv 0) (po_some pe_int) po_none) pa_nil))) (blkOk_by (own := [("one", 2), ("other", 3)]) (N := ["value", "name", "one", "other"]) (sc := defScope sare_names) (by decide +kernel)) (fun _ _ _ _ _ => pg_tup (by rfl) (pgs_cons (pg_name (i := 2) nd rfl (Or.inl rfl)) (pgs_cons (pg_name (i := 3) nd rfl (Or.inl rfl)) pgs_nil))) (fun _ _ _ _ _ => pts_nil) (fun _ _ _ _ _ => (pe_cmpR op_lt_str (pv 2) (pv 3) (nomark _)))) pa_nil))))), ?_⟩
  refine ⟨_, rfl, d, hv, _, rfl, ?_⟩
  cases ht : isTy (tagOf d) "tuple" with
  | false => exact iteT (iteT (k false H (Same.refl H) (f_iff (notup_names ht))))
  | true =>
    refine iteF ?_
    cases hv with
    | non => cases ht
    | bl b => cases ht
    | int i => cases ht
    | str x => cases ht
    | lst a b => cases ht
    | @tup a us ds ha hds =>
      obtain ⟨dl, fds⟩ := fd.tupl
      have ul : us.length = ds.length := dp_len hds
      refine ⟨_, rfl, a, rfl, ⟨_, ha⟩, fun L hL => ?_⟩
      refine lc_rel (n := ds.length) (J := Itt K a) (fun i y _ => (ds.map nameD)[i]?.map V.bl = some y) (fun _ _ _ _ _ h => h) hL (by rw [sizeLine_eq]; omega) (fun i H1 hi s1 => ⟨_, _, same_seqT s1 ha, List.getElem?_eq_getElem (by omega)⟩) (fun H1 s1 => ⟨_, same_seqT s1 ha, by omega⟩) ?_ ?_
      · rintro i y H1 H' F hi s1 ⟨rfl, yx⟩ kk
        have e := yx _ (same_seqT s1 ha)
        obtain ⟨dd, hd, hy⟩ := dpAll_get hds e
        refine ⟨rfl, y, rfl, y, nameD dd, rfl, name_v (dp_same s1 hy) (fds dd (List.mem_of_getElem? hd)), fun H4 s4 => kk _ _ ?_ s4⟩
        rw [List.getElem?_map, hd]
        rfl
      · intro acc H1 s1 e hacc hy
        have eb : acc = (ds.map nameD).map V.bl := bools_of (by simp [hacc]) hy
        subst eb
        refine ⟨L, _, rfl, SqL.of e, _, rfl, ?_⟩
        have ea : (ds.map nameD).all id = ds.all nameD := by rw [List.all_map]; rfl
        rw [ea]
        cases hall : ds.all nameD with
        | false =>
          refine iteT (k false H1 s1 (f_iff fun ⟨ns, en, h2⟩ => ?_))
          rw [PyData.tuple.inj en, all_names] at hall
          unfold namesS at h2
          rw [hall] at h2
          cases h2
        | true =>
          obtain ⟨ns, rfl, nall⟩ := names_all_of hall
          obtain rfl := dp_strs hds
          have hl : ns.length ≤ 1000 := by simpa using dl
          refine iteF ?_
          refine ⟨_, rfl, _, rfl, _, rfl, ?_⟩
          show tNoPart _ _ _
          unfold tNoPart
          refine rSlA_any (same_seqT s1 ha) (cut_from 1) fun b H2 s2 hb => ?_
          rw [← List.map_drop] at hb
          refine ⟨a, b, _, _, rfl, .inr ⟨same_seqT (s1.trans s2) ha, hb, fun Z hZ => ?_⟩⟩
          refine lc_zip (same_seqT (s1.trans s2) ha) hb (by simp) (by rw [sizeLine_eq]; simp; omega) (fun i y _ => (((ns.zip (ns.drop 1)).map fun p => decide (p.1.cps.toList < p.2.cps.toList))[i]?.map V.bl) = some y) (fun _ _ _ _ _ h => h) hZ ?_ ?_
          · intro i x y T H3 H4 F hx hy s3 s4 hT kk
            obtain ⟨x, ex, rfl⟩ := strs_at hx
            obtain ⟨y, ey, rfl⟩ := strs_at hy
            refine ⟨T, _, rfl, SqT.of hT, rfl, _, _, rfl, _, _, rfl, ⟨rfl, rfl, _, rfl, _, rfl, _, _, rfl, rfl, ?_⟩⟩
            refine kk _ _ ?_ s4
            rw [List.getElem?_map, List.getElem?_zip_eq_some (z := (x, y)) |>.mpr ⟨ex, ey⟩]
            rfl
          · intro acc H3 s3 e3 hl3 hy3
            have eb : acc = ((ns.zip (ns.drop 1)).map fun p => decide (p.1.cps.toList < p.2.cps.toList)).map V.bl := bools_of (by simp [hl3]) hy3
            subst eb
            refine ⟨Z, _, rfl, SqL.of e3, ?_⟩
            have er : namesS ns = riseS ns := by unfold namesS; rw [nall, Bool.true_and]
            have ez : (((ns.zip (ns.drop 1)).map fun p => decide (p.1.cps.toList < p.2.cps.toList)).all id) = namesS ns := by
              rw [er, List.all_map]
              rfl
            rw [ez]
            refine k _ H3 (s1.trans (s2.trans s3)) ⟨fun z => ⟨ns, rfl, z⟩, fun ⟨ms, em, z⟩ => ?_⟩
            rw [strs_inj (PyData.tuple.inj em)]
            exact z
theorem ok_are_tapsP (D : Dn K mg "are_taps" sare_taps) (B : Ok P w K mg base L2.CX0 2 "are_names" ["value"] (spData K (NamesP namesS))) (h_len : mg "len" = none) (c1 : ∃ t, mg "FEWEST_TAPS" = some (.int 2 t)) (c2 : ∃ t, mg "MOST_TAPS" = some (.int 6 t)) :
    Ok P w K mg base L2.CX0 3 "are_taps" ["value"] (spData K (NamesP tapsS)) := by
  obtain ⟨_, gFEWEST_TAPS⟩ := c1
  obtain ⟨_, gMOST_TAPS⟩ := c2
  obtain ⟨_, _, g_are_names, k_are_names, b_are_names, F_are_names⟩ := B.ex
  refine Ok.mk0 D sc_are_taps (fun vs H Q E h => ?_) (fun _ _ _ _ _ _ us hl => match us, hl with | [_], _ => rfl) (fun f cdv A outer s H vs Q E hr h => ?_)
  · obtain ⟨x, _, _, rfl, _⟩ := h
    rfl
  obtain ⟨v, d, n, rfl, hv, fd, n40, k⟩ := h
  refine ⟨_, (pss_one (ps_ret (pe_and (pe_call F_are_names hr rfl g_are_names k_are_names b_are_names .nil pass0 (pa_cons (pv 0) pa_nil)) (pe_one (pe_chain op_le op_le (pe_glob (v := .int 2) rfl gFEWEST_TAPS ⟨_, rfl⟩) (pe_lenS rfl h_len (pv 0)) (pe_glob (v := .int 6) rfl gMOST_TAPS ⟨_, rfl⟩)))))), ?_⟩
  refine ⟨_, rfl, v, d, n, rfl, hv, fd, n40, fun b H1 s1 hb => ⟨_, rfl, ?_⟩⟩
  cases b with
  | false =>
    refine iteF (k false H1 s1 (f_iff fun ⟨ns, e, h⟩ => ?_))
    unfold tapsS at h
    rw [Bool.and_eq_true] at h
    exact Bool.noConfusion (hb.mpr ⟨ns, e, h.1⟩)
  | true =>
    obtain ⟨ns, rfl, hn⟩ := hb.mp rfl
    obtain ⟨a, rfl, ha⟩ := dp_words hv
    refine iteT ⟨_, rfl, a, _, rfl, .inr (same_seqT s1 ha), _, _, rfl, rfl, _, rfl, ?_⟩
    rw [List.length_map]
    have fin : ∀ bb : Bool, bb = (decide (2 ≤ ns.length) && decide (ns.length ≤ 6)) → Q (.bl bb) H1 := fun bb e => by
      refine k bb H1 s1 ⟨fun z => ⟨ns, rfl, ?_⟩, fun ⟨ms, em, z⟩ => ?_⟩
      · unfold tapsS
        rw [hn, Bool.true_and, ← e, z]
      · have e3 := strs_inj (PyData.tuple.inj em)
        rw [← e3] at z
        unfold tapsS at z
        rw [Bool.and_eq_true] at z
        rw [e]
        exact z.2
    by_cases h2 : 2 ≤ ns.length
    · rw [show decide (2 ≤ (ns.length : Int)) = true from decide_eq_true (by omega)]
      refine iteT ⟨_, _, rfl, rfl, ?_⟩
      refine fin _ ?_
      rw [decide_eq_true h2, Bool.true_and, ← dle]
      rfl
    · rw [show decide (2 ≤ (ns.length : Int)) = false from decide_eq_false (by omega)]
      exact iteF (fin _ (by rw [decide_eq_false h2]; rfl))
end
end K05
set_option maxHeartbeats 2000000
set_option exponentiation.threshold 10000
namespace K05
open PySem PySem.Spec PyProof.Rows L2 Hx RZ
/-! ### any data: parts -/
def isS : PyData → Str → Bool
  | .str x, s => decide (x = s)
  | _, _ => false
theorem eqv_str {d : PyData} {s : Str} : PyData.eqv d (.str s) = isS d s := by
  cases d with
  | str x =>
    show (x == s) = decide (x = s)
    rw [Bool.eq_iff_iff]; rw [decide_eq_true_eq]
    exact beq_iff_eq
  | none => rfl
  | bool b => rfl
  | int i => rfl
  | list l => rfl
  | tuple l => rfl
  | dict l => rfl
theorem isS_iff {d : PyData} {s : Str} : isS d s = true ↔ d = .str s := by
  cases d with
  | str x => exact ⟨fun h => congrArg PyData.str (of_decide_eq_true h), fun h => decide_eq_true (PyData.str.inj h)⟩
  | none => exact ⟨fun h => (by cases h), fun h => (by cases h)⟩
  | bool b => exact ⟨fun h => (by cases h), fun h => (by cases h)⟩
  | int i => exact ⟨fun h => (by cases h), fun h => (by cases h)⟩
  | list l => exact ⟨fun h => (by cases h), fun h => (by cases h)⟩
  | tuple l => exact ⟨fun h => (by cases h), fun h => (by cases h)⟩
  | dict l => exact ⟨fun h => (by cases h), fun h => (by cases h)⟩
theorem isS_no {d : PyData} {s : Str} (h : d ≠ .str s) : isS d s = false := Bool.eq_false_iff.mpr fun z => h (isS_iff.mp z)
theorem isS_or (d : PyData) (s : Str) : (isS d s = true ∧ d = .str s) ∨ (isS d s = false ∧ d ≠ .str s) := by
  cases e : isS d s with
  | true => exact .inl ⟨rfl, isS_iff.mp e⟩
  | false => exact .inr ⟨rfl, fun h => by rw [isS_iff.mpr h] at e; cases e⟩
theorem nameD_str {d : PyData} (h : nameD d = true) : ∃ x, d = .str x ∧ nameS x = true := by
  cases d with
  | str x => exact ⟨x, rfl, h⟩
  | none => cases h
  | bool b => cases h
  | int i => cases h
  | list l => cases h
  | tuple l => cases h
  | dict l => cases h
theorem notup_part {d : PyData} (h : isTy (tagOf d) "tuple" = false) : ¬ PartP d := fun ⟨r, e, R⟩ => by
  subst e
  cases R <;> cases h
theorem part_lenD {ds : List PyData} (h3 : ds.length ≠ 3) (h4 : ds.length ≠ 4) : ¬ PartP (.tuple ds) := fun ⟨r, e, R⟩ => by
  cases R with
  | two k x y n _ _ _ _ =>
    have e2 : ds = [.str k, .str x, .str y, n.data] := PyData.tuple.inj e
    rw [e2] at h4
    exact h4 rfl
  | hub ns n _ _ _ =>
    have e2 : ds = [.str HUB, .tuple (ns.map .str), n.data] := PyData.tuple.inj e
    rw [e2] at h3
    exact h3 rfl
theorem part3 {d0 d1 d2 : PyData} : PartP (.tuple [d0, d1, d2]) ↔ d0 = .str HUB ∧ (∃ ns : List Str, d1 = .tuple (ns.map .str) ∧ namesS ns = true ∧ 2 ≤ ns.length) ∧ NumIs Num.ok0 d2 := by
  constructor
  · rintro ⟨r, e, R⟩
    cases R with
    | two k x y n _ _ _ _ =>
      have e2 : [d0, d1, d2] = [.str k, .str x, .str y, n.data] := PyData.tuple.inj e
      cases e2
    | hub ns n h1 h2 h3 =>
      have e2 : [d0, d1, d2] = [.str HUB, .tuple (ns.map .str), n.data] := PyData.tuple.inj e
      cases e2
      exact ⟨rfl, ⟨ns, rfl, h1, h2⟩, n, rfl, h3⟩
  · rintro ⟨rfl, ⟨ns, rfl, h1, h2⟩, n, rfl, h3⟩
    exact ⟨.hub ns n, rfl, .hub ns n h1 h2 h3⟩
theorem part4 {d0 d1 d2 d3 : PyData} : PartP (.tuple [d0, d1, d2, d3]) ↔ ∃ x y : Str, d1 = .str x ∧ d2 = .str y ∧ nameS x = true ∧ nameS y = true ∧ ((d0 = .str PIPE ∧ x.cps.toList < y.cps.toList) ∨ (d0 = .str LEAD ∧ x ≠ y)) ∧ NumIs Num.ok0 d3 := by
  constructor
  · rintro ⟨r, e, R⟩
    cases R with
    | two k x y n h1 h2 hk h3 =>
      have e2 : [d0, d1, d2, d3] = [.str k, .str x, .str y, n.data] := PyData.tuple.inj e
      cases e2
      refine ⟨x, y, rfl, rfl, h1, h2, ?_, n, rfl, h3⟩
      rcases hk with ⟨rfl, l⟩ | ⟨rfl, l⟩
      · exact .inl ⟨rfl, l⟩
      · exact .inr ⟨rfl, l⟩
    | hub ns n h1 h2 h3 =>
      have e2 : [d0, d1, d2, d3] = [.str HUB, .tuple (ns.map .str), n.data] := PyData.tuple.inj e
      cases e2
  · rintro ⟨x, y, rfl, rfl, h1, h2, hk, n, rfl, h3⟩
    rcases hk with ⟨rfl, l⟩ | ⟨rfl, l⟩
    · exact ⟨.flat [PIPE, x, y] n, rfl, .two PIPE x y n h1 h2 (.inl ⟨rfl, l⟩) h3⟩
    · exact ⟨.flat [LEAD, x, y] n, rfl, .two LEAD x y n h1 h2 (.inr ⟨rfl, l⟩) h3⟩
theorem inV_34 {n : Nat} : inV (.int (n : Int)) [.int 3, .int 4] = (decide (n = 3) || decide (n = 4)) := by
  unfold inV
  have e : ∀ m : Nat, eqV (.int (m : Int)) (.int (n : Int)) = decide (n = m) := fun m => by
    show ((m : Int) == (n : Int)) = _
    rw [Bool.eq_iff_iff, decide_eq_true_eq, beq_iff_eq]
    omega
  have e3 := e 3
  have e4 := e 4
  simp only [List.any_cons, List.any_nil, Bool.or_false]
  rw [show (3 : Int) = ((3 : Nat) : Int) by rfl, show (4 : Int) = ((4 : Nat) : Int) by rfl, e3, e4]
theorem three_of {α : Type} {l : List α} (h : l.length = 3) : ∃ a b c, l = [a, b, c] := by
  match l, h with
  | [a, b, c], _ => exact ⟨a, b, c, rfl⟩
theorem four_of {α : Type} {l : List α} (h : l.length = 4) : ∃ a b c d, l = [a, b, c, d] := by
  match l, h with
  | [a, b, c, d], _ => exact ⟨a, b, c, d, rfl⟩
theorem dp_three {K : PySem.W.Frag} {H : Hp} {us : List V} {d1 d2 d3 : PyData} (h : DpAll K H us [d1, d2, d3]) : ∃ u1 u2 u3, us = [u1, u2, u3] ∧ Dp K H u1 d1 ∧ Dp K H u2 d2 ∧ Dp K H u3 d3 := by
  cases h with
  | cons a t =>
    obtain ⟨u2, u3, rfl, b, c⟩ := dp_two t
    exact ⟨_, _, _, rfl, a, b, c⟩
theorem dp_four {K : PySem.W.Frag} {H : Hp} {us : List V} {d1 d2 d3 d4 : PyData} (h : DpAll K H us [d1, d2, d3, d4]) : ∃ u1 u2 u3 u4, us = [u1, u2, u3, u4] ∧ Dp K H u1 d1 ∧ Dp K H u2 d2 ∧ Dp K H u3 d3 ∧ Dp K H u4 d4 := by
  cases h with
  | cons a t =>
    obtain ⟨u2, u3, u4, rfl, b, c, e⟩ := dp_three t
    exact ⟨_, _, _, _, rfl, a, b, c, e⟩
theorem lit_sh {s : Str} (h : (PyData.str s).canLay0 = true) : SeqAt.shaped (.str s) = true := (show Sh 0 (.str s) from ⟨h, by simp [PyData.depth]⟩).shaped (by decide)
section
variable {P : Program} {w : World} {K : PySem.W.Frag} {mg : Str → Option Value} {base : Heap}
theorem ok_is_partP (D : Dn K mg "is_part" sis_part) (B0 : Ok P w K mg base L2.CX0 3 "is_number_from_0" ["value"] (spNumP K Num.ok0)) (B1 : Ok P w K mg base L2.CX0 2 "are_names" ["value"] (spData K (NamesP namesS))) (B2 : Ok P w K mg base L2.CX0 1 "is_name" ["value"] (spNameX K))
    (h_isinstance : mg "isinstance" = none) (h_tuple : mg "tuple" = none) (h_len : mg "len" = none) : Ok P w K mg base L2.CX0 4 "is_part" ["value"] (spData K PartP) := by
  obtain ⟨_, _, g_is_number_from_0, k_is_number_from_0, b_is_number_from_0, F_is_number_from_0⟩ := B0.ex
  obtain ⟨_, _, g_are_names, k_are_names, b_are_names, F_are_names⟩ := B1.ex
  obtain ⟨_, _, g_is_name, k_is_name, b_is_name, F_is_name⟩ := B2.ex
  refine Ok.mk0 D sc_is_part (fun vs H Q E h => ?_) (fun _ _ _ _ _ _ us hl => match us, hl with | [_], _ => rfl) (fun f cdv A outer s H vs Q E hr h => ?_)
  · obtain ⟨x, _, _, rfl, _⟩ := h
    rfl
  obtain ⟨v, d, n, rfl, hv, fd, n40, k⟩ := h
  have nd := sc_is_part.nd
  have hu64 := hr.units
  have hr2 := hr.mono (show 2 ≤ 3 by decide)
  have hr1 := hr.mono (show 1 ≤ 3 by decide)
  refine ⟨_, (pss_cons (ps_if (PW.pt (pw_or (pt_not (pt_val (pe_isD "tuple" rfl h_isinstance h_tuple (pv 0)))) (pw_or (pt_cmpR op_notIn_seq (pe_lenS rfl h_len (pv 0)) (pe_tup (pa_cons pe_int (pa_cons pe_int pa_nil))) (by rfl)) (pw_or1 (pt_not (pt_val (pe_call F_is_number_from_0 hr rfl g_is_number_from_0 k_is_number_from_0 b_is_number_from_0 .nil pass0 (pa_cons (pe_ix ix_tup (pv 0) (pe_un un_neg pe_int) (fun _ _ => rfl)) pa_nil))))))))
      (pss_one (ps_ret pe_bl))
      pss_nil)
    (pss_cons (ps_if (pt_cmpR op_eq (pe_lenS rfl h_len (pv 0)) pe_int (nomark _))
      (pss_one (ps_ret (pe_and (pe_cmpR (op_eqD hu64) (pe_ix ix_tup (pv 0) pe_int (fun _ _ => rfl)) pe_str (nomark _)) (pe_and (pe_call F_are_names hr2 rfl g_are_names k_are_names b_are_names .nil pass0 (pa_cons (pe_ix ix_tup (pv 0) pe_int (fun _ _ => rfl)) pa_nil)) (pe_one (pe_cmpR op_ge (pe_lenS rfl h_len (pe_ix ix_tup (pv 0) pe_int (fun _ _ => rfl))) pe_int (nomark _)))))))
      pss_nil)
    (pss_cons (ps_asg (pv 0) (pg_tup (by rfl) (pgs_cons (pg_name (i := 1) nd rfl (Or.inl rfl)) (pgs_cons (pg_name (i := 2) nd rfl (Or.inl rfl)) (pgs_cons (pg_name (i := 3) nd rfl (Or.inl rfl)) (pgs_cons (pg_name (i := 4) nd rfl (Or.inl rfl)) pgs_nil))))))
    (pss_cons (ps_if (PW.pt (pw_or (pt_not (pt_val (pe_call F_is_name hr1 rfl g_is_name k_is_name b_is_name .nil pass0 (pa_cons (pv 2) pa_nil)))) (pw_or1 (pt_not (pt_val (pe_call F_is_name hr1 rfl g_is_name k_is_name b_is_name .nil pass0 (pa_cons (pv 3) pa_nil)))))))
      (pss_one (ps_ret pe_bl))
      pss_nil)
    (pss_one (ps_ret (pe_or (pe_and (pe_cmpR (op_eqD hu64) (pv 1) pe_str (nomark _)) (pe_one (pe_cmpR op_lt_str (pv 2) (pv 3) (nomark _)))) (pe_one (pe_and (pe_cmpR (op_eqD hu64) (pv 1) pe_str (nomark _)) (pe_one (pe_cmpR op_ne (pv 2) (pv 3) (nomark _)))))))))))), ?_⟩
  have sz : 2 ≤ sizeLine := by rw [sizeLine_eq]; decide
  have shH : SeqAt.shaped (.str HUB) = true := lit_sh (by decide +kernel)
  have shP : SeqAt.shaped (.str PIPE) = true := lit_sh (by decide +kernel)
  have shL : SeqAt.shaped (.str LEAD) = true := lit_sh (by decide +kernel)
  refine ⟨_, rfl, d, hv, _, rfl, ?_⟩
  cases ht : isTy (tagOf d) "tuple" with
  | false => exact iteT (k false H (Same.refl H) (f_iff (notup_part ht)))
  | true =>
    refine iteF ?_
    cases hv with
    | non => cases ht
    | bl b => cases ht
    | int i => cases ht
    | str x => cases ht
    | lst a b => cases ht
    | @tup a us ds ha hds =>
      obtain ⟨dl, fds⟩ := fd.tupl
      have ul : us.length = ds.length := dp_len hds
      refine ⟨_, rfl, a, _, rfl, .inr ha, sz, fun p hp => ?_⟩
      have s1 := same_upd (o := .tup [.int 3, .int 4]) hp
      refine ⟨p, _, rfl, .inr (SqT.of upd_same), rfl, rfl, _, rfl, ?_⟩
      generalize upd H p (.tup [.int 3, .int 4]) = H1 at s1 ⊢
      have hds1 := dpAll_same s1 hds
      have ha1 := same_seqT s1 ha
      show if (!inV (.int (us.length : Int)) [.int 3, .int 4]) = true then _ else _
      rw [inV_34, ul]
      by_cases l3 : ds.length = 3
      · rw [decide_eq_true l3]
        refine iteF ?_
        obtain ⟨d0, d1, d2, rfl⟩ := three_of l3
        obtain ⟨u0, u1, u2, rfl, h0, h1, h2⟩ := dp_three hds1
        have f0 := fds d0 (by simp)
        have f1 := fds d1 (by simp)
        have f2 := fds d2 (by simp)
        refine ⟨_, rfl, _, rfl, a, _, -1, u2, rfl, rfl, ha1, rfl, u2, d2, n, rfl, h2, f2, fun b H2 s2 hb => ⟨_, rfl, ?_⟩⟩
        have s12 := s1.trans s2
        cases b with
        | false => exact iteT (k false H2 s12 (f_iff fun z => Bool.noConfusion (hb.mpr (part3.mp z).2.2)))
        | true =>
          have hn := hb.mp rfl
          have ha2 := same_seqT s2 ha1
          refine iteF ⟨_, rfl, a, _, rfl, .inr ha2, rfl, true, rfl, iteT ?_⟩
          refine ⟨_, rfl, a, _, 0, _, rfl, rfl, ha2, rfl, d0, .str HUB, dp_same s2 h0, .str _, f0.sh.shaped (by omega), shH, _, rfl, ?_⟩
          rw [eqv_str]
          rcases isS_or d0 HUB with ⟨ez, e0⟩ | ⟨ez, e0⟩
          · rw [ez]
            refine iteT ⟨_, rfl, a, _, 1, _, rfl, rfl, ha2, rfl, u1, d1, n, rfl, dp_same s2 h1, f1, n40, fun b H3 s3 hb3 => ⟨_, rfl, ?_⟩⟩
            have s13 := s12.trans s3
            cases b with
            | false =>
              refine iteF (k false H3 s13 (f_iff fun z => ?_))
              obtain ⟨_, ⟨ns, e, q, _⟩, _⟩ := part3.mp z
              exact Bool.noConfusion (hb3.mpr ⟨ns, e, q⟩)
            | true =>
              obtain ⟨ns, rfl, q⟩ := hb3.mp rfl
              obtain ⟨b1, rfl, hb1⟩ := dp_words h1
              refine iteT ⟨_, rfl, a, _, 1, _, rfl, rfl, same_seqT s3 ha2, rfl, b1, _, rfl, .inr (same_seqT (s2.trans s3) hb1), _, _, rfl, rfl, ?_⟩
              refine k _ H3 s13 ?_
              rw [decide_eq_true_eq, part3, List.length_map]
              constructor
              · exact fun z => ⟨e0, ⟨ns, rfl, q, by omega⟩, hn⟩
              · rintro ⟨_, ⟨ms, em, _, z⟩, _⟩
                rw [← strs_inj (PyData.tuple.inj em)] at z
                omega
          · rw [ez]
            exact iteF (k false H2 s12 (f_iff fun z => e0 (part3.mp z).1))
      by_cases l4 : ds.length = 4
      rotate_left
      · rw [decide_eq_false l3, decide_eq_false l4]
        exact iteT (k false H1 s1 (f_iff (part_lenD l3 l4)))
      rw [decide_eq_false l3, decide_eq_true l4]
      refine iteF ?_
      obtain ⟨d0, d1, d2, d3, rfl⟩ := four_of l4
      obtain ⟨u0, u1, u2, u3, rfl, h0, h1, h2, h3⟩ := dp_four hds1
      have f0 := fds d0 (by simp)
      have f1 := fds d1 (by simp)
      have f2 := fds d2 (by simp)
      have f3 := fds d3 (by simp)
      refine ⟨_, rfl, _, rfl, a, _, -1, u3, rfl, rfl, ha1, rfl, u3, d3, n, rfl, h3, f3, fun b H2 s2 hb => ⟨_, rfl, ?_⟩⟩
      have s12 := s1.trans s2
      cases b with
      | false =>
        refine iteT (k false H2 s12 (f_iff fun z => ?_))
        obtain ⟨_, _, _, _, _, _, _, q⟩ := part4.mp z
        exact Bool.noConfusion (hb.mpr q)
      | true =>
        have hn := hb.mp rfl
        have ha2 := same_seqT s2 ha1
        refine iteF ⟨_, rfl, a, _, rfl, .inr ha2, rfl, false, rfl, iteF ?_⟩
        refine ⟨_, rfl, a, _, rfl, ha2, rfl, _, _, rfl, _, _, rfl, _, _, rfl, _, _, rfl, rfl, ?_⟩
        refine ⟨_, rfl, u1, nameD d1, rfl, name_v (dp_same s2 h1) f1, fun H3 s3 => ⟨_, rfl, ?_⟩⟩
        have s13 := s12.trans s3
        cases n1 : nameD d1 with
        | false =>
          refine iteT (k false H3 s13 (f_iff fun z => ?_))
          obtain ⟨x, y, rfl, rfl, q1, q2, _⟩ := part4.mp z
          rw [show nameD (.str x) = true from q1] at n1
          cases n1
        | true =>
          refine iteF ⟨_, rfl, u2, nameD d2, rfl, name_v (dp_same (s2.trans s3) h2) f2, fun H4 s4 => ⟨_, rfl, ?_⟩⟩
          have s14 := s13.trans s4
          cases n2 : nameD d2 with
          | false =>
            refine iteT (k false H4 s14 (f_iff fun z => ?_))
            obtain ⟨x, y, rfl, rfl, q1, q2, _⟩ := part4.mp z
            rw [show nameD (.str y) = true from q2] at n2
            cases n2
          | true =>
            obtain ⟨x, rfl, hx⟩ := nameD_str n1
            obtain ⟨y, rfl, hy⟩ := nameD_str n2
            cases h1
            cases h2
            have s24 := s2.trans (s3.trans s4)
            have h04 := dp_same s24 h0
            refine iteF ⟨_, rfl, d0, .str PIPE, h04, .str _, f0.sh.shaped (by omega), shP, _, rfl, ?_⟩
            rw [eqv_str]
            rcases isS_or d0 PIPE with ⟨ez, ep⟩ | ⟨ez, ep⟩
            · rw [ez]
              refine iteT ⟨_, rfl, _, rfl, x, y, rfl, rfl, ?_⟩
              by_cases lt : x.cps.toList < y.cps.toList
              · rw [decide_eq_true lt]
                exact ⟨true, rfl, iteT (k true H4 s14 (t_iff (part4.mpr ⟨x, y, rfl, rfl, hx, hy, .inl ⟨ep, lt⟩, hn⟩)))⟩
              · rw [decide_eq_false lt]
                refine ⟨false, rfl, iteF ?_⟩
                refine ⟨_, rfl, d0, .str LEAD, h04, .str _, f0.sh.shaped (by omega), shL, _, rfl, ?_⟩
                rw [eqv_str, isS_no (fun q => pipe_lead (PyData.str.inj (ep.symm.trans q)))]
                refine iteF (k false H4 s14 (f_iff fun z => ?_))
                obtain ⟨x', y', ex, ey, _, _, hk, _⟩ := part4.mp z
                cases ex
                cases ey
                rcases hk with ⟨_, l⟩ | ⟨e, _⟩
                · exact lt l
                · exact pipe_lead (PyData.str.inj (ep.symm.trans e))
            · rw [ez]
              refine iteF ⟨false, rfl, iteF ?_⟩
              refine ⟨_, rfl, d0, .str LEAD, h04, .str _, f0.sh.shaped (by omega), shL, _, rfl, ?_⟩
              rw [eqv_str]
              rcases isS_or d0 LEAD with ⟨ez, el⟩ | ⟨ez, el⟩
              · rw [ez]
                refine iteT ⟨_, rfl, _, rfl, rfl, ?_⟩
                refine k _ H4 s14 ?_
                rw [Bool.not_eq_true', decide_eq_false_iff_not, part4]
                constructor
                · exact fun q => ⟨x, y, rfl, rfl, hx, hy, .inr ⟨el, fun e => q (congrArg V.str e)⟩, hn⟩
                · rintro ⟨x', y', ex, ey, _, _, hk, _⟩ q
                  cases ex
                  cases ey
                  rcases hk with ⟨e, _⟩ | ⟨_, l⟩
                  · exact ep e
                  · exact l (V.str.inj q)
              · rw [ez]
                refine iteF (k false H4 s14 (f_iff fun z => ?_))
                obtain ⟨_, _, _, _, _, _, hk, _⟩ := part4.mp z
                rcases hk with ⟨e, _⟩ | ⟨e, _⟩
                · exact ep e
                · exact el e
end
end K05
set_option maxHeartbeats 2000000
set_option exponentiation.threshold 10000
namespace K05
open PySem PySem.Spec PyProof.Rows L2 Hx RZ
/-! ### any data: nets -/
theorem raw_inj {r q : Raw} (R : Right r) (S : Right q) (e : r.data = q.data) : r = q := by
  cases R with
  | two k x y n _ _ _ _ =>
    cases S with
    | two k2 x2 y2 n2 _ _ _ _ =>
      have e2 : [PyData.str k, .str x, .str y, n.data] = [.str k2, .str x2, .str y2, n2.data] := PyData.tuple.inj e
      simp only [List.cons.injEq, PyData.str.injEq, and_true] at e2
      obtain ⟨rfl, rfl, rfl, en⟩ := e2
      rw [num_inj en]
    | hub ns2 n2 _ _ _ =>
      have e2 : [PyData.str k, .str x, .str y, n.data] = [.str HUB, .tuple (ns2.map .str), n2.data] := PyData.tuple.inj e
      cases e2
  | hub ns n _ _ _ =>
    cases S with
    | two k2 x2 y2 n2 _ _ _ _ =>
      have e2 : [PyData.str HUB, .tuple (ns.map .str), n.data] = [.str k2, .str x2, .str y2, n2.data] := PyData.tuple.inj e
      cases e2
    | hub ns2 n2 _ _ _ =>
      have e2 : [PyData.str HUB, .tuple (ns.map .str), n.data] = [.str HUB, .tuple (ns2.map .str), n2.data] := PyData.tuple.inj e
      simp only [List.cons.injEq, PyData.tuple.injEq, true_and, and_true] at e2
      rw [strs_inj e2.1, num_inj e2.2]
theorem raws_inj : ∀ {rs qs : List Raw}, (∀ r ∈ rs, Right r) → (∀ r ∈ qs, Right r) → rs.map Raw.data = qs.map Raw.data → rs = qs
  | [], [], _, _, _ => rfl
  | [], q :: qs, _, _, e => by cases e
  | r :: rs, [], _, _, e => by cases e
  | r :: rs, q :: qs, R, S, e => by
    obtain ⟨e1, e2⟩ := List.cons.inj e
    rw [raw_inj (R r List.mem_cons_self) (S q List.mem_cons_self) e1, raws_inj (fun x hx => R x (List.mem_cons_of_mem _ hx)) (fun x hx => S x (List.mem_cons_of_mem _ hx)) e2]
theorem parts_of : ∀ {ds : List PyData}, (∀ d ∈ ds, PartP d) → ∃ rs : List Raw, ds = rs.map Raw.data ∧ ∀ r ∈ rs, Right r
  | [], _ => ⟨[], rfl, fun r hr => by cases hr⟩
  | d :: ds, h => by
    obtain ⟨rs, rfl, R⟩ := parts_of (ds := ds) fun x hx => h x (List.mem_cons_of_mem _ hx)
    obtain ⟨r, rfl, hr⟩ := h d List.mem_cons_self
    exact ⟨r :: rs, rfl, fun x hx => (List.mem_cons.mp hx).elim (fun e => by rw [e]; exact hr) (R x)⟩
theorem net_data {taps : List Str} {rs : List Raw} {d1 d2 : PyData} : PyData.tuple [d1, d2] = netData taps rs ↔ d1 = .tuple (taps.map .str) ∧ d2 = .tuple (rs.map Raw.data) := by
  constructor
  · intro e
    have e2 : [d1, d2] = [.tuple (taps.map .str), .tuple (rs.map Raw.data)] := PyData.tuple.inj e
    cases e2
    exact ⟨rfl, rfl⟩
  · rintro ⟨rfl, rfl⟩
    rfl
theorem notup_net {d : PyData} (h : isTy (tagOf d) "tuple" = false) : ¬ NetP d := fun ⟨_, _, e, _⟩ => by
  subst e
  cases h
theorem net_lenD {ds : List PyData} (h : ds.length ≠ 2) : ¬ NetP (.tuple ds) := fun ⟨taps, rs, e, _⟩ => by
  have e2 : ds = [.tuple (taps.map .str), .tuple (rs.map Raw.data)] := PyData.tuple.inj e
  rw [e2] at h
  exact h rfl
theorem net_tapsD {d1 d2 : PyData} (h : ¬ NamesP tapsS d1) : ¬ NetP (.tuple [d1, d2]) := fun ⟨taps, rs, e, R⟩ => h ⟨taps, (net_data.mp e).1, R.tp⟩
theorem net_partsD {d1 d2 : PyData} (h : isTy (tagOf d2) "tuple" = false) : ¬ NetP (.tuple [d1, d2]) := fun ⟨taps, rs, e, R⟩ => by
  rw [(net_data.mp e).2] at h
  cases h
theorem net_iff {taps : List Str} {rs : List Raw} (R : ∀ r ∈ rs, Right r) : NetP (.tuple [.tuple (taps.map .str), .tuple (rs.map Raw.data)]) ↔ NetR taps rs := by
  constructor
  · rintro ⟨t2, r2, e, N⟩
    obtain ⟨e1, e2⟩ := net_data.mp e
    have a := strs_inj (PyData.tuple.inj e1)
    have b := raws_inj R N.right (PyData.tuple.inj e2)
    rw [a, b]
    exact N
  · exact fun N => ⟨taps, rs, rfl, N⟩
theorem parts_no {d1 : PyData} {ds : List PyData} (h : ¬ ∀ d ∈ ds, PartP d) : ¬ NetP (.tuple [d1, .tuple ds]) := fun ⟨taps, rs, e, N⟩ => h fun d hd => by
  rw [PyData.tuple.inj (net_data.mp e).2] at hd
  obtain ⟨r, hr, rfl⟩ := List.mem_map.mp hd
  exact ⟨r, rfl, N.right r hr⟩
/-- bools that say it of each -/
theorem bools_iff {p : PyData → Prop} : ∀ {ds : List PyData} {acc : List V}, acc.length = ds.length → (∀ (i : Nat) (y : V), acc[i]? = some y → ∃ (b : Bool) (d : PyData), ds[i]? = some d ∧ y = .bl b ∧ (b = true ↔ p d)) → ∃ bs : List Bool, acc = bs.map V.bl ∧ (bs.all id = true ↔ ∀ d ∈ ds, p d)
  | [], [], _, _ => ⟨[], rfl, ⟨fun _ d hd => (by cases hd), fun _ => rfl⟩⟩
  | d :: ds, y :: acc, l, h => by
    obtain ⟨bs, rfl, e⟩ := bools_iff (ds := ds) (acc := acc) (by simpa using l) fun i y hy => h (i + 1) y hy
    obtain ⟨b, d', e1, rfl, hb⟩ := h 0 y rfl
    cases e1
    refine ⟨b :: bs, rfl, ?_⟩
    rw [List.all_cons, Bool.and_eq_true, e]
    constructor
    · rintro ⟨h1, h2⟩ x hx
      rcases List.mem_cons.mp hx with rfl | hx
      · exact hb.mp h1
      · exact h2 x hx
    · exact fun q => ⟨hb.mpr (q _ List.mem_cons_self), fun x hx => q x (List.mem_cons_of_mem _ hx)⟩
  | [], y :: acc, l, _ => by cases l
  | d :: ds, [], l, _ => by cases l
theorem right_len {r : Raw} (R : Right r) (f : Fine 10 r.data) : r.ends.length ≤ 19 := by
  cases R with
  | two k x y m _ _ _ _ => exact (by decide : 2 ≤ 19)
  | hub ns m _ _ _ =>
    have f1 := (Fine.tupS (n := 9) (show Fine 10 (.tuple [.str HUB, .tuple (ns.map .str), m.data]) from f)).2 (.tuple (ns.map .str)) (by simp)
    have z := (Fine.tupS (n := 8) f1).1
    rw [List.length_map] at z
    exact z
theorem ends_bound : ∀ {rs : List Raw} {B : Nat}, (∀ r ∈ rs, r.ends.length ≤ B) → (rs.flatMap Raw.ends).length ≤ rs.length * B
  | [], _, _ => by simp
  | r :: rs, B, h => by
    have ih := ends_bound (rs := rs) (B := B) fun x hx => h x (List.mem_cons_of_mem _ hx)
    have z := h r List.mem_cons_self
    rw [List.flatMap_cons, List.length_append, List.length_cons, Nat.succ_mul]
    omega
section
variable {P : Program} {w : World} {K : PySem.W.Frag} {mg : Str → Option Value} {base : Heap}
structure OkN (P : Program) (w : World) (K : PySem.W.Frag) (mg : Str → Option Value) (base : Heap) (CX : CXT) (k : Nat) (x : Str) (ps : List Str) (n : Nat) (ks : List Str) (sp : Sp) : Prop where
  ex : ∃ f fd, mg x = some (.ref f) ∧ PySem.W.keepIn K (.ref f) = true ∧ L2.Binds K fd ps [] ∧ FnOk P w K mg base CX k f fd ps sp ∧ KBn K fd ps n ks (fun us ws => us ++ ws) (fun ys zs => ys ++ zs)
theorem FnD.byNames {x : Str} {st : Stmt} {f : Addr} {fd : FuncData} {ps ks : List Str} {n : Nat} (F : FnD K x st f fd)
    (h : ∀ (kV doc pm : Value) (an : Option Addr) (cdv ct : Value) (us ws : List Value), us.length = n → ws.length = ks.length → bindArgs (PySem.W.fnOf x x (defArgs st) (defBody st) (defScope st) .none kV doc pm an cdv ct) ⟨us, ks.zip ws⟩ = pure (ps.zip (us ++ ws))) : KBn K fd ps n ks (fun us ws => us ++ ws) (fun ys zs => ys ++ zs) where
  to := fun s us ws _ l1 l2 => by
    obtain ⟨oc, od, dV, kV, doc, pm, an, cdv, ct, osl, rfl, lk, hcd, hD, hK⟩ := F.ex
    rcases hD with ⟨_, rfl⟩ | ⟨e, _⟩
    · exact .of_eq (h kV doc pm an cdv ct us ws l1 l2)
    · exact absurd rfl e
  rel := fun r1 r2 => Vals.append r1 r2
theorem OkN.ok {CX : CXT} {k : Nat} {x : Str} {ps ks : List Str} {n : Nat} {sp : Sp} (O : OkN P w K mg base CX k x ps n ks sp) : Ok P w K mg base CX k x ps sp := by
  obtain ⟨f, fd, g, kp, b, F, _⟩ := O.ex
  exact ⟨f, fd, g, kp, b, F⟩
theorem OkN.mkX {x : Str} {st : Stmt} {N ps ks : List Str} {n k : Nat} {sp : Sp} (D : Dn K mg x st) (S : FnScope N ps (defScope st))
    (hq : ∀ (kV doc pm : Value) (an : Option Addr) (cdv ct : Value) (us ws : List Value), us.length = n → ws.length = ks.length → bindArgs (PySem.W.fnOf x x (defArgs st) (defBody st) (defScope st) .none kV doc pm an cdv ct) ⟨us, ks.zip ws⟩ = pure (ps.zip (us ++ ws)))
    (len : ∀ vs H Q E, sp vs H Q E → vs.length = ps.length)
    (hb : ∀ (kV doc pm : Value) (an : Option Addr) (cdv ct : Value) (us : List Value), us.length = ps.length → bindArgs (PySem.W.fnOf x x (defArgs st) (defBody st) (defScope st) .none kV doc pm an cdv ct) ⟨us, []⟩ = pure (ps.zip us))
    (hbody : ∀ (f : Addr) (cdv : Value) (A : Around) (outer : List Env) (s : Shared) (H : Hp) (vs : List V) (Q : VK) (E : XK), Room k (A.deeper (envOfC x (defScope st) s.heap.objs.size f cdv)) → sp vs H Q E →
      ∃ t, PSs (cxOf (L2.CX P w) P w K mg base N x (defScope st) f cdv A outer s H E) (defBody st) t ∧ t { nx := fun _ H' => Q .non H', rt := Q } (L2.start N vs) H) : OkN P w K mg base (L2.CX P w) (k + 1) x ps n ks sp := by
  obtain ⟨f, fd, g, F⟩ := D
  exact ⟨f, fd, g, F.kp, F.bindsN hb, F.ok S len fun cdv A outer s H vs Q E hr h => hbody f cdv A outer s H vs Q E hr h, FnD.byNames F hq⟩
theorem OkN.mk0 {x : Str} {st : Stmt} {N ps ks : List Str} {n k : Nat} {sp : Sp} (D : Dn K mg x st) (S : FnScope N ps (defScope st))
    (hq : ∀ (kV doc pm : Value) (an : Option Addr) (cdv ct : Value) (us ws : List Value), us.length = n → ws.length = ks.length → bindArgs (PySem.W.fnOf x x (defArgs st) (defBody st) (defScope st) .none kV doc pm an cdv ct) ⟨us, ks.zip ws⟩ = pure (ps.zip (us ++ ws)))
    (len : ∀ vs H Q E, sp vs H Q E → vs.length = ps.length)
    (hb : ∀ (kV doc pm : Value) (an : Option Addr) (cdv ct : Value) (us : List Value), us.length = ps.length → bindArgs (PySem.W.fnOf x x (defArgs st) (defBody st) (defScope st) .none kV doc pm an cdv ct) ⟨us, []⟩ = pure (ps.zip us))
    (hbody : ∀ (f : Addr) (cdv : Value) (A : Around) (outer : List Env) (s : Shared) (H : Hp) (vs : List V) (Q : VK) (E : XK), Room k (A.deeper (envOfC x (defScope st) s.heap.objs.size f cdv)) → sp vs H Q E →
      ∃ t, PSs (cxOf L2.CX0 P w K mg base N x (defScope st) f cdv A outer s H E).nox (defBody st) t ∧ t { nx := fun _ H' => Q .non H', rt := Q } (L2.start N vs) H) : OkN P w K mg base L2.CX0 (k + 1) x ps n ks sp := by
  obtain ⟨f, fd, g, F⟩ := D
  refine ⟨f, fd, g, F.kp, F.bindsN hb, F.ok S len fun cdv A outer s H vs Q E hr h => ?_, FnD.byNames F hq⟩
  obtain ⟨t, ht, q⟩ := hbody f cdv A outer s H vs Q E hr h
  exact ⟨t, ht.nox, q⟩
def spNetP (K : PySem.W.Frag) : Sp := fun vs H Q _ => ∃ (v : V) (d : PyData), vs = [v] ∧ Dp K H v d ∧ Fine 12 d ∧ ∀ (b : Bool) H', Same H H' → (b = true ↔ NetP d) → Q (.bl b) H'
theorem okn_is_netP (D : Dn K mg "is_net" sis_net) (B0 : Ok P w K mg base L2.CX0 3 "are_taps" ["value"] (spData K (NamesP tapsS))) (B1 : Ok P w K mg base L2.CX0 4 "is_part" ["value"] (spData K PartP)) (B2 : Ok P w K mg base L2.CX0 2 "mixes_leads_and_hubs" ["parts"] (spMix K)) (B3 : Ok P w K mg base L2.CX0 2 "places_in" ["taps", "parts"] (spPlaces K))
    (h_isinstance : mg "isinstance" = none) (h_tuple : mg "tuple" = none) (h_len : mg "len" = none) (h_all : mg "all" = none) (c1 : ∃ t, mg "MOST_PARTS" = some (.int 200 t)) (c2 : ∃ t, mg "MOST_PLACES" = some (.int 40 t)) : OkN P w K mg base L2.CX0 5 "is_net" ["value"] 0 ["value"] (spNetP K) := by
  obtain ⟨_, gMOST_PARTS⟩ := c1
  obtain ⟨_, gMOST_PLACES⟩ := c2
  obtain ⟨_, _, g_are_taps, k_are_taps, b_are_taps, F_are_taps⟩ := B0.ex
  obtain ⟨_, _, g_is_part, k_is_part, b_is_part, F_is_part⟩ := B1.ex
  obtain ⟨_, _, g_mixes_leads_and_hubs, k_mixes_leads_and_hubs, b_mixes_leads_and_hubs, F_mixes_leads_and_hubs⟩ := B2.ex
  obtain ⟨_, _, g_places_in, k_places_in, b_places_in, F_places_in⟩ := B3.ex
  refine OkN.mk0 D sc_is_net (fun _ _ _ _ _ _ us ws l1 l2 => match us, ws, l1, l2 with | [], [_], _, _ => rfl) (fun vs H Q E h => ?_) (fun _ _ _ _ _ _ us hl => match us, hl with | [_], _ => rfl) (fun f cdv A outer s H vs Q E hr h => ?_)
  · obtain ⟨v, _, rfl, _⟩ := h
    rfl
  obtain ⟨v, d, rfl, hv, fd, k⟩ := h
  have nd := sc_is_net.nd
  have hr3 := hr.mono (show 3 ≤ 4 by decide)
  have hr2 := hr.mono (show 2 ≤ 4 by decide)
  refine ⟨_, (pss_cons (ps_if (PW.pt (pw_or (pt_not (pt_val (pe_isD "tuple" rfl h_isinstance h_tuple (pv 0)))) (pw_or1 (pt_cmpR op_ne (pe_lenS rfl h_len (pv 0)) pe_int (nomark _)))))
      (pss_one (ps_ret pe_bl))
      pss_nil)
    (pss_cons (ps_asg (pv 0) (pg_tup (by rfl) (pgs_cons (pg_name (i := 1) nd rfl (Or.inl rfl)) (pgs_cons (pg_name (i := 2) nd rfl (Or.inl rfl)) pgs_nil))))
    (pss_cons (ps_if (PW.pt (pw_or (pt_not (pt_val (pe_call F_are_taps hr3 rfl g_are_taps k_are_taps b_are_taps .nil pass0 (pa_cons (pv 1) pa_nil)))) (pw_or (pt_not (pt_val (pe_isD "tuple" rfl h_isinstance h_tuple (pv 2)))) (pw_or1 (pt_cmpR op_gt (pe_lenS rfl h_len (pv 2)) (pe_glob (v := .int 200) rfl gMOST_PARTS ⟨_, rfl⟩) (nomark _))))))
      (pss_one (ps_ret pe_bl))
      pss_nil)
    (pss_cons (ps_if (PW.pt (pw_or (pt_not (pt_val (pe_callB (cr_all rfl) (by rfl) h_all (by decide +kernel) (pa_cons (pe_lc (own := [("part", 3)]) (g := gName 3) (tt := tYes) rfl nd (pi_tup (pv 2)) (blkOk_by (own := [("part", 3)]) (N := ["value", "taps", "parts", "part"]) (sc := defScope sis_net) (by decide +kernel)) (fun _ _ _ _ _ => pg_name (i := 3) nd rfl (Or.inl rfl)) (fun _ _ _ _ _ => pts_nil) (fun _ _ _ _ _ => (pe_call F_is_part hr rfl g_is_part k_is_part b_is_part .nil pass0 (pa_cons (pv 3) pa_nil)))) pa_nil)))) (pw_or1 (pt_val (pe_call F_mixes_leads_and_hubs hr2 rfl g_mixes_leads_and_hubs k_mixes_leads_and_hubs b_mixes_leads_and_hubs .nil pass0 (pa_cons (pv 2) pa_nil))))))
      (pss_one (ps_ret pe_bl))
      pss_nil)
    (pss_one (ps_ret (pe_cmpR op_le (pe_lenS rfl h_len (pe_call F_places_in hr2 rfl g_places_in k_places_in b_places_in .nil pass0 (pa_cons (pv 1) (pa_cons (pv 2) pa_nil)))) (pe_glob (v := .int 40) rfl gMOST_PLACES ⟨_, rfl⟩) (nomark _)))))))), ?_⟩
  refine ⟨_, rfl, d, hv, _, rfl, ?_⟩
  cases ht : isTy (tagOf d) "tuple" with
  | false => exact iteT (iteT (k false H (Same.refl H) (f_iff (notup_net ht))))
  | true =>
    refine iteF ?_
    cases hv with
    | non => cases ht
    | bl b => cases ht
    | int i => cases ht
    | str x => cases ht
    | lst a b => cases ht
    | @tup a us ds ha hds =>
      obtain ⟨dl, fds⟩ := fd.tupS
      have ul : us.length = ds.length := dp_len hds
      refine ⟨_, rfl, a, _, rfl, .inr ha, rfl, _, rfl, ?_⟩
      by_cases l2 : ds.length = 2
      rotate_left
      · refine iteE ?_ (k false H (Same.refl H) (f_iff (net_lenD l2)))
        rw [decide_eq_false (fun z => l2 (by have := V.int.inj z; omega))]
        rfl
      refine iteG (by rw [decide_eq_true (by rw [ul, l2]; rfl)]; rfl) ?_
      obtain ⟨d1, d2, rfl⟩ := two_of l2
      obtain ⟨u1, u2, rfl, h1, h2⟩ := dp_two hds
      have f1 := fds d1 (by simp)
      have f2 := fds d2 (by simp)
      refine ⟨_, rfl, a, _, rfl, ha, rfl, _, _, rfl, _, _, rfl, rfl, ?_⟩
      refine ⟨_, rfl, u1, d1, 11, rfl, h1, f1, by decide, fun b H1 s1 hb => ⟨_, rfl, ?_⟩⟩
      cases b with
      | false => exact iteT (k false H1 s1 (f_iff (net_tapsD fun z => Bool.noConfusion (hb.mpr z))))
      | true =>
      obtain ⟨taps, rfl, htp⟩ := hb.mp rfl
      obtain ⟨t, rfl, htt⟩ := dp_words h1
      refine iteF ⟨_, rfl, d2, dp_same s1 h2, _, rfl, ?_⟩
      cases ht2 : isTy (tagOf d2) "tuple" with
      | false => exact iteT (iteT (k false H1 s1 (f_iff (net_partsD ht2))))
      | true =>
      refine iteF ?_
      cases h2 with
      | non => cases ht2
      | bl b => cases ht2
      | int i => cases ht2
      | str x => cases ht2
      | lst a b => cases ht2
      | @tup b vs es hb2 hes =>
        obtain ⟨el, fes⟩ := f2.tupS
        have vl : vs.length = es.length := dp_len hes
        have hb1 := same_seqT s1 hb2
        refine ⟨_, rfl, b, _, rfl, .inr hb1, _, _, rfl, rfl, _, rfl, ?_⟩
        by_cases few : es.length ≤ 200
        rotate_left
        · rw [decide_eq_true (by omega)]
          refine iteT (k false H1 s1 (f_iff fun ⟨t2, r2, e, N⟩ => ?_))
          have q := N.few
          have z := congrArg List.length (PyData.tuple.inj (net_data.mp e).2)
          rw [List.length_map] at z
          omega
        rw [decide_eq_false (by omega)]
        refine iteF ⟨_, rfl, b, rfl, ⟨_, hb1⟩, fun Z hZ => ?_⟩
        refine lc_rel (n := es.length) (J := Itt K b) (fun i y _ => ∃ (bb : Bool) (dd : PyData), es[i]? = some dd ∧ y = .bl bb ∧ (bb = true ↔ PartP dd)) (fun _ _ _ _ _ h => h) hZ (by rw [sizeLine_eq]; omega) (fun i H4 hi s => ⟨_, _, same_seqT s hb1, List.getElem?_eq_getElem (by omega)⟩) (fun H4 s => ⟨_, same_seqT s hb1, by omega⟩) ?_ ?_
        · rintro i y H2 H3 F hi s ⟨rfl, yx⟩ kk
          have e := yx _ (same_seqT s hb1)
          obtain ⟨dd, hd, hy⟩ := dpAll_get hes e
          exact ⟨rfl, y, rfl, y, dd, 10, rfl, dp_same (s1.trans s) hy, fes dd (List.mem_of_getElem? hd), by decide, fun b H4 s4 hb => kk _ _ ⟨b, dd, hd, rfl, hb⟩ s4⟩
        intro acc H2 s2 eZ hacc hy
        obtain ⟨bs, rfl, hbs⟩ := bools_iff (p := PartP) hacc hy
        have s12 := s1.trans s2
        refine ⟨Z, _, rfl, SqL.of eZ, _, rfl, ?_⟩
        cases hall : bs.all id with
        | false => exact iteT (iteT (k false H2 s12 (f_iff (parts_no fun z => by rw [hbs.mpr z] at hall; cases hall))))
        | true =>
        obtain ⟨rs, rfl, R⟩ := parts_of (hbs.mp hall)
        have hraw := (dp_raws hes).keep (TK.of s12)
        have rl : rs.length ≤ 200 := by simpa using few
        have htt2 := same_seqT s12 htt
        have hb22 := same_seqT s12 hb2
        refine iteF ⟨_, rfl, b, vs, rs, rfl, .inr hb22, by omega, hraw, R, fun H3 s3 => ⟨_, rfl, ?_⟩⟩
        have s13 := s12.trans s3
        cases hm : mixS rs with
        | true => exact iteT (k false H3 s13 (f_iff fun z => by have := ((net_iff R).mp z).mix; rw [hm] at this; cases this))
        | false =>
        have tl6 : taps.length ≤ 6 := by
          unfold tapsS at htp
          simp only [Bool.and_eq_true, decide_eq_true_eq] at htp
          exact htp.2.2
        have sum : (allEnds taps rs).length + 1 < scanBound := by
          unfold allEnds
          have z := ends_bound (rs := rs) (B := 19) fun r hr => right_len (R r hr) (fes r.data (List.mem_map.mpr ⟨r, hr, rfl⟩))
          have y : rs.length * 19 ≤ 200 * 19 := Nat.mul_le_mul_right _ rl
          have x : (4090 : Nat) < scanBound := by decide
          rw [List.length_append]
          omega
        refine iteF ⟨_, rfl, _, rfl, t, b, taps, vs, rs, rfl, same_seqT s3 htt2, .inr (same_seqT s3 hb22), hraw.keep (.of s3), R, sum, fun p ys H4 s4 hp _ pl => ?_⟩
        refine ⟨p, _, rfl, .inl (SqL.of hp), _, _, rfl, rfl, ?_⟩
        refine k _ H4 (s13.trans s4) ?_
        rw [decide_eq_true_eq, net_iff R, List.length_map]
        constructor
        · intro z
          exact ⟨htp, R, rl, hm, fun ys2 pl2 => by rw [places_len pl2, ← places_len pl]; omega⟩
        · intro N
          have := N.places ys pl
          omega
end
end K05
set_option maxHeartbeats 2000000
set_option exponentiation.threshold 10000
namespace K05
open PySem PySem.Spec PyProof.Rows L2 Hx RZ
/-! ### any data, by the law: words, rising names, numbers -/
section
variable {P : Program} {w : World} {K : PySem.W.Frag} {mg : Str → Option Value} {base : Heap}
theorem sc_an_is_word : FnScope ["thing", "signs", "sign"] ["thing"] (defScope sL_an_is_word) := ⟨rfl, rfl, rfl, by decide +kernel, rfl, by decide +kernel, by decide +kernel⟩
theorem led_cut : cutS LED none (some 26) = LET := by decide +kernel
theorem ok_an_is_wordX (D : Dn K mg "_law_an_is_word" sL_an_is_word) (h_isinstance : mg "isinstance" = none) (h_str : mg "str" = none) (h_len : mg "len" = none) : Ok P w K mg base L2.CX0 1 "_law_an_is_word" ["thing"] (spNameX K) := by
  refine Ok.mk0 D sc_an_is_word (fun vs H Q E h => ?_) (fun _ _ _ _ _ _ us hl => match us, hl with | [_], _ => rfl) (fun f cdv A outer s H vs Q E hr h => ?_)
  · obtain ⟨_, _, rfl, _⟩ := h
    rfl
  obtain ⟨v, b, rfl, hv, k0⟩ := h
  have nd := sc_an_is_word.nd
  have hu64 := hr.units
  refine ⟨_, (pss_cons (ps_if (PW.pt (pw_or (pt_not (pt_val (pe_isD "str" rfl h_isinstance h_str (pv 0)))) (pw_or1 (pt_not (pt_chain op_le op_le pe_int (pe_callB call_len_str (by rfl) h_len (by decide +kernel) (pa_cons (pv 0) pa_nil)) pe_int)))))
      (pss_one (ps_ret pe_bl))
      pss_nil)
    (pss_cons (ps_set (i := 1) nd rfl (Or.inr rfl) pe_str)
    (pss_one (ps_ret (pe_and (pe_cmpR op_in_sign (pe_ix ix_str (pv 0) pe_int (fun _ _ => rfl)) (pe_slice sl_str (pv 1) po_none (po_some pe_int)) (by rfl)) (pe_one (pe_cmpR (op_eqD hu64) (pe_lc (own := [("sign", 2)]) (g := gName 2) rfl nd (pi_str (pv 0)) (blkOk_by (own := [("sign", 2)]) (N := ["thing", "signs", "sign"]) (sc := defScope sL_an_is_word) (by decide +kernel)) (fun _ _ _ _ _ => pg_name (i := 2) nd rfl (Or.inl rfl)) (fun _ _ _ _ _ => pts_one (pt_cmpR op_notIn_sign (pv 2) (pv 1) (by rfl))) (fun _ _ _ _ _ => pe_int)) (pe_lst pa_nil) (nomark _)))))))), ?_⟩
  rcases hv with ⟨x, rfl, hx, rfl⟩ | ⟨d, hd, ht, rfl⟩
  rotate_left
  · exact ⟨_, rfl, d, hd, false, congrArg V.bl ht, iteT (k0 H (Same.refl H))⟩
  have k := k0
  refine ⟨_, rfl, .str x, .str x, true, rfl, ?_⟩
  refine iteF ?_
  have hsz : x.length ≤ sizeLine := by rw [sizeLine_eq]; omega
  have hcs : x.cps.toList.length = x.length := by simp [Str.length]
  have fal : ∀ H', Same H H' → nameS x = false → Q (.bl false) H' := fun H' s e => by
    have z := k H' s
    rw [e] at z
    exact z
  refine ⟨_, rfl, x, rfl, hsz, _, _, rfl, rfl, _, rfl, ?_⟩
  by_cases h1 : 1 ≤ (x.length : Int)
  · rw [decide_eq_true h1]
    refine iteT ⟨_, _, rfl, rfl, _, rfl, ?_⟩
    by_cases h8 : (x.length : Int) ≤ 8
    · rw [decide_eq_true h8]
      refine iteF ?_
      obtain ⟨c, r, hcr⟩ : ∃ c r, x.cps.toList = c :: r := by
        cases e : x.cps.toList with
        | nil => rw [e] at hcs; simp at hcs; omega
        | cons c r => exact ⟨c, r, rfl⟩
      have hnm : nameS x = (decide (c ∈ LET.cps.toList) && x.cps.toList.all fun c => decide (c ∈ LED.cps.toList)) := by
        unfold nameS
        rw [decide_eq_true (show 1 ≤ x.length by omega), decide_eq_true (show x.length ≤ 8 by omega), hcr]
        rfl
      have led : LED.length ≤ sizeLine := by rw [sizeLine_eq]; decide +kernel
      refine ⟨_, rfl, x, 0, c, rfl, rfl, hsz, ?_, _, rfl, 26, rfl, LED, rfl, led, c, LET, rfl, ?_, _, rfl, ?_⟩
      · exact atI_nat (xs := x.cps.toList) (j := 0) (v := c) (by rw [hcr]; rfl)
      · exact congrArg V.str led_cut
      by_cases hc : c ∈ LET.cps.toList
      · rw [decide_eq_true hc] at hnm ⊢
        refine iteT ⟨_, rfl, x, rfl, fun Z hZ => ?_⟩
        have n8 : x.cps.size ≤ 8 := by have := hcs; simp at this; omega
        have lx : x.cps.toList.length = x.cps.size := by simp
        refine lc_ones (n := x.cps.size) (J := Its x) (fun i => match x.cps.toList[i]? with | some c => !decide (c ∈ LED.cps.toList) | none => false) hZ (by rw [sizeLine_eq]; omega) (fun i H hi _ => hi) (fun H _ => Nat.le_refl _) ?_ ?_
        · rintro i y H1 H' F hi s1 ⟨rfl, c, hc, rfl⟩ kk
          have hc2 : x.cps.toList[i]? = some c := by rw [Array.getElem?_toList]; exact hc
          have z := kk _ (Same.refl _)
          rw [hc2] at z
          exact ⟨rfl, _, rfl, _, rfl, c, LED, rfl, rfl, _, rfl, z⟩
        · intro n H1 s1 e hn hz
          refine ones_eq e fun H2 s2 => ?_
          have z := k H2 (s1.trans s2)
          rw [hnm, Bool.true_and] at z
          have ee : (x.cps.toList.all fun c => decide (c ∈ LED.cps.toList)) = decide (n = 0) := by
            rw [Bool.eq_iff_iff, decide_eq_true_eq, hz, List.all_eq_true]
            constructor
            · intro h i hi
              rw [List.getElem?_eq_getElem (by omega)]
              show (!decide _) = false
              rw [h _ (List.getElem_mem _)]
              rfl
            · intro h c hm
              obtain ⟨i, hi⟩ := List.getElem?_of_mem hm
              have q := h i (by have := (List.getElem?_eq_some_iff.mp hi).1; omega)
              rw [hi] at q
              simpa using q
          rw [ee] at z
          exact z
      · rw [decide_eq_false hc] at hnm ⊢
        exact iteF (fal _ (Same.refl _) (by rw [hnm]; rfl))
    · rw [decide_eq_false h8]
      refine iteT (fal _ (Same.refl _) ?_)
      unfold nameS
      rw [decide_eq_false (show ¬ x.length ≤ 8 by omega)]
      simp
  · rw [decide_eq_false h1]
    refine iteF ⟨_, rfl, iteT (fal _ (Same.refl _) ?_)⟩
    unfold nameS
    rw [decide_eq_false (show ¬ 1 ≤ x.length by omega)]
    simp
def risS (m : Nat) (ns : List Str) : Bool := decide (m ≤ ns.length) && namesS ns
theorem sc_an_rising : FnScope ["thing", "least", "word"] ["thing", "least"] (defScope sL_an_rising) := ⟨rfl, rfl, rfl, by decide +kernel, rfl, by decide +kernel, by decide +kernel⟩
def RisP (m : Nat) (d : PyData) : Prop := ∃ ns : List Str, d = .tuple (ns.map .str) ∧ risS m ns = true
def spRisP (K : PySem.W.Frag) : Sp := fun vs H Q _ => ∃ (v : V) (d : PyData) (n m : Nat), vs = [v, .int m] ∧ Dp K H v d ∧ Fine n d ∧ ∀ (b : Bool) H', Same H H' → (b = true ↔ RisP m d) → Q (.bl b) H'
theorem ok_an_risingP (D : Dn K mg "_law_an_rising" sL_an_rising) (B : Ok P w K mg base L2.CX0 1 "_law_an_is_word" ["thing"] (spNameX K)) (h_isinstance : mg "isinstance" = none) (h_tuple : mg "tuple" = none) (h_len : mg "len" = none) (h_list : mg "list" = none) (h_set : mg "set" = none) (h_sorted : mg "sorted" = none) :
    Ok P w K mg base L2.CX0 2 "_law_an_rising" ["thing", "least"] (spRisP K) := by
  obtain ⟨_, _, g_an_is_word, k_an_is_word, b_an_is_word, F_an_is_word⟩ := B.ex
  refine Ok.mk0 D sc_an_rising (fun vs H Q E h => ?_) (fun _ _ _ _ _ _ us hl => match us, hl with | [_, _], _ => rfl) (fun f cdv A outer s H vs Q E hr h => ?_)
  · obtain ⟨_, _, _, _, rfl, _⟩ := h
    rfl
  obtain ⟨v, d, n0, m, rfl, hv, fd, k9⟩ := h
  have nd := sc_an_rising.nd
  have hu64 := hr.units
  refine ⟨_, (pss_cons (ps_if (PW.pt (pw_or (pt_not (pt_val (pe_isD "tuple" rfl h_isinstance h_tuple (pv 0)))) (pw_or1 (pt_cmpR op_lt (pe_lenS rfl h_len (pv 0)) (pv 1) (nomark _)))))
      (pss_one (ps_ret pe_bl))
      pss_nil)
    (pss_cons (ps_if (pt_cmpR (op_neD hu64) (pe_lc (own := [("word", 2)]) (g := gName 2) rfl nd (pi_tup (pv 0)) (blkOk_by (own := [("word", 2)]) (N := ["thing", "least", "word"]) (sc := defScope sL_an_rising) (by decide +kernel)) (fun _ _ _ _ _ => pg_name (i := 2) nd rfl (Or.inl rfl)) (fun _ _ _ _ _ => pts_one (pt_not (pt_val (pe_call F_an_is_word hr rfl g_an_is_word k_an_is_word b_an_is_word .nil pass0 (pa_cons (pv 2) pa_nil))))) (fun _ _ _ _ _ => pe_int)) (pe_lst pa_nil) (nomark _))
      (pss_one (ps_ret pe_bl))
      pss_nil)
    (pss_one (ps_ret (pe_cmpR (op_eqD hu64) (pe_callTy call_list_of (by rfl) h_list (by decide +kernel) (pa_cons (pv 0) pa_nil)) (pe_callB (cr_sortTx rfl) (by rfl) h_sorted (by decide +kernel) (pa_cons (pe_callTy (cr_setS rfl) (by rfl) h_set (by decide +kernel) (pa_cons (pv 0) pa_nil)) pa_nil)) (nomark _)))))), ?_⟩
  cases ht : isTy (tagOf d) "tuple" with
  | false => exact ⟨_, rfl, d, hv, false, congrArg V.bl ht, iteT (k9 false H (Same.refl H) (f_iff (notup_names ht)))⟩
  | true =>
  cases hv with
  | non => cases ht
  | bl b => cases ht
  | int i => cases ht
  | str x => cases ht
  | lst a b => cases ht
  | @tup a us ds ha hds =>
  obtain ⟨dl, fds⟩ := fd.tupl
  have ul : us.length = ds.length := dp_len hds
  cases hall0 : ds.all nameD with
  | false =>
    have nop : ¬ RisP m (.tuple ds) := fun ⟨ns, e, h⟩ => by
      rw [PyData.tuple.inj e, all_names] at hall0
      unfold risS namesS at h
      rw [hall0] at h
      simp at h
    refine ⟨_, rfl, .tuple ds, .tup ha hds, true, rfl, iteF ?_⟩
    refine ⟨_, rfl, a, _, rfl, .inr ha, _, rfl, _, _, rfl, rfl, _, rfl, ?_⟩
    by_cases hlen : m ≤ us.length
    · rw [decide_eq_false (by omega)]
      refine iteF ⟨_, rfl, a, rfl, ⟨_, ha⟩, fun Z hZ => ?_⟩
      refine lc_ones (n := ds.length) (J := Itt K a) (fun i => match ds[i]? with | some x => !nameD x | none => false) hZ (by rw [sizeLine_eq]; omega) (fun i H1 hi s1 => ⟨_, _, same_seqT s1 ha, List.getElem?_eq_getElem (by omega)⟩) (fun H1 s1 => ⟨_, same_seqT s1 ha, by omega⟩) ?_ ?_
      · rintro i y H1 H' F hi s1 ⟨rfl, yx⟩ kk
        obtain ⟨z, hz, hy⟩ := dpAll_get hds (yx _ (same_seqT s1 ha))
        refine ⟨rfl, y, rfl, y, nameD z, rfl, name_v (dp_same s1 hy) (fds z (List.mem_of_getElem? hz)), fun H4 s4 => ⟨_, rfl, ?_⟩⟩
        have q := kk H4 s4
        rw [hz] at q
        exact q
      · intro c H1 s1 e hn hz
        have c0 : ¬ c = 0 := fun q => by
          have w := hz.mp q
          rw [List.all_eq_false] at hall0
          obtain ⟨x, hx, hb⟩ := hall0
          obtain ⟨i, hi, ei⟩ := List.mem_iff_getElem.mp hx
          have v := w i hi
          rw [List.getElem?_eq_getElem hi, ei] at v
          exact hb (by simpa using v)
        refine ones_ne e fun H2 s2 => ⟨_, rfl, ?_⟩
        rw [decide_eq_false c0]
        exact iteT (k9 false H2 (s1.trans s2) (f_iff nop))
    · rw [decide_eq_true (by omega)]
      exact iteT (k9 false H (Same.refl H) (f_iff nop))
  | true =>
  obtain ⟨ns, rfl, hall1⟩ := names_all_of hall0
  obtain rfl := dp_strs hds
  have hl : ns.length ≤ 4000 := by
    rw [List.length_map] at dl
    omega
  have hm : ∀ x ∈ ns, x.length ≤ 100000 := fun x hx => by
    have := name_len (List.all_eq_true.mp hall1 x hx)
    omega
  have k : ∀ H', Same H H' → Q (.bl (risS m ns)) H' := fun H' s => k9 _ H' s ⟨fun z => ⟨ns, rfl, z⟩, fun ⟨ms, e, z⟩ => by rw [strs_inj (PyData.tuple.inj e)]; exact z⟩
  have no : ∀ H', Same H H' → risS m ns = false → Q (.bl false) H' := fun H' s e => by
    have z := k H' s
    rw [e] at z
    exact z
  refine ⟨_, rfl, .tuple (ns.map .str), .tup ha (dpAll_strs ns), true, rfl, iteF ?_⟩
  refine ⟨_, rfl, a, _, rfl, .inr ha, _, rfl, _, _, rfl, rfl, _, rfl, ?_⟩
  rw [List.length_map]
  by_cases hlen : m ≤ ns.length
  · rw [decide_eq_false (by omega)]
    refine iteF ⟨_, rfl, a, rfl, ⟨_, ha⟩, fun Z hZ => ?_⟩
    refine lc_ones (n := ns.length) (J := Itt K a) (fun i => match ns[i]? with | some x => !nameS x | none => false) hZ (by rw [sizeLine_eq]; omega) (fun i H1 hi s1 => ⟨_, _, same_seqT s1 ha, List.getElem?_eq_getElem (by simpa using hi)⟩) (fun H1 s1 => ⟨_, same_seqT s1 ha, by simp⟩) ?_ ?_
    · rintro i y H1 H' F hi s1 ⟨rfl, yx⟩ kk
      obtain ⟨z, hz, rfl⟩ := strs_at (yx _ (same_seqT s1 ha))
      refine ⟨rfl, .str z, rfl, .str z, nameS z, rfl, .inl ⟨z, rfl, hm z (List.mem_of_getElem? hz), rfl⟩, fun H4 s4 => ⟨_, rfl, ?_⟩⟩
      have q := kk H4 s4
      rw [hz] at q
      exact q
    · intro n H1 s1 e hn hz
      have eall : ns.all nameS = decide (n = 0) := by
        rw [Bool.eq_iff_iff, decide_eq_true_eq, hz, List.all_eq_true]
        constructor
        · intro h i hi
          rw [List.getElem?_eq_getElem hi]
          show (!nameS _) = false
          rw [h _ (List.getElem_mem _)]
          rfl
        · intro h c hm
          obtain ⟨i, hi⟩ := List.getElem?_of_mem hm
          have q := h i (List.getElem?_eq_some_iff.mp hi).1
          rw [hi] at q
          simpa using q
      refine ones_ne e fun H2 s2 => ⟨_, rfl, ?_⟩
      have s12 := s1.trans s2
      have er : risS m ns = (ns.all nameS && riseS ns) := by
        unfold risS namesS
        rw [decide_eq_true hlen]
        rfl
      rw [← eall]
      cases hall : ns.all nameS with
      | false => exact iteT (no _ s12 (by rw [er, hall]; rfl))
      | true =>
        rw [hall, Bool.true_and] at er
        have ha2 := same_seqT s12 ha
        refine iteF ⟨_, rfl, a, _, rfl, .inr ha2, fun l hl2 => ?_⟩
        have s3 := same_upd (o := .lst (ns.map V.str)) hl2
        refine ⟨_, rfl, a, ns, rfl, .inr (same_seqT s3 ha2), by rw [show scanBound = 4096 from rfl]; omega, fun ls q nd2 m2 l2 hq => ?_⟩
        have s4 := same_upd (o := TxO P w q ls) hq
        refine ⟨q, ls, rfl, upd_same, by rw [show scanBound = 4096 from rfl]; omega, fun ys p pm so hp => ?_⟩
        have s5 := same_upd (o := .lst (ys.map V.str)) hp
        have pl : Places ys ns := ⟨pm.nodup_iff.mpr nd2, fun z => by rw [pm.mem_iff, m2], so⟩
        have an : ∀ x ∈ ns, nameS x = true := fun x hx => List.all_eq_true.mp hall x hx
        refine ⟨.list (ns.map .str), .list (ys.map .str), .lst (SqL.of (s5 _ _ (s4 _ _ upd_same))) (dpAll_strs ns), .lst (SqL.of upd_same) (dpAll_strs ys), names_sh an, names_sh (fun x hx => an x ((pl.2.1 x).mp hx)), ?_⟩
        rw [eqv_strs, rise_iff pl, ← er]
        exact k _ (s12.trans (s3.trans (s4.trans s5)))
  · rw [decide_eq_true (by omega)]
    refine iteT (no _ (Same.refl _) ?_)
    unfold risS
    rw [decide_eq_false hlen]
    rfl
def spLess0 (K : PySem.W.Frag) : Sp := fun vs H Q _ => ∃ (v : V) (n : Num) (j : Int), vs = [v, .int j] ∧ NumAt K H v n ∧ j.natAbs < 1000 ∧ Q (.bl (decide (n.top * 1 < j * n.low))) H
theorem sc_ct_less : FnScope ["one", "other"] ["one", "other"] (defScope sL_ct_less) := ⟨rfl, rfl, rfl, by decide +kernel, rfl, by decide +kernel, by decide +kernel⟩
theorem ok_ct_less (D : Dn K mg "_law_ct_less" sL_ct_less) (B1 : Ok P w K mg base L2.CX0 1 "_law_ct_top" ["item"] (spTop K Num.top)) (B2 : Ok P w K mg base L2.CX0 1 "_law_ct_low" ["item"] (spTop K Num.low)) :
    Ok P w K mg base L2.CX0 2 "_law_ct_less" ["one", "other"] (spLess0 K) := by
  obtain ⟨_, _, g_ct_top, k_ct_top, b_ct_top, F_ct_top⟩ := B1.ex
  obtain ⟨_, _, g_ct_low, k_ct_low, b_ct_low, F_ct_low⟩ := B2.ex
  refine Ok.mk0 D sc_ct_less (fun vs H Q E h => ?_) (fun _ _ _ _ _ _ us hl => match us, hl with | [_, _], _ => rfl) (fun f cdv A outer s H vs Q E hr h => ?_)
  · obtain ⟨v, n, j, rfl, _⟩ := h
    rfl
  obtain ⟨v, n, j, rfl, hn, hj, k⟩ := h
  refine ⟨_, (pss_one (ps_ret (pe_cmpR op_lt (pe_op op_mul (pe_call F_ct_top hr rfl g_ct_top k_ct_top b_ct_top .nil pass0 (pa_cons (pv 0) pa_nil)) (pe_call F_ct_low hr rfl g_ct_low k_ct_low b_ct_low .nil pass0 (pa_cons (pv 1) pa_nil))) (pe_op op_mul (pe_call F_ct_top hr rfl g_ct_top k_ct_top b_ct_top .nil pass0 (pa_cons (pv 1) pa_nil)) (pe_call F_ct_low hr rfl g_ct_low k_ct_low b_ct_low .nil pass0 (pa_cons (pv 0) pa_nil))) (nomark _)))), ?_⟩
  exact ⟨_, rfl, v, n, rfl, hn, _, rfl, _, .w j, rfl, rfl, _, _, rfl, rfl, (.inr ⟨by show -(2 ^ 64) < (1 : Int); decide, by show (1 : Int) < 2 ^ 64; decide⟩), _, rfl, _, .w j, rfl, rfl, _, rfl, v, n, rfl, hn, _, _, rfl, rfl, .inl ⟨by show -(2 ^ 64) < j; omega, by show j < 2 ^ 64; omega⟩, _, _, rfl, rfl, k⟩
theorem sc_ct_is_number : FnScope ["item", "one"] ["item"] (defScope sL_ct_is_number) := ⟨rfl, rfl, rfl, by decide +kernel, rfl, by decide +kernel, by decide +kernel⟩
theorem ok_ct_is_numberP (D : Dn K mg "_law_ct_is_number" sL_ct_is_number) (B1 : Ok P w K mg base L2.CX0 1 "_law_ct_gcd" ["one", "other"] spGcd) (h_isinstance : mg "isinstance" = none) (h_tuple : mg "tuple" = none) (h_int : mg "int" = none) (h_bool : mg "bool" = none) (h_len : mg "len" = none) :
    Ok P w K mg base L2.CX0 2 "_law_ct_is_number" ["item"] (spNumP K Num.ok) := by
  obtain ⟨_, _, g_ct_gcd, k_ct_gcd, b_ct_gcd, F_ct_gcd⟩ := B1.ex
  refine Ok.mk0 D sc_ct_is_number (fun vs H Q E h => ?_) (fun _ _ _ _ _ _ us hl => match us, hl with | [_], _ => rfl) (fun f cdv A outer s H vs Q E hr h => ?_)
  · obtain ⟨v, _, _, rfl, _⟩ := h
    rfl
  obtain ⟨v, d, n, rfl, hv, fd, k⟩ := h
  have nd := sc_ct_is_number.nd
  have hu64 := hr.units
  refine ⟨_, (pss_cons (ps_if (pt_val (pe_isD "int" rfl h_isinstance h_int (pv 0)))
      (pss_one (ps_ret (pe_not (pe_isD "bool" rfl h_isinstance h_bool (pv 0)))))
      pss_nil)
    (pss_cons (ps_if (PW.pt (pw_or (pt_not (pt_val (pe_isD "tuple" rfl h_isinstance h_tuple (pv 0)))) (pw_or1 (pt_cmpR op_ne (pe_lenS rfl h_len (pv 0)) pe_int (nomark _)))))
      (pss_one (ps_ret pe_bl))
      pss_nil)
    (pss_cons (ps_if (pt_cmpR (op_neD hu64) (pe_lc (own := [("one", 1)]) (g := gName 1) rfl nd (pi_tup (pv 0)) (blkOk_by (own := [("one", 1)]) (N := ["item", "one"]) (sc := defScope sL_ct_is_number) (by decide +kernel)) (fun _ _ _ _ _ => pg_name (i := 1) nd rfl (Or.inl rfl)) (fun _ _ _ _ _ => pts_one (PW.pt (pw_or (pt_not (pt_val (pe_isD "int" rfl h_isinstance h_int (pv 1)))) (pw_or1 (pt_val (pe_isD "bool" rfl h_isinstance h_bool (pv 1))))))) (fun _ _ _ _ _ => pe_int)) (pe_lst pa_nil) (nomark _))
      (pss_one (ps_ret pe_bl))
      pss_nil)
    (pss_one (ps_ret (pe_and (pe_cmpR op_ge (pe_ix ix_tup (pv 0) pe_int (fun _ _ => rfl)) pe_int (nomark _)) (pe_one (pe_cmpR op_eq (pe_call F_ct_gcd hr rfl g_ct_gcd k_ct_gcd b_ct_gcd .nil pass0 (pa_cons (pe_ix ix_tup (pv 0) pe_int (fun _ _ => rfl)) (pa_cons (pe_ix ix_tup (pv 0) pe_int (fun _ _ => rfl)) pa_nil))) pe_int (nomark _))))))))), ?_⟩
  refine ⟨_, rfl, d, hv, _, rfl, ?_⟩
  cases hi : isTy (tagOf d) "int" with
  | true =>
    refine iteT ⟨_, rfl, d, hv, _, rfl, ?_⟩
    refine k _ H (Same.refl H) ?_
    cases hv with
    | non => cases hi
    | bl b => exact f_iff (num_flat rfl rfl)
    | int i => exact t_iff ⟨.w i, rfl, rfl⟩
    | str x => cases hi
    | lst a b => cases hi
    | tup a b => cases hi
  | false =>
  have hw : isW d = false := by
    unfold isW
    rw [hi, Bool.false_and]
  refine iteF ⟨_, rfl, d, hv, _, rfl, ?_⟩
  cases ht : isTy (tagOf d) "tuple" with
  | false => exact iteT (iteT (k false H (Same.refl H) (f_iff (num_flat hw ht))))
  | true =>
  refine iteF ?_
  cases hv with
  | non => cases ht
  | bl b => cases ht
  | int i => cases ht
  | str x => cases ht
  | lst a b => cases ht
  | @tup a us ds ha hds =>
  have ul : us.length = ds.length := dp_len hds
  refine ⟨_, rfl, a, _, rfl, .inr ha, rfl, _, rfl, ?_⟩
  by_cases l2 : ds.length = 2
  rotate_left
  · refine iteE ?_ (k false H (Same.refl H) (f_iff (num_lenD l2)))
    rw [decide_eq_false (fun z => l2 (by have := V.int.inj z; omega))]
    rfl
  refine iteG (by rw [decide_eq_true (by rw [ul, l2]; rfl)]; rfl) ?_
  refine ⟨_, rfl, a, rfl, ⟨_, ha⟩, fun Z hZ => ?_⟩
  refine lc_ones (n := ds.length) (J := Itt K a) (fun i => match ds[i]? with | some x => !isW x | none => false) hZ (by rw [sizeLine_eq]; omega) (fun i H1 hi s1 => ⟨_, _, same_seqT s1 ha, List.getElem?_eq_getElem (by omega)⟩) (fun H1 s1 => ⟨_, same_seqT s1 ha, by omega⟩) ?_ ?_
  · rintro i y H1 H' F hi2 s1 ⟨rfl, yx⟩ kk
    obtain ⟨z, hz, hy⟩ := dpAll_get hds (yx _ (same_seqT s1 ha))
    have q : F (!isW z) H' := by
      have q := kk _ (Same.refl _)
      rw [hz] at q
      exact q
    have hy1 := dp_same s1 hy
    refine ⟨rfl, _, rfl, z, hy1, _, rfl, ?_⟩
    cases e1 : isTy (tagOf z) "int" with
    | false =>
      refine iteT ?_
      have : (!isW z) = true := by unfold isW; rw [e1]; rfl
      rw [this] at q
      exact q
    | true =>
      refine iteF ⟨_, rfl, z, hy1, _, rfl, ?_⟩
      have : (!isW z) = isTy (tagOf z) "bool" := by unfold isW; rw [e1]; cases isTy (tagOf z) "bool" <;> rfl
      rw [this] at q
      exact q
  intro c H1 s1 e hn hz
  refine ones_ne e fun H2 s2 => ⟨_, rfl, ?_⟩
  have s12 := s1.trans s2
  obtain ⟨d1, d2, rfl⟩ := two_of l2
  obtain ⟨u1, u2, rfl, h1, h2⟩ := dp_two hds
  by_cases c0 : c = 0
  rotate_left
  · rw [decide_eq_false c0]
    refine iteT (k false H2 s12 (f_iff (num_two ?_)))
    cases w1 : isW d1 with
    | false => exact .inl rfl
    | true =>
      cases w2 : isW d2 with
      | false => exact .inr rfl
      | true =>
        refine absurd (hz.mpr fun i hi => ?_) c0
        match i, hi with
        | 0, _ => show (!isW d1) = false; rw [w1]; rfl
        | 1, _ => show (!isW d2) = false; rw [w2]; rfl
  rw [decide_eq_true c0]
  have w0 := hz.mp c0
  have w1 : isW d1 = true := by simpa using w0 0 (by simp)
  have w2 : isW d2 = true := by simpa using w0 1 (by simp)
  obtain ⟨t, rfl⟩ := isW_int w1
  obtain ⟨b, rfl⟩ := isW_int w2
  cases h1
  cases h2
  have ha2 := same_seqT s12 ha
  refine iteF ⟨_, rfl, a, _, 1, _, rfl, rfl, ha2, rfl, _, _, rfl, rfl, _, rfl, ?_⟩
  have ek : Num.ok (.q t b) = (decide (2 ≤ b) && decide ((Nat.gcd t.natAbs b.natAbs : Int) = 1)) := rfl
  have z : ∀ bb, bb = Num.ok (.q t b) → Q (.bl bb) H2 := fun bb e => k bb H2 s12 (by rw [e]; exact num_q.symm)
  by_cases h2 : 2 ≤ b
  · rw [decide_eq_true h2] at ek ⊢
    rw [Bool.true_and, ← deq_int] at ek
    exact iteT ⟨_, rfl, a, _, 0, _, rfl, rfl, ha2, rfl, _, rfl, a, _, 1, _, rfl, rfl, ha2, rfl, t, b, rfl, rfl, z _ ek.symm⟩
  · rw [decide_eq_false h2] at ek ⊢
    exact iteF (z _ ek.symm)
theorem sc_an_is_wide : FnScope ["thing"] ["thing"] (defScope sL_an_is_wide) := ⟨rfl, rfl, rfl, by decide +kernel, rfl, by decide +kernel, by decide +kernel⟩
theorem ok_an_is_wideP (D : Dn K mg "_law_an_is_wide" sL_an_is_wide) (B1 : Ok P w K mg base L2.CX0 2 "_law_ct_is_number" ["item"] (spNumP K Num.ok)) (B2 : Ok P w K mg base L2.CX0 2 "_law_ct_less" ["one", "other"] (spLess0 K)) : Ok P w K mg base L2.CX0 3 "_law_an_is_wide" ["thing"] (spNumP K Num.ok0) := by
  obtain ⟨_, _, g_ct_is_number, k_ct_is_number, b_ct_is_number, F_ct_is_number⟩ := B1.ex
  obtain ⟨_, _, g_ct_less, k_ct_less, b_ct_less, F_ct_less⟩ := B2.ex
  refine Ok.mk0 D sc_an_is_wide (fun vs H Q E h => ?_) (fun _ _ _ _ _ _ us hl => match us, hl with | [_], _ => rfl) (fun f cdv A outer s H vs Q E hr h => ?_)
  · obtain ⟨x, _, _, rfl, _⟩ := h
    rfl
  obtain ⟨v, d, n, rfl, hv, fd, k⟩ := h
  refine ⟨_, (pss_one (ps_ret (pe_and (pe_call F_ct_is_number hr rfl g_ct_is_number k_ct_is_number b_ct_is_number .nil pass0 (pa_cons (pv 0) pa_nil)) (pe_one (pe_not (pe_call F_ct_less hr rfl g_ct_less k_ct_less b_ct_less .nil pass0 (pa_cons (pv 0) (pa_cons pe_int pa_nil)))))))), ?_⟩
  refine ⟨_, rfl, v, d, n, rfl, hv, fd, fun b H1 s1 hb => ⟨_, rfl, ?_⟩⟩
  cases b with
  | false =>
    refine iteF (k false H1 s1 (f_iff fun ⟨m, e, h0⟩ => ?_))
    have : m.ok = true := by
      unfold Num.ok0 at h0
      rw [Bool.and_eq_true] at h0
      exact h0.1
    exact Bool.noConfusion (hb.mpr ⟨m, e, this⟩)
  | true =>
    obtain ⟨m, rfl, hm⟩ := hb.mp rfl
    have hn := dp_num (dp_same s1 hv)
    refine iteT ⟨_, rfl, v, m, 0, rfl, hn, by decide, _, rfl, ?_⟩
    refine k _ H1 s1 ?_
    have e1 : (!decide (m.top * 1 < 0 * m.low)) = m.ok0 := by
      unfold Num.ok0
      rw [hm, Bool.true_and, Int.mul_one, Int.zero_mul]
      by_cases q : 0 ≤ m.top <;> simp [q] <;> omega
    rw [e1]
    constructor
    · exact fun h => ⟨m, rfl, h⟩
    · rintro ⟨m', e, h0⟩
      rw [num_inj e]
      exact h0
end
end K05
set_option maxHeartbeats 2000000
set_option exponentiation.threshold 10000
namespace K05
open PySem PySem.Spec PyProof.Rows L2 Hx RZ
/-! ### any data, by the law: parts, nets -/
theorem strs_are {acc : List V} {ss : List Str} (hl : acc.length = ss.length) (h : ∀ (i : Nat) (y : V), acc[i]? = some y → ss[i]?.map V.str = some y) : acc = ss.map V.str := by
  refine List.ext_getElem? fun i => ?_
  rw [List.getElem?_map]
  by_cases hi : i < acc.length
  · rw [List.getElem?_eq_getElem hi, h i _ (List.getElem?_eq_getElem hi)]
  · rw [List.getElem?_eq_none (by omega), List.getElem?_eq_none (by omega)]
    rfl
theorem eqv_strL {d : PyData} {s : Str} : PyData.eqv (.str s) d = isS d s := by
  cases d with
  | str x =>
    show (s == x) = decide (x = s)
    rw [Bool.eq_iff_iff, decide_eq_true_eq, beq_iff_eq]
    exact eq_comm
  | none => rfl
  | bool b => rfl
  | int i => rfl
  | list l => rfl
  | tuple l => rfl
  | dict l => rfl
theorem three_words {d : PyData} : ([PyData.str PIPE, .str LEAD, .str HUB].any fun z => PyData.eqv z d) = (isS d PIPE || (isS d LEAD || isS d HUB)) := by
  simp only [List.any_cons, List.any_nil, Bool.or_false, eqv_strL]
theorem part_word {d0 : PyData} {ds : List PyData} (h1 : d0 ≠ .str PIPE) (h2 : d0 ≠ .str LEAD) (h3 : d0 ≠ .str HUB) : ¬ PartP (.tuple (d0 :: ds)) := fun ⟨r, e, R⟩ => by
  cases R with
  | two k x y n _ _ hk _ =>
    have e2 : d0 :: ds = [.str k, .str x, .str y, n.data] := PyData.tuple.inj e
    rcases hk with ⟨rfl, _⟩ | ⟨rfl, _⟩
    · exact h1 (List.cons.inj e2).1
    · exact h2 (List.cons.inj e2).1
  | hub ns n _ _ _ =>
    have e2 : d0 :: ds = [.str HUB, .tuple (ns.map .str), n.data] := PyData.tuple.inj e
    exact h3 (List.cons.inj e2).1
theorem part_hub {ds : List PyData} (h : ds.length ≠ 2) : ¬ PartP (.tuple (.str HUB :: ds)) := fun ⟨r, e, R⟩ => by
  cases R with
  | two k x y n _ _ hk _ =>
    have e2 : .str HUB :: ds = [.str k, .str x, .str y, n.data] := PyData.tuple.inj e
    have e3 := PyData.str.inj (List.cons.inj e2).1
    rcases hk with ⟨q, _⟩ | ⟨q, _⟩
    · exact pipe_hub (q.symm.trans e3.symm)
    · exact lead_hub (q.symm.trans e3.symm)
  | hub ns n _ _ _ =>
    have e2 : .str HUB :: ds = [.str HUB, .tuple (ns.map .str), n.data] := PyData.tuple.inj e
    rw [(List.cons.inj e2).2] at h
    exact h rfl
theorem part_flat {k : Str} {ds : List PyData} (nh : k ≠ HUB) (h : ds.length ≠ 3) : ¬ PartP (.tuple (.str k :: ds)) := fun ⟨r, e, R⟩ => by
  cases R with
  | two k2 x y n _ _ hk _ =>
    have e2 : .str k :: ds = [.str k2, .str x, .str y, n.data] := PyData.tuple.inj e
    rw [(List.cons.inj e2).2] at h
    exact h rfl
  | hub ns n _ _ _ =>
    have e2 : .str k :: ds = [.str HUB, .tuple (ns.map .str), n.data] := PyData.tuple.inj e
    exact nh (PyData.str.inj (List.cons.inj e2).1)
noncomputable def partB (d : PyData) : Bool := @decide (PartP d) (Classical.propDecidable _)
theorem partB_iff {d : PyData} : partB d = true ↔ PartP d := by
  unfold partB
  exact @decide_eq_true_iff _ (Classical.propDecidable _)
theorem risP_iff {d : PyData} : RisP 2 d ↔ ∃ ns : List Str, d = .tuple (ns.map .str) ∧ namesS ns = true ∧ 2 ≤ ns.length := by
  constructor
  · rintro ⟨ns, e, h⟩
    unfold risS at h
    rw [Bool.and_eq_true, decide_eq_true_eq] at h
    exact ⟨ns, e, h.2, h.1⟩
  · rintro ⟨ns, e, h1, h2⟩
    refine ⟨ns, e, ?_⟩
    unfold risS
    rw [h1, decide_eq_true h2]
    rfl
section
variable {P : Program} {w : World} {K : PySem.W.Frag} {mg : Str → Option Value} {base : Heap}
theorem sc_an_is_part : FnScope ["thing"] ["thing"] (defScope sL_an_is_part) := ⟨rfl, rfl, rfl, by decide +kernel, rfl, by decide +kernel, by decide +kernel⟩
theorem ok_an_is_partP (D : Dn K mg "_law_an_is_part" sL_an_is_part) (B0 : Ok P w K mg base L2.CX0 2 "_law_an_rising" ["thing", "least"] (spRisP K)) (B1 : Ok P w K mg base L2.CX0 3 "_law_an_is_wide" ["thing"] (spNumP K Num.ok0)) (B2 : Ok P w K mg base L2.CX0 1 "_law_an_is_word" ["thing"] (spNameX K))
    (h_isinstance : mg "isinstance" = none) (h_tuple : mg "tuple" = none) (h_len : mg "len" = none) : Ok P w K mg base L2.CX0 4 "_law_an_is_part" ["thing"] (spData K PartP) := by
  obtain ⟨_, _, g_an_rising, k_an_rising, b_an_rising, F_an_rising⟩ := B0.ex
  obtain ⟨_, _, g_an_is_wide, k_an_is_wide, b_an_is_wide, F_an_is_wide⟩ := B1.ex
  obtain ⟨_, _, g_an_is_word, k_an_is_word, b_an_is_word, F_an_is_word⟩ := B2.ex
  refine Ok.mk0 D sc_an_is_part (fun vs H Q E h => ?_) (fun _ _ _ _ _ _ us hl => match us, hl with | [_], _ => rfl) (fun f cdv A outer s H vs Q E hr h => ?_)
  · obtain ⟨x, _, _, rfl, _⟩ := h
    rfl
  obtain ⟨v, d, n, rfl, hv, fd, n40, k⟩ := h
  have hu65 : (A.deeper (envOfC "_law_an_is_part" (defScope sL_an_is_part) s.heap.objs.size f cdv)).units + 65 < cLine := by
    have z := hr.un
    omega
  have hr2 := hr.mono (show 2 ≤ 3 by decide)
  have hr1 := hr.mono (show 1 ≤ 3 by decide)
  refine ⟨_, (pss_cons (ps_if (PW.pt (pw_or (pt_not (pt_val (pe_isD "tuple" rfl h_isinstance h_tuple (pv 0)))) (pw_or (pt_cmpR op_eq (pe_lenS rfl h_len (pv 0)) pe_int (nomark _)) (pw_or1 (pt_cmpR (op_notInD hu65) (pe_ix ix_tup (pv 0) pe_int (fun _ _ => rfl)) (pe_lst (pa_cons pe_str (pa_cons pe_str (pa_cons pe_str pa_nil)))) (by rfl))))))
      (pss_one (ps_ret pe_bl))
      pss_nil)
    (pss_cons (ps_if (pt_cmpR op_eq (pe_ix ix_tup (pv 0) pe_int (fun _ _ => rfl)) pe_str (nomark _))
      (pss_one (ps_ret (pe_and (pe_cmpR op_eq (pe_lenS rfl h_len (pv 0)) pe_int (nomark _)) (pe_and (pe_call F_an_rising hr2 rfl g_an_rising k_an_rising b_an_rising .nil pass0 (pa_cons (pe_ix ix_tup (pv 0) pe_int (fun _ _ => rfl)) (pa_cons pe_int pa_nil))) (pe_one (pe_call F_an_is_wide hr rfl g_an_is_wide k_an_is_wide b_an_is_wide .nil pass0 (pa_cons (pe_ix ix_tup (pv 0) pe_int (fun _ _ => rfl)) pa_nil)))))))
      pss_nil)
    (pss_cons (ps_if (PW.pt (pw_or (pt_cmpR op_ne (pe_lenS rfl h_len (pv 0)) pe_int (nomark _)) (pw_or (pt_not (pt_val (pe_call F_an_is_word hr1 rfl g_an_is_word k_an_is_word b_an_is_word .nil pass0 (pa_cons (pe_ix ix_tup (pv 0) pe_int (fun _ _ => rfl)) pa_nil)))) (pw_or1 (pt_not (pt_val (pe_call F_an_is_word hr1 rfl g_an_is_word k_an_is_word b_an_is_word .nil pass0 (pa_cons (pe_ix ix_tup (pv 0) pe_int (fun _ _ => rfl)) pa_nil))))))))
      (pss_one (ps_ret pe_bl))
      pss_nil)
    (pss_cons (ps_if (PW.pt (pw_or (pt_cmpR op_eq (pe_ix ix_tup (pv 0) pe_int (fun _ _ => rfl)) (pe_ix ix_tup (pv 0) pe_int (fun _ _ => rfl)) (nomark _)) (pw_or1 (PW.pt (pw_and (pt_cmpR op_eq (pe_ix ix_tup (pv 0) pe_int (fun _ _ => rfl)) pe_str (nomark _)) (pw_and1 (pt_cmpR op_gt_str (pe_ix ix_tup (pv 0) pe_int (fun _ _ => rfl)) (pe_ix ix_tup (pv 0) pe_int (fun _ _ => rfl)) (nomark _))))))))
      (pss_one (ps_ret pe_bl))
      pss_nil)
    (pss_one (ps_ret (pe_call F_an_is_wide hr rfl g_an_is_wide k_an_is_wide b_an_is_wide .nil pass0 (pa_cons (pe_ix ix_tup (pv 0) pe_int (fun _ _ => rfl)) pa_nil)))))))), ?_⟩
  have three : (3 : Nat) ≤ sizeLine := by rw [sizeLine_eq]; decide
  cases ht : isTy (tagOf d) "tuple" with
  | false => exact ⟨_, rfl, d, hv, false, congrArg V.bl ht, iteT (k false H (Same.refl H) (f_iff (notup_part ht)))⟩
  | true =>
  cases hv with
  | non => cases ht
  | bl b => cases ht
  | int i => cases ht
  | str x => cases ht
  | lst a b => cases ht
  | @tup a us ds ha hds =>
  obtain ⟨dl, fds⟩ := fd.tupl
  have ul : us.length = ds.length := dp_len hds
  refine ⟨_, rfl, .tuple ds, .tup ha hds, true, rfl, iteF ?_⟩
  refine ⟨_, rfl, a, _, rfl, .inr ha, rfl, _, rfl, ?_⟩
  rw [deq_int]
  cases hds with
  | nil => exact iteT (k false H (Same.refl H) (f_iff (part_lenD (by decide) (by decide))))
  | @cons u0 us d0 ds h0 hds =>
  rw [decide_eq_false (by simp; omega)]
  have f0 := fds d0 List.mem_cons_self
  refine iteF ⟨_, rfl, a, _, 0, u0, rfl, rfl, ha, atI_nat (j := 0) rfl, three, fun p hp => ?_⟩
  have s1 := same_upd (o := .lst [.str PIPE, .str LEAD, .str HUB]) hp
  have e1 := upd_same (H := H) (a := p) (o := .lst [.str PIPE, .str LEAD, .str HUB])
  generalize upd H p (.lst [.str PIPE, .str LEAD, .str HUB]) = H1 at s1 e1 ⊢
  have shW : SeqAt.shaped (.list [.str PIPE, .str LEAD, .str HUB]) = true := by decide +kernel
  refine ⟨d0, [.str PIPE, .str LEAD, .str HUB], dp_same s1 h0, .lst (SqL.of e1) (.cons (.str _) (.cons (.str _) (.cons (.str _) .nil))), f0.sh.shaped (by omega), shW, _, rfl, ?_⟩
  rw [three_words]
  have ha1 := same_seqT s1 ha
  have hds1 := dpAll_same s1 hds
  rcases isS_or d0 HUB with ⟨ez, eh⟩ | ⟨ez, eh⟩
  · subst eh
    cases h0
    rw [ez, Bool.or_true, Bool.or_true]
    refine iteF ⟨_, rfl, a, _, 0, .str HUB, rfl, rfl, ha1, atI_nat (j := 0) rfl, rfl, true, congrArg V.bl (decide_eq_true rfl), iteT ?_⟩
    refine ⟨_, rfl, a, _, rfl, .inr ha1, rfl, ?_⟩
    have lu : us.length = ds.length := dp_len hds
    by_cases l2 : ds.length = 2
    rotate_left
    · refine ⟨false, congrArg V.bl (by rw [deq_int]; exact decide_eq_false (by simp; omega)), iteF (k false H1 s1 (f_iff (part_hub l2)))⟩
    refine ⟨true, congrArg V.bl (by rw [deq_int]; exact decide_eq_true (by simp; omega)), iteT ?_⟩
    obtain ⟨d1, d2, rfl⟩ := two_of l2
    obtain ⟨u1, u2, rfl, h1, h2⟩ := dp_two hds1
    have f1 := fds d1 (by simp)
    have f2 := fds d2 (by simp)
    refine ⟨_, rfl, a, _, 1, _, rfl, rfl, ha1, rfl, u1, d1, n, 2, rfl, h1, f1, fun b H2 s2 hb => ⟨_, rfl, ?_⟩⟩
    have s12 := s1.trans s2
    cases b with
    | false => exact iteF (k false H2 s12 (f_iff fun z => Bool.noConfusion (hb.mpr (risP_iff.mpr (part3.mp z).2.1))))
    | true =>
      have hn := risP_iff.mp (hb.mp rfl)
      refine iteT ⟨_, rfl, a, _, 2, _, rfl, rfl, same_seqT s2 ha1, rfl, u2, d2, n, rfl, dp_same s2 h2, f2, fun b H3 s3 hb3 => ?_⟩
      refine k b H3 (s12.trans s3) ?_
      rw [hb3, part3]
      exact ⟨fun z => ⟨rfl, hn, z⟩, fun z => z.2.2⟩
  rw [ez, Bool.or_false]
  by_cases hk : isS d0 PIPE = true ∨ isS d0 LEAD = true
  rotate_left
  · have n1 : isS d0 PIPE = false := Bool.eq_false_iff.mpr fun z => hk (.inl z)
    have n2 : isS d0 LEAD = false := Bool.eq_false_iff.mpr fun z => hk (.inr z)
    rw [n1, n2]
    exact iteT (k false H1 s1 (f_iff (part_word (fun z => hk (.inl (isS_iff.mpr z))) (fun z => hk (.inr (isS_iff.mpr z))) eh)))
  rw [show (isS d0 PIPE || isS d0 LEAD) = true by rcases hk with e | e <;> simp [e]]
  obtain ⟨kw, rfl⟩ : ∃ kw, d0 = .str kw := by
    rcases hk with e | e
    · exact ⟨_, isS_iff.mp e⟩
    · exact ⟨_, isS_iff.mp e⟩
  have nh : kw ≠ HUB := fun e => eh (by rw [e])
  have hk' : kw = PIPE ∨ kw = LEAD := by
    rcases hk with e | e
    · exact .inl (PyData.str.inj (isS_iff.mp e))
    · exact .inr (PyData.str.inj (isS_iff.mp e))
  cases h0
  refine iteF ⟨_, rfl, a, _, 0, .str kw, rfl, rfl, ha1, atI_nat (j := 0) rfl, rfl, false, congrArg V.bl (decide_eq_false fun q => nh (V.str.inj q)), iteF ?_⟩
  refine ⟨_, rfl, a, _, rfl, .inr ha1, rfl, _, rfl, ?_⟩
  have lu : us.length = ds.length := dp_len hds
  by_cases l3 : ds.length = 3
  rotate_left
  · refine iteE ?_ (k false H1 s1 (f_iff (part_flat nh l3)))
    rw [deq_int, decide_eq_false (by simp; omega)]
    rfl
  refine iteG (by rw [deq_int, decide_eq_true (by simp; omega)]; rfl) ?_
  obtain ⟨d1, d2, d3, rfl⟩ := three_of l3
  obtain ⟨u1, u2, u3, rfl, h1, h2, h3⟩ := dp_three hds1
  have f1 := fds d1 (by simp)
  have f2 := fds d2 (by simp)
  have f3 := fds d3 (by simp)
  refine ⟨_, rfl, a, _, 1, _, rfl, rfl, ha1, rfl, u1, nameD d1, rfl, name_v h1 f1, fun H2 s2 => ⟨_, rfl, ?_⟩⟩
  have s12 := s1.trans s2
  cases n1 : nameD d1 with
  | false =>
    refine iteT (k false H2 s12 (f_iff fun z => ?_))
    obtain ⟨x, y, rfl, rfl, q1, q2, _⟩ := part4.mp z
    rw [show nameD (.str x) = true from q1] at n1
    cases n1
  | true =>
  refine iteF ⟨_, rfl, a, _, 2, _, rfl, rfl, same_seqT s2 ha1, rfl, u2, nameD d2, rfl, name_v (dp_same s2 h2) f2, fun H3 s3 => ⟨_, rfl, ?_⟩⟩
  have s13 := s12.trans s3
  cases n2 : nameD d2 with
  | false =>
    refine iteT (k false H3 s13 (f_iff fun z => ?_))
    obtain ⟨x, y, rfl, rfl, q1, q2, _⟩ := part4.mp z
    rw [show nameD (.str y) = true from q2] at n2
    cases n2
  | true =>
  obtain ⟨x, rfl, hx⟩ := nameD_str n1
  obtain ⟨y, rfl, hy⟩ := nameD_str n2
  cases h1
  cases h2
  have ha3 := same_seqT (s2.trans s3) ha1
  have h33 := dp_same (s2.trans s3) h3
  refine iteF ⟨_, rfl, a, _, 1, .str x, rfl, rfl, ha3, rfl, _, rfl, a, _, 2, .str y, rfl, rfl, ha3, rfl, rfl, _, rfl, ?_⟩
  rw [deq_str]
  have no : ¬ ((kw = PIPE ∧ x.cps.toList < y.cps.toList) ∨ (kw = LEAD ∧ x ≠ y)) → Q (.bl false) H3 := fun nk => k false H3 s13 (f_iff fun z => by
    obtain ⟨x', y', ex, ey, _, _, hk, _⟩ := part4.mp z
    cases ex
    cases ey
    rcases hk with ⟨e, l⟩ | ⟨e, l⟩
    · exact nk (.inl ⟨PyData.str.inj e, l⟩)
    · exact nk (.inr ⟨PyData.str.inj e, l⟩))
  have wide : ((kw = PIPE ∧ x.cps.toList < y.cps.toList) ∨ (kw = LEAD ∧ x ≠ y)) → ∀ H4 b, Same H3 H4 → (b = true ↔ NumIs Num.ok0 d3) → Q (.bl b) H4 := fun nk H4 b s4 hb => k b H4 (s13.trans s4) (by
    rw [hb, part4]
    constructor
    · intro z
      refine ⟨x, y, rfl, rfl, hx, hy, ?_, z⟩
      rcases nk with ⟨e, l⟩ | ⟨e, l⟩
      · exact .inl ⟨by rw [e], l⟩
      · exact .inr ⟨by rw [e], l⟩
    · rintro ⟨_, _, _, _, _, _, _, z⟩
      exact z)
  by_cases exy : x = y
  · rw [decide_eq_true exy]
    refine iteT (no ?_)
    rintro (⟨_, l⟩ | ⟨_, l⟩)
    · rw [exy] at l
      exact lt_ir _ l
    · exact l exy
  rw [decide_eq_false exy]
  refine iteF ⟨_, rfl, a, _, 0, .str kw, rfl, rfl, ha3, rfl, rfl, _, rfl, ?_⟩
  rw [deq_str]
  rcases hk' with e | e
  · rw [decide_eq_true e]
    refine iteT ⟨_, rfl, a, _, 1, .str x, rfl, rfl, ha3, rfl, _, rfl, a, _, 2, .str y, rfl, rfl, ha3, rfl, x, y, rfl, rfl, _, rfl, ?_⟩
    by_cases hlt : y.cps.toList < x.cps.toList
    · rw [decide_eq_true hlt]
      refine iteT (no ?_)
      rintro (⟨_, l⟩ | ⟨q, _⟩)
      · exact lt_ir _ (lt_tr l hlt)
      · exact pipe_lead (e.symm.trans q)
    · rw [decide_eq_false hlt]
      refine iteF ⟨_, rfl, a, _, 3, u3, rfl, rfl, ha3, rfl, u3, d3, n, rfl, h33, f3, fun b H4 s4 hb => wide (.inl ⟨e, lt_or hlt fun q => exy (tl_inj q)⟩) H4 b s4 hb⟩
  · rw [decide_eq_false fun q => pipe_lead (q.symm.trans e)]
    exact iteF (iteF ⟨_, rfl, a, _, 3, u3, rfl, rfl, ha3, rfl, u3, d3, n, rfl, h33, f3, fun b H4 s4 hb => wide (.inr ⟨e, exy⟩) H4 b s4 hb⟩)
theorem sc_an_is_net : FnScope ["thing", "part", "words_here"] ["thing"] (defScope sL_an_is_net) := ⟨rfl, rfl, rfl, by decide +kernel, rfl, by decide +kernel, by decide +kernel⟩
theorem ok_an_is_netP (D : Dn K mg "_law_an_is_net" sL_an_is_net) (B0 : Ok P w K mg base L2.CX0 2 "_law_an_rising" ["thing", "least"] (spRisP K)) (B1 : Ok P w K mg base L2.CX0 4 "_law_an_is_part" ["thing"] (spData K PartP)) (B2 : Ok P w K mg base L2.CX0 1 "_law_an_every" ["net_here"] (spEvery K))
    (h_isinstance : mg "isinstance" = none) (h_tuple : mg "tuple" = none) (h_len : mg "len" = none) : Ok P w K mg base L2.CX0 5 "_law_an_is_net" ["thing"] (spNetP K) := by
  obtain ⟨_, _, g_an_rising, k_an_rising, b_an_rising, F_an_rising⟩ := B0.ex
  obtain ⟨_, _, g_an_is_part, k_an_is_part, b_an_is_part, F_an_is_part⟩ := B1.ex
  obtain ⟨_, _, g_an_every, k_an_every, b_an_every, F_an_every⟩ := B2.ex
  refine Ok.mk0 D sc_an_is_net (fun vs H Q E h => ?_) (fun _ _ _ _ _ _ us hl => match us, hl with | [_], _ => rfl) (fun f cdv A outer s H vs Q E hr h => ?_)
  · obtain ⟨x, _, rfl, _⟩ := h
    rfl
  obtain ⟨v, d, rfl, hv, fd, k⟩ := h
  have nd := sc_an_is_net.nd
  have hu64 := hr.units
  have hr2 := hr.mono (show 2 ≤ 4 by decide)
  have hr1 := hr.mono (show 1 ≤ 4 by decide)
  refine ⟨_, (pss_cons (ps_if (PW.pt (pw_or (pt_not (pt_val (pe_isD "tuple" rfl h_isinstance h_tuple (pv 0)))) (pw_or1 (pt_cmpR op_ne (pe_lenS rfl h_len (pv 0)) pe_int (nomark _)))))
      (pss_one (ps_ret pe_bl))
      pss_nil)
    (pss_cons (ps_if (PW.pt (pw_or (pt_not (pt_val (pe_call F_an_rising hr2 rfl g_an_rising k_an_rising b_an_rising .nil pass0 (pa_cons (pe_ix ix_tup (pv 0) pe_int (fun _ _ => rfl)) (pa_cons pe_int pa_nil))))) (pw_or (pt_cmpR op_gt (pe_lenS rfl h_len (pe_ix ix_tup (pv 0) pe_int (fun _ _ => rfl))) pe_int (nomark _)) (pw_or1 (pt_not (pt_val (pe_isD "tuple" rfl h_isinstance h_tuple (pe_ix ix_tup (pv 0) pe_int (fun _ _ => rfl)))))))))
      (pss_one (ps_ret pe_bl))
      pss_nil)
    (pss_cons (ps_if (PW.pt (pw_or (pt_cmpR op_gt (pe_lenS rfl h_len (pe_ix ix_tup (pv 0) pe_int (fun _ _ => rfl))) pe_int (nomark _)) (pw_or1 (pt_cmpR (op_neD hu64) (pe_lc (own := [("part", 1)]) (g := gName 1) rfl nd (pi_tup (pe_ix ix_tup (pv 0) pe_int (fun _ _ => rfl))) (blkOk_by (own := [("part", 1)]) (N := ["thing", "part", "words_here"]) (sc := defScope sL_an_is_net) (by decide +kernel)) (fun _ _ _ _ _ => pg_name (i := 1) nd rfl (Or.inl rfl)) (fun _ _ _ _ _ => pts_one (pt_not (pt_val (pe_call F_an_is_part hr rfl g_an_is_part k_an_is_part b_an_is_part .nil pass0 (pa_cons (pv 1) pa_nil))))) (fun _ _ _ _ _ => pe_int)) (pe_lst pa_nil) (nomark _)))))
      (pss_one (ps_ret pe_bl))
      pss_nil)
    (pss_cons (ps_setLc (i := 2) (own := [("part", 1)]) (g := gName 1) (tt := tYes) rfl nd rfl rfl (sw_true rfl rfl rfl (by decide +kernel)) (pi_tup (pe_ix ix_tup (pv 0) pe_int (fun _ _ => rfl))) (blkOk_by (own := [("part", 1)]) (N := ["thing", "part", "words_here"]) (sc := defScope sL_an_is_net) (by decide +kernel)) (fun _ _ _ _ _ => pg_name (i := 1) nd rfl (Or.inl rfl)) (fun _ _ _ _ _ => pts_nil) (fun _ _ _ _ _ => (pe_ix (ix_tupK (K := K) rfl) (pv 1) pe_int (fun _ _ => rfl))))
    (pss_one (ps_ret (pe_and (pe_not (pe_and (pe_cmpR op_in_seq pe_str (pv 2) (by rfl)) (pe_one (pe_cmpR op_in_seq pe_str (pv 2) (by rfl))))) (pe_one (pe_cmpR op_le (pe_lenS rfl h_len (pe_call F_an_every hr1 rfl g_an_every k_an_every b_an_every .nil pass0 (pa_cons (pv 0) pa_nil))) pe_int (nomark _)))))))))), ?_⟩
  cases ht : isTy (tagOf d) "tuple" with
  | false => exact ⟨_, rfl, d, hv, false, congrArg V.bl ht, iteT (k false H (Same.refl H) (f_iff (notup_net ht)))⟩
  | true =>
  cases hv with
  | non => cases ht
  | bl b => cases ht
  | int i => cases ht
  | str x => cases ht
  | lst a b => cases ht
  | @tup a us ds ha hds =>
  obtain ⟨dl, fds⟩ := fd.tupS
  have ul : us.length = ds.length := dp_len hds
  refine ⟨_, rfl, .tuple ds, .tup ha hds, true, rfl, iteF ?_⟩
  refine ⟨_, rfl, a, _, rfl, .inr ha, rfl, _, rfl, ?_⟩
  by_cases l2 : ds.length = 2
  rotate_left
  · refine iteE ?_ (k false H (Same.refl H) (f_iff (net_lenD l2)))
    rw [decide_eq_false (fun z => l2 (by have := V.int.inj z; omega))]
    rfl
  refine iteG (by rw [decide_eq_true (by rw [ul, l2]; rfl)]; rfl) ?_
  obtain ⟨d1, d2, rfl⟩ := two_of l2
  obtain ⟨u1, u2, rfl, h1, h2⟩ := dp_two hds
  have f1 := fds d1 (by simp)
  have f2 := fds d2 (by simp)
  refine ⟨_, rfl, a, _, 0, _, rfl, rfl, ha, rfl, u1, d1, 11, 2, rfl, h1, f1, fun b H1 s1 hb => ⟨_, rfl, ?_⟩⟩
  have ntap : (∀ ns : List Str, d1 = .tuple (ns.map .str) → tapsS ns = false) → ∀ H', Same H H' → Q (.bl false) H' := fun h H' s => k false H' s (f_iff (net_tapsD fun ⟨ns, e, z⟩ => by rw [h ns e] at z; cases z))
  cases b with
  | false =>
    refine iteT (ntap (fun ns e => ?_) H1 s1)
    cases q : tapsS ns with
    | false => rfl
    | true =>
      have z : RisP 2 d1 := by
        unfold tapsS at q
        simp only [Bool.and_eq_true, decide_eq_true_eq] at q
        exact risP_iff.mpr ⟨ns, e, q.1, q.2.1⟩
      exact Bool.noConfusion (hb.mpr z)
  | true =>
  obtain ⟨taps, rfl, hn, t2⟩ := risP_iff.mp (hb.mp rfl)
  obtain ⟨t, rfl, htt⟩ := dp_words h1
  have ha1 := same_seqT s1 ha
  have ht1 := same_seqT s1 htt
  refine iteF ⟨_, rfl, a, _, 0, _, rfl, rfl, ha1, rfl, t, _, rfl, .inr ht1, _, _, rfl, rfl, _, rfl, ?_⟩
  rw [List.length_map]
  by_cases h6 : taps.length ≤ 6
  rotate_left
  · rw [decide_eq_true (show (6 : Int) < (taps.length : Int) by omega)]
    refine iteT (ntap (fun ns e => ?_) H1 s1)
    rw [← strs_inj (PyData.tuple.inj e)]
    unfold tapsS
    rw [decide_eq_false h6]
    simp
  rw [decide_eq_false (show ¬ ((6 : Int) < (taps.length : Int)) by omega)]
  have htp : tapsS taps = true := by
    unfold tapsS
    rw [hn, decide_eq_true t2, decide_eq_true h6]
    rfl
  refine iteF ⟨_, rfl, a, _, 1, _, rfl, rfl, ha1, rfl, d2, dp_same s1 h2, _, rfl, ?_⟩
  cases ht2 : isTy (tagOf d2) "tuple" with
  | false => exact iteT (k false H1 s1 (f_iff (net_partsD ht2)))
  | true =>
  refine iteF ?_
  cases h2 with
  | non => cases ht2
  | bl b => cases ht2
  | int i => cases ht2
  | str x => cases ht2
  | lst a b => cases ht2
  | @tup b vs es hb2 hes =>
  obtain ⟨el, fes⟩ := f2.tupS
  have vl : vs.length = es.length := dp_len hes
  have hb1 := same_seqT s1 hb2
  refine ⟨_, rfl, a, _, 1, _, rfl, rfl, ha1, rfl, b, _, rfl, .inr hb1, _, _, rfl, rfl, _, rfl, ?_⟩
  by_cases few : es.length ≤ 200
  rotate_left
  · rw [decide_eq_true (by omega)]
    refine iteT (k false H1 s1 (f_iff fun ⟨t2, r2, e, N⟩ => ?_))
    have q := N.few
    have z := congrArg List.length (PyData.tuple.inj (net_data.mp e).2)
    rw [List.length_map] at z
    omega
  rw [decide_eq_false (by omega)]
  refine iteF ⟨_, rfl, a, _, 1, _, rfl, rfl, ha1, rfl, b, rfl, ⟨_, hb1⟩, fun Z hZ => ?_⟩
  refine lc_ones (n := es.length) (J := Itt K b) (fun i => match es[i]? with | some x => !partB x | none => false) hZ (by rw [sizeLine_eq]; omega) (fun i H2 hi s2 => ⟨_, _, same_seqT s2 hb1, List.getElem?_eq_getElem (by omega)⟩) (fun H2 s2 => ⟨_, same_seqT s2 hb1, by omega⟩) ?_ ?_
  · rintro i y H2 H' F hi s2 ⟨rfl, yx⟩ kk
    obtain ⟨z, hz, hy⟩ := dpAll_get hes (yx _ (same_seqT s2 hb1))
    refine ⟨rfl, y, rfl, y, z, 10, rfl, dp_same (s1.trans s2) hy, fes z (List.mem_of_getElem? hz), by decide, fun b H4 s4 hb => ⟨_, rfl, ?_⟩⟩
    have q := kk H4 s4
    rw [hz] at q
    have eb : b = partB z := Bool.eq_iff_iff.mpr (hb.trans partB_iff.symm)
    rw [eb]
    exact q
  intro cc H2 s2 e hcc hz
  refine ones_ne e fun H3 s3 => ⟨_, rfl, ?_⟩
  have s13 := s1.trans (s2.trans s3)
  by_cases c0 : cc = 0
  rotate_left
  · rw [decide_eq_false c0]
    refine iteT (k false H3 s13 (f_iff (parts_no fun q => c0 (hz.mpr fun i hi => ?_))))
    rw [List.getElem?_eq_getElem hi]
    show (!partB _) = false
    rw [partB_iff.mpr (q _ (List.getElem_mem hi))]
    rfl
  rw [decide_eq_true c0]
  have w0 := hz.mp c0
  obtain ⟨rs, rfl, right⟩ := parts_of fun d hd => by
    obtain ⟨i, hi, ei⟩ := List.mem_iff_getElem.mp hd
    have v := w0 i hi
    rw [List.getElem?_eq_getElem hi, ei] at v
    exact partB_iff.mp (by simpa using v)
  have rl : rs.length ≤ 200 := by simpa using few
  have hu3 := (dp_raws hes).keep (TK.of s13)
  have ha3 := same_seqT s13 ha
  have hb3 := same_seqT s13 hb2
  have ll : vs.length = rs.length := by rw [vl, List.length_map]
  have tnd : taps.Nodup := by
    unfold namesS at hn
    rw [Bool.and_eq_true] at hn
    exact asc_nodup (rise_asc hn.2)
  have hl : (allEnds taps rs).length ≤ 4000 := by
    unfold allEnds
    have z := ends_bound (rs := rs) (B := 19) fun r hr => right_len (right r hr) (fes r.data (List.mem_map.mpr ⟨r, hr, rfl⟩))
    have y : rs.length * 19 ≤ 200 * 19 := Nat.mul_le_mul_right _ rl
    rw [List.length_append]
    omega
  refine iteF ⟨_, rfl, a, _, 1, _, rfl, rfl, ha3, rfl, b, rfl, ⟨_, hb3⟩, fun W hW => ?_⟩
  refine lc_tup1 hb3 (by rw [sizeLine_eq]; omega) (fun i y _ => (rs.map Raw.word)[i]?.map V.str = some y) (fun _ _ _ _ _ h => h) hW ?_ ?_
  · intro i v H4 F hv s4 kk
    obtain ⟨r, hr6, hraw⟩ := hu3.get hv
    obtain ⟨c, ys, rfl, hc, h0, _⟩ := raw_first hraw (right r (List.mem_of_getElem? hr6))
    refine ⟨rfl, _, rfl, c, ys, 0, _, rfl, rfl, same_seqT s4 hc, h0, kk _ _ ?_ (Same.refl _)⟩
    rw [List.getElem?_map, hr6]
    rfl
  · intro acc H4 s4 e4 hl4 hy4
    have eb : acc = (rs.map Raw.word).map V.str := strs_are (by rw [hl4, List.length_map, ll]) hy4
    subst eb
    have s14 := s13.trans s4
    have hk : ∀ x : Str, decide (x ∈ rs.map Raw.word) = hasK x rs := fun x => by
      unfold hasK
      rw [Bool.eq_iff_iff, decide_eq_true_eq, List.any_eq_true, List.mem_map]
      constructor
      · rintro ⟨r, m, e⟩; exact ⟨r, m, decide_eq_true e⟩
      · rintro ⟨r, m, e⟩; exact ⟨r, m, of_decide_eq_true e⟩
    have inL := (Hx.inV_strs (z := LEAD) (rs.map Raw.word)).trans (hk LEAD)
    have inH := (Hx.inV_strs (z := HUB) (rs.map Raw.word)).trans (hk HUB)
    have fin : mixS rs = false → ∃ b' : Bool, V.bl true = V.bl b' ∧ (if b' = true then (tOp (rI0 fun i j => V.bl (decide (i ≤ j))) (tLenS K (tCall (spEvery K) [] E0 (tCons (tVar 0) tNil))) (tC (.int 40))) [some (.ref a), none, some (.ref W)] H4 Q else Q (.bl false) H4) := fun hmx => by
      refine ⟨true, rfl, iteT ⟨_, rfl, .ref a, taps, rs, rfl, ⟨a, t, b, vs, rfl, same_seqT s14 ha, same_seqT s14 htt, same_seqT s14 hb2, hu3.keep (.of s4)⟩, tnd, right, hl, fun p ys H5 s5 hp pl => ⟨p, _, rfl, .inl (SqL.of hp), _, _, rfl, rfl, ?_⟩⟩⟩
      refine k _ H5 (s14.trans s5) ?_
      rw [decide_eq_true_eq, net_iff right, List.length_map]
      constructor
      · intro z
        exact ⟨htp, right, rl, hmx, fun ys2 pl2 => by rw [places_len pl2, ← places_len pl]; omega⟩
      · intro N
        have := N.places ys pl
        omega
    refine ⟨_, rfl, W, _, rfl, .inl (SqL.of e4), rfl, Hx.flat_strs _, hasK LEAD rs, congrArg V.bl inL, ?_⟩
    cases hL : hasK LEAD rs with
    | false =>
      have hmx : mixS rs = false := by unfold mixS; rw [hL]; rfl
      exact iteF ⟨false, rfl, fin hmx⟩
    | true =>
      refine iteT ⟨_, rfl, W, _, rfl, .inl (SqL.of e4), rfl, Hx.flat_strs _, hasK HUB rs, congrArg V.bl inH, ?_⟩
      cases hH : hasK HUB rs with
      | false =>
        have hmx : mixS rs = false := by unfold mixS; rw [hL, hH]; rfl
        exact fin hmx
      | true =>
        have hmx : mixS rs = true := by unfold mixS; rw [hL, hH]; rfl
        refine ⟨false, rfl, iteF (k false H4 s14 (f_iff fun z => ?_))⟩
        have := ((net_iff right).mp z).mix
        rw [hmx] at this
        cases this
end
end K05
set_option maxHeartbeats 2000000
set_option exponentiation.threshold 10000
namespace K05
open PySem PySem.Spec PyProof.Rows L2 Hx RZ
/-! ### nets told: sort_of, places_of, inner_of, is_of_sort -/
structure GoodN (taps : List Str) (rs : List Raw) : Prop where
  net : NetR taps rs
  fine : Fine 12 (netData taps rs)
theorem GoodN.parts {taps : List Str} {rs : List Raw} (h : GoodN taps rs) : ∀ r ∈ rs, Fine 10 r.data := fun r hr => by
  have a := h.fine.tupS.2 (.tuple (rs.map Raw.data)) (by simp)
  exact a.tupS.2 r.data (List.mem_map.mpr ⟨r, hr, rfl⟩)
theorem GoodN.nd {taps : List Str} {rs : List Raw} (h : GoodN taps rs) : taps.Nodup := by
  have q := h.net.tp
  unfold tapsS namesS at q
  simp only [Bool.and_eq_true] at q
  exact asc_nodup (rise_asc q.1.2)
theorem GoodN.sum {taps : List Str} {rs : List Raw} (h : GoodN taps rs) : (allEnds taps rs).length ≤ 4000 := by
  unfold allEnds
  have z := ends_bound (rs := rs) (B := 19) fun r hr => right_len (h.net.right r hr) (h.parts r hr)
  have y : rs.length * 19 ≤ 200 * 19 := Nat.mul_le_mul_right _ h.net.few
  have t := (taps_sum h.net.tp).2
  rw [List.length_append]
  omega
theorem GoodN.ok {taps : List Str} {rs : List Raw} (h : GoodN taps rs) : NetOk taps rs := by
  have t6 := (taps_sum h.net.tp).2
  have tn : ∀ x ∈ taps, nameS x = true := by
    have q := h.net.tp
    unfold tapsS namesS at q
    simp only [Bool.and_eq_true] at q
    exact fun x hx => List.all_eq_true.mp q.1.1 x hx
  have s := h.sum
  refine ⟨h.net.tp, h.net.right, h.net.few, h.net.mix, h.net.places, ⟨by omega, fun x hx => by have := name_len (tn x hx); omega⟩, fun r hr => ⟨fun x hx => by have := name_len (right_ends (h.net.right r hr) x hx); omega, by have := right_len (h.net.right r hr) (h.parts r hr); omega⟩, ?_⟩
  rw [show scanBound = 4096 from rfl]
  omega
theorem fine_num {n : Num} (h : Num30 n) (k : Nat) : Fine (k + 1) n.data := by
  have p : (10 : Int) ^ 30 = ((10 ^ 30 : Nat) : Int) := by decide
  have q : (10 : Nat) ^ 30 < 2 ^ 1000 := Nat.lt_of_lt_of_le (by decide : (10 : Nat) ^ 30 < 2 ^ 100) (Nat.pow_le_pow_right (by decide) (by decide))
  have bt : n.top.natAbs < 2 ^ 1000 := by
    have := h.t0; have := h.t1
    omega
  have bl : n.low.natAbs < 2 ^ 1000 := by
    have := h.l0; have := h.l1
    omega
  cases n with
  | w i => exact .int _ i bt
  | q t b =>
    refine .tup k _ (fun d hd => ?_) (by have := bnd_19 (k + 1); simp; omega)
    simp only [List.mem_cons, List.not_mem_nil, or_false] at hd
    rcases hd with rfl | rfl
    · exact .int _ t bt
    · exact .int _ b bl
theorem fine_words {ns : List Str} (h : ∀ x ∈ ns, nameS x = true) (k : Nat) (l : ns.length ≤ 19) : Fine (k + 1) (.tuple (ns.map .str)) := by
  refine .tup k _ (fun d hd => ?_) (by rw [List.length_map]; exact Nat.le_trans l (bnd_19 _))
  obtain ⟨x, hx, rfl⟩ := List.mem_map.mp hd
  exact Fine.name (h x hx)
theorem fine_raw {r : Raw} (R : Right r) (l : r.ends.length ≤ 18) (h : Num30 r.num) (k : Nat) : Fine (k + 2) r.data := by
  have ne := right_ends R
  cases r with
  | hub ns n =>
    refine .tup (k + 1) _ (fun d hd => ?_) (by have := bnd_19 (k + 1 + 1); simp; omega)
    simp only [List.mem_cons, List.not_mem_nil, or_false] at hd
    rcases hd with rfl | rfl | rfl
    · exact Fine.name (by decide +kernel)
    · exact fine_words ne k (Nat.le_trans l (by decide))
    · exact fine_num h k
  | flat ws n =>
    obtain ⟨x, y, hw⟩ : ∃ x y, ws = [PIPE, x, y] ∨ ws = [LEAD, x, y] := by
      cases R with
      | two k x y n hx hy hk hn =>
        rcases hk with ⟨rfl, _⟩ | ⟨rfl, _⟩
        · exact ⟨x, y, .inl rfl⟩
        · exact ⟨x, y, .inr rfl⟩
    have e : Fine (k + 1) n.data := fine_num h k
    have nx : ∀ z ∈ [x, y], nameS z = true := fun z hz => ne z (by rcases hw with rfl | rfl <;> exact hz)
    refine .tup (k + 1) _ (fun d hd => ?_) ?_
    · rcases List.mem_append.mp hd with m | m
      · obtain ⟨z, hz, rfl⟩ := List.mem_map.mp m
        have hz' : z = PIPE ∨ z = LEAD ∨ z ∈ [x, y] := by
          rcases hw with rfl | rfl <;> simp only [List.mem_cons, List.not_mem_nil, or_false] at hz ⊢
          · rcases hz with e | e | e
            · exact .inl e
            · exact .inr (.inr (.inl e))
            · exact .inr (.inr (.inr e))
          · rcases hz with e | e | e
            · exact .inr (.inl e)
            · exact .inr (.inr (.inl e))
            · exact .inr (.inr (.inr e))
        rcases hz' with rfl | rfl | m
        · exact Fine.name (by decide +kernel)
        · exact Fine.name (by decide +kernel)
        · exact Fine.name (nx z m)
      · simp only [List.mem_cons, List.not_mem_nil, or_false] at m
        subst m
        exact e
    · have := bnd_19 (k + 1 + 1)
      rcases hw with rfl | rfl <;> simp <;> omega
theorem good_drawn {taps : List Str} {rs : List Raw} (h : NetD taps rs) (n : ∀ r ∈ rs, Num30 r.num) : GoodN taps rs := by
  have ok := drawn_ok h
  obtain ⟨ps, sort, pl9, psub, pnd, dr⟩ := h.ps
  have t6 := (taps_sum h.tp).2
  have few := h.few
  have tn : ∀ x ∈ taps, nameS x = true := by
    have q := h.tp
    unfold tapsS namesS at q
    simp only [Bool.and_eq_true] at q
    exact fun x hx => List.all_eq_true.mp q.1.1 x hx
  refine ⟨⟨ok.tp, ok.right, ok.few, ok.mix, ok.places⟩, .tup 11 _ (fun d hd => ?_) (show 2 ≤ bnd 12 by decide)⟩
  simp only [List.mem_cons, List.not_mem_nil, or_false] at hd
  rcases hd with rfl | rfl
  · exact fine_words tn 10 (by omega)
  · refine .tup 10 _ (fun d hd => ?_) (by have := bnd_19 (10 + 1); rw [List.length_map]; omega)
    obtain ⟨r, hr, rfl⟩ := List.mem_map.mp hd
    have := (dr r hr).few
    exact fine_raw (dr r hr).right (by omega) (n r hr) 8
def kindS (rs : List Raw) : Str := if LEAD ∈ rs.map Raw.word then "leads" else if HUB ∈ rs.map Raw.word then "hubs" else "pipes"
def spKind (K : PySem.W.Frag) : Sp := fun vs H Q _ => ∃ (v : V) (taps : List Str) (rs : List Raw), vs = [v] ∧ NetAt K H v taps rs ∧ (∀ r ∈ rs, Right r) ∧ rs.length ≤ 1000 ∧ ∀ H', Same H H' → Q (.str (kindS rs)) H'
abbrev PIPES : Str := "pipes"
abbrev sortsAll : List Str := [PIPES, LEADS, HUBS]
/-- a value that is no sort -/
def OddSort (K : PySem.W.Frag) (H : Hp) (v : V) : Prop := (∃ d, Dp K H v d ∧ isTy (tagOf d) "str" = false) ∨ ∃ x : Str, v = .str x ∧ x ∉ sortsAll
theorem OddSort.same {K : PySem.W.Frag} {H H' : Hp} {v : V} (s : Same H H') : OddSort K H v → OddSort K H' v
  | .inl ⟨d, h1, h2⟩ => .inl ⟨d, dp_same s h1, h2⟩
  | .inr h => .inr h
theorem big_size : 100000 ≤ sizeLine := by rw [sizeLine_eq]; decide
theorem op_notIn_seqK {X : Cx} {K : PySem.W.Frag} (hK : X.K = K) : OpR X (compareOp .NotIn) (rIn K true) := by
  subst hK
  exact op_notIn_seq
theorem lines {n : Nat} (h : n ≤ 100000) : n < sizeLine := by rw [sizeLine_eq]; omega
theorem hasK_mem (x : Str) (rs : List Raw) : hasK x rs = decide (x ∈ rs.map Raw.word) := by
  rw [Bool.eq_iff_iff, decide_eq_true_eq]
  unfold hasK
  rw [List.any_eq_true, List.mem_map]
  constructor
  · rintro ⟨r, hr, e⟩
    exact ⟨r, hr, of_decide_eq_true e⟩
  · rintro ⟨r, hr, e⟩
    exact ⟨r, hr, decide_eq_true e⟩
section
variable {P : Program} {w : World} {K : PySem.W.Frag} {mg : Str → Option Value} {base : Heap}
/-! ### check_net at any data -/
def spCheckD (K : PySem.W.Frag) (C : Addr) : Sp := fun vs H Q E => ∃ (v : V) (d : PyData), vs = [v] ∧ Dp K H v d ∧ Fine 12 d ∧ ((NetP d ∧ ∀ H', Same H H' → Q .non H') ∨ (¬ NetP d ∧ ∀ H', Same H H' → E (.ref C) none H'))
theorem ok_check_netD {C : Addr} (T : OwnE K mg "BadNet" C) (D : Dn K mg "check_net" scheck_net) (B : Ok P w K mg base L2.CX0 5 "is_net" ["value"] (spNetP K)) : Ok P w K mg base (L2.CX P w) 6 "check_net" ["net"] (spCheckD K C) := by
  obtain ⟨_, _, g_is_net, k_is_net, b_is_net, F_is_net⟩ := B.ex
  obtain ⟨b0, nI, iI, bm, fx, qx⟩ := T.q
  refine Ok.mkX D sc_check_net (fun vs H Q E h => ?_) (fun _ _ _ _ _ _ us hl => match us, hl with | [_], _ => rfl) (fun f cdv A outer s H vs Q E hr h => ?_)
  · obtain ⟨v, d, rfl, _⟩ := h
    rfl
  obtain ⟨v, d, rfl, hd, fd, h⟩ := h
  refine ⟨_, (pss_one (ps_if (pt_not (pt_val (pe_call F_is_net hr rfl g_is_net k_is_net b_is_net .nil pass0 (pa_cons (pv 0) pa_nil))))
    (pss_one (ps_raise rfl (takes_of rfl rfl rfl rfl) (pmk_own fx qx T.g T.k (raises_own T.b T.t) (by exact rfl))))
    pss_nil)), ?_⟩
  refine ⟨_, rfl, v, d, rfl, hd, fd, fun b H1 s1 hb => ⟨_, rfl, ?_⟩⟩
  rcases h with ⟨p, k⟩ | ⟨p, k⟩
  · obtain rfl : b = true := hb.mpr p
    exact iteF (k H1 s1)
  · cases b with
    | true => exact absurd (hb.mp rfl) p
    | false => exact iteT (k H1 s1)
/-- what may be no net: a good one, or none -/
def NetQ (K : PySem.W.Frag) (CN : Addr) (v : V) (H : Hp) (E : XK) (good : List Str → List Raw → Prop) : Prop :=
  (∃ (taps : List Str) (rs : List Raw), NetAt K H v taps rs ∧ GoodN taps rs ∧ good taps rs) ∨ (∃ d, Dp K H v d ∧ Fine 12 d ∧ ¬ NetP d ∧ ∀ H', Same H H' → E (.ref CN) none H')
theorem sc_sort_in : FnScope ["net"] ["net"] (defScope ssort_in) := ⟨rfl, rfl, rfl, by decide +kernel, rfl, by decide +kernel, by decide +kernel⟩
theorem ok_sort_in (D : Dn K mg "sort_in" ssort_in) (B : Ok P w K mg base L2.CX0 1 "has_kind" ["parts", "kind"] (spHas K)) : Ok P w K mg base L2.CX0 2 "sort_in" ["net"] (spKind K) := by
  obtain ⟨_, _, g_has_kind, k_has_kind, b_has_kind, F_has_kind⟩ := B.ex
  refine Ok.mk0 D sc_sort_in (fun vs H Q E h => ?_) (fun _ _ _ _ _ _ us hl => match us, hl with | [_], _ => rfl) (fun f cdv A outer s H vs Q E hr h => ?_)
  · obtain ⟨_, _, _, rfl, _⟩ := h
    rfl
  obtain ⟨v, taps, rs, rfl, ⟨a, t, b, us, rfl, ha, ht, hb, hus⟩, R, few, k⟩ := h
  have nd := sc_sort_in.nd
  refine ⟨_, (pss_cons (ps_if (pt_val (pe_call F_has_kind hr rfl g_has_kind k_has_kind b_has_kind .nil pass0 (pa_cons (pe_ix ix_tup (pv 0) pe_int (fun _ _ => rfl)) (pa_cons pe_str pa_nil))))
    (pss_one (ps_ret pe_str))
    pss_nil)
  (pss_one (ps_ret (pe_ifExp (pt_val (pe_call F_has_kind hr rfl g_has_kind k_has_kind b_has_kind .nil pass0 (pa_cons (pe_ix ix_tup (pv 0) pe_int (fun _ _ => rfl)) (pa_cons pe_str pa_nil)))) pe_str pe_str)))), ?_⟩
  have ul := hus.len
  refine ⟨_, rfl, a, _, 1, _, rfl, rfl, ha, rfl, b, us, rs, LEAD, rfl, .inr hb, by omega, hus, R, fun H1 s1 => ⟨_, rfl, ?_⟩⟩
  rw [hasK_mem]
  by_cases h1 : LEAD ∈ rs.map Raw.word
  · rw [decide_eq_true h1]
    have z := k H1 s1
    unfold kindS at z
    rw [if_pos h1] at z
    exact iteT z
  · rw [decide_eq_false h1]
    refine iteF ⟨_, rfl, a, _, 1, _, rfl, rfl, same_seqT s1 ha, rfl, b, us, rs, HUB, rfl, .inr (same_seqT s1 hb), by omega, hus.keep (.of s1), R, fun H2 s2 => ⟨_, rfl, ?_⟩⟩
    rw [hasK_mem]
    have z := k H2 (s1.trans s2)
    unfold kindS at z
    rw [if_neg h1] at z
    by_cases h2 : HUB ∈ rs.map Raw.word
    · rw [decide_eq_true h2]
      rw [if_pos h2] at z
      exact iteT z
    · rw [decide_eq_false h2]
      rw [if_neg h2] at z
      exact iteF z
theorem sc_an_kind : FnScope ["net_here", "words_here", "part"] ["net_here"] (defScope sL_an_kind) := ⟨rfl, rfl, rfl, by decide +kernel, rfl, by decide +kernel, by decide +kernel⟩
theorem ok_an_kind (D : Dn K mg "_law_an_kind" sL_an_kind) : Ok P w K mg base L2.CX0 1 "_law_an_kind" ["net_here"] (spKind K) := by
  refine Ok.mk0 D sc_an_kind (fun vs H Q E h => ?_) (fun _ _ _ _ _ _ us hl => match us, hl with | [_], _ => rfl) (fun f cdv A outer s H vs Q E hr h => ?_)
  · obtain ⟨_, _, _, rfl, _⟩ := h
    rfl
  obtain ⟨v, taps, rs, rfl, ⟨a, t, b, us, rfl, ha, ht, hb, hus⟩, R, few, k⟩ := h
  have nd := sc_an_kind.nd
  refine ⟨_, (pss_cons (ps_setLc (i := 1) (own := [("part", 2)]) (g := gName 2) (tt := tYes) rfl nd rfl rfl (sw_true rfl rfl rfl (by decide +kernel)) (pi_tup (pe_ix ix_tup (pv 0) pe_int (fun _ _ => rfl))) (blkOk_by (own := [("part", 2)]) (N := ["net_here", "words_here", "part"]) (sc := defScope sL_an_kind) (by decide +kernel)) (fun _ _ _ _ _ => pg_name (i := 2) nd rfl (Or.inl rfl)) (fun _ _ _ _ _ => pts_nil) (fun _ _ _ _ _ => (pe_ix (ix_tupK (K := K) rfl) (pv 2) pe_int (fun _ _ => rfl))))
  (pss_cons (ps_if (pt_cmpR op_in_seq pe_str (pv 1) (by rfl))
    (pss_one (ps_ret pe_str))
    pss_nil)
  (pss_one (ps_ret (pe_ifExp (pt_cmpR op_in_seq pe_str (pv 1) (by rfl)) pe_str pe_str))))), ?_⟩
  refine ⟨_, rfl, a, _, 1, _, rfl, rfl, ha, rfl, b, rfl, ⟨_, hb⟩, fun Z hZ => ?_⟩
  have ul := hus.len
  refine lc_each rs (fun v r _ => v = .str r.word) (fun _ _ _ _ _ h => h) hZ (lines (by omega)) (fun i H2 hi s => ⟨_, _, same_seqT s hb, List.getElem?_eq_getElem (by rw [ul]; exact hi)⟩) (fun H2 s => ⟨_, same_seqT s hb, by rw [ul]; exact Nat.le_refl _⟩) ?_ ?_
  · rintro i r y H2 H3 F hr2 s ⟨rfl, yx⟩ kk
    obtain ⟨r', er, hraw⟩ := hus.get (yx _ (same_seqT s hb))
    rw [hr2] at er
    cases er
    obtain ⟨p, ys, rfl, hp, h0, _⟩ := raw_first hraw (R r (List.mem_of_getElem? hr2))
    exact ⟨rfl, _, rfl, p, ys, 0, _, rfl, rfl, same_seqT s hp, h0, kk _ _ rfl (Same.refl _)⟩
  rintro acc H2 s eZ pd
  have ea := paired_strs (f := Raw.word) pd
  subst ea
  refine ⟨_, rfl, Z, _, rfl, .inl (.of eZ), rfl, Hx.flat_strs _, _, rfl, ?_⟩
  rw [Hx.inV_strs]
  by_cases h1 : LEAD ∈ rs.map Raw.word
  · rw [decide_eq_true h1]
    refine iteT ?_
    have z := k H2 s
    unfold kindS at z
    rw [if_pos h1] at z
    exact z
  · rw [decide_eq_false h1]
    refine iteF ⟨_, rfl, Z, _, rfl, .inl (.of eZ), rfl, Hx.flat_strs _, _, rfl, ?_⟩
    rw [Hx.inV_strs]
    have z := k H2 s
    unfold kindS at z
    rw [if_neg h1] at z
    by_cases h2 : HUB ∈ rs.map Raw.word
    · rw [decide_eq_true h2]
      rw [if_pos h2] at z
      exact iteT z
    · rw [decide_eq_false h2]
      rw [if_neg h2] at z
      exact iteF z

def innerF (taps ys : List Str) : List Str := ys.filter fun x => !decide (x ∈ taps)
theorem innerF_mem {taps ys : List Str} {x : Str} : x ∈ innerF taps ys ↔ x ∈ ys ∧ x ∉ taps := by
  unfold innerF
  rw [List.mem_filter, Bool.not_eq_true', decide_eq_false_iff_not]
def spInner (K : PySem.W.Frag) : Sp := fun vs H Q _ => ∃ (v : V) (taps : List Str) (rs : List Raw), vs = [v] ∧ NetAt K H v taps rs ∧ NetOk taps rs ∧ taps.Nodup ∧ (allEnds taps rs).length ≤ 4000 ∧
  ∀ p ys H', Same H H' → H p = none → H' p = some (.lst ((innerF taps ys).map V.str)) → Places ys (allEnds taps rs) → Q (.ref p) H'
theorem sc_inner_in : FnScope ["net", "place"] ["net"] (defScope sinner_in) := ⟨rfl, rfl, rfl, by decide +kernel, rfl, by decide +kernel, by decide +kernel⟩
theorem ok_inner_in (D : Dn K mg "inner_in" sinner_in) (B : Ok P w K mg base L2.CX0 2 "places_in" ["taps", "parts"] (spPlaces K)) : Ok P w K mg base L2.CX0 3 "inner_in" ["net"] (spInner K) := by
  obtain ⟨_, _, g_places_in, k_places_in, b_places_in, F_places_in⟩ := B.ex
  refine Ok.mk0 D sc_inner_in (fun vs H Q E h => ?_) (fun _ _ _ _ _ _ us hl => match us, hl with | [_], _ => rfl) (fun f cdv A outer s H vs Q E hr h => ?_)
  · obtain ⟨_, _, _, rfl, _⟩ := h
    rfl
  obtain ⟨v, taps, rs, rfl, ⟨a, t, b, us, rfl, ha, ht, hb, hus⟩, ok, tnd, sum, k⟩ := h
  have nd := sc_inner_in.nd
  refine ⟨_, (pss_one (ps_ret (pe_lc (own := [("place", 1)]) (g := gName 1) rfl nd (pi_list (pe_call F_places_in hr rfl g_places_in k_places_in b_places_in .nil pass0 (pa_cons (pe_ix ix_tup (pv 0) pe_int (fun _ _ => rfl)) (pa_cons (pe_ix ix_tup (pv 0) pe_int (fun _ _ => rfl)) pa_nil)))) (blkOk_by (own := [("place", 1)]) (N := ["net", "place"]) (sc := defScope sinner_in) (by decide +kernel)) (fun _ _ _ _ _ => pg_name (i := 1) nd rfl (Or.inl rfl)) (fun _ _ _ _ _ => pts_one (pt_cmpR (op_notIn_seqK (K := K) rfl) (pv 1) (pe_ix (ix_tupK (K := K) rfl) (pv 0) pe_int (fun _ _ => rfl)) (by rfl))) (fun _ _ _ _ _ => (pv 1))))), ?_⟩
  have big := big_size
  refine ⟨_, rfl, a, _, 0, _, rfl, rfl, ha, rfl, _, rfl, a, _, 1, _, rfl, rfl, ha, rfl, t, b, taps, us, rs, rfl, ht, .inr hb, hus, ok.right, ok.sum, fun p ys H1 s1 ep hp pl => ⟨p, rfl, ⟨_, .of ep⟩, fun Z hZ => ?_⟩⟩
  have yl : ys.length ≤ 4000 := Nat.le_trans (nodup_le pl.1 fun z hz => (pl.2.1 z).mp hz) sum
  refine lc_filt ys (fun x => !decide (x ∈ taps)) (fun v b _ => v = .str b) (fun _ _ _ _ _ h => h) hZ (lines (by omega)) (fun i H2 hi s => ⟨_, _, .of (s _ _ ep), List.getElem?_eq_getElem (by rw [List.length_map]; exact hi)⟩) (fun H2 s => ⟨_, .of (s _ _ ep), by rw [List.length_map]; exact Nat.le_refl _⟩) ?_ ?_
  · rintro i x y H2 H3 F G hb2 s ⟨rfl, yx⟩ kT kF
    have e := yx _ (.of (s _ _ ep))
    rw [List.getElem?_map, hb2] at e
    obtain rfl : V.str x = y := Option.some.inj e
    have s2 := s1.trans s
    refine ⟨rfl, _, rfl, _, rfl, a, _, 0, _, rfl, rfl, same_seqT s2 ha, rfl, t, _, rfl, .inr (same_seqT s2 ht), rfl, Hx.flat_strs taps, _, rfl, ?_⟩
    rw [Hx.inV_strs]
    cases hd : decide (x ∈ taps) with
    | true => exact iteF (kF (by rw [hd]; rfl) _ (Same.refl _))
    | false => exact iteT ⟨_, rfl, kT (by rw [hd]; rfl) _ _ rfl (Same.refl _)⟩
  rintro acc H2 s eZ pd
  have ea : acc = (innerF taps ys).map V.str := by
    have z := paired_strs (f := fun x => x) pd
    rw [List.map_id'] at z
    exact z
  subst ea
  refine k Z ys H2 (s1.trans s) ?_ eZ pl
  cases e : H Z with
  | none => rfl
  | some o => rw [s1 _ _ e] at hZ; cases hZ
theorem sc_an_inner : FnScope ["net_here", "place"] ["net_here"] (defScope sL_an_inner) := ⟨rfl, rfl, rfl, by decide +kernel, rfl, by decide +kernel, by decide +kernel⟩
theorem ok_an_inner (D : Dn K mg "_law_an_inner" sL_an_inner) (B : Ok P w K mg base L2.CX0 1 "_law_an_every" ["net_here"] (spEvery K)) : Ok P w K mg base L2.CX0 2 "_law_an_inner" ["net_here"] (spInner K) := by
  obtain ⟨_, _, g_an_every, k_an_every, b_an_every, F_an_every⟩ := B.ex
  refine Ok.mk0 D sc_an_inner (fun vs H Q E h => ?_) (fun _ _ _ _ _ _ us hl => match us, hl with | [_], _ => rfl) (fun f cdv A outer s H vs Q E hr h => ?_)
  · obtain ⟨_, _, _, rfl, _⟩ := h
    rfl
  obtain ⟨v, taps, rs, rfl, ⟨a, t, b, us, rfl, ha, ht, hb, hus⟩, ok, tnd, sum, k⟩ := h
  have nd := sc_an_inner.nd
  refine ⟨_, (pss_one (ps_ret (pe_lc (own := [("place", 1)]) (g := gName 1) rfl nd (pi_list (pe_call F_an_every hr rfl g_an_every k_an_every b_an_every .nil pass0 (pa_cons (pv 0) pa_nil))) (blkOk_by (own := [("place", 1)]) (N := ["net_here", "place"]) (sc := defScope sL_an_inner) (by decide +kernel)) (fun _ _ _ _ _ => pg_name (i := 1) nd rfl (Or.inl rfl)) (fun _ _ _ _ _ => pts_one (pt_cmpR (op_notIn_seqK (K := K) rfl) (pv 1) (pe_ix (ix_tupK (K := K) rfl) (pv 0) pe_int (fun _ _ => rfl)) (by rfl))) (fun _ _ _ _ _ => (pv 1))))), ?_⟩
  have big := big_size
  refine ⟨_, rfl, .ref a, taps, rs, rfl, ⟨a, t, b, us, rfl, ha, ht, hb, hus⟩, tnd, ok.right, sum, fun p ys H1 s1 ep pl => ⟨p, rfl, ⟨_, .of ep⟩, fun Z hZ => ?_⟩⟩
  have yl : ys.length ≤ 4000 := Nat.le_trans (nodup_le pl.1 fun z hz => (pl.2.1 z).mp hz) sum
  refine lc_filt ys (fun x => !decide (x ∈ taps)) (fun v b _ => v = .str b) (fun _ _ _ _ _ h => h) hZ (lines (by omega)) (fun i H2 hi s => ⟨_, _, .of (s _ _ ep), List.getElem?_eq_getElem (by rw [List.length_map]; exact hi)⟩) (fun H2 s => ⟨_, .of (s _ _ ep), by rw [List.length_map]; exact Nat.le_refl _⟩) ?_ ?_
  · rintro i x y H2 H3 F G hb2 s ⟨rfl, yx⟩ kT kF
    have e := yx _ (.of (s _ _ ep))
    rw [List.getElem?_map, hb2] at e
    obtain rfl : V.str x = y := Option.some.inj e
    have s2 := s1.trans s
    refine ⟨rfl, _, rfl, _, rfl, a, _, 0, _, rfl, rfl, same_seqT s2 ha, rfl, t, _, rfl, .inr (same_seqT s2 ht), rfl, Hx.flat_strs taps, _, rfl, ?_⟩
    rw [Hx.inV_strs]
    cases hd : decide (x ∈ taps) with
    | true => exact iteF (kF (by rw [hd]; rfl) _ (Same.refl _))
    | false => exact iteT ⟨_, rfl, kT (by rw [hd]; rfl) _ _ rfl (Same.refl _)⟩
  rintro acc H2 s eZ pd
  have ea : acc = (innerF taps ys).map V.str := by
    have z := paired_strs (f := fun x => x) pd
    rw [List.map_id'] at z
    exact z
  subst ea
  refine k Z ys H2 (s1.trans s) ?_ eZ pl
  cases e : H Z with
  | none => rfl
  | some o => rw [s1 _ _ e] at hZ; cases hZ
def spSortC (K : PySem.W.Frag) (CS : Addr) : Sp := fun vs H Q E => ∃ v : V, vs = [v] ∧ ((∃ x : Str, v = .str x ∧ x ∈ sortsAll ∧ Q .non H) ∨ (OddSort K H v ∧ E (.ref CS) none H))
theorem sc_check_sort : FnScope ["sort"] ["sort"] (defScope scheck_sort) := ⟨rfl, rfl, rfl, by decide +kernel, rfl, by decide +kernel, by decide +kernel⟩
theorem ok_check_sort {CS : Addr} (T : OwnE K mg "BadSort" CS) (D : Dn K mg "check_sort" scheck_sort) (h_isinstance : mg "isinstance" = none) (h_str : mg "str" = none) (c1 : ∃ t, mg "SORTS" = some (.ref t) ∧ ∀ H, SqT K H t (sortsAll.map V.str)) : Ok P w K mg base (L2.CX P w) 1 "check_sort" ["sort"] (spSortC K CS) := by
  obtain ⟨sq, gSORTS, hsq⟩ := c1
  obtain ⟨b0, nI, iI, bm, fx, qx⟩ := T.q
  refine Ok.mkX D sc_check_sort (fun vs H Q E h => ?_) (fun _ _ _ _ _ _ us hl => match us, hl with | [_], _ => rfl) (fun f cdv A outer s H vs Q E hr h => ?_)
  · obtain ⟨_, rfl, _⟩ := h
    rfl
  obtain ⟨y, rfl, h⟩ := h
  refine ⟨_, (pss_one (ps_if (PW.pt (pw_or (pt_not (pt_val (pe_isD "str" rfl h_isinstance h_str (pv 0)))) (pw_or1 (pt_cmpR op_notIn_seq (pv 0) (pe_glob (v := .ref sq) rfl gSORTS rfl) (by rfl)))))
    (pss_one (ps_raise rfl (takes_of rfl rfl rfl rfl) (pmk_own fx qx T.g T.k (raises_own T.b T.t) (by exact rfl))))
    pss_nil)), ?_⟩
  have h' : (∃ d, Dp K H y d ∧ isTy (tagOf d) "str" = false ∧ E (.ref CS) none H) ∨ ∃ x : Str, y = .str x ∧ (x ∈ sortsAll ∧ Q .non H ∨ (x ∉ sortsAll ∧ E (.ref CS) none H)) := by
    rcases h with ⟨x, e, h1, k⟩ | ⟨⟨d, hd, nt⟩ | ⟨x, e, h1⟩, k⟩
    · exact .inr ⟨x, e, .inl ⟨h1, k⟩⟩
    · exact .inl ⟨d, hd, nt, k⟩
    · exact .inr ⟨x, e, .inr ⟨h1, k⟩⟩
  rcases h' with ⟨d, hd, nt, k⟩ | ⟨x, rfl, h1⟩
  · exact ⟨_, rfl, d, hd, false, congrArg V.bl nt, iteT k⟩
  refine ⟨_, rfl, .str x, .str x, true, rfl, iteF ?_⟩
  refine ⟨_, rfl, sq, _, rfl, .inr (hsq H), rfl, Hx.flat_strs sortsAll, _, rfl, ?_⟩
  rw [Hx.inV_strs]
  rcases h1 with ⟨m, k⟩ | ⟨m, k⟩
  · rw [decide_eq_true m]
    exact iteF k
  · rw [decide_eq_false m]
    exact iteT k

def spSortOf (K : PySem.W.Frag) (CN : Addr) : Sp := fun vs H Q E => ∃ v, vs = [v] ∧ NetQ K CN v H E fun _ rs => ∀ H', Same H H' → Q (.str (kindS rs)) H'
theorem sc_sort_of : FnScope ["net"] ["net"] (defScope ssort_of) := ⟨rfl, rfl, rfl, by decide +kernel, rfl, by decide +kernel, by decide +kernel⟩
theorem okn_sort_of {CN : Addr} (D : Dn K mg "sort_of" ssort_of) (B0 : Ok P w K mg base (L2.CX P w) 6 "check_net" ["net"] (spCheckD K CN)) (B1 : Ok P w K mg base L2.CX0 2 "sort_in" ["net"] (spKind K)) : OkN P w K mg base (L2.CX P w) 7 "sort_of" ["net"] 0 ["net"] (spSortOf K CN) := by
  obtain ⟨_, _, g_check_net, k_check_net, b_check_net, F_check_net⟩ := B0.ex
  obtain ⟨_, _, g_sort_in, k_sort_in, b_sort_in, F_sort_in⟩ := B1.ex
  refine OkN.mkX D sc_sort_of (fun _ _ _ _ _ _ us ws l1 l2 => match us, ws, l1, l2 with | [], [_], _, _ => rfl) (fun vs H Q E h => ?_) (fun _ _ _ _ _ _ us hl => match us, hl with | [_], _ => rfl) (fun f cdv A outer s H vs Q E hr h => ?_)
  · obtain ⟨_, rfl, _⟩ := h
    rfl
  have hr2 := hr.mono (show 2 ≤ 6 by decide)
  refine ⟨_, (pss_cons (ps_expr (pe_callS F_check_net hr rfl g_check_net k_check_net b_check_net (fun σ => passAt (takes_of rfl rfl rfl rfl) σ) (pa_cons (pv 0) pa_nil)))
  (PSs.nox (pss_one (ps_ret (pe_call F_sort_in hr2 rfl g_sort_in k_sort_in b_sort_in .nil pass0 (pa_cons (pv 0) pa_nil)))))), ?_⟩
  obtain ⟨v, rfl, h⟩ := h
  refine ⟨_, rfl, ?_⟩
  rcases h with ⟨taps, rs, hn0, G, k⟩ | ⟨d, hd, fd, n, ke⟩
  rotate_left
  · exact ⟨v, d, rfl, hd, fd, .inr ⟨n, ke⟩⟩
  refine ⟨v, netData taps rs, rfl, hn0.dt.dp, G.fine, .inl ⟨⟨taps, rs, rfl, G.net⟩, fun H1 s1 => ?_⟩⟩
  have hn := hn0.keep (.of s1)
  exact ⟨_, rfl, v, taps, rs, rfl, hn, G.net.right, by have := G.net.few; omega, fun H2 s2 => k H2 (s1.trans s2)⟩
def spPlacesOf (K : PySem.W.Frag) (CN : Addr) : Sp := fun vs H Q E => ∃ v, vs = [v] ∧ NetQ K CN v H E fun taps rs => ∀ p ys H', Same H H' → H p = none → H' p = some (.lst (ys.map V.str)) → Places ys (allEnds taps rs) → Q (.ref p) H'
theorem none_same {H H' : Hp} {p : Addr} (s : Same H H') (h : H' p = none) : H p = none := by
  cases e : H p with
  | none => rfl
  | some o => rw [s _ _ e] at h; cases h
theorem sc_places_of : FnScope ["net"] ["net"] (defScope splaces_of) := ⟨rfl, rfl, rfl, by decide +kernel, rfl, by decide +kernel, by decide +kernel⟩
theorem okn_places_of {CN : Addr} (D : Dn K mg "places_of" splaces_of) (B0 : Ok P w K mg base (L2.CX P w) 6 "check_net" ["net"] (spCheckD K CN)) (B1 : Ok P w K mg base L2.CX0 2 "places_in" ["taps", "parts"] (spPlaces K)) : OkN P w K mg base (L2.CX P w) 7 "places_of" ["net"] 0 ["net"] (spPlacesOf K CN) := by
  obtain ⟨_, _, g_check_net, k_check_net, b_check_net, F_check_net⟩ := B0.ex
  obtain ⟨_, _, g_places_in, k_places_in, b_places_in, F_places_in⟩ := B1.ex
  refine OkN.mkX D sc_places_of (fun _ _ _ _ _ _ us ws l1 l2 => match us, ws, l1, l2 with | [], [_], _, _ => rfl) (fun vs H Q E h => ?_) (fun _ _ _ _ _ _ us hl => match us, hl with | [_], _ => rfl) (fun f cdv A outer s H vs Q E hr h => ?_)
  · obtain ⟨_, rfl, _⟩ := h
    rfl
  have hr2 := hr.mono (show 2 ≤ 6 by decide)
  refine ⟨_, (pss_cons (ps_expr (pe_callS F_check_net hr rfl g_check_net k_check_net b_check_net (fun σ => passAt (takes_of rfl rfl rfl rfl) σ) (pa_cons (pv 0) pa_nil)))
  (PSs.nox (pss_one (ps_ret (pe_call F_places_in hr2 rfl g_places_in k_places_in b_places_in .nil pass0 (pa_cons (pe_ix ix_tup (pv 0) pe_int (fun _ _ => rfl)) (pa_cons (pe_ix ix_tup (pv 0) pe_int (fun _ _ => rfl)) pa_nil))))))), ?_⟩
  obtain ⟨v, rfl, h⟩ := h
  refine ⟨_, rfl, ?_⟩
  rcases h with ⟨taps, rs, hn0, G, k⟩ | ⟨d, hd, fd, n, ke⟩
  rotate_left
  · exact ⟨v, d, rfl, hd, fd, .inr ⟨n, ke⟩⟩
  refine ⟨v, netData taps rs, rfl, hn0.dt.dp, G.fine, .inl ⟨⟨taps, rs, rfl, G.net⟩, fun H1 s1 => ?_⟩⟩
  have hn := hn0.keep (.of s1)
  obtain ⟨a, t, b, us, rfl, ha, ht, hb, hus⟩ := hn
  exact ⟨_, rfl, a, _, 0, _, rfl, rfl, ha, rfl, _, rfl, a, _, 1, _, rfl, rfl, ha, rfl, t, b, taps, us, rs, rfl, ht, .inr hb, hus, G.ok.right, G.ok.sum, fun p ys H2 s2 hp e pl => k p ys H2 (s1.trans s2) (none_same s1 e) hp pl⟩
def spInnerOf (K : PySem.W.Frag) (CN : Addr) : Sp := fun vs H Q E => ∃ v, vs = [v] ∧ NetQ K CN v H E fun taps rs => ∀ p ys H', Same H H' → H p = none → H' p = some (.lst ((innerF taps ys).map V.str)) → Places ys (allEnds taps rs) → Q (.ref p) H'
theorem sc_inner_of : FnScope ["net"] ["net"] (defScope sinner_of) := ⟨rfl, rfl, rfl, by decide +kernel, rfl, by decide +kernel, by decide +kernel⟩
theorem ok_inner_of {CN : Addr} (D : Dn K mg "inner_of" sinner_of) (B0 : Ok P w K mg base (L2.CX P w) 6 "check_net" ["net"] (spCheckD K CN)) (B1 : Ok P w K mg base L2.CX0 3 "inner_in" ["net"] (spInner K)) : Ok P w K mg base (L2.CX P w) 7 "inner_of" ["net"] (spInnerOf K CN) := by
  obtain ⟨_, _, g_check_net, k_check_net, b_check_net, F_check_net⟩ := B0.ex
  obtain ⟨_, _, g_inner_in, k_inner_in, b_inner_in, F_inner_in⟩ := B1.ex
  refine Ok.mkX D sc_inner_of (fun vs H Q E h => ?_) (fun _ _ _ _ _ _ us hl => match us, hl with | [_], _ => rfl) (fun f cdv A outer s H vs Q E hr h => ?_)
  · obtain ⟨_, rfl, _⟩ := h
    rfl
  have hr3 := hr.mono (show 3 ≤ 6 by decide)
  refine ⟨_, (pss_cons (ps_expr (pe_callS F_check_net hr rfl g_check_net k_check_net b_check_net (fun σ => passAt (takes_of rfl rfl rfl rfl) σ) (pa_cons (pv 0) pa_nil)))
  (PSs.nox (pss_one (ps_ret (pe_call F_inner_in hr3 rfl g_inner_in k_inner_in b_inner_in .nil pass0 (pa_cons (pv 0) pa_nil)))))), ?_⟩
  obtain ⟨v, rfl, h⟩ := h
  refine ⟨_, rfl, ?_⟩
  rcases h with ⟨taps, rs, hn0, G, k⟩ | ⟨d, hd, fd, n, ke⟩
  rotate_left
  · exact ⟨v, d, rfl, hd, fd, .inr ⟨n, ke⟩⟩
  refine ⟨v, netData taps rs, rfl, hn0.dt.dp, G.fine, .inl ⟨⟨taps, rs, rfl, G.net⟩, fun H1 s1 => ?_⟩⟩
  have hn := hn0.keep (.of s1)
  exact ⟨_, rfl, v, taps, rs, rfl, hn, G.ok, G.nd, G.sum, fun p ys H2 s2 e hp pl => k p ys H2 (s1.trans s2) (none_same s1 e) hp pl⟩
/-- a net of which sort? -/
def isSort (rs : List Raw) (x : Str) : Bool := decide (kindS rs = x ∨ kindS rs = PIPES)
def spIsOf (K : PySem.W.Frag) (CN CS : Addr) : Sp := fun vs H Q E => ∃ v u, vs = [v, u] ∧ NetQ K CN v H E fun _ rs => (∃ x : Str, u = .str x ∧ x ∈ sortsAll ∧ ∀ H', Same H H' → Q (.bl (isSort rs x)) H') ∨ (OddSort K H u ∧ ∀ H', Same H H' → E (.ref CS) none H')
theorem sc_is_of_sort : FnScope ["net", "sort"] ["net", "sort"] (defScope sis_of_sort) := ⟨rfl, rfl, rfl, by decide +kernel, rfl, by decide +kernel, by decide +kernel⟩
theorem okn_is_of_sort {CN CS : Addr} (D : Dn K mg "is_of_sort" sis_of_sort) (B0 : Ok P w K mg base (L2.CX P w) 6 "check_net" ["net"] (spCheckD K CN)) (B1 : Ok P w K mg base (L2.CX P w) 1 "check_sort" ["sort"] (spSortC K CS)) (B2 : Ok P w K mg base L2.CX0 2 "sort_in" ["net"] (spKind K)) : OkN P w K mg base (L2.CX P w) 7 "is_of_sort" ["net", "sort"] 1 ["sort"] (spIsOf K CN CS) := by
  obtain ⟨_, _, g_check_net, k_check_net, b_check_net, F_check_net⟩ := B0.ex
  obtain ⟨_, _, g_check_sort, k_check_sort, b_check_sort, F_check_sort⟩ := B1.ex
  obtain ⟨_, _, g_sort_in, k_sort_in, b_sort_in, F_sort_in⟩ := B2.ex
  refine OkN.mkX D sc_is_of_sort (fun _ _ _ _ _ _ us ws l1 l2 => match us, ws, l1, l2 with | [_], [_], _, _ => rfl) (fun vs H Q E h => ?_) (fun _ _ _ _ _ _ us hl => match us, hl with | [_, _], _ => rfl) (fun f cdv A outer s H vs Q E hr h => ?_)
  · obtain ⟨_, _, rfl, _⟩ := h
    rfl
  have hr2 := hr.mono (show 2 ≤ 6 by decide)
  have hr1 := hr.mono (show 1 ≤ 6 by decide)
  refine ⟨_, (pss_cons (ps_expr (pe_callS F_check_net hr rfl g_check_net k_check_net b_check_net (fun σ => passAt (takes_of rfl rfl rfl rfl) σ) (pa_cons (pv 0) pa_nil)))
  (pss_cons (ps_expr (pe_callS F_check_sort hr1 rfl g_check_sort k_check_sort b_check_sort (fun σ => passAt (takes_of rfl rfl rfl rfl) σ) (pa_cons (pv 1) pa_nil)))
  (PSs.nox (pss_one (ps_ret (pe_cmpR op_in_seq (pe_call F_sort_in hr2 rfl g_sort_in k_sort_in b_sort_in .nil pass0 (pa_cons (pv 0) pa_nil)) (pe_tup (pa_cons (pv 1) (pa_cons pe_str pa_nil))) (by rfl))))))), ?_⟩
  obtain ⟨v, u, rfl, h⟩ := h
  refine ⟨_, rfl, ?_⟩
  rcases h with ⟨taps, rs, hn0, G, k⟩ | ⟨d, hd, fd, n, ke⟩
  rotate_left
  · exact ⟨v, d, rfl, hd, fd, .inr ⟨n, ke⟩⟩
  refine ⟨v, netData taps rs, rfl, hn0.dt.dp, G.fine, .inl ⟨⟨taps, rs, rfl, G.net⟩, fun H1 s1 => ?_⟩⟩
  have hn := hn0.keep (.of s1)
  refine ⟨_, rfl, ?_⟩
  rcases k with ⟨x, rfl, hx, k⟩ | ⟨ho, ke⟩
  rotate_left
  · exact ⟨_, rfl, .inr ⟨ho.same s1, ke H1 s1⟩⟩
  refine ⟨_, rfl, .inl ⟨x, rfl, hx, ?_⟩⟩
  refine ⟨_, rfl, v, taps, rs, rfl, hn, G.net.right, by have := G.net.few; omega, fun H2 s2 => ⟨_, rfl, by rw [sizeLine_eq]; show 2 ≤ _; decide, fun q hq => ?_⟩⟩
  have s3 : Same H2 (upd H2 q (.tup [.str x, .str PIPES])) := fun b u e => by rw [upd_ne (ne_of_none e hq)]; exact e
  refine ⟨q, _, rfl, .inr (SqT.of upd_same), rfl, Hx.flat_strs [x, PIPES], ?_⟩
  have e : decide (kindS rs ∈ [x, PIPES]) = isSort rs x := by
    unfold isSort
    rw [Bool.eq_iff_iff, decide_eq_true_eq, decide_eq_true_eq, List.mem_cons, List.mem_cons]
    simp
  have z := k _ ((s1.trans s2).trans s3)
  rw [← e, ← Hx.inV_strs] at z
  exact z
end
end K05
set_option maxHeartbeats 2000000
set_option exponentiation.threshold 10000
namespace K05
open PySem PySem.Spec PyProof.Rows L2 Hx RZ
/-! ### what is told of a net is right -/
theorem passNo {X : Cx} : Passes (L2.CX X.prog X.w) X (fun _ _ _ => False) := fun _ _ _ _ _ _ _ h => by
  obtain ⟨_, _, _, _, _, _, _, _, _, _, _, _, z⟩ := h
  exact z.elim
theorem places_one {xs ys es : List Str} (h : Places xs es) (k : Places ys es) : xs = ys := asc_eq (places_asc h) (places_asc k) fun z => (h.2.1 z).trans (k.2.1 z).symm
def spTruth : Sp := fun vs H Q _ => ∃ i j : Bool, vs = [.bl i, .bl j] ∧ Q (.bl (i == j)) H
theorem names_shL {xs : List Str} (h : ∀ x ∈ xs, nameS x = true) : SeqAt.shaped (.list (xs.map .str)) = true := (sh_list (n := 0) fun d hd => by
  obtain ⟨x, hx, rfl⟩ := List.mem_map.mp hd
  exact ⟨name_ok (h x hx), by simp [PyData.depth]⟩).shaped (by decide)
theorem eqv_lists (xs : List Str) : PyData.eqv (.list (xs.map .str)) (.list (xs.map .str)) = true := (PySem.W.eqvAll_map xs xs).trans (decide_eq_true rfl)
theorem GoodN.names {taps : List Str} {rs : List Raw} (h : GoodN taps rs) {ys : List Str} (pl : Places ys (allEnds taps rs)) : ∀ x ∈ ys, nameS x = true := fun x hx => by
  have m := (pl.2.1 x).mp hx
  unfold allEnds at m
  rcases List.mem_append.mp m with m | m
  · have q := h.net.tp
    unfold tapsS namesS at q
    simp only [Bool.and_eq_true] at q
    exact List.all_eq_true.mp q.1.1 x m
  · obtain ⟨r, hr, hx⟩ := List.mem_flatMap.mp m
    exact right_ends (h.net.right r hr) x hx
theorem kind_sort (rs : List Raw) : kindS rs ∈ sortsAll := by
  unfold kindS
  split
  · simp
  · split <;> simp
section
variable {P : Program} {w : World} {K : PySem.W.Frag} {mg : Str → Option Value} {base : Heap}
theorem sc_is_truth : FnScope ["found", "due"] ["found", "due"] (defScope sL_is_truth) := ⟨rfl, rfl, rfl, by decide +kernel, rfl, by decide +kernel, by decide +kernel⟩
theorem ok_is_truth (D : Dn K mg "_law_is_truth" sL_is_truth) : Ok P w K mg base L2.CX0 1 "_law_is_truth" ["found", "due"] spTruth := by
  refine Ok.mk0 D sc_is_truth (fun vs H Q E h => ?_) (fun _ _ _ _ _ _ us hl => match us, hl with | [_, _], _ => rfl) (fun f cdv A outer s H vs Q E hr h => ?_)
  · obtain ⟨_, _, rfl, _⟩ := h
    rfl
  obtain ⟨i, j, rfl, k⟩ := h
  refine ⟨_, (pss_one (ps_ret (pe_ifExp (pt_val (pv 1)) (pe_cmpR op_isBl (pv 0) pe_bl (nomark _)) (pe_cmpR op_isBl (pv 0) pe_bl (nomark _))))), ?_⟩
  cases j with
  | true => exact ⟨_, rfl, _, rfl, iteT ⟨_, rfl, i, true, rfl, rfl, k⟩⟩
  | false => exact ⟨_, rfl, _, rfl, iteF ⟨_, rfl, i, false, rfl, rfl, k⟩⟩
def spTold (K : PySem.W.Frag) : Sp := fun vs H Q _ => ∃ (v : V) (taps : List Str) (rs : List Raw), vs = [v] ∧ NetAt K H v taps rs ∧ GoodN taps rs ∧ ∀ H', Same H H' → Q (.bl true) H'
theorem sc_told_right : FnScope ["net_here", "every", "word", "told", "kind"] ["net_here"] (defScope sL_an_told_right) := ⟨rfl, rfl, rfl, by decide +kernel, rfl, by decide +kernel, by decide +kernel⟩
theorem ok_told_right {CN CS : Addr} (D : Dn K mg "_law_an_told_right" sL_an_told_right) (B0 : Ok P w K mg base L2.CX0 1 "_law_an_every" ["net_here"] (spEvery K)) (B1 : Ok P w K mg base L2.CX0 1 "_law_an_kind" ["net_here"] (spKind K)) (B2 : OkN P w K mg base (L2.CX P w) 7 "places_of" ["net"] 0 ["net"] (spPlacesOf K CN)) (B3 : OkN P w K mg base (L2.CX P w) 7 "sort_of" ["net"] 0 ["net"] (spSortOf K CN)) (B4 : Ok P w K mg base (L2.CX P w) 7 "inner_of" ["net"] (spInnerOf K CN)) (B5 : Ok P w K mg base L2.CX0 2 "_law_an_inner" ["net_here"] (spInner K))
    (B6 : OkN P w K mg base (L2.CX P w) 7 "is_of_sort" ["net", "sort"] 1 ["sort"] (spIsOf K CN CS)) (B7 : Ok P w K mg base L2.CX0 1 "_law_is_truth" ["found", "due"] spTruth) : Ok P w K mg base L2.CX0 8 "_law_an_told_right" ["net_here"] (spTold K) := by
  obtain ⟨_, _, g_every, k_every, b_every, F_every⟩ := B0.ex
  obtain ⟨_, _, g_kind, k_kind, b_kind, F_kind⟩ := B1.ex
  obtain ⟨_, _, g_places, k_places, b_places, F_places, kw_places⟩ := B2.ex
  obtain ⟨_, _, g_sort, k_sort, b_sort, F_sort, kw_sort⟩ := B3.ex
  obtain ⟨_, _, g_inner, k_inner, b_inner, F_inner⟩ := B4.ex
  obtain ⟨_, _, g_an_inner, k_an_inner, b_an_inner, F_an_inner⟩ := B5.ex
  obtain ⟨_, _, g_isof, k_isof, b_isof, F_isof, kw_isof⟩ := B6.ex
  obtain ⟨_, _, g_truth, k_truth, b_truth, F_truth⟩ := B7.ex
  refine Ok.mk0 D sc_told_right (fun vs H Q E h => ?_) (fun _ _ _ _ _ _ us hl => match us, hl with | [_], _ => rfl) (fun f cdv A outer s H vs Q E hr h => ?_)
  · obtain ⟨_, _, _, rfl, _⟩ := h
    rfl
  obtain ⟨v, taps, rs, rfl, hn, G, k⟩ := h
  have nd := sc_told_right.nd
  have hu64 := hr.units
  have hr7 := hr
  have hr1 := hr.mono (show 1 ≤ 7 by decide)
  have hr2 := hr.mono (show 2 ≤ 7 by decide)
  refine ⟨_, (pss_cons (ps_par (i := 1) (j := 2) rfl nd rfl rfl (by decide) rfl rfl (pa_cons (pe_call F_every hr1 rfl g_every k_every b_every .nil pass0 (pa_cons (pv 0) pa_nil)) (pa_cons (pe_call F_kind hr1 rfl g_kind k_kind b_kind .nil pass0 (pa_cons (pv 0) pa_nil)) pa_nil)) rfl)
  (pss_cons (ps_set (i := 3) nd rfl (Or.inl rfl) (pe_call F_places hr7 rfl g_places k_places b_places .nil passNo (pa_cons (pv 0) pa_nil)))
  (pss_cons (ps_if (PW.pt (pw_or (pt_cmpR (op_neD hu64) (pv 3) (pv 1) (nomark _)) (pw_or (pt_cmpR op_ne (pe_callKw F_sort hr7 rfl g_sort k_sort kw_sort passNo (pk_cons (pv 0) pk_nil)) (pv 2) (nomark _)) (pw_or1 (pt_cmpR (op_neD hu64) (pe_call F_inner hr7 rfl g_inner k_inner b_inner .nil passNo (pa_cons (pv 0) pa_nil)) (pe_call F_an_inner hr2 rfl g_an_inner k_an_inner b_an_inner .nil pass0 (pa_cons (pv 0) pa_nil)) (nomark _))))))
    (pss_one (ps_ret pe_bl))
    pss_nil)
  (pss_cons (ps_expr (pe_bm PySem.F.plainAttrs_list PySem.F.slot_list_append PySem.F.type_list_append mt_append (pv 3) (pa_cons pe_str pa_nil)))
  (pss_cons (ps_if (pt_cmpR (op_neD hu64) (pe_callKw F_places hr7 rfl g_places k_places kw_places passNo (pk_cons (pv 0) pk_nil)) (pv 1) (nomark _))
    (pss_one (ps_ret pe_bl))
    pss_nil)
  (pss_cons (ps_for PassesOwn.never rfl (pi_list (pe_lst (pa_cons pe_str (pa_cons pe_str (pa_cons pe_str pa_nil))))) (pg_name (i := 4) nd rfl (Or.inl rfl))
    (pss_one (ps_if (pt_not (pt_val (pe_call F_truth hr1 rfl g_truth k_truth b_truth .nil pass0 (pa_cons (pe_callN F_isof hr7 rfl g_isof k_isof kw_isof passNo (pa_cons (pv 0) pa_nil) (pk_cons (pv 4) pk_nil)) (pa_cons (pe_cmpR op_in_seq (pv 2) (pe_lst (pa_cons pe_str (pa_cons (pv 4) pa_nil))) (by rfl)) pa_nil)))))
    (pss_one (ps_ret pe_bl))
    pss_nil)))
  (pss_one (ps_ret pe_bl)))))))), ?_⟩
  have big := big_size
  have few : rs.length ≤ 1000 := by have := G.net.few; omega
  have tsh : ∀ {ys : List Str}, Places ys (allEnds taps rs) → SeqAt.shaped (.list (ys.map .str)) = true := fun pl => names_shL (G.names pl)
  refine ⟨_, rfl, v, taps, rs, rfl, hn, G.nd, G.net.right, G.sum, fun pE ys H1 s1 hE plE => ⟨_, rfl, v, taps, rs, rfl, hn.keep (.of s1), G.net.right, few, fun H3 s3 => ⟨_, _, rfl, ?_⟩⟩⟩
  have s03 := s1.trans s3
  have hE3 := s3 _ _ hE
  refine ⟨_, rfl, v, rfl, .inl ⟨taps, rs, hn.keep (.of s03), G, fun pT zs H4 s4 eT hT plT => ?_⟩⟩
  obtain rfl := places_one plT plE
  have hE4 := s4 _ _ hE3
  have neT : pE ≠ pT := fun e => by rw [e, eT] at hE3; cases hE3
  refine ⟨_, rfl, _, rfl, .list (zs.map .str), .list (zs.map .str), .lst (SqL.of hT) (dpAll_strs zs), .lst (SqL.of hE4) (dpAll_strs zs), tsh plT, tsh plT, _, rfl, ?_⟩
  rw [eqv_lists]
  have s04 := s03.trans s4
  refine iteF ⟨_, rfl, rfl, v, rfl, .inl ⟨taps, rs, hn.keep (.of s04), G, fun H5 s5 => ⟨_, rfl, rfl, _, rfl, ?_⟩⟩⟩
  refine iteG (by rw [decide_eq_true rfl]; rfl) ?_
  have s05 := s04.trans s5
  refine ⟨_, rfl, v, rfl, .inl ⟨taps, rs, hn.keep (.of s05), G, fun pI xs H6 s6 e6 h6 pl6 => ⟨_, rfl, v, taps, rs, rfl, hn.keep (.of (s05.trans s6)), G.ok, G.nd, G.sum, fun pJ xs2 H7 s7 e7 h7 pl7 => ?_⟩⟩⟩
  obtain rfl := places_one pl6 pl7
  have fsh : SeqAt.shaped (.list ((innerF taps xs).map .str)) = true := names_shL fun x hx => G.names pl6 x (innerF_mem.mp hx).1
  refine ⟨.list ((innerF taps xs).map .str), .list ((innerF taps xs).map .str), .lst (SqL.of (s7 _ _ h6)) (dpAll_strs _), .lst (SqL.of h7) (dpAll_strs _), fsh, fsh, _, rfl, ?_⟩
  rw [eqv_lists]
  have s07 := (s05.trans s6).trans s7
  have s47 := (s5.trans s6).trans s7
  have hT7 := s47 _ _ hT
  have zl : zs.length ≤ 4000 := Nat.le_trans (nodup_le plT.1 fun z hz => (plT.2.1 z).mp hz) G.sum
  refine iteF ⟨_, rfl, .inl ⟨rfl, _, SqL.of hT7⟩, pT, _, _, rfl, rfl, hT7, by rw [sizeLine_eq, List.length_map]; omega, ?_⟩
  have s08 : Same H (upd H7 pT (.lst (zs.map V.str ++ [.str "q"]))) := fun b u e => by
    rw [upd_ne (ne_of_none e (none_same s03 eT))]
    exact s07 b u e
  have hE8 : upd H7 pT (.lst (zs.map V.str ++ [.str "q"])) pE = some (.lst (zs.map V.str)) := by
    rw [upd_ne neT]
    exact s47 _ _ hE4
  generalize upd H7 pT (.lst (zs.map V.str ++ [.str "q"])) = H8 at s08 hE8
  refine ⟨_, rfl, rfl, v, rfl, .inl ⟨taps, rs, hn.keep (.of s08), G, fun pU ws H9 s9 e9 h9 pl9 => ?_⟩⟩
  obtain rfl := places_one pl9 plT
  refine ⟨_, rfl, .list (ws.map .str), .list (ws.map .str), .lst (SqL.of h9) (dpAll_strs _), .lst (SqL.of (s9 _ _ hE8)) (dpAll_strs _), tsh pl9, tsh pl9, _, rfl, ?_⟩
  rw [eqv_lists]
  have s09 := s08.trans s9
  refine iteF ⟨by rw [sizeLine_eq]; show 3 ≤ _; decide, fun L hL => ⟨L, rfl, ⟨_, SqL.of upd_same⟩, ?_⟩⟩
  have sL : Same H (upd H9 L (.lst (sortsAll.map V.str))) := s09.trans (same_upd hL)
  let Pv : Nat → L2.St → Hp → Prop := fun i σ H' => ∃ o : Option V, σ = [some v, some (.ref pE), some (.str (kindS rs)), some (.ref pT), o] ∧ Same (upd H9 L (.lst (sortsAll.map V.str))) H'
  refine for_list (xs := sortsAll.map V.str) Pv ⟨_, rfl, Same.refl _⟩ (fun i σ H' _ ⟨_, _, z⟩ => SqL.of (z _ _ upd_same)) ?_ ?_
  · rintro i y σ H' hy ⟨o, rfl, s10⟩
    obtain ⟨x, mx, rfl⟩ : ∃ x ∈ sortsAll, V.str x = y := by
      have m := List.mem_of_getElem? hy
      obtain ⟨x, mx, e⟩ := List.mem_map.mp m
      exact ⟨x, mx, e⟩
    refine ⟨_, rfl, _, rfl, rfl, rfl, v, _, rfl, .inl ⟨taps, rs, hn.keep (.of (sL.trans s10)), G, .inl ⟨x, rfl, mx, fun H11 s11 => ?_⟩⟩⟩
    refine ⟨_, rfl, _, rfl, by rw [sizeLine_eq]; show 2 ≤ _; decide, fun q hq => ⟨q, _, rfl, .inl (SqL.of upd_same), rfl, Hx.flat_strs [PIPES, x], ?_⟩⟩
    have e : isSort rs x = inV (.str (kindS rs)) ([PIPES, x].map V.str) := by
      rw [Hx.inV_strs]
      unfold isSort
      rw [Bool.eq_iff_iff, decide_eq_true_eq, decide_eq_true_eq, List.mem_cons, List.mem_cons]
      simp
      exact Or.comm
    refine ⟨isSort rs x, isSort rs x, by rw [e]; rfl, _, rfl, ?_⟩
    rw [show (isSort rs x == isSort rs x) = true by simp]
    refine iteF ⟨_, rfl, (s10.trans s11).trans (same_upd hq)⟩
  · rintro σ H' ⟨o, rfl, s10⟩
    exact k _ (sL.trans s10)
end
end K05
set_option maxHeartbeats 2000000
set_option exponentiation.threshold 10000
namespace K05
open PySem PySem.Spec PyProof.Rows L2 Hx RZ
/-! ### doors that refuse what is no net -/
theorem pss_never {X : Cx} {ss : List Stmt} : PSs X ss (fun _ _ _ => False) := ⟨fun _ _ _ _ _ _ h => h.elim⟩
section
variable {P : Program} {w : World} {K : PySem.W.Frag} {mg : Str → Option Value} {base : Heap}
def spRefuse (K : PySem.W.Frag) (CN : Addr) (m : Nat) : Sp := fun vs H Q E => ∃ (v : V) (ws : List V) (d : PyData), vs = v :: ws ∧ ws.length = m ∧ Dp K H v d ∧ Fine 12 d ∧ ¬ NetP d ∧ ∀ H', Same H H' → E (.ref CN) none H'
def spRefuse2 (K : PySem.W.Frag) (CN : Addr) : Sp := fun vs H Q E => ∃ (v u : V) (d : PyData), vs = [v, u] ∧ Dp K H v d ∧ Fine 12 d ∧ ((¬ NetP d ∧ ∀ H', Same H H' → E (.ref CN) none H') ∨ (NetP d ∧ ∃ e, Dp K H u e ∧ Fine 12 e ∧ ¬ NetP e ∧ ∀ H', Same H H' → E (.ref CN) none H'))
theorem sr_scaled : FnScope ["net", "factor"] ["net", "factor"] (defScope sscaled) := ⟨rfl, rfl, rfl, by decide +kernel, rfl, by decide +kernel, by decide +kernel⟩
theorem or_scaled {CN : Addr} (D : Dn K mg "scaled" sscaled) (B : Ok P w K mg base (L2.CX P w) 6 "check_net" ["net"] (spCheckD K CN)) : Ok P w K mg base (L2.CX P w) 7 "scaled" ["net", "factor"] (spRefuse K CN 1) := by
  obtain ⟨_, _, g_c, k_c, b_c, F_c⟩ := B.ex
  refine Ok.mkX D sr_scaled (fun vs H Q E h => ?_) (fun _ _ _ _ _ _ us hl => match us, hl with | [_, _], _ => rfl) (fun f cdv A outer s H vs Q E hr h => ?_)
  · obtain ⟨_, ws, _, rfl, hl, _⟩ := h
    rw [List.length_cons, hl]
    rfl
  obtain ⟨v, ws, d, rfl, hl, hd, fd, n, ke⟩ := h
  obtain ⟨z1, rfl⟩ : ∃ z1, ws = [z1] := by
    match ws, hl with
    | [z1], _ => exact ⟨z1, rfl⟩
  refine ⟨_, (pss_cons (ps_expr (pe_callS F_c hr rfl g_c k_c b_c (fun σ => passAt (takes_of rfl rfl rfl rfl) σ) (pa_cons (pv 0) pa_nil))) pss_never), ?_⟩
  exact ⟨_, rfl, v, d, rfl, hd, fd, .inr ⟨n, ke⟩⟩
theorem sr_side_cost : FnScope ["net", "side"] ["net", "side"] (defScope sside_cost) := ⟨rfl, rfl, rfl, by decide +kernel, rfl, by decide +kernel, by decide +kernel⟩
theorem or_side_cost {CN : Addr} (D : Dn K mg "side_cost" sside_cost) (B : Ok P w K mg base (L2.CX P w) 6 "check_net" ["net"] (spCheckD K CN)) : Ok P w K mg base (L2.CX P w) 7 "side_cost" ["net", "side"] (spRefuse K CN 1) := by
  obtain ⟨_, _, g_c, k_c, b_c, F_c⟩ := B.ex
  refine Ok.mkX D sr_side_cost (fun vs H Q E h => ?_) (fun _ _ _ _ _ _ us hl => match us, hl with | [_, _], _ => rfl) (fun f cdv A outer s H vs Q E hr h => ?_)
  · obtain ⟨_, ws, _, rfl, hl, _⟩ := h
    rw [List.length_cons, hl]
    rfl
  obtain ⟨v, ws, d, rfl, hl, hd, fd, n, ke⟩ := h
  obtain ⟨z1, rfl⟩ : ∃ z1, ws = [z1] := by
    match ws, hl with
    | [z1], _ => exact ⟨z1, rfl⟩
  refine ⟨_, (pss_cons (ps_expr (pe_callS F_c hr rfl g_c k_c b_c (fun σ => passAt (takes_of rfl rfl rfl rfl) σ) (pa_cons (pv 0) pa_nil))) pss_never), ?_⟩
  exact ⟨_, rfl, v, d, rfl, hd, fd, .inr ⟨n, ke⟩⟩
theorem sr_renamed_net : FnScope ["net", "names"] ["net", "names"] (defScope srenamed_net) := ⟨rfl, rfl, rfl, by decide +kernel, rfl, by decide +kernel, by decide +kernel⟩
theorem or_renamed_net {CN : Addr} (D : Dn K mg "renamed_net" srenamed_net) (B : Ok P w K mg base (L2.CX P w) 6 "check_net" ["net"] (spCheckD K CN)) : Ok P w K mg base (L2.CX P w) 7 "renamed_net" ["net", "names"] (spRefuse K CN 1) := by
  obtain ⟨_, _, g_c, k_c, b_c, F_c⟩ := B.ex
  refine Ok.mkX D sr_renamed_net (fun vs H Q E h => ?_) (fun _ _ _ _ _ _ us hl => match us, hl with | [_, _], _ => rfl) (fun f cdv A outer s H vs Q E hr h => ?_)
  · obtain ⟨_, ws, _, rfl, hl, _⟩ := h
    rw [List.length_cons, hl]
    rfl
  obtain ⟨v, ws, d, rfl, hl, hd, fd, n, ke⟩ := h
  obtain ⟨z1, rfl⟩ : ∃ z1, ws = [z1] := by
    match ws, hl with
    | [z1], _ => exact ⟨z1, rfl⟩
  refine ⟨_, (pss_cons (ps_expr (pe_callS F_c hr rfl g_c k_c b_c (fun σ => passAt (takes_of rfl rfl rfl rfl) σ) (pa_cons (pv 0) pa_nil))) pss_never), ?_⟩
  exact ⟨_, rfl, v, d, rfl, hd, fd, .inr ⟨n, ke⟩⟩
theorem sr_hidden_net : FnScope ["net", "tap"] ["net", "tap"] (defScope shidden_net) := ⟨rfl, rfl, rfl, by decide +kernel, rfl, by decide +kernel, by decide +kernel⟩
theorem or_hidden_net {CN : Addr} (D : Dn K mg "hidden_net" shidden_net) (B : Ok P w K mg base (L2.CX P w) 6 "check_net" ["net"] (spCheckD K CN)) : Ok P w K mg base (L2.CX P w) 7 "hidden_net" ["net", "tap"] (spRefuse K CN 1) := by
  obtain ⟨_, _, g_c, k_c, b_c, F_c⟩ := B.ex
  refine Ok.mkX D sr_hidden_net (fun vs H Q E h => ?_) (fun _ _ _ _ _ _ us hl => match us, hl with | [_, _], _ => rfl) (fun f cdv A outer s H vs Q E hr h => ?_)
  · obtain ⟨_, ws, _, rfl, hl, _⟩ := h
    rw [List.length_cons, hl]
    rfl
  obtain ⟨v, ws, d, rfl, hl, hd, fd, n, ke⟩ := h
  obtain ⟨z1, rfl⟩ : ∃ z1, ws = [z1] := by
    match ws, hl with
    | [z1], _ => exact ⟨z1, rfl⟩
  refine ⟨_, (pss_cons (ps_expr (pe_callS F_c hr rfl g_c k_c b_c (fun σ => passAt (takes_of rfl rfl rfl rfl) σ) (pa_cons (pv 0) pa_nil))) pss_never), ?_⟩
  exact ⟨_, rfl, v, d, rfl, hd, fd, .inr ⟨n, ke⟩⟩
theorem sr_wall : FnScope ["net", "lot"] ["net", "lot"] (defScope swall) := ⟨rfl, rfl, rfl, by decide +kernel, rfl, by decide +kernel, by decide +kernel⟩
theorem or_wall {CN : Addr} (D : Dn K mg "wall" swall) (B : Ok P w K mg base (L2.CX P w) 6 "check_net" ["net"] (spCheckD K CN)) : Ok P w K mg base (L2.CX P w) 7 "wall" ["net", "lot"] (spRefuse K CN 1) := by
  obtain ⟨_, _, g_c, k_c, b_c, F_c⟩ := B.ex
  refine Ok.mkX D sr_wall (fun vs H Q E h => ?_) (fun _ _ _ _ _ _ us hl => match us, hl with | [_, _], _ => rfl) (fun f cdv A outer s H vs Q E hr h => ?_)
  · obtain ⟨_, ws, _, rfl, hl, _⟩ := h
    rw [List.length_cons, hl]
    rfl
  obtain ⟨v, ws, d, rfl, hl, hd, fd, n, ke⟩ := h
  obtain ⟨z1, rfl⟩ : ∃ z1, ws = [z1] := by
    match ws, hl with
    | [z1], _ => exact ⟨z1, rfl⟩
  refine ⟨_, (pss_cons (ps_expr (pe_callS F_c hr rfl g_c k_c b_c (fun σ => passAt (takes_of rfl rfl rfl rfl) σ) (pa_cons (pv 0) pa_nil))) pss_never), ?_⟩
  exact ⟨_, rfl, v, d, rfl, hd, fd, .inr ⟨n, ke⟩⟩
theorem sr_melted_net : FnScope ["net", "kept", "gone"] ["net", "kept", "gone"] (defScope smelted_net) := ⟨rfl, rfl, rfl, by decide +kernel, rfl, by decide +kernel, by decide +kernel⟩
theorem or_melted_net {CN : Addr} (D : Dn K mg "melted_net" smelted_net) (B : Ok P w K mg base (L2.CX P w) 6 "check_net" ["net"] (spCheckD K CN)) : Ok P w K mg base (L2.CX P w) 7 "melted_net" ["net", "kept", "gone"] (spRefuse K CN 2) := by
  obtain ⟨_, _, g_c, k_c, b_c, F_c⟩ := B.ex
  refine Ok.mkX D sr_melted_net (fun vs H Q E h => ?_) (fun _ _ _ _ _ _ us hl => match us, hl with | [_, _, _], _ => rfl) (fun f cdv A outer s H vs Q E hr h => ?_)
  · obtain ⟨_, ws, _, rfl, hl, _⟩ := h
    rw [List.length_cons, hl]
    rfl
  obtain ⟨v, ws, d, rfl, hl, hd, fd, n, ke⟩ := h
  obtain ⟨z1, z2, rfl⟩ : ∃ z1 z2, ws = [z1, z2] := by
    match ws, hl with
    | [z1, z2], _ => exact ⟨z1, z2, rfl⟩
  refine ⟨_, (pss_cons (ps_expr (pe_callS F_c hr rfl g_c k_c b_c (fun σ => passAt (takes_of rfl rfl rfl rfl) σ) (pa_cons (pv 0) pa_nil))) pss_never), ?_⟩
  exact ⟨_, rfl, v, d, rfl, hd, fd, .inr ⟨n, ke⟩⟩
theorem sr_check_blocks : FnScope ["net", "source", "target"] ["net", "source", "target"] (defScope scheck_blocks) := ⟨rfl, rfl, rfl, by decide +kernel, rfl, by decide +kernel, by decide +kernel⟩
theorem or_check_blocks {CN : Addr} (D : Dn K mg "check_blocks" scheck_blocks) (B : Ok P w K mg base (L2.CX P w) 6 "check_net" ["net"] (spCheckD K CN)) : Ok P w K mg base (L2.CX P w) 7 "check_blocks" ["net", "source", "target"] (spRefuse K CN 2) := by
  obtain ⟨_, _, g_c, k_c, b_c, F_c⟩ := B.ex
  refine Ok.mkX D sr_check_blocks (fun vs H Q E h => ?_) (fun _ _ _ _ _ _ us hl => match us, hl with | [_, _, _], _ => rfl) (fun f cdv A outer s H vs Q E hr h => ?_)
  · obtain ⟨_, ws, _, rfl, hl, _⟩ := h
    rw [List.length_cons, hl]
    rfl
  obtain ⟨v, ws, d, rfl, hl, hd, fd, n, ke⟩ := h
  obtain ⟨z1, z2, rfl⟩ : ∃ z1 z2, ws = [z1, z2] := by
    match ws, hl with
    | [z1, z2], _ => exact ⟨z1, z2, rfl⟩
  refine ⟨_, (pss_cons (ps_expr (pe_callS F_c hr rfl g_c k_c b_c (fun σ => passAt (takes_of rfl rfl rfl rfl) σ) (pa_cons (pv 0) pa_nil))) pss_never), ?_⟩
  exact ⟨_, rfl, v, d, rfl, hd, fd, .inr ⟨n, ke⟩⟩
theorem sr_without_empty : FnScope ["net"] ["net"] (defScope swithout_empty) := ⟨rfl, rfl, rfl, by decide +kernel, rfl, by decide +kernel, by decide +kernel⟩
theorem or_without_empty {CN : Addr} (D : Dn K mg "without_empty" swithout_empty) (B : Ok P w K mg base (L2.CX P w) 6 "check_net" ["net"] (spCheckD K CN)) : Ok P w K mg base (L2.CX P w) 7 "without_empty" ["net"] (spRefuse K CN 0) := by
  obtain ⟨_, _, g_c, k_c, b_c, F_c⟩ := B.ex
  refine Ok.mkX D sr_without_empty (fun vs H Q E h => ?_) (fun _ _ _ _ _ _ us hl => match us, hl with | [_], _ => rfl) (fun f cdv A outer s H vs Q E hr h => ?_)
  · obtain ⟨_, ws, _, rfl, hl, _⟩ := h
    rw [List.length_cons, hl]
    rfl
  obtain ⟨v, ws, d, rfl, hl, hd, fd, n, ke⟩ := h
  obtain rfl : ws = [] := List.length_eq_zero_iff.mp hl
  refine ⟨_, (pss_cons (ps_expr (pe_callS F_c hr rfl g_c k_c b_c (fun σ => passAt (takes_of rfl rfl rfl rfl) σ) (pa_cons (pv 0) pa_nil))) pss_never), ?_⟩
  exact ⟨_, rfl, v, d, rfl, hd, fd, .inr ⟨n, ke⟩⟩
theorem sr_turned_net : FnScope ["net"] ["net"] (defScope sturned_net) := ⟨rfl, rfl, rfl, by decide +kernel, rfl, by decide +kernel, by decide +kernel⟩
theorem or_turned_net {CN : Addr} (D : Dn K mg "turned_net" sturned_net) (B : Ok P w K mg base (L2.CX P w) 6 "check_net" ["net"] (spCheckD K CN)) : Ok P w K mg base (L2.CX P w) 7 "turned_net" ["net"] (spRefuse K CN 0) := by
  obtain ⟨_, _, g_c, k_c, b_c, F_c⟩ := B.ex
  refine Ok.mkX D sr_turned_net (fun vs H Q E h => ?_) (fun _ _ _ _ _ _ us hl => match us, hl with | [_], _ => rfl) (fun f cdv A outer s H vs Q E hr h => ?_)
  · obtain ⟨_, ws, _, rfl, hl, _⟩ := h
    rw [List.length_cons, hl]
    rfl
  obtain ⟨v, ws, d, rfl, hl, hd, fd, n, ke⟩ := h
  obtain rfl : ws = [] := List.length_eq_zero_iff.mp hl
  refine ⟨_, (pss_cons (ps_expr (pe_callS F_c hr rfl g_c k_c b_c (fun σ => passAt (takes_of rfl rfl rfl rfl) σ) (pa_cons (pv 0) pa_nil))) pss_never), ?_⟩
  exact ⟨_, rfl, v, d, rfl, hd, fd, .inr ⟨n, ke⟩⟩
theorem sr_as_leads : FnScope ["net"] ["net"] (defScope sas_leads) := ⟨rfl, rfl, rfl, by decide +kernel, rfl, by decide +kernel, by decide +kernel⟩
theorem or_as_leads {CN : Addr} (D : Dn K mg "as_leads" sas_leads) (B : Ok P w K mg base (L2.CX P w) 6 "check_net" ["net"] (spCheckD K CN)) : Ok P w K mg base (L2.CX P w) 7 "as_leads" ["net"] (spRefuse K CN 0) := by
  obtain ⟨_, _, g_c, k_c, b_c, F_c⟩ := B.ex
  refine Ok.mkX D sr_as_leads (fun vs H Q E h => ?_) (fun _ _ _ _ _ _ us hl => match us, hl with | [_], _ => rfl) (fun f cdv A outer s H vs Q E hr h => ?_)
  · obtain ⟨_, ws, _, rfl, hl, _⟩ := h
    rw [List.length_cons, hl]
    rfl
  obtain ⟨v, ws, d, rfl, hl, hd, fd, n, ke⟩ := h
  obtain rfl : ws = [] := List.length_eq_zero_iff.mp hl
  refine ⟨_, (pss_cons (ps_expr (pe_callS F_c hr rfl g_c k_c b_c (fun σ => passAt (takes_of rfl rfl rfl rfl) σ) (pa_cons (pv 0) pa_nil))) pss_never), ?_⟩
  exact ⟨_, rfl, v, d, rfl, hd, fd, .inr ⟨n, ke⟩⟩
theorem sr_as_hubs : FnScope ["net"] ["net"] (defScope sas_hubs) := ⟨rfl, rfl, rfl, by decide +kernel, rfl, by decide +kernel, by decide +kernel⟩
theorem or_as_hubs {CN : Addr} (D : Dn K mg "as_hubs" sas_hubs) (B : Ok P w K mg base (L2.CX P w) 6 "check_net" ["net"] (spCheckD K CN)) : Ok P w K mg base (L2.CX P w) 7 "as_hubs" ["net"] (spRefuse K CN 0) := by
  obtain ⟨_, _, g_c, k_c, b_c, F_c⟩ := B.ex
  refine Ok.mkX D sr_as_hubs (fun vs H Q E h => ?_) (fun _ _ _ _ _ _ us hl => match us, hl with | [_], _ => rfl) (fun f cdv A outer s H vs Q E hr h => ?_)
  · obtain ⟨_, ws, _, rfl, hl, _⟩ := h
    rw [List.length_cons, hl]
    rfl
  obtain ⟨v, ws, d, rfl, hl, hd, fd, n, ke⟩ := h
  obtain rfl : ws = [] := List.length_eq_zero_iff.mp hl
  refine ⟨_, (pss_cons (ps_expr (pe_callS F_c hr rfl g_c k_c b_c (fun σ => passAt (takes_of rfl rfl rfl rfl) σ) (pa_cons (pv 0) pa_nil))) pss_never), ?_⟩
  exact ⟨_, rfl, v, d, rfl, hd, fd, .inr ⟨n, ke⟩⟩
theorem sr_as_pipes : FnScope ["net"] ["net"] (defScope sas_pipes) := ⟨rfl, rfl, rfl, by decide +kernel, rfl, by decide +kernel, by decide +kernel⟩
theorem or_as_pipes {CN : Addr} (D : Dn K mg "as_pipes" sas_pipes) (B : Ok P w K mg base (L2.CX P w) 6 "check_net" ["net"] (spCheckD K CN)) : Ok P w K mg base (L2.CX P w) 7 "as_pipes" ["net"] (spRefuse K CN 0) := by
  obtain ⟨_, _, g_c, k_c, b_c, F_c⟩ := B.ex
  refine Ok.mkX D sr_as_pipes (fun vs H Q E h => ?_) (fun _ _ _ _ _ _ us hl => match us, hl with | [_], _ => rfl) (fun f cdv A outer s H vs Q E hr h => ?_)
  · obtain ⟨_, ws, _, rfl, hl, _⟩ := h
    rw [List.length_cons, hl]
    rfl
  obtain ⟨v, ws, d, rfl, hl, hd, fd, n, ke⟩ := h
  obtain rfl : ws = [] := List.length_eq_zero_iff.mp hl
  refine ⟨_, (pss_cons (ps_expr (pe_callS F_c hr rfl g_c k_c b_c (fun σ => passAt (takes_of rfl rfl rfl rfl) σ) (pa_cons (pv 0) pa_nil))) pss_never), ?_⟩
  exact ⟨_, rfl, v, d, rfl, hd, fd, .inr ⟨n, ke⟩⟩
theorem sr_walls : FnScope ["net"] ["net"] (defScope swalls) := ⟨rfl, rfl, rfl, by decide +kernel, rfl, by decide +kernel, by decide +kernel⟩
theorem or_walls {CN : Addr} (D : Dn K mg "walls" swalls) (B : Ok P w K mg base (L2.CX P w) 6 "check_net" ["net"] (spCheckD K CN)) : Ok P w K mg base (L2.CX P w) 7 "walls" ["net"] (spRefuse K CN 0) := by
  obtain ⟨_, _, g_c, k_c, b_c, F_c⟩ := B.ex
  refine Ok.mkX D sr_walls (fun vs H Q E h => ?_) (fun _ _ _ _ _ _ us hl => match us, hl with | [_], _ => rfl) (fun f cdv A outer s H vs Q E hr h => ?_)
  · obtain ⟨_, ws, _, rfl, hl, _⟩ := h
    rw [List.length_cons, hl]
    rfl
  obtain ⟨v, ws, d, rfl, hl, hd, fd, n, ke⟩ := h
  obtain rfl : ws = [] := List.length_eq_zero_iff.mp hl
  refine ⟨_, (pss_cons (ps_expr (pe_callS F_c hr rfl g_c k_c b_c (fun σ => passAt (takes_of rfl rfl rfl rfl) σ) (pa_cons (pv 0) pa_nil))) pss_never), ?_⟩
  exact ⟨_, rfl, v, d, rfl, hd, fd, .inr ⟨n, ke⟩⟩
theorem sr_net_text : FnScope ["net"] ["net"] (defScope snet_text) := ⟨rfl, rfl, rfl, by decide +kernel, rfl, by decide +kernel, by decide +kernel⟩
theorem or_net_text {CN : Addr} (D : Dn K mg "net_text" snet_text) (B : Ok P w K mg base (L2.CX P w) 6 "check_net" ["net"] (spCheckD K CN)) : Ok P w K mg base (L2.CX P w) 7 "net_text" ["net"] (spRefuse K CN 0) := by
  obtain ⟨_, _, g_c, k_c, b_c, F_c⟩ := B.ex
  refine Ok.mkX D sr_net_text (fun vs H Q E h => ?_) (fun _ _ _ _ _ _ us hl => match us, hl with | [_], _ => rfl) (fun f cdv A outer s H vs Q E hr h => ?_)
  · obtain ⟨_, ws, _, rfl, hl, _⟩ := h
    rw [List.length_cons, hl]
    rfl
  obtain ⟨v, ws, d, rfl, hl, hd, fd, n, ke⟩ := h
  obtain rfl : ws = [] := List.length_eq_zero_iff.mp hl
  refine ⟨_, (pss_cons (ps_expr (pe_callS F_c hr rfl g_c k_c b_c (fun σ => passAt (takes_of rfl rfl rfl rfl) σ) (pa_cons (pv 0) pa_nil))) pss_never), ?_⟩
  exact ⟨_, rfl, v, d, rfl, hd, fd, .inr ⟨n, ke⟩⟩
theorem sr_least_side : FnScope ["net", "source", "target"] ["net", "source", "target"] (defScope sleast_side) := ⟨rfl, rfl, rfl, by decide +kernel, rfl, by decide +kernel, by decide +kernel⟩
theorem or_least_side {CN : Addr} (D : Dn K mg "least_side" sleast_side) (B : Ok P w K mg base (L2.CX P w) 7 "check_blocks" ["net", "source", "target"] (spRefuse K CN 2)) : Ok P w K mg base (L2.CX P w) 8 "least_side" ["net", "source", "target"] (spRefuse K CN 2) := by
  obtain ⟨_, _, g_c, k_c, b_c, F_c⟩ := B.ex
  refine Ok.mkX D sr_least_side (fun vs H Q E h => ?_) (fun _ _ _ _ _ _ us hl => match us, hl with | [_, _, _], _ => rfl) (fun f cdv A outer s H vs Q E hr h => ?_)
  · obtain ⟨_, ws, _, rfl, hl, _⟩ := h
    rw [List.length_cons, hl]
    rfl
  obtain ⟨v, ws, d, rfl, hl, hd, fd, n, ke⟩ := h
  obtain ⟨z1, z2, rfl⟩ : ∃ z1 z2, ws = [z1, z2] := by
    match ws, hl with
    | [z1, z2], _ => exact ⟨z1, z2, rfl⟩
  refine ⟨_, (pss_cons (ps_expr (pe_callS F_c hr rfl g_c k_c b_c (fun σ => passAt (takes_of rfl rfl rfl rfl) σ) (pa_cons (pv 0) (pa_cons (pv 1) (pa_cons (pv 2) pa_nil))))) pss_never), ?_⟩
  exact ⟨_, rfl, _, rfl, _, rfl, v, [z1, z2], d, rfl, rfl, hd, fd, n, ke⟩
theorem sr_greatest_flow : FnScope ["net", "source", "target"] ["net", "source", "target"] (defScope sgreatest_flow) := ⟨rfl, rfl, rfl, by decide +kernel, rfl, by decide +kernel, by decide +kernel⟩
theorem or_greatest_flow {CN : Addr} (D : Dn K mg "greatest_flow" sgreatest_flow) (B : Ok P w K mg base (L2.CX P w) 7 "check_blocks" ["net", "source", "target"] (spRefuse K CN 2)) : Ok P w K mg base (L2.CX P w) 8 "greatest_flow" ["net", "source", "target"] (spRefuse K CN 2) := by
  obtain ⟨_, _, g_c, k_c, b_c, F_c⟩ := B.ex
  refine Ok.mkX D sr_greatest_flow (fun vs H Q E h => ?_) (fun _ _ _ _ _ _ us hl => match us, hl with | [_, _, _], _ => rfl) (fun f cdv A outer s H vs Q E hr h => ?_)
  · obtain ⟨_, ws, _, rfl, hl, _⟩ := h
    rw [List.length_cons, hl]
    rfl
  obtain ⟨v, ws, d, rfl, hl, hd, fd, n, ke⟩ := h
  obtain ⟨z1, z2, rfl⟩ : ∃ z1 z2, ws = [z1, z2] := by
    match ws, hl with
    | [z1, z2], _ => exact ⟨z1, z2, rfl⟩
  refine ⟨_, (pss_cons (ps_expr (pe_callS F_c hr rfl g_c k_c b_c (fun σ => passAt (takes_of rfl rfl rfl rfl) σ) (pa_cons (pv 0) (pa_cons (pv 1) (pa_cons (pv 2) pa_nil))))) pss_never), ?_⟩
  exact ⟨_, rfl, _, rfl, _, rfl, v, [z1, z2], d, rfl, rfl, hd, fd, n, ke⟩
theorem sr_flow_between : FnScope ["net", "source", "target"] ["net", "source", "target"] (defScope sflow_between) := ⟨rfl, rfl, rfl, by decide +kernel, rfl, by decide +kernel, by decide +kernel⟩
theorem or_flow_between {CN : Addr} (D : Dn K mg "flow_between" sflow_between) (B : Ok P w K mg base (L2.CX P w) 7 "check_blocks" ["net", "source", "target"] (spRefuse K CN 2)) : Ok P w K mg base (L2.CX P w) 8 "flow_between" ["net", "source", "target"] (spRefuse K CN 2) := by
  obtain ⟨_, _, g_c, k_c, b_c, F_c⟩ := B.ex
  refine Ok.mkX D sr_flow_between (fun vs H Q E h => ?_) (fun _ _ _ _ _ _ us hl => match us, hl with | [_, _, _], _ => rfl) (fun f cdv A outer s H vs Q E hr h => ?_)
  · obtain ⟨_, ws, _, rfl, hl, _⟩ := h
    rw [List.length_cons, hl]
    rfl
  obtain ⟨v, ws, d, rfl, hl, hd, fd, n, ke⟩ := h
  obtain ⟨z1, z2, rfl⟩ : ∃ z1 z2, ws = [z1, z2] := by
    match ws, hl with
    | [z1, z2], _ => exact ⟨z1, z2, rfl⟩
  refine ⟨_, (pss_cons (ps_expr (pe_callS F_c hr rfl g_c k_c b_c (fun σ => passAt (takes_of rfl rfl rfl rfl) σ) (pa_cons (pv 0) (pa_cons (pv 1) (pa_cons (pv 2) pa_nil))))) pss_never), ?_⟩
  exact ⟨_, rfl, _, rfl, _, rfl, v, [z1, z2], d, rfl, rfl, hd, fd, n, ke⟩
theorem sr_is_side : FnScope ["net", "source", "target", "value"] ["net", "source", "target", "value"] (defScope sis_side) := ⟨rfl, rfl, rfl, by decide +kernel, rfl, by decide +kernel, by decide +kernel⟩
theorem or_is_side {CN : Addr} (D : Dn K mg "is_side" sis_side) (B : Ok P w K mg base (L2.CX P w) 7 "check_blocks" ["net", "source", "target"] (spRefuse K CN 2)) : Ok P w K mg base (L2.CX P w) 8 "is_side" ["net", "source", "target", "value"] (spRefuse K CN 3) := by
  obtain ⟨_, _, g_c, k_c, b_c, F_c⟩ := B.ex
  refine Ok.mkX D sr_is_side (fun vs H Q E h => ?_) (fun _ _ _ _ _ _ us hl => match us, hl with | [_, _, _, _], _ => rfl) (fun f cdv A outer s H vs Q E hr h => ?_)
  · obtain ⟨_, ws, _, rfl, hl, _⟩ := h
    rw [List.length_cons, hl]
    rfl
  obtain ⟨v, ws, d, rfl, hl, hd, fd, n, ke⟩ := h
  obtain ⟨z1, z2, z3, rfl⟩ : ∃ z1 z2 z3, ws = [z1, z2, z3] := by
    match ws, hl with
    | [z1, z2, z3], _ => exact ⟨z1, z2, z3, rfl⟩
  refine ⟨_, (pss_cons (ps_expr (pe_callS F_c hr rfl g_c k_c b_c (fun σ => passAt (takes_of rfl rfl rfl rfl) σ) (pa_cons (pv 0) (pa_cons (pv 1) (pa_cons (pv 2) pa_nil))))) pss_never), ?_⟩
  exact ⟨_, rfl, _, rfl, _, rfl, v, [z1, z2], d, rfl, rfl, hd, fd, n, ke⟩
theorem sr_is_flow : FnScope ["net", "source", "target", "value"] ["net", "source", "target", "value"] (defScope sis_flow) := ⟨rfl, rfl, rfl, by decide +kernel, rfl, by decide +kernel, by decide +kernel⟩
theorem or_is_flow {CN : Addr} (D : Dn K mg "is_flow" sis_flow) (B : Ok P w K mg base (L2.CX P w) 7 "check_blocks" ["net", "source", "target"] (spRefuse K CN 2)) : Ok P w K mg base (L2.CX P w) 8 "is_flow" ["net", "source", "target", "value"] (spRefuse K CN 3) := by
  obtain ⟨_, _, g_c, k_c, b_c, F_c⟩ := B.ex
  refine Ok.mkX D sr_is_flow (fun vs H Q E h => ?_) (fun _ _ _ _ _ _ us hl => match us, hl with | [_, _, _, _], _ => rfl) (fun f cdv A outer s H vs Q E hr h => ?_)
  · obtain ⟨_, ws, _, rfl, hl, _⟩ := h
    rw [List.length_cons, hl]
    rfl
  obtain ⟨v, ws, d, rfl, hl, hd, fd, n, ke⟩ := h
  obtain ⟨z1, z2, z3, rfl⟩ : ∃ z1 z2 z3, ws = [z1, z2, z3] := by
    match ws, hl with
    | [z1, z2, z3], _ => exact ⟨z1, z2, z3, rfl⟩
  refine ⟨_, (pss_cons (ps_expr (pe_callS F_c hr rfl g_c k_c b_c (fun σ => passAt (takes_of rfl rfl rfl rfl) σ) (pa_cons (pv 0) (pa_cons (pv 1) (pa_cons (pv 2) pa_nil))))) pss_never), ?_⟩
  exact ⟨_, rfl, _, rfl, _, rfl, v, [z1, z2], d, rfl, rfl, hd, fd, n, ke⟩
theorem sr_amount_of : FnScope ["net", "source", "target", "flow"] ["net", "source", "target", "flow"] (defScope samount_of) := ⟨rfl, rfl, rfl, by decide +kernel, rfl, by decide +kernel, by decide +kernel⟩
theorem or_amount_of {CN : Addr} (D : Dn K mg "amount_of" samount_of) (B : Ok P w K mg base (L2.CX P w) 7 "check_blocks" ["net", "source", "target"] (spRefuse K CN 2)) : Ok P w K mg base (L2.CX P w) 8 "amount_of" ["net", "source", "target", "flow"] (spRefuse K CN 3) := by
  obtain ⟨_, _, g_c, k_c, b_c, F_c⟩ := B.ex
  refine Ok.mkX D sr_amount_of (fun vs H Q E h => ?_) (fun _ _ _ _ _ _ us hl => match us, hl with | [_, _, _, _], _ => rfl) (fun f cdv A outer s H vs Q E hr h => ?_)
  · obtain ⟨_, ws, _, rfl, hl, _⟩ := h
    rw [List.length_cons, hl]
    rfl
  obtain ⟨v, ws, d, rfl, hl, hd, fd, n, ke⟩ := h
  obtain ⟨z1, z2, z3, rfl⟩ : ∃ z1 z2 z3, ws = [z1, z2, z3] := by
    match ws, hl with
    | [z1, z2, z3], _ => exact ⟨z1, z2, z3, rfl⟩
  refine ⟨_, (pss_cons (ps_expr (pe_callS F_c hr rfl g_c k_c b_c (fun σ => passAt (takes_of rfl rfl rfl rfl) σ) (pa_cons (pv 0) (pa_cons (pv 1) (pa_cons (pv 2) pa_nil))))) pss_never), ?_⟩
  exact ⟨_, rfl, _, rfl, _, rfl, v, [z1, z2], d, rfl, rfl, hd, fd, n, ke⟩
theorem sr_beside : FnScope ["first", "second"] ["first", "second"] (defScope sbeside) := ⟨rfl, rfl, rfl, by decide +kernel, rfl, by decide +kernel, by decide +kernel⟩
theorem or_beside {CN : Addr} (D : Dn K mg "beside" sbeside) (B : Ok P w K mg base (L2.CX P w) 6 "check_net" ["net"] (spCheckD K CN)) : Ok P w K mg base (L2.CX P w) 7 "beside" ["first", "second"] (spRefuse2 K CN) := by
  obtain ⟨_, _, g_c, k_c, b_c, F_c⟩ := B.ex
  refine Ok.mkX D sr_beside (fun vs H Q E h => ?_) (fun _ _ _ _ _ _ us hl => match us, hl with | [_, _], _ => rfl) (fun f cdv A outer s H vs Q E hr h => ?_)
  · obtain ⟨_, _, _, rfl, _⟩ := h
    rfl
  obtain ⟨v, u, d, rfl, hd, fd, h⟩ := h
  refine ⟨_, (pss_cons (ps_expr (pe_callS F_c hr rfl g_c k_c b_c (fun σ => passAt (takes_of rfl rfl rfl rfl) σ) (pa_cons (pv 0) pa_nil))) (pss_cons (ps_expr (pe_callS F_c hr rfl g_c k_c b_c (fun σ => passAt (takes_of rfl rfl rfl rfl) σ) (pa_cons (pv 1) pa_nil))) pss_never)), ?_⟩
  refine ⟨_, rfl, v, d, rfl, hd, fd, ?_⟩
  rcases h with ⟨n, ke⟩ | ⟨y, e, he, fe, n, ke⟩
  · exact .inr ⟨n, ke⟩
  · exact .inl ⟨y, fun H1 s1 => ⟨_, rfl, u, e, rfl, dp_same s1 he, fe, .inr ⟨n, fun H2 s2 => ke H2 (s1.trans s2)⟩⟩⟩
theorem sr_alike_nets : FnScope ["net", "another"] ["net", "another"] (defScope salike_nets) := ⟨rfl, rfl, rfl, by decide +kernel, rfl, by decide +kernel, by decide +kernel⟩
theorem or_alike_nets {CN : Addr} (D : Dn K mg "alike_nets" salike_nets) (B : Ok P w K mg base (L2.CX P w) 6 "check_net" ["net"] (spCheckD K CN)) : Ok P w K mg base (L2.CX P w) 7 "alike_nets" ["net", "another"] (spRefuse2 K CN) := by
  obtain ⟨_, _, g_c, k_c, b_c, F_c⟩ := B.ex
  refine Ok.mkX D sr_alike_nets (fun vs H Q E h => ?_) (fun _ _ _ _ _ _ us hl => match us, hl with | [_, _], _ => rfl) (fun f cdv A outer s H vs Q E hr h => ?_)
  · obtain ⟨_, _, _, rfl, _⟩ := h
    rfl
  obtain ⟨v, u, d, rfl, hd, fd, h⟩ := h
  refine ⟨_, (pss_cons (ps_expr (pe_callS F_c hr rfl g_c k_c b_c (fun σ => passAt (takes_of rfl rfl rfl rfl) σ) (pa_cons (pv 0) pa_nil))) (pss_cons (ps_expr (pe_callS F_c hr rfl g_c k_c b_c (fun σ => passAt (takes_of rfl rfl rfl rfl) σ) (pa_cons (pv 1) pa_nil))) pss_never)), ?_⟩
  refine ⟨_, rfl, v, d, rfl, hd, fd, ?_⟩
  rcases h with ⟨n, ke⟩ | ⟨y, e, he, fe, n, ke⟩
  · exact .inr ⟨n, ke⟩
  · exact .inl ⟨y, fun H1 s1 => ⟨_, rfl, u, e, rfl, dp_same s1 he, fe, .inr ⟨n, fun H2 s2 => ke H2 (s1.trans s2)⟩⟩⟩
/-- the def at f is such a door -/
structure DoorAt (P : Program) (w : World) (K : PySem.W.Frag) (mg : Str → Option Value) (base : Heap) (k : Nat) (sp : Sp) (f : Addr) : Prop where
  ex : ∃ ps fd, FnOk P w K mg base (L2.CX P w) k f fd ps sp ∧ PySem.W.keepIn K (.ref f) = true ∧ L2.Binds K fd ps []
theorem doorAt_of {f : Addr} {k : Nat} {x : Str} {ps : List Str} {sp0 sp : Sp} (O : Ok P w K mg base (L2.CX P w) k x ps sp0) (h : ∀ vs H Q E, sp vs H Q E → sp0 vs H Q E) (g : mg x = some (.ref f)) : DoorAt P w K mg base k sp f := by
  obtain ⟨f', fd, g', kp, b, F⟩ := O.ex
  rw [g] at g'
  cases g'
  exact ⟨ps, fd, F.imp h, kp, b⟩
def tCallD (sp : Sp) (S : Addr → Prop) (i : Nat) (E : XK) (t : TA) : TE := fun σ H Q => ∃ f, σ[i]? = some (some (.ref f)) ∧ S f ∧ t σ H fun vs H1 => sp vs H1 Q E
end
section
variable {X : Cx} {sp : Sp} {k : Nat} {S : Addr → Prop} {i : Nat} {x : Str} {p pos : Pos} {E : XK}
/-- x(e, ..), x a local name that holds a door -/
theorem pe_callD {e : Expr} {es : List Expr} {t : TA} (A : ∀ f, S f → DoorAt X.prog X.w X.K X.mg X.base k sp f) (hr : Room k X.A) (hN : X.N[i]? = some x) (hv : Vis X.env.scope x) (hx : Passes (L2.CX X.prog X.w) X E) (ha : PA X (e :: es) t)
    (hdb : (x == ("__debug__" : Str)) = false := by decide) (hcd : (x == ("__classdict__" : Str)) = false := by decide)
    (he : starEach (e :: es) X.env = (false, eval e X.env) :: starEach es X.env := by rfl) (hpl : (backTo pos (starEach es X.env)).any (·.1) = false := by rfl) : PE X (.Call (.Name x p) (e :: es) [] pos) (tCallD sp S i E t) := by
  refine ⟨fun pins s σ H Q I h => ?_⟩
  obtain ⟨f, hs, hS, ht⟩ := h
  obtain ⟨ps, fd, F, hk, hb⟩ := (A f hS).ex
  refine (pe_callL (i := i) (f := f) (sp := sp) (dvs := []) (E := E) F hr hN hv hk hb .nil hx ha hdb hcd he hpl).run pins s σ H Q I ⟨hs, ?_⟩
  have e0 : (fun (vs : List V) (H1 : Hp) => sp (vs ++ []) H1 Q E) = fun vs H1 => sp vs H1 Q E := by
    funext vs H1
    rw [List.append_nil]
  show t σ H (fun vs H1 => sp (vs ++ []) H1 Q E)
  rw [e0]
  exact ht
end

theorem DoorAt.up {P : Program} {w : World} {K : PySem.W.Frag} {mg : Str → Option Value} {base : Heap} {k m : Nat} {sp : Sp} {f : Addr} (h : DoorAt P w K mg base k sp f) (l : k ≤ m) : DoorAt P w K mg base m sp f := by
  obtain ⟨ps, fd, F, kp, b⟩ := h.ex
  exact ⟨ps, fd, F.mono l, kp, b⟩
theorem ref_sort {K : PySem.W.Frag} {CN : Addr} : ∀ vs H Q E, spRefuse K CN 0 vs H Q E → spSortOf K CN vs H Q E := fun vs H Q E h => by
  obtain ⟨v, ws, d, rfl, hl, hd, fd, n, ke⟩ := h
  obtain rfl : ws = [] := List.length_eq_zero_iff.mp hl
  exact ⟨v, rfl, .inr ⟨d, hd, fd, n, ke⟩⟩
theorem ref_places {K : PySem.W.Frag} {CN : Addr} : ∀ vs H Q E, spRefuse K CN 0 vs H Q E → spPlacesOf K CN vs H Q E := fun vs H Q E h => by
  obtain ⟨v, ws, d, rfl, hl, hd, fd, n, ke⟩ := h
  obtain rfl : ws = [] := List.length_eq_zero_iff.mp hl
  exact ⟨v, rfl, .inr ⟨d, hd, fd, n, ke⟩⟩
theorem ref_inner {K : PySem.W.Frag} {CN : Addr} : ∀ vs H Q E, spRefuse K CN 0 vs H Q E → spInnerOf K CN vs H Q E := fun vs H Q E h => by
  obtain ⟨v, ws, d, rfl, hl, hd, fd, n, ke⟩ := h
  obtain rfl : ws = [] := List.length_eq_zero_iff.mp hl
  exact ⟨v, rfl, .inr ⟨d, hd, fd, n, ke⟩⟩
theorem ref_isof {K : PySem.W.Frag} {CN CS : Addr} : ∀ vs H Q E, spRefuse K CN 1 vs H Q E → spIsOf K CN CS vs H Q E := fun vs H Q E h => by
  obtain ⟨v, ws, d, rfl, hl, hd, fd, n, ke⟩ := h
  obtain ⟨z, rfl⟩ : ∃ z, ws = [z] := by
    match ws, hl with
    | [z], _ => exact ⟨z, rfl⟩
  exact ⟨v, z, rfl, .inr ⟨d, hd, fd, n, ke⟩⟩
end K05
set_option maxHeartbeats 4000000
set_option exponentiation.threshold 10000
namespace K05
open PySem PySem.Spec PyProof.Rows L2 Hx RZ
/-! ### all doors refuse -/
theorem ext_tk {H H' : Hp} (e : LamX.ExtN H H') : TK H H' := ⟨fun b xs h => e b _ h (fun ps z => by cases z), fun b o u h => e b _ h (fun ps z => by cases z)⟩
theorem St.ext {H H' : Hp} {d g c : Addr} {n : Nat} (h : St H d g c n) (e : LamX.ExtN H H') : St H' d g c n := by
  obtain ⟨gs, cs, r, t, h1, h2, h3, h4, h5, h6, h7⟩ := h
  exact ⟨gs, cs, r, t, e _ _ h1 (fun ps z => by cases z), e _ _ h2 (fun ps z => by cases z), e _ _ h3 (fun ps z => by cases z), h4, h5, h6, h7⟩
theorem tabs_kp {T : List (Addr × Str)} {H H' : Hp} {d g c : Addr} {n : Nat} (t : LamX.Tabs T H) (k : Kp d g H H') (S : St H d g c n) : LamX.Tabs T H' := by
  obtain ⟨gs, cs, r, tt, h1, h2, _⟩ := S
  intro p hp
  obtain ⟨ps, a1, a2, a3⟩ := t p hp
  refine ⟨ps, k _ _ a1 (ne_of a1 h1 (by intro z; cases z)) (ne_of a1 h2 (by intro z; cases z)), a2, fun pos cv hc => ?_⟩
  obtain ⟨c', e1, e2⟩ := a3 pos cv hc
  exact ⟨c', e1, k _ _ e2 (ne_of e2 h1 (by intro z; unfold LamX.CodeO at z; cases z)) (ne_of e2 h2 (by intro z; unfold LamX.CodeO at z; cases z))⟩
theorem ext_seqL {K : PySem.W.Frag} {H H' : Hp} {a : Addr} {xs : List V} (e : LamX.ExtN H H') (h : SqL K H a xs) : SqL K H' a xs := by
  rcases h with (h | ⟨o, h⟩) | h
  · exact .inl (.inl (e _ _ h (fun ps z => by cases z)))
  · exact .inl (.inr ⟨o, e _ _ h (fun ps z => by cases z)⟩)
  · exact .inr h
mutual
theorem dp_ext {K : PySem.W.Frag} {H H' : Hp} (e : LamX.ExtN H H') : ∀ {v : V} {d : PyData}, Dp K H v d → Dp K H' v d
  | _, _, .non => .non
  | _, _, .bl b => .bl b
  | _, _, .int i => .int i
  | _, _, .str x => .str x
  | _, _, .lst h r => .lst (ext_seqL e h) (dpAll_ext e r)
  | _, _, .tup h r => .tup (tk_seqT (ext_tk e) h) (dpAll_ext e r)
theorem dpAll_ext {K : PySem.W.Frag} {H H' : Hp} (e : LamX.ExtN H H') : ∀ {vs : List V} {ds : List PyData}, DpAll K H vs ds → DpAll K H' vs ds
  | _, _, .nil => .nil
  | _, _, .cons h r => .cons (dp_ext e h) (dpAll_ext e r)
end
structure LawE (K : PySem.W.Frag) (mg : Str → Option Value) (CT CN CS : Addr) : Prop where
  tap : mg "TapError" = some (.ref CT)
  bn : mg "BadNet" = some (.ref CN)
  bs : mg "BadSort" = some (.ref CS)
  exN : PySem.W.exmOne K (.ref CN) (.ref CT) = some true
  exS : PySem.W.exmOne K (.ref CS) (.ref CT) = some true
  ecN : ExcC K CN
  ecS : ExcC K CS
theorem kit_self {K : PySem.W.Frag} {C : Addr} : PySem.W.kitOne K (.ref C) (.ref C) = some true := by
  unfold PySem.W.kitOne
  rw [if_pos (by simp)]
theorem sc_caught : FnScope ["action", "found", "error"] ["action"] (defScope sL_caught) := ⟨rfl, rfl, rfl, by decide +kernel, rfl, by decide +kernel, by decide +kernel⟩
abbrev q1 : Str := "_law_an_all_refuse" ++ ".<locals>." ++ "<lambda>"
abbrev q2 : Str := "law" ++ ".<locals>." ++ "<lambda>"
abbrev T2 (P1 P2 : Addr) : List (Addr × Str) := [(P1, q1), (P2, q2)]
theorem two1 {P1 P2 : Addr} (h : P1 ≠ P2) : ∀ p ∈ T2 P1 P2, p.1 = P1 → p.2 = q1 := fun p hp e => by
  simp only [List.mem_cons, List.not_mem_nil, or_false] at hp
  rcases hp with rfl | rfl
  · rfl
  · exact absurd e.symm h
theorem two2 {P1 P2 : Addr} (h : P1 ≠ P2) : ∀ p ∈ T2 P1 P2, p.1 = P2 → p.2 = q2 := fun p hp e => by
  simp only [List.mem_cons, List.not_mem_nil, or_false] at hp
  rcases hp with rfl | rfl
  · exact absurd e h
  · rfl
/-- a def that makes lambdas: its code's table is at P -/
def DnT (K : PySem.W.Frag) (mg : Str → Option Value) (base : Heap) (x : Str) (st : Stmt) (P : Addr) : Prop := ∃ f fd, mg x = some (.ref f) ∧ FnD K x st f fd ∧ ∀ c, fd.code = .ref c → LamX.TabB base mg c P
section
variable {P : Program} {w : World} {K : PySem.W.Frag} {mg : Str → Option Value} {base : Heap}
theorem door_ex {x : Str} {k : Nat} {ps : List Str} {sp0 sp : Sp} (O : Ok P w K mg base (L2.CX P w) k x ps sp0) (h : ∀ vs H Q E, sp vs H Q E → sp0 vs H Q E) (l : k ≤ 8) : ∃ f, mg x = some (.ref f) ∧ DoorAt P w K mg base 8 sp f := by
  obtain ⟨f, fd, g, kp, b, F⟩ := O.ex
  exact ⟨f, g, (doorAt_of O h g).up l⟩
theorem Ok.mk0T {x : Str} {st : Stmt} {N ps : List Str} {k : Nat} {sp : Sp} {PT : Addr} (D : DnT K mg base x st PT) (S : FnScope N ps (defScope st)) (len : ∀ vs H Q E, sp vs H Q E → vs.length = ps.length)
    (hb : ∀ (kV doc pm : Value) (an : Option Addr) (cdv ct : Value) (us : List Value), us.length = ps.length → bindArgs (PySem.W.fnOf x x (defArgs st) (defBody st) (defScope st) .none kV doc pm an cdv ct) ⟨us, []⟩ = pure (ps.zip us))
    (hbody : ∀ (f c : Addr) (A : Around) (outer : List Env) (s : Shared) (H : Hp) (vs : List V) (Q : VK) (E : XK), LamX.TabB base mg c PT → Room k (A.deeper (envOfC x (defScope st) s.heap.objs.size f (.ref c))) → sp vs H Q E →
      ∃ t, PSs (cxOf L2.CX0 P w K mg base N x (defScope st) f (.ref c) A outer s H E).nox (defBody st) t ∧ t { nx := fun _ H' => Q .non H', rt := Q } (L2.start N vs) H) : Ok P w K mg base L2.CX0 (k + 1) x ps sp := by
  obtain ⟨f, fd, g, F, tb⟩ := D
  have bn := F.bindsN hb
  have kp := F.kp
  obtain ⟨oc, od, dV, kV, doc, pm, an, cdv, ct, osl, rfl, lk, hcd, hD, hK⟩ := F.ex
  obtain ⟨c0, rfl⟩ := He.codeIn_ref hcd
  refine ⟨f, _, g, kp, bn, fn_of lk hcd S len fun A outer s H vs Q E hr h => ?_⟩
  obtain ⟨t, ht, q⟩ := hbody f c0 A outer s H vs Q E (tb c0 rfl) hr h
  exact ⟨t, ht.nox, q⟩
def spAllRefuse (T : List (Addr × Str)) (K : PySem.W.Frag) : Sp := fun vs H Q _ => ∃ (v u : V) (d e : PyData), vs = [v, u] ∧ Dp K H v d ∧ Fine 12 d ∧ ¬ NetP d ∧ Dp K H u e ∧ Fine 12 e ∧ NetP e ∧ LamX.Tabs T H ∧ ∀ H', LamX.ExtN H H' → LamX.Tabs T H' → Q (.bl true) H'
theorem sc_all_refuse : FnScope ["thing", "good", "door"] ["thing", "good"] (defScope sL_an_all_refuse) := ⟨rfl, rfl, rfl, by decide +kernel, rfl, by decide +kernel, by decide +kernel⟩
theorem ok_all_refuse {CT CN CS P1 P2 : Addr} (X0 : LawE K mg CT CN CS) (ne : P1 ≠ P2) (D : DnT K mg base "_law_an_all_refuse" sL_an_all_refuse P1) (Dc : Dn K mg "_law_caught" sL_caught) (B0 : OkN P w K mg base (L2.CX P w) 7 "sort_of" ["net"] 0 ["net"] (spSortOf K CN)) (B1 : OkN P w K mg base (L2.CX P w) 7 "places_of" ["net"] 0 ["net"] (spPlacesOf K CN)) (B2 : Ok P w K mg base (L2.CX P w) 7 "inner_of" ["net"] (spInnerOf K CN)) (B3 : Ok P w K mg base (L2.CX P w) 7 "without_empty" ["net"] (spRefuse K CN 0)) (B4 : Ok P w K mg base (L2.CX P w) 7 "turned_net" ["net"] (spRefuse K CN 0)) (B5 : Ok P w K mg base (L2.CX P w) 7 "as_leads" ["net"] (spRefuse K CN 0)) (B6 : Ok P w K mg base (L2.CX P w) 7 "as_hubs" ["net"] (spRefuse K CN 0)) (B7 : Ok P w K mg base (L2.CX P w) 7 "as_pipes" ["net"] (spRefuse K CN 0)) (B8 : Ok P w K mg base (L2.CX P w) 7 "walls" ["net"] (spRefuse K CN 0)) (B9 : Ok P w K mg base (L2.CX P w) 7 "net_text" ["net"] (spRefuse K CN 0)) (B10 : Ok P w K mg base (L2.CX P w) 7 "beside" ["first", "second"] (spRefuse2 K CN)) (B11 : Ok P w K mg base (L2.CX P w) 7 "alike_nets" ["net", "another"] (spRefuse2 K CN)) (B12 : OkN P w K mg base (L2.CX P w) 7 "is_of_sort" ["net", "sort"] 1 ["sort"] (spIsOf K CN CS)) (B13 : Ok P w K mg base (L2.CX P w) 7 "scaled" ["net", "factor"] (spRefuse K CN 1)) (B14 : Ok P w K mg base (L2.CX P w) 7 "side_cost" ["net", "side"] (spRefuse K CN 1)) (B15 : Ok P w K mg base (L2.CX P w) 7 "renamed_net" ["net", "names"] (spRefuse K CN 1)) (B16 : Ok P w K mg base (L2.CX P w) 7 "hidden_net" ["net", "tap"] (spRefuse K CN 1)) (B17 : Ok P w K mg base (L2.CX P w) 7 "wall" ["net", "lot"] (spRefuse K CN 1)) (B18 : Ok P w K mg base (L2.CX P w) 7 "melted_net" ["net", "kept", "gone"] (spRefuse K CN 2)) (B19 : Ok P w K mg base (L2.CX P w) 8 "least_side" ["net", "source", "target"] (spRefuse K CN 2)) (B20 : Ok P w K mg base (L2.CX P w) 8 "greatest_flow" ["net", "source", "target"] (spRefuse K CN 2)) (B21 : Ok P w K mg base (L2.CX P w) 8 "flow_between" ["net", "source", "target"] (spRefuse K CN 2)) (B22 : Ok P w K mg base (L2.CX P w) 8 "is_side" ["net", "source", "target", "value"] (spRefuse K CN 3)) (B23 : Ok P w K mg base (L2.CX P w) 8 "is_flow" ["net", "source", "target", "value"] (spRefuse K CN 3)) (B24 : Ok P w K mg base (L2.CX P w) 8 "amount_of" ["net", "source", "target", "flow"] (spRefuse K CN 3))
    (h_isinstance : mg "isinstance" = none) : Ok P w K mg base L2.CX0 11 "_law_an_all_refuse" ["thing", "good"] (spAllRefuse (T2 P1 P2) K) := by
  obtain ⟨f_sort_of, g_sort_of, d_sort_of⟩ := door_ex (sp := spRefuse K CN 0) B0.ok ref_sort (show 7 ≤ 8 by decide)
  obtain ⟨f_places_of, g_places_of, d_places_of⟩ := door_ex (sp := spRefuse K CN 0) B1.ok ref_places (show 7 ≤ 8 by decide)
  obtain ⟨f_inner_of, g_inner_of, d_inner_of⟩ := door_ex (sp := spRefuse K CN 0) B2 ref_inner (show 7 ≤ 8 by decide)
  obtain ⟨f_without_empty, g_without_empty, d_without_empty⟩ := door_ex (sp := spRefuse K CN 0) B3 (fun _ _ _ _ h => h) (show 7 ≤ 8 by decide)
  obtain ⟨f_turned_net, g_turned_net, d_turned_net⟩ := door_ex (sp := spRefuse K CN 0) B4 (fun _ _ _ _ h => h) (show 7 ≤ 8 by decide)
  obtain ⟨f_as_leads, g_as_leads, d_as_leads⟩ := door_ex (sp := spRefuse K CN 0) B5 (fun _ _ _ _ h => h) (show 7 ≤ 8 by decide)
  obtain ⟨f_as_hubs, g_as_hubs, d_as_hubs⟩ := door_ex (sp := spRefuse K CN 0) B6 (fun _ _ _ _ h => h) (show 7 ≤ 8 by decide)
  obtain ⟨f_as_pipes, g_as_pipes, d_as_pipes⟩ := door_ex (sp := spRefuse K CN 0) B7 (fun _ _ _ _ h => h) (show 7 ≤ 8 by decide)
  obtain ⟨f_walls, g_walls, d_walls⟩ := door_ex (sp := spRefuse K CN 0) B8 (fun _ _ _ _ h => h) (show 7 ≤ 8 by decide)
  obtain ⟨f_net_text, g_net_text, d_net_text⟩ := door_ex (sp := spRefuse K CN 0) B9 (fun _ _ _ _ h => h) (show 7 ≤ 8 by decide)
  obtain ⟨f_beside, g_beside, d_beside⟩ := door_ex (sp := spRefuse2 K CN) B10 (fun _ _ _ _ h => h) (show 7 ≤ 8 by decide)
  obtain ⟨f_alike_nets, g_alike_nets, d_alike_nets⟩ := door_ex (sp := spRefuse2 K CN) B11 (fun _ _ _ _ h => h) (show 7 ≤ 8 by decide)
  obtain ⟨f_is_of_sort, g_is_of_sort, d_is_of_sort⟩ := door_ex (sp := spRefuse K CN 1) B12.ok ref_isof (show 7 ≤ 8 by decide)
  obtain ⟨f_scaled, g_scaled, d_scaled⟩ := door_ex (sp := spRefuse K CN 1) B13 (fun _ _ _ _ h => h) (show 7 ≤ 8 by decide)
  obtain ⟨f_side_cost, g_side_cost, d_side_cost⟩ := door_ex (sp := spRefuse K CN 1) B14 (fun _ _ _ _ h => h) (show 7 ≤ 8 by decide)
  obtain ⟨f_renamed_net, g_renamed_net, d_renamed_net⟩ := door_ex (sp := spRefuse K CN 1) B15 (fun _ _ _ _ h => h) (show 7 ≤ 8 by decide)
  obtain ⟨f_hidden_net, g_hidden_net, d_hidden_net⟩ := door_ex (sp := spRefuse K CN 1) B16 (fun _ _ _ _ h => h) (show 7 ≤ 8 by decide)
  obtain ⟨f_wall, g_wall, d_wall⟩ := door_ex (sp := spRefuse K CN 1) B17 (fun _ _ _ _ h => h) (show 7 ≤ 8 by decide)
  obtain ⟨f_melted_net, g_melted_net, d_melted_net⟩ := door_ex (sp := spRefuse K CN 2) B18 (fun _ _ _ _ h => h) (show 7 ≤ 8 by decide)
  obtain ⟨f_least_side, g_least_side, d_least_side⟩ := door_ex (sp := spRefuse K CN 2) B19 (fun _ _ _ _ h => h) (show 8 ≤ 8 by decide)
  obtain ⟨f_greatest_flow, g_greatest_flow, d_greatest_flow⟩ := door_ex (sp := spRefuse K CN 2) B20 (fun _ _ _ _ h => h) (show 8 ≤ 8 by decide)
  obtain ⟨f_flow_between, g_flow_between, d_flow_between⟩ := door_ex (sp := spRefuse K CN 2) B21 (fun _ _ _ _ h => h) (show 8 ≤ 8 by decide)
  obtain ⟨f_is_side, g_is_side, d_is_side⟩ := door_ex (sp := spRefuse K CN 3) B22 (fun _ _ _ _ h => h) (show 8 ≤ 8 by decide)
  obtain ⟨f_is_flow, g_is_flow, d_is_flow⟩ := door_ex (sp := spRefuse K CN 3) B23 (fun _ _ _ _ h => h) (show 8 ≤ 8 by decide)
  obtain ⟨f_amount_of, g_amount_of, d_amount_of⟩ := door_ex (sp := spRefuse K CN 3) B24 (fun _ _ _ _ h => h) (show 8 ≤ 8 by decide)
  obtain ⟨fc, fdc, gc, Fc⟩ := Dc
  have bc := Fc.bindsN (ps := ["action"]) fun _ _ _ _ _ _ us hl => match us, hl with | [_], _ => rfl
  obtain ⟨occ, odc, dVc, kVc, docc, pmc, anc, cdc, ctc, oslc, rfl, lkc, hcdc, hDc, hKc⟩ := Fc.ex
  refine Ok.mk0T D sc_all_refuse (fun vs H Q E h => ?_) (fun _ _ _ _ _ _ us hl => match us, hl with | [_, _], _ => rfl) (fun f0 c0 A outer s H vs Q E TB hr h => ?_)
  · obtain ⟨_, _, _, _, rfl, _⟩ := h
    rfl
  obtain ⟨v, u, d, e, rfl, hv, fd, nd0, hu, fe, pe0, T, k⟩ := h
  have nd := sc_all_refuse.nd
  refine ⟨_, (C8.pss_cut (ps_for PassesOwn.never rfl (pi_list (pe_lst (pa_cons (pe_glob (v := .ref f_sort_of) rfl g_sort_of rfl) (pa_cons (pe_glob (v := .ref f_places_of) rfl g_places_of rfl) (pa_cons (pe_glob (v := .ref f_inner_of) rfl g_inner_of rfl) (pa_cons (pe_glob (v := .ref f_without_empty) rfl g_without_empty rfl) (pa_cons (pe_glob (v := .ref f_turned_net) rfl g_turned_net rfl) (pa_cons (pe_glob (v := .ref f_as_leads) rfl g_as_leads rfl) (pa_cons (pe_glob (v := .ref f_as_hubs) rfl g_as_hubs rfl) (pa_cons (pe_glob (v := .ref f_as_pipes) rfl g_as_pipes rfl) (pa_cons (pe_glob (v := .ref f_walls) rfl g_walls rfl) (pa_cons (pe_glob (v := .ref f_net_text) rfl g_net_text rfl) pa_nil)))))))))))) (pg_name (i := 2) nd rfl (Or.inr rfl))
    (pss_one (ps_if (pt_not (pt_val (pe_callB call_isK (by rfl) h_isinstance (by decide +kernel) (pa_cons (LamX.pe_lamcall (k := 8) (T := T2 P1 P2) (TT := TCaught K CT) (a := "action") (Ng := ["action", "found", "error"]) rfl gc Fc.kp lkc hcdc bc sc_caught rfl (Or.inl rfl)
        (caught_gives (p8 := ⟨0, 0, 0, 0⟩) rfl X0.tap (by decide) rfl rfl rfl (by decide +kernel) (by decide) (by decide) (by decide) (by decide) (fun _ => rfl) (fun _ => rfl)) TB rfl List.mem_cons_self (two1 ne) hr (LamX.lamS_by (sc := defScope sL_an_all_refuse) (by decide +kernel)) rfl (fun _ _ _ _ _ => rfl)
        (fun A outer s H E f c' hr' => by exact pe_callD (sp := spRefuse K CN 0) (k := 8) (S := DoorAt P w K mg base 8 (spRefuse K CN 0)) (i := 2) (fun _ h => h) (hr'.mono (by decide)) (by rfl) (by first | exact Or.inl rfl | exact Or.inr (Or.inl rfl) | exact Or.inr (Or.inr rfl)) (passes_call (takes_of rfl rfl rfl rfl) (fun _ _ _ _ h => h)) (pa_cons (pv 0) pa_nil))) (pa_cons (pe_glob (v := .ref CN) rfl X0.bn rfl) pa_nil)))))
      (pss_one (ps_ret pe_bl))
      pss_nil)))
  (C8.pss_cut (ps_for PassesOwn.never rfl (pi_list (pe_lst (pa_cons (pe_glob (v := .ref f_beside) rfl g_beside rfl) (pa_cons (pe_glob (v := .ref f_alike_nets) rfl g_alike_nets rfl) pa_nil)))) (pg_name (i := 2) nd rfl (Or.inr rfl))
    (pss_cons (ps_if (pt_not (pt_val (pe_callB call_isK (by rfl) h_isinstance (by decide +kernel) (pa_cons (LamX.pe_lamcall (k := 8) (T := T2 P1 P2) (TT := TCaught K CT) (a := "action") (Ng := ["action", "found", "error"]) rfl gc Fc.kp lkc hcdc bc sc_caught rfl (Or.inl rfl)
        (caught_gives (p8 := ⟨0, 0, 0, 0⟩) rfl X0.tap (by decide) rfl rfl rfl (by decide +kernel) (by decide) (by decide) (by decide) (by decide) (fun _ => rfl) (fun _ => rfl)) TB rfl List.mem_cons_self (two1 ne) hr (LamX.lamS_by (sc := defScope sL_an_all_refuse) (by decide +kernel)) rfl (fun _ _ _ _ _ => rfl)
        (fun A outer s H E f c' hr' => by exact pe_callD (sp := spRefuse2 K CN) (k := 8) (S := DoorAt P w K mg base 8 (spRefuse2 K CN)) (i := 2) (fun _ h => h) (hr'.mono (by decide)) (by rfl) (by first | exact Or.inl rfl | exact Or.inr (Or.inl rfl) | exact Or.inr (Or.inr rfl)) (passes_call (takes_of rfl rfl rfl rfl) (fun _ _ _ _ h => h)) (pa_cons (pv 0) (pa_cons pe_non pa_nil)))) (pa_cons (pe_glob (v := .ref CN) rfl X0.bn rfl) pa_nil)))))
      (pss_one (ps_ret pe_bl))
      pss_nil)
  (pss_one (ps_if (pt_not (pt_val (pe_callB call_isK (by rfl) h_isinstance (by decide +kernel) (pa_cons (LamX.pe_lamcall (k := 8) (T := T2 P1 P2) (TT := TCaught K CT) (a := "action") (Ng := ["action", "found", "error"]) rfl gc Fc.kp lkc hcdc bc sc_caught rfl (Or.inl rfl)
        (caught_gives (p8 := ⟨0, 0, 0, 0⟩) rfl X0.tap (by decide) rfl rfl rfl (by decide +kernel) (by decide) (by decide) (by decide) (by decide) (fun _ => rfl) (fun _ => rfl)) TB rfl List.mem_cons_self (two1 ne) hr (LamX.lamS_by (sc := defScope sL_an_all_refuse) (by decide +kernel)) rfl (fun _ _ _ _ _ => rfl)
        (fun A outer s H E f c' hr' => by exact pe_callD (sp := spRefuse2 K CN) (k := 8) (S := DoorAt P w K mg base 8 (spRefuse2 K CN)) (i := 2) (fun _ h => h) (hr'.mono (by decide)) (by rfl) (by first | exact Or.inl rfl | exact Or.inr (Or.inl rfl) | exact Or.inr (Or.inr rfl)) (passes_call (takes_of rfl rfl rfl rfl) (fun _ _ _ _ h => h)) (pa_cons (pv 1) (pa_cons (pv 0) pa_nil)))) (pa_cons (pe_glob (v := .ref CN) rfl X0.bn rfl) pa_nil)))))
      (pss_one (ps_ret pe_bl))
      pss_nil))))
  (C8.pss_cut (ps_for PassesOwn.never rfl (pi_list (pe_lst (pa_cons (pe_glob (v := .ref f_is_of_sort) rfl g_is_of_sort rfl) (pa_cons (pe_glob (v := .ref f_scaled) rfl g_scaled rfl) (pa_cons (pe_glob (v := .ref f_side_cost) rfl g_side_cost rfl) (pa_cons (pe_glob (v := .ref f_renamed_net) rfl g_renamed_net rfl) (pa_cons (pe_glob (v := .ref f_hidden_net) rfl g_hidden_net rfl) (pa_cons (pe_glob (v := .ref f_wall) rfl g_wall rfl) pa_nil)))))))) (pg_name (i := 2) nd rfl (Or.inr rfl))
    (pss_one (ps_if (pt_not (pt_val (pe_callB call_isK (by rfl) h_isinstance (by decide +kernel) (pa_cons (LamX.pe_lamcall (k := 8) (T := T2 P1 P2) (TT := TCaught K CT) (a := "action") (Ng := ["action", "found", "error"]) rfl gc Fc.kp lkc hcdc bc sc_caught rfl (Or.inl rfl)
        (caught_gives (p8 := ⟨0, 0, 0, 0⟩) rfl X0.tap (by decide) rfl rfl rfl (by decide +kernel) (by decide) (by decide) (by decide) (by decide) (fun _ => rfl) (fun _ => rfl)) TB rfl List.mem_cons_self (two1 ne) hr (LamX.lamS_by (sc := defScope sL_an_all_refuse) (by decide +kernel)) rfl (fun _ _ _ _ _ => rfl)
        (fun A outer s H E f c' hr' => by exact pe_callD (sp := spRefuse K CN 1) (k := 8) (S := DoorAt P w K mg base 8 (spRefuse K CN 1)) (i := 2) (fun _ h => h) (hr'.mono (by decide)) (by rfl) (by first | exact Or.inl rfl | exact Or.inr (Or.inl rfl) | exact Or.inr (Or.inr rfl)) (passes_call (takes_of rfl rfl rfl rfl) (fun _ _ _ _ h => h)) (pa_cons (pv 0) (pa_cons pe_non pa_nil)))) (pa_cons (pe_glob (v := .ref CN) rfl X0.bn rfl) pa_nil)))))
      (pss_one (ps_ret pe_bl))
      pss_nil)))
  (C8.pss_cut (ps_for PassesOwn.never rfl (pi_list (pe_lst (pa_cons (pe_glob (v := .ref f_melted_net) rfl g_melted_net rfl) (pa_cons (pe_glob (v := .ref f_least_side) rfl g_least_side rfl) (pa_cons (pe_glob (v := .ref f_greatest_flow) rfl g_greatest_flow rfl) (pa_cons (pe_glob (v := .ref f_flow_between) rfl g_flow_between rfl) pa_nil)))))) (pg_name (i := 2) nd rfl (Or.inr rfl))
    (pss_one (ps_if (pt_not (pt_val (pe_callB call_isK (by rfl) h_isinstance (by decide +kernel) (pa_cons (LamX.pe_lamcall (k := 8) (T := T2 P1 P2) (TT := TCaught K CT) (a := "action") (Ng := ["action", "found", "error"]) rfl gc Fc.kp lkc hcdc bc sc_caught rfl (Or.inl rfl)
        (caught_gives (p8 := ⟨0, 0, 0, 0⟩) rfl X0.tap (by decide) rfl rfl rfl (by decide +kernel) (by decide) (by decide) (by decide) (by decide) (fun _ => rfl) (fun _ => rfl)) TB rfl List.mem_cons_self (two1 ne) hr (LamX.lamS_by (sc := defScope sL_an_all_refuse) (by decide +kernel)) rfl (fun _ _ _ _ _ => rfl)
        (fun A outer s H E f c' hr' => by exact pe_callD (sp := spRefuse K CN 2) (k := 8) (S := DoorAt P w K mg base 8 (spRefuse K CN 2)) (i := 2) (fun _ h => h) (hr'.mono (by decide)) (by rfl) (by first | exact Or.inl rfl | exact Or.inr (Or.inl rfl) | exact Or.inr (Or.inr rfl)) (passes_call (takes_of rfl rfl rfl rfl) (fun _ _ _ _ h => h)) (pa_cons (pv 0) (pa_cons pe_non (pa_cons pe_non pa_nil))))) (pa_cons (pe_glob (v := .ref CN) rfl X0.bn rfl) pa_nil)))))
      (pss_one (ps_ret pe_bl))
      pss_nil)))
  (C8.pss_cut (ps_for PassesOwn.never rfl (pi_list (pe_lst (pa_cons (pe_glob (v := .ref f_is_side) rfl g_is_side rfl) (pa_cons (pe_glob (v := .ref f_is_flow) rfl g_is_flow rfl) (pa_cons (pe_glob (v := .ref f_amount_of) rfl g_amount_of rfl) pa_nil))))) (pg_name (i := 2) nd rfl (Or.inr rfl))
    (pss_one (ps_if (pt_not (pt_val (pe_callB call_isK (by rfl) h_isinstance (by decide +kernel) (pa_cons (LamX.pe_lamcall (k := 8) (T := T2 P1 P2) (TT := TCaught K CT) (a := "action") (Ng := ["action", "found", "error"]) rfl gc Fc.kp lkc hcdc bc sc_caught rfl (Or.inl rfl)
        (caught_gives (p8 := ⟨0, 0, 0, 0⟩) rfl X0.tap (by decide) rfl rfl rfl (by decide +kernel) (by decide) (by decide) (by decide) (by decide) (fun _ => rfl) (fun _ => rfl)) TB rfl List.mem_cons_self (two1 ne) hr (LamX.lamS_by (sc := defScope sL_an_all_refuse) (by decide +kernel)) rfl (fun _ _ _ _ _ => rfl)
        (fun A outer s H E f c' hr' => by exact pe_callD (sp := spRefuse K CN 3) (k := 8) (S := DoorAt P w K mg base 8 (spRefuse K CN 3)) (i := 2) (fun _ h => h) (hr'.mono (by decide)) (by rfl) (by first | exact Or.inl rfl | exact Or.inr (Or.inl rfl) | exact Or.inr (Or.inr rfl)) (passes_call (takes_of rfl rfl rfl rfl) (fun _ _ _ _ h => h)) (pa_cons (pv 0) (pa_cons pe_non (pa_cons pe_non (pa_cons pe_non pa_nil)))))) (pa_cons (pe_glob (v := .ref CN) rfl X0.bn rfl) pa_nil)))))
      (pss_one (ps_ret pe_bl))
      pss_nil)))
  (pss_one (ps_ret pe_bl))))))), ?_⟩
  have ex0 : LamX.ExtN H H := .refl _
  refine ⟨fun σ H' => ∃ o : Option V, σ = [some v, some u, o] ∧ LamX.ExtN H H' ∧ LamX.Tabs (T2 P1 P2) H', ?_, ?_⟩
  · refine ⟨by rw [sizeLine_eq]; show 10 ≤ _; decide, fun l hl => ?_⟩
    have u1 := same_upd (o := .lst [.ref f_sort_of, .ref f_places_of, .ref f_inner_of, .ref f_without_empty, .ref f_turned_net, .ref f_as_leads, .ref f_as_hubs, .ref f_as_pipes, .ref f_walls, .ref f_net_text]) hl
    have e1 := upd_same (H := H) (a := l) (o := .lst [.ref f_sort_of, .ref f_places_of, .ref f_inner_of, .ref f_without_empty, .ref f_turned_net, .ref f_as_leads, .ref f_as_hubs, .ref f_as_pipes, .ref f_walls, .ref f_net_text])
    generalize upd H l (.lst [.ref f_sort_of, .ref f_places_of, .ref f_inner_of, .ref f_without_empty, .ref f_turned_net, .ref f_as_leads, .ref f_as_hubs, .ref f_as_pipes, .ref f_walls, .ref f_net_text]) = J0 at u1 e1 ⊢
    refine ⟨l, rfl, ⟨_, SqL.of e1⟩, ?_⟩
    refine for_list (K := K) (fun _ σ H' => ∃ o : Option V, σ = [some v, some u, o] ∧ LamX.ExtN J0 H' ∧ LamX.Tabs (T2 P1 P2) H') ⟨_, rfl, .refl _, T.ext u1⟩ (fun i σ H' _ ⟨_, _, e, _⟩ => SqL.of (e _ _ e1 fun _ z => by cases z)) ?_ ?_
    · rintro k2 y σ J1 hy ⟨o, rfl, ex1, TJ1⟩
      obtain ⟨f, rfl, hf⟩ : ∃ f, y = .ref f ∧ DoorAt P w K mg base 8 (spRefuse K CN 0) f := by
        have my := List.mem_of_getElem? hy
        simp only [List.mem_cons, List.not_mem_nil, or_false] at my
        rcases my with rfl | rfl | rfl | rfl | rfl | rfl | rfl | rfl | rfl | rfl
        · exact ⟨_, rfl, d_sort_of⟩
        · exact ⟨_, rfl, d_places_of⟩
        · exact ⟨_, rfl, d_inner_of⟩
        · exact ⟨_, rfl, d_without_empty⟩
        · exact ⟨_, rfl, d_turned_net⟩
        · exact ⟨_, rfl, d_as_leads⟩
        · exact ⟨_, rfl, d_as_hubs⟩
        · exact ⟨_, rfl, d_as_pipes⟩
        · exact ⟨_, rfl, d_walls⟩
        · exact ⟨_, rfl, d_net_text⟩
      have x1 := ex0.trans ((LamX.ExtN.of u1).trans ex1)
      refine ⟨TJ1, fun a0J a0e a0T => ?_⟩
      unfold TCaught
      refine ⟨f, rfl, hf, _, rfl, v, [], d, rfl, rfl, dp_ext (x1.trans a0e) hv, fd, nd0, fun a0K a0s => ?_⟩
      refine ⟨true, X0.exN, fun _ a0x a0h => ?_, fun h => by cases h⟩
      have a0w := same_upd (o := ExK (.ref CN) none a0x) a0h
      refine ⟨a0x, CN, none, .ref CN, .ref CN, true, rfl, upd_same, (fun y e => by cases e), X0.ecN, fun u r => r, kit_self, _, rfl, ?_⟩
      exact iteF ⟨_, rfl, (ex1.trans (a0e.trans (.of (a0s.trans a0w)))), (a0T.ext (a0s.trans a0w))⟩
    rintro σ J1 ⟨o, rfl, ex1, TJ1⟩
    exact ⟨_, rfl, ex0.trans ((LamX.ExtN.of u1).trans ex1), TJ1⟩
  clear T ex0
  rintro σ H0 ⟨o, rfl, ex0, T⟩
  refine ⟨fun σ H' => ∃ o : Option V, σ = [some v, some u, o] ∧ LamX.ExtN H H' ∧ LamX.Tabs (T2 P1 P2) H', ?_, ?_⟩
  · refine ⟨by rw [sizeLine_eq]; show 2 ≤ _; decide, fun l hl => ?_⟩
    have u1 := same_upd (o := .lst [.ref f_beside, .ref f_alike_nets]) hl
    have e1 := upd_same (H := H0) (a := l) (o := .lst [.ref f_beside, .ref f_alike_nets])
    generalize upd H0 l (.lst [.ref f_beside, .ref f_alike_nets]) = J0 at u1 e1 ⊢
    refine ⟨l, rfl, ⟨_, SqL.of e1⟩, ?_⟩
    refine for_list (K := K) (fun _ σ H' => ∃ o : Option V, σ = [some v, some u, o] ∧ LamX.ExtN J0 H' ∧ LamX.Tabs (T2 P1 P2) H') ⟨_, rfl, .refl _, T.ext u1⟩ (fun i σ H' _ ⟨_, _, e, _⟩ => SqL.of (e _ _ e1 fun _ z => by cases z)) ?_ ?_
    · rintro k2 y σ J1 hy ⟨o, rfl, ex1, TJ1⟩
      obtain ⟨f, rfl, hf⟩ : ∃ f, y = .ref f ∧ DoorAt P w K mg base 8 (spRefuse2 K CN) f := by
        have my := List.mem_of_getElem? hy
        simp only [List.mem_cons, List.not_mem_nil, or_false] at my
        rcases my with rfl | rfl
        · exact ⟨_, rfl, d_beside⟩
        · exact ⟨_, rfl, d_alike_nets⟩
      have x1 := ex0.trans ((LamX.ExtN.of u1).trans ex1)
      refine ⟨TJ1, fun a0J a0e a0T => ?_⟩
      unfold TCaught
      refine ⟨f, rfl, hf, _, rfl, v, .non, d, rfl, dp_ext (x1.trans a0e) hv, fd, .inl ⟨nd0, fun a0K a0s => ?_⟩⟩
      refine ⟨true, X0.exN, fun _ a0x a0h => ?_, fun h => by cases h⟩
      have a0w := same_upd (o := ExK (.ref CN) none a0x) a0h
      refine ⟨a0x, CN, none, .ref CN, .ref CN, true, rfl, upd_same, (fun y e => by cases e), X0.ecN, fun u r => r, kit_self, _, rfl, ?_⟩
      refine iteF ?_
      have a0z : LamX.ExtN J0 _ := (ex1.trans (a0e.trans (.of (a0s.trans a0w))))
      have a0y : LamX.Tabs (T2 P1 P2) _ := (a0T.ext (a0s.trans a0w))
      refine ⟨a0y, fun a1J a1e a1T => ?_⟩
      refine ⟨f, rfl, hf, _, rfl, _, rfl, u, v, e, rfl, dp_ext ((ex0.trans ((LamX.ExtN.of u1).trans a0z)).trans a1e) hu, fe, .inr ⟨pe0, d, dp_ext ((ex0.trans ((LamX.ExtN.of u1).trans a0z)).trans a1e) hv, fd, nd0, fun a1K a1s => ?_⟩⟩
      refine ⟨true, X0.exN, fun _ a1x a1h => ?_, fun h => by cases h⟩
      have a1w := same_upd (o := ExK (.ref CN) none a1x) a1h
      refine ⟨a1x, CN, none, .ref CN, .ref CN, true, rfl, upd_same, (fun y e => by cases e), X0.ecN, fun u r => r, kit_self, _, rfl, ?_⟩
      exact iteF ⟨_, rfl, (a0z.trans (a1e.trans (.of (a1s.trans a1w)))), (a1T.ext (a1s.trans a1w))⟩
    rintro σ J1 ⟨o, rfl, ex1, TJ1⟩
    exact ⟨_, rfl, ex0.trans ((LamX.ExtN.of u1).trans ex1), TJ1⟩
  clear T ex0
  rintro σ H0 ⟨o, rfl, ex0, T⟩
  refine ⟨fun σ H' => ∃ o : Option V, σ = [some v, some u, o] ∧ LamX.ExtN H H' ∧ LamX.Tabs (T2 P1 P2) H', ?_, ?_⟩
  · refine ⟨by rw [sizeLine_eq]; show 6 ≤ _; decide, fun l hl => ?_⟩
    have u1 := same_upd (o := .lst [.ref f_is_of_sort, .ref f_scaled, .ref f_side_cost, .ref f_renamed_net, .ref f_hidden_net, .ref f_wall]) hl
    have e1 := upd_same (H := H0) (a := l) (o := .lst [.ref f_is_of_sort, .ref f_scaled, .ref f_side_cost, .ref f_renamed_net, .ref f_hidden_net, .ref f_wall])
    generalize upd H0 l (.lst [.ref f_is_of_sort, .ref f_scaled, .ref f_side_cost, .ref f_renamed_net, .ref f_hidden_net, .ref f_wall]) = J0 at u1 e1 ⊢
    refine ⟨l, rfl, ⟨_, SqL.of e1⟩, ?_⟩
    refine for_list (K := K) (fun _ σ H' => ∃ o : Option V, σ = [some v, some u, o] ∧ LamX.ExtN J0 H' ∧ LamX.Tabs (T2 P1 P2) H') ⟨_, rfl, .refl _, T.ext u1⟩ (fun i σ H' _ ⟨_, _, e, _⟩ => SqL.of (e _ _ e1 fun _ z => by cases z)) ?_ ?_
    · rintro k2 y σ J1 hy ⟨o, rfl, ex1, TJ1⟩
      obtain ⟨f, rfl, hf⟩ : ∃ f, y = .ref f ∧ DoorAt P w K mg base 8 (spRefuse K CN 1) f := by
        have my := List.mem_of_getElem? hy
        simp only [List.mem_cons, List.not_mem_nil, or_false] at my
        rcases my with rfl | rfl | rfl | rfl | rfl | rfl
        · exact ⟨_, rfl, d_is_of_sort⟩
        · exact ⟨_, rfl, d_scaled⟩
        · exact ⟨_, rfl, d_side_cost⟩
        · exact ⟨_, rfl, d_renamed_net⟩
        · exact ⟨_, rfl, d_hidden_net⟩
        · exact ⟨_, rfl, d_wall⟩
      have x1 := ex0.trans ((LamX.ExtN.of u1).trans ex1)
      refine ⟨TJ1, fun a0J a0e a0T => ?_⟩
      unfold TCaught
      refine ⟨f, rfl, hf, _, rfl, v, [.non], d, rfl, rfl, dp_ext (x1.trans a0e) hv, fd, nd0, fun a0K a0s => ?_⟩
      refine ⟨true, X0.exN, fun _ a0x a0h => ?_, fun h => by cases h⟩
      have a0w := same_upd (o := ExK (.ref CN) none a0x) a0h
      refine ⟨a0x, CN, none, .ref CN, .ref CN, true, rfl, upd_same, (fun y e => by cases e), X0.ecN, fun u r => r, kit_self, _, rfl, ?_⟩
      exact iteF ⟨_, rfl, (ex1.trans (a0e.trans (.of (a0s.trans a0w)))), (a0T.ext (a0s.trans a0w))⟩
    rintro σ J1 ⟨o, rfl, ex1, TJ1⟩
    exact ⟨_, rfl, ex0.trans ((LamX.ExtN.of u1).trans ex1), TJ1⟩
  clear T ex0
  rintro σ H0 ⟨o, rfl, ex0, T⟩
  refine ⟨fun σ H' => ∃ o : Option V, σ = [some v, some u, o] ∧ LamX.ExtN H H' ∧ LamX.Tabs (T2 P1 P2) H', ?_, ?_⟩
  · refine ⟨by rw [sizeLine_eq]; show 4 ≤ _; decide, fun l hl => ?_⟩
    have u1 := same_upd (o := .lst [.ref f_melted_net, .ref f_least_side, .ref f_greatest_flow, .ref f_flow_between]) hl
    have e1 := upd_same (H := H0) (a := l) (o := .lst [.ref f_melted_net, .ref f_least_side, .ref f_greatest_flow, .ref f_flow_between])
    generalize upd H0 l (.lst [.ref f_melted_net, .ref f_least_side, .ref f_greatest_flow, .ref f_flow_between]) = J0 at u1 e1 ⊢
    refine ⟨l, rfl, ⟨_, SqL.of e1⟩, ?_⟩
    refine for_list (K := K) (fun _ σ H' => ∃ o : Option V, σ = [some v, some u, o] ∧ LamX.ExtN J0 H' ∧ LamX.Tabs (T2 P1 P2) H') ⟨_, rfl, .refl _, T.ext u1⟩ (fun i σ H' _ ⟨_, _, e, _⟩ => SqL.of (e _ _ e1 fun _ z => by cases z)) ?_ ?_
    · rintro k2 y σ J1 hy ⟨o, rfl, ex1, TJ1⟩
      obtain ⟨f, rfl, hf⟩ : ∃ f, y = .ref f ∧ DoorAt P w K mg base 8 (spRefuse K CN 2) f := by
        have my := List.mem_of_getElem? hy
        simp only [List.mem_cons, List.not_mem_nil, or_false] at my
        rcases my with rfl | rfl | rfl | rfl
        · exact ⟨_, rfl, d_melted_net⟩
        · exact ⟨_, rfl, d_least_side⟩
        · exact ⟨_, rfl, d_greatest_flow⟩
        · exact ⟨_, rfl, d_flow_between⟩
      have x1 := ex0.trans ((LamX.ExtN.of u1).trans ex1)
      refine ⟨TJ1, fun a0J a0e a0T => ?_⟩
      unfold TCaught
      refine ⟨f, rfl, hf, _, rfl, v, [.non, .non], d, rfl, rfl, dp_ext (x1.trans a0e) hv, fd, nd0, fun a0K a0s => ?_⟩
      refine ⟨true, X0.exN, fun _ a0x a0h => ?_, fun h => by cases h⟩
      have a0w := same_upd (o := ExK (.ref CN) none a0x) a0h
      refine ⟨a0x, CN, none, .ref CN, .ref CN, true, rfl, upd_same, (fun y e => by cases e), X0.ecN, fun u r => r, kit_self, _, rfl, ?_⟩
      exact iteF ⟨_, rfl, (ex1.trans (a0e.trans (.of (a0s.trans a0w)))), (a0T.ext (a0s.trans a0w))⟩
    rintro σ J1 ⟨o, rfl, ex1, TJ1⟩
    exact ⟨_, rfl, ex0.trans ((LamX.ExtN.of u1).trans ex1), TJ1⟩
  clear T ex0
  rintro σ H0 ⟨o, rfl, ex0, T⟩
  refine ⟨fun σ H' => ∃ o : Option V, σ = [some v, some u, o] ∧ LamX.ExtN H H' ∧ LamX.Tabs (T2 P1 P2) H', ?_, ?_⟩
  · refine ⟨by rw [sizeLine_eq]; show 3 ≤ _; decide, fun l hl => ?_⟩
    have u1 := same_upd (o := .lst [.ref f_is_side, .ref f_is_flow, .ref f_amount_of]) hl
    have e1 := upd_same (H := H0) (a := l) (o := .lst [.ref f_is_side, .ref f_is_flow, .ref f_amount_of])
    generalize upd H0 l (.lst [.ref f_is_side, .ref f_is_flow, .ref f_amount_of]) = J0 at u1 e1 ⊢
    refine ⟨l, rfl, ⟨_, SqL.of e1⟩, ?_⟩
    refine for_list (K := K) (fun _ σ H' => ∃ o : Option V, σ = [some v, some u, o] ∧ LamX.ExtN J0 H' ∧ LamX.Tabs (T2 P1 P2) H') ⟨_, rfl, .refl _, T.ext u1⟩ (fun i σ H' _ ⟨_, _, e, _⟩ => SqL.of (e _ _ e1 fun _ z => by cases z)) ?_ ?_
    · rintro k2 y σ J1 hy ⟨o, rfl, ex1, TJ1⟩
      obtain ⟨f, rfl, hf⟩ : ∃ f, y = .ref f ∧ DoorAt P w K mg base 8 (spRefuse K CN 3) f := by
        have my := List.mem_of_getElem? hy
        simp only [List.mem_cons, List.not_mem_nil, or_false] at my
        rcases my with rfl | rfl | rfl
        · exact ⟨_, rfl, d_is_side⟩
        · exact ⟨_, rfl, d_is_flow⟩
        · exact ⟨_, rfl, d_amount_of⟩
      have x1 := ex0.trans ((LamX.ExtN.of u1).trans ex1)
      refine ⟨TJ1, fun a0J a0e a0T => ?_⟩
      unfold TCaught
      refine ⟨f, rfl, hf, _, rfl, v, [.non, .non, .non], d, rfl, rfl, dp_ext (x1.trans a0e) hv, fd, nd0, fun a0K a0s => ?_⟩
      refine ⟨true, X0.exN, fun _ a0x a0h => ?_, fun h => by cases h⟩
      have a0w := same_upd (o := ExK (.ref CN) none a0x) a0h
      refine ⟨a0x, CN, none, .ref CN, .ref CN, true, rfl, upd_same, (fun y e => by cases e), X0.ecN, fun u r => r, kit_self, _, rfl, ?_⟩
      exact iteF ⟨_, rfl, (ex1.trans (a0e.trans (.of (a0s.trans a0w)))), (a0T.ext (a0s.trans a0w))⟩
    rintro σ J1 ⟨o, rfl, ex1, TJ1⟩
    exact ⟨_, rfl, ex0.trans ((LamX.ExtN.of u1).trans ex1), TJ1⟩
  clear T ex0
  rintro σ H0 ⟨o, rfl, ex0, T⟩
  exact k _ ex0 T
end
end K05
set_option maxHeartbeats 4000000
set_option exponentiation.threshold 10000
namespace K05
open PySem PySem.Spec PyProof.Rows L2 Hx RZ
def fineB : Nat → PyData → Bool
  | _, .none => true
  | _, .bool _ => true
  | _, .int i => decide (i.natAbs < 2 ^ 200)
  | _, .str s => decide (s.length ≤ 100) && (PyData.str s).canLay0
  | n + 1, .list ds => decide (ds.length ≤ 19) && ds.all (fineB n)
  | n + 1, .tuple ds => decide (ds.length ≤ 19) && ds.all (fineB n)
  | _, _ => false
theorem fine_of : ∀ {n : Nat} {d : PyData}, fineB n d = true → Fine n d
  | n, .none, _ => .non n
  | n, .bool b, _ => .bl n b
  | n, .int i, h => by
    unfold fineB at h
    exact .int n i (Nat.lt_of_lt_of_le (of_decide_eq_true h) (Nat.pow_le_pow_right (by decide) (by decide)))
  | n, .str s, h => by
    unfold fineB at h
    rw [Bool.and_eq_true, decide_eq_true_eq] at h
    exact .str n s (by omega) h.2
  | n + 1, .list ds, h => by
    unfold fineB at h
    rw [Bool.and_eq_true, decide_eq_true_eq] at h
    exact .lst n ds (fun d hd => fine_of (List.all_eq_true.mp h.2 d hd)) (Nat.le_trans h.1 (bnd_19 _))
  | n + 1, .tuple ds, h => by
    unfold fineB at h
    rw [Bool.and_eq_true, decide_eq_true_eq] at h
    exact .tup n ds (fun d hd => fine_of (List.all_eq_true.mp h.2 d hd)) (Nat.le_trans h.1 (bnd_19 _))
  | 0, .list ds, h => by unfold fineB at h; cases h
  | 0, .tuple ds, h => by unfold fineB at h; cases h
  | 0, .dict ds, h => by unfold fineB at h; cases h
  | n + 1, .dict ds, h => by unfold fineB at h; cases h
def BadP (d : PyData) : Prop := Fine 8 d ∧ ¬ PartP d
def BadD (d : PyData) : Prop := Fine 12 d ∧ ¬ NetP d
theorem paired_mem {α β : Type} {F : α → β → Prop} : ∀ {l : List α} {m : List β}, Paired F l m → (∀ a ∈ l, ∃ b ∈ m, F a b) ∧ ∀ b ∈ m, ∃ a ∈ l, F a b
  | _, _, .nil => ⟨fun a h => (by cases h), fun b h => (by cases h)⟩
  | _, _, .cons (a := x) (b := y) h t => by
    obtain ⟨i1, i2⟩ := paired_mem t
    refine ⟨fun a ha => ?_, fun b hb => ?_⟩
    · rcases List.mem_cons.mp ha with e | e
      · exact ⟨y, List.mem_cons_self, by rw [e]; exact h⟩
      · obtain ⟨b, hb, q⟩ := i1 a e
        exact ⟨b, List.mem_cons_of_mem _ hb, q⟩
    · rcases List.mem_cons.mp hb with e | e
      · exact ⟨x, List.mem_cons_self, by rw [e]; exact h⟩
      · obtain ⟨a, ha, q⟩ := i2 b e
        exact ⟨a, List.mem_cons_of_mem _ ha, q⟩
/-! ### data that is new -/
mutual
inductive Np (Z : Addr → Prop) (H : Hp) : V → PyData → Prop
  | non : Np Z H .non .none
  | bl (b : Bool) : Np Z H (.bl b) (.bool b)
  | int (i : Int) : Np Z H (.int i) (.int i)
  | str (x : Str) : Np Z H (.str x) (.str x)
  | lst {a : Addr} {xs : List V} {ds : List PyData} : Z a → H a = some (.lst xs) → NpAll Z H xs ds → Np Z H (.ref a) (.list ds)
  | tup {a : Addr} {xs : List V} {ds : List PyData} : Z a → H a = some (.tup xs) → NpAll Z H xs ds → Np Z H (.ref a) (.tuple ds)
inductive NpAll (Z : Addr → Prop) (H : Hp) : List V → List PyData → Prop
  | nil : NpAll Z H [] []
  | cons {v : V} {vs : List V} {d : PyData} {ds : List PyData} : Np Z H v d → NpAll Z H vs ds → NpAll Z H (v :: vs) (d :: ds)
end
mutual
theorem np_keep {Z Z' : Addr → Prop} {H H' : Hp} (e : ∀ b o, Z b → H b = some o → Z' b ∧ H' b = some o) : ∀ {v : V} {d : PyData}, Np Z H v d → Np Z' H' v d
  | _, _, .non => .non
  | _, _, .bl b => .bl b
  | _, _, .int i => .int i
  | _, _, .str x => .str x
  | _, _, .lst z h r => .lst (e _ _ z h).1 (e _ _ z h).2 (npAll_keep e r)
  | _, _, .tup z h r => .tup (e _ _ z h).1 (e _ _ z h).2 (npAll_keep e r)
theorem npAll_keep {Z Z' : Addr → Prop} {H H' : Hp} (e : ∀ b o, Z b → H b = some o → Z' b ∧ H' b = some o) : ∀ {vs : List V} {ds : List PyData}, NpAll Z H vs ds → NpAll Z' H' vs ds
  | _, _, .nil => .nil
  | _, _, .cons h r => .cons (np_keep e h) (npAll_keep e r)
end
mutual
theorem np_dp {K : PySem.W.Frag} {Z : Addr → Prop} {H : Hp} : ∀ {v : V} {d : PyData}, Np Z H v d → Dp K H v d
  | _, _, .non => .non
  | _, _, .bl b => .bl b
  | _, _, .int i => .int i
  | _, _, .str x => .str x
  | _, _, .lst z h r => .lst (SqL.of h) (npAll_dp r)
  | _, _, .tup z h r => .tup (SqT.of h) (npAll_dp r)
theorem npAll_dp {K : PySem.W.Frag} {Z : Addr → Prop} {H : Hp} : ∀ {vs : List V} {ds : List PyData}, NpAll Z H vs ds → DpAll K H vs ds
  | _, _, .nil => .nil
  | _, _, .cons h r => .cons (np_dp h) (npAll_dp r)
end
theorem np_same {Z : Addr → Prop} {H H' : Hp} (s : Same H H') {v : V} {d : PyData} (h : Np Z H v d) : Np Z H' v d := np_keep (fun b o z e => ⟨z, s _ _ e⟩) h
def New (H0 : Hp) (a : Addr) : Prop := H0 a = none
theorem new_of {H0 H : Hp} {a : Addr} (s : Same H0 H) (h : H a = none) : New H0 a := by
  unfold New
  cases e : H0 a with
  | none => rfl
  | some o => rw [s _ _ e] at h; cases h
def AllP (Z : Addr → Prop) (H : Hp) (vs : List V) : Prop := ∀ v ∈ vs, ∃ d, BadP d ∧ Np Z H v d
def AllD (Z : Addr → Prop) (H : Hp) (vs : List V) : Prop := ∀ v ∈ vs, ∃ d, BadD d ∧ Np Z H v d
theorem AllP.nil {Z : Addr → Prop} {H : Hp} : AllP Z H [] := fun v h => by cases h
theorem AllP.cons {Z : Addr → Prop} {H : Hp} {v : V} {vs : List V} {d : PyData} (b : BadP d) (n : Np Z H v d) (h : AllP Z H vs) : AllP Z H (v :: vs) := fun u hu => by
  rcases List.mem_cons.mp hu with e | e
  · rw [e]; exact ⟨d, b, n⟩
  · exact h u e
theorem AllP.app {Z : Addr → Prop} {H : Hp} {vs us : List V} (h : AllP Z H vs) (k : AllP Z H us) : AllP Z H (vs ++ us) := fun u hu => by
  rcases List.mem_append.mp hu with e | e
  · exact h u e
  · exact k u e
theorem AllP.keep {Z Z' : Addr → Prop} {H H' : Hp} {vs : List V} (e : ∀ b o, Z b → H b = some o → Z' b ∧ H' b = some o) (h : AllP Z H vs) : AllP Z' H' vs := fun u hu => by
  obtain ⟨d, b, n⟩ := h u hu
  exact ⟨d, b, np_keep e n⟩
theorem AllP.same {Z : Addr → Prop} {H H' : Hp} {vs : List V} (s : Same H H') (h : AllP Z H vs) : AllP Z H' vs := h.keep fun b o z e => ⟨z, s _ _ e⟩
theorem AllD.nil {Z : Addr → Prop} {H : Hp} : AllD Z H [] := fun v h => by cases h
theorem AllD.cons {Z : Addr → Prop} {H : Hp} {v : V} {vs : List V} {d : PyData} (b : BadD d) (n : Np Z H v d) (h : AllD Z H vs) : AllD Z H (v :: vs) := fun u hu => by
  rcases List.mem_cons.mp hu with e | e
  · rw [e]; exact ⟨d, b, n⟩
  · exact h u e
theorem AllD.app {Z : Addr → Prop} {H : Hp} {vs us : List V} (h : AllD Z H vs) (k : AllD Z H us) : AllD Z H (vs ++ us) := fun u hu => by
  rcases List.mem_append.mp hu with e | e
  · exact h u e
  · exact k u e
theorem AllD.keep {Z Z' : Addr → Prop} {H H' : Hp} {vs : List V} (e : ∀ b o, Z b → H b = some o → Z' b ∧ H' b = some o) (h : AllD Z H vs) : AllD Z' H' vs := fun u hu => by
  obtain ⟨d, b, n⟩ := h u hu
  exact ⟨d, b, np_keep e n⟩
theorem AllD.same {Z : Addr → Prop} {H H' : Hp} {vs : List V} (s : Same H H') (h : AllD Z H vs) : AllD Z H' vs := h.keep fun b o z e => ⟨z, s _ _ e⟩
abbrev abD : PyData := .tuple [.str "a", .str "b"]
theorem not_num {d : PyData} (h : isW d = false) (t : isTy (tagOf d) "tuple" = false) : ¬ NumIs Num.ok0 d := num_flat h t
theorem bad4 {x y : Str} {d0 d3 : PyData} (f : Fine 8 (.tuple [d0, .str x, .str y, d3])) (h : ¬ ((d0 = .str PIPE ∧ x.cps.toList < y.cps.toList) ∨ (d0 = .str LEAD ∧ x ≠ y)) ∨ ¬ NumIs Num.ok0 d3) : BadP (.tuple [d0, .str x, .str y, d3]) := ⟨f, fun z => by
  obtain ⟨x', y', e1, e2, _, _, h1, h2⟩ := part4.mp z
  cases e1
  cases e2
  rcases h with h | h
  · exact h h1
  · exact h h2⟩
theorem bp1 : BadP (.tuple [.str PIPE, .str "b", .str "a", .int 1]) := bad4 (fine_of (by decide +kernel)) (.inl fun z => by
  rcases z with ⟨_, h⟩ | ⟨h, _⟩
  · exact absurd h (by decide +kernel)
  · exact absurd (PyData.str.inj h) (by decide +kernel))
theorem bp2 : BadP (.tuple [.str PIPE, .str "a", .str "a", .int 1]) := bad4 (fine_of (by decide +kernel)) (.inl fun z => by
  rcases z with ⟨_, h⟩ | ⟨h, _⟩
  · exact absurd h (by decide +kernel)
  · exact absurd (PyData.str.inj h) (by decide +kernel))
theorem bp3 : BadP (.tuple [.str PIPE, .str "a", .str "b", .int (-1)]) := bad4 (fine_of (by decide +kernel)) (.inr fun ⟨n, e, h⟩ => by
  obtain rfl : n = .w (-1) := num_inj e.symm
  exact absurd h (by decide +kernel))
theorem bp4 : BadP (.tuple [.str PIPE, .str "a", .str "b", .tuple [.int 2, .int 2]]) := bad4 (fine_of (by decide +kernel)) (.inr fun z => absurd (num_q.mp z) (by decide +kernel))
theorem bp5 : BadP (.tuple [.str HUB, .tuple [.str "a"], .int 1]) := ⟨fine_of (by decide +kernel), fun z => by
  obtain ⟨_, ⟨ns, e, h1, h2⟩, _⟩ := part3.mp z
  have := congrArg List.length (PyData.tuple.inj e)
  rw [List.length_map] at this
  simp at this
  omega⟩
theorem bp6 : BadP (.tuple [.str LEAD, .str "a", .str "a", .int 1]) := bad4 (fine_of (by decide +kernel)) (.inl fun z => by
  rcases z with ⟨h, _⟩ | ⟨_, h⟩
  · exact absurd (PyData.str.inj h) (by decide +kernel)
  · exact h rfl)
theorem bp7 : BadP (.tuple [.str PIPE, .str "a", .str "b", .bool true]) := bad4 (fine_of (by decide +kernel)) (.inr (not_num rfl rfl))
theorem bp8 : BadP (.tuple [.str PIPE, .str "a", .str "b"]) := ⟨fine_of (by decide +kernel), fun z => by
  have h := (part3.mp z).1
  exact absurd (PyData.str.inj h) (by decide +kernel)⟩
theorem bp9 : BadP (.tuple [.str "tube", .str "a", .str "b", .int 1]) := bad4 (fine_of (by decide +kernel)) (.inl fun z => by
  rcases z with ⟨h, _⟩ | ⟨h, _⟩
  · exact absurd (PyData.str.inj h) (by decide +kernel)
  · exact absurd (PyData.str.inj h) (by decide +kernel))
theorem bp10 : BadP (.tuple [.str HUB, .tuple [.str "b", .str "a"], .int 1]) := ⟨fine_of (by decide +kernel), fun z => by
  obtain ⟨_, ⟨ns, e, h1, h2⟩, _⟩ := part3.mp z
  obtain rfl : (["b", "a"] : List Str) = ns := strs_inj (ns := ["b", "a"]) (PyData.tuple.inj e)
  exact absurd h1 (by decide +kernel)⟩
theorem bp11 : BadP (.list [.str PIPE, .str "a", .str "b", .int 1]) := ⟨fine_of (by decide +kernel), notup_part rfl⟩
theorem bp12 : BadP (.tuple [.str HUB, .list [.str "a", .str "b"], .int 1]) := ⟨fine_of (by decide +kernel), fun z => by
  obtain ⟨_, ⟨ns, e, _⟩, _⟩ := part3.mp z
  cases e⟩
theorem bd1 : BadD .none := ⟨fine_of (by decide +kernel), notup_net rfl⟩
theorem bd2 : BadD (.tuple []) := ⟨fine_of (by decide +kernel), net_lenD (by decide)⟩
theorem bd3 : BadD abD := ⟨fine_of (by decide +kernel), net_tapsD fun ⟨ns, e, _⟩ => by cases e⟩
theorem bd4 : BadD (.tuple [abD]) := ⟨fine_of (by decide +kernel), net_lenD (by simp)⟩
theorem bd5 : BadD (.list [abD, .tuple []]) := ⟨fine_of (by decide +kernel), notup_net rfl⟩
theorem bd6 : BadD (.tuple [abD, .list []]) := ⟨fine_of (by decide +kernel), net_partsD rfl⟩
theorem bd7 : BadD (.tuple [.tuple [.str "b", .str "a"], .tuple []]) := ⟨fine_of (by decide +kernel), net_tapsD fun ⟨ns, e, h⟩ => by
  obtain rfl : (["b", "a"] : List Str) = ns := strs_inj (ns := ["b", "a"]) (PyData.tuple.inj e)
  exact absurd h (by decide +kernel)⟩
theorem bd8 : BadD (.int 5) := ⟨fine_of (by decide +kernel), notup_net rfl⟩
theorem bd9 : BadD (.tuple [abD, .tuple [.tuple [.str LEAD, .str "a", .str "b", .int 1], .tuple [.str HUB, abD, .int 1]]]) := ⟨fine_of (by decide +kernel), fun z => by
  have R : ∀ r ∈ [Raw.flat [LEAD, "a", "b"] (.w 1), .hub ["a", "b"] (.w 1)], Right r := fun r hr => by
    simp only [List.mem_cons, List.not_mem_nil, or_false] at hr
    rcases hr with e | e <;> rw [e]
    · exact Raw.right (by decide +kernel)
    · exact Raw.right (by decide +kernel)
  have N : NetR ["a", "b"] [Raw.flat [LEAD, "a", "b"] (.w 1), .hub ["a", "b"] (.w 1)] := (net_iff R).mp z
  exact absurd N.mix (by decide +kernel)⟩
theorem bdp {d : PyData} (h : BadP d) : BadD (.tuple [abD, .tuple [d]]) := by
  refine ⟨.tup 11 _ (fun e he => ?_) (show 2 ≤ bnd 12 by decide), parts_no fun z => h.2 (z d (by simp))⟩
  simp only [List.mem_cons, List.not_mem_nil, or_false] at he
  rcases he with rfl | rfl
  · exact fine_of (by decide +kernel)
  · refine .tup 10 _ (fun e he => ?_) (show 1 ≤ bnd 11 by decide)
    rw [List.mem_singleton.mp he]
    exact h.1.up (by decide)
section
variable {P : Program} {w : World} {K : PySem.W.Frag} {mg : Str → Option Value} {base : Heap}
def spBadNet (K : PySem.W.Frag) : Sp := fun vs H Q _ => ∃ (d g c : Addr) (n : Nat), vs = [.ref d] ∧ St H d g c (n + 1) ∧ ∀ v dd H', Dp K H' v dd → BadD dd → St H' d g c n → Kp d g H H' → Q v H'
theorem sc_ct_bad_net : FnScope ["state", "ab", "parts_here", "some", "part"] ["state"] (defScope sL_ct_bad_net) := ⟨rfl, rfl, rfl, by decide +kernel, rfl, by decide +kernel, by decide +kernel⟩
theorem ok_ct_bad_net (D : Dn K mg "_law_ct_bad_net" sL_ct_bad_net) (B : Ok P w K mg base L2.CX0 3 "_law_pick" ["state", "some"] (spPick K)) : Ok P w K mg base L2.CX0 4 "_law_ct_bad_net" ["state"] (spBadNet K) := by
  obtain ⟨_, _, g_pick, k_pick, b_pick, F_pick⟩ := B.ex
  refine Ok.mk0 D sc_ct_bad_net (fun vs H Q E h => ?_) (fun _ _ _ _ _ _ us hl => match us, hl with | [_], _ => rfl) (fun f cdv A outer s H vs Q E hr h => ?_)
  · obtain ⟨_, _, _, _, rfl, _⟩ := h
    rfl
  obtain ⟨d, g, c, n, rfl, hS, k⟩ := h
  have nd := sc_ct_bad_net.nd
  refine ⟨_, (pss_cons (ps_set (i := 1) nd rfl (Or.inr rfl) (pe_tup (pa_cons pe_str (pa_cons pe_str pa_nil))))
  (pss_cons (ps_set (i := 2) nd rfl (Or.inl rfl) (pe_lst (pa_cons (pe_tup (pa_cons pe_str (pa_cons pe_str (pa_cons pe_str (pa_cons pe_int pa_nil))))) (pa_cons (pe_tup (pa_cons pe_str (pa_cons pe_str (pa_cons pe_str (pa_cons pe_int pa_nil))))) (pa_cons (pe_tup (pa_cons pe_str (pa_cons pe_str (pa_cons pe_str (pa_cons (pe_un un_neg pe_int) pa_nil))))) (pa_cons (pe_tup (pa_cons pe_str (pa_cons pe_str (pa_cons pe_str (pa_cons (pe_tup (pa_cons pe_int (pa_cons pe_int pa_nil))) pa_nil))))) pa_nil))))))
  (pss_cons (ps_set (i := 2) nd rfl (Or.inl rfl) (pe_op op_cat (pv 2) (pe_lst (pa_cons (pe_tup (pa_cons pe_str (pa_cons (pe_tup (pa_cons pe_str pa_nil)) (pa_cons pe_int pa_nil)))) (pa_cons (pe_tup (pa_cons pe_str (pa_cons pe_str (pa_cons pe_str (pa_cons pe_int pa_nil))))) (pa_cons (pe_tup (pa_cons pe_str (pa_cons pe_str (pa_cons pe_str (pa_cons pe_bl pa_nil))))) pa_nil))))))
  (pss_cons (ps_set (i := 2) nd rfl (Or.inl rfl) (pe_op op_cat (pv 2) (pe_lst (pa_cons (pe_tup (pa_cons pe_str (pa_cons pe_str (pa_cons pe_str pa_nil)))) (pa_cons (pe_tup (pa_cons pe_str (pa_cons pe_str (pa_cons pe_str (pa_cons pe_int pa_nil))))) (pa_cons (pe_tup (pa_cons pe_str (pa_cons (pe_tup (pa_cons pe_str (pa_cons pe_str pa_nil))) (pa_cons pe_int pa_nil)))) pa_nil))))))
  (pss_cons (ps_set (i := 2) nd rfl (Or.inl rfl) (pe_op op_cat (pv 2) (pe_lst (pa_cons (pe_lst (pa_cons pe_str (pa_cons pe_str (pa_cons pe_str (pa_cons pe_int pa_nil))))) (pa_cons (pe_tup (pa_cons pe_str (pa_cons (pe_lst (pa_cons pe_str (pa_cons pe_str pa_nil))) (pa_cons pe_int pa_nil)))) pa_nil)))))
  (pss_cons (ps_set (i := 3) nd rfl (Or.inl rfl) (pe_lst (pa_cons pe_non (pa_cons (pe_tup pa_nil) (pa_cons (pv 1) (pa_cons (pe_tup (pa_cons (pv 1) pa_nil)) (pa_cons (pe_lst (pa_cons (pv 1) (pa_cons (pe_tup pa_nil) pa_nil))) (pa_cons (pe_tup (pa_cons (pv 1) (pa_cons (pe_lst pa_nil) pa_nil))) (pa_cons (pe_tup (pa_cons (pe_tup (pa_cons pe_str (pa_cons pe_str pa_nil))) (pa_cons (pe_tup pa_nil) pa_nil))) (pa_cons pe_int pa_nil))))))))))
  (pss_cons (ps_expr (pe_bm PySem.F.plainAttrs_list PySem.F.slot_list_append PySem.F.type_list_append mt_append (pv 3) (pa_cons (pe_tup (pa_cons (pv 1) (pa_cons (pe_tup (pa_cons (pe_tup (pa_cons pe_str (pa_cons pe_str (pa_cons pe_str (pa_cons pe_int pa_nil))))) (pa_cons (pe_tup (pa_cons pe_str (pa_cons (pe_tup (pa_cons pe_str (pa_cons pe_str pa_nil))) (pa_cons pe_int pa_nil)))) pa_nil))) pa_nil))) pa_nil)))
  (pss_one (ps_ret (pe_call F_pick hr rfl g_pick k_pick b_pick .nil pass0 (pa_cons (pv 0) (pa_cons (pe_op op_cat (pv 3) (pe_lc (own := [("part", 4)]) (g := gName 4) (tt := tYes) rfl nd (pi_list (pv 2)) (blkOk_by (own := [("part", 4)]) (N := ["state", "ab", "parts_here", "some", "part"]) (sc := defScope sL_ct_bad_net) (by decide +kernel)) (fun _ _ _ _ _ => pg_name (i := 4) nd rfl (Or.inl rfl)) (fun _ _ _ _ _ => pts_nil) (fun _ _ _ _ _ => (pe_tup (pa_cons (pv 1) (pa_cons (pe_tup (pa_cons (pv 4) pa_nil)) pa_nil)))))) pa_nil)))))))))))), ?_⟩
  have big := big_size
  have s0 := Same.refl H
  refine ⟨Nat.le_of_lt (lines (by simp)), fun p1 h1 => ?_⟩
  generalize hg1 : upd H p1 _ = H1
  have u1 : Same H H1 := by rw [← hg1]; exact same_upd h1
  have e1 : H1 p1 = some (.tup [.str "a", .str "b"]) := by rw [← hg1]; exact upd_same
  have z1 : New H p1 := new_of s0 h1
  have s1 := s0.trans u1
  have n1 : Np (New H) H1 (.ref p1) (.tuple [.str "a", .str "b"]) := .tup z1 e1 (.cons (.str _) (.cons (.str _) .nil))
  clear hg1
  refine ⟨Nat.le_of_lt (lines (by simp)), fun p2 h2 => ?_⟩
  generalize hg2 : upd H1 p2 _ = H2
  have u2 : Same H1 H2 := by rw [← hg2]; exact same_upd h2
  have e2 : H2 p2 = some (.tup [.str PIPE, .str "b", .str "a", .int (1)]) := by rw [← hg2]; exact upd_same
  have z2 : New H p2 := new_of s1 h2
  replace n1 := np_same u2 n1
  have s2 := s1.trans u2
  have n2 : Np (New H) H2 (.ref p2) (.tuple [.str PIPE, .str "b", .str "a", .int (1)]) := .tup z2 e2 (.cons (.str _) (.cons (.str _) (.cons (.str _) (.cons (.int _) .nil))))
  clear hg2
  refine ⟨Nat.le_of_lt (lines (by simp)), fun p3 h3 => ?_⟩
  generalize hg3 : upd H2 p3 _ = H3
  have u3 : Same H2 H3 := by rw [← hg3]; exact same_upd h3
  have e3 : H3 p3 = some (.tup [.str PIPE, .str "a", .str "a", .int (1)]) := by rw [← hg3]; exact upd_same
  have z3 : New H p3 := new_of s2 h3
  replace n1 := np_same u3 n1
  replace n2 := np_same u3 n2
  have s3 := s2.trans u3
  have n3 : Np (New H) H3 (.ref p3) (.tuple [.str PIPE, .str "a", .str "a", .int (1)]) := .tup z3 e3 (.cons (.str _) (.cons (.str _) (.cons (.str _) (.cons (.int _) .nil))))
  clear hg3
  refine ⟨_, rfl, ?_⟩
  refine ⟨Nat.le_of_lt (lines (by simp)), fun p4 h4 => ?_⟩
  generalize hg4 : upd H3 p4 _ = H4
  have u4 : Same H3 H4 := by rw [← hg4]; exact same_upd h4
  have e4 : H4 p4 = some (.tup [.str PIPE, .str "a", .str "b", .int (-1)]) := by rw [← hg4]; exact upd_same
  have z4 : New H p4 := new_of s3 h4
  replace n1 := np_same u4 n1
  replace n2 := np_same u4 n2
  replace n3 := np_same u4 n3
  have s4 := s3.trans u4
  have n4 : Np (New H) H4 (.ref p4) (.tuple [.str PIPE, .str "a", .str "b", .int (-1)]) := .tup z4 e4 (.cons (.str _) (.cons (.str _) (.cons (.str _) (.cons (.int _) .nil))))
  clear hg4
  refine ⟨Nat.le_of_lt (lines (by simp)), fun p5 h5 => ?_⟩
  generalize hg5 : upd H4 p5 _ = H5
  have u5 : Same H4 H5 := by rw [← hg5]; exact same_upd h5
  have e5 : H5 p5 = some (.tup [.int (2), .int (2)]) := by rw [← hg5]; exact upd_same
  have z5 : New H p5 := new_of s4 h5
  replace n1 := np_same u5 n1
  replace n2 := np_same u5 n2
  replace n3 := np_same u5 n3
  replace n4 := np_same u5 n4
  have s5 := s4.trans u5
  have n5 : Np (New H) H5 (.ref p5) (.tuple [.int (2), .int (2)]) := .tup z5 e5 (.cons (.int _) (.cons (.int _) .nil))
  clear hg5
  refine ⟨Nat.le_of_lt (lines (by simp)), fun p6 h6 => ?_⟩
  generalize hg6 : upd H5 p6 _ = H6
  have u6 : Same H5 H6 := by rw [← hg6]; exact same_upd h6
  have e6 : H6 p6 = some (.tup [.str PIPE, .str "a", .str "b", .ref p5]) := by rw [← hg6]; exact upd_same
  have z6 : New H p6 := new_of s5 h6
  replace n1 := np_same u6 n1
  replace n2 := np_same u6 n2
  replace n3 := np_same u6 n3
  replace n4 := np_same u6 n4
  replace n5 := np_same u6 n5
  have s6 := s5.trans u6
  have n6 : Np (New H) H6 (.ref p6) (.tuple [.str PIPE, .str "a", .str "b", .tuple [.int (2), .int (2)]]) := .tup z6 e6 (.cons (.str _) (.cons (.str _) (.cons (.str _) (.cons n5 .nil))))
  clear hg6
  refine ⟨Nat.le_of_lt (lines (by simp)), fun p7 h7 => ?_⟩
  generalize hg7 : upd H6 p7 _ = H7
  have u7 : Same H6 H7 := by rw [← hg7]; exact same_upd h7
  have e7 : H7 p7 = some (.lst [.ref p2, .ref p3, .ref p4, .ref p6]) := by rw [← hg7]; exact upd_same
  have z7 : New H p7 := new_of s6 h7
  replace n1 := np_same u7 n1
  replace n2 := np_same u7 n2
  replace n3 := np_same u7 n3
  replace n4 := np_same u7 n4
  replace n6 := np_same u7 n6
  have s7 := s6.trans u7
  clear hg7
  have a1 : AllP (New H) H7 [.ref p2, .ref p3, .ref p4, .ref p6] := (AllP.cons bp1 n2 (AllP.cons bp2 n3 (AllP.cons bp3 n4 (AllP.cons bp4 n6 AllP.nil))))
  refine ⟨_, rfl, ?_⟩
  refine ⟨Nat.le_of_lt (lines (by simp)), fun p8 h8 => ?_⟩
  generalize hg8 : upd H7 p8 _ = H8
  have u8 : Same H7 H8 := by rw [← hg8]; exact same_upd h8
  have e8 : H8 p8 = some (.tup [.str "a"]) := by rw [← hg8]; exact upd_same
  have z8 : New H p8 := new_of s7 h8
  replace n1 := np_same u8 n1
  replace a1 := AllP.same u8 a1
  replace e7 := u8 _ _ e7
  have s8 := s7.trans u8
  have n8 : Np (New H) H8 (.ref p8) (.tuple [.str "a"]) := .tup z8 e8 (.cons (.str _) .nil)
  clear hg8
  refine ⟨Nat.le_of_lt (lines (by simp)), fun p9 h9 => ?_⟩
  generalize hg9 : upd H8 p9 _ = H9
  have u9 : Same H8 H9 := by rw [← hg9]; exact same_upd h9
  have e9 : H9 p9 = some (.tup [.str HUB, .ref p8, .int (1)]) := by rw [← hg9]; exact upd_same
  have z9 : New H p9 := new_of s8 h9
  replace n1 := np_same u9 n1
  replace a1 := AllP.same u9 a1
  replace e7 := u9 _ _ e7
  replace n8 := np_same u9 n8
  have s9 := s8.trans u9
  have n9 : Np (New H) H9 (.ref p9) (.tuple [.str HUB, .tuple [.str "a"], .int (1)]) := .tup z9 e9 (.cons (.str _) (.cons n8 (.cons (.int _) .nil)))
  clear hg9
  refine ⟨Nat.le_of_lt (lines (by simp)), fun p10 h10 => ?_⟩
  generalize hg10 : upd H9 p10 _ = H10
  have u10 : Same H9 H10 := by rw [← hg10]; exact same_upd h10
  have e10 : H10 p10 = some (.tup [.str LEAD, .str "a", .str "a", .int (1)]) := by rw [← hg10]; exact upd_same
  have z10 : New H p10 := new_of s9 h10
  replace n1 := np_same u10 n1
  replace a1 := AllP.same u10 a1
  replace e7 := u10 _ _ e7
  replace n9 := np_same u10 n9
  have s10 := s9.trans u10
  have n10 : Np (New H) H10 (.ref p10) (.tuple [.str LEAD, .str "a", .str "a", .int (1)]) := .tup z10 e10 (.cons (.str _) (.cons (.str _) (.cons (.str _) (.cons (.int _) .nil))))
  clear hg10
  refine ⟨Nat.le_of_lt (lines (by simp)), fun p11 h11 => ?_⟩
  generalize hg11 : upd H10 p11 _ = H11
  have u11 : Same H10 H11 := by rw [← hg11]; exact same_upd h11
  have e11 : H11 p11 = some (.tup [.str PIPE, .str "a", .str "b", .bl true]) := by rw [← hg11]; exact upd_same
  have z11 : New H p11 := new_of s10 h11
  replace n1 := np_same u11 n1
  replace a1 := AllP.same u11 a1
  replace e7 := u11 _ _ e7
  replace n9 := np_same u11 n9
  replace n10 := np_same u11 n10
  have s11 := s10.trans u11
  have n11 : Np (New H) H11 (.ref p11) (.tuple [.str PIPE, .str "a", .str "b", .bool true]) := .tup z11 e11 (.cons (.str _) (.cons (.str _) (.cons (.str _) (.cons (.bl _) .nil))))
  clear hg11
  refine ⟨Nat.le_of_lt (lines (by simp)), fun p12 h12 => ?_⟩
  generalize hg12 : upd H11 p12 _ = H12
  have u12 : Same H11 H12 := by rw [← hg12]; exact same_upd h12
  have e12 : H12 p12 = some (.lst [.ref p9, .ref p10, .ref p11]) := by rw [← hg12]; exact upd_same
  have z12 : New H p12 := new_of s11 h12
  replace n1 := np_same u12 n1
  replace a1 := AllP.same u12 a1
  replace e7 := u12 _ _ e7
  replace n9 := np_same u12 n9
  replace n10 := np_same u12 n10
  replace n11 := np_same u12 n11
  have s12 := s11.trans u12
  clear hg12
  have a2 : AllP (New H) H12 [.ref p9, .ref p10, .ref p11] := (AllP.cons bp5 n9 (AllP.cons bp6 n10 (AllP.cons bp7 n11 AllP.nil)))
  refine ⟨p7, p12, _, _, rfl, rfl, e7, e12, (by simp; omega), fun p13 h13 => ?_⟩
  generalize hg13 : upd H12 p13 _ = H13
  have u13 : Same H12 H13 := by rw [← hg13]; exact same_upd h13
  have e13 : H13 p13 = some (.lst [.ref p2, .ref p3, .ref p4, .ref p6, .ref p9, .ref p10, .ref p11]) := by rw [← hg13]; exact upd_same
  have z13 : New H p13 := new_of s12 h13
  replace n1 := np_same u13 n1
  replace a1 := AllP.same u13 a1
  replace e7 := u13 _ _ e7
  replace a2 := AllP.same u13 a2
  replace e12 := u13 _ _ e12
  have s13 := s12.trans u13
  clear hg13
  have c1 : AllP (New H) H13 [.ref p2, .ref p3, .ref p4, .ref p6, .ref p9, .ref p10, .ref p11] := AllP.app a1 a2
  refine ⟨_, rfl, ?_⟩
  refine ⟨Nat.le_of_lt (lines (by simp)), fun p14 h14 => ?_⟩
  generalize hg14 : upd H13 p14 _ = H14
  have u14 : Same H13 H14 := by rw [← hg14]; exact same_upd h14
  have e14 : H14 p14 = some (.tup [.str PIPE, .str "a", .str "b"]) := by rw [← hg14]; exact upd_same
  have z14 : New H p14 := new_of s13 h14
  replace n1 := np_same u14 n1
  replace c1 := AllP.same u14 c1
  replace e13 := u14 _ _ e13
  have s14 := s13.trans u14
  have n14 : Np (New H) H14 (.ref p14) (.tuple [.str PIPE, .str "a", .str "b"]) := .tup z14 e14 (.cons (.str _) (.cons (.str _) (.cons (.str _) .nil)))
  clear hg14
  refine ⟨Nat.le_of_lt (lines (by simp)), fun p15 h15 => ?_⟩
  generalize hg15 : upd H14 p15 _ = H15
  have u15 : Same H14 H15 := by rw [← hg15]; exact same_upd h15
  have e15 : H15 p15 = some (.tup [.str "tube", .str "a", .str "b", .int (1)]) := by rw [← hg15]; exact upd_same
  have z15 : New H p15 := new_of s14 h15
  replace n1 := np_same u15 n1
  replace c1 := AllP.same u15 c1
  replace e13 := u15 _ _ e13
  replace n14 := np_same u15 n14
  have s15 := s14.trans u15
  have n15 : Np (New H) H15 (.ref p15) (.tuple [.str "tube", .str "a", .str "b", .int (1)]) := .tup z15 e15 (.cons (.str _) (.cons (.str _) (.cons (.str _) (.cons (.int _) .nil))))
  clear hg15
  refine ⟨Nat.le_of_lt (lines (by simp)), fun p16 h16 => ?_⟩
  generalize hg16 : upd H15 p16 _ = H16
  have u16 : Same H15 H16 := by rw [← hg16]; exact same_upd h16
  have e16 : H16 p16 = some (.tup [.str "b", .str "a"]) := by rw [← hg16]; exact upd_same
  have z16 : New H p16 := new_of s15 h16
  replace n1 := np_same u16 n1
  replace c1 := AllP.same u16 c1
  replace e13 := u16 _ _ e13
  replace n14 := np_same u16 n14
  replace n15 := np_same u16 n15
  have s16 := s15.trans u16
  have n16 : Np (New H) H16 (.ref p16) (.tuple [.str "b", .str "a"]) := .tup z16 e16 (.cons (.str _) (.cons (.str _) .nil))
  clear hg16
  refine ⟨Nat.le_of_lt (lines (by simp)), fun p17 h17 => ?_⟩
  generalize hg17 : upd H16 p17 _ = H17
  have u17 : Same H16 H17 := by rw [← hg17]; exact same_upd h17
  have e17 : H17 p17 = some (.tup [.str HUB, .ref p16, .int (1)]) := by rw [← hg17]; exact upd_same
  have z17 : New H p17 := new_of s16 h17
  replace n1 := np_same u17 n1
  replace c1 := AllP.same u17 c1
  replace e13 := u17 _ _ e13
  replace n14 := np_same u17 n14
  replace n15 := np_same u17 n15
  replace n16 := np_same u17 n16
  have s17 := s16.trans u17
  have n17 : Np (New H) H17 (.ref p17) (.tuple [.str HUB, .tuple [.str "b", .str "a"], .int (1)]) := .tup z17 e17 (.cons (.str _) (.cons n16 (.cons (.int _) .nil)))
  clear hg17
  refine ⟨Nat.le_of_lt (lines (by simp)), fun p18 h18 => ?_⟩
  generalize hg18 : upd H17 p18 _ = H18
  have u18 : Same H17 H18 := by rw [← hg18]; exact same_upd h18
  have e18 : H18 p18 = some (.lst [.ref p14, .ref p15, .ref p17]) := by rw [← hg18]; exact upd_same
  have z18 : New H p18 := new_of s17 h18
  replace n1 := np_same u18 n1
  replace c1 := AllP.same u18 c1
  replace e13 := u18 _ _ e13
  replace n14 := np_same u18 n14
  replace n15 := np_same u18 n15
  replace n17 := np_same u18 n17
  have s18 := s17.trans u18
  clear hg18
  have a3 : AllP (New H) H18 [.ref p14, .ref p15, .ref p17] := (AllP.cons bp8 n14 (AllP.cons bp9 n15 (AllP.cons bp10 n17 AllP.nil)))
  refine ⟨p13, p18, _, _, rfl, rfl, e13, e18, (by simp; omega), fun p19 h19 => ?_⟩
  generalize hg19 : upd H18 p19 _ = H19
  have u19 : Same H18 H19 := by rw [← hg19]; exact same_upd h19
  have e19 : H19 p19 = some (.lst [.ref p2, .ref p3, .ref p4, .ref p6, .ref p9, .ref p10, .ref p11, .ref p14, .ref p15, .ref p17]) := by rw [← hg19]; exact upd_same
  have z19 : New H p19 := new_of s18 h19
  replace n1 := np_same u19 n1
  replace c1 := AllP.same u19 c1
  replace e13 := u19 _ _ e13
  replace a3 := AllP.same u19 a3
  replace e18 := u19 _ _ e18
  have s19 := s18.trans u19
  clear hg19
  have c2 : AllP (New H) H19 [.ref p2, .ref p3, .ref p4, .ref p6, .ref p9, .ref p10, .ref p11, .ref p14, .ref p15, .ref p17] := AllP.app c1 a3
  refine ⟨_, rfl, ?_⟩
  refine ⟨Nat.le_of_lt (lines (by simp)), fun p20 h20 => ?_⟩
  generalize hg20 : upd H19 p20 _ = H20
  have u20 : Same H19 H20 := by rw [← hg20]; exact same_upd h20
  have e20 : H20 p20 = some (.lst [.str PIPE, .str "a", .str "b", .int (1)]) := by rw [← hg20]; exact upd_same
  have z20 : New H p20 := new_of s19 h20
  replace n1 := np_same u20 n1
  replace c2 := AllP.same u20 c2
  replace e19 := u20 _ _ e19
  have s20 := s19.trans u20
  have n20 : Np (New H) H20 (.ref p20) (.list [.str PIPE, .str "a", .str "b", .int (1)]) := .lst z20 e20 (.cons (.str _) (.cons (.str _) (.cons (.str _) (.cons (.int _) .nil))))
  clear hg20
  refine ⟨Nat.le_of_lt (lines (by simp)), fun p21 h21 => ?_⟩
  generalize hg21 : upd H20 p21 _ = H21
  have u21 : Same H20 H21 := by rw [← hg21]; exact same_upd h21
  have e21 : H21 p21 = some (.lst [.str "a", .str "b"]) := by rw [← hg21]; exact upd_same
  have z21 : New H p21 := new_of s20 h21
  replace n1 := np_same u21 n1
  replace c2 := AllP.same u21 c2
  replace e19 := u21 _ _ e19
  replace n20 := np_same u21 n20
  have s21 := s20.trans u21
  have n21 : Np (New H) H21 (.ref p21) (.list [.str "a", .str "b"]) := .lst z21 e21 (.cons (.str _) (.cons (.str _) .nil))
  clear hg21
  refine ⟨Nat.le_of_lt (lines (by simp)), fun p22 h22 => ?_⟩
  generalize hg22 : upd H21 p22 _ = H22
  have u22 : Same H21 H22 := by rw [← hg22]; exact same_upd h22
  have e22 : H22 p22 = some (.tup [.str HUB, .ref p21, .int (1)]) := by rw [← hg22]; exact upd_same
  have z22 : New H p22 := new_of s21 h22
  replace n1 := np_same u22 n1
  replace c2 := AllP.same u22 c2
  replace e19 := u22 _ _ e19
  replace n20 := np_same u22 n20
  replace n21 := np_same u22 n21
  have s22 := s21.trans u22
  have n22 : Np (New H) H22 (.ref p22) (.tuple [.str HUB, .list [.str "a", .str "b"], .int (1)]) := .tup z22 e22 (.cons (.str _) (.cons n21 (.cons (.int _) .nil)))
  clear hg22
  refine ⟨Nat.le_of_lt (lines (by simp)), fun p23 h23 => ?_⟩
  generalize hg23 : upd H22 p23 _ = H23
  have u23 : Same H22 H23 := by rw [← hg23]; exact same_upd h23
  have e23 : H23 p23 = some (.lst [.ref p20, .ref p22]) := by rw [← hg23]; exact upd_same
  have z23 : New H p23 := new_of s22 h23
  replace n1 := np_same u23 n1
  replace c2 := AllP.same u23 c2
  replace e19 := u23 _ _ e19
  replace n20 := np_same u23 n20
  replace n22 := np_same u23 n22
  have s23 := s22.trans u23
  clear hg23
  have a4 : AllP (New H) H23 [.ref p20, .ref p22] := (AllP.cons bp11 n20 (AllP.cons bp12 n22 AllP.nil))
  refine ⟨p19, p23, _, _, rfl, rfl, e19, e23, (by simp; omega), fun p24 h24 => ?_⟩
  generalize hg24 : upd H23 p24 _ = H24
  have u24 : Same H23 H24 := by rw [← hg24]; exact same_upd h24
  have e24 : H24 p24 = some (.lst [.ref p2, .ref p3, .ref p4, .ref p6, .ref p9, .ref p10, .ref p11, .ref p14, .ref p15, .ref p17, .ref p20, .ref p22]) := by rw [← hg24]; exact upd_same
  have z24 : New H p24 := new_of s23 h24
  replace n1 := np_same u24 n1
  replace c2 := AllP.same u24 c2
  replace e19 := u24 _ _ e19
  replace a4 := AllP.same u24 a4
  replace e23 := u24 _ _ e23
  have s24 := s23.trans u24
  clear hg24
  have c3 : AllP (New H) H24 [.ref p2, .ref p3, .ref p4, .ref p6, .ref p9, .ref p10, .ref p11, .ref p14, .ref p15, .ref p17, .ref p20, .ref p22] := AllP.app c2 a4
  refine ⟨Nat.le_of_lt (lines (by simp)), fun p25 h25 => ?_⟩
  generalize hg25 : upd H24 p25 _ = H25
  have u25 : Same H24 H25 := by rw [← hg25]; exact same_upd h25
  have e25 : H25 p25 = some (.tup []) := by rw [← hg25]; exact upd_same
  have z25 : New H p25 := new_of s24 h25
  replace n1 := np_same u25 n1
  replace c3 := AllP.same u25 c3
  replace e24 := u25 _ _ e24
  have s25 := s24.trans u25
  have n25 : Np (New H) H25 (.ref p25) (.tuple []) := .tup z25 e25 .nil
  clear hg25
  refine ⟨_, rfl, _, rfl, ?_⟩
  refine ⟨Nat.le_of_lt (lines (by simp)), fun p26 h26 => ?_⟩
  generalize hg26 : upd H25 p26 _ = H26
  have u26 : Same H25 H26 := by rw [← hg26]; exact same_upd h26
  have e26 : H26 p26 = some (.tup [.ref p1]) := by rw [← hg26]; exact upd_same
  have z26 : New H p26 := new_of s25 h26
  replace n1 := np_same u26 n1
  replace c3 := AllP.same u26 c3
  replace e24 := u26 _ _ e24
  replace n25 := np_same u26 n25
  have s26 := s25.trans u26
  have n26 : Np (New H) H26 (.ref p26) (.tuple [.tuple [.str "a", .str "b"]]) := .tup z26 e26 (.cons n1 .nil)
  clear hg26
  refine ⟨_, rfl, ?_⟩
  refine ⟨Nat.le_of_lt (lines (by simp)), fun p27 h27 => ?_⟩
  generalize hg27 : upd H26 p27 _ = H27
  have u27 : Same H26 H27 := by rw [← hg27]; exact same_upd h27
  have e27 : H27 p27 = some (.tup []) := by rw [← hg27]; exact upd_same
  have z27 : New H p27 := new_of s26 h27
  replace n1 := np_same u27 n1
  replace c3 := AllP.same u27 c3
  replace e24 := u27 _ _ e24
  replace n25 := np_same u27 n25
  replace n26 := np_same u27 n26
  have s27 := s26.trans u27
  have n27 : Np (New H) H27 (.ref p27) (.tuple []) := .tup z27 e27 .nil
  clear hg27
  refine ⟨Nat.le_of_lt (lines (by simp)), fun p28 h28 => ?_⟩
  generalize hg28 : upd H27 p28 _ = H28
  have u28 : Same H27 H28 := by rw [← hg28]; exact same_upd h28
  have e28 : H28 p28 = some (.lst [.ref p1, .ref p27]) := by rw [← hg28]; exact upd_same
  have z28 : New H p28 := new_of s27 h28
  replace n1 := np_same u28 n1
  replace c3 := AllP.same u28 c3
  replace e24 := u28 _ _ e24
  replace n25 := np_same u28 n25
  replace n26 := np_same u28 n26
  replace n27 := np_same u28 n27
  have s28 := s27.trans u28
  have n28 : Np (New H) H28 (.ref p28) (.list [.tuple [.str "a", .str "b"], .tuple []]) := .lst z28 e28 (.cons n1 (.cons n27 .nil))
  clear hg28
  refine ⟨_, rfl, ?_⟩
  refine ⟨Nat.le_of_lt (lines (by simp)), fun p29 h29 => ?_⟩
  generalize hg29 : upd H28 p29 _ = H29
  have u29 : Same H28 H29 := by rw [← hg29]; exact same_upd h29
  have e29 : H29 p29 = some (.lst []) := by rw [← hg29]; exact upd_same
  have z29 : New H p29 := new_of s28 h29
  replace n1 := np_same u29 n1
  replace c3 := AllP.same u29 c3
  replace e24 := u29 _ _ e24
  replace n25 := np_same u29 n25
  replace n26 := np_same u29 n26
  replace n28 := np_same u29 n28
  have s29 := s28.trans u29
  have n29 : Np (New H) H29 (.ref p29) (.list []) := .lst z29 e29 .nil
  clear hg29
  refine ⟨Nat.le_of_lt (lines (by simp)), fun p30 h30 => ?_⟩
  generalize hg30 : upd H29 p30 _ = H30
  have u30 : Same H29 H30 := by rw [← hg30]; exact same_upd h30
  have e30 : H30 p30 = some (.tup [.ref p1, .ref p29]) := by rw [← hg30]; exact upd_same
  have z30 : New H p30 := new_of s29 h30
  replace n1 := np_same u30 n1
  replace c3 := AllP.same u30 c3
  replace e24 := u30 _ _ e24
  replace n25 := np_same u30 n25
  replace n26 := np_same u30 n26
  replace n28 := np_same u30 n28
  replace n29 := np_same u30 n29
  have s30 := s29.trans u30
  have n30 : Np (New H) H30 (.ref p30) (.tuple [.tuple [.str "a", .str "b"], .list []]) := .tup z30 e30 (.cons n1 (.cons n29 .nil))
  clear hg30
  refine ⟨Nat.le_of_lt (lines (by simp)), fun p31 h31 => ?_⟩
  generalize hg31 : upd H30 p31 _ = H31
  have u31 : Same H30 H31 := by rw [← hg31]; exact same_upd h31
  have e31 : H31 p31 = some (.tup [.str "b", .str "a"]) := by rw [← hg31]; exact upd_same
  have z31 : New H p31 := new_of s30 h31
  replace n1 := np_same u31 n1
  replace c3 := AllP.same u31 c3
  replace e24 := u31 _ _ e24
  replace n25 := np_same u31 n25
  replace n26 := np_same u31 n26
  replace n28 := np_same u31 n28
  replace n30 := np_same u31 n30
  have s31 := s30.trans u31
  have n31 : Np (New H) H31 (.ref p31) (.tuple [.str "b", .str "a"]) := .tup z31 e31 (.cons (.str _) (.cons (.str _) .nil))
  clear hg31
  refine ⟨Nat.le_of_lt (lines (by simp)), fun p32 h32 => ?_⟩
  generalize hg32 : upd H31 p32 _ = H32
  have u32 : Same H31 H32 := by rw [← hg32]; exact same_upd h32
  have e32 : H32 p32 = some (.tup []) := by rw [← hg32]; exact upd_same
  have z32 : New H p32 := new_of s31 h32
  replace n1 := np_same u32 n1
  replace c3 := AllP.same u32 c3
  replace e24 := u32 _ _ e24
  replace n25 := np_same u32 n25
  replace n26 := np_same u32 n26
  replace n28 := np_same u32 n28
  replace n30 := np_same u32 n30
  replace n31 := np_same u32 n31
  have s32 := s31.trans u32
  have n32 : Np (New H) H32 (.ref p32) (.tuple []) := .tup z32 e32 .nil
  clear hg32
  refine ⟨Nat.le_of_lt (lines (by simp)), fun p33 h33 => ?_⟩
  generalize hg33 : upd H32 p33 _ = H33
  have u33 : Same H32 H33 := by rw [← hg33]; exact same_upd h33
  have e33 : H33 p33 = some (.tup [.ref p31, .ref p32]) := by rw [← hg33]; exact upd_same
  have z33 : New H p33 := new_of s32 h33
  replace n1 := np_same u33 n1
  replace c3 := AllP.same u33 c3
  replace e24 := u33 _ _ e24
  replace n25 := np_same u33 n25
  replace n26 := np_same u33 n26
  replace n28 := np_same u33 n28
  replace n30 := np_same u33 n30
  replace n31 := np_same u33 n31
  replace n32 := np_same u33 n32
  have s33 := s32.trans u33
  have n33 : Np (New H) H33 (.ref p33) (.tuple [.tuple [.str "b", .str "a"], .tuple []]) := .tup z33 e33 (.cons n31 (.cons n32 .nil))
  clear hg33
  have d8 : AllD (New H) H33 [.non, .ref p25, .ref p1, .ref p26, .ref p28, .ref p30, .ref p33, .int (5)] := AllD.cons bd1 .non (AllD.cons bd2 n25 (AllD.cons bd3 n1 (AllD.cons bd4 n26 (AllD.cons bd5 n28 (AllD.cons bd6 n30 (AllD.cons bd7 n33 (AllD.cons bd8 (.int _) AllD.nil)))))))
  refine ⟨Nat.le_of_lt (lines (by simp)), fun p34 h34 => ?_⟩
  let Z1 : Addr → Prop := fun a => New H a ∧ a ≠ p34
  have zz : ∀ b o, New H b → H33 b = some o → Z1 b ∧ H33 b = some o := fun b o z e => ⟨⟨z, ne_of_none e h34⟩, e⟩
  replace n1 := np_keep zz n1
  replace c3 := AllP.keep zz c3
  replace d8 := AllD.keep zz d8
  generalize hg34 : upd H33 p34 _ = H34
  have u34 : Same H33 H34 := by rw [← hg34]; exact same_upd h34
  have eS : H34 p34 = some (.lst [.non, .ref p25, .ref p1, .ref p26, .ref p28, .ref p30, .ref p33, .int (5)]) := by rw [← hg34]; exact upd_same
  have zS : New H p34 := new_of s33 h34
  replace n1 := np_same u34 n1
  replace c3 := AllP.same u34 c3
  replace e24 := u34 _ _ e24
  replace d8 := AllD.same u34 d8
  have s34 := s33.trans u34
  clear hg34
  refine ⟨_, rfl, .inl ⟨rfl, _, SqL.of eS⟩, _, rfl, ?_⟩
  refine ⟨Nat.le_of_lt (lines (by simp)), fun p35 h35 => ?_⟩
  generalize hg35 : upd H34 p35 _ = H35
  have u35 : Same H34 H35 := by rw [← hg35]; exact same_upd h35
  have e35 : H35 p35 = some (.tup [.str LEAD, .str "a", .str "b", .int (1)]) := by rw [← hg35]; exact upd_same
  have z35 : Z1 p35 := ⟨new_of s34 h35, (ne_of_none eS h35).symm⟩
  replace n1 := np_same u35 n1
  replace c3 := AllP.same u35 c3
  replace e24 := u35 _ _ e24
  replace d8 := AllD.same u35 d8
  replace eS := u35 _ _ eS
  have s35 := s34.trans u35
  have n35 : Np (Z1) H35 (.ref p35) (.tuple [.str LEAD, .str "a", .str "b", .int (1)]) := .tup z35 e35 (.cons (.str _) (.cons (.str _) (.cons (.str _) (.cons (.int _) .nil))))
  clear hg35
  refine ⟨Nat.le_of_lt (lines (by simp)), fun p36 h36 => ?_⟩
  generalize hg36 : upd H35 p36 _ = H36
  have u36 : Same H35 H36 := by rw [← hg36]; exact same_upd h36
  have e36 : H36 p36 = some (.tup [.str "a", .str "b"]) := by rw [← hg36]; exact upd_same
  have z36 : Z1 p36 := ⟨new_of s35 h36, (ne_of_none eS h36).symm⟩
  replace n1 := np_same u36 n1
  replace c3 := AllP.same u36 c3
  replace e24 := u36 _ _ e24
  replace d8 := AllD.same u36 d8
  replace eS := u36 _ _ eS
  replace n35 := np_same u36 n35
  have s36 := s35.trans u36
  have n36 : Np (Z1) H36 (.ref p36) (.tuple [.str "a", .str "b"]) := .tup z36 e36 (.cons (.str _) (.cons (.str _) .nil))
  clear hg36
  refine ⟨Nat.le_of_lt (lines (by simp)), fun p37 h37 => ?_⟩
  generalize hg37 : upd H36 p37 _ = H37
  have u37 : Same H36 H37 := by rw [← hg37]; exact same_upd h37
  have e37 : H37 p37 = some (.tup [.str HUB, .ref p36, .int (1)]) := by rw [← hg37]; exact upd_same
  have z37 : Z1 p37 := ⟨new_of s36 h37, (ne_of_none eS h37).symm⟩
  replace n1 := np_same u37 n1
  replace c3 := AllP.same u37 c3
  replace e24 := u37 _ _ e24
  replace d8 := AllD.same u37 d8
  replace eS := u37 _ _ eS
  replace n35 := np_same u37 n35
  replace n36 := np_same u37 n36
  have s37 := s36.trans u37
  have n37 : Np (Z1) H37 (.ref p37) (.tuple [.str HUB, .tuple [.str "a", .str "b"], .int (1)]) := .tup z37 e37 (.cons (.str _) (.cons n36 (.cons (.int _) .nil)))
  clear hg37
  refine ⟨Nat.le_of_lt (lines (by simp)), fun p38 h38 => ?_⟩
  generalize hg38 : upd H37 p38 _ = H38
  have u38 : Same H37 H38 := by rw [← hg38]; exact same_upd h38
  have e38 : H38 p38 = some (.tup [.ref p35, .ref p37]) := by rw [← hg38]; exact upd_same
  have z38 : Z1 p38 := ⟨new_of s37 h38, (ne_of_none eS h38).symm⟩
  replace n1 := np_same u38 n1
  replace c3 := AllP.same u38 c3
  replace e24 := u38 _ _ e24
  replace d8 := AllD.same u38 d8
  replace eS := u38 _ _ eS
  replace n35 := np_same u38 n35
  replace n37 := np_same u38 n37
  have s38 := s37.trans u38
  have n38 : Np (Z1) H38 (.ref p38) (.tuple [.tuple [.str LEAD, .str "a", .str "b", .int (1)], .tuple [.str HUB, .tuple [.str "a", .str "b"], .int (1)]]) := .tup z38 e38 (.cons n35 (.cons n37 .nil))
  clear hg38
  refine ⟨Nat.le_of_lt (lines (by simp)), fun p39 h39 => ?_⟩
  generalize hg39 : upd H38 p39 _ = H39
  have u39 : Same H38 H39 := by rw [← hg39]; exact same_upd h39
  have e39 : H39 p39 = some (.tup [.ref p1, .ref p38]) := by rw [← hg39]; exact upd_same
  have z39 : Z1 p39 := ⟨new_of s38 h39, (ne_of_none eS h39).symm⟩
  replace n1 := np_same u39 n1
  replace c3 := AllP.same u39 c3
  replace e24 := u39 _ _ e24
  replace d8 := AllD.same u39 d8
  replace eS := u39 _ _ eS
  replace n38 := np_same u39 n38
  have s39 := s38.trans u39
  have n39 : Np (Z1) H39 (.ref p39) (.tuple [.tuple [.str "a", .str "b"], .tuple [.tuple [.str LEAD, .str "a", .str "b", .int (1)], .tuple [.str HUB, .tuple [.str "a", .str "b"], .int (1)]]]) := .tup z39 e39 (.cons n1 (.cons n38 .nil))
  clear hg39
  refine ⟨p34, _, _, rfl, rfl, eS, lines (by simp), ?_⟩
  have ec40 := e24
  generalize hg40 : upd H39 p34 _ = H40
  have kS : ∀ b o, Z1 b → H39 b = some o → Z1 b ∧ H40 b = some o := fun b o z e => ⟨z, by rw [← hg40, upd_ne z.2]; exact e⟩
  have e9 : H40 p34 = some (.lst [.non, .ref p25, .ref p1, .ref p26, .ref p28, .ref p30, .ref p33, .int (5), .ref p39]) := by rw [← hg40]; exact upd_same
  have neS : p24 ≠ p34 := fun e => by rw [e, eS] at ec40; cases ec40
  have e12 : H40 p24 = some (.lst [.ref p2, .ref p3, .ref p4, .ref p6, .ref p9, .ref p10, .ref p11, .ref p14, .ref p15, .ref p17, .ref p20, .ref p22]) := by rw [← hg40, upd_ne neS]; exact ec40
  have ne1 : p1 ≠ p34 := by intro e; cases n1 with | tup z _ _ => exact z.2 e
  have s40 : Same H H40 := fun b o e => by rw [← hg40, upd_ne (ne_of_none e zS)]; exact s39 _ _ e
  have d9 : AllD Z1 H40 [.non, .ref p25, .ref p1, .ref p26, .ref p28, .ref p30, .ref p33, .int (5), .ref p39] := AllD.app (d8.keep kS) (AllD.cons bd9 (np_keep kS n39) AllD.nil)
  replace c3 := c3.keep kS
  replace n1 := np_keep kS n1
  clear hg40 kS eS
  -- the parts in nets
  refine ⟨_, rfl, _, rfl, _, rfl, p24, rfl, ⟨_, SqL.of e12⟩, fun Y hY => ?_⟩
  have off : ∀ {a : Addr} {H' : Hp}, Same H40 H' → H' a = none → Z1 a := fun s e => ⟨new_of (s40.trans s) e, (ne_of_none (s _ _ e9) e).symm⟩
  refine lc_each [.ref p2, .ref p3, .ref p4, .ref p6, .ref p9, .ref p10, .ref p11, .ref p14, .ref p15, .ref p17, .ref p20, .ref p22] (fun v u H' => ∃ p q, v = .ref p ∧ H' p = some (.tup [.ref p1, .ref q]) ∧ H' q = some (.tup [u]) ∧ Z1 p ∧ Z1 q) (fun v u H1 H2 tk ⟨p, q, h1, h2, h3, h4, h5⟩ => ⟨p, q, h1, tk.1 _ _ h2, tk.1 _ _ h3, h4, h5⟩) hY (lines (by simp)) (fun i H2 hi s => ⟨_, _, SqL.of (s _ _ e12), List.getElem?_eq_getElem hi⟩) (fun H2 s => ⟨_, SqL.of (s _ _ e12), Nat.le_refl _⟩) ?_ ?_
  · rintro i u y Ha Hb F hu s ⟨rfl, yx⟩ kk
    have e := yx _ (SqL.of (s _ _ e12))
    rw [hu] at e
    obtain rfl := Option.some.inj e
    refine ⟨rfl, _, rfl, _, rfl, Nat.le_of_lt (lines (by simp)), fun q hq => ⟨Nat.le_of_lt (lines (by simp)), fun p hp => ?_⟩⟩
    have s1 := same_upd (o := .tup [u]) hq
    have eq1 : (upd Hb q (.tup [u])) q = some (.tup [u]) := upd_same
    have zq := off s hq
    generalize upd Hb q (.tup [u]) = Hc at s1 eq1 hp ⊢
    have zp := off (s.trans s1) hp
    have s2 := same_upd (o := .tup [.ref p1, .ref q]) hp
    exact kk _ _ ⟨p, q, rfl, upd_same, s2 _ _ eq1, zp, zq⟩ (s1.trans s2)
  rintro acc H41 s41 eY pd
  have la : acc.length = 12 := Paired.length pd
  have d41 : AllD Z1 H41 acc := fun v hv => by
    obtain ⟨u, hu, p, q, rfl, h1, h2, h3, h4⟩ := (paired_mem pd).1 v hv
    obtain ⟨dd, bp, nu⟩ := (c3.same s41) u hu
    exact ⟨_, bdp bp, .tup h3 h1 (.cons (np_same s41 n1) (.cons (.tup h4 h2 (.cons nu .nil)) .nil))⟩
  refine ⟨p34, Y, _, acc, rfl, rfl, s41 _ _ e9, eY, (by simp; omega), fun L hL => ?_⟩
  have s42 := same_upd (o := .lst ([.non, .ref p25, .ref p1, .ref p26, .ref p28, .ref p30, .ref p33, .int (5), .ref p39] ++ acc)) hL
  have e42 : (upd H41 L (.lst ([.non, .ref p25, .ref p1, .ref p26, .ref p28, .ref p30, .ref p33, .int (5), .ref p39] ++ acc))) L = some (.lst ([.non, .ref p25, .ref p1, .ref p26, .ref p28, .ref p30, .ref p33, .int (5), .ref p39] ++ acc)) := upd_same
  have all : AllD Z1 H41 ([.non, .ref p25, .ref p1, .ref p26, .ref p28, .ref p30, .ref p33, .int (5), .ref p39] ++ acc) := (d9.same s41).app d41
  have sAll := s40.trans s41
  have nLg : L ≠ g := ((hS.same sAll).off hL).1
  refine ⟨d, g, c, L, n, _, rfl, (hS.same sAll).same s42, SqL.of e42, nLg, by simp, by simp; omega, fun i x H' hx S' kp => ?_⟩
  obtain ⟨dd, bd, nx⟩ := (all.same s42) x (List.mem_of_getElem? hx)
  refine k x dd H' (np_dp (Z := Z1) (np_keep (fun b o z e => ⟨z, ?_⟩) nx)) bd S' fun b o e n1 n2 => kp b o (s42 _ _ (sAll _ _ e)) n1 n2
  obtain ⟨o1, o2⟩ := hS.off z.1
  exact kp _ _ e o2 o1
end
end K05
set_option maxHeartbeats 1000000
namespace Hx
open PySem PySem.Spec PyProof.Rows L2 HT
/-! ### t[::-1] of a tuple -/
section
variable {prog : Program} {w : World} {A : Around} {E : Value → Shared → Prop} {s : Shared}
theorem adjust_rev (n : Nat) : Builtin.Slice.sliceAdjust none none (-1) (n : Int) = ((n : Int) - 1, -1) := by
  unfold Builtin.Slice.sliceAdjust
  rfl
theorem places_rev (n : Nat) : Builtin.Slice.slicePlaces ((n : Int) - 1) (-1) (-1) = n := by
  unfold Builtin.Slice.slicePlaces
  have h1 : ¬ ((-1 : Int) > 0) := by decide
  simp only [h1, if_false]
  rw [show (- -1 : Int) = 1 by decide, Int.ediv_one]
  split <;> omega
theorem sliceApplied_rev {sl : Addr} {vs : Value} {n : Nat} {Q : Int × Int × Nat → Shared → Prop} (hs : s.heap.IsSliceOf sl .none .none vs) (ps : IsPart vs (some (-1)))
    (h : Q ((n : Int) - 1, -1, n) s) : wpAny (model prog w) A (Builtin.Slice.sliceApplied (.ref sl) (pure (n : Int))) Q E s := by
  obtain ⟨os, hos, hcs, hds⟩ := id hs
  unfold Builtin.Slice.sliceApplied Builtin.Slice.sliceFields
  refine wpAny_bind (wpAny_bind (wpAny_field hos hds (x := .none) rfl (wpAny_bind (wpAny_field hos hds (x := .none) rfl (wpAny_bind (wpAny_field hos hds (x := vs) rfl (wpAny_pure ?_)))))))
  refine wpAny_bind (slicePart_ ps ?_)
  show wpAny _ _ (if ((-1 : Int) == 0) = true then _ else _) _ _ s
  rw [if_neg (by decide)]
  refine wpAny_bind (slicePart_ .none (wpAny_bind (slicePart_ .none (wpAny_bind (wpAny_pure ?_)))))
  show wpAny _ _ (match Builtin.Slice.sliceAdjust none none (-1) (n : Int) with | (lo, hi) => pure (lo, (-1 : Int), Builtin.Slice.slicePlaces lo hi (-1))) _ _ s
  rw [adjust_rev]
  show wpAny _ _ (pure ((n : Int) - 1, (-1 : Int), Builtin.Slice.slicePlaces ((n : Int) - 1) (-1) (-1))) _ _ s
  rw [places_rev]
  exact wpAny_pure h
theorem pick_rev (xs : Array Value) : ((List.range xs.size).filterMap fun (m : Nat) => xs[(((xs.size : Int) - 1) + (m : Int) * (-1)).toNat]?).toArray = xs.toList.reverse.toArray := by
  congr 1
  have e : ∀ l : List Nat, (∀ m ∈ l, m < xs.size) → (l.filterMap fun (m : Nat) => xs[(((xs.size : Int) - 1) + (m : Int) * (-1)).toNat]?) = l.map fun m => xs.toList.getD (xs.size - 1 - m) .none := fun l => by
    induction l with
    | nil => intro _; rfl
    | cons m l ih =>
      intro h
      have hm := h m List.mem_cons_self
      have e1 : (((xs.size : Int) - 1) + (m : Int) * (-1)).toNat = xs.size - 1 - m := by omega
      have lt : xs.size - 1 - m < xs.size := by omega
      rw [List.filterMap_cons, e1, Array.getElem?_eq_getElem lt, List.map_cons]
      show xs[xs.size - 1 - m] :: _ = _
      rw [ih fun k hk => h k (List.mem_cons_of_mem _ hk)]
      congr 1
      rw [List.getD_eq_getElem?_getD, List.getElem?_eq_getElem (by simpa using lt)]
      simp
  rw [e _ fun m hm => List.mem_range.mp hm]
  refine List.ext_getElem? fun i => ?_
  rw [List.getElem?_map]
  by_cases hi : i < xs.size
  · rw [List.getElem?_range hi, List.getElem?_reverse (by simpa using hi)]
    show some (xs.toList.getD (xs.size - 1 - i) .none) = _
    rw [Array.length_toList, List.getD_eq_getElem?_getD]
    have lt : xs.size - 1 - i < xs.toList.length := by simp; omega
    rw [List.getElem?_eq_getElem lt]
    rfl
  · rw [List.getElem?_eq_none (by simp; omega), List.getElem?_eq_none (by simp; omega)]
    rfl
theorem getItem_tuple_rev {t sl : Addr} {items : Array Value} {vs : Value} {Q : Value → Shared → Prop} (ht : IsTup s.heap t items) (hs : s.heap.IsSliceOf sl .none .none vs) (ps : IsPart vs (some (-1)))
    (h : Q (.ref s.heap.objs.size) { s with heap := s.heap.push { cls := .type "tuple", data := .seq items.toList.reverse.toArray } })
    (hsz : items.size ≤ sizeLine) : wpAny (model prog w) A (getItem (.ref t) (.ref sl)) Q E s := by
  have htake : sizeOk (.seq items.toList.reverse.toArray) := by
    show items.toList.reverse.toArray.size ≤ sizeLine
    rw [List.size_toArray, List.length_reverse, Array.length_toList]
    exact hsz
  obtain ⟨os, hos, hcs, hds⟩ := id hs
  have hTs : s.TypeIs (.ref sl) "slice" := ⟨os, hos, hcs⟩
  unfold getItem
  try with_reducible refine wpAny_holding ?_
  first | refine wpAny_bind (wpAny_pure ?_) | skip
  refine wpAny_bind (wpAny_sequenceKey ht.typeIs (by decide) ?_)
  refine wpAny_bind (wpAny_callSpecial?_slot (name := Str.ofString "__getitem__") ht.typeIs PyProof.Rows.slot_tuple_getitem
    (wpAny_call_entry PyProof.Rows.slot_tuple_getitem ht.typeIs entry_tuple_getitem ?_ (args_tuple_getitem _ _)))
  show wpAny _ _ (Builtin.Tuple.tupleItemsOf (.ref t) >>= _) _ _ s
  refine wpAny_bind (tupleItemsOf_ ht ?_)
  refine wpAny_bind (wpAny_typeOf hTs ?_)
  rw [if_pos (by decide)]
  refine wpAny_bind (sliceApplied_rev hs ps ?_)
  have hno : ¬ ((((items.size : Int) - 1) == 0 && (-1 : Int) == 1 && items.size == items.size) = true) := by
    intro q
    rw [Bool.and_eq_true, Bool.and_eq_true] at q
    have := q.1.2
    cases (by decide : ((-1 : Int) == 1) = false) ▸ this
  show wpAny _ _ (if (((items.size : Int) - 1) == 0 && (-1 : Int) == 1 && items.size == items.size) = true then _ else _) _ _ s
  rw [if_neg hno, pick_rev]
  first
    | exact wpAny_bind (m := Builtin.Tuple.tupleExact _) (wpAny_newObj_type (wpAny_pure ⟨_, rfl, wpAny_pure h⟩) htake)
    | exact wpAny_bind (m := Builtin.Tuple.tupleExact _) (wpAny_newObj_type (wpAny_bind (wpAny_pure (wpAny_pure ⟨_, rfl, wpAny_pure h⟩))) htake)
    | exact wpAny_bind (wpAny_bind (m := Builtin.Tuple.tupleExact _) (wpAny_newObj_type (wpAny_pure (wpAny_pure ⟨_, rfl, wpAny_pure h⟩)) htake))
    | exact wpAny_bind (wpAny_bind (m := Builtin.Tuple.tupleExact _) (wpAny_newObj_type (wpAny_pure ⟨_, rfl, wpAny_pure h⟩) htake))
end
section
variable {X : Cx}
def tRevT (K : PySem.W.Frag) (te : TE) : TE := fun σ H Q => te σ H fun x H1 => ∃ a xs, x = .ref a ∧ SqT K H1 a xs ∧ ∀ p, H1 p = none → Q (.ref p) (upd H1 p (.tup xs.reverse))
theorem pe_revT {e : Expr} {te : TE} {k : Nat} {p1 p2 p3 pos : Pos} (he : PE X e te) : PE X (.Subscript e (.Slice none none (some (.UnaryOp .USub (.Constant (.int 1) k p1) p2)) p3) pos) (tRevT X.K te) := by
  refine ⟨fun pins s σ H Q I h => ?_⟩
  refine Subscript_ (thn (he.run pins s σ H _ I h) fun v s1 ⟨x, H1, I1, r1, q1⟩ => ?_)
  obtain ⟨a, xs, ex, hx, q⟩ := q1
  subst ex
  cases r1
  have hst : PO X (some (.UnaryOp .USub (.Constant (.int 1) k p1) p2)) (tPart (tUn (rU fun i => .int (-i)) (tC (.int 1)))) := po_some (pe_un un_neg pe_int)
  refine wpAny_Slice (thn (po_none.run pins s1 σ H1 (fun o H2 => o = none ∧ H2 = H1) I1 ⟨rfl, rfl⟩) fun vl s2 ⟨l, H2, I2, pl, el, e2⟩ => ?_)
  subst el e2
  refine thn (po_none.run pins s2 σ H2 (fun o H3 => o = none ∧ H3 = H2) I2 ⟨rfl, rfl⟩) fun vu s3 ⟨u, H3, I3, pu, eu, e3⟩ => ?_
  subst eu e3
  refine thn (hst.run pins s3 σ H3 (fun o H4 => o = some (-1) ∧ H4 = H3) I3 ⟨1, rfl, -1, rfl, rfl, rfl⟩) fun vs s4 ⟨o, H4, I4, ps, eo, e4⟩ => ?_
  subst eo e4
  cases pl
  cases pu
  have I5 : Inv X pins σ H4 { s4 with heap := s4.heap.push { cls := .type "slice", data := .fields #[.none, .none, vs] } } := I4.kept (t' := s4.toks) fun b ob q => Heap.get?_push_of_some _ q
  obtain ⟨its, r, ht, hz⟩ := I5.tuple hx
  have hlen := r.length
  show wpAny (model X.prog X.w) X.A (subscriptTail e (.Slice none none (some (.UnaryOp .USub (.Constant (.int 1) k p1) p2)) p3) (.ref a) (.ref s4.heap.objs.size)) (EP X pins σ Q) X.xe { s4 with heap := s4.heap.push { cls := .type "slice", data := .fields #[.none, .none, vs] } }
  refine tail_any (ops := [.ref a, .ref s4.heap.objs.size]) ht.typeIs PyProof.Rows.slot_tuple_getitem.lookup ?_ (by with_unfolding_all rfl)
  refine getItem_tuple_rev ht (Heap.IsSliceOf.new _ .none .none vs) ps ?_ (by rw [List.size_toArray]; omega)
  refine ⟨.ref _, _, I5.laid (t' := s4.toks) (o := .tup xs.reverse) (fun b ob q => Heap.get?_push_of_some _ q) (Nat.le_refl _) ?_, rfl, q _ (I5.hok.fresh (Nat.le_refl _))⟩
  exact ⟨by rw [List.length_reverse]; exact hz, _, r.reverse, IsTup.new _ _⟩
theorem pe_revTK {K : PySem.W.Frag} (hK : X.K = K) {e : Expr} {te : TE} {k : Nat} {p1 p2 p3 pos : Pos} (he : PE X e te) : PE X (.Subscript e (.Slice none none (some (.UnaryOp .USub (.Constant (.int 1) k p1) p2)) p3) pos) (tRevT K te) := by
  subst hK
  exact pe_revT he
end
end Hx
set_option maxHeartbeats 2000000
set_option exponentiation.threshold 10000
namespace K05
open PySem PySem.Spec PyProof.Rows L2 Hx RZ
/-! ### values that stay what they are while the state draws -/
inductive Gv (K : PySem.W.Frag) (d g : Addr) (H : Hp) : Nat → V → Prop
  | non (n : Nat) : Gv K d g H n .non
  | bl (n : Nat) (b : Bool) : Gv K d g H n (.bl b)
  | int (n : Nat) (i : Int) (h : i.natAbs < 2 ^ 1000) : Gv K d g H n (.int i)
  | str (n : Nat) (s : Str) (h : s.length ≤ 100000) (c : (PyData.str s).canLay0 = true) : Gv K d g H n (.str s)
  | tup (n : Nat) (a : Addr) (xs : List V) (h : SqT K H a xs) (e : ∀ x ∈ xs, Gv K d g H n x) (l : xs.length ≤ bnd (n + 1)) : Gv K d g H (n + 1) (.ref a)
  | lst (n : Nat) (a : Addr) (xs : List V) (h1 : a ≠ d) (h2 : a ≠ g) (h : H a = some (.lst xs)) (e : ∀ x ∈ xs, Gv K d g H n x) (l : xs.length ≤ bnd (n + 1)) : Gv K d g H (n + 1) (.ref a)
theorem all_data {K : PySem.W.Frag} {H : Hp} {n : Nat} : ∀ {xs : List V}, (∀ x ∈ xs, ∃ dd, Dp K H x dd ∧ Fine n dd) → ∃ ds, DpAll K H xs ds ∧ ds.length = xs.length ∧ ∀ dd ∈ ds, Fine n dd
  | [], _ => ⟨[], .nil, rfl, fun _ h => by cases h⟩
  | x :: xs, h => by
    obtain ⟨dd, h1, h2⟩ := h x List.mem_cons_self
    obtain ⟨ds, h3, h4, h5⟩ := all_data fun y hy => h y (List.mem_cons_of_mem _ hy)
    exact ⟨dd :: ds, .cons h1 h3, by rw [List.length_cons, List.length_cons, h4], fun e he => (List.mem_cons.mp he).elim (fun z => by rw [z]; exact h2) (h5 e)⟩
section
variable {K : PySem.W.Frag} {d g c : Addr} {H H' : Hp}
theorem Gv.data {n : Nat} {v : V} (h : Gv K d g H n v) : ∃ dd, Dp K H v dd ∧ Fine n dd := by
  induction h with
  | non n => exact ⟨.none, .non, .non n⟩
  | bl n b => exact ⟨.bool b, .bl b, .bl n b⟩
  | int n i h => exact ⟨.int i, .int i, .int n i h⟩
  | str n s h c => exact ⟨.str s, .str s, .str n s h c⟩
  | tup n a xs h e l ih =>
    obtain ⟨ds, h1, h2, h3⟩ := all_data ih
    exact ⟨.tuple ds, .tup h h1, .tup n ds h3 (by rw [h2]; exact l)⟩
  | lst n a xs _ _ h e l ih =>
    obtain ⟨ds, h1, h2, h3⟩ := all_data ih
    exact ⟨.list ds, .lst (SqL.of h) h1, .lst n ds h3 (by rw [h2]; exact l)⟩
theorem Gv.up {n m : Nat} {v : V} (h : Gv K d g H n v) (l : n ≤ m) : Gv K d g H m v := by
  induction h generalizing m with
  | non n => exact .non m
  | bl n b => exact .bl m b
  | int n i h => exact .int m i h
  | str n s h c => exact .str m s h c
  | tup n a xs h e l2 ih =>
    cases m with
    | zero => omega
    | succ m => exact .tup m a xs h (fun x hx => ih x hx (by omega)) (Nat.le_trans l2 (bnd_up l))
  | lst n a xs h1 h2 h e l2 ih =>
    cases m with
    | zero => omega
    | succ m => exact .lst m a xs h1 h2 h (fun x hx => ih x hx (by omega)) (Nat.le_trans l2 (bnd_up l))
theorem Gv.kp {n m : Nat} {v : V} (S : St H d g c m) (kp : Kp d g H H') (h : Gv K d g H n v) : Gv K d g H' n v := by
  induction h with
  | non n => exact .non n
  | bl n b => exact .bl n b
  | int n i h => exact .int n i h
  | str n s h c => exact .str n s h c
  | tup n a xs h e l ih => exact .tup n a xs (tk_seqT (kp.tk S) h) ih l
  | lst n a xs h1 h2 h e l ih => exact .lst n a xs h1 h2 (kp _ _ h h1 h2) ih l
theorem Gv.name {n : Nat} {x : Str} (h : nameS x = true) : Gv K d g H n (.str x) := .str n x (by have := name_len h; omega) (name_ok h)
/-- any data of tuples only -/
theorem gv_num {v : V} {n : Num} (h : NumAt K H v n) (nb : Num30 n) (k : Nat) : Gv K d g H (k + 1) v := by
  have p : (10 : Int) ^ 30 = ((10 ^ 30 : Nat) : Int) := by decide
  have q : (10 : Nat) ^ 30 < 2 ^ 1000 := Nat.lt_of_lt_of_le (by decide : (10 : Nat) ^ 30 < 2 ^ 100) (Nat.pow_le_pow_right (by decide) (by decide))
  have bt : n.top.natAbs < 2 ^ 1000 := by
    have := nb.t0; have := nb.t1
    omega
  have bl : n.low.natAbs < 2 ^ 1000 := by
    have := nb.l0; have := nb.l1
    omega
  cases n with
  | w i => rw [show v = .int i from h]; exact .int _ i bt
  | q t b =>
    obtain ⟨a, rfl, h⟩ := h
    refine .tup k a _ h (fun x hx => ?_) (by have := bnd_19 (k + 1); simp; omega)
    simp only [List.mem_cons, List.not_mem_nil, or_false] at hx
    rcases hx with rfl | rfl
    · exact .int _ t bt
    · exact .int _ b bl
theorem gv_words {a : Addr} {ns : List Str} (h : SqT K H a (ns.map V.str)) (hn : ∀ x ∈ ns, nameS x = true) (k : Nat) (l : ns.length ≤ 19) : Gv K d g H (k + 1) (.ref a) := by
  refine .tup k a _ h (fun x hx => ?_) (by rw [List.length_map]; exact Nat.le_trans l (bnd_19 _))
  obtain ⟨z, hz, rfl⟩ := List.mem_map.mp hx
  exact .name (hn z hz)
/-! ### what evaluates to such a value -/
def GE (K : PySem.W.Frag) (d g c : Addr) (H0 : Hp) (σ : L2.St) (j n : Nat) (te : TE) : Prop := ∀ m H, St H d g c (m + j) → Kp d g H0 H → ∀ Q : VK, (∀ u H', Gv K d g H' n u → St H' d g c m → Kp d g H H' → Q u H') → te σ H Q
def GT (K : PySem.W.Frag) (d g c : Addr) (H0 : Hp) (σ : L2.St) (j n k : Nat) (te : TE) : Prop := ∀ m H, St H d g c (m + j) → Kp d g H0 H → ∀ Q : VK, (∀ a xs H', SqT K H' a xs → xs.length ≤ k → (∀ x ∈ xs, Gv K d g H' n x) → St H' d g c m → Kp d g H H' → Q (.ref a) H') → te σ H Q
def GA (K : PySem.W.Frag) (d g c : Addr) (H0 : Hp) (σ : L2.St) (j n k : Nat) (ta : TA) : Prop := ∀ m H, St H d g c (m + j) → Kp d g H0 H → ∀ Q : List V → Hp → Prop, (∀ us H', us.length = k → (∀ u ∈ us, Gv K d g H' n u) → St H' d g c m → Kp d g H H' → Q us H') → ta σ H Q
def GO (σ : L2.St) (to : TO) : Prop := ∀ (H : Hp) (Q : Option Int → Hp → Prop), (∀ o, Q o H) → to σ H Q
variable {H0 : Hp} {σ : L2.St} {j i n k l m0 : Nat} {te t1 t2 : TE} {ta : TA}
theorem kp_same (s : Same H H') : Kp d g H H' := Kp.of s
theorem GE.more (h : GE K d g c H0 σ j n te) (l : j ≤ i) : GE K d g c H0 σ i n te := fun m H S kp Q q => h (m + (i - j)) H (by rw [show m + (i - j) + j = m + i by omega]; exact S) kp Q fun u H' a S' b => q u H' a (S'.less (by omega)) b
theorem GE.up (h : GE K d g c H0 σ j n te) (l : n ≤ k) : GE K d g c H0 σ j k te := fun m H S kp Q q => h m H S kp Q fun u H' a S' b => q u H' (a.up l) S' b
theorem GT.ge (h : GT K d g c H0 σ j n k te) (l : k ≤ bnd (n + 1)) : GE K d g c H0 σ j (n + 1) te := fun m H S kp Q q => h m H S kp Q fun a xs H' h1 h2 h3 S' b => q _ H' (.tup n a xs h1 h3 (Nat.le_trans h2 l)) S' b
theorem GT.up (h : GT K d g c H0 σ j n k te) (l : n ≤ i) : GT K d g c H0 σ j i k te := fun m H S kp Q q => h m H S kp Q fun a xs H' h1 h2 h3 S' b => q a xs H' h1 h2 (fun x hx => (h3 x hx).up l) S' b
theorem ge_c {v : V} (h : ∀ H, Gv K d g H n v) : GE K d g c H0 σ 0 n (tC v) := fun m H S kp Q q => q v H (h H) S (fun _ _ e _ _ => e)
theorem ge_neg {i : Int} (h : i.natAbs < 2 ^ 1000) : GE K d g c H0 σ 0 n (tUn (rU fun i => V.int (-i)) (tC (.int i))) := fun m H S kp Q q => ⟨i, rfl, q _ H (.int n _ (by rw [Int.natAbs_neg]; exact h)) S (fun _ _ e _ _ => e)⟩
theorem ge_var {v : V} {i : Nat} (S0 : St H0 d g c m0) (h : σ[i]? = some (some v)) (gv : Gv K d g H0 n v) : GE K d g c H0 σ 0 n (tVar i) := fun m H S kp Q q => ⟨v, h, q v H (gv.kp S0 kp) S (fun _ _ e _ _ => e)⟩
theorem gt_var {a : Addr} {xs : List V} {i : Nat} (S0 : St H0 d g c m0) (h : σ[i]? = some (some (.ref a))) (hx : SqT K H0 a xs) (l : xs.length ≤ k) (gv : ∀ x ∈ xs, Gv K d g H0 n x) : GT K d g c H0 σ 0 n k (tVar i) := fun m H S kp Q q => ⟨_, h, q a xs H (tk_seqT (kp.tk S0) hx) l (fun x hx => (gv x hx).kp S0 kp) S (fun _ _ e _ _ => e)⟩
theorem ga_nil : GA K d g c H0 σ 0 n 0 tNil := fun m H S kp Q q => q [] H rfl (fun _ h => by cases h) S (fun _ _ e _ _ => e)
theorem ga_cons (h : GE K d g c H0 σ j n te) (t : GA K d g c H0 σ i n k ta) : GA K d g c H0 σ (j + i) n (k + 1) (tCons te ta) := fun m H S kp Q q =>
  h (m + i) H (by rw [show m + i + j = m + (j + i) by omega]; exact S) kp _ fun u H1 g1 S1 k1 => t m H1 S1 (kp.trans k1) _ fun us H2 e g2 S2 k2 => q (u :: us) H2 (by rw [List.length_cons, e]) (fun x hx => (List.mem_cons.mp hx).elim (fun z => by rw [z]; exact g1.kp S1 k2) (g2 x)) S2 (k1.trans k2)
theorem ga_cons0 (h : GE K d g c H0 σ 0 n te) (t : GA K d g c H0 σ 0 n k ta) : GA K d g c H0 σ 0 n (k + 1) (tCons te ta) := ga_cons h t
theorem gt_tup (h : GA K d g c H0 σ j n k ta) (l : k ≤ 1000) : GT K d g c H0 σ j n k (tTup ta) := fun m H S kp Q q => h m H S kp _ fun us H1 e g1 S1 k1 => ⟨by rw [e, sizeLine_eq]; omega, fun p hp => by
  have s := same_upd (o := .tup us) hp
  exact q p us _ (SqT.of upd_same) (by rw [e]; exact Nat.le_refl _) (fun x hx => (g1 x hx).kp S1 (Kp.of s)) (S1.same s) (k1.trans (Kp.of s))⟩
theorem ge_tup (h : GA K d g c H0 σ j n k ta) (l : k ≤ 19) : GE K d g c H0 σ j (n + 1) (tTup ta) := (gt_tup h (by omega)).ge (Nat.le_trans l (bnd_19 _))
theorem ge_lst (h : GA K d g c H0 σ j n k ta) (l : k ≤ 19) : GE K d g c H0 σ j (n + 1) (tLst ta) := fun m H S kp Q q => h m H S kp _ fun us H1 e g1 S1 k1 => ⟨by rw [e, sizeLine_eq]; omega, fun p hp => by
  have s := same_upd (o := .lst us) hp
  have off := S1.off hp
  exact q _ _ (.lst n p us off.2 off.1 upd_same (fun x hx => (g1 x hx).kp S1 (Kp.of s)) (by rw [e]; exact Nat.le_trans l (bnd_19 _))) (S1.same s) (k1.trans (Kp.of s))⟩
theorem go_no : GO σ tNoPart := fun H Q q => q none
theorem go_c {i : Int} : GO σ (tPart (tC (.int i))) := fun H Q q => ⟨i, rfl, q _⟩
theorem go_neg {i : Int} : GO σ (tPart (tUn (rU fun i => V.int (-i)) (tC (.int i)))) := fun H Q q => ⟨i, rfl, _, rfl, q _⟩
theorem go_var {i : Nat} {z : Int} (h : σ[i]? = some (some (.int z))) : GO σ (tPart (tVar i)) := fun H Q q => ⟨_, h, z, rfl, q _⟩
theorem cut_sub {xs : List V} {lo hi : Option Int} {x : V} (h : x ∈ cutV xs lo hi) : x ∈ xs := by
  unfold cutV at h
  exact List.mem_of_mem_drop (List.mem_of_mem_take h)
theorem gt_cut {tl th : TO} (h : GT K d g c H0 σ j n k te) (h1 : GO σ tl) (h2 : GO σ th) : GT K d g c H0 σ j n k (tSl (rSlA K) te tl th) := fun m H S kp Q q =>
  h m H S kp _ fun a xs H1 hx l gx S1 k1 => h1 H1 _ fun lo => h2 H1 _ fun hi => ⟨a, xs, rfl, hx, fun _ => q a xs H1 hx l gx S1 k1, fun _ p hp => by
    have s := same_upd (o := .tup (cutV xs lo hi)) hp
    exact q p _ _ (SqT.of upd_same) (Nat.le_trans (cutV_length xs lo hi) l) (fun x hx => (gx x (cut_sub hx)).kp S1 (Kp.of s)) (S1.same s) (k1.trans (Kp.of s))⟩
theorem gt_cat (h : GT K d g c H0 σ j n k t1) (t : GT K d g c H0 σ i n l t2) (sz : k + l ≤ 100000) : GT K d g c H0 σ (j + i) n (k + l) (tOp (rCatA K) t1 t2) := fun m H S kp Q q =>
  h (m + i) H (by rw [show m + i + j = m + (j + i) by omega]; exact S) kp _ fun a xs H1 hx lx gx S1 k1 => t m H1 S1 (kp.trans k1) _ fun b ys H2 hy ly gy S2 k2 => by
    have hx2 := tk_seqT (k2.tk S1) hx
    have gx2 : ∀ x ∈ xs, Gv K d g H2 n x := fun x hx => (gx x hx).kp S1 k2
    have kk := k1.trans k2
    refine ⟨a, b, xs, ys, rfl, rfl, hx2, hy, by rw [sizeLine_eq]; omega, fun _ => q b ys H2 hy (by omega) gy S2 kk, fun _ _ => q a xs H2 hx2 (by omega) gx2 S2 kk, fun _ _ p hp => ?_⟩
    have s := same_upd (o := .tup (xs ++ ys)) hp
    refine q p _ _ (SqT.of upd_same) (by rw [List.length_append]; omega) (fun x hx => ?_) (S2.same s) (kk.trans (Kp.of s))
    exact ((List.mem_append.mp hx).elim (gx2 x) (gy x)).kp S2 (Kp.of s)
theorem gt_rev (h : GT K d g c H0 σ j n k te) : GT K d g c H0 σ j n k (tRevT K te) := fun m H S kp Q q =>
  h m H S kp _ fun a xs H1 hx l gx S1 k1 => ⟨a, xs, rfl, hx, fun p hp => by
    have s := same_upd (o := .tup xs.reverse) hp
    exact q p _ _ (SqT.of upd_same) (by rw [List.length_reverse]; exact l) (fun x hx => (gx x (List.mem_reverse.mp hx)).kp S1 (Kp.of s)) (S1.same s) (k1.trans (Kp.of s))⟩
/-- list(t) -/
theorem ge_listof (h : GT K d g c H0 σ j n k te) (l : k ≤ bnd (n + 1)) : GE K d g c H0 σ j (n + 1) (tCB (fun xs H Q => ∃ p ys, xs = [.ref p] ∧ (SqL K H p ys ∨ SqT K H p ys) ∧ ∀ l, H l = none → Q (.ref l) (upd H l (.lst ys))) (tCons te tNil)) := fun m H S kp Q q =>
  h m H S kp _ fun a xs H1 hx lx gx S1 k1 => ⟨a, xs, rfl, .inr hx, fun p hp => by
    have s := same_upd (o := .lst xs) hp
    have off := S1.off hp
    exact q _ _ (.lst n p xs off.2 off.1 upd_same (fun x hx => (gx x hx).kp S1 (Kp.of s)) (Nat.le_trans lx l)) (S1.same s) (k1.trans (Kp.of s))⟩
theorem ge_ix {a : Addr} {xs : List V} {i : Nat} {z : Int} {x : V} {ti : TE} (S0 : St H0 d g c m0) (h : σ[i]? = some (some (.ref a))) (hx : SqT K H0 a xs) (hi : ∀ H (Q : VK), Q (.int z) H → ti σ H Q) (at0 : atI xs z = some x) (gv : Gv K d g H0 n x) : GE K d g c H0 σ 0 n (tOp (rIxT K) (tVar i) ti) := fun m H S kp Q q =>
  ⟨_, h, hi H _ ⟨a, xs, z, x, rfl, rfl, tk_seqT (kp.tk S0) hx, at0, q x H (gv.kp S0 kp) S (fun _ _ e _ _ => e)⟩⟩
/-- _law_pick(state, [..]) -/
theorem ge_pick {E : XK} (h0 : σ[0]? = some (some (.ref d))) (h : GA K d g c H0 σ j n k ta) (p0 : 0 < k) (l : k ≤ 1000) : GE K d g c H0 σ (j + 1) n (tCall (spPick K) [] E (tCons (tVar 0) (tCons (tLst ta) tNil))) := fun m H S kp Q q =>
  ⟨_, h0, h (m + 1) H (by rw [show m + 1 + j = m + (j + 1) by omega]; exact S) kp _ fun us H1 e g1 S1 k1 => ⟨by rw [e, sizeLine_eq]; omega, fun p hp => by
    have s := same_upd (o := .lst us) hp
    have off := S1.off hp
    refine ⟨d, g, c, p, m, us, rfl, S1.same s, SqL.of upd_same, off.1, by omega, by omega, fun i x H2 hx S2 k2 => ?_⟩
    exact q x H2 ((g1 x (List.mem_of_getElem? hx)).kp S1 ((Kp.of s).trans k2)) S2 ((k1.trans (Kp.of s)).trans k2)⟩⟩
end
end K05
set_option maxHeartbeats 2000000
set_option exponentiation.threshold 10000
namespace K05
open PySem PySem.Spec PyProof.Rows L2 Hx RZ
/-! ### what is near a part -/
section
variable {K : PySem.W.Frag} {d g c : Addr} {H H' H0 : Hp} {σ : L2.St} {n k : Nat} {te : TE} {ta : TA}
def litB (s : Str) : Bool := decide (s.length ≤ 100) && (PyData.str s).canLay0
theorem gv_s {s : Str} (h : litB s = true) : Gv K d g H n (.str s) := by
  unfold litB at h
  rw [Bool.and_eq_true, decide_eq_true_eq] at h
  exact .str n s (by omega) h.2
theorem ge_s {s : Str} (h : litB s = true) : GE K d g c H0 σ 0 n (tC (.str s)) := ge_c fun _ => gv_s h
theorem ge_i {i : Int} (h : decide (i.natAbs < 2 ^ 100) = true) : GE K d g c H0 σ 0 n (tC (.int i)) := ge_c fun _ => .int n i (Nat.lt_of_lt_of_le (of_decide_eq_true h) (Nat.pow_le_pow_right (by decide) (by decide)))
theorem ge_non : GE K d g c H0 σ 0 n (tC .non) := ge_c fun _ => .non n
theorem ge_bl {b : Bool} : GE K d g c H0 σ 0 n (tC (.bl b)) := ge_c fun _ => .bl n b
theorem ge_n {i : Int} (h : decide (i.natAbs < 2 ^ 100) = true) : GE K d g c H0 σ 0 n (tUn (rU fun i => V.int (-i)) (tC (.int i))) := ge_neg (Nat.lt_of_lt_of_le (of_decide_eq_true h) (Nat.pow_le_pow_right (by decide) (by decide)))
theorem ge_pow : GE K d g c H0 σ 0 n (tOp (rI CPow fun i j => V.int (i ^ j.toNat)) (tC (.int 10)) (tC (.int 29))) := fun m H S kp Q q =>
  ⟨10, 29, rfl, rfl, ⟨by decide, by decide, by decide⟩, q _ H (.int n _ (Nat.lt_of_lt_of_le (show ((10 : Int) ^ (29 : Int).toNat).natAbs < 2 ^ 100 by decide +kernel) (Nat.pow_le_pow_right (by decide) (by decide)))) S (fun _ _ e _ _ => e)⟩
theorem ge_rep {a : Addr} {xs : List V} {i m0 : Nat} (S0 : St H0 d g c m0) (h : σ[i]? = some (some (.ref a))) (hx : SqT K H0 a xs) (ne : xs ≠ []) (l : xs.length ≤ 9) (gv : ∀ x ∈ xs, Gv K d g H0 n x) : GE K d g c H0 σ 0 (n + 1) (tOp (rRepT K) (tVar i) (tC (.int 2))) := fun m H S kp Q q =>
  ⟨_, h, a, 2, xs, rfl, rfl, tk_seqT (kp.tk S0) hx, ne, by decide, by decide, by omega, fun p hp => by
    have s := same_upd (o := .tup (List.replicate (2 : Int).toNat xs).flatten) hp
    have e : (List.replicate (2 : Int).toNat xs).flatten = xs ++ xs := by
      show (List.replicate 2 xs).flatten = xs ++ xs
      simp [List.replicate]
    refine q _ _ (.tup n p _ (SqT.of upd_same) (fun x hx => ?_) ?_) (S.same s) (Kp.of s)
    · rw [e] at hx
      exact ((gv x ((List.mem_append.mp hx).elim id id)).kp S0 kp).kp S (Kp.of s)
    · rw [e, List.length_append]
      exact Nat.le_trans (by omega) (bnd_19 _)⟩
theorem hub_name : nameS HUB = true := by decide +kernel
theorem ret_run {D : Ends} {j m : Nat} (S : St H d g c (m + j)) (kp : Kp d g H0 H) (h : GE K d g c H0 σ j n te) (q : ∀ u H', Gv K d g H' n u → St H' d g c m → Kp d g H H' → D.rt u H') : tRet te D σ H := h m H S kp D.rt q
theorem set_run {D : Ends} {i j m : Nat} (S : St H d g c (m + j)) (kp : Kp d g H0 H) (h : GE K d g c H0 σ j n te) (q : ∀ u H', Gv K d g H' n u → St H' d g c m → Kp d g H H' → D.nx (σ.set i (some u)) H') : tAsg te (gName i) D σ H := h m H S kp _ q
theorem set_tup {D : Ends} {i j m : Nat} (S : St H d g c (m + j)) (kp : Kp d g H0 H) (h : GT K d g c H0 σ j n k te) (q : ∀ a xs H', SqT K H' a xs → xs.length ≤ k → (∀ x ∈ xs, Gv K d g H' n x) → St H' d g c m → Kp d g H H' → D.nx (σ.set i (some (.ref a))) H') : tAsg te (gName i) D σ H := h m H S kp _ q
theorem nx_id {D : Ends} (h : D.nx σ H) : tNext D σ H := h
theorem gname_id {i : Nat} {x : V} {k : L2.St → Hp → Prop} (h : k (σ.set i (some x)) H) : gName i x σ H k := h
theorem ge_run {Q : VK} {j m : Nat} (S : St H d g c (m + j)) (kp : Kp d g H0 H) (h : GE K d g c H0 σ j n te) (q : ∀ u H', Gv K d g H' n u → St H' d g c m → Kp d g H H' → Q u H') : te σ H Q := h m H S kp Q q
theorem go_add {i : Nat} {z y : Int} (h : σ[i]? = some (some (.int z))) : GO σ (tPart (tOp (rI0 fun i j => V.int (i + j)) (tVar i) (tC (.int y)))) := fun H Q q => ⟨_, h, z, y, rfl, rfl, _, rfl, q _⟩
structure PartF (K : PySem.W.Frag) (d g : Addr) (H : Hp) (r : Raw) (a : Addr) (xs : List V) (u : V) : Prop where
  sq : SqT K H a xs
  len : xs.length ≤ 4
  gv : ∀ x ∈ xs, Gv K d g H 9 x
  at0 : atI xs 0 = some (.str r.word)
  gl : Gv K d g H 9 u
  atl : atI xs (-1) = some u
  wn : nameS r.word = true
  two : r.word ≠ HUB → ∃ x y : Str, atI xs 1 = some (.str x) ∧ atI xs 2 = some (.str y) ∧ nameS x = true ∧ nameS y = true
theorem part_facts {v : V} {r : Raw} (h : RawAt K H v r) (R : Right r) (l : r.ends.length ≤ 9) (nb : Num30 r.num) : ∃ a xs u, v = .ref a ∧ PartF K d g H r a xs u := by
  cases R with
  | two kw x y num hx hy hk hn =>
    obtain ⟨a, u, rfl, hs, hu⟩ := h
    have gu : Gv K d g H 9 u := gv_num hu nb 8
    have nk : nameS kw = true := by rcases hk with ⟨e, _⟩ | ⟨e, _⟩ <;> rw [e] <;> decide +kernel
    refine ⟨a, [.str kw, .str x, .str y, u], u, rfl, hs, (show 4 ≤ 4 by decide), fun z hz => ?_, rfl, gu, rfl, nk, fun _ => ⟨x, y, rfl, rfl, hx, hy⟩⟩
    simp only [List.mem_cons, List.not_mem_nil, or_false] at hz
    rcases hz with rfl | rfl | rfl | rfl
    · exact .name nk
    · exact .name hx
    · exact .name hy
    · exact gu
  | hub ns num h1 h2 hn =>
    obtain ⟨a, b, u, rfl, hs, hb, hu⟩ := h
    have gu : Gv K d g H 9 u := gv_num hu nb 8
    have nn : ∀ x ∈ ns, nameS x = true := right_ends (.hub ns num h1 h2 hn)
    refine ⟨a, [.str HUB, .ref b, u], u, rfl, hs, (show 3 ≤ 4 by decide), fun z hz => ?_, rfl, gu, rfl, hub_name, fun e => absurd rfl e⟩
    simp only [List.mem_cons, List.not_mem_nil, or_false] at hz
    rcases hz with rfl | rfl | rfl
    · exact .name (by decide +kernel)
    · exact gv_words hb nn 8 (Nat.le_trans l (by decide))
    · exact gu
theorem PartF.kp {r : Raw} {a : Addr} {xs : List V} {u : V} {m : Nat} (S : St H d g c m) (kp : Kp d g H H') (h : PartF K d g H r a xs u) : PartF K d g H' r a xs u :=
  ⟨tk_seqT (kp.tk S) h.sq, h.len, fun x hx => (h.gv x hx).kp S kp, h.at0, h.gl.kp S kp, h.atl, h.wn, h.two⟩
theorem ends_two {r : Raw} (R : Right r) : 2 ≤ r.ends.length := by
  cases R with
  | two kw x y num hx hy hk hn => exact Nat.le_refl _
  | hub ns num h1 h2 hn => exact h2
end
section
variable {P : Program} {w : World} {K : PySem.W.Frag} {mg : Str → Option Value} {base : Heap}
def spNearPart (K : PySem.W.Frag) : Sp := fun vs H Q _ => ∃ (d g c : Addr) (n : Nat) (v : V) (r : Raw), vs = [.ref d, v] ∧ St H d g c (n + 3) ∧ RawAt K H v r ∧ Right r ∧ r.ends.length ≤ 9 ∧ Num30 r.num ∧
  ∀ u H', Gv K d g H' 10 u → St H' d g c n → Kp d g H H' → Q u H'
theorem sc_near_part : FnScope ["state", "part", "way", "ends_here", "last", "odd", "word", "spot", "bent"] ["state", "part"] (defScope sL_an_near_part) := ⟨rfl, rfl, rfl, by decide +kernel, rfl, by decide +kernel, by decide +kernel⟩
theorem ok_near_part (D : Dn K mg "_law_an_near_part" sL_an_near_part) (B0 : Ok P w K mg base L2.CX0 2 "_law_draw" ["state", "room"] spDraw) (B1 : Ok P w K mg base L2.CX0 1 "_law_an_ends" ["part"] (spEnds K)) (B2 : Ok P w K mg base L2.CX0 3 "_law_pick" ["state", "some"] (spPick K))
    (h_len : mg "len" = none) (h_list : mg "list" = none) : Ok P w K mg base L2.CX0 4 "_law_an_near_part" ["state", "part"] (spNearPart K) := by
  obtain ⟨_, _, g_draw, k_draw, b_draw, F_draw⟩ := B0.ex
  obtain ⟨_, _, g_ends, k_ends, b_ends, F_ends⟩ := B1.ex
  obtain ⟨_, _, g_pick, k_pick, b_pick, F_pick⟩ := B2.ex
  refine Ok.mk0 D sc_near_part (fun vs H Q E h => ?_) (fun _ _ _ _ _ _ us hl => match us, hl with | [_, _], _ => rfl) (fun f cdv A outer s H vs Q E hr h => ?_)
  · obtain ⟨_, _, _, _, _, _, rfl, _⟩ := h
    rfl
  obtain ⟨d, g, c, n, v, r, rfl, hS, hv, R, e9, nb, k⟩ := h
  have nd := sc_near_part.nd
  have hr3 := hr
  have hr2 := hr.mono (show 2 ≤ 3 by decide)
  have hr1 := hr.mono (show 1 ≤ 3 by decide)
  refine ⟨_, (pss_cons (ps_par3 (i := 2) (j := 3) (l := 4) (by rfl) nd rfl rfl rfl (by decide) (by decide) (by decide) rfl rfl rfl (pa_cons (pe_call F_draw hr2 rfl g_draw k_draw b_draw .nil pass0 (pa_cons (pv 0) (pa_cons pe_int pa_nil))) (pa_cons (pe_call F_ends hr1 rfl g_ends k_ends b_ends .nil pass0 (pa_cons (pv 1) pa_nil)) (pa_cons (pe_ix ix_tup (pv 1) (pe_un un_neg pe_int) (fun _ _ => rfl)) pa_nil))) (by rfl))
  (pss_cons (ps_if (pt_cmpR op_eq (pv 2) pe_int (nomark _))
    (pss_one (ps_ret (pe_op op_catA (pe_slice sl_tupA (pv 1) po_none (po_some (pe_un un_neg pe_int))) (pe_tup (pa_cons (pe_call F_pick hr3 rfl g_pick k_pick b_pick .nil pass0 (pa_cons (pv 0) (pa_cons (pe_lst (pa_cons (pe_un un_neg pe_int) (pa_cons pe_int (pa_cons (pe_tup (pa_cons pe_int (pa_cons pe_int pa_nil))) (pa_cons (pe_tup (pa_cons pe_int (pa_cons pe_int pa_nil))) (pa_cons (pe_tup (pa_cons (pe_un un_neg pe_int) (pa_cons pe_int pa_nil))) (pa_cons pe_bl (pa_cons pe_non (pa_cons pe_str (pa_cons (pe_tup (pa_cons pe_int (pa_cons pe_int pa_nil))) (pa_cons (pe_op op_pow pe_int pe_int) pa_nil))))))))))) pa_nil))) pa_nil)))))
    pss_nil)
  (pss_cons (ps_if (pt_cmpR op_eq (pv 2) pe_int (nomark _))
    (pss_one (ps_ret (pe_op op_catA (pe_tup (pa_cons (pe_call F_pick hr3 rfl g_pick k_pick b_pick .nil pass0 (pa_cons (pv 0) (pa_cons (pe_lst (pa_cons pe_str (pa_cons pe_str (pa_cons pe_str (pa_cons pe_str (pa_cons pe_non (pa_cons (pe_lst (pa_cons pe_str pa_nil)) pa_nil))))))) pa_nil))) pa_nil)) (pe_slice sl_tupA (pv 1) (po_some pe_int) po_none))))
    pss_nil)
  (pss_cons (ps_if (pt_cmpR op_eq (pv 2) pe_int (nomark _))
    (pss_one (ps_ret (pe_call F_pick hr3 rfl g_pick k_pick b_pick .nil pass0 (pa_cons (pv 0) (pa_cons (pe_lst (pa_cons (pe_callTy call_list_of (by rfl) h_list (by decide +kernel) (pa_cons (pv 1) pa_nil)) (pa_cons (pe_slice sl_tupA (pv 1) po_none (po_some (pe_un un_neg pe_int))) (pa_cons (pe_op op_catA (pv 1) (pe_tup (pa_cons pe_int pa_nil))) (pa_cons (pe_tup pa_nil) (pa_cons pe_non (pa_cons (pe_slice sl_tupA (pv 1) (po_some pe_int) po_none) (pa_cons pe_int pa_nil)))))))) pa_nil)))))
    pss_nil)
  (pss_cons (ps_if (PW.pt (pw_and (pt_cmpR op_eq (pv 2) pe_int (nomark _)) (pw_and1 (pt_cmpR op_eq (pe_ix ix_tup (pv 1) pe_int (fun _ _ => rfl)) pe_str (nomark _)))))
    (pss_cons (ps_set (i := 5) nd rfl (Or.inl rfl) (pe_call F_pick hr3 rfl g_pick k_pick b_pick .nil pass0 (pa_cons (pv 0) (pa_cons (pe_lst (pa_cons (pe_callTy call_list_of (by rfl) h_list (by decide +kernel) (pa_cons (pv 3) pa_nil)) (pa_cons (pe_revT (pv 3)) (pa_cons (pe_slice sl_tupA (pv 3) po_none (po_some pe_int)) (pa_cons (pe_op op_repT (pv 3) pe_int) (pa_cons (pe_tup pa_nil) (pa_cons pe_str (pa_cons (pe_slice sl_tupA (pv 3) po_none (po_some pe_int)) pa_nil)))))))) pa_nil))))
  (pss_one (ps_ret (pe_tup (pa_cons (pe_ix ix_tup (pv 1) pe_int (fun _ _ => rfl)) (pa_cons (pv 5) (pa_cons (pv 4) pa_nil)))))))
    pss_nil)
  (pss_cons (ps_if (pt_cmpR op_eq (pv 2) pe_int (nomark _))
    (pss_one (ps_ret (pe_tup (pa_cons (pe_ix ix_tup (pv 1) pe_int (fun _ _ => rfl)) (pa_cons (pe_ix ix_tup (pv 1) pe_int (fun _ _ => rfl)) (pa_cons (pe_ix ix_tup (pv 1) pe_int (fun _ _ => rfl)) (pa_cons (pv 4) pa_nil)))))))
    pss_nil)
  (pss_cons (ps_set (i := 6) nd rfl (Or.inl rfl) (pe_call F_pick hr3 rfl g_pick k_pick b_pick .nil pass0 (pa_cons (pv 0) (pa_cons (pe_lst (pa_cons pe_str (pa_cons pe_str (pa_cons pe_str (pa_cons pe_str (pa_cons pe_str (pa_cons pe_str (pa_cons pe_int (pa_cons pe_non (pa_cons pe_str (pa_cons (pe_ix ix_tup (pv 3) pe_int (fun _ _ => rfl)) (pa_cons (pe_tup (pa_cons pe_str pa_nil)) (pa_cons pe_str pa_nil))))))))))))) pa_nil))))
  (pss_cons (ps_set (i := 7) nd rfl (Or.inl rfl) (pe_call F_draw hr2 rfl g_draw k_draw b_draw .nil pass0 (pa_cons (pv 0) (pa_cons (pe_lenS rfl h_len (pv 3)) pa_nil))))
  (pss_cons (ps_set (i := 8) nd rfl (Or.inl rfl) (pe_op op_catA (pe_op op_catA (pe_slice sl_tupA (pv 3) po_none (po_some (pv 7))) (pe_tup (pa_cons (pv 6) pa_nil))) (pe_slice sl_tupA (pv 3) (po_some (pe_op op_add (pv 7) pe_int)) po_none)))
  (pss_one (ps_ret (pe_ifExp (pt_cmpR op_eq (pe_ix ix_tup (pv 1) pe_int (fun _ _ => rfl)) pe_str (nomark _)) (pe_tup (pa_cons (pe_ix ix_tup (pv 1) pe_int (fun _ _ => rfl)) (pa_cons (pv 8) (pa_cons (pv 4) pa_nil)))) (pe_op op_catA (pe_op op_catA (pe_tup (pa_cons (pe_ix ix_tup (pv 1) pe_int (fun _ _ => rfl)) pa_nil)) (pv 8)) (pe_tup (pa_cons (pv 4) pa_nil))))))))))))))), ?_⟩
  refine ⟨_, rfl, d, g, c, n + 2, 8, rfl, hS, by decide, by decide +kernel, fun z H1 z0 z8 S1 kp1 => ⟨_, rfl, v, r, rfl, hv.keep (kp1.tk hS), R, fun pe H2 s2 he => ?_⟩⟩
  have kp2 := kp1.trans (Kp.of s2)
  have S2 := S1.same s2
  obtain ⟨a, xs, u, rfl, F⟩ := part_facts (d := d) (g := g) (hv.keep (kp2.tk hS)) R e9 nb
  have en := right_ends R
  have el : (r.ends.map V.str).length ≤ 9 := by rw [List.length_map]; exact e9
  have ge9 : ∀ x ∈ r.ends.map V.str, Gv K d g H2 8 x := fun x hx => by
    obtain ⟨y, hy, rfl⟩ := List.mem_map.mp hx
    exact .name (en y hy)
  refine ⟨_, rfl, _, rfl, a, xs, -1, u, rfl, rfl, F.sq, F.atl, _, _, _, rfl, ?_⟩
  have kf : ∀ u H', Gv K d g H' 10 u → St H' d g c n → Kp d g H2 H' → Q u H' := fun u H' gv S' k' => k u H' gv S' (kp2.trans k')
  clear k kp1 s2 S1 hv hS
  have ene : r.ends.map V.str ≠ [] := fun e => by
    have z := ends_two R
    rw [List.map_eq_nil_iff] at e
    rw [e] at z
    exact absurd z (by decide)
  have kr : Kp d g H2 H2 := fun _ _ e _ _ => e
  refine ⟨_, rfl, rfl, _, rfl, ?_⟩
  rw [deq_int]
  by_cases w0 : z = 0
  · rw [decide_eq_true w0]
    refine iteT ?_
    refine ret_run (K := K) (H0 := H2) (j := 2) (n := 10) S2 kr ?_ kf
    exact GE.more (GT.ge (gt_cat (gt_cut (gt_var (i := 1) S2 rfl F.sq F.len F.gv) go_no go_neg) (gt_tup (ga_cons (ge_pick rfl (ga_cons (ge_n (by decide)) (ga_cons (ge_i (by decide)) (ga_cons (ge_tup (ga_cons (ge_i (by decide)) (ga_cons (ge_i (by decide)) ga_nil)) (by decide)) (ga_cons (ge_tup (ga_cons (ge_i (by decide)) (ga_cons (ge_i (by decide)) ga_nil)) (by decide)) (ga_cons (ge_tup (ga_cons (ge_n (by decide)) (ga_cons (ge_i (by decide)) ga_nil)) (by decide)) (ga_cons ge_bl (ga_cons ge_non (ga_cons (ge_s (by decide +kernel)) (ga_cons (ge_tup (ga_cons (ge_i (by decide)) (ga_cons (ge_i (by decide)) ga_nil)) (by decide)) (ga_cons ge_pow ga_nil)))))))))) (by decide) (by decide)) ga_nil) (by decide)) (by decide)) (by decide)) (by decide)
  rw [decide_eq_false w0]
  refine iteF ⟨_, rfl, rfl, _, rfl, ?_⟩
  rw [deq_int]
  by_cases w1 : z = 1
  · rw [decide_eq_true w1]
    refine iteT ?_
    refine ret_run (K := K) (H0 := H2) (j := 2) (n := 10) S2 kr ?_ kf
    exact GE.more (GT.ge (gt_cat (gt_tup (ga_cons (ge_pick rfl (ga_cons (ge_s (by decide +kernel)) (ga_cons (ge_s (by decide +kernel)) (ga_cons (ge_s (by decide +kernel)) (ga_cons (ge_s (by decide +kernel)) (ga_cons ge_non (ga_cons (ge_lst (ga_cons (ge_s (by decide +kernel)) ga_nil) (by decide)) ga_nil)))))) (by decide) (by decide)) ga_nil) (by decide)) (gt_cut (gt_var (i := 1) S2 rfl F.sq F.len F.gv) go_c go_no) (by decide)) (by decide)) (by decide)
  rw [decide_eq_false w1]
  refine iteF ⟨_, rfl, rfl, _, rfl, ?_⟩
  rw [deq_int]
  by_cases w2 : z = 2
  · rw [decide_eq_true w2]
    refine iteT ?_
    refine ret_run (K := K) (H0 := H2) (j := 2) (n := 10) S2 kr ?_ kf
    exact GE.more (ge_pick rfl (ga_cons (ge_listof (gt_var (i := 1) S2 rfl F.sq F.len F.gv) (by decide)) (ga_cons (GT.ge (gt_cut (gt_var (i := 1) S2 rfl F.sq F.len F.gv) go_no go_neg) (by decide)) (ga_cons (GT.ge (gt_cat (gt_var (i := 1) S2 rfl F.sq F.len F.gv) (gt_tup (ga_cons (ge_i (by decide)) ga_nil) (by decide)) (by decide)) (by decide)) (ga_cons (ge_tup ga_nil (by decide)) (ga_cons ge_non (ga_cons (GT.ge (gt_cut (gt_var (i := 1) S2 rfl F.sq F.len F.gv) go_c go_no) (by decide)) (ga_cons (ge_i (by decide)) ga_nil))))))) (by decide) (by decide)) (by decide)
  rw [decide_eq_false w2]
  refine iteF ⟨_, rfl, rfl, _, rfl, ?_⟩
  rw [deq_int]
  by_cases w3 : z = 3
  · rw [decide_eq_true w3]
    refine iteT ⟨_, rfl, a, _, 0, _, rfl, rfl, F.sq, F.at0, rfl, _, rfl, ?_⟩
    by_cases wh : r.word = HUB
    · rw [decide_eq_true (congrArg V.str wh)]
      refine iteT ?_
      refine set_run (K := K) (H0 := H2) (j := 1) (n := 9) (m := n + 1) S2 kr ?_ ?_
      · exact (ge_pick rfl (ga_cons (ge_listof (gt_var (i := 3) S2 rfl he el ge9) (by decide)) (ga_cons (GT.ge (gt_rev (gt_var (i := 3) S2 rfl he el ge9)) (by decide)) (ga_cons (GT.ge (gt_cut (gt_var (i := 3) S2 rfl he el ge9) go_no go_c) (by decide)) (ga_cons (ge_rep (i := 3) S2 rfl he ene el ge9) (ga_cons (ge_tup ga_nil (by decide)) (ga_cons (ge_s (by decide +kernel)) (ga_cons (GT.ge (gt_cut (gt_var (i := 3) S2 rfl he el ge9) go_no go_c) (by decide)) ga_nil))))))) (by decide) (by decide))
      intro odd H3 gu S3 k3
      have F3 := F.kp S2 k3
      dsimp only
      refine ret_run (K := K) (H0 := H3) (j := 0) (n := 10) (m := n) (S3.less (by omega)) (fun _ _ e _ _ => e) ?_ ?_
      · exact (ge_tup (ga_cons (ge_ix (i := 1) S3 rfl F3.sq (fun _ _ q => q) F3.at0 (Gv.name F3.wn)) (ga_cons (ge_var (i := 5) S3 rfl gu) (ga_cons (ge_var (i := 4) S3 rfl F3.gl) ga_nil))) (by decide))
      · exact fun u H' gv S' k' => kf u H' gv S' (k3.trans k')
    · rw [decide_eq_false fun q => wh (V.str.inj q)]
      refine iteF ⟨_, rfl, rfl, _, rfl, ?_⟩
      rw [deq_int, decide_eq_true w3]
      refine iteT ?_
      obtain ⟨x, y, at1, at2, nx, ny⟩ := F.two wh
      refine ret_run (K := K) (H0 := H2) (j := 0) (n := 10) (m := n) (S2.less (by omega)) kr ?_ kf
      exact (ge_tup (ga_cons (ge_ix (i := 1) S2 rfl F.sq (fun _ _ q => q) F.at0 (Gv.name F.wn)) (ga_cons (ge_ix (i := 1) S2 rfl F.sq (fun _ _ q => q) at2 (Gv.name ny)) (ga_cons (ge_ix (i := 1) S2 rfl F.sq (fun _ _ q => q) at1 (Gv.name nx)) (ga_cons (ge_var (i := 4) S2 rfl F.gl) ga_nil)))) (by decide))
  rw [decide_eq_false w3]
  refine iteF ⟨_, rfl, rfl, _, rfl, ?_⟩
  rw [deq_int, decide_eq_false w3]
  refine iteF ?_
  obtain ⟨e0, erest, ee⟩ : ∃ e0 erest, r.ends = e0 :: erest := by
    cases q : r.ends with
    | nil => exact absurd (by rw [q]; rfl) ene
    | cons e0 er => exact ⟨e0, er, rfl⟩
  have eat0 : atI (r.ends.map V.str) 0 = some (.str e0) := by rw [ee]; exact atI_nat (j := 0) rfl
  have e0n : nameS e0 = true := en e0 (by rw [ee]; exact List.mem_cons_self)
  unfold tNext
  dsimp only
  refine set_run (K := K) (H0 := H2) (j := 1) (n := 8) (m := n + 1) S2 kr ?_ ?_
  · exact (ge_pick rfl (ga_cons (ge_s (by decide +kernel)) (ga_cons (ge_s (by decide +kernel)) (ga_cons (ge_s (by decide +kernel)) (ga_cons (ge_s (by decide +kernel)) (ga_cons (ge_s (by decide +kernel)) (ga_cons (ge_s (by decide +kernel)) (ga_cons (ge_i (by decide)) (ga_cons ge_non (ga_cons (ge_s (by decide +kernel)) (ga_cons (ge_ix (i := 3) S2 rfl he (fun _ _ q => q) eat0 (Gv.name e0n)) (ga_cons (ge_tup (ga_cons (ge_s (by decide +kernel)) ga_nil) (by decide)) (ga_cons (ge_s (by decide +kernel)) ga_nil)))))))))))) (by decide) (by decide))
  intro word H3 gw S3 k3
  have he3 := tk_seqT (k3.tk S2) he
  have el0 : 0 < r.ends.length := by rw [ee]; exact Nat.succ_pos _
  refine ⟨_, rfl, _, rfl, pe, _, rfl, .inr he3, d, g, c, n, _, rfl, S3, by rw [List.length_map]; omega, small9000 (by omega), fun sp H4 sp0 sp1 S4 k4 => ?_⟩
  have k34 := k3.trans k4
  have he4 := tk_seqT (k34.tk S2) he
  have ge94 : ∀ x ∈ r.ends.map V.str, Gv K d g H4 8 x := fun x hx => (ge9 x hx).kp S2 k34
  have gu4 := gw.kp S3 k4
  have F4 := F.kp S2 k34
  refine gname_id ?_
  dsimp only
  refine set_tup (K := K) (H0 := H4) (j := 0) (n := 8) (k := r.ends.length + 1 + r.ends.length) (m := n) S4 (fun _ _ e _ _ => e) ?_ ?_
  · exact (gt_cat (gt_cat (gt_cut (gt_var (i := 3) S4 rfl he4 (Nat.le_of_eq (List.length_map ..)) ge94) go_no (go_var rfl)) (gt_tup (ga_cons (ge_var (i := 6) S4 rfl gu4) ga_nil) (by decide)) (by omega)) (gt_cut (gt_var (i := 3) S4 rfl he4 (Nat.le_of_eq (List.length_map ..)) ge94) (go_add rfl) go_no) (by omega))
  intro b ys H5 hb lb gb S5 k5
  have F5 := F4.kp S4 k5
  have kf5 : ∀ u H', Gv K d g H' 10 u → St H' d g c n → Kp d g H5 H' → Q u H' := fun u H' gv S' k' => kf u H' gv S' ((k34.trans k5).trans k')
  refine ⟨_, rfl, a, _, 0, _, rfl, rfl, F5.sq, F5.at0, rfl, _, rfl, ?_⟩
  by_cases wh : r.word = HUB
  · rw [decide_eq_true (congrArg V.str wh)]
    refine iteT ?_
    refine ge_run (K := K) (H0 := H5) (j := 0) (n := 10) (m := n) S5 (fun _ _ e _ _ => e) ?_ kf5
    exact (ge_tup (ga_cons (ge_ix (i := 1) S5 rfl F5.sq (fun _ _ q => q) F5.at0 (Gv.name F5.wn)) (ga_cons (ge_var (i := 8) S5 rfl (.tup 8 b ys hb gb (Nat.le_trans lb (show _ ≤ 19 by omega)))) (ga_cons (ge_var (i := 4) S5 rfl F5.gl) ga_nil))) (by decide))
  · rw [decide_eq_false fun q => wh (V.str.inj q)]
    have e2 : r.ends.length = 2 := by
      cases R with
      | two kw x y num hx hy hk hn => rfl
      | hub ns num h1 h2 hn => exact absurd rfl wh
    refine iteF ?_
    refine ge_run (K := K) (H0 := H5) (j := 0) (n := 10) (m := n) S5 (fun _ _ e _ _ => e) ?_ kf5
    exact (GT.ge (gt_cat (gt_cat (gt_tup (ga_cons (ge_ix (i := 1) S5 rfl F5.sq (fun _ _ q => q) F5.at0 (Gv.name F5.wn)) ga_nil) (by decide)) (gt_var (i := 8) S5 rfl hb lb (fun x hx => (gb x hx).up (by decide))) (by omega)) (gt_tup (ga_cons (ge_var (i := 4) S5 rfl F5.gl) ga_nil) (by decide)) (by omega)) (show _ ≤ 19 by omega))
end
end K05
set_option maxHeartbeats 2000000
set_option exponentiation.threshold 10000
namespace K05
open PySem PySem.Spec PyProof.Rows L2 Hx RZ
/-! ### what is near the taps -/
section
variable {K : PySem.W.Frag} {d g c : Addr} {H H' H0 : Hp} {σ : L2.St} {n k : Nat} {te : TE} {ta : TA}
/-- a list that stays what it is -/
structure ListG (K : PySem.W.Frag) (d g : Addr) (H : Hp) (n : Nat) (L : Addr) (xs : List V) : Prop where
  at0 : H L = some (.lst xs)
  nd : L ≠ d
  ng : L ≠ g
  gv : ∀ x ∈ xs, Gv K d g H n x
theorem ListG.kp {m : Nat} {L : Addr} {xs : List V} (S : St H d g c m) (kp : Kp d g H H') (h : ListG K d g H n L xs) : ListG K d g H' n L xs := ⟨kp _ _ h.at0 h.nd h.ng, h.nd, h.ng, fun x hx => (h.gv x hx).kp S kp⟩
theorem set_lst {D : Ends} {i j m : Nat} (S : St H d g c (m + j)) (kp : Kp d g H0 H) (h : GA K d g c H0 σ j n k ta) (l : k ≤ 100000) (q : ∀ L xs H', ListG K d g H' n L xs → xs.length = k → St H' d g c m → Kp d g H H' → D.nx (σ.set i (some (.ref L))) H') : tAsg (tLst ta) (gName i) D σ H :=
  h m H S kp _ fun us H1 e g1 S1 k1 => ⟨by rw [e, sizeLine_eq]; omega, fun p hp => by
    have s := same_upd (o := .lst us) hp
    have off := S1.off hp
    exact q p us _ ⟨upd_same, off.2, off.1, fun x hx => (g1 x hx).kp S1 (Kp.of s)⟩ e (S1.same s) (k1.trans (Kp.of s))⟩
/-- some + [..] -/
theorem set_cat {D : Ends} {i i2 j m m0 : Nat} {L : Addr} {xs : List V} (S0 : St H0 d g c m0) (S : St H d g c (m + j)) (kp : Kp d g H0 H) (hi : σ[i2]? = some (some (.ref L))) (hL : ListG K d g H0 n L xs) (h : GA K d g c H0 σ j n k ta) (l : k + xs.length ≤ 100000) (q : ∀ L2 ys H', ListG K d g H' n L2 ys → ys.length = xs.length + k → St H' d g c m → Kp d g H H' → D.nx (σ.set i (some (.ref L2))) H') : tAsg (tOp rCat (tVar i2) (tLst ta)) (gName i) D σ H :=
  ⟨_, hi, h m H S kp _ fun us H1 e g1 S1 k1 => ⟨by rw [e, sizeLine_eq]; omega, fun p hp => by
    have s := same_upd (o := .lst us) hp
    have S2 := S1.same s
    have k2 := k1.trans (Kp.of s)
    have L2 := (hL.kp S0 kp).kp S k2
    refine ⟨L, p, xs, us, rfl, rfl, L2.at0, upd_same, by rw [e, sizeLine_eq]; omega, fun r hr => ?_⟩
    have s3 := same_upd (o := .lst (xs ++ us)) hr
    have off := S2.off hr
    refine q r (xs ++ us) _ ⟨upd_same, off.2, off.1, fun x hx => ?_⟩ (by rw [List.length_append, e]) (S2.same s3) (k2.trans (Kp.of s3))
    rcases List.mem_append.mp hx with e1 | e1
    · exact (L2.gv x e1).kp S2 (Kp.of s3)
    · exact ((g1 x e1).kp S1 (Kp.of s)).kp S2 (Kp.of s3)⟩⟩
/-- _law_pick(state, some) -/
theorem pick_run {Q : VK} {E : XK} {i m : Nat} {L : Addr} {xs : List V} (S : St H d g c (m + 1)) (h0 : σ[0]? = some (some (.ref d))) (hi : σ[i]? = some (some (.ref L))) (hL : ListG K d g H n L xs) (p0 : 0 < xs.length) (l : xs.length ≤ 100000) (q : ∀ u H', Gv K d g H' n u → St H' d g c m → Kp d g H H' → Q u H') : tCall (spPick K) [] E (tCons (tVar 0) (tCons (tVar i) tNil)) σ H Q :=
  ⟨_, h0, _, hi, d, g, c, L, m, xs, rfl, S, SqL.of hL.at0, hL.ng, p0, l, fun i x H2 hx S2 k2 => q x H2 ((hL.gv x (List.mem_of_getElem? hx)).kp S k2) S2 k2⟩
end
section
variable {P : Program} {w : World} {K : PySem.W.Frag} {mg : Str → Option Value} {base : Heap}
def spNearTaps (K : PySem.W.Frag) : Sp := fun vs H Q _ => ∃ (d g c t : Addr) (n : Nat) (taps : List Str), vs = [.ref d, .ref t] ∧ St H d g c (n + 3) ∧ SqT K H t (taps.map V.str) ∧ (∀ x ∈ taps, nameS x = true) ∧ 1 ≤ taps.length ∧ taps.length ≤ 6 ∧
  ∀ u H', Gv K d g H' 11 u → St H' d g c n → Kp d g H H' → Q u H'
theorem sc_near_taps : FnScope ["state", "taps_here", "odd", "spot", "some"] ["state", "taps_here"] (defScope sL_an_near_taps) := ⟨rfl, rfl, rfl, by decide +kernel, rfl, by decide +kernel, by decide +kernel⟩
theorem ok_near_taps (D : Dn K mg "_law_an_near_taps" sL_an_near_taps) (B0 : Ok P w K mg base L2.CX0 2 "_law_draw" ["state", "room"] spDraw) (B1 : Ok P w K mg base L2.CX0 3 "_law_pick" ["state", "some"] (spPick K))
    (h_len : mg "len" = none) (h_list : mg "list" = none) : Ok P w K mg base L2.CX0 4 "_law_an_near_taps" ["state", "taps_here"] (spNearTaps K) := by
  obtain ⟨_, _, g_draw, k_draw, b_draw, F_draw⟩ := B0.ex
  obtain ⟨_, _, g_pick, k_pick, b_pick, F_pick⟩ := B1.ex
  refine Ok.mk0 D sc_near_taps (fun vs H Q E h => ?_) (fun _ _ _ _ _ _ us hl => match us, hl with | [_, _], _ => rfl) (fun f cdv A outer s H vs Q E hr h => ?_)
  · obtain ⟨_, _, _, _, _, _, rfl, _⟩ := h
    rfl
  obtain ⟨d, g, c, t, n, taps, rfl, hS, ht, tn, t1, t6, k⟩ := h
  have nd := sc_near_taps.nd
  have hr3 := hr
  have hr2 := hr.mono (show 2 ≤ 3 by decide)
  refine ⟨_, (pss_cons (ps_set (i := 2) nd rfl (Or.inl rfl) (pe_call F_pick hr3 rfl g_pick k_pick b_pick .nil pass0 (pa_cons (pv 0) (pa_cons (pe_lst (pa_cons pe_str (pa_cons pe_str (pa_cons pe_str (pa_cons pe_str (pa_cons pe_int (pa_cons pe_non (pa_cons (pe_ix ix_tup (pv 1) pe_int (fun _ _ => rfl)) (pa_cons pe_str (pa_cons pe_str pa_nil)))))))))) pa_nil))))
  (pss_cons (ps_set (i := 3) nd rfl (Or.inl rfl) (pe_call F_draw hr2 rfl g_draw k_draw b_draw .nil pass0 (pa_cons (pv 0) (pa_cons (pe_lenS rfl h_len (pv 1)) pa_nil))))
  (pss_cons (ps_set (i := 4) nd rfl (Or.inl rfl) (pe_lst (pa_cons (pe_callTy call_list_of (by rfl) h_list (by decide +kernel) (pa_cons (pv 1) pa_nil)) (pa_cons (pe_revT (pv 1)) (pa_cons (pe_slice sl_tupA (pv 1) po_none (po_some pe_int)) (pa_cons (pe_op op_catA (pv 1) (pe_tup (pa_cons pe_str pa_nil))) (pa_cons (pe_op op_catA (pe_tup (pa_cons pe_str pa_nil)) (pv 1)) pa_nil)))))))
  (pss_cons (ps_set (i := 4) nd rfl (Or.inl rfl) (pe_op op_cat (pv 4) (pe_lst (pa_cons (pe_op op_catA (pe_op op_catA (pe_slice sl_tupA (pv 1) po_none (po_some (pv 3))) (pe_tup (pa_cons (pv 2) pa_nil))) (pe_slice sl_tupA (pv 1) (po_some (pe_op op_add (pv 3) pe_int)) po_none)) (pa_cons (pe_op op_catA (pv 1) (pe_slice sl_tupA (pv 1) (po_some (pe_un un_neg pe_int)) po_none)) (pa_cons pe_str (pa_cons pe_non pa_nil)))))))
  (pss_one (ps_ret (pe_call F_pick hr3 rfl g_pick k_pick b_pick .nil pass0 (pa_cons (pv 0) (pa_cons (pv 4) pa_nil))))))))), ?_⟩
  have tl : (taps.map V.str).length ≤ 6 := by rw [List.length_map]; exact t6
  have gtn : ∀ {H : Hp} {m : Nat}, ∀ x ∈ taps.map V.str, Gv K d g H m x := fun x hx => by
    obtain ⟨y, hy, rfl⟩ := List.mem_map.mp hx
    exact .name (tn y hy)
  obtain ⟨t0, tr, te⟩ : ∃ t0 tr, taps = t0 :: tr := by
    cases taps with
    | nil => exact absurd t1 (by decide)
    | cons t0 tr => exact ⟨t0, tr, rfl⟩
  have at0 : atI (taps.map V.str) 0 = some (.str t0) := by rw [te]; exact atI_nat (j := 0) rfl
  have n0 : nameS t0 = true := tn t0 (by rw [te]; exact List.mem_cons_self)
  have kr : ∀ {H : Hp}, Kp d g H H := fun _ _ e _ _ => e
  refine set_run (K := K) (H0 := H) (j := 1) (n := 10) (m := n + 2) hS kr ?_ ?_
  · exact (ge_pick rfl (ga_cons (ge_s (by decide +kernel)) (ga_cons (ge_s (by decide +kernel)) (ga_cons (ge_s (by decide +kernel)) (ga_cons (ge_s (by decide +kernel)) (ga_cons (ge_i (by decide)) (ga_cons ge_non (ga_cons (ge_ix (i := 1) hS rfl ht (fun _ _ q => q) at0 (Gv.name n0)) (ga_cons (ge_s (by decide +kernel)) (ga_cons (ge_s (by decide +kernel)) ga_nil))))))))) (by decide) (by decide))
  intro odd H3 go S3 k3
  have ht3 := tk_seqT (k3.tk hS) ht
  refine ⟨_, rfl, _, rfl, t, _, rfl, .inr ht3, d, g, c, n + 1, _, rfl, S3, by rw [List.length_map]; omega, small9000 (by omega), fun sp H4 sp0 sp1 S4 k4 => ?_⟩
  have ht4 := tk_seqT (k4.tk S3) ht3
  have gt4 : ∀ x ∈ taps.map V.str, Gv K d g H4 10 x := gtn
  have go4 := go.kp S3 k4
  refine gname_id ?_
  dsimp only
  refine set_lst (K := K) (H0 := H4) (j := 0) (n := 11) (k := 5) (m := n + 1) S4 kr ?_ (by decide) ?_
  · exact (ga_cons (ge_listof (gt_var (i := 1) S4 rfl ht4 tl gt4) (show _ ≤ 1000 by decide)) (ga_cons (GT.ge (gt_rev (gt_var (i := 1) S4 rfl ht4 tl gt4)) (show _ ≤ 1000 by decide)) (ga_cons (GT.ge (gt_cut (gt_var (i := 1) S4 rfl ht4 tl gt4) go_no go_c) (show _ ≤ 1000 by decide)) (ga_cons (GT.ge (gt_cat (gt_var (i := 1) S4 rfl ht4 tl gt4) (gt_tup (ga_cons (ge_s (by decide +kernel)) ga_nil) (by decide)) (by decide)) (show _ ≤ 1000 by decide)) (ga_cons (GT.ge (gt_cat (gt_tup (ga_cons (ge_s (by decide +kernel)) ga_nil) (by decide)) (gt_var (i := 1) S4 rfl ht4 tl gt4) (by decide)) (show _ ≤ 1000 by decide)) ga_nil)))))
  intro L xs H5 hL xl S5 k5
  have ht5 := tk_seqT (k5.tk S4) ht4
  have gt5 : ∀ x ∈ taps.map V.str, Gv K d g H5 10 x := gtn
  have go5 := go4.kp S4 k5
  dsimp only
  refine set_cat (K := K) (H0 := H5) (j := 0) (n := 11) (k := 4) (m := n + 1) S5 S5 kr rfl hL ?_ (by omega) ?_
  · exact (ga_cons (GT.ge (gt_cat (gt_cat (gt_cut (gt_var (i := 1) S5 rfl ht5 tl gt5) go_no (go_var rfl)) (gt_tup (ga_cons (ge_var (i := 2) S5 rfl go5) ga_nil) (by decide)) (by decide)) (gt_cut (gt_var (i := 1) S5 rfl ht5 tl gt5) (go_add rfl) go_no) (by decide)) (show _ ≤ 1000 by decide)) (ga_cons (GT.ge (gt_cat (gt_var (i := 1) S5 rfl ht5 tl gt5) (gt_cut (gt_var (i := 1) S5 rfl ht5 tl gt5) go_neg go_no) (by decide)) (show _ ≤ 1000 by decide)) (ga_cons (ge_s (by decide +kernel)) (ga_cons ge_non ga_nil))))
  intro L2 ys H6 hL2 yl S6 k6
  dsimp only
  refine pick_run (K := K) (n := 11) (m := n) S6 rfl rfl hL2 (by omega) (by omega) fun u H' gu S' k' => k u H' gu S' ((k3.trans k4).trans ((k5.trans k6).trans k'))
end
end K05
set_option maxHeartbeats 1000000
/-! ### min(x, y), max(x, y) of two texts -/
namespace Hx
open PySem PySem.Spec PyProof.Rows L2
theorem cmp_lt_str {prog : Program} {w : World} {A : Around} {a b : Str} {t u : Tok} : CmpOf prog w A .Lt (fun i v => (#[Value.str a t, Value.str b u] : Array Value)[i]? = some v) (fun i j => decide (((#[a, b] : Array Str).getD i "").cps.toList < ((#[a, b] : Array Str).getD j "").cps.toList)) := fun i j vi vj s Q E hi hj h => by
  have key : ∀ {i : Nat} {v : Value}, (#[Value.str a t, Value.str b u] : Array Value)[i]? = some v → ∃ k, v = .str ((#[a, b] : Array Str).getD i "") k := fun {i v} h => by
    match i, h with
    | 0, h => cases h; exact ⟨t, rfl⟩
    | 1, h => cases h; exact ⟨u, rfl⟩
    | i + 2, h => simp at h
  obtain ⟨k1, rfl⟩ := key hi
  obtain ⟨k2, rfl⟩ := key hj
  exact richCompare_gives (op := .Lt) (typeIs_str s _ k1) (typeIs_str s _ k2) F.slot_str_lt F.entry_str_lt (F.args_str_lt_2 _ _) (gives_str_lt _ _ k1 k2) (fun e => nomatch e) h
theorem min_two_strs {prog : Program} {w : World} {A : Around} {E : Value → Shared → Prop} {s : Shared} {Q : Value → Shared → Prop} {a b : Str} {t u : Tok} (hh : A.handled = none)
    (h : ∀ h' tk, (∀ c o, s.heap.get? c = some o → h'.get? c = some o) → Q (if lessS b a = true then .str b u else .str a t) { s with heap := h', toks := tk }) :
    wpAny (model prog w) A (call (.builtin "min") [.str a t, .str b u]) Q E s := by
  have hT : (s.heap.push { cls := .type "tuple", data := .seq #[.str a t, .str b u] }).IsTuple s.heap.objs.size #[.str a t, .str b u] := ⟨_, Heap.get?_push_size _ rfl, rfl, 0, rfl⟩
  refine call_min_two (wpAny_pyIter_tuple hT ?_)
  have hsz : (s.heap.push { cls := .type "tuple", data := .seq #[.str a t, .str b u] }).objs.size = s.heap.objs.size + 1 := Heap.size_push ..
  refine ⟨_, [_, s.heap.objs.size], [_], _, _, _, _, rfl, Walks.tuple (A := A.in1) hh _ s.heap.objs.size (by rw [hsz]; exact Nat.ne_of_lt (Nat.lt_succ_self _)) #[.str a t, .str b u],
    ⟨⟨_, Heap.get?_push_size _ rfl, rfl, rfl⟩, hT.push _⟩, fun c hc => ?_, by simp, cmp_lt_str, fun v h' tk hP hk => ?_⟩
  · show c < ((s.heap.push _).push _).objs.size
    rw [Heap.size_push, hsz]
    rcases List.mem_cons.mp hc with rfl | hc
    · rw [hsz]; exact Nat.lt_succ_self _
    · rcases List.mem_cons.mp hc with rfl | hc
      · exact Nat.lt_succ_of_lt (Nat.lt_succ_self _)
      · cases hc
  · have hold : ∀ c o, s.heap.get? c = some o → h'.get? c = some o := fun c o e => by
      refine hk c o (fun hm => ?_) (Heap.get?_push_of_some _ (Heap.get?_push_of_some _ e))
      rcases List.mem_cons.mp hm with e1 | hm
      · have := Heap.lt_size e; rw [e1, hsz] at this; exact Nat.lt_irrefl _ (Nat.lt_of_succ_lt this)
      · cases hm
    have q := h h' tk hold
    have hv : v = if lessS b a = true then Value.str b u else Value.str a t := by
      have hP2 : (#[Value.str a t, Value.str b u] : Array Value)[if decide (b.cps.toList < a.cps.toList) = true then 1 else 0]? = some v := hP
      have e : decide (b.cps.toList < a.cps.toList) = lessS b a := rfl
      rw [e] at hP2
      cases hc : lessS b a with
      | true =>
        rw [hc, if_pos rfl] at hP2
        rw [if_pos rfl]
        exact (Option.some.inj hP2).symm
      | false =>
        rw [hc, if_neg (by decide)] at hP2
        rw [if_neg (by decide)]
        exact (Option.some.inj hP2).symm
    rw [hv]; exact q
section
variable {X : Cx}
theorem call_min2S (hc : X.calm = true) : CallR X (.builtin "min") (fun xs H Q => ∃ x y, xs = [.str x, .str y] ∧ Q (.str (minS x y)) H) := by
  intro pins s σ H xs us Q I r h
  obtain ⟨i, j, rfl, q⟩ := h
  obtain ⟨u, w', rfl, ⟨t, rfl⟩, ⟨t', rfl⟩⟩ := vals2 r
  refine min_two_strs (I.ok.hd hc) fun h' tk k => ⟨_, H, I.kept k, ?_, q⟩
  unfold minS
  split
  · next hj => exact ⟨_, rfl⟩
  · next hj => exact ⟨_, rfl⟩
end
theorem cmp_gt_str {prog : Program} {w : World} {A : Around} {a b : Str} {t u : Tok} : CmpOf prog w A .Gt (fun i v => (#[Value.str a t, Value.str b u] : Array Value)[i]? = some v) (fun i j => decide (((#[a, b] : Array Str).getD i "").cps.toList > ((#[a, b] : Array Str).getD j "").cps.toList)) := fun i j vi vj s Q E hi hj h => by
  have key : ∀ {i : Nat} {v : Value}, (#[Value.str a t, Value.str b u] : Array Value)[i]? = some v → ∃ k, v = .str ((#[a, b] : Array Str).getD i "") k := fun {i v} h => by
    match i, h with
    | 0, h => cases h; exact ⟨t, rfl⟩
    | 1, h => cases h; exact ⟨u, rfl⟩
    | i + 2, h => simp at h
  obtain ⟨k1, rfl⟩ := key hi
  obtain ⟨k2, rfl⟩ := key hj
  exact richCompare_gives (op := .Gt) (typeIs_str s _ k1) (typeIs_str s _ k2) F.slot_str_gt F.entry_str_gt (F.args_str_gt_2 _ _) (gives_str_gt _ _ k1 k2) (fun e => nomatch e) h
theorem max_two_strs {prog : Program} {w : World} {A : Around} {E : Value → Shared → Prop} {s : Shared} {Q : Value → Shared → Prop} {a b : Str} {t u : Tok} (hh : A.handled = none)
    (h : ∀ h' tk, (∀ c o, s.heap.get? c = some o → h'.get? c = some o) → Q (if lessS a b = true then .str b u else .str a t) { s with heap := h', toks := tk }) :
    wpAny (model prog w) A (call (.builtin "max") [.str a t, .str b u]) Q E s := by
  have hT : (s.heap.push { cls := .type "tuple", data := .seq #[.str a t, .str b u] }).IsTuple s.heap.objs.size #[.str a t, .str b u] := ⟨_, Heap.get?_push_size _ rfl, rfl, 0, rfl⟩
  refine call_max_two (wpAny_pyIter_tuple hT ?_)
  have hsz : (s.heap.push { cls := .type "tuple", data := .seq #[.str a t, .str b u] }).objs.size = s.heap.objs.size + 1 := Heap.size_push ..
  refine ⟨_, [_, s.heap.objs.size], [_], _, _, _, _, rfl, Walks.tuple (A := A.in1) hh _ s.heap.objs.size (by rw [hsz]; exact Nat.ne_of_lt (Nat.lt_succ_self _)) #[.str a t, .str b u],
    ⟨⟨_, Heap.get?_push_size _ rfl, rfl, rfl⟩, hT.push _⟩, fun c hc => ?_, by simp, cmp_gt_str, fun v h' tk hP hk => ?_⟩
  · show c < ((s.heap.push _).push _).objs.size
    rw [Heap.size_push, hsz]
    rcases List.mem_cons.mp hc with rfl | hc
    · rw [hsz]; exact Nat.lt_succ_self _
    · rcases List.mem_cons.mp hc with rfl | hc
      · exact Nat.lt_succ_of_lt (Nat.lt_succ_self _)
      · cases hc
  · have hold : ∀ c o, s.heap.get? c = some o → h'.get? c = some o := fun c o e => by
      refine hk c o (fun hm => ?_) (Heap.get?_push_of_some _ (Heap.get?_push_of_some _ e))
      rcases List.mem_cons.mp hm with e1 | hm
      · have := Heap.lt_size e; rw [e1, hsz] at this; exact Nat.lt_irrefl _ (Nat.lt_of_succ_lt this)
      · cases hm
    have q := h h' tk hold
    have hv : v = if lessS a b = true then Value.str b u else Value.str a t := by
      have hP2 : (#[Value.str a t, Value.str b u] : Array Value)[if decide (b.cps.toList > a.cps.toList) = true then 1 else 0]? = some v := hP
      have e : decide (b.cps.toList > a.cps.toList) = lessS a b := rfl
      rw [e] at hP2
      cases hc : lessS a b with
      | true =>
        rw [hc, if_pos rfl] at hP2
        rw [if_pos rfl]
        exact (Option.some.inj hP2).symm
      | false =>
        rw [hc, if_neg (by decide)] at hP2
        rw [if_neg (by decide)]
        exact (Option.some.inj hP2).symm
    rw [hv]; exact q
section
variable {X : Cx}
theorem call_max2S (hc : X.calm = true) : CallR X (.builtin "max") (fun xs H Q => ∃ x y, xs = [.str x, .str y] ∧ Q (.str (maxS x y)) H) := by
  intro pins s σ H xs us Q I r h
  obtain ⟨i, j, rfl, q⟩ := h
  obtain ⟨u, w', rfl, ⟨t, rfl⟩, ⟨t', rfl⟩⟩ := vals2 r
  refine max_two_strs (I.ok.hd hc) fun h' tk k => ⟨_, H, I.kept k, ?_, q⟩
  unfold maxS
  split
  · next hj => exact ⟨_, rfl⟩
  · next hj => exact ⟨_, rfl⟩
end
end Hx
set_option maxHeartbeats 2000000
set_option exponentiation.threshold 10000
namespace K05
open PySem PySem.Spec PyProof.Rows L2 Hx RZ
/-! ### a crowd of parts, of places -/
section
variable {K : PySem.W.Frag} {d g c : Addr} {H H' H0 : Hp} {σ : L2.St} {n k j : Nat} {te : TE} {ta : TA}
theorem gt_ix {a b : Addr} {xs us : List V} {i m0 : Nat} {z : Int} {ti : TE} (S0 : St H0 d g c m0) (h : σ[i]? = some (some (.ref a))) (hx : SqT K H0 a xs) (hi : ∀ H (Q : VK), Q (.int z) H → ti σ H Q) (at0 : atI xs z = some (.ref b)) (hb : SqT K H0 b us) (l : us.length ≤ k) (gu : ∀ x ∈ us, Gv K d g H0 n x) : GT K d g c H0 σ 0 n k (tOp (rIxT K) (tVar i) ti) := fun m H S kp Q q =>
  ⟨_, h, hi H _ ⟨a, xs, z, .ref b, rfl, rfl, tk_seqT (kp.tk S0) hx, at0, q b us H (tk_seqT (kp.tk S0) hb) l (fun x hx => (gu x hx).kp S0 kp) S (fun _ _ e _ _ => e)⟩⟩
theorem gt_rep1 {i : Nat} {z : Int} (h : GE K d g c H0 σ j n te) (hi : σ[i]? = some (some (.int z))) (z2 : 2 ≤ z) (z1 : z ≤ 500) : GT K d g c H0 σ j n 500 (tOp (rRepT K) (tTup (tCons te tNil)) (tVar i)) := fun m H S kp Q q =>
  h m H S kp _ fun u H1 gu S1 k1 => ⟨by rw [sizeLine_eq]; show 1 ≤ _; decide, fun p hp => ⟨_, hi, by
    have s := same_upd (o := .tup [u]) hp
    have S2 := S1.same s
    refine ⟨p, z, [u], rfl, rfl, SqT.of upd_same, by simp, z2, by omega, by simp, fun r hr => ?_⟩
    have s3 := same_upd (o := .tup (List.replicate z.toNat [u]).flatten) hr
    have ml : ∀ (m : Nat) (x : V), x ∈ (List.replicate m [u]).flatten → x = u := fun m x hx => by
      obtain ⟨l, hl, hx⟩ := List.mem_flatten.mp hx
      rw [(List.mem_replicate.mp hl).2] at hx
      exact List.mem_singleton.mp hx
    have ll : ∀ m : Nat, (List.replicate m [u]).flatten.length = m := fun m => by
      induction m with
      | zero => rfl
      | succ m ih => rw [List.replicate_succ, List.flatten_cons, List.length_append, ih]; simp; omega
    refine q r _ _ (SqT.of upd_same) (by rw [ll]; omega) (fun x hx => ?_) (S2.same s3) ((k1.trans (Kp.of s)).trans (Kp.of s3))
    rw [ml _ x hx]
    exact (gu.kp S1 (Kp.of s)).kp S2 (Kp.of s3)⟩⟩
def mS (k : Nat) : Str := Str.ofString "m" ++ Str.ofString (toString ((100 : Int) + (k : Int)))
theorem mS_names : ((List.range 45).all fun k => nameS (mS k)) = true := by decide +kernel
/-- the parts of a drawn net -/
theorem gv_raws {us : List V} {rs : List Raw} (h : RawsAt K H us rs) (R : ∀ r ∈ rs, Right r) (l : ∀ r ∈ rs, r.ends.length ≤ 9) (nb : ∀ r ∈ rs, Num30 r.num) : ∀ x ∈ us, Gv K d g H 10 x := fun x hx => by
  obtain ⟨i, hi, e⟩ := List.getElem_of_mem hx
  obtain ⟨r, hr, hraw⟩ := h.get (i := i) (v := x) (by rw [List.getElem?_eq_getElem hi, e])
  have m := List.mem_of_getElem? hr
  obtain ⟨a, xs, u, rfl, F⟩ := part_facts (d := d) (g := g) hraw (R r m) (l r m) (nb r m)
  exact .tup 9 a xs F.sq F.gv (Nat.le_trans F.len (by decide))
/-- a drawn net -/
structure DrawnN (taps : List Str) (rs : List Raw) : Prop where
  net : NetD taps rs
  num : ∀ r ∈ rs, Num30 r.num
theorem DrawnN.ends {taps : List Str} {rs : List Raw} (h : DrawnN taps rs) : ∀ r ∈ rs, r.ends.length ≤ 9 := fun r hr => by
  obtain ⟨ps, sort, _, _, _, dr⟩ := h.net.ps
  have := (dr r hr).few
  omega
theorem DrawnN.names {taps : List Str} {rs : List Raw} (h : DrawnN taps rs) : ∀ x ∈ taps, nameS x = true := by
  have q := h.net.tp
  unfold tapsS namesS at q
  simp only [Bool.and_eq_true] at q
  exact fun x hx => List.all_eq_true.mp q.1.1 x hx
end
section
variable {P : Program} {w : World} {K : PySem.W.Frag} {mg : Str → Option Value} {base : Heap}
def spCrowd (K : PySem.W.Frag) : Sp := fun vs H Q _ => ∃ (d g c : Addr) (n : Nat) (v : V) (taps : List Str) (rs : List Raw), vs = [.ref d, v] ∧ St H d g c (n + 2) ∧ NetAt K H v taps rs ∧ DrawnN taps rs ∧
  ∀ u H', Gv K d g H' 12 u → St H' d g c n → Kp d g H H' → Q u H'
abbrev NCr : List Str := ["state", "net_here", "taps_here", "spots_here", "extra", "more_here", "turn", "spot"]
theorem sc_crowd : FnScope NCr ["state", "net_here"] (defScope sL_an_crowd) := ⟨rfl, rfl, rfl, by decide +kernel, rfl, by decide +kernel, by decide +kernel⟩
theorem ok_crowd (D : Dn K mg "_law_an_crowd" sL_an_crowd) (B0 : Ok P w K mg base L2.CX0 2 "_law_draw" ["state", "room"] spDraw) (B1 : Ok P w K mg base L2.CX0 3 "_law_pick" ["state", "some"] (spPick K)) (B2 : Ok P w K mg base L2.CX0 1 "_law_an_every" ["net_here"] (spEvery K))
    (h_len : mg "len" = none) (h_range : mg "range" = none) (h_str : mg "str" = none) (h_min : mg "min" = none) (h_max : mg "max" = none) (h_tuple : mg "tuple" = none) : Ok P w K mg base L2.CX0 4 "_law_an_crowd" ["state", "net_here"] (spCrowd K) := by
  obtain ⟨_, _, g_draw, k_draw, b_draw, F_draw⟩ := B0.ex
  obtain ⟨_, _, g_pick, k_pick, b_pick, F_pick⟩ := B1.ex
  obtain ⟨_, _, g_every, k_every, b_every, F_every⟩ := B2.ex
  refine Ok.mk0 D sc_crowd (fun vs H Q E h => ?_) (fun _ _ _ _ _ _ us hl => match us, hl with | [_, _], _ => rfl) (fun f cdv A outer s H vs Q E hr h => ?_)
  · obtain ⟨_, _, _, _, _, _, _, rfl, _⟩ := h
    rfl
  obtain ⟨d, g, c, n, v, taps, rs, rfl, hS, hn, DN, k⟩ := h
  have nd := sc_crowd.nd
  have hr3 := hr
  have hr2 := hr.mono (show 2 ≤ 3 by decide)
  have hr1 := hr.mono (show 1 ≤ 3 by decide)
  refine ⟨_, (pss_cons (ps_asg (pe_tup (pa_cons (pe_ix ix_tup (pv 1) pe_int (fun _ _ => rfl)) (pa_cons (pe_lc (own := [("turn", 6)]) (g := gName 6) (tt := tYes) rfl nd (pi_range2 rfl h_range (pa_cons pe_int (pa_cons pe_int pa_nil))) (blkOk_by (own := [("turn", 6)]) (N := ["state", "net_here", "taps_here", "spots_here", "extra", "more_here", "turn", "spot"]) (sc := defScope sL_an_crowd) (by decide +kernel)) (fun _ _ _ _ _ => pg_name (i := 6) nd rfl (Or.inl rfl)) (fun _ _ _ _ _ => pts_nil) (fun _ _ _ _ _ => (pe_op op_add_str pe_str (pe_callTy call_str_int (by rfl) h_str (by decide +kernel) (pa_cons (pv 6) pa_nil))))) pa_nil))) (pg_tup (by rfl) (pgs_cons (pg_name (i := 2) nd rfl (Or.inr rfl)) (pgs_cons (pg_name (i := 3) nd rfl (Or.inl rfl)) pgs_nil))))
  (pss_cons (ps_if (pt_cmpR op_eq (pe_call F_draw hr2 rfl g_draw k_draw b_draw .nil pass0 (pa_cons (pv 0) (pa_cons pe_int pa_nil))) pe_int (nomark _))
    (pss_cons (ps_set (i := 4) nd rfl (Or.inl rfl) (pe_op op_sub (pe_call F_pick hr3 rfl g_pick k_pick b_pick .nil pass0 (pa_cons (pv 0) (pa_cons (pe_lst (pa_cons pe_int (pa_cons pe_int pa_nil))) pa_nil))) (pe_lenS rfl h_len (pe_ix ix_tup (pv 1) pe_int (fun _ _ => rfl)))))
  (pss_one (ps_ret (pe_tup (pa_cons (pv 2) (pa_cons (pe_op op_catA (pe_ix ix_tup (pv 1) pe_int (fun _ _ => rfl)) (pe_op op_repT (pe_tup (pa_cons (pe_tup (pa_cons pe_str (pa_cons pe_str (pa_cons pe_str (pa_cons pe_int pa_nil))))) pa_nil)) (pv 4))) pa_nil))))))
    pss_nil)
  (pss_cons (ps_set (i := 4) nd rfl (Or.inl rfl) (pe_op op_sub (pe_call F_pick hr3 rfl g_pick k_pick b_pick .nil pass0 (pa_cons (pv 0) (pa_cons (pe_lst (pa_cons pe_int (pa_cons pe_int pa_nil))) pa_nil))) (pe_lenS rfl h_len (pe_call F_every hr1 rfl g_every k_every b_every .nil pass0 (pa_cons (pv 1) pa_nil)))))
  (pss_cons (ps_set (i := 5) nd rfl (Or.inl rfl) (pe_callTy call_tuple_of (by rfl) h_tuple (by decide +kernel) (pa_cons (pe_lc (own := [("spot", 7)]) (g := gName 7) (tt := tYes) rfl nd (pi_list (pe_slice sl_list (pv 3) po_none (po_some (pv 4)))) (blkOk_by (own := [("spot", 7)]) (N := ["state", "net_here", "taps_here", "spots_here", "extra", "more_here", "turn", "spot"]) (sc := defScope sL_an_crowd) (by decide +kernel)) (fun _ _ _ _ _ => pg_name (i := 7) nd rfl (Or.inl rfl)) (fun _ _ _ _ _ => pts_nil) (fun _ _ _ _ _ => (pe_tup (pa_cons pe_str (pa_cons (pe_callB (call_min2S rfl) (by rfl) h_min (by decide +kernel) (pa_cons (pe_ix (ix_tupK (K := K) rfl) (pv 2) pe_int (fun _ _ => rfl)) (pa_cons (pv 7) pa_nil))) (pa_cons (pe_callB (call_max2S rfl) (by rfl) h_max (by decide +kernel) (pa_cons (pe_ix (ix_tupK (K := K) rfl) (pv 2) pe_int (fun _ _ => rfl)) (pa_cons (pv 7) pa_nil))) (pa_cons pe_int pa_nil))))))) pa_nil)))
  (pss_one (ps_ret (pe_tup (pa_cons (pv 2) (pa_cons (pe_op op_catA (pe_ix ix_tup (pv 1) pe_int (fun _ _ => rfl)) (pv 5)) pa_nil))))))))), ?_⟩
  have big := big_size
  have tn := DN.names
  have t6 := (taps_sum DN.net.tp).2
  have kr : ∀ {H : Hp}, Kp d g H H := fun _ _ e _ _ => e
  have G := good_drawn DN.net DN.num
  obtain ⟨a, t, b, us, rfl, ha, ht, hb, hus⟩ := id hn
  have ul : us.length ≤ 9 := by rw [hus.len]; exact DN.net.few
  refine ⟨_, rfl, a, _, 0, _, rfl, rfl, ha, rfl, 100, 145, rfl, ⟨by decide, by decide, by decide, by decide⟩, fun Z hZ => ?_⟩
  show LcGoal (Itr 100 45) _ _ _ _ _ _ _ _
  have rl : (List.range 45).length = 45 := List.length_range
  refine lc_each (List.range 45) (fun v j _ => v = .str (mS j)) (fun _ _ _ _ _ h => h) hZ (lines (by omega)) (fun i H2 hi s => by rw [rl] at hi; exact hi) (fun H2 s => by rw [rl]; exact Nat.le_refl _) ?_ ?_
  · rintro i j y Ha Hb F hj s ⟨rfl, yx⟩ kF
    obtain rfl := yx
    have ei : i = j := by
      obtain ⟨h1, h2⟩ := List.getElem?_eq_some_iff.mp hj
      rw [List.getElem_range] at h2
      exact h2
    subst ei
    have il : i < 45 := by
      have := (List.getElem?_eq_some_iff.mp hj).1
      rw [rl] at this
      exact this
    have jl : (Str.ofString (toString ((100 : Int) + (i : Int)))).length ≤ 31 := natS_len (by omega) (by omega)
    have lg : ((100 : Int) + (i : Int)).natAbs.log2 < 1920 := log_small (by omega)
    refine ⟨rfl, _, rfl, _, rfl, lg, _, _, rfl, rfl, by rw [sizeLine_eq]; have e0 : (Str.ofString "m").length = 1 := rfl; omega, ?_⟩
    exact kF _ _ rfl (Same.refl _)
  rintro acc H1 s1 eZ pd
  have ea := paired_strs (f := mS) pd
  subst ea
  refine ⟨by rw [sizeLine_eq]; show 2 ≤ _; decide, fun q hq => ⟨q, _, rfl, SqT.of upd_same, rfl, _, _, rfl, _, _, rfl, rfl, ?_⟩⟩
  have s2 := same_upd (o := .tup [.ref t, .ref Z]) hq
  generalize upd H1 q (.tup [.ref t, .ref Z]) = H2 at s2 ⊢
  have s12 := s1.trans s2
  have offZ := hS.off hZ
  have eZ2 := s2 _ _ eZ
  have S1 := hS.same s12
  have ha1 := same_seqT s12 ha
  have ht1 := same_seqT s12 ht
  have hb1 := same_seqT s12 hb
  have gu1 : ∀ x ∈ us, Gv K d g H2 10 x := gv_raws (hus.keep (.of s12)) G.net.right DN.ends DN.num
  have hn1 := hn.keep (.of s12)
  have kf : ∀ u H', Gv K d g H' 12 u → St H' d g c n → Kp d g H2 H' → Q u H' := fun u H' gv S' k' => k u H' gv S' ((Kp.of s12).trans k')
  clear k pd hS hn ha ht hb hus s1 s2 s12 hq hZ eZ
  refine ⟨_, rfl, d, g, c, n + 1, 2, rfl, S1, by decide, by decide +kernel, fun z H3 z0 z2 S3 k3 => ⟨rfl, _, rfl, ?_⟩⟩
  rw [deq_int]
  have two : 2 ≤ sizeLine := by rw [sizeLine_eq]; decide
  by_cases w0 : z = 0
  · rw [decide_eq_true w0]
    refine iteT ⟨_, rfl, two, fun l hl => ?_⟩
    have sl := same_upd (o := .lst [.int 200, .int 201]) hl
    have offl := S3.off hl
    refine ⟨d, g, c, l, n, _, rfl, S3.same sl, SqL.of upd_same, offl.1, by simp, by simp, fun i x H4 hx S4 k4 => ?_⟩
    have k13 := (k3.trans (Kp.of sl)).trans k4
    obtain ⟨e, rfl, e1, e2⟩ : ∃ e : Int, x = .int e ∧ 200 ≤ e ∧ e ≤ 201 := by
      have m := List.mem_of_getElem? hx
      simp only [List.mem_cons, List.not_mem_nil, or_false] at m
      rcases m with rfl | rfl
      · exact ⟨200, rfl, by decide, by decide⟩
      · exact ⟨201, rfl, by decide, by decide⟩
    refine ⟨_, rfl, a, _, 1, _, rfl, rfl, tk_seqT (k13.tk S1) ha1, rfl, b, _, rfl, .inr (tk_seqT (k13.tk S1) hb1), _, _, rfl, rfl, ?_⟩
    refine gname_id ?_
    dsimp only
    refine ret_run (K := K) (H0 := H4) (j := 0) (n := 12) (m := n) S4 kr ?_ ?_
    · exact (ge_tup (ga_cons (ge_var (i := 2) S4 rfl (gv_words (tk_seqT (k13.tk S1) ht1) tn 10 (by omega))) (ga_cons (GT.ge (gt_cat (gt_ix (i := 1) S4 rfl (tk_seqT (k13.tk S1) ha1) (fun _ _ q => q) rfl (tk_seqT (k13.tk S1) hb1) ul (fun x hx => (gu1 x hx).kp S1 k13)) (gt_rep1 (i := 4) (ge_tup (ga_cons (ge_s (by decide +kernel)) (ga_cons (ge_s (by decide +kernel)) (ga_cons (ge_s (by decide +kernel)) (ga_cons (ge_i (by decide)) ga_nil)))) (by decide)) rfl (by omega) (by omega)) (by omega)) (show _ ≤ 1000 by omega)) ga_nil)) (by decide))
    · exact fun u H' gv S' k' => kf u H' gv S' (k13.trans k')
  rw [decide_eq_false w0]
  refine iteF ⟨_, rfl, two, fun l hl => ?_⟩
  have sl := same_upd (o := .lst [.int 40, .int 41]) hl
  have offl := S3.off hl
  refine ⟨d, g, c, l, n, _, rfl, S3.same sl, SqL.of upd_same, offl.1, by simp, by simp, fun i x H4 hx S4 k4 => ?_⟩
  have k14 := (k3.trans (Kp.of sl)).trans k4
  obtain ⟨e, rfl⟩ : ∃ e : Int, x = .int e := by
    have m := List.mem_of_getElem? hx
    simp only [List.mem_cons, List.not_mem_nil, or_false] at m
    rcases m with rfl | rfl <;> exact ⟨_, rfl⟩
  refine ⟨_, rfl, .ref a, taps, rs, rfl, hn1.keep (k14.tk S1), G.nd, G.net.right, G.sum, fun pE ys H5 s5 hE pl => ⟨pE, _, rfl, .inl (SqL.of hE), _, _, rfl, rfl, ?_⟩⟩
  refine gname_id ?_
  dsimp only
  have k15 := k14.trans (Kp.of s5)
  have S5 := S4.same s5
  have eZ5 := k15 _ _ eZ2 offZ.2 offZ.1
  generalize e - ((List.map V.str ys).length : Int) = ex
  refine ⟨_, rfl, _, rfl, _, rfl, Z, _, rfl, SqL.of eZ5, fun p hp => ⟨p, rfl, ⟨_, SqL.of upd_same⟩, fun Y hY => ?_⟩⟩
  generalize hcs : cutV (((List.range 45).map mS).map V.str) none (some ex) = cs at hY ⊢
  have cn : ∀ x ∈ cs, ∃ s : Str, x = .str s ∧ nameS s = true := fun x hx => by
    rw [← hcs] at hx
    obtain ⟨s, hs, rfl⟩ := List.mem_map.mp (cut_sub hx)
    obtain ⟨j, hj, rfl⟩ := List.mem_map.mp hs
    exact ⟨_, rfl, List.all_eq_true.mp mS_names j hj⟩
  have cl : cs.length ≤ 45 := by
    rw [← hcs]
    refine Nat.le_trans (cutV_length _ _ _) ?_
    rw [List.length_map, List.length_map, rl]
    exact Nat.le_refl _
  have s6 := same_upd (o := .lst cs) hp
  have eP := upd_same (H := H5) (a := p) (o := .lst cs)
  generalize upd H5 p (.lst cs) = H6 at s6 eP hY ⊢
  have k16 := k15.trans (Kp.of s6)
  have S6 := S5.same s6
  have ht6 := tk_seqT (k16.tk S1) ht1
  obtain ⟨t0, tr, te⟩ : ∃ t0 tr, taps = t0 :: tr := by
    have := (taps_sum DN.net.tp)
    have q := DN.net.tp
    cases taps with
    | nil => exact absurd q (by decide)
    | cons t0 tr => exact ⟨t0, tr, rfl⟩
  have at0 : atI (taps.map V.str) 0 = some (.str t0) := by rw [te]; exact atI_nat (j := 0) rfl
  have n0 : nameS t0 = true := tn t0 (by rw [te]; exact List.mem_cons_self)
  refine lc_each cs (fun v x H => ∃ p s1 s2, v = .ref p ∧ SqT K H p [.str PIPE, .str s1, .str s2, .int 1] ∧ nameS s1 = true ∧ nameS s2 = true) (fun v x H H' tk ⟨p, s1, s2, h1, h2, h3⟩ => ⟨p, s1, s2, h1, tk_seqT tk h2, h3⟩) hY (lines (by omega)) (fun i H3 hi s => ⟨_, _, SqL.of (s _ _ eP), List.getElem?_eq_getElem hi⟩) (fun H3 s => ⟨_, SqL.of (s _ _ eP), Nat.le_refl _⟩) ?_ ?_
  · rintro i x y Ha Hb F hj s ⟨rfl, yx⟩ kF
    have e := yx _ (SqL.of (s _ _ eP))
    rw [hj] at e
    obtain rfl : x = y := Option.some.inj e
    obtain ⟨s0, rfl, ns0⟩ := cn x (List.mem_of_getElem? hj)
    have htA := same_seqT s ht6
    refine ⟨rfl, _, rfl, t, _, 0, .str t0, rfl, rfl, htA, at0, _, rfl, t0, s0, rfl, _, rfl, t, _, 0, .str t0, rfl, rfl, htA, at0, _, rfl, t0, s0, rfl, Nat.le_of_lt (lines (by simp)), fun p hp => ?_⟩
    have s3 := same_upd (o := .tup [.str PIPE, .str (minS t0 s0), .str (maxS t0 s0), .int 1]) hp
    refine kF _ _ ⟨p, _, _, rfl, SqT.of upd_same, ?_, ?_⟩ s3
    · unfold minS
      split
      · exact ns0
      · exact n0
    · unfold maxS
      split
      · exact ns0
      · exact n0
  rintro acc H7 s7 eY pd
  have al : acc.length ≤ 45 := by rw [Paired.length pd]; exact cl
  refine ⟨Y, _, rfl, .inl ⟨SqL.of eY, fun q hq => ?_⟩⟩
  have s8 := same_upd (o := .tup acc) hq
  have S8 := S6.same (s7.trans s8)
  have k18 := k16.trans (Kp.of (s7.trans s8))
  have hq7 : SqT K (upd H7 q (.tup acc)) q acc := SqT.of upd_same
  have gq7 : ∀ x ∈ acc, Gv K d g (upd H7 q (.tup acc)) 10 x := fun x hx => by
    obtain ⟨u, _, p, s1, s2, rfl, h1, h2, h3⟩ := (paired_mem pd).1 x hx
    refine .tup 9 p _ (same_seqT s8 h1) (fun y hy => ?_) (show 4 ≤ bnd 10 by decide)
    simp only [List.mem_cons, List.not_mem_nil, or_false] at hy
    rcases hy with rfl | rfl | rfl | rfl
    · exact .name (by decide +kernel)
    · exact .name h2
    · exact .name h3
    · exact .int 9 1 (Nat.lt_of_lt_of_le (show (1 : Int).natAbs < 2 ^ 1 by decide) (Nat.pow_le_pow_right (by decide) (by decide)))
  generalize upd H7 q (.tup acc) = H8 at S8 k18 hq7 gq7 ⊢
  have S7 := S8
  have k17 := k18
  refine gname_id ?_
  dsimp only
  refine ret_run (K := K) (H0 := H8) (j := 0) (n := 12) (m := n) S8 kr ?_ ?_
  · exact (ge_tup (ga_cons (ge_var (i := 2) S7 rfl (gv_words (tk_seqT (k17.tk S1) ht1) tn 10 (by omega))) (ga_cons (GT.ge (gt_cat (gt_ix (i := 1) S7 rfl (tk_seqT (k17.tk S1) ha1) (fun _ _ q => q) rfl (tk_seqT (k17.tk S1) hb1) ul (fun x hx => (gu1 x hx).kp S1 k17)) (gt_var (i := 5) S7 rfl hq7 al gq7) (by omega)) (show _ ≤ 1000 by omega)) ga_nil)) (by decide))
  · exact fun u H' gv S' k' => kf u H' gv S' (k18.trans k')
end
end K05
set_option maxHeartbeats 2000000
set_option exponentiation.threshold 10000
namespace K05
open PySem PySem.Spec PyProof.Rows L2 Hx RZ
/-! ### what is near a net -/
section
variable {K : PySem.W.Frag} {d g c : Addr} {H H' H0 : Hp} {σ : L2.St} {n k j i : Nat} {te : TE} {ta : TA}
theorem ge_ntaps {E : XK} {t : Addr} {taps : List Str} {m0 : Nat} (h0 : σ[0]? = some (some (.ref d))) (hi : σ[i]? = some (some (.ref t))) (S0 : St H0 d g c m0) (ht : SqT K H0 t (taps.map V.str)) (tn : ∀ x ∈ taps, nameS x = true) (t1 : 1 ≤ taps.length) (t6 : taps.length ≤ 6) : GE K d g c H0 σ 3 11 (tCall (spNearTaps K) [] E (tCons (tVar 0) (tCons (tVar i) tNil))) := fun m H S kp Q q =>
  ⟨_, h0, _, hi, d, g, c, t, m, taps, rfl, S, tk_seqT (kp.tk S0) ht, tn, t1, t6, fun u H' gu S' k' => q u H' gu S' k'⟩
theorem ge_npart {E : XK} {b : Addr} {us : List V} {y : V} {r : Raw} {i2 m0 : Nat} {z : Int} (h0 : σ[0]? = some (some (.ref d))) (hi : σ[i]? = some (some (.ref b))) (hz : σ[i2]? = some (some (.int z))) (S0 : St H0 d g c m0) (hb : SqT K H0 b us) (at0 : atI us z = some y) (hr : RawAt K H0 y r) (R : Right r) (l : r.ends.length ≤ 9) (nb : Num30 r.num) : GE K d g c H0 σ 3 10 (tCall (spNearPart K) [] E (tCons (tVar 0) (tCons (tOp (rIxT K) (tVar i) (tVar i2)) tNil))) := fun m H S kp Q q =>
  ⟨_, h0, _, hi, _, hz, b, us, z, y, rfl, rfl, tk_seqT (kp.tk S0) hb, at0, d, g, c, m, y, r, rfl, S, hr.keep (kp.tk S0), R, l, nb, fun u H' gu S' k' => q u H' gu S' k'⟩
theorem ge_crowd {E : XK} {v : V} {taps : List Str} {rs : List Raw} {m0 : Nat} (h0 : σ[0]? = some (some (.ref d))) (hi : σ[i]? = some (some v)) (S0 : St H0 d g c m0) (hn : NetAt K H0 v taps rs) (D : DrawnN taps rs) : GE K d g c H0 σ 2 12 (tCall (spCrowd K) [] E (tCons (tVar 0) (tCons (tVar i) tNil))) := fun m H S kp Q q =>
  ⟨_, h0, _, hi, d, g, c, m, v, taps, rs, rfl, S, hn.keep (kp.tk S0), D, fun u H' gu S' k' => q u H' gu S' k'⟩
/-- e[:1 + _law_draw(state, 2)] -/
theorem gt_cutd {E : XK} (h0 : σ[0]? = some (some (.ref d))) (h : GT K d g c H0 σ j n k te) : GT K d g c H0 σ (j + 1) n k (tSl (rSlA K) te tNoPart (tPart (tOp (rI0 fun i j => V.int (i + j)) (tC (.int 1)) (tCall spDraw [] E (tCons (tVar 0) (tCons (tC (.int 2)) tNil)))))) := fun m H S kp Q q =>
  h (m + 1) H (by rw [show m + 1 + j = m + (j + 1) by omega]; exact S) kp _ fun a xs H1 hx l gx S1 k1 => ⟨_, h0, d, g, c, m, 2, rfl, S1, by decide, by decide +kernel, fun z H2 z0 z2 S2 k2 => ⟨_, _, rfl, rfl, _, rfl, by
    have hx2 := tk_seqT (k2.tk S1) hx
    have gx2 : ∀ x ∈ xs, Gv K d g H2 n x := fun x hx => (gx x hx).kp S1 k2
    refine ⟨a, xs, rfl, hx2, fun _ => q a xs H2 hx2 l gx2 S2 (k1.trans k2), fun _ p hp => ?_⟩
    have s := same_upd (o := .tup (cutV xs none (some (1 + z)))) hp
    exact q p _ _ (SqT.of upd_same) (Nat.le_trans (cutV_length xs _ _) l) (fun x hx => (gx2 x (cut_sub hx)).kp S2 (Kp.of s)) (S2.same s) ((k1.trans k2).trans (Kp.of s))⟩⟩
end
section
variable {P : Program} {w : World} {K : PySem.W.Frag} {mg : Str → Option Value} {base : Heap}
def spNear (K : PySem.W.Frag) : Sp := fun vs H Q _ => ∃ (d g c : Addr) (n : Nat) (v : V) (taps : List Str) (rs : List Raw), vs = [.ref d, v] ∧ St H d g c (n + 5) ∧ NetAt K H v taps rs ∧ DrawnN taps rs ∧
  ∀ u H', Gv K d g H' 12 u → St H' d g c n → Kp d g H H' → Q u H'
theorem sc_near : FnScope ["state", "net_here", "taps_here", "parts_here", "way", "spot", "ends_here", "both"] ["state", "net_here"] (defScope sL_an_near) := ⟨rfl, rfl, rfl, by decide +kernel, rfl, by decide +kernel, by decide +kernel⟩
theorem ok_near (D : Dn K mg "_law_an_near" sL_an_near) (B0 : Ok P w K mg base L2.CX0 2 "_law_draw" ["state", "room"] spDraw) (B1 : Ok P w K mg base L2.CX0 3 "_law_pick" ["state", "some"] (spPick K)) (B2 : Ok P w K mg base L2.CX0 4 "_law_an_near_taps" ["state", "taps_here"] (spNearTaps K)) (B3 : Ok P w K mg base L2.CX0 4 "_law_an_crowd" ["state", "net_here"] (spCrowd K)) (B4 : Ok P w K mg base L2.CX0 4 "_law_an_near_part" ["state", "part"] (spNearPart K))
    (h_len : mg "len" = none) (h_list : mg "list" = none) (h_tuple : mg "tuple" = none) (h_sorted : mg "sorted" = none) : Ok P w K mg base L2.CX0 5 "_law_an_near" ["state", "net_here"] (spNear K) := by
  obtain ⟨_, _, g_draw, k_draw, b_draw, F_draw⟩ := B0.ex
  obtain ⟨_, _, g_pick, k_pick, b_pick, F_pick⟩ := B1.ex
  obtain ⟨_, _, g_ntaps, k_ntaps, b_ntaps, F_ntaps⟩ := B2.ex
  obtain ⟨_, _, g_crowd, k_crowd, b_crowd, F_crowd⟩ := B3.ex
  obtain ⟨_, _, g_npart, k_npart, b_npart, F_npart⟩ := B4.ex
  refine Ok.mk0 D sc_near (fun vs H Q E h => ?_) (fun _ _ _ _ _ _ us hl => match us, hl with | [_, _], _ => rfl) (fun f cdv A outer s H vs Q E hr h => ?_)
  · obtain ⟨_, _, _, _, _, _, _, rfl, _⟩ := h
    rfl
  obtain ⟨d, g, c, n, v, taps, rs, rfl, hS, hn, DN, k⟩ := h
  have nd := sc_near.nd
  have hr4 := hr
  have hr3 := hr.mono (show 3 ≤ 4 by decide)
  have hr2 := hr.mono (show 2 ≤ 4 by decide)
  refine ⟨_, (pss_cons (ps_asg (pv 1) (pg_tup (by rfl) (pgs_cons (pg_name (i := 2) nd rfl (Or.inl rfl)) (pgs_cons (pg_name (i := 3) nd rfl (Or.inl rfl)) pgs_nil))))
  (pss_cons (ps_par (i := 4) (j := 5) (by rfl) nd rfl rfl (by decide) rfl rfl (pa_cons (pe_call F_draw hr2 rfl g_draw k_draw b_draw .nil pass0 (pa_cons (pv 0) (pa_cons pe_int pa_nil))) (pa_cons (pe_call F_draw hr2 rfl g_draw k_draw b_draw .nil pass0 (pa_cons (pv 0) (pa_cons (pe_lenS rfl h_len (pv 3)) pa_nil))) pa_nil)) (by rfl))
  (pss_cons (ps_if (pt_cmpR op_eq (pv 4) pe_int (nomark _))
    (pss_one (ps_ret (pe_tup (pa_cons (pe_call F_ntaps hr4 rfl g_ntaps k_ntaps b_ntaps .nil pass0 (pa_cons (pv 0) (pa_cons (pv 2) pa_nil))) (pa_cons (pv 3) pa_nil)))))
    pss_nil)
  (pss_cons (ps_if (pt_cmpR op_eq (pv 4) pe_int (nomark _))
    (pss_one (ps_ret (pe_call F_pick hr3 rfl g_pick k_pick b_pick .nil pass0 (pa_cons (pv 0) (pa_cons (pe_lst (pa_cons (pe_callTy call_list_of (by rfl) h_list (by decide +kernel) (pa_cons (pv 1) pa_nil)) (pa_cons (pe_tup (pa_cons (pv 2) pa_nil)) (pa_cons (pe_op op_catA (pv 1) (pe_tup (pa_cons (pe_tup pa_nil) pa_nil))) (pa_cons (pe_tup (pa_cons (pv 2) (pa_cons (pe_callTy call_list_of (by rfl) h_list (by decide +kernel) (pa_cons (pv 3) pa_nil)) pa_nil))) (pa_cons (pv 2) (pa_cons pe_non pa_nil))))))) pa_nil)))))
    pss_nil)
  (pss_cons (ps_if (pt_cmpR op_eq (pv 4) pe_int (nomark _))
    (pss_cons (ps_set (i := 6) nd rfl (Or.inl rfl) (pe_callTy call_tuple_of (by rfl) h_tuple (by decide +kernel) (pa_cons (pe_callB (cr_srtST) (by rfl) h_sorted (by decide +kernel) (pa_cons (pe_slice sl_tupA (pv 2) po_none (po_some pe_int)) pa_nil)) pa_nil)))
  (pss_cons (ps_set (i := 7) nd rfl (Or.inl rfl) (pe_tup (pa_cons (pe_tup (pa_cons pe_str (pa_cons (pe_ix ix_tup (pv 6) pe_int (fun _ _ => rfl)) (pa_cons (pe_ix ix_tup (pv 6) pe_int (fun _ _ => rfl)) (pa_cons pe_int pa_nil))))) (pa_cons (pe_tup (pa_cons pe_str (pa_cons (pv 6) (pa_cons (pe_tup (pa_cons pe_int (pa_cons pe_int pa_nil))) pa_nil)))) pa_nil))))
  (pss_one (ps_ret (pe_tup (pa_cons (pv 2) (pa_cons (pe_op op_catA (pe_op op_catA (pe_slice sl_tupA (pv 3) po_none (po_some (pv 5))) (pe_slice sl_tupA (pv 7) po_none (po_some (pe_op op_add pe_int (pe_call F_draw hr2 rfl g_draw k_draw b_draw .nil pass0 (pa_cons (pv 0) (pa_cons pe_int pa_nil))))))) (pe_slice sl_tupA (pv 3) (po_some (pv 5)) po_none)) pa_nil)))))))
    pss_nil)
  (pss_cons (ps_if (pt_cmpR op_eq (pv 4) pe_int (nomark _))
    (pss_one (ps_ret (pe_call F_crowd hr4 rfl g_crowd k_crowd b_crowd .nil pass0 (pa_cons (pv 0) (pa_cons (pv 1) pa_nil)))))
    pss_nil)
  (pss_one (ps_ret (pe_tup (pa_cons (pv 2) (pa_cons (pe_op op_catA (pe_op op_catA (pe_slice sl_tupA (pv 3) po_none (po_some (pv 5))) (pe_tup (pa_cons (pe_call F_npart hr4 rfl g_npart k_npart b_npart .nil pass0 (pa_cons (pv 0) (pa_cons (pe_ix ix_tup (pv 3) (pv 5) (fun _ _ => rfl)) pa_nil))) pa_nil))) (pe_slice sl_tupA (pv 3) (po_some (pe_op op_add (pv 5) pe_int)) po_none)) pa_nil))))))))))), ?_⟩
  have tn := DN.names
  obtain ⟨_, t6⟩ := taps_sum DN.net.tp
  have t2 : 2 ≤ taps.length := by
    have q := DN.net.tp
    unfold tapsS at q
    simp only [Bool.and_eq_true, decide_eq_true_eq] at q
    exact q.2.1
  have kr : ∀ {H : Hp}, Kp d g H H := fun _ _ e _ _ => e
  have G := good_drawn DN.net DN.num
  obtain ⟨a, t, b, us, rfl, ha, ht, hb, hus⟩ := id hn
  have ul : us.length ≤ 9 := by rw [hus.len]; exact DN.net.few
  have u1 : 1 ≤ us.length := by rw [hus.len]; have := DN.net.one; omega
  refine ⟨_, rfl, a, _, rfl, ha, rfl, _, _, rfl, _, _, rfl, rfl, ?_⟩
  refine ⟨_, rfl, d, g, c, n + 4, 7, rfl, hS, by decide, by decide +kernel, fun z H3 z0 z7 S3 k3 => ?_⟩
  refine ⟨_, rfl, _, rfl, b, _, rfl, .inr (tk_seqT (k3.tk hS) hb), d, g, c, n + 3, _, rfl, S3, by omega, small9000 (by omega), fun sp H4 sp0 sp1 S4 k4 => ⟨_, _, rfl, ?_⟩⟩
  have k34 := k3.trans k4
  have tk := k34.tk hS
  have ha4 := tk_seqT tk ha
  have ht4 := tk_seqT tk ht
  have hb4 := tk_seqT tk hb
  have hn4 := hn.keep tk
  have hus4 := hus.keep tk
  have gu4 : ∀ x ∈ us, Gv K d g H4 10 x := gv_raws hus4 G.net.right DN.ends DN.num
  have ga4 : ∀ x ∈ [V.ref t, V.ref b], Gv K d g H4 11 x := fun x hx => by
    simp only [List.mem_cons, List.not_mem_nil, or_false] at hx
    rcases hx with rfl | rfl
    · exact gv_words ht4 tn 10 (by omega)
    · exact .tup 10 b us hb4 gu4 (show us.length ≤ 1000 by omega)
  have kf : ∀ u H', Gv K d g H' 12 u → St H' d g c n → Kp d g H4 H' → Q u H' := fun u H' gv S' k' => k u H' gv S' (k34.trans k')
  clear k hS hn ha ht hb hus k3 S3 tk
  refine ⟨_, rfl, rfl, _, rfl, ?_⟩
  rw [deq_int]
  by_cases w0 : z = 0
  · rw [decide_eq_true w0]
    refine iteT ?_
    refine ret_run (K := K) (H0 := H4) (j := 3) (n := 12) (m := n) S4 kr ?_ kf
    exact (ge_tup (ga_cons (ge_ntaps (taps := taps) rfl rfl S4 ht4 tn (by omega) t6) (ga_cons (GT.ge (gt_var (i := 3) S4 rfl hb4 ul gu4) (show _ ≤ 1000 by omega)) ga_nil)) (by decide))
  rw [decide_eq_false w0]
  refine iteF ⟨_, rfl, rfl, _, rfl, ?_⟩
  rw [deq_int]
  by_cases w1 : z = 1
  · rw [decide_eq_true w1]
    refine iteT ?_
    refine ret_run (K := K) (H0 := H4) (j := 1) (n := 12) (m := n) (S4.less (by omega)) kr ?_ kf
    exact (ge_pick rfl (ga_cons (ge_listof (gt_var (i := 1) S4 rfl ha4 (show _ ≤ 2 by exact Nat.le_refl _) ga4) (show _ ≤ 1000 by decide)) (ga_cons (GE.up (ge_tup (ga_cons (ge_var (i := 2) S4 rfl (gv_words ht4 tn 10 (by omega))) ga_nil) (by decide)) (by decide)) (ga_cons (GT.ge (gt_cat (gt_var (i := 1) S4 rfl ha4 (show _ ≤ 2 by exact Nat.le_refl _) ga4) (gt_tup (ga_cons (GE.up (ge_tup (n := 0) ga_nil (by decide)) (by decide)) ga_nil) (by decide)) (by decide)) (show _ ≤ 1000 by omega)) (ga_cons (ge_tup (ga_cons (ge_var (i := 2) S4 rfl (gv_words ht4 tn 10 (by omega))) (ga_cons (ge_listof (gt_var (i := 3) S4 rfl hb4 ul gu4) (show _ ≤ 1000 by omega)) ga_nil)) (by decide)) (ga_cons (ge_var (i := 2) S4 rfl ((gv_words ht4 tn 10 (by omega)).up (by decide))) (ga_cons ge_non ga_nil)))))) (by decide) (by decide))
  rw [decide_eq_false w1]
  refine iteF ⟨_, rfl, rfl, _, rfl, ?_⟩
  rw [deq_int]
  by_cases w2 : z = 2
  · rw [decide_eq_true w2]
    refine iteT ?_
    refine ⟨_, rfl, _, rfl, ?_⟩
    refine rSlA_any ht4 (cut_upto 2) fun p1 J1 v1 hp1 => ?_
    rw [← List.map_take] at hp1
    have tk2 : (taps.take 2).length = 2 := by rw [List.length_take]; omega
    refine ⟨p1, _, rfl, hp1, by rw [tk2, sizeLine_eq]; omega, fun ws p2 pm so hp2 => ?_⟩
    have v2 := same_upd (o := .lst (ws.map V.str)) hp2
    have e2 := upd_same (H := J1) (a := p2) (o := .lst (ws.map V.str))
    generalize upd J1 p2 (.lst (ws.map V.str)) = J2 at v2 e2 ⊢
    refine ⟨p2, _, rfl, .inl ⟨SqL.of e2, fun p3 hp3 => ?_⟩⟩
    have v3 := same_upd (o := .tup (ws.map V.str)) hp3
    have he5 : SqT K (upd J2 p3 (.tup (ws.map V.str))) p3 (ws.map V.str) := SqT.of upd_same
    have v13 := v1.trans (v2.trans v3)
    have wl : ws.length = 2 := by rw [pm.length_eq, tk2]
    have en : ∀ x ∈ ws, nameS x = true := fun x hx => tn x (List.mem_of_mem_take (pm.mem_iff.mp hx))
    obtain ⟨w0, w1', rfl⟩ := two_of wl
    have S5 := S4.same v13
    have k5 : Kp d g H4 _ := Kp.of v13
    generalize upd J2 p3 (.tup ([w0, w1'].map V.str)) = H5 at v13 he5 S5 k5 ⊢
    have at0 : atI ([w0, w1'].map V.str) 0 = some (.str w0) := rfl
    have at1 : atI ([w0, w1'].map V.str) 1 = some (.str w1') := rfl
    have n0 : nameS w0 = true := en w0 (by simp)
    have n1 : nameS w1' = true := en w1' (by simp)
    refine gname_id ?_
    dsimp only
    refine set_tup (K := K) (H0 := H5) (j := 0) (n := 10) (k := 2) (m := n + 3) S5 kr ?_ ?_
    · exact (gt_tup (ga_cons (ge_tup (ga_cons (ge_s (by decide +kernel)) (ga_cons (ge_ix (i := 6) S5 rfl he5 (fun _ _ q => q) at1 (Gv.name n1)) (ga_cons (ge_ix (i := 6) S5 rfl he5 (fun _ _ q => q) at0 (Gv.name n0)) (ga_cons (ge_i (by decide)) ga_nil)))) (by decide)) (ga_cons (ge_tup (ga_cons (ge_s (by decide +kernel)) (ga_cons (ge_var (i := 6) S5 rfl (gv_words he5 en 8 (by omega))) (ga_cons (ge_tup (ga_cons (ge_i (by decide)) (ga_cons (ge_i (by decide)) ga_nil)) (by decide)) ga_nil))) (by decide)) ga_nil)) (by decide))
    intro bo xs H6 hbo bl gbo S6 k6
    have k46 := k5.trans k6
    have ht6 := tk_seqT (k46.tk S4) ht4
    have hb6 := tk_seqT (k46.tk S4) hb4
    have gu6 : ∀ x ∈ us, Gv K d g H6 10 x := fun x hx => (gu4 x hx).kp S4 k46
    dsimp only
    refine ret_run (K := K) (H0 := H6) (j := 1) (n := 12) (m := n) (S6.less (by omega)) kr ?_ ?_
    · exact (ge_tup (ga_cons (ge_var (i := 2) S6 rfl (gv_words ht6 tn 10 (by omega))) (ga_cons (GT.ge (gt_cat (gt_cat (gt_cut (gt_var (i := 3) S6 rfl hb6 ul gu6) go_no (go_var rfl)) (gt_cutd rfl (gt_var (i := 7) S6 rfl hbo bl gbo)) (by omega)) (gt_cut (gt_var (i := 3) S6 rfl hb6 ul gu6) (go_var rfl) go_no) (by omega)) (show _ ≤ 1000 by omega)) ga_nil)) (by decide))
    · exact fun u H' gv S' k' => kf u H' gv S' (k46.trans k')
  rw [decide_eq_false w2]
  refine iteF ⟨_, rfl, rfl, _, rfl, ?_⟩
  rw [deq_int]
  by_cases w3 : z = 3
  · rw [decide_eq_true w3]
    refine iteT ?_
    refine ret_run (K := K) (H0 := H4) (j := 2) (n := 12) (m := n) (S4.less (by omega)) kr ?_ kf
    exact ge_crowd rfl rfl S4 hn4 DN
  rw [decide_eq_false w3]
  refine iteF ?_
  obtain ⟨i0, rfl⟩ := Int.eq_ofNat_of_zero_le sp0
  have il : i0 < us.length := by omega
  have aty : atI us (i0 : Int) = some us[i0] := atI_nat (List.getElem?_eq_getElem il)
  obtain ⟨r, hr0, hry⟩ := hus4.get (List.getElem?_eq_getElem il)
  have mr := List.mem_of_getElem? hr0
  have Ry := G.net.right r mr
  have e9 := DN.ends r mr
  have nb := DN.num r mr
  unfold tNext
  dsimp only
  refine ret_run (K := K) (H0 := H4) (j := 3) (n := 12) (m := n) S4 kr ?_ ?_
  · exact (ge_tup (ga_cons (ge_var (i := 2) S4 rfl (gv_words ht4 tn 10 (by omega))) (ga_cons (GT.ge (gt_cat (gt_cat (gt_cut (gt_var (i := 3) S4 rfl hb4 ul gu4) go_no (go_var rfl)) (gt_tup (ga_cons (ge_npart rfl rfl rfl S4 hb4 aty hry Ry e9 nb) ga_nil) (by decide)) (by omega)) (gt_cut (gt_var (i := 3) S4 rfl hb4 ul gu4) (go_add rfl) go_no) (by omega)) (show _ ≤ 1000 by omega)) ga_nil)) (by decide))
  · exact kf
end
end K05
set_option maxHeartbeats 2000000
set_option exponentiation.threshold 10000
namespace K05
open PySem PySem.Spec PyProof.Rows L2 Hx RZ
/-! ### drawn nets (from k06) -/
section
variable {P : Program} {w : World} {K : PySem.W.Frag} {mg : Str → Option Value} {base : Heap}
theorem sc_an_width : FnScope ["state", "great"] ["state", "great"] (defScope sL_an_width) := ⟨rfl, rfl, rfl, by decide +kernel, rfl, by decide +kernel, by decide +kernel⟩
theorem ok_an_width (D : Dn K mg "_law_an_width" sL_an_width) (B0 : Ok P w K mg base L2.CX0 4 "_law_ct_number" ["state"] (spNumber K)) (B1 : Ok P w K mg base L2.CX0 2 "_law_draw" ["state", "room"] spDraw) (B2 : Ok P w K mg base L2.CX0 2 "_law_ct_made" ["top", "bottom"] (spMade K)) : Ok P w K mg base L2.CX0 5 "_law_an_width" ["state", "great"] (spWidth K) := by
  obtain ⟨_, _, g_ct_number, k_ct_number, b_ct_number, F_ct_number⟩ := B0.ex
  obtain ⟨_, _, g_draw, k_draw, b_draw, F_draw⟩ := B1.ex
  obtain ⟨_, _, g_ct_made, k_ct_made, b_ct_made, F_ct_made⟩ := B2.ex
  refine Ok.mk0 D sc_an_width (fun vs H Q E h => ?_) (fun _ _ _ _ _ _ us hl => match us, hl with | [_, _], _ => rfl) (fun f cdv A outer s H vs Q E hr h => ?_)
  · obtain ⟨d, g, c, n, rfl, _⟩ := h
    rfl
  obtain ⟨d, g, c, n, rfl, hS, k⟩ := h
  have hr2 := hr.mono (show 2 ≤ 4 by decide)
  refine ⟨_, (pss_cons (ps_if (pt_not (pt_truth (pv 1) (by intro _; rfl)))
      (pss_one (ps_ret (pe_call F_ct_number hr rfl g_ct_number k_ct_number b_ct_number .nil pass0 (pa_cons (pv 0) pa_nil))))
      pss_nil)
    (pss_cons (ps_if (pt_cmpR op_eq (pe_call F_draw hr2 rfl g_draw k_draw b_draw .nil pass0 (pa_cons (pv 0) (pa_cons pe_int pa_nil))) pe_int (nomark _))
      (pss_one (ps_ret (pe_call F_draw hr2 rfl g_draw k_draw b_draw .nil pass0 (pa_cons (pv 0) (pa_cons (pe_op op_pow pe_int pe_int) pa_nil)))))
      pss_nil)
    (pss_one (ps_ret (pe_call F_ct_made hr2 rfl g_ct_made k_ct_made b_ct_made .nil pass0 (pa_cons (pe_call F_draw hr2 rfl g_draw k_draw b_draw .nil pass0 (pa_cons (pv 0) (pa_cons (pe_op op_pow pe_int pe_int) pa_nil))) (pa_cons (pe_op op_add pe_int (pe_call F_draw hr2 rfl g_draw k_draw b_draw .nil pass0 (pa_cons (pv 0) (pa_cons (pe_op op_sub (pe_op op_pow pe_int pe_int) pe_int) pa_nil)))) pa_nil))))))), ?_⟩
  refine ⟨_, rfl, true, rfl, iteF ?_⟩
  refine ⟨_, rfl, d, g, c, n + 2, 2, rfl, hS, by decide, by decide +kernel, fun z H2 z0 z2 S2 kp => ?_⟩
  refine ⟨rfl, _, rfl, ?_⟩
  rw [deq_int]
  by_cases hz : z = 0
  · rw [decide_eq_true hz]
    refine iteT ⟨_, rfl, 10, 30, rfl, rfl, ⟨by decide, by decide, by decide⟩, d, g, c, n + 1, _, rfl, S2, by decide +kernel, by decide +kernel, fun y H3 y0 y1 S3 kp2 => ?_⟩
    exact k _ (.w y) H3 rfl ⟨by show (true && decide (0 ≤ y)) = true; rw [decide_eq_true y0]; rfl, y0, y1, by show (0 : Int) ≤ 1; decide, by show (1 : Int) < 10 ^ 30; decide⟩ (S3.less (by omega)) (kp.trans kp2)
  · rw [decide_eq_false hz]
    refine iteF ⟨_, rfl, 10, 30, rfl, rfl, ⟨by decide, by decide, by decide⟩, d, g, c, n + 1, _, rfl, S2, by decide +kernel, by decide +kernel, fun y H3 y0 y1 S3 kp2 => ?_⟩
    refine ⟨_, rfl, 10, 30, rfl, rfl, ⟨by decide, by decide, by decide⟩, _, _, rfl, rfl, d, g, c, n, _, rfl, S3, by decide +kernel, by decide +kernel, fun x H4 x0 x1 S4 kp3 => ?_⟩
    have x1' : x < 10 ^ 30 - 1 := x1
    refine ⟨_, _, rfl, rfl, y, 1 + x, rfl, by omega, ?_, fun v H5 s5 hv => ?_⟩
    · have e : (1 + x).natAbs < 10 ^ 31 := by omega
      exact Nat.lt_trans e (by decide +kernel)
    · exact k v _ H5 hv (made_30 y0 y1 (by omega) (by omega)) (S4.same s5) (kp.trans (kp2.trans (kp3.trans (Kp.of s5))))
theorem sc_an_net : FnScope ["state", "taps_here", "sort_here", "drawn", "part"] ["state", "taps_here", "sort_here"] (defScope sL_an_net) := ⟨rfl, rfl, rfl, by decide +kernel, rfl, by decide +kernel, by decide +kernel⟩
theorem ok_an_net (D : Dn K mg "_law_an_net" sL_an_net) (B0 : Ok P w K mg base L2.CX0 6 "_law_ct_net" ["state", "taps_here", "sort_here"] (spNet K)) (B1 : Ok P w K mg base L2.CX0 2 "_law_draw" ["state", "room"] spDraw) (B2 : Ok P w K mg base L2.CX0 5 "_law_an_width" ["state", "great"] (spWidth K)) (h_tuple : mg "tuple" = none) : Ok P w K mg base L2.CX0 7 "_law_an_net" ["state", "taps_here", "sort_here"] (spANet K) := by
  obtain ⟨_, _, g_ct_net, k_ct_net, b_ct_net, F_ct_net⟩ := B0.ex
  obtain ⟨_, _, g_draw, k_draw, b_draw, F_draw⟩ := B1.ex
  obtain ⟨_, _, g_an_width, k_an_width, b_an_width, F_an_width⟩ := B2.ex
  refine Ok.mk0 D sc_an_net (fun vs H Q E h => ?_) (fun _ _ _ _ _ _ us hl => match us, hl with | [_, _, _], _ => rfl) (fun f cdv A outer s H vs Q E hr h => ?_)
  · obtain ⟨d, g, c, t, n, taps, sort, rfl, _⟩ := h
    rfl
  obtain ⟨d, g, c, t, n, taps, sort, rfl, hS, ht, tok, tin, k⟩ := h
  have nd := sc_an_net.nd
  have hr5 := hr.mono (show 5 ≤ 6 by decide)
  have hr2 := hr.mono (show 2 ≤ 6 by decide)
  refine ⟨_, (pss_cons (ps_set (i := 3) nd rfl (Or.inl rfl) (pe_call F_ct_net hr rfl g_ct_net k_ct_net b_ct_net .nil pass0 (pa_cons (pv 0) (pa_cons (pv 1) (pa_cons (pv 2) pa_nil)))))
    (pss_cons (ps_if (pt_cmpR op_gt (pe_call F_draw hr2 rfl g_draw k_draw b_draw .nil pass0 (pa_cons (pv 0) (pa_cons pe_int pa_nil))) pe_int (nomark _))
      (pss_one (ps_ret (pv 3)))
      pss_nil)
    (pss_one (ps_ret (pe_tup (pa_cons (pv 1) (pa_cons (pe_callTy call_tuple_of (by rfl) h_tuple (by decide +kernel) (pa_cons (pe_lc (own := [("part", 4)]) (g := gName 4) (tt := tYes) rfl nd (pi_tup (pe_ix ix_tup (pv 3) pe_int (fun _ _ => rfl))) (blkOk_by (own := [("part", 4)]) (N := ["state", "taps_here", "sort_here", "drawn", "part"]) (sc := defScope sL_an_net) (by decide +kernel)) (fun _ _ _ _ _ => pg_name (i := 4) nd rfl (Or.inl rfl)) (fun _ _ _ _ _ => pts_nil) (fun _ _ _ _ _ => (pe_op (op_catAK (K := K) rfl) (pe_slice (sl_tupAK (K := K) rfl) (pv 4) po_none (po_some (pe_un un_neg pe_int))) (pe_tup (pa_cons (pe_call F_an_width hr5 rfl g_an_width k_an_width b_an_width .nil pass0 (pa_cons (pv 0) (pa_cons pe_bl pa_nil))) pa_nil))))) pa_nil)) pa_nil))))))), ?_⟩
  refine ⟨_, rfl, _, rfl, _, rfl, d, g, c, t, n + 28, taps, sort, rfl, hS, ht, tok, tin, fun v rs H2 hnet hD hI hSo hsm S2 kp => ?_⟩
  refine ⟨_, rfl, d, g, c, n + 27, 4, rfl, S2, by decide, by decide +kernel, fun z H3 z0 z4 S3 kp2 => ?_⟩
  have hnet3 := hnet.keep (kp2.tk S2)
  have kp02 := kp.trans kp2
  refine ⟨_, _, rfl, rfl, _, rfl, ?_⟩
  by_cases hz : (0 : Int) < z
  · rw [decide_eq_true hz]
    exact iteT ⟨_, rfl, k v rs H3 hnet3 hD hI hSo (fun r hr => smalls_30 (hsm r hr)) (S3.less (by omega)) kp02⟩
  · rw [decide_eq_false hz]
    obtain ⟨a, t2, b, us, rfl, ha, ht2, hb, hu⟩ := hnet3
    have ht3 := tk_seqT (kp02.tk hS) ht
    obtain ⟨ps, sort2, pl9, psub, pnd, pdr⟩ := hD.ps
    obtain ⟨I, I3, Iin, Isub⟩ := hI
    have few := hD.few
    have thr := hD.one
    have ll := hu.len
    refine iteF ⟨_, rfl, _, rfl, a, _, 1, _, rfl, rfl, ha, rfl, b, rfl, ⟨_, hb⟩, fun Z hZ => ?_⟩
    have offZ := S3.off hZ
    refine lc_any (n := us.length) (J := Itt K b) (fun i H => ∃ acc rs2, H Z = some (.lst acc) ∧ RawsAt K H acc rs2 ∧ (∀ r ∈ rs2, Drawn ps sort2 r ∧ Num30 r.num ∧ (∀ x ∈ r.ends, x ∈ taps ∨ x ∈ I) ∧ SoR sort r) ∧ rs2.length = i ∧ St H d g c (n + 3 * (9 - i)) ∧ Kp d g H3 H) ⟨[], [], upd_same, .nil, fun r hr => by simp at hr, rfl, (S3.same (same_upd hZ)).less (by omega), Kp.of (same_upd hZ)⟩ (fun i H hi ⟨_, _, _, _, _, _, _, kq⟩ => ⟨_, _, tk_seqT (kq.tk S3) hb, List.getElem?_eq_getElem hi⟩) (fun H ⟨_, _, _, _, _, _, _, kq⟩ => ⟨_, tk_seqT (kq.tk S3) hb, Nat.le_refl _⟩) ?_ ?_
    · rintro i x H11 H' hi ⟨acc, rs2, ea, hraws, hdr, rl, S11, kp4⟩ ⟨e9, yx⟩
      subst e9
      have tk4 := kp4.tk S3
      obtain ⟨r, hr2', hraw⟩ := hu.get (yx _ (tk_seqT tk4 hb))
      have dr := pdr r (List.mem_of_getElem? hr2')
      obtain ⟨pa, xs, ys, u, rfl, hpa, exs, yne, y3, mk⟩ := raw_init (hraw.keep tk4) dr.right
      refine ⟨rfl, ?_⟩
      unfold tYes
      simp only [↓reduceIte]
      refine ⟨_, rfl, ?_⟩
      show tNoPart _ _ _
      unfold tNoPart
      refine ⟨_, rfl, _, rfl, ?_⟩
      have hcut : cutV xs none (some (-1)) = ys := by
        rw [cut_to, exs]
        simp
      refine rSlA_any hpa hcut fun q H5 s5 hq => ?_
      have S5 := S11.same s5
      refine ⟨_, rfl, d, g, c, n + 3 * (9 - (i + 1)), rfl, S5.less (by omega), fun wv m H6 hw m30 S6 kp5 => ⟨by show 1 ≤ sizeLine; rw [sizeLine_eq]; decide, fun e he => ?_⟩⟩
      have s6 := same_upd (o := .tup [wv]) he
      have tk5 := kp5.tk S5
      refine rCatA_any (same_seqT s6 (tk_seqT tk5 hq)) (SqT.of upd_same) (by rw [sizeLine_eq]; simp; omega) fun p H7 s7 hp => ?_
      have s67 := s6.trans s7
      have ea2 := s67 _ _ (kp5 _ _ (s5 _ _ ea) offZ.2 offZ.1)
      have tkall : TK H' H7 := (TK.of s5).trans (tk5.trans (.of s67))
      have sl : TK H7 (upd H7 Z (.lst (acc ++ [.ref p]))) := .lst ea2
      have al : acc.length = rs2.length := hraws.len
      have newr := mk H7 p wv m tkall hp (hw.keep (.of s67))
      refine ⟨acc, ea2, by rw [sizeLine_eq]; omega, acc ++ [.ref p], rs2 ++ [r.withN m], upd_same, ((hraws.keep tkall).keep sl).app (.cons (newr.keep sl) .nil), fun r7 hr7 => ?_, by rw [List.length_append, rl]; rfl, ?_, ?_⟩
      · rcases List.mem_append.mp hr7 with e | e
        · exact hdr r7 e
        · rw [List.mem_singleton.mp e]; exact ⟨withN_drawn dr m30.ok, by rw [withN_num]; exact m30, by rw [withN_ends]; exact Isub r (List.mem_of_getElem? hr2'), by unfold SoR; rw [withN_word]; exact hSo r (List.mem_of_getElem? hr2')⟩
      · obtain ⟨gs, cs, r1, t1, h1, h2, h3, h4⟩ := S6.same s67
        exact ⟨gs, cs, r1, t1, by rw [upd_ne offZ.2.symm]; exact h1, by rw [upd_ne offZ.1.symm]; exact h2, by
          have nc : c ≠ Z := fun e => S3.offc hZ e.symm
          rw [upd_ne nc]; exact h3, h4⟩
      · intro b2 o e n1 n2
        by_cases hb2 : b2 = Z
        · rw [hb2, hZ] at e; cases e
        · rw [upd_ne hb2]
          exact s67 _ _ (kp5 _ _ (s5 _ _ (kp4 _ _ e n1 n2)) n1 n2)
    · rintro H11 ⟨acc, rs2, ea, hraws, hdr, rl, S11, kp4⟩
      refine ⟨Z, acc, rfl, .inl ⟨SqL.of ea, fun b2 hb2 => ⟨by show 2 ≤ sizeLine; rw [sizeLine_eq]; decide, fun v hv => ?_⟩⟩⟩
      have s13 := same_upd (o := .tup [.ref t, .ref b2]) hv
      have s123 := (same_upd (o := .tup acc) hb2).trans s13
      refine k _ rs2 _ ⟨v, t, b2, acc, rfl, SqT.of upd_same, same_seqT s123 (tk_seqT (kp4.tk S3) ht3), same_seqT s13 (SqT.of upd_same), hraws.keep (.of s123)⟩ ⟨tok, ⟨ps, sort2, pl9, psub, pnd, fun r hr => (hdr r hr).1⟩, by omega, by omega⟩ ⟨I, I3, Iin, fun r hr => (hdr r hr).2.2.1⟩ (fun r hr => (hdr r hr).2.2.2) (fun r hr => (hdr r hr).2.1) ((S11.same s123).less (by omega)) (kp02.trans (kp4.trans (Kp.of s123)))
theorem sc_an_drawn : FnScope ["state", "least", "most", "sort_here"] ["state", "least", "most"] (defScope sL_an_drawn) := ⟨rfl, rfl, rfl, by decide +kernel, rfl, by decide +kernel, by decide +kernel⟩
theorem ok_an_drawn (D : Dn K mg "_law_an_drawn" sL_an_drawn) (B0 : Ok P w K mg base L2.CX0 3 "_law_pick" ["state", "some"] (spPick K)) (B1 : Ok P w K mg base L2.CX0 4 "_law_ct_taps" ["state", "least", "most"] (spTaps K)) (B2 : Ok P w K mg base L2.CX0 7 "_law_an_net" ["state", "taps_here", "sort_here"] (spANet K)) : Ok P w K mg base L2.CX0 8 "_law_an_drawn" ["state", "least", "most"] (spDrawn K) := by
  obtain ⟨_, _, g_pick, k_pick, b_pick, F_pick⟩ := B0.ex
  obtain ⟨_, _, g_ct_taps, k_ct_taps, b_ct_taps, F_ct_taps⟩ := B1.ex
  obtain ⟨_, _, g_an_net, k_an_net, b_an_net, F_an_net⟩ := B2.ex
  refine Ok.mk0 D sc_an_drawn (fun vs H Q E h => ?_) (fun _ _ _ _ _ _ us hl => match us, hl with | [_, _, _], _ => rfl) (fun f cdv A outer s H vs Q E hr h => ?_)
  · obtain ⟨d, g, c, n, M, rfl, _⟩ := h
    rfl
  obtain ⟨d, g, c, n, M, rfl, hM, hS, k⟩ := h
  have nd := sc_an_drawn.nd
  have hr3 := hr.mono (show 3 ≤ 7 by decide)
  have hr4 := hr.mono (show 4 ≤ 7 by decide)
  refine ⟨_, (pss_cons (ps_set (i := 3) nd rfl (Or.inl rfl) (pe_call F_pick hr3 rfl g_pick k_pick b_pick .nil pass0 (pa_cons (pv 0) (pa_cons (pe_lst (pa_cons pe_str (pa_cons pe_str (pa_cons pe_str pa_nil)))) pa_nil))))
    (pss_one (ps_ret (pe_call F_an_net hr rfl g_an_net k_an_net b_an_net .nil pass0 (pa_cons (pv 0) (pa_cons (pe_call F_ct_taps hr4 rfl g_ct_taps k_ct_taps b_ct_taps .nil pass0 (pa_cons (pv 0) (pa_cons (pv 1) (pa_cons (pv 2) pa_nil)))) (pa_cons (pv 3) pa_nil))))))), ?_⟩
  refine ⟨_, rfl, by show 3 ≤ sizeLine; rw [sizeLine_eq]; decide, fun l hl => ?_⟩
  have s1 := same_upd (o := .lst [.str "pipes", .str LEADS, .str HUBS]) hl
  have offl := hS.off hl
  refine ⟨d, g, c, l, n + 156, _, rfl, hS.same s1, SqL.of upd_same, offl.1, by simp, by simp, fun i x H2 hx S2 kp => ?_⟩
  obtain ⟨so, rfl⟩ : ∃ so : Str, x = .str so := by
    match i, hx with
    | 0, hx => cases hx; exact ⟨_, rfl⟩
    | 1, hx => cases hx; exact ⟨_, rfl⟩
    | 2, hx => cases hx; exact ⟨_, rfl⟩
  refine ⟨_, rfl, _, rfl, _, rfl, _, rfl, d, g, c, n + 148, M, rfl, hM, S2, fun t taps H3 ht tok t35 tin S3 kp2 => ?_⟩
  exact ⟨_, rfl, d, g, c, t, n, taps, so, rfl, S3, ht, tok, tin, fun v rs H4 hn hD hI hSo h30 S4 kp3 => k v taps rs H4 hn hD hI t35 tin h30 S4 ((Kp.of s1).trans (kp.trans (kp2.trans kp3)))⟩
end
end K05
set_option maxHeartbeats 4000000
set_option exponentiation.threshold 10000
namespace K05
open PySem PySem.Spec PyProof.Rows L2 Hx RZ
/-! ### the law -/
theorem OddSort.ext {K : PySem.W.Frag} {H H' : Hp} {v : V} (s : LamX.ExtN H H') : OddSort K H v → OddSort K H' v
  | .inl ⟨d, h1, h2⟩ => .inl ⟨d, dp_ext s h1, h2⟩
  | .inr h => .inr h
section
variable {P : Program} {w : World} {K : PySem.W.Frag} {mg : Str → Option Value} {base : Heap}
def spLaw (T : List (Addr × Str)) (K : PySem.W.Frag) : Sp := fun vs H Q _ => ∃ (a : Addr) (ns : List Int), vs = [.ref a] ∧ SqL K H a (ns.map V.int) ∧ ns.length ≤ 63 ∧ LamX.Tabs T H ∧ ∀ H', Q (.bl true) H'
abbrev NLw : List Str := ["script", "state", "lap", "net_here", "thing", "good", "bad", "odd", "caught"]
theorem sc_law : FnScope NLw ["script"] (defScope slaw) := ⟨rfl, rfl, rfl, by decide +kernel, rfl, by decide +kernel, by decide +kernel⟩
theorem ok_law {CT CN CS P1 P2 c0 f0 : Addr} (X0 : LawE K mg CT CN CS) (KV : PySem.W.kitOne K (.ref CS) (.type "ValueError") = some true) (ne : P1 ≠ P2) {oc dV kV doc pm ct : Value} {od an : Option Addr} {osl : Array (Option Value)} (lk0 : K.lookup f0 = some ⟨oc, od, .func (PySem.W.fnOf "law" "law" (defArgs slaw) (defBody slaw) (defScope slaw) dV kV doc pm an (.ref c0) ct), osl⟩) (hcd0 : PySem.W.codeIn K (.ref c0) "law" = true)
    (TB : LamX.TabB base mg c0 P2) (Dc : Dn K mg "_law_caught" sL_caught) (B0 : Ok P w K mg base L2.CX0 1 "_law_begun" ["script"] (spBegun K)) (B1 : Ok P w K mg base L2.CX0 8 "_law_an_drawn" ["state", "least", "most"] (spDrawn K)) (B2 : OkN P w K mg base L2.CX0 5 "is_net" ["value"] 0 ["value"] (spNetP K)) (B3 : Ok P w K mg base L2.CX0 8 "_law_an_told_right" ["net_here"] (spTold K)) (B4 : Ok P w K mg base L2.CX0 5 "_law_an_near" ["state", "net_here"] (spNear K)) (B5 : Ok P w K mg base L2.CX0 5 "_law_an_is_net" ["thing"] (spNetP K)) (B6 : Ok P w K mg base L2.CX0 11 "_law_an_all_refuse" ["thing", "good"] (spAllRefuse (T2 P1 P2) K)) (B7 : Ok P w K mg base L2.CX0 4 "_law_ct_bad_net" ["state"] (spBadNet K)) (B8 : Ok P w K mg base L2.CX0 3 "_law_pick" ["state", "some"] (spPick K)) (B9 : Ok P w K mg base L2.CX0 1 "_law_is_truth" ["found", "due"] spTruth) (B10 : OkN P w K mg base (L2.CX P w) 7 "sort_of" ["net"] 0 ["net"] (spSortOf K CN)) (B11 : OkN P w K mg base (L2.CX P w) 7 "is_of_sort" ["net", "sort"] 1 ["sort"] (spIsOf K CN CS))
    (h_isinstance : mg "isinstance" = none) (h_range : mg "range" = none) (h_ValueError : mg "ValueError" = none) :
    FnOk P w K mg base L2.CX0 12 f0 (PySem.W.fnOf "law" "law" (defArgs slaw) (defBody slaw) (defScope slaw) dV kV doc pm an (.ref c0) ct) ["script"] (spLaw (T2 P1 P2) K) := by
  obtain ⟨fc, fdc, gc, Fc⟩ := Dc
  obtain ⟨occ, odc, dVc, kVc, docc, pmc, anc, cdc, ctc, oslc, rfl, lkc, hcdc, hDc, hKc⟩ := Fc.ex
  have bc := Fc.bindsN (ps := ["action"]) fun _ _ _ _ _ _ us hl => match us, hl with | [_], _ => rfl
  obtain ⟨_, _, g_begun, k_begun, b_begun, F_begun⟩ := B0.ex
  obtain ⟨_, _, g_drawn, k_drawn, b_drawn, F_drawn⟩ := B1.ex
  obtain ⟨_, _, g_is_net, k_is_net, b_is_net, F_is_net, kw_is_net⟩ := B2.ex
  obtain ⟨_, _, g_told, k_told, b_told, F_told⟩ := B3.ex
  obtain ⟨_, _, g_near, k_near, b_near, F_near⟩ := B4.ex
  obtain ⟨_, _, g_anet, k_anet, b_anet, F_anet⟩ := B5.ex
  obtain ⟨_, _, g_refuse, k_refuse, b_refuse, F_refuse⟩ := B6.ex
  obtain ⟨_, _, g_bad, k_bad, b_bad, F_bad⟩ := B7.ex
  obtain ⟨_, _, g_pick, k_pick, b_pick, F_pick⟩ := B8.ex
  obtain ⟨_, _, g_truth, k_truth, b_truth, F_truth⟩ := B9.ex
  obtain ⟨_, _, g_sort, k_sort, b_sort, F_sort, kw_sort⟩ := B10.ex
  obtain ⟨_, _, g_isof, k_isof, b_isof, F_isof, kw_isof⟩ := B11.ex
  refine fn_of lk0 hcd0 sc_law (fun vs H Q E h => ?_) (fun A outer s H vs Q E hr h => ?_)
  · obtain ⟨a, ns, rfl, _⟩ := h
    rfl
  suffices hh : ∃ t, PSs (cxOf L2.CX0 P w K mg base NLw "law" (defScope slaw) f0 (.ref c0) A outer s H E).nox (defBody slaw) t ∧ t { nx := fun _ H' => Q .non H', rt := Q } (L2.start NLw vs) H by
    obtain ⟨t, ht, q⟩ := hh
    exact ⟨t, ht.nox, q⟩
  obtain ⟨a, ns, rfl, hs, hl, hT, k⟩ := h
  have nd := sc_law.nd
  have hr1 := hr.mono (show 1 ≤ 11 by decide)
  have hr3 := hr.mono (show 3 ≤ 11 by decide)
  have hr4 := hr.mono (show 4 ≤ 11 by decide)
  have hr5 := hr.mono (show 5 ≤ 11 by decide)
  have hr8 := hr.mono (show 8 ≤ 11 by decide)
  refine ⟨_, (pss_cons (ps_set (i := 1) nd rfl (Or.inl rfl) (pe_call F_begun hr1 rfl g_begun k_begun b_begun .nil pass0 (pa_cons (pv 0) pa_nil)))
  (pss_cons (ps_for PassesOwn.never rfl (pi_range1 rfl h_range (pa_cons pe_int pa_nil)) (pg_name (i := 2) nd rfl (Or.inl rfl))
    (pss_cons (ps_set (i := 3) nd rfl (Or.inr rfl) (pe_call F_drawn hr8 rfl g_drawn k_drawn b_drawn .nil pass0 (pa_cons (pv 1) (pa_cons pe_int (pa_cons pe_int pa_nil)))))
  (pss_cons (ps_if (PW.pt (pw_or (pt_not (pt_val (pe_call F_truth hr1 rfl g_truth k_truth b_truth .nil pass0 (pa_cons (pe_call F_is_net hr5 rfl g_is_net k_is_net b_is_net .nil pass0 (pa_cons (pv 3) pa_nil)) (pa_cons pe_bl pa_nil))))) (pw_or1 (pt_not (pt_val (pe_call F_told hr8 rfl g_told k_told b_told .nil pass0 (pa_cons (pv 3) pa_nil)))))))
    (pss_one (ps_ret pe_bl))
    pss_nil)
  (pss_cons (ps_set (i := 4) nd rfl (Or.inl rfl) (pe_call F_near hr5 rfl g_near k_near b_near .nil pass0 (pa_cons (pv 1) (pa_cons (pv 3) pa_nil))))
  (pss_cons (ps_set (i := 5) nd rfl (Or.inl rfl) (pe_call F_anet hr5 rfl g_anet k_anet b_anet .nil pass0 (pa_cons (pv 4) pa_nil)))
  (pss_cons (ps_if (pt_not (pt_val (pe_call F_truth hr1 rfl g_truth k_truth b_truth .nil pass0 (pa_cons (pe_callKw F_is_net hr5 rfl g_is_net k_is_net kw_is_net pass0 (pk_cons (pv 4) pk_nil)) (pa_cons (pv 5) pa_nil)))))
    (pss_one (ps_ret pe_bl))
    pss_nil)
  (C8.pss_cut (ps_if (PW.pt (pw_and (pt_val (pv 5)) (pw_and1 (pt_not (pt_val (pe_call F_told hr8 rfl g_told k_told b_told .nil pass0 (pa_cons (pv 4) pa_nil)))))))
    (pss_one (ps_ret pe_bl))
    pss_nil)
  (C8.pss_cut (ps_if (PW.pt (pw_and (pt_not (pt_val (pv 5))) (pw_and1 (pt_not (pt_val (pe_call F_refuse hr rfl g_refuse k_refuse b_refuse .nil pass0 (pa_cons (pv 4) (pa_cons (pv 3) pa_nil))))))))
    (pss_one (ps_ret pe_bl))
    pss_nil)
  (pss_cons (ps_set (i := 6) nd rfl (Or.inr rfl) (pe_call F_bad hr4 rfl g_bad k_bad b_bad .nil pass0 (pa_cons (pv 1) pa_nil)))
  (pss_cons (ps_if (PW.pt (pw_or (pt_not (pt_val (pe_call F_truth hr1 rfl g_truth k_truth b_truth .nil pass0 (pa_cons (pe_call F_is_net hr5 rfl g_is_net k_is_net b_is_net .nil pass0 (pa_cons (pv 6) pa_nil)) (pa_cons pe_bl pa_nil))))) (pw_or1 (pt_not (pt_val (pe_callB call_isK (by rfl) h_isinstance (by decide +kernel) (pa_cons (LamX.pe_lamcall (k := 8) (T := T2 P1 P2) (TT := TCaught K CT) (a := "action") (Ng := ["action", "found", "error"]) rfl gc Fc.kp lkc hcdc bc sc_caught rfl (Or.inl rfl)
        (caught_gives (p8 := ⟨0, 0, 0, 0⟩) rfl X0.tap (by decide) rfl rfl rfl (by decide +kernel) (by decide) (by decide) (by decide) (by decide) (fun _ => rfl) (fun _ => rfl)) TB rfl (List.mem_cons_of_mem _ List.mem_cons_self) (two2 ne) (hr.mono (by decide)) (LamX.lamS_by (sc := defScope slaw) (by decide +kernel)) rfl (fun _ _ _ _ _ => rfl)
        (fun A outer s H E f c' hr' => pe_call F_sort (hr'.mono (by decide)) rfl g_sort k_sort b_sort .nil (passes_call (takes_of rfl rfl rfl rfl) (fun _ _ _ _ h => h)) (pa_cons (pv 6) pa_nil))) (pa_cons (pe_glob (v := .ref CN) rfl X0.bn rfl) pa_nil))))))))
    (pss_one (ps_ret pe_bl))
    pss_nil)
  (pss_cons (ps_set (i := 7) nd rfl (Or.inr rfl) (pe_call F_pick hr3 rfl g_pick k_pick b_pick .nil pass0 (pa_cons (pv 1) (pa_cons (pe_lst (pa_cons pe_non (pa_cons pe_str (pa_cons pe_str (pa_cons pe_int (pa_cons pe_bl (pa_cons (pe_lst (pa_cons pe_str pa_nil)) (pa_cons pe_str (pa_cons (pe_tup (pa_cons pe_str pa_nil)) pa_nil))))))))) pa_nil))))
  (pss_cons (ps_set (i := 8) nd rfl (Or.inl rfl) (LamX.pe_lamcall (k := 8) (T := T2 P1 P2) (TT := TCaught K CT) (a := "action") (Ng := ["action", "found", "error"]) rfl gc Fc.kp lkc hcdc bc sc_caught rfl (Or.inl rfl)
        (caught_gives (p8 := ⟨0, 0, 0, 0⟩) rfl X0.tap (by decide) rfl rfl rfl (by decide +kernel) (by decide) (by decide) (by decide) (by decide) (fun _ => rfl) (fun _ => rfl)) TB rfl (List.mem_cons_of_mem _ List.mem_cons_self) (two2 ne) (hr.mono (by decide)) (LamX.lamS_by (sc := defScope slaw) (by decide +kernel)) rfl (fun _ _ _ _ _ => rfl)
        (fun A outer s H E f c' hr' => pe_call F_isof (hr'.mono (by decide)) rfl g_isof k_isof b_isof .nil (passes_call (takes_of rfl rfl rfl rfl) (fun _ _ _ _ h => h)) (pa_cons (pv 3) (pa_cons (pv 7) pa_nil)))))
  (pss_one (ps_if (PW.pt (pw_or (pt_not (pt_val (pe_callB call_isK (by rfl) h_isinstance (by decide +kernel) (pa_cons (pv 8) (pa_cons (pe_glob (v := .ref CS) rfl X0.bs rfl) pa_nil))))) (pw_or1 (pt_not (pt_val (pe_callB call_isK (by rfl) h_isinstance (by decide +kernel) (pa_cons (pv 8) (pa_cons (pe_bltn (v := .ty "ValueError") (by rfl) h_ValueError (by decide +kernel) rfl) pa_nil))))))))
    (pss_one (ps_ret pe_bl))
    pss_nil))))))))))))))
  (pss_one (ps_ret pe_bl)))), ?_⟩
  have one1 : (1 : Nat) ≤ sizeLine := by rw [sizeLine_eq]; decide
  have eight : (8 : Nat) ≤ sizeLine := by rw [sizeLine_eq]; decide
  refine ⟨_, rfl, a, ns, rfl, hs, hl, fun d g c H1 S1 s1 => ?_⟩
  have T1 := hT.ext s1
  have S1' : St H1 d g c 1000 := S1.less (by decide)
  let Pv : Nat → L2.St → Hp → Prop := fun i σ H' => ∃ o2 o3 o4 o5 o6 o7 o8 : Option V, σ = [some (.ref a), some (.ref d), o2, o3, o4, o5, o6, o7, o8] ∧ St H' d g c (1000 - 300 * i) ∧ LamX.Tabs (T2 P1 P2) H'
  refine ⟨3, rfl, by decide, by decide, for_range Pv ⟨_, _, _, _, _, _, _, rfl, S1', T1⟩ ?_ ?_⟩
  rotate_left
  · rintro σ H' ⟨_, _, _, _, _, _, _, rfl, _⟩
    exact k H'
  rintro i σ H2 hi ⟨o2, o3, o4, o5, o6, o7, o8, rfl, S2, T2'⟩
  have hi3 : i < 3 := hi
  refine ⟨_, rfl, d, g, c, 800 - 300 * i, 6, rfl, ⟨by decide, by decide⟩, S2.less (by omega), fun v taps rs H3 hn hD hI t26 tin h30 S3 kp3 => ?_⟩
  have T3 := tabs_kp T2' kp3 S2
  have DN : DrawnN taps rs := ⟨hD, h30⟩
  have G := good_drawn hD h30
  clear S2 T2' kp3 hI t26 tin hT T1 S1 S1' s1
  refine ⟨_, rfl, v, netData taps rs, rfl, hn.dt.dp, G.fine, fun b H4 s4 hb => ?_⟩
  obtain rfl : b = true := hb.mpr ⟨taps, rs, rfl, G.net⟩
  refine ⟨true, true, rfl, _, rfl, ?_⟩
  refine iteF ⟨_, rfl, v, taps, rs, rfl, hn.keep (.of s4), G, fun H5 s5 => ⟨_, rfl, iteF ?_⟩⟩
  have s45 := s4.trans s5
  have hn5 := hn.keep (.of s45)
  have S5 := S3.same s45
  have T5 := T3.ext s45
  refine ⟨_, rfl, _, rfl, d, g, c, 790 - 300 * i, v, taps, rs, rfl, S5.less (by omega), hn5, DN, fun u H6 gu S6 k6 => ?_⟩
  have T6 := tabs_kp T5 k6 S5
  have hn6 := hn5.keep (k6.tk S5)
  obtain ⟨dd, hd6, fd⟩ := gu.data
  clear s4 s5 s45 hn hn5 S3 S5 T3 T5 k6 gu hb
  refine ⟨_, rfl, u, dd, rfl, hd6, fd, fun b H7 s7 hb => ?_⟩
  refine ⟨_, rfl, rfl, u, dd, rfl, dp_same s7 hd6, fd, fun b2 H8 s8 hb2 => ⟨_, rfl, b2, b, rfl, _, rfl, ?_⟩⟩
  obtain rfl : b2 = b := Bool.eq_iff_iff.mpr (hb2.trans hb.symm)
  rw [show (b2 == b2) = true by simp]
  have s78 := s7.trans s8
  have hd8 := dp_same s78 hd6
  have hn8 := hn6.keep (.of s78)
  have T8 := T6.ext s78
  have S8 := S6.same s78
  refine iteF ?_
  clear hd6 hn6 T6 S6 s7 s8 s78 hb2
  refine ⟨fun σ H' => σ = [some (.ref a), some (.ref d), some (.int (0 + (i : Int))), some v, some u, some (.bl b2), o6, o7, o8] ∧ Same H8 H', ?_, ?_⟩
  · refine ⟨_, rfl, b2, rfl, ?_⟩
    cases b2 with
    | false => exact iteF ⟨rfl, Same.refl _⟩
    | true =>
      obtain ⟨taps2, rs2, rfl, N⟩ := hb.mp rfl
      exact iteT ⟨_, rfl, u, taps2, rs2, rfl, dp_net hd8, ⟨N, fd⟩, fun H9 s9 => ⟨_, rfl, iteF ⟨rfl, s9⟩⟩⟩
  rintro σ H9 ⟨rfl, s9⟩
  refine ⟨fun σ H' => σ = [some (.ref a), some (.ref d), some (.int (0 + (i : Int))), some v, some u, some (.bl b2), o6, o7, o8] ∧ LamX.ExtN H8 H' ∧ LamX.Tabs (T2 P1 P2) H', ?_, ?_⟩
  · refine ⟨_, rfl, b2, rfl, ?_⟩
    cases b2 with
    | true => exact iteF ⟨rfl, .of s9, T8.ext s9⟩
    | false =>
      have nN : ¬ NetP dd := fun z => Bool.noConfusion (hb.mpr z)
      exact iteT ⟨_, rfl, _, rfl, u, v, dd, netData taps rs, rfl, dp_same s9 hd8, fd, nN, (hn8.keep (.of s9)).dt.dp, G.fine, ⟨taps, rs, rfl, G.net⟩, T8.ext s9, fun H10 e10 T10 => ⟨_, rfl, iteF ⟨rfl, (LamX.ExtN.of s9).trans e10, T10⟩⟩⟩
  clear s9
  rintro σ H9 ⟨rfl, e9, T9⟩
  have S9 := S8.ext e9
  have hn9 := hn8.keep (ext_tk e9)
  clear hd8 hn8 T8 S8 hb fd e9
  refine ⟨_, rfl, d, g, c, 780 - 300 * i, rfl, S9.less (by omega), fun wv db H10 hdb bb S10 k10 => ?_⟩
  have T10 := tabs_kp T9 k10 S9
  have hn10 := hn9.keep (k10.tk S9)
  clear T9 S9 hn9 k10
  refine ⟨_, rfl, wv, db, rfl, hdb, bb.1, fun b H11 s11 hb => ?_⟩
  obtain rfl : b = false := Bool.eq_false_iff.mpr fun z => bb.2 (hb.mp z)
  refine ⟨false, false, rfl, _, rfl, ?_⟩
  refine iteF ⟨T10.ext s11, fun J1 j1 TJ1 => ?_⟩
  unfold TCaught
  refine ⟨_, rfl, wv, rfl, .inr ⟨db, dp_ext j1 (dp_same s11 hdb), bb.1, bb.2, fun J2 s12 => ?_⟩⟩
  refine ⟨true, X0.exN, fun _ xx hx => ?_, fun h => by cases h⟩
  have s13 := same_upd (o := ExK (.ref CN) none xx) hx
  refine ⟨xx, CN, none, .ref CN, .ref CN, true, rfl, upd_same, (fun y e => by cases e), X0.ecN, fun u r => r, kit_self, _, rfl, ?_⟩
  have ex := (LamX.ExtN.of s11).trans (j1.trans (.of (s12.trans s13)))
  have T12 := TJ1.ext (s12.trans s13)
  have S12 := S10.ext ex
  have hn12 := hn10.keep (ext_tk ex)
  generalize upd J2 xx (ExK (.ref CN) none xx) = H12 at ex T12 S12 hn12 ⊢
  clear hdb bb T10 S10 hn10 s11 j1 TJ1 s12 s13 hx hb ex
  -- what is no sort
  refine iteF ⟨_, rfl, one1, fun p1 hp1 => ⟨one1, fun p2 hp2 => ⟨eight, fun l hl => ?_⟩⟩⟩
  have v1 := same_upd (o := .lst [.str "pipes"]) hp1
  have e1 := upd_same (H := H12) (a := p1) (o := .lst [.str "pipes"])
  have off1 := S12.off hp1
  generalize upd H12 p1 (.lst [.str "pipes"]) = L1 at v1 e1 hp2 hl ⊢
  have v2 := same_upd (o := .tup [.str "leads"]) hp2
  have e2 := upd_same (H := L1) (a := p2) (o := .tup [.str "leads"])
  have off2 := (S12.same v1).off hp2
  generalize upd L1 p2 (.tup [.str "leads"]) = L2' at v2 e2 hl ⊢
  have v3 := same_upd (o := .lst [.non, .str "pipe", .str "", .int 5, .bl true, .ref p1, .str "Hubs", .ref p2]) hl
  have e3 := upd_same (H := L2') (a := l) (o := .lst [.non, .str "pipe", .str "", .int 5, .bl true, .ref p1, .str "Hubs", .ref p2])
  have offl := (S12.same (v1.trans v2)).off hl
  generalize upd L2' l (.lst [.non, .str "pipe", .str "", .int 5, .bl true, .ref p1, .str "Hubs", .ref p2]) = L3 at v3 e3 ⊢
  have v13 := v1.trans (v2.trans v3)
  refine ⟨d, g, c, l, 770 - 300 * i, _, rfl, (S12.same v13).less (by omega), SqL.of e3, offl.1, by simp, by simp, fun i2 x H13 hx S13 k13 => ?_⟩
  have T13 := tabs_kp (T12.ext v13) k13 (S12.same v13)
  have hn13 := (hn12.keep (.of v13)).keep (k13.tk (S12.same v13))
  have od : OddSort K H13 x := by
    have m := List.mem_of_getElem? hx
    simp only [List.mem_cons, List.not_mem_nil, or_false] at m
    rcases m with rfl | rfl | rfl | rfl | rfl | rfl | rfl | rfl
    · exact .inl ⟨.none, .non, rfl⟩
    · exact .inr ⟨"pipe", rfl, by decide +kernel⟩
    · exact .inr ⟨"", rfl, by decide +kernel⟩
    · exact .inl ⟨.int 5, .int 5, rfl⟩
    · exact .inl ⟨.bool true, .bl true, rfl⟩
    · exact .inl ⟨.list [.str "pipes"], .lst (SqL.of (k13 _ _ ((v2.trans v3) _ _ e1) off1.2 off1.1)) (.cons (.str _) .nil), rfl⟩
    · exact .inr ⟨"Hubs", rfl, by decide +kernel⟩
    · exact .inl ⟨.tuple [.str "leads"], .tup (SqT.of (k13 _ _ (v3 _ _ e2) off2.2 off2.1)) (.cons (.str _) .nil), rfl⟩
  clear hx e1 e2 e3 v1 v2 v3 off1 off2 offl v13 T12 S12 hn12 k13 hp1 hp2 hl
  refine ⟨T13, fun J1 j1 TJ1 => ?_⟩
  refine ⟨_, rfl, _, rfl, v, x, rfl, .inl ⟨taps, rs, hn13.keep (ext_tk j1), G, .inr ⟨od.ext j1, fun J2 s12 => ?_⟩⟩⟩
  refine ⟨true, X0.exS, fun _ xx hx => ?_, fun h => by cases h⟩
  have s13 := same_upd (o := ExK (.ref CS) none xx) hx
  have e14 := upd_same (H := J2) (a := xx) (o := ExK (.ref CS) none xx)
  have ex := j1.trans (.of (s12.trans s13))
  have S14 := S13.ext ex
  have T14 := TJ1.ext (s12.trans s13)
  generalize upd J2 xx (ExK (.ref CS) none xx) = H14 at ex e14 S14 T14 ⊢
  refine ⟨_, rfl, xx, CS, none, .ref CS, .ref CS, true, rfl, e14, (fun y e => by cases e), X0.ecS, fun u r => r, kit_self, _, rfl, ?_⟩
  refine iteF ⟨_, rfl, xx, CS, none, .ty "ValueError", .type "ValueError", true, rfl, e14, (fun y e => by cases e), X0.ecS, fun u r => r, KV, _, rfl, ?_⟩
  exact iteF ⟨_, _, _, _, _, _, _, rfl, S14.less (by omega), T14⟩
end
end K05
set_option maxHeartbeats 4000000
namespace K05
open PySem PySem.Spec PyProof.Rows L2 Hx RZ
/-! ### the end -/
theorem dn_of {K : PySem.W.Frag} {mg : Str → Option Value} {x : Str} {st : Stmt} (g : mg x = some (.ref (He.ga K x))) (F : ∃ fd, FunD K (dfn x st).name (dfn x st).qual (dfn x st).params (dfn x st).body (dfn x st).scope ((dfn x st).dvs K) ((dfn x st).kws K) (He.fAd K (dfn x st).at_) fd) : Dn K mg x st := by
  obtain ⟨fd, q⟩ := F
  exact ⟨_, fd, g, q⟩
theorem own_of {K : PySem.W.Frag} {mg : Str → Option Value} {x : Str} (c : (He.Fa.exc x).ok K = true) (g : mg x = some (.ref (He.ga K x))) : OwnE K mg x (He.ga K x) := by
  have xc := He.exc_ok c
  exact ⟨⟨_, _, _, _, PySem.F.excBase_ValueError, xc.1⟩, g, xc.2.1, xc.2.2.1, xc.2.2.2⟩
theorem sorts_ok {K : PySem.W.Frag} (h : sortsB K = true) (H : Hp) : SqT K H (He.ga K "SORTS") (sortsAll.map V.str) := by
  unfold sortsB at h
  split at h
  · next t od its n sl e =>
    rw [Bool.and_eq_true, decide_eq_true_eq] at h
    obtain ⟨rfl, h⟩ := h
    split at h
    · next x tx y ty z tz e2 =>
      simp only [Bool.and_eq_true, decide_eq_true_eq] at h
      obtain ⟨rfl, rfl, rfl⟩ := h
      refine .inr ⟨_, its, n, e, rfl, rfl, ?_, ?_⟩
      · rw [← Array.length_toList, e2, sizeLine_eq]
        show 3 ≤ _
        decide
      · rw [e2]
        exact .cons ⟨_, rfl⟩ (.cons ⟨_, rfl⟩ (.cons ⟨_, rfl⟩ .nil))
    · cases h
  · cases h
theorem dnT_of {K : PySem.W.Frag} {mg : Str → Option Value} {base : Heap} {x : Str} {st : Stmt} (g : mg x = some (.ref (He.ga K x))) (F : ∃ fd, FunD K (dfn x st).name (dfn x st).qual (dfn x st).params (dfn x st).body (dfn x st).scope ((dfn x st).dvs K) ((dfn x st).kws K) (He.fAd K (dfn x st).at_) fd) (TB : LamX.TabB base mg (He.cT K (x, none)).1 (He.cT K (x, none)).2) : DnT K mg base x st (tabA K x) := by
  obtain ⟨fd, q⟩ := F
  obtain ⟨oc, od, dV, kV, doc, pm, an, cdv, ct, osl, efd, lk, hcd, hD, hK⟩ := q.ex
  refine ⟨_, fd, g, q, fun c ec => ?_⟩
  subst efd
  have e : He.codeOf K (x, none) = c := He.codeOf_eq lk ec
  have e1 : (He.cT K (x, none)).1 = c := e
  rw [e1] at TB
  exact TB
end K05
set_option maxHeartbeats 4000000
namespace K05
open PySem PySem.Spec PyProof.Rows L2 Hx RZ
section
variable {w : World} {K : PySem.W.Frag} {mg : Str → Option Value} {base : Heap}
theorem law_at {h : Heap} {f0 : Addr} (X : K.In h) (G : h.Ns mainGlobals mg) (S : He.SaysX fa fn [] tfs ex w h K) (I : iniObs K = iniVal) (hfa : mg "law" = some (.ref f0)) : LamX.LawAtS PySem.Challenge.rw_behindtaps_k05_nets_judged_and_their_pla w K L2.CX0 12 63 "script" mg f0 h := by
  have c := S.t.d
  have e := S.more
  unfold ex at e
  simp only [Bool.and_eq_true, decide_eq_true_eq] at e
  obtain ⟨e1, e2, e3, e4, e5, e6⟩ := e
  have g_is_name := He.glo_ok X G (c.fact 0 (f := .glo "is_name") rfl)
  have g_are_names := He.glo_ok X G (c.fact 1 (f := .glo "are_names") rfl)
  have g_are_taps := He.glo_ok X G (c.fact 2 (f := .glo "are_taps") rfl)
  have g_check_sort := He.glo_ok X G (c.fact 3 (f := .glo "check_sort") rfl)
  have g_is_whole := He.glo_ok X G (c.fact 4 (f := .glo "is_whole") rfl)
  have g_is_number := He.glo_ok X G (c.fact 5 (f := .glo "is_number") rfl)
  have g_is_number_from_0 := He.glo_ok X G (c.fact 6 (f := .glo "is_number_from_0") rfl)
  have g_top_of := He.glo_ok X G (c.fact 7 (f := .glo "top_of") rfl)
  have g_is_net := He.glo_ok X G (c.fact 8 (f := .glo "is_net") rfl)
  have g_sort_of := He.glo_ok X G (c.fact 9 (f := .glo "sort_of") rfl)
  have g_is_of_sort := He.glo_ok X G (c.fact 10 (f := .glo "is_of_sort") rfl)
  have g_places_of := He.glo_ok X G (c.fact 11 (f := .glo "places_of") rfl)
  have g_inner_of := He.glo_ok X G (c.fact 12 (f := .glo "inner_of") rfl)
  have g_beside := He.glo_ok X G (c.fact 13 (f := .glo "beside") rfl)
  have g_scaled := He.glo_ok X G (c.fact 14 (f := .glo "scaled") rfl)
  have g_renamed_net := He.glo_ok X G (c.fact 15 (f := .glo "renamed_net") rfl)
  have g_without_empty := He.glo_ok X G (c.fact 16 (f := .glo "without_empty") rfl)
  have g_turned_net := He.glo_ok X G (c.fact 17 (f := .glo "turned_net") rfl)
  have g_melted_net := He.glo_ok X G (c.fact 18 (f := .glo "melted_net") rfl)
  have g_hidden_net := He.glo_ok X G (c.fact 19 (f := .glo "hidden_net") rfl)
  have g_as_leads := He.glo_ok X G (c.fact 20 (f := .glo "as_leads") rfl)
  have g_as_hubs := He.glo_ok X G (c.fact 21 (f := .glo "as_hubs") rfl)
  have g_as_pipes := He.glo_ok X G (c.fact 22 (f := .glo "as_pipes") rfl)
  have g_is_part := He.glo_ok X G (c.fact 23 (f := .glo "is_part") rfl)
  have g_places_of_part := He.glo_ok X G (c.fact 24 (f := .glo "places_of_part") rfl)
  have g_places_in := He.glo_ok X G (c.fact 25 (f := .glo "places_in") rfl)
  have g_inner_in := He.glo_ok X G (c.fact 26 (f := .glo "inner_in") rfl)
  have g_has_kind := He.glo_ok X G (c.fact 27 (f := .glo "has_kind") rfl)
  have g_mixes_leads_and_hubs := He.glo_ok X G (c.fact 28 (f := .glo "mixes_leads_and_hubs") rfl)
  have g_sort_in := He.glo_ok X G (c.fact 29 (f := .glo "sort_in") rfl)
  have g_check_net := He.glo_ok X G (c.fact 30 (f := .glo "check_net") rfl)
  have g_side_cost := He.glo_ok X G (c.fact 31 (f := .glo "side_cost") rfl)
  have g_is_side := He.glo_ok X G (c.fact 32 (f := .glo "is_side") rfl)
  have g_least_side := He.glo_ok X G (c.fact 33 (f := .glo "least_side") rfl)
  have g_is_flow := He.glo_ok X G (c.fact 34 (f := .glo "is_flow") rfl)
  have g_amount_of := He.glo_ok X G (c.fact 35 (f := .glo "amount_of") rfl)
  have g_greatest_flow := He.glo_ok X G (c.fact 36 (f := .glo "greatest_flow") rfl)
  have g_flow_between := He.glo_ok X G (c.fact 37 (f := .glo "flow_between") rfl)
  have g_wall := He.glo_ok X G (c.fact 38 (f := .glo "wall") rfl)
  have g_walls := He.glo_ok X G (c.fact 39 (f := .glo "walls") rfl)
  have g_alike_nets := He.glo_ok X G (c.fact 40 (f := .glo "alike_nets") rfl)
  have g_check_blocks := He.glo_ok X G (c.fact 41 (f := .glo "check_blocks") rfl)
  have g_net_text := He.glo_ok X G (c.fact 42 (f := .glo "net_text") rfl)
  have g__law_begun := He.glo_ok X G (c.fact 43 (f := .glo "_law_begun") rfl)
  have g__law_blended := He.glo_ok X G (c.fact 44 (f := .glo "_law_blended") rfl)
  have g__law_draw := He.glo_ok X G (c.fact 45 (f := .glo "_law_draw") rfl)
  have g__law_pick := He.glo_ok X G (c.fact 46 (f := .glo "_law_pick") rfl)
  have g__law_shuffled := He.glo_ok X G (c.fact 47 (f := .glo "_law_shuffled") rfl)
  have g__law_caught := He.glo_ok X G (c.fact 48 (f := .glo "_law_caught") rfl)
  have g__law_is_truth := He.glo_ok X G (c.fact 49 (f := .glo "_law_is_truth") rfl)
  have g__law_ct_gcd := He.glo_ok X G (c.fact 50 (f := .glo "_law_ct_gcd") rfl)
  have g__law_ct_made := He.glo_ok X G (c.fact 51 (f := .glo "_law_ct_made") rfl)
  have g__law_ct_top := He.glo_ok X G (c.fact 52 (f := .glo "_law_ct_top") rfl)
  have g__law_ct_low := He.glo_ok X G (c.fact 53 (f := .glo "_law_ct_low") rfl)
  have g__law_ct_less := He.glo_ok X G (c.fact 54 (f := .glo "_law_ct_less") rfl)
  have g__law_ct_is_number := He.glo_ok X G (c.fact 55 (f := .glo "_law_ct_is_number") rfl)
  have g__law_ct_number := He.glo_ok X G (c.fact 56 (f := .glo "_law_ct_number") rfl)
  have g__law_ct_taps := He.glo_ok X G (c.fact 57 (f := .glo "_law_ct_taps") rfl)
  have g__law_ct_part := He.glo_ok X G (c.fact 58 (f := .glo "_law_ct_part") rfl)
  have g__law_ct_net := He.glo_ok X G (c.fact 59 (f := .glo "_law_ct_net") rfl)
  have g__law_ct_bad_net := He.glo_ok X G (c.fact 60 (f := .glo "_law_ct_bad_net") rfl)
  have g__law_an_every := He.glo_ok X G (c.fact 61 (f := .glo "_law_an_every") rfl)
  have g__law_an_ends := He.glo_ok X G (c.fact 62 (f := .glo "_law_an_ends") rfl)
  have g__law_an_kind := He.glo_ok X G (c.fact 63 (f := .glo "_law_an_kind") rfl)
  have g__law_an_width := He.glo_ok X G (c.fact 64 (f := .glo "_law_an_width") rfl)
  have g__law_an_net := He.glo_ok X G (c.fact 65 (f := .glo "_law_an_net") rfl)
  have g__law_an_drawn := He.glo_ok X G (c.fact 66 (f := .glo "_law_an_drawn") rfl)
  have g__law_an_is_word := He.glo_ok X G (c.fact 67 (f := .glo "_law_an_is_word") rfl)
  have g__law_an_rising := He.glo_ok X G (c.fact 68 (f := .glo "_law_an_rising") rfl)
  have g__law_an_is_wide := He.glo_ok X G (c.fact 69 (f := .glo "_law_an_is_wide") rfl)
  have g__law_an_is_part := He.glo_ok X G (c.fact 70 (f := .glo "_law_an_is_part") rfl)
  have g__law_an_is_net := He.glo_ok X G (c.fact 71 (f := .glo "_law_an_is_net") rfl)
  have g__law_an_near_part := He.glo_ok X G (c.fact 72 (f := .glo "_law_an_near_part") rfl)
  have g__law_an_near_taps := He.glo_ok X G (c.fact 73 (f := .glo "_law_an_near_taps") rfl)
  have g__law_an_crowd := He.glo_ok X G (c.fact 74 (f := .glo "_law_an_crowd") rfl)
  have g__law_an_near := He.glo_ok X G (c.fact 75 (f := .glo "_law_an_near") rfl)
  have g__law_an_inner := He.glo_ok X G (c.fact 76 (f := .glo "_law_an_inner") rfl)
  have g__law_an_told_right := He.glo_ok X G (c.fact 77 (f := .glo "_law_an_told_right") rfl)
  have g__law_an_all_refuse := He.glo_ok X G (c.fact 78 (f := .glo "_law_an_all_refuse") rfl)
  have g_law := He.glo_ok X G (c.fact 79 (f := .glo "law") rfl)
  have h_ValueError := He.free_ok X G (c.fact 80 (f := .free "ValueError") rfl)
  have h_abs := He.free_ok X G (c.fact 81 (f := .free "abs") rfl)
  have h_all := He.free_ok X G (c.fact 82 (f := .free "all") rfl)
  have h_any := He.free_ok X G (c.fact 83 (f := .free "any") rfl)
  have h_bool := He.free_ok X G (c.fact 84 (f := .free "bool") rfl)
  have h_int := He.free_ok X G (c.fact 85 (f := .free "int") rfl)
  have h_isinstance := He.free_ok X G (c.fact 86 (f := .free "isinstance") rfl)
  have h_len := He.free_ok X G (c.fact 87 (f := .free "len") rfl)
  have h_list := He.free_ok X G (c.fact 88 (f := .free "list") rfl)
  have h_max := He.free_ok X G (c.fact 89 (f := .free "max") rfl)
  have h_min := He.free_ok X G (c.fact 90 (f := .free "min") rfl)
  have h_range := He.free_ok X G (c.fact 91 (f := .free "range") rfl)
  have h_set := He.free_ok X G (c.fact 92 (f := .free "set") rfl)
  have h_sorted := He.free_ok X G (c.fact 93 (f := .free "sorted") rfl)
  have h_str := He.free_ok X G (c.fact 94 (f := .free "str") rfl)
  have h_tuple := He.free_ok X G (c.fact 95 (f := .free "tuple") rfl)
  have h_zip := He.free_ok X G (c.fact 96 (f := .free "zip") rfl)
  have c_LETTERS := He.str_ok X G (c.fact 97 (f := .str "LETTERS" "abcdefghijklmnopqrstuvwxyz") rfl)
  have c_LETTERS_AND_DIGITS := He.str_ok X G (c.fact 98 (f := .str "LETTERS_AND_DIGITS" "abcdefghijklmnopqrstuvwxyz0123456789") rfl)
  have c_LONGEST_NAME := He.int_ok X G (c.fact 99 (f := .int "LONGEST_NAME" 8) rfl)
  have c_FEWEST_TAPS := He.int_ok X G (c.fact 100 (f := .int "FEWEST_TAPS" 2) rfl)
  have c_MOST_TAPS := He.int_ok X G (c.fact 101 (f := .int "MOST_TAPS" 6) rfl)
  have c_MOST_PARTS := He.int_ok X G (c.fact 102 (f := .int "MOST_PARTS" 200) rfl)
  have c_MOST_PLACES := He.int_ok X G (c.fact 103 (f := .int "MOST_PLACES" 40) rfl)
  have g_TapError := He.glo_ok X G (c.fact 104 (f := .glo "TapError") rfl)
  have g_BadLot := He.glo_ok X G (c.fact 105 (f := .glo "BadLot") rfl)
  have g_BadSort := He.glo_ok X G (c.fact 106 (f := .glo "BadSort") rfl)
  have g_BadNet := He.glo_ok X G (c.fact 107 (f := .glo "BadNet") rfl)
  have g_BadNumber := He.glo_ok X G (c.fact 108 (f := .glo "BadNumber") rfl)
  have g_BadPlaces := He.glo_ok X G (c.fact 109 (f := .glo "BadPlaces") rfl)
  have g_BadFlow := He.glo_ok X G (c.fact 110 (f := .glo "BadFlow") rfl)
  have g_TooMany := He.glo_ok X G (c.fact 111 (f := .glo "TooMany") rfl)
  have g_Current := He.glo_ok X G (c.fact 112 (f := .glo "Current") rfl)
  have g_Stream := He.glo_ok X G (c.fact 113 (f := .glo "Stream") rfl)
  have D_is_name := dn_of g_is_name (c.def_ 0 (d := dfn "is_name" sis_name) rfl)
  have D_are_names := dn_of g_are_names (c.def_ 1 (d := dfn "are_names" sare_names) rfl)
  have D_are_taps := dn_of g_are_taps (c.def_ 2 (d := dfn "are_taps" sare_taps) rfl)
  have D_check_sort := dn_of g_check_sort (c.def_ 3 (d := dfn "check_sort" scheck_sort) rfl)
  have D_is_whole := dn_of g_is_whole (c.def_ 4 (d := dfn "is_whole" sis_whole) rfl)
  have D_is_number := dn_of g_is_number (c.def_ 5 (d := dfn "is_number" sis_number) rfl)
  have D_is_number_from_0 := dn_of g_is_number_from_0 (c.def_ 6 (d := dfn "is_number_from_0" sis_number_from_0) rfl)
  have D_top_of := dn_of g_top_of (c.def_ 7 (d := dfn "top_of" stop_of) rfl)
  have D_is_net := dn_of g_is_net (c.def_ 8 (d := dfn "is_net" sis_net) rfl)
  have D_sort_of := dn_of g_sort_of (c.def_ 9 (d := dfn "sort_of" ssort_of) rfl)
  have D_is_of_sort := dn_of g_is_of_sort (c.def_ 10 (d := dfn "is_of_sort" sis_of_sort) rfl)
  have D_places_of := dn_of g_places_of (c.def_ 11 (d := dfn "places_of" splaces_of) rfl)
  have D_inner_of := dn_of g_inner_of (c.def_ 12 (d := dfn "inner_of" sinner_of) rfl)
  have D_beside := dn_of g_beside (c.def_ 13 (d := dfn "beside" sbeside) rfl)
  have D_scaled := dn_of g_scaled (c.def_ 14 (d := dfn "scaled" sscaled) rfl)
  have D_renamed_net := dn_of g_renamed_net (c.def_ 15 (d := dfn "renamed_net" srenamed_net) rfl)
  have D_without_empty := dn_of g_without_empty (c.def_ 16 (d := dfn "without_empty" swithout_empty) rfl)
  have D_turned_net := dn_of g_turned_net (c.def_ 17 (d := dfn "turned_net" sturned_net) rfl)
  have D_melted_net := dn_of g_melted_net (c.def_ 18 (d := dfn "melted_net" smelted_net) rfl)
  have D_hidden_net := dn_of g_hidden_net (c.def_ 19 (d := dfn "hidden_net" shidden_net) rfl)
  have D_as_leads := dn_of g_as_leads (c.def_ 20 (d := dfn "as_leads" sas_leads) rfl)
  have D_as_hubs := dn_of g_as_hubs (c.def_ 21 (d := dfn "as_hubs" sas_hubs) rfl)
  have D_as_pipes := dn_of g_as_pipes (c.def_ 22 (d := dfn "as_pipes" sas_pipes) rfl)
  have D_is_part := dn_of g_is_part (c.def_ 23 (d := dfn "is_part" sis_part) rfl)
  have D_places_of_part := dn_of g_places_of_part (c.def_ 24 (d := dfn "places_of_part" splaces_of_part) rfl)
  have D_places_in := dn_of g_places_in (c.def_ 25 (d := dfn "places_in" splaces_in) rfl)
  have D_inner_in := dn_of g_inner_in (c.def_ 26 (d := dfn "inner_in" sinner_in) rfl)
  have D_has_kind := dn_of g_has_kind (c.def_ 27 (d := dfn "has_kind" shas_kind) rfl)
  have D_mixes_leads_and_hubs := dn_of g_mixes_leads_and_hubs (c.def_ 28 (d := dfn "mixes_leads_and_hubs" smixes_leads_and_hubs) rfl)
  have D_sort_in := dn_of g_sort_in (c.def_ 29 (d := dfn "sort_in" ssort_in) rfl)
  have D_check_net := dn_of g_check_net (c.def_ 30 (d := dfn "check_net" scheck_net) rfl)
  have D_side_cost := dn_of g_side_cost (c.def_ 31 (d := dfn "side_cost" sside_cost) rfl)
  have D_is_side := dn_of g_is_side (c.def_ 32 (d := dfn "is_side" sis_side) rfl)
  have D_least_side := dn_of g_least_side (c.def_ 33 (d := dfn "least_side" sleast_side) rfl)
  have D_is_flow := dn_of g_is_flow (c.def_ 34 (d := dfn "is_flow" sis_flow) rfl)
  have D_amount_of := dn_of g_amount_of (c.def_ 35 (d := dfn "amount_of" samount_of) rfl)
  have D_greatest_flow := dn_of g_greatest_flow (c.def_ 36 (d := dfn "greatest_flow" sgreatest_flow) rfl)
  have D_flow_between := dn_of g_flow_between (c.def_ 37 (d := dfn "flow_between" sflow_between) rfl)
  have D_wall := dn_of g_wall (c.def_ 38 (d := dfn "wall" swall) rfl)
  have D_walls := dn_of g_walls (c.def_ 39 (d := dfn "walls" swalls) rfl)
  have D_alike_nets := dn_of g_alike_nets (c.def_ 40 (d := dfn "alike_nets" salike_nets) rfl)
  have D_check_blocks := dn_of g_check_blocks (c.def_ 41 (d := dfn "check_blocks" scheck_blocks) rfl)
  have D_net_text := dn_of g_net_text (c.def_ 42 (d := dfn "net_text" snet_text) rfl)
  have D__law_begun := dn_of g__law_begun (c.def_ 43 (d := dfn "_law_begun" sL_begun) rfl)
  have D__law_blended := dn_of g__law_blended (c.def_ 44 (d := dfn "_law_blended" sL_blended) rfl)
  have D__law_draw := dn_of g__law_draw (c.def_ 45 (d := dfn "_law_draw" sL_draw) rfl)
  have D__law_pick := dn_of g__law_pick (c.def_ 46 (d := dfn "_law_pick" sL_pick) rfl)
  have D__law_shuffled := dn_of g__law_shuffled (c.def_ 47 (d := dfn "_law_shuffled" sL_shuffled) rfl)
  have D__law_caught := dn_of g__law_caught (c.def_ 48 (d := dfn "_law_caught" sL_caught) rfl)
  have D__law_is_truth := dn_of g__law_is_truth (c.def_ 49 (d := dfn "_law_is_truth" sL_is_truth) rfl)
  have D__law_ct_gcd := dn_of g__law_ct_gcd (c.def_ 50 (d := dfn "_law_ct_gcd" sL_ct_gcd) rfl)
  have D__law_ct_made := dn_of g__law_ct_made (c.def_ 51 (d := dfn "_law_ct_made" sL_ct_made) rfl)
  have D__law_ct_top := dn_of g__law_ct_top (c.def_ 52 (d := dfn "_law_ct_top" sL_ct_top) rfl)
  have D__law_ct_low := dn_of g__law_ct_low (c.def_ 53 (d := dfn "_law_ct_low" sL_ct_low) rfl)
  have D__law_ct_less := dn_of g__law_ct_less (c.def_ 54 (d := dfn "_law_ct_less" sL_ct_less) rfl)
  have D__law_ct_is_number := dn_of g__law_ct_is_number (c.def_ 55 (d := dfn "_law_ct_is_number" sL_ct_is_number) rfl)
  have D__law_ct_number := dn_of g__law_ct_number (c.def_ 56 (d := dfn "_law_ct_number" sL_ct_number) rfl)
  have D__law_ct_taps := dn_of g__law_ct_taps (c.def_ 57 (d := dfn "_law_ct_taps" sL_ct_taps) rfl)
  have D__law_ct_part := dn_of g__law_ct_part (c.def_ 58 (d := dfn "_law_ct_part" sL_ct_part) rfl)
  have D__law_ct_net := dn_of g__law_ct_net (c.def_ 59 (d := dfn "_law_ct_net" sL_ct_net) rfl)
  have D__law_ct_bad_net := dn_of g__law_ct_bad_net (c.def_ 60 (d := dfn "_law_ct_bad_net" sL_ct_bad_net) rfl)
  have D__law_an_every := dn_of g__law_an_every (c.def_ 61 (d := dfn "_law_an_every" sL_an_every) rfl)
  have D__law_an_ends := dn_of g__law_an_ends (c.def_ 62 (d := dfn "_law_an_ends" sL_an_ends) rfl)
  have D__law_an_kind := dn_of g__law_an_kind (c.def_ 63 (d := dfn "_law_an_kind" sL_an_kind) rfl)
  have D__law_an_width := dn_of g__law_an_width (c.def_ 64 (d := dfn "_law_an_width" sL_an_width) rfl)
  have D__law_an_net := dn_of g__law_an_net (c.def_ 65 (d := dfn "_law_an_net" sL_an_net) rfl)
  have D__law_an_drawn := dn_of g__law_an_drawn (c.def_ 66 (d := dfn "_law_an_drawn" sL_an_drawn) rfl)
  have D__law_an_is_word := dn_of g__law_an_is_word (c.def_ 67 (d := dfn "_law_an_is_word" sL_an_is_word) rfl)
  have D__law_an_rising := dn_of g__law_an_rising (c.def_ 68 (d := dfn "_law_an_rising" sL_an_rising) rfl)
  have D__law_an_is_wide := dn_of g__law_an_is_wide (c.def_ 69 (d := dfn "_law_an_is_wide" sL_an_is_wide) rfl)
  have D__law_an_is_part := dn_of g__law_an_is_part (c.def_ 70 (d := dfn "_law_an_is_part" sL_an_is_part) rfl)
  have D__law_an_is_net := dn_of g__law_an_is_net (c.def_ 71 (d := dfn "_law_an_is_net" sL_an_is_net) rfl)
  have D__law_an_near_part := dn_of g__law_an_near_part (c.def_ 72 (d := dfn "_law_an_near_part" sL_an_near_part) rfl)
  have D__law_an_near_taps := dn_of g__law_an_near_taps (c.def_ 73 (d := dfn "_law_an_near_taps" sL_an_near_taps) rfl)
  have D__law_an_crowd := dn_of g__law_an_crowd (c.def_ 74 (d := dfn "_law_an_crowd" sL_an_crowd) rfl)
  have D__law_an_near := dn_of g__law_an_near (c.def_ 75 (d := dfn "_law_an_near" sL_an_near) rfl)
  have D__law_an_inner := dn_of g__law_an_inner (c.def_ 76 (d := dfn "_law_an_inner" sL_an_inner) rfl)
  have D__law_an_told_right := dn_of g__law_an_told_right (c.def_ 77 (d := dfn "_law_an_told_right" sL_an_told_right) rfl)
  have F__law_an_all_refuse := c.def_ 78 (d := dfn "_law_an_all_refuse" sL_an_all_refuse) rfl
  have o_BadNet := own_of (c.fact 114 (f := .exc "BadNet") rfl) g_BadNet
  have o_BadSort := own_of (c.fact 115 (f := .exc "BadSort") rfl) g_BadSort
  have g_gcd := PySem.W.mg_of X G (He.eqO_ok e6)
  obtain ⟨fd, F⟩ := c.def_ 79 (d := dfn "law" slaw) rfl
  obtain ⟨oc, od, dV, kV, doc, pm, an, cdv, ct, osl, efd, lk0, hcd, hD, hK⟩ := F.ex
  obtain ⟨c0, ec0⟩ := He.codeIn_ref hcd
  subst ec0
  subst efd
  have ecode : He.codeOf K ("law", none) = c0 := He.codeOf_eq lk0 rfl
  have ef : He.ga K "law" = f0 := by
    have q := g_law.symm.trans hfa
    exact Value.ref.inj (Option.some.inj q)
  have m1 : (("_law_an_all_refuse", none) : He.Defn) ∈ tfs := List.mem_cons_self
  have m2 : (("law", none) : He.Defn) ∈ tfs := List.mem_cons_of_mem _ List.mem_cons_self
  have bnd := FunD.bindsA (ps := ["script"]) F fun _ _ _ _ _ _ us hl => match us, hl with | [_], _ => rfl
  have ne : tabA K "_law_an_all_refuse" ≠ tabA K "law" := of_decide_eq_true e3
  have kv := oneB_ok e4
  have g_SORTS := He.glo_ok X G (c.fact 116 (f := .glo "SORTS") rfl)
  have sorts : ∃ t, mg "SORTS" = some (.ref t) ∧ ∀ H, SqT K H t (sortsAll.map V.str) := ⟨_, g_SORTS, sorts_ok e5⟩
  subst ef
  refine ⟨_, tfs.map (He.cT K), spLaw (T2 (tabA K "_law_an_all_refuse") (tabA K "law")) K, fun p hp => ?_, fun p hp => ?_, fun p hp => ?_, fun s u => bnd s [u] rfl, fun H a ns hl _ hH hS => ⟨a, ns, rfl, hS, hl, fun p hp => ?_, fun _ => rfl⟩, fun base Xb Gb TB0 => ?_⟩
  · obtain ⟨t, ht, rfl⟩ := List.mem_map.mp hp
    exact S.empty t ht
  · obtain ⟨t, ht, rfl⟩ := List.mem_map.mp hp
    exact S.out t ht
  · obtain ⟨t, ht, rfl⟩ := List.mem_map.mp hp
    exact PySem.W.codeHd_of_K X (S.hd t ht)
  · simp only [List.mem_cons, List.not_mem_nil, or_false] at hp
    rcases hp with rfl | rfl
    · exact LamX.TabS.nil (hH _ (List.mem_map.mpr ⟨_, m1, rfl⟩))
    · exact LamX.TabS.nil (hH _ (List.mem_map.mpr ⟨_, m2, rfl⟩))
  have T__law_an_all_refuse := dnT_of g__law_an_all_refuse F__law_an_all_refuse (TB0 _ (List.mem_map.mpr ⟨_, m1, rfl⟩))
  have TB : LamX.TabB base mg c0 (tabA K "law") := by
    have q := TB0 _ (List.mem_map.mpr ⟨_, m2, rfl⟩)
    have e1 : (He.cT K ("law", none)).1 = c0 := ecode
    rw [e1] at q
    exact q
  have lk : LawE K mg (He.ga K "TapError") (He.ga K "BadNet") (He.ga K "BadSort") := ⟨g_TapError, g_BadNet, g_BadSort, He.exm_ok (c.fact 117 (f := .exm "BadNet" "TapError" true) rfl), He.exm_ok (c.fact 118 (f := .exm "BadSort" "TapError" true) rfl), excB_ok e1, excB_ok e2⟩
  have B__law_begun_spBegun := ok_begun (P := PW0) (w := w) (mg := mg) (base := base) D__law_begun h_abs
  have B__law_blended_spBlended := ok_blended (P := PW0) (w := w) (mg := mg) (base := base) D__law_blended h_int
  have B__law_draw_spDraw := ok_draw (P := PW0) (w := w) (mg := mg) (base := base) D__law_draw B__law_blended_spBlended h_int
  have B__law_pick_spPick := ok_pick (P := PW0) (w := w) (mg := mg) (base := base) D__law_pick B__law_draw_spDraw h_len
  have B__law_shuffled_spShuffled := ok_shuffled (P := PW0) (w := w) (mg := mg) (base := base) D__law_shuffled B__law_draw_spDraw h_len h_list
  have B__law_ct_taps_spTaps := ok_ct_taps (P := PW0) (w := w) (mg := mg) (base := base) D__law_ct_taps B__law_pick_spPick B__law_draw_spDraw B__law_shuffled_spShuffled h_tuple h_sorted
  have B__law_ct_number_spNumber := ok_ct_number (P := PW0) (w := w) (mg := mg) (base := base) D__law_ct_number B__law_pick_spPick
  have B__law_ct_part_spPart := ok_ct_part (P := PW0) (w := w) (mg := mg) (base := base) D__law_ct_part B__law_shuffled_spShuffled B__law_ct_number_spNumber B__law_draw_spDraw h_tuple h_sorted h_len h_min h_max
  have B__law_ct_net_spNet := ok_ct_net (P := PW0) (w := w) (mg := mg) (base := base) D__law_ct_net B__law_draw_spDraw B__law_pick_spPick B__law_ct_part_spPart h_tuple h_list h_range
  have B__law_ct_gcd_spGcd := ok_ct_gcd (P := PW0) (w := w) (mg := mg) (base := base) D__law_ct_gcd h_abs h_int
  have B__law_ct_made_spMade := ok_ct_made (P := PW0) (w := w) (mg := mg) (base := base) D__law_ct_made B__law_ct_gcd_spGcd
  have B__law_an_width_spWidth := ok_an_width (P := PW0) (w := w) (mg := mg) (base := base) D__law_an_width B__law_ct_number_spNumber B__law_draw_spDraw B__law_ct_made_spMade
  have B__law_an_net_spANet := ok_an_net (P := PW0) (w := w) (mg := mg) (base := base) D__law_an_net B__law_ct_net_spNet B__law_draw_spDraw B__law_an_width_spWidth h_tuple
  have B__law_an_drawn_spDrawn := ok_an_drawn (P := PW0) (w := w) (mg := mg) (base := base) D__law_an_drawn B__law_pick_spPick B__law_ct_taps_spTaps B__law_an_net_spANet
  have B_is_name_spNameX := ok_is_nameX (P := PW0) (w := w) (mg := mg) (base := base) D_is_name h_isinstance h_str h_len h_all c_LETTERS c_LETTERS_AND_DIGITS c_LONGEST_NAME
  have B_are_names_spData := ok_are_namesP (P := PW0) (w := w) (mg := mg) (base := base) D_are_names B_is_name_spNameX h_isinstance h_tuple h_all h_zip
  have B_are_taps_spData := ok_are_tapsP (P := PW0) (w := w) (mg := mg) (base := base) D_are_taps B_are_names_spData h_len c_FEWEST_TAPS c_MOST_TAPS
  have B_is_whole_spWhole := ok_is_whole (P := PW0) (w := w) (mg := mg) (base := base) D_is_whole h_isinstance h_int h_bool
  have B_is_number_spNumP := ok_is_numberP (P := PW0) (w := w) (mg := mg) (base := base) D_is_number B_is_whole_spWhole h_isinstance h_tuple h_len g_gcd
  have B_top_of_spTop := ok_top_of (P := PW0) (w := w) (mg := mg) (base := base) D_top_of h_isinstance h_tuple
  have B_is_number_from_0_spNumP := ok_is_number_from_0P (P := PW0) (w := w) (mg := mg) (base := base) D_is_number_from_0 B_is_number_spNumP B_top_of_spTop
  have B_is_part_spData := ok_is_partP (P := PW0) (w := w) (mg := mg) (base := base) D_is_part B_is_number_from_0_spNumP B_are_names_spData B_is_name_spNameX h_isinstance h_tuple h_len
  have B_has_kind_spHas := ok_has_kind (P := PW0) (w := w) (mg := mg) (base := base) D_has_kind h_any
  have B_mixes_leads_and_hubs_spMix := ok_mixes (P := PW0) (w := w) (mg := mg) (base := base) D_mixes_leads_and_hubs B_has_kind_spHas
  have B_places_of_part_spEnds := ok_places_of_part (P := PW0) (w := w) (mg := mg) (base := base) D_places_of_part
  have B_places_in_spPlaces := ok_places_in (P := PW0) (w := w) (mg := mg) (base := base) D_places_in B_places_of_part_spEnds h_list h_set h_sorted
  have N_is_net_spNetP := okn_is_netP (P := PW0) (w := w) (mg := mg) (base := base) D_is_net B_are_taps_spData B_is_part_spData B_mixes_leads_and_hubs_spMix B_places_in_spPlaces h_isinstance h_tuple h_len h_all c_MOST_PARTS c_MOST_PLACES
  have B__law_an_every_spEvery := ok_an_every (P := PW0) (w := w) (mg := mg) (base := base) D__law_an_every h_list h_sorted
  have B__law_an_kind_spKind := ok_an_kind (P := PW0) (w := w) (mg := mg) (base := base) D__law_an_kind
  have B_check_net_spCheckD := ok_check_netD (P := PW0) (w := w) (mg := mg) (base := base) o_BadNet D_check_net N_is_net_spNetP.ok
  have N_places_of_spPlacesOf := okn_places_of (P := PW0) (w := w) (mg := mg) (base := base) D_places_of B_check_net_spCheckD B_places_in_spPlaces
  have B_sort_in_spKind := ok_sort_in (P := PW0) (w := w) (mg := mg) (base := base) D_sort_in B_has_kind_spHas
  have N_sort_of_spSortOf := okn_sort_of (P := PW0) (w := w) (mg := mg) (base := base) D_sort_of B_check_net_spCheckD B_sort_in_spKind
  have B_inner_in_spInner := ok_inner_in (P := PW0) (w := w) (mg := mg) (base := base) D_inner_in B_places_in_spPlaces
  have B_inner_of_spInnerOf := ok_inner_of (P := PW0) (w := w) (mg := mg) (base := base) D_inner_of B_check_net_spCheckD B_inner_in_spInner
  have B__law_an_inner_spInner := ok_an_inner (P := PW0) (w := w) (mg := mg) (base := base) D__law_an_inner B__law_an_every_spEvery
  have B_check_sort_spSortC := ok_check_sort (P := PW0) (w := w) (mg := mg) (base := base) o_BadSort D_check_sort h_isinstance h_str sorts
  have N_is_of_sort_spIsOf := okn_is_of_sort (P := PW0) (w := w) (mg := mg) (base := base) D_is_of_sort B_check_net_spCheckD B_check_sort_spSortC B_sort_in_spKind
  have B__law_is_truth_spTruth := ok_is_truth (P := PW0) (w := w) (mg := mg) (base := base) D__law_is_truth
  have B__law_an_told_right_spTold := ok_told_right (P := PW0) (w := w) (mg := mg) (base := base) D__law_an_told_right B__law_an_every_spEvery B__law_an_kind_spKind N_places_of_spPlacesOf N_sort_of_spSortOf B_inner_of_spInnerOf B__law_an_inner_spInner N_is_of_sort_spIsOf B__law_is_truth_spTruth
  have B__law_an_near_taps_spNearTaps := ok_near_taps (P := PW0) (w := w) (mg := mg) (base := base) D__law_an_near_taps B__law_draw_spDraw B__law_pick_spPick h_len h_list
  have B__law_an_crowd_spCrowd := ok_crowd (P := PW0) (w := w) (mg := mg) (base := base) D__law_an_crowd B__law_draw_spDraw B__law_pick_spPick B__law_an_every_spEvery h_len h_range h_str h_min h_max h_tuple
  have B__law_an_ends_spEnds := ok_an_ends (P := PW0) (w := w) (mg := mg) (base := base) D__law_an_ends
  have B__law_an_near_part_spNearPart := ok_near_part (P := PW0) (w := w) (mg := mg) (base := base) D__law_an_near_part B__law_draw_spDraw B__law_an_ends_spEnds B__law_pick_spPick h_len h_list
  have B__law_an_near_spNear := ok_near (P := PW0) (w := w) (mg := mg) (base := base) D__law_an_near B__law_draw_spDraw B__law_pick_spPick B__law_an_near_taps_spNearTaps B__law_an_crowd_spCrowd B__law_an_near_part_spNearPart h_len h_list h_tuple h_sorted
  have B__law_an_is_word_spNameX := ok_an_is_wordX (P := PW0) (w := w) (mg := mg) (base := base) D__law_an_is_word h_isinstance h_str h_len
  have B__law_an_rising_spRisP := ok_an_risingP (P := PW0) (w := w) (mg := mg) (base := base) D__law_an_rising B__law_an_is_word_spNameX h_isinstance h_tuple h_len h_list h_set h_sorted
  have B__law_ct_is_number_spNumP := ok_ct_is_numberP (P := PW0) (w := w) (mg := mg) (base := base) D__law_ct_is_number B__law_ct_gcd_spGcd h_isinstance h_tuple h_int h_bool h_len
  have B__law_ct_top_spTop := ok_ct_top (P := PW0) (w := w) (mg := mg) (base := base) D__law_ct_top h_isinstance h_tuple
  have B__law_ct_low_spTop := ok_ct_low (P := PW0) (w := w) (mg := mg) (base := base) D__law_ct_low h_isinstance h_tuple
  have B__law_ct_less_spLess0 := ok_ct_less (P := PW0) (w := w) (mg := mg) (base := base) D__law_ct_less B__law_ct_top_spTop B__law_ct_low_spTop
  have B__law_an_is_wide_spNumP := ok_an_is_wideP (P := PW0) (w := w) (mg := mg) (base := base) D__law_an_is_wide B__law_ct_is_number_spNumP B__law_ct_less_spLess0
  have B__law_an_is_part_spData := ok_an_is_partP (P := PW0) (w := w) (mg := mg) (base := base) D__law_an_is_part B__law_an_rising_spRisP B__law_an_is_wide_spNumP B__law_an_is_word_spNameX h_isinstance h_tuple h_len
  have B__law_an_is_net_spNetP := ok_an_is_netP (P := PW0) (w := w) (mg := mg) (base := base) D__law_an_is_net B__law_an_rising_spRisP B__law_an_is_part_spData B__law_an_every_spEvery h_isinstance h_tuple h_len
  have B_without_empty_spRefuse := or_without_empty (P := PW0) (w := w) (mg := mg) (base := base) D_without_empty B_check_net_spCheckD
  have B_turned_net_spRefuse := or_turned_net (P := PW0) (w := w) (mg := mg) (base := base) D_turned_net B_check_net_spCheckD
  have B_as_leads_spRefuse := or_as_leads (P := PW0) (w := w) (mg := mg) (base := base) D_as_leads B_check_net_spCheckD
  have B_as_hubs_spRefuse := or_as_hubs (P := PW0) (w := w) (mg := mg) (base := base) D_as_hubs B_check_net_spCheckD
  have B_as_pipes_spRefuse := or_as_pipes (P := PW0) (w := w) (mg := mg) (base := base) D_as_pipes B_check_net_spCheckD
  have B_walls_spRefuse := or_walls (P := PW0) (w := w) (mg := mg) (base := base) D_walls B_check_net_spCheckD
  have B_net_text_spRefuse := or_net_text (P := PW0) (w := w) (mg := mg) (base := base) D_net_text B_check_net_spCheckD
  have B_beside_spRefuse2 := or_beside (P := PW0) (w := w) (mg := mg) (base := base) D_beside B_check_net_spCheckD
  have B_alike_nets_spRefuse2 := or_alike_nets (P := PW0) (w := w) (mg := mg) (base := base) D_alike_nets B_check_net_spCheckD
  have B_scaled_spRefuse := or_scaled (P := PW0) (w := w) (mg := mg) (base := base) D_scaled B_check_net_spCheckD
  have B_side_cost_spRefuse := or_side_cost (P := PW0) (w := w) (mg := mg) (base := base) D_side_cost B_check_net_spCheckD
  have B_renamed_net_spRefuse := or_renamed_net (P := PW0) (w := w) (mg := mg) (base := base) D_renamed_net B_check_net_spCheckD
  have B_hidden_net_spRefuse := or_hidden_net (P := PW0) (w := w) (mg := mg) (base := base) D_hidden_net B_check_net_spCheckD
  have B_wall_spRefuse := or_wall (P := PW0) (w := w) (mg := mg) (base := base) D_wall B_check_net_spCheckD
  have B_melted_net_spRefuse := or_melted_net (P := PW0) (w := w) (mg := mg) (base := base) D_melted_net B_check_net_spCheckD
  have B_check_blocks_spRefuse := or_check_blocks (P := PW0) (w := w) (mg := mg) (base := base) D_check_blocks B_check_net_spCheckD
  have B_least_side_spRefuse := or_least_side (P := PW0) (w := w) (mg := mg) (base := base) D_least_side B_check_blocks_spRefuse
  have B_greatest_flow_spRefuse := or_greatest_flow (P := PW0) (w := w) (mg := mg) (base := base) D_greatest_flow B_check_blocks_spRefuse
  have B_flow_between_spRefuse := or_flow_between (P := PW0) (w := w) (mg := mg) (base := base) D_flow_between B_check_blocks_spRefuse
  have B_is_side_spRefuse := or_is_side (P := PW0) (w := w) (mg := mg) (base := base) D_is_side B_check_blocks_spRefuse
  have B_is_flow_spRefuse := or_is_flow (P := PW0) (w := w) (mg := mg) (base := base) D_is_flow B_check_blocks_spRefuse
  have B_amount_of_spRefuse := or_amount_of (P := PW0) (w := w) (mg := mg) (base := base) D_amount_of B_check_blocks_spRefuse
  have B__law_an_all_refuse_spAllRefuse := ok_all_refuse (P := PW0) (w := w) (mg := mg) (base := base) lk ne T__law_an_all_refuse D__law_caught N_sort_of_spSortOf N_places_of_spPlacesOf B_inner_of_spInnerOf B_without_empty_spRefuse B_turned_net_spRefuse B_as_leads_spRefuse B_as_hubs_spRefuse B_as_pipes_spRefuse B_walls_spRefuse B_net_text_spRefuse B_beside_spRefuse2 B_alike_nets_spRefuse2 N_is_of_sort_spIsOf B_scaled_spRefuse B_side_cost_spRefuse B_renamed_net_spRefuse B_hidden_net_spRefuse B_wall_spRefuse B_melted_net_spRefuse B_least_side_spRefuse B_greatest_flow_spRefuse B_flow_between_spRefuse B_is_side_spRefuse B_is_flow_spRefuse B_amount_of_spRefuse h_isinstance
  have B__law_ct_bad_net_spBadNet := ok_ct_bad_net (P := PW0) (w := w) (mg := mg) (base := base) D__law_ct_bad_net B__law_pick_spPick
  exact ok_law (P := PW0) (w := w) (mg := mg) (base := base) lk kv ne lk0 hcd TB D__law_caught B__law_begun_spBegun B__law_an_drawn_spDrawn N_is_net_spNetP B__law_an_told_right_spTold B__law_an_near_spNear B__law_an_is_net_spNetP B__law_an_all_refuse_spAllRefuse B__law_ct_bad_net_spBadNet B__law_pick_spPick B__law_is_truth_spTruth N_sort_of_spSortOf N_is_of_sort_spIsOf h_isinstance h_range h_ValueError
end
end K05
set_option maxHeartbeats 4000000
open PySem PySem.W PySem.Calls PyProof.Rows
theorem PySem.Challenge.cw_behindtaps_k05_nets_judged_and_their_pla_holds : PySem.Challenge.rw_behindtaps_k05_nets_judged_and_their_pla.Holds := by
  w_on; o_law
  refine HandSHeadRun.head_imp (r := OpenLaw.row PySem.Challenge.rw_behindtaps_k05_nets_judged_and_their_pla) (q := view (OpenLaw.row PySem.Challenge.rw_behindtaps_k05_nets_judged_and_their_pla).prog [0, 1, 147]) (H := K05.hk) (ob := K05.ob) (M := 8000) (loose := K05.loose) (d := HandSHeadRun.topDef (OpenLaw.row PySem.Challenge.rw_behindtaps_k05_nets_judged_and_their_pla).prog 147) (kwd := []) K05.ob_eq
    K05.run (by kernel_rfl) (by kernel_rfl) (by kernel_rfl) (by rfl) (by first | assumption | decide +kernel) (by decide +kernel) ⟨rfl, rfl, rfl, rfl, rfl, by decide +kernel⟩ ?hw ?hc
  case hw => w_witness2
  case hc =>
    refine LamX.walk_ofTsE (l := PySem.Challenge.rw_behindtaps_k05_nets_judged_and_their_pla) (n := 63) (k := 12) (x := "script") (CX := fun _ => L2.CX0) rfl (by decide) (by kernel_rfl) ⟨rfl, by decide, by decide⟩ ?F (fun _ _ _ _ _ z => z)
    intro w mg fa h Y G hmg0
    obtain ⟨K, KX, c, i⟩ := Y
    have hmg : mg ("law" : PySem.Str) = some (.ref fa) := by
      have e : (HandSHeadRun.topDef (OpenLaw.row PySem.Challenge.rw_behindtaps_k05_nets_judged_and_their_pla).prog 147).name = ("law" : PySem.Str) := by kernel_rfl
      rw [← e]
      exact hmg0
    exact ⟨K, KX, K05.law_at KX G c i hmg⟩
