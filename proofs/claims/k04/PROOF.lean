import PyProof.Rows.All
import Wide.All
import OpenK.AllK
import Wide.FinOn
import HandS.Deep
import HandS.TupAny
import HandS.Conv
import HandS.ForMost
import HandS.Defaults
import HandS.Codes
import HandS.Wide
import HandS.Exc
import HandS.ExcOwn
import HandS.ExcInit
import HandS.ExcValue
import HandS.IsInst
import KE.KExcIs
import HandS.HeadHook4
import PyProof.P3Eq
import HandS.Strs
import HandS.SetFor
import HandS.TupSets
import HandS.TryOnly
import HandS.DictComp
import HandS.Walk
import HandS.OwnEq
import HandS.SlotsOwn
import HandS.Property
import HandS.ExcField
import KE.KRevSl
import HandS.TryMany
import HandS.Small
import HandS.ExcIs
import HandS.Records
import HandS.IterVal
import KE.KOwnIter
import HandS.OwnIter
import KE.KStateDown
import HandS.Head0
import HandS.Head1
import HandS.Head2
import HandS.HeadEnd
import PySem.Challenge.RW_savedseats_k04_lots_built
set_option Elab.async false
set_option linter.all false
set_option maxRecDepth 100000
set_option maxHeartbeats 4000000
namespace Kx
open PySem PySem.Spec PyProof.Rows L2
/-! ### an own error over ValueError: what the text says of its class, as one Bool -/
/-- the class of an error with an own __init__(self, f) that keeps f -/
def oexB (K : PySem.W.Frag) (C : Addr) : Bool := match K.lookup C with
  | some ⟨.type "type", _, .cls cd, sl⟩ => (match cd.mro, sl.toList with
    | .ref C' :: bm, [_, _, _, _, some (.builtin n), _] => C' == C && n == "ValueError.__new__" && !cd.hasDel && cd.hasDict && PySem.HandSPX.refsVE bm
    | _, _ => false)
  | _ => false
theorem oexB_ok {K : PySem.W.Frag} {C : Addr} (q : oexB K C = true) : ∃ nm q N bs bm sn sub ab col dd k0 k1 k2 k3 k5, K.lookup C = some (excClassObj nm q C N bs bm true sn sub ab col dd k0 k1 k2 k3 k5 "ValueError.__new__") ∧ PySem.HandSPX.refsVE bm = true := by
  unfold oexB at q
  split at q
  · rename_i dd cd sl ho
    split at q
    · rename_i C' bm k0 k1 k2 k3 n k5 hm hs
      simp only [Bool.and_eq_true, beq_iff_eq, Bool.not_eq_true'] at q
      obtain ⟨⟨⟨⟨rfl, rfl⟩, hdel⟩, hdct⟩, ht⟩ := q
      obtain ⟨nm, bs, mro, ns, qn, hd, sn, sub, ab, col, del⟩ := cd
      dsimp only at hm hdel hdct
      subst hm hdel hdct
      have hsl : sl = #[k0, k1, k2, k3, some (.builtin "ValueError.__new__"), k5] := by
        obtain ⟨l⟩ := sl
        simp only at hs
        rw [hs]
      subst hsl
      exact ⟨nm, qn, ns, bs, bm, sn, sub, ab, col, dd, k0, k1, k2, k3, k5, ho, ht⟩
    · cases q
  · cases q
def eqOB (a b : Option (Option Value)) : Bool := decide (a = b)
def eqVB (a b : Option Value) : Bool := decide (a = b)
def eqBB (a b : Option Bool) : Bool := decide (a = b)
/-- what is asked of each error's class -/
def errB (K : PySem.W.Frag) (C : Addr) : Bool :=
  eqOB (PySem.W.findIn K (.ref C) "__setattr__") (some (some (.builtin "object.__setattr__"))) && (eqBB (PySem.W.subIn K (.ref C) (.type "BaseException")) (some true) && (eqVB (PySem.W.typeIn K (.ref C)) (some (.type "type")) && (PySem.W.keepIn K (.ref C) &&
  (eqOB (PySem.W.findIn K (.ref C) "__getattribute__") (some (some (.builtin "BaseException.__getattribute__"))) && (eqOB (PySem.W.findIn K (.ref C) "__getattr__") (some none) && (PySem.W.hasDictIn K C && (eqOB (PySem.W.findIn K (.ref C) "__class__") (some (some (.builtin "object.__class__"))) &&
  (eqOB (PySem.W.specialIn K (.builtin "object.__class__") "__get__") (some (some (.builtin "getset_descriptor.__get__"))) && (eqBB (PySem.W.takesIn K (.builtin "object.__class__")) (some true) && (eqBB (PySem.W.mroIn K C (.type "object")) (some true) && (PySem.W.clsIn K C).isSome))))))))))
structure ErrC (K : PySem.W.Frag) (C : Addr) : Prop where
  sa : PySem.W.findIn K (.ref C) "__setattr__" = some (some (.builtin "object.__setattr__"))
  exC : PySem.W.subIn K (.ref C) (.type "BaseException") = some true
  tyC : PySem.W.typeIn K (.ref C) = some (.type "type")
  kC : PySem.W.keepIn K (.ref C) = true
  ga : PySem.W.findIn K (.ref C) "__getattribute__" = some (some (.builtin "BaseException.__getattribute__"))
  gg : PySem.W.findIn K (.ref C) "__getattr__" = some none
  hd : PySem.W.hasDictIn K C = true
  ca : PySem.W.findIn K (.ref C) "__class__" = some (some (.builtin "object.__class__"))
  cg : PySem.W.specialIn K (.builtin "object.__class__") "__get__" = some (some (.builtin "getset_descriptor.__get__"))
  ct : PySem.W.takesIn K (.builtin "object.__class__") = some true
  cm : PySem.W.mroIn K C (.type "object") = some true
  cl : (PySem.W.clsIn K C).isSome = true
theorem andB {a b : Bool} (h : (a && b) = true) : a = true ∧ b = true := Bool.and_eq_true_iff.mp h
theorem errB_ok {K : PySem.W.Frag} {C : Addr} (h : errB K C = true) : ErrC K C := by
  obtain ⟨h1, h⟩ := andB h
  obtain ⟨h2, h⟩ := andB h
  obtain ⟨h3, h⟩ := andB h
  obtain ⟨h4, h⟩ := andB h
  obtain ⟨h5, h⟩ := andB h
  obtain ⟨h6, h⟩ := andB h
  obtain ⟨h7, h⟩ := andB h
  obtain ⟨h8, h⟩ := andB h
  obtain ⟨h9, h⟩ := andB h
  obtain ⟨h10, h⟩ := andB h
  obtain ⟨h11, h12⟩ := andB h
  exact ⟨of_decide_eq_true h1, of_decide_eq_true h2, of_decide_eq_true h3, h4, of_decide_eq_true h5, of_decide_eq_true h6, h7, of_decide_eq_true h8, of_decide_eq_true h9, of_decide_eq_true h10, of_decide_eq_true h11, h12⟩
theorem ErrC.oex {K : PySem.W.Frag} {C : Addr} (E : ErrC K C) (h : oexB K C = true) : OexC K C := ⟨oexB_ok h, E.sa, E.exC, E.tyC, E.kC⟩

/-! ### __init__(self, f): self.f = f -/
def spInit (C : Addr) (f : Str) : Sp := fun vs H Q _ => ∃ (a : Addr) (v : V), vs = [.ref a, v] ∧ H a = some (exo a C none) ∧
  ∀ dx, H dx = none → dx ≠ a → Q .non (upd (upd H dx (exd dx [(f, v)])) a (exo a C (some dx)))
/-- an error's class with its __init__ -/
structure ErrI (P : Program) (w : World) (K : PySem.W.Frag) (mg : Str → Option Value) (base : Heap) (C : Addr) (f : Str) : Prop where
  e : ErrC K C
  o : OexC K C
  no : PySem.W.findIn K (.ref C) f = some none
  init : ∃ fI fd, PySem.W.findIn K (.ref C) "__init__" = some (some (.ref fI)) ∧ PySem.W.typeIn K (.ref fI) = some (.type "function") ∧ FnOk P w K mg base CX0 1 fI fd ["self", f] (spInit C f) ∧ Binds K fd ["self", f] []
section
variable {X : Cx} {C : Addr} {f x : Str} {e : Expr} {ta : TA} {te : TE} {p pos : Pos}
/-- C(e) as a value: a new exception at a, its dict at d -/
def tErr (C : Addr) (f : Str) (ta : TA) : TE := fun σ H Q => ta σ H fun vs H1 => ∃ v, vs = [v] ∧ ∀ (a d : Addr) (H2 : Hp), H1 a = none → H1 d = none → H2 a = some (exo a C (some d)) → H2 d = some (exd d [(f, v)]) → Same H1 H2 → Q (.ref a) H2
theorem pe_err (T : ErrI X.prog X.w X.K X.mg X.base C f) (hr : Room 2 X.A) (hg : Gl X x) (hm : X.mg x = some (.ref C)) (ha : PA X [e] ta)
    (hdb : (x == ("__debug__" : Str)) = false := by decide) (he : starEach [e] X.env = (false, eval e X.env) :: starEach [] X.env := by rfl) (hpl : (backTo pos (starEach [] X.env)).any (·.1) = false := by rfl) :
    PE X (.Call (.Name x p) [e] [] pos) (tErr C f ta) := by
  refine ⟨fun pins s σ H Q I h => ?_⟩
  obtain ⟨nm, q, N, bs, bm, sn, sub, ab, col, dd, k0, k1, k2, k3, k5, hC, hbm⟩ := T.o.cls
  obtain ⟨fI, fd, iC, tI, F1, hb⟩ := T.init
  refine wpAny_Call_Name_kw (ld_glob I hg hm ?_ hdb)
  refine PySem.W.callWith_K (h₀ := X.base) I.ok.mod.kin T.o.kC (thn (ha.run pos pins s σ H _ I h) fun us s1 ⟨vs, H1, I1, r1, v, ev, q1⟩ => ⟨I1.kIn, ?_⟩) he hpl
  subst ev
  show wpAny _ _ (call (.ref C) us) _ _ _
  obtain ⟨hp, g, dr, tk, os⟩ := s1
  have hsz : hp.objs.size ≤ hp.objs.size + 1 := Nat.le_succ _
  have hn : H1 (hp.objs.size + 1) = none := I1.hok.fresh hsz
  have kk : ∀ b o, hp.get? b = some o → ((hp.push (PySem.W.kdv_tup us)).push (PySem.HandSPX.excO C hp.objs.size)).get? b = some o := fun b o e => Heap.get?_push_of_some _ (Heap.get?_push_of_some _ e)
  have hget : ((hp.push (PySem.W.kdv_tup us)).push (PySem.HandSPX.excO C hp.objs.size)).get? (hp.objs.size + 1) = some (PySem.HandSPX.excO C hp.objs.size) := by heap_get
  have I2 : Inv X pins σ (upd H1 (hp.objs.size + 1) (exo (hp.objs.size + 1) C none)) ⟨(hp.push (PySem.W.kdv_tup us)).push (PySem.HandSPX.excO C hp.objs.size), g, dr, tk, os⟩ :=
    I1.laid (t' := tk) (a := hp.objs.size + 1) (o := exo (hp.objs.size + 1) C none) (h' := (hp.push (PySem.W.kdv_tup us)).push (PySem.HandSPX.excO C hp.objs.size)) kk hsz (exo_ok hget)
  have r2 : Vals [V.ref (hp.objs.size + 1), v] (Value.ref (hp.objs.size + 1) :: us) := .cons rfl r1
  have hq : spInit C f [V.ref (hp.objs.size + 1), v] (upd H1 (hp.objs.size + 1) (exo (hp.objs.size + 1) C none)) (fun u H2 => u = .non ∧ Q (.ref (hp.objs.size + 1)) H2) (fun _ _ _ => False) :=
    ⟨_, v, rfl, upd_same, fun dx ndx ne => ⟨rfl, by
      have nd1 : H1 dx = none := by rw [upd_ne ne] at ndx; exact ndx
      refine q1 _ dx _ hn nd1 upd_same (by rw [upd_ne ne, upd_same]) fun b o e => ?_
      rw [upd_ne (ne_of_none e hn), upd_ne (ne_of_none e nd1), upd_ne (ne_of_none e hn)]
      exact e⟩⟩
  have hl : ((Value.ref (hp.objs.size + 1) :: us) ++ []).length = (["self", f] : List Str).length := by
    rw [List.append_nil]
    exact r2.length.symm
  have hbb := hb _ (Value.ref (hp.objs.size + 1) :: us) I2.kIn hl
  rw [List.append_nil] at hbb
  have hus : us.length ≤ sizeLine := by
    rw [← Paired.length r1]
    show 1 ≤ sizeLine
    decide
  refine wpAny_call (PySem.HandSPX.call_own F.excBase_ValueError (fun Y => PySem.HandSPX.refsVE_contains Y bm hbm) (I1.kIn _ _ hC) (PySem.W.looks_findIn I1.kIn iC) (fun self => PySem.W.bind_fn I1.kIn self tI) hus
    (codeAny_mono (F1.run _ X.stack _ _ ⟨Value.ref (hp.objs.size + 1) :: us, []⟩ (Value.ref (hp.objs.size + 1) :: us) _ _ (fun _ _ _ => False) (hr.make C us []) (I2.env0.make C us []) hbb r2 hq) fun r s' hq' => ?_))
  cases r with
  | error er => exact False.elim hq'
  | ok fl =>
    cases fl with
    | ret u =>
      obtain ⟨v', H', I3, rv, ev, q3⟩ := I2.after hq'
      subst ev
      exact ⟨rv, ⟨V.ref (hp.objs.size + 1), H', I3, rfl, q3⟩⟩
    | next => exact False.elim hq'
    | brk => exact False.elim hq'
    | cont => exact False.elim hq'
/-- C(), an own error class without own __init__, as a value -/
def tErr0 (C : Addr) : TE := fun _ H Q => ∀ a, H a = none → Q (.ref a) (upd H a (ExO (.ref C) a))
theorem pe_err0 (q : PySem.W.excIn X.K C He.veBase "ValueError.__new__" = true) (kC : PySem.W.keepIn X.K (.ref C) = true) (hg : Gl X x) (hm : X.mg x = some (.ref C))
    (hdb : (x == ("__debug__" : Str)) = false := by decide) : PE X (.Call (.Name x p) [] [] pos) (tErr0 C) := by
  refine ⟨fun pins s σ H Q I h => ?_⟩
  refine wpAny_Call_Name_kw (ld_glob I hg hm ?_ hdb)
  refine PySem.W.callWith_K0 I.kIn kC ?_
  show wpAny _ _ (call (.ref C) []) _ _ _
  obtain ⟨bm, N, nm, qn, bs, hdct, sn, sub, ab, col, dd, k0, k1, k2, k3, k5, mN, hC, hN, hni, T⟩ := exc_obj I.kIn q
  refine wpAny_call_exc_subT F.excBase_ValueError T hC hN hni (fun h' a hm => ?_) (by show 0 ≤ sizeLine; exact Nat.zero_le _)
  have hn : H a = none := I.hok.gone hm.new
  obtain ⟨t, ht, _, _⟩ := hm.there
  exact ⟨.ref a, upd H a (ExO (.ref C) a), I.laidN hm.keeps hm.new hn (exO_ok ht ⟨rfl, rfl⟩ rfl rfl rfl (show 4 < 6 by decide)), rfl, h a hn⟩
/-- an exception of the class C stands at e, not raised -/
def XV (H : Hp) (C e : Addr) : Prop := (∃ d fs, H e = some (exo e C (some d)) ∧ H d = some (exd d fs)) ∨ H e = some (ExO (.ref C) e)
/-- a.f, a an exception -/
def tErrF (K : PySem.W.Frag) (f : Str) (te : TE) : TE := fun σ H Q => te σ H fun x H1 => ∃ (a C d : Addr) (fs : List (Str × V)) (v : V), x = .ref a ∧ ErrC K C ∧ PySem.W.findIn K (.ref C) f = some none ∧ H1 a = some (exo a C (some d)) ∧ H1 d = some (exd d fs) ∧ fs.lookup f = some v ∧ Q v H1
theorem pe_errF (he : PE X e te) (hb : attributeBase e f X.env (eval e X.env) = eval e X.env := by rfl) : PE X (.Attribute e f pos) (tErrF X.K f te) := by
  refine ⟨fun pins s σ H Q I h => ?_⟩
  refine attr_of hb (thn (he.run pins s σ H _ I h) fun u s1 hh => ?_)
  obtain ⟨x, H1, I1, rx, a, C, d, fs, v, ex, T, hno, ea, ed, l, q⟩ := hh
  subst ex
  obtain rfl : u = Value.ref a := rx
  obtain ⟨t1, ha⟩ := exo_at I1.hok ea
  obtain ⟨mA, hns, hr⟩ := exd_at I1.hok ed
  obtain ⟨od, ho, hl⟩ := lookIn_ns hns
  obtain ⟨u, hu, ru⟩ := RelO.some_of (v := v) (o := mA f) (by rw [← l]; exact hr f)
  have J : PySem.W.InstAt s1.heap a { cls := .ref C, dict := some d, data := .fields #[.ref t1, .none, .none, .none, .bool false, .none] } C (some od) := ⟨ha, rfl, rfl, ho⟩
  exact HandSPX.exc_get I1.kIn J T.ga T.gg T.exC (PySem.W.findObj_own T.hd hno rfl (by rw [hl, hu])) (handed_of ru) ⟨v, H1, I1.tok _, ru, q⟩
/-- isinstance(e, c), e an exception that is held -/
def rIsV (K : PySem.W.Frag) : List V → Hp → VK → Prop := fun xs H Q => ∃ (e C : Addr) (c : V) (u : Value) (b : Bool), xs = [.ref e, c] ∧ ClsV c u ∧ XV H C e ∧ ErrC K C ∧ PySem.W.kitOne K (.ref C) u = some b ∧ Q (.bl b) H
theorem call_isV : CallR X (.builtin "isinstance") (rIsV X.K) := by
  intro pins s σ H xs us Q I r h
  obtain ⟨a, C, c, u, b, rfl, k, xv, T, e, q⟩ := h
  obtain ⟨u1, u2, rfl, r1, r2⟩ := vals2 r
  have e2 := k.eq r2
  subst e2
  obtain rfl : u1 = Value.ref a := r1
  rcases xv with ⟨d, fs, ea, ed⟩ | ea
  · obtain ⟨t1, ha⟩ := exo_at I.hok ea
    obtain ⟨mA, hns, hr⟩ := exd_at I.hok ed
    obtain ⟨od, ho, hl⟩ := lookIn_ns hns
    have J : PySem.W.InstAt s.heap a { cls := .ref C, dict := some d, data := .fields #[.ref t1, .none, .none, .none, .bool false, .none] } C (some od) := ⟨ha, rfl, rfl, ho⟩
    exact PySem.W.kia_one (PySem.W.kitx_exc T.cl T.ga T.gg T.exC T.ca T.cg T.ct T.cm) I.kIn J e (fun z => nomatch z) fun tk => ⟨.bl b, H, I.kept (t' := tk) fun _ _ z => z, rfl, q⟩
  · obtain ⟨⟨oe, vs, ho, hz, hd, h1, _⟩, _, _⟩ := (show ObjOk X.prog X.w H s.heap a (ExO (.ref C) a) from I.hok a _ ea)
    have J : PySem.W.InstAt s.heap a oe C none := by
      obtain ⟨oc, od, oda, osl⟩ := oe
      obtain ⟨z1, z2⟩ := hz
      dsimp only at z1 z2 hd
      subst z1 z2 hd
      exact ⟨ho, rfl, rfl, trivial⟩
    exact PySem.W.kia_one (PySem.W.kitx_exc T.cl T.ga T.gg T.exC T.ca T.cg T.ct T.cm) I.kIn J e (fun z => nomatch z) fun tk => ⟨.bl b, H, I.kept (t' := tk) fun _ _ z => z, rfl, q⟩
end
/-- the __init__ of an error, as the text has it -/
theorem ok_init {P : Program} {w : World} {K : PySem.W.Frag} {mg : Str → Option Value} {base : Heap} {x qual f : Str} {params : Arguments} {body : List Stmt} {scope : Scope} {fI C : Addr} {fd : FuncData}
    (F : FunD K x qual params body scope [] [] fI fd) (sc : FnScope (["self", f] : List Str) ["self", f] scope) (T : OexC K C) (no : PySem.W.findIn K (.ref C) f = some none)
    (hb : ∀ X : Cx, X.N = (["self", f] : List Str) → X.env.scope = scope → PSs X body (tOst X.K f (tVar 0) (tVar 1))) : FnOk P w K mg base CX0 1 fI fd (["self", f] : List Str) (spInit C f) := by
  refine F.ok sc (fun vs H Q E h => ?_) (fun cdv A outer s H vs Q E hr h => ?_)
  · obtain ⟨a, v, rfl, _⟩ := h
    rfl
  · obtain ⟨a, v, rfl, ha, k⟩ := h
    refine ⟨_, hb _ rfl rfl, ?_⟩
    exact ⟨_, rfl, _, rfl, a, C, rfl, T, no, .inl ⟨ha, fun dx n ne => k dx n ne⟩⟩
end Kx

namespace Kx
open PySem PySem.Spec PyProof.Rows L2
/-! ### flat values as data -/
def dV : V → PyData
  | .non => .none
  | .bl b => .bool b
  | .int i => .int i
  | .str x => .str x
  | _ => .none
def okV : V → Bool
  | .non => true
  | .bl _ => true
  | .int _ => true
  | .str x => PyData.strOk x
  | _ => false
theorem dp_flat {K : PySem.W.Frag} {H : Hp} : ∀ {v : V}, okV v = true → Dp K H v (dV v)
  | .non, _ => .non
  | .bl b, _ => .bl b
  | .int i, _ => .int i
  | .str x, _ => .str x
theorem dp_all {K : PySem.W.Frag} {H : Hp} : ∀ {xs : List V}, xs.all okV = true → DpAll K H xs (xs.map dV)
  | [], _ => .nil
  | v :: r, h => by
    rw [List.all_cons, Bool.and_eq_true] at h
    exact .cons (dp_flat h.1) (dp_all h.2)
theorem lay_flat : ∀ {v : V}, okV v = true → (dV v).canLay0 = true
  | .non, _ => rfl
  | .bl b, _ => rfl
  | .int i, _ => rfl
  | .str x, h => h
theorem lay_all : ∀ {xs : List V}, xs.all okV = true → PyData.canLayAll0 (xs.map dV) = true
  | [], _ => rfl
  | v :: r, h => by
    rw [List.all_cons, Bool.and_eq_true] at h
    rw [List.map_cons, PyData.canLayAll0, lay_flat h.1, lay_all h.2]
    rfl
theorem depth_flat : ∀ v : V, (dV v).depth ≤ 1
  | .non => by simp [dV, PyData.depth]
  | .bl b => by simp [dV, PyData.depth]
  | .int i => by simp [dV, PyData.depth]
  | .str x => by simp [dV, PyData.depth]
  | .byt _ => by simp [dV, PyData.depth]
  | .flt _ => by simp [dV, PyData.depth]
  | .ref _ => by simp [dV, PyData.depth]
  | .ty _ => by simp [dV, PyData.depth]
theorem depth_all : ∀ xs : List V, PyData.depthAll (xs.map dV) ≤ 1
  | [] => by simp [PyData.depthAll]
  | v :: r => by
    have h1 := depth_flat v
    have h2 := depth_all r
    simp only [List.map_cons, PyData.depthAll]
    omega
theorem shaped_flat {v : V} (h : okV v = true) : SeqAt.shaped (dV v) = true := by
  unfold SeqAt.shaped
  rw [lay_flat h, decide_eq_true (Nat.le_trans (depth_flat v) (by decide))]
  rfl
theorem shaped_tup {xs : List V} (h : xs.all okV = true) : SeqAt.shaped (.tuple (xs.map dV)) = true := by
  unfold SeqAt.shaped
  have e : (PyData.tuple (xs.map dV)).canLay0 = true := lay_all h
  have d : (PyData.tuple (xs.map dV)).depth ≤ 64 := by
    have h2 := depth_all xs
    simp only [PyData.depth]
    omega
  rw [e, decide_eq_true d]
  rfl
theorem shaped_lst {xs : List V} (h : xs.all okV = true) : SeqAt.shaped (.list (xs.map dV)) = true := by
  unfold SeqAt.shaped
  have e : (PyData.list (xs.map dV)).canLay0 = true := lay_all h
  have d : (PyData.list (xs.map dV)).depth ≤ 64 := by
    have h2 := depth_all xs
    simp only [PyData.depth]
    omega
  rw [e, decide_eq_true d]
  rfl
theorem eqv_self {d : PyData} (h : SeqAt.shaped d = true) : PyData.eqv d d = true := PySem.SeqAt.eqv_refl d (SeqAt.canLay_of_shaped h)
end Kx

namespace Kx
open PySem PySem.Spec PyProof.Rows L2
/-! ### a set of tuples of ints that is asked (of a tuple that is not in it) and grows -/
section
variable {P : Program} {w : World} {A : Around} {E : Value → Shared → Prop} {s : Shared} {a x : Addr} {L : List (Addr × List Int)} {es : Array (Int × Value)} {ep : Nat} {t : SetTable} {k : List Int}
abbrev wayP (t : SetTable) (h : Int) (c : Nat) : SetTable.Probe := nth t.mask (runAt t.mask (SetTable.bits h % (t.mask + 1)) (SetTable.bits h)) c
theorem wayP_add (t : SetTable) (h : Int) (c q : Nat) : nth t.mask (wayP t h c) q = wayP t h (c + q) := (nth_add t.mask c _ q).symm
theorem nth_dummy (m : Nat) : ∀ (n : Nat) (p : SetTable.Probe), p.dummy = none → (nth m p n).dummy = none
  | 0, _, h => h
  | n + 1, p, h => nth_dummy m n _ (by unfold adv; split <;> exact h)
/-- a tuple that is not in: from the c-th step of its way on the search ends at the free place K -/
theorem seek_out (R : SetTR P w s.heap a L es ep t) (hx : IsT P w s.heap k x) (hu : A.units < cLine) (no : k ∉ L.map (·.2)) {K : Nat} (hKf : K < 10 * SetTable.turns t.mask) (hK : way t.mask (thash P w k) K ∉ t.place.toList)
    (hKb : ∀ c, c < K → way t.mask (thash P w k) c ∈ t.place.toList) {Q : SetFound → Shared → Prop} (out : Q (.free (way t.mask (thash P w k) K) false) s) :
    ∀ (f c : Nat) (stand : Option SetTable.Probe), stand.getD (t.probeStart (thash P w k)) = wayP t (thash P w k) c → c ≤ K → K - c < f → wpAny (model P w) A (setSearchFrom a (.ref x) (thash P w k) false f stand) Q E s := by
  obtain ⟨o, ho, hex, hd⟩ := R.ob
  intro f
  induction f with
  | zero => intro c stand _ _ hf; omega
  | succ f ih =>
    intro c stand hst hc hf
    have atJ : ∀ q, (nth t.mask (wayP t (thash P w k) c) q).j = way t.mask (thash P w k) (c + q) := fun q => congrArg (·.j) (wayP_add t _ c q)
    rw [setSearchFrom_succ]
    refine wpAny_bind (wpAny_setState_of ho hd R.fits (wp_if_neg R.gw (wpAny_bind (wpAny_pure ?_))))
    rcases go_spec t R.tab.ris R.tab.dm (fun i => (es[i]?.map (·.1)).getD 0) (thash P w k) (10 * SetTable.turns t.mask) (K - c) (wayP t (thash P w k) c) (nth_dummy _ c _ rfl) (by omega)
      (fun q hq => by rw [atJ]; exact hKb _ (by omega)) (by rw [atJ, Nat.add_sub_cancel' hc]; exact hK) with ⟨q, i, hq, hi, _, _, found⟩ | ⟨_, found⟩
    · have found' : t.probe (fun i => (es[i]?.map (·.1)).getD 0) (thash P w k) (stand.getD (t.probeStart (thash P w k))) = some (.candidate (way t.mask (thash P w k) (c + q)) i (wayP t (thash P w k) (c + (q + 1)))) := by
        rw [hst, ← atJ, ← wayP_add]
        exact found
      rw [found']
      rw [atJ] at hi
      have small : i < L.length := by
        have h1 := (List.getElem?_eq_some_iff.mp hi).1
        have h2 := R.tab.sz
        simp only [Array.length_toList, List.length_map] at h1 h2
        omega
      obtain ⟨p, hp⟩ : ∃ p, L[i]? = some p := ⟨_, List.getElem?_eq_getElem small⟩
      have inL : p ∈ L := List.mem_of_getElem? hp
      have unlike : ¬ p.2 = k := fun e => no (List.mem_map.mpr ⟨p, inL, e⟩)
      have live := slot_live R.tab.ris hi
      have tail : wpAny (model P w) A (searchRest a (.ref x) (thash P w k) false f es t (way t.mask (thash P w k) (c + q)) i (wayP t (thash P w k) (c + (q + 1)))) Q E s := by
        unfold searchRest
        rw [R.entry hp]
        refine wpAny_bind (wpAny_holding (wpAny_eqBool_tuple hu (R.tup p inL) hx (wpAny_bind (wpAny_setState_of ho hd R.fits ?_))))
        refine wp_if_neg (by simp) (wpAny_bind (wpAny_pure ?_))
        rw [sameMem]
        simp only [if_true, live, R.entry hp]
        refine wpAny_bind (wpAny_isSame_ref_self (wpAny_bind (wpAny_pure ?_)))
        simp only [if_true]
        exact wp_if_neg (by simp [unlike]) (ih _ _ rfl (by omega) (by omega))
      by_cases hl : t.led = true
      · exact wp_if_neg (by simp [hl]) (wpAny_bind (wpAny_pure tail))
      · refine wp_if_pos (by simp [hl]) (wpAny_bind (seen_tup hx (fun y hy => ?_) (wp_if_neg (by decide) (wpAny_bind (wpAny_pure tail)))))
        obtain ⟨e, he, rfl⟩ := List.mem_map.mp hy
        have he2 : e ∈ es.toList := by
          have := (show e ∈ es ∧ e.1 = thash P w k by simpa using he).1
          simpa using this
        rw [R.rows] at he2
        obtain ⟨p2, hp2, rfl⟩ := List.mem_map.mp he2
        exact ⟨p2.2, p2.1, rfl, R.tup p2 hp2⟩
    · have found' : t.probe (fun i => (es[i]?.map (·.1)).getD 0) (thash P w k) (stand.getD (t.probeStart (thash P w k))) = some (.empty (way t.mask (thash P w k) K) none) := by
        have e2 := atJ (K - c)
        rw [Nat.add_sub_cancel' hc] at e2
        rw [hst, ← e2]
        exact found
      rw [found']
      exact wpAny_pure out
theorem notin_setT (R : SetTR P w s.heap a L es ep t) (hx : IsT P w s.heap k x) (hu : A.units + 3 < cLine) (no : k ∉ L.map (·.2)) {Q : Bool → Shared → Prop} (h : ∀ tk, Q false { s with toks := tk }) :
    wpAny (model P w) A (setContains a (.ref x)) Q E s := by
  obtain ⟨o, ho, hex, hd⟩ := R.ob
  have room := R.room
  obtain ⟨K, hKf, hK, hKb⟩ := R.tab.first (by rw [List.length_map]; omega) (thash P w k)
  have big : K < 100000 := by
    have : 10 * SetTable.turns t.mask ≤ 1420 := by
      unfold SetTable.turns
      rcases R.tab.mok with e | e | e <;> omega
    omega
  unfold setContains
  refine wpAny_holding (wpAny_bind (wpAny_pyHash_tuple (by omega) hx (wpAny_bind ?_)))
  have R' : SetTR P w ({ s with toks := s.toks + (k.length + 1) } : Shared).heap a L es ep t := R
  show wpAny _ _ (setFind a (.ref x) (thash P w k)) _ _ _
  unfold setFind
  rw [show (100000 : Nat) = 99999 + 1 from rfl]
  unfold setFindIn
  refine wpAny_bind (wpAny_setState_of ho hd R.fits (wp_if_neg (by simp [byScan, Value.scannable]) (wpAny_bind ?_)))
  unfold setSearch
  refine seek_out (s := { s with toks := s.toks + (k.length + 1) }) R' hx (by omega) no hKf hK hKb ?_ 100000 0 none rfl (Nat.zero_le _) (by omega)
  exact wpAny_pure (wpAny_pure (h _))
/-- x in the set -/
theorem in_setT (R : SetTR P w s.heap a L es ep t) (hx : IsT P w s.heap k x) (hu : A.units + 8 < cLine) (no : k ∉ L.map (·.2)) {Q : Value → Shared → Prop} (h : ∀ tk, Q (.bool false) { s with toks := tk }) :
    wpAny (model P w) A (compareOp .In (.ref x) (.ref a)) Q E s := by
  obtain ⟨o, ho, hex, hd⟩ := R.ob
  have ty : s.TypeIs (.ref a) "set" := ⟨o, ho, hex.1⟩
  show wpAny _ _ (contains (.ref a) (.ref x) >>= fun b => pure (Value.bool b)) Q E s
  refine wpAny_bind ?_
  unfold contains
  try with_reducible refine wpAny_holding ?_
  refine wpAny_bind (wpAny_specialOf ty F.slot_set_contains.lookup (wp_if_neg (by rw [beq_builtin_none]; exact Bool.false_ne_true) ?_))
  refine wpAny_bind (wpAny_callSpecialUnlessNone?_slot (name := Str.ofString "__contains__") ty F.slot_set_contains (wpAny_call_entry F.slot_set_contains ty entry_set_contains ?_ (F.args_set_contains_2 _ _)))
  unfold Builtin.«frozenset.__contains__» Builtin.Frozenset.oneOther
  simp only [List.isEmpty_nil, bind_assoc]
  unfold Builtin.Frozenset.addrOf Builtin.Frozenset.withSetAsKey
  refine wpAny_bind (wpAny_pure (wpAny_bind (wpAny_pure (wpAny_bind (wpAny_tryCatch ?_)))))
  refine notin_setT R hx ?_ no fun tk => ?_
  · show A.units + 1 + 3 < cLine
    omega
  exact wpAny_pure ⟨_, rfl, wpAny_truthy_bool (wpAny_pure (h tk))⟩
end
section
variable {X : Cx}
def TupsT (K : PySem.W.Frag) (H : Hp) (L : List (Addr × List Int)) : Prop := ∀ p ∈ L, SqT K H p.1 (p.2.map V.int)
theorem full_of {pins : List (Addr × Obj)} {σ : L2.St} {H : Hp} {s : Shared} {a : Addr} {L : List (Addr × List Int)} (I : Inv X pins σ H s) (ha : H a = some (SetTO X.prog X.w a L)) (ht : TupsT X.K H L) : ∃ es ep t, SetTR X.prog X.w s.heap a L es ep t :=
  SetT0.full (I.hok a _ ha).1 fun p hp => I.isT (ht p hp)
/-- t in seen, t a tuple of ints that is not in it -/
def rInT0 (K : PySem.W.Frag) (P : Program) (w : World) : R2 := fun x y H Q => ∃ (b a : Addr) (k : List Int) (L : List (Addr × List Int)), x = .ref b ∧ y = .ref a ∧ SqT K H b (k.map V.int) ∧ H a = some (SetTO P w a L) ∧ TupsT K H L ∧ k ∉ L.map (·.2) ∧ Q (.bl false) H
theorem op_inT0 (hu : X.A.units + 64 < cLine) : OpR X (compareOp .In) (rInT0 X.K X.prog X.w) := by
  intro pins s σ H x y v u Q I rx ry h
  obtain ⟨b, a, k, L, rfl, rfl, hb, ha, ht, no, q⟩ := h
  cases rx
  cases ry
  obtain ⟨es, ep, t, R⟩ := full_of I ha ht
  exact in_setT R (I.isT hb) (by omega) no fun tk => ⟨.bl false, H, I.tok tk, rfl, q⟩
/-- set() of tuples to come -/
def rSet0T (P : Program) (w : World) : List V → Hp → VK → Prop := fun xs H Q => xs = [] ∧ ∀ p, H p = none → Q (.ref p) (upd H p (SetTO P w p []))
theorem cr_set0T : CallR X (.type "set") (rSet0T X.prog X.w) := by
  intro pins s σ H xs us Q I r h
  obtain ⟨rfl, q⟩ := h
  cases r
  refine setR_new fun _ => ?_
  have new := setTR_fresh (P := X.prog) (w := X.w) (h := s.heap.push { cls := .type "set", dict := none, data := .set #[] 0 (.fresh 0 0 (!X.w.params.followText "set-order")) }) (a := s.heap.objs.size) (Heap.get?_push_size _ rfl)
  exact ⟨.ref _, upd H s.heap.objs.size (SetTO X.prog X.w s.heap.objs.size []), I.laid (t' := s.toks) (fun b u e => Heap.get?_push_of_some _ e) (Nat.le_refl _) (setTO_new new.t0), rfl, q _ (I.hok.fresh (Nat.le_refl _))⟩
/-- seen.add(t), t not in it, fewer than 64 -/
def rAddT (K : PySem.W.Frag) (P : Program) (w : World) : V → List V → Hp → VK → Prop := fun x xs H Q => ∃ (a b : Addr) (k : List Int) (L : List (Addr × List Int)), x = V.ref a ∧ xs = [V.ref b] ∧ H a = some (SetTO P w a L) ∧ TupsT K H L ∧ SqT K H b (k.map V.int) ∧ k ∉ L.map (·.2) ∧ L.length + 1 < 64 ∧
  ∀ L', L'.Perm ((b, k) :: L) → Q .non (upd H a (SetTO P w a L'))
theorem mt_saddT (hu : X.A.units + 64 < cLine) : MtR X "set.add" (rAddT X.K X.prog X.w) := by
  intro pins s σ H x xs v us Q I rx rxs h
  obtain ⟨a, b, k, L, rfl, rfl, ha, ht, hb, no, few, q⟩ := h
  cases rx
  rw [Vals.ref1 rxs]
  obtain ⟨es, ep, t, R⟩ := full_of I ha ht
  obtain ⟨o, ho, hex, hd⟩ := R.ob
  refine wpAny_call_entry F.slot_set_add ⟨o, ho, hex.1⟩ F.entry_set_add ?_ (F.args_set_add_2 _ _)
  unfold Builtin.«set.add» Builtin.Frozenset.oneOther
  simp only [List.isEmpty_nil, bind_assoc]
  unfold Builtin.Frozenset.addrOf setAdd
  refine wpAny_bind (wpAny_pure (wpAny_bind (wpAny_pure (wpAny_bind (wpAny_holding (wpAny_bind (wpAny_pyHash_tuple (by show X.A.units + 1 < cLine; omega) (I.isT hb) ?_)))))))
  refine add_at (s := { s with toks := s.toks + (k.length + 1) }) R (I.isT hb) (by show X.A.units + 1 < cLine; omega) few fun c h' L' es' ep' t' sb R' _ more => ?_
  refine wpAny_pure ⟨_, rfl, ?_⟩
  have he : ∃ u, h'.get? a = some u := by
    obtain ⟨o', ho', _⟩ := R'.ob
    exact ⟨o', ho'⟩
  exact ⟨.non, upd H a (SetTO X.prog X.w a L'), I.write (e := a) (t' := s.toks + (k.length + 1)) (by rw [ha]; trivial) (.inl rfl) (fun b u hb hu => (sb.2 b hb).trans hu) he (setTO_new R'.t0), rfl, q L' (more no)⟩
def tAddT (K : PySem.W.Frag) (P : Program) (w : World) (to : TE) (t : TA) : TE := fun σ H Q => to σ H fun x H1 => (∃ a L, x = V.ref a ∧ H1 a = some (SetTO P w a L) ∧ TupsT K H1 L) ∧ t σ H1 fun xs H2 => rAddT K P w x xs H2 Q
variable {o e : Expr} {to : TE} {t : TA} {apos cpos : Pos}
theorem pe_saddT (hu : X.A.units + 64 < cLine) (ho : PE X o to) (ha : PA X [e] t)
    (hbase : attributeBase o "add" X.env (eval o X.env) = eval o X.env := by rfl)
    (hfew : ((backTo cpos (starEach [e] X.env)).all (fun x => !x.1) && (backToKw cpos (keywordEach [] X.env)).all (fun x => x.1.isSome)
      && decide ([e].length + ([] : List Keyword).length + (if ([] : List Keyword).isEmpty then 0 else 1) < 30)) = true := by rfl)
    (hline : (apos.endLine == cpos.line) = true := by rfl) (hs : starEach [e] X.env = (false, eval e X.env) :: starEach [] X.env := by rfl) (hplain : (backTo cpos (starEach [] X.env)).any (·.1) = false := by rfl) :
    PE X (.Call (.Attribute o "add" apos) [e] [] cpos) (tAddT X.K X.prog X.w to t) := by
  refine ⟨fun pins s σ H Q I h => wpAny_Call_method_late hbase hfew hline rfl (thn (ho.run pins s σ H _ I h) fun v s1 ⟨x, H1, I1, r1, ty, q1⟩ => ?_)⟩
  obtain ⟨a, L, rfl, hka, htt⟩ := ty
  obtain ⟨es, ep, tt, R⟩ := full_of I1 hka htt
  cases r1
  obtain ⟨ob, hob, hex, hd⟩ := R.ob
  refine ⟨"set", "set.add", F.plainAttrs_set, F.slot_set_add, F.type_set_add, ⟨ob, hob, hex.1⟩, fun b e => ?_, ?_⟩
  · cases e
    exact ⟨ob, hob, hex.2.1⟩
  have hA := ha.run cpos pins s1 σ H1 _ I1 q1
  rw [hs] at hA ⊢
  refine Calls.callWith_builtin (by show (false || (backTo cpos (starEach [] X.env)).any (·.1)) = false; rw [hplain] <;> rfl) (Calls.evalArgs_plain ?_)
  exact thn hA fun us s2 ⟨vs, H2, I2, r2, q2⟩ => mt_saddT hu pins s2 σ H2 (.ref a) vs (.ref a) us Q I2 rfl r2 q2
end
/-! ### set(l), l a list of ints: as the library has it of tuples -/
abbrev freshSet (w : World) : Obj := { cls := .type "set", dict := none, data := .set #[] 0 (.fresh 0 0 (!w.params.followText "set-order")) }
section
variable {P : Program} {w : World} {A : Around} {E : Value → Shared → Prop} {s : Shared}
theorem call_set_listI {l : Addr} {items : Array Value} (ns : List Int) {Q : Value → Shared → Prop} (hh : A.handled = none) (hl : s.heap.IsList l items) (hit : IntsAre items.toList ns) (hb : ns.length + 1 < scanBound)
    (h : ∀ (h' : Heap) (tk c : Nat), SetR w h' s.heap.objs.size (fun j => decide (j ∈ ns)) c → c ≤ ns.length → (∀ b o, s.heap.get? b = some o → h'.get? b = some o) → Q (.ref s.heap.objs.size) { s with heap := h', toks := tk }) :
    wpAny (model P w) A (call (.type "set") [.ref l]) Q E s := by
  have many : items.size = ns.length := by rw [← IntsAre.length hit, Array.length_toList]
  obtain ⟨c, tl, hmro⟩ := F.called_set.mro
  have m1 := F.called_set.made
  have m2 := F.called_set.sub
  have m3 := F.called_set.notType
  have m4 := F.called_set.canCreate
  have m5 := F.typeCall_set_1 (.ref l)
  refine wpAny_call (codeAny_of_tree (show wpAny _ _ (callAny (.type "set") _) _ _ _ from wpAny_pure ⟨Code.quiet_builtin _ (by decide +kernel), codeAny_builtin F.entry_type_call ?_⟩))
  rw [Around.under_plain (weight_type_call_type "set" [.ref l] []) rfl]
  repeat (any_goals (first | assumption | wp_step))
  refine codeAny_mono (code_set_led1 (.ref l) (E := E) (Q₁ := fun obj s₁ => obj = .ref s.heap.objs.size ∧ s₁ = { s with heap := s.heap.push (freshSet w) }) ⟨rfl, rfl⟩) fun r s₁ hr => ?_
  cases r with
  | error e => exact hr
  | ok fl =>
   cases fl with
   | ret obj =>
    obtain ⟨rfl, rfl⟩ := hr
    have at0 : (s.heap.push (freshSet w)).get? s.heap.objs.size = some (freshSet w) := Heap.get?_push_size _ rfl
    have ty : Shared.TypeIs { s with heap := s.heap.push (freshSet w) } (.ref s.heap.objs.size) "set" := ⟨_, at0, rfl⟩
    have i1 := F.called_set.init.lookup
    have i2 := F.called_set.init.bind (.ref s.heap.objs.size)
    repeat (any_goals (first | assumption | wp_step))
    refine codeAny_mono (codeAny_call_builtin (R := wants (fun r s₂ => r = .none ∧ ∃ h' tk c, s₂ = { s with heap := h', toks := tk } ∧ SetR w h' s.heap.objs.size (fun j => decide (j ∈ ns)) c ∧ c ≤ ns.length ∧
      (∀ b o, s.heap.get? b = some o → h'.get? b = some o)) E) F.called_set.init.plain F.entry_set_init (check_set_init_1 ty ?_)) fun r₂ s₂ hr₂ => ?_
    · have old : l < s.heap.objs.size := by obtain ⟨_, ho, _⟩ := hl; exact Heap.lt_size ho
      obtain ⟨⟨ocls, odict, odata, oslots⟩, hol, hcl, nl, hdl⟩ := hl
      simp only at hcl hdl
      subst hcl hdl
      have hol' : (s.heap.push (freshSet w)).get? l = some { cls := .type "list", dict := odict, data := .seq items nl, slots := oslots } := Heap.get?_push_of_some _ hol
      have s1 := F.sub_list_set
      have s2 := F.sub_list_frozenset
      have s3 : (Value.type "list" == Value.type "dict") = false := by decide
      have lst : (s.heap.push (freshSet w)).IsList l items := ⟨_, hol', rfl, nl, rfl⟩
      unfold Builtin.«set.__init__» noKeywords Builtin.Frozenset.updateFrom
      generalize hPI : pyIter = PI
      wp_walk
      subst hPI
      refine wpAny_pyIter_list lst (wpAny_bind (wpAny_runValue ?_))
      have quiet : A.in1.in1.in1.handled = none := by simp [hh]
      have size1 : (s.heap.push (freshSet w)).objs.size = s.heap.objs.size + 1 := Heap.size_push ..
      refine set_update_ints ((Walks.list quiet (s.heap.push (freshSet w)).objs.size l (by rw [size1]; exact Nat.ne_of_lt (Nat.lt_succ_of_lt old)) items).toS) s.heap.objs.size (by rw [size1]; simp only [List.mem_cons, List.not_mem_nil, or_false, not_or]; exact ⟨Nat.ne_of_lt (Nat.lt_succ_self _), Nat.ne_of_gt old⟩) ns many hb (fun i v hv => ?_) (items.size - 0) 0 _ (by omega) (Nat.zero_le _)
        ⟨⟨_, Heap.get?_push_size _ rfl, rfl, rfl⟩, lst.push _⟩ ⟨0, Nat.le_refl 0, setR_new_at (Heap.get?_push_of_some _ at0)⟩ fun s' c' hm hc' hS' => ?_
      · have hi : i < ns.length := by rw [← many]; exact (Array.getElem?_eq_some_iff.mp hv).1
        obtain ⟨t, e⟩ := PyProof.Rows.IntsAre.int_at hit i v (by rw [Array.getElem?_toList]; exact hv)
        exact ⟨ns[i], t, List.getElem?_eq_getElem hi, by rw [e, List.getD_eq_getElem?_getD, List.getElem?_eq_getElem hi] <;> rfl⟩
      · obtain ⟨h', g2, d', tk', os'⟩ := s'
        obtain rfl : g2 = s.gens := hm.gens
        obtain rfl : d' = s.drawn := hm.drawn
        obtain rfl : os' = s.os := hm.os
        rw [many] at hc'
        refine wpAny_pure (wpAny_pure ⟨rfl, h', tk', c', rfl, hS', hc', fun b o e => ?_⟩)
        have hb0 : b < s.heap.objs.size := Heap.lt_size e
        exact hm.heap b o (by rw [size1]; simp only [List.mem_cons, List.not_mem_nil, or_false, not_or]; exact ⟨Nat.ne_of_lt hb0, Nat.ne_of_lt (Nat.lt_succ_of_lt hb0)⟩) (Heap.get?_push_of_some _ (Heap.get?_push_of_some _ e))
    · cases r₂ with
      | error e => exact hr₂
      | ok fl₂ =>
        cases fl₂ with
        | ret v =>
          obtain ⟨rfl, h', tk, c', rfl, hS', hc', k⟩ := hr₂
          repeat (any_goals (first | assumption | wp_step))
          exact h _ _ _ hS' hc' k
        | _ => exact hr₂.elim
   | _ => exact hr.elim
end
section
variable {X : Cx}
/-- set(xs), xs a list or a tuple of ints -/
def rSetI (K : PySem.W.Frag) (w : World) : List V → Hp → VK → Prop := fun xs H Q => ∃ (l : Addr) (ns : List Int), xs = [V.ref l] ∧ (SqL K H l (ns.map V.int) ∨ SqT K H l (ns.map V.int)) ∧ ns.length < 60 ∧
  ∀ a c, H a = none → c ≤ ns.length → Q (.ref a) (upd H a (SetO w a (fun j => decide (j ∈ ns)) c))
theorem cr_setI (hc : X.calm = true) : CallR X (.type "set") (rSetI X.K X.w) := by
  intro pins s σ H xs us Q I r h
  obtain ⟨l, ns, rfl, hq, few, q⟩ := h
  rw [Vals.ref1 r]
  have fin : ∀ (h' : Heap) (tk c : Nat), SetR X.w h' s.heap.objs.size (fun j => decide (j ∈ ns)) c → c ≤ ns.length → (∀ b o, s.heap.get? b = some o → h'.get? b = some o) → EP X pins σ Q (.ref s.heap.objs.size) { s with heap := h', toks := tk } := fun h' tk c R hcn k =>
    ⟨.ref s.heap.objs.size, upd H s.heap.objs.size (SetO X.w s.heap.objs.size (fun j => decide (j ∈ ns)) c), I.laid (t' := tk) k (Nat.le_refl _) (setO_new R), rfl, q _ c (I.hok.fresh (Nat.le_refl _)) hcn⟩
  have small : ns.length + 1 < scanBound := Nat.lt_trans (Nat.succ_lt_succ few) (by decide)
  rcases hq with hq | hq
  · obtain ⟨its, rv, pl, hz⟩ := I.list hq
    exact call_set_listI (P := X.prog) (w := X.w) ns (I.ok.hd hc) pl.isList (by simpa using ints_of_vals rv) small fin
  · obtain ⟨its, rv, pl, hz⟩ := I.tuple hq
    exact call_set_tupI (P := X.prog) (w := X.w) ns (I.ok.hd hc) pl (by simpa using ints_of_vals rv) small fin
end
end Kx

namespace Kx
open PySem PySem.Spec PyProof.Rows L2
/-! ### a list or a tuple that is tracked -/
def Qa (H : Hp) (a : Addr) (xs : List V) : Prop := H a = some (.lst xs) ∨ H a = some (.tup xs)
theorem Qa.sq {K : PySem.W.Frag} {H : Hp} {a : Addr} {xs : List V} (h : Qa H a xs) : SqL K H a xs ∨ SqT K H a xs := by
  rcases h with h | h
  · exact .inl (SqL.of h)
  · exact .inr (SqT.of h)
theorem Qa.same {H H' : Hp} {a : Addr} {xs : List V} (h : Qa H a xs) (s : Same H H') : Qa H' a xs := by
  rcases h with h | h
  · exact .inl (s _ _ h)
  · exact .inr (s _ _ h)
theorem same_upd {H H' : Hp} {p : Addr} {o : HO} (s : Same H H') (n : H' p = none) : Same H (upd H' p o) := fun b u e => by
  rw [upd_ne (ne_of_none (s b u e) n)]
  exact s b u e
section
variable {X : Cx}
/-- what a for walks: the list or tuple that slot i holds -/
def iSeqV (K : PySem.W.Frag) (i : Nat) : TI := fun σ H R => ∃ a xs, σ[i]? = some (some (.ref a)) ∧ ((SqL K H a xs ∧ R (Itl K a) H) ∨ (SqT K H a xs ∧ R (Itt K a) H))
theorem pi_seqV (i : Nat) {tg : Expr} {x : Str} {pos : Pos} (hN : X.N[i]? = some x := by rfl) (hv : Vis X.env.scope x := by first | exact Or.inl rfl | exact Or.inr (Or.inl rfl) | exact Or.inr (Or.inr rfl)) (hd : (x == ("__debug__" : Str)) = false := by decide)
    (hcd : (x == ("__classdict__" : Str)) = false := by decide) : PI X tg (.Name x pos) (iSeqV X.K i) := by
  refine ⟨fun pins s σ H R I h => ?_⟩
  obtain ⟨a, xs, e, hq | hq⟩ := h
  · exact (pi_list (pe_var hN hv hd hcd)).run pins s σ H R I ⟨_, e, a, rfl, ⟨xs, hq.1⟩, hq.2⟩
  · exact (pi_tup (pe_var hN hv hd hcd)).run pins s σ H R I ⟨_, e, a, rfl, ⟨xs, hq.1⟩, hq.2⟩
theorem for_seqV {K : PySem.W.Frag} {i : Nat} {a : Addr} {xs : List V} {g : TG} {tb : TS} {D : Ends} {σ : L2.St} {H : Hp} (e : σ[i]? = some (some (.ref a))) (q : Qa H a xs) (Pv : Nat → L2.St → Hp → Prop) (h0 : Pv 0 σ H)
    (hl : ∀ j σ' H', j ≤ xs.length → Pv j σ' H' → ∀ o, H a = some o → H' a = some o)
    (hs : ∀ j x σ' H', xs[j]? = some x → Pv j σ' H' → g x σ' H' fun σ2 H2 => tb { D with nx := Pv (j + 1), ct := Pv (j + 1), bk := D.nx } σ2 H2) (hd : ∀ σ' H', Pv xs.length σ' H' → D.nx σ' H') : tFor (iSeqV K i) g tb D σ H := by
  rcases q with q | q
  · exact ⟨a, xs, e, .inl ⟨SqL.of q, for_list (K := K) (a := a) (xs := xs) Pv h0 (fun j σ' H' hj p => SqL.of (hl j σ' H' hj p _ q)) hs hd⟩⟩
  · exact ⟨a, xs, e, .inr ⟨SqT.of q, for_tup (K := K) (a := a) (xs := xs) Pv h0 (fun j σ' H' hj p => SqT.of (hl j σ' H' hj p _ q)) hs hd⟩⟩
/-- a, b, .. = a list or a tuple of that length -/
def gSeq (K : PySem.W.Frag) (n : Nat) (t : TGs) : TG := fun v σ H Q => ∃ a xs, v = .ref a ∧ (SqL K H a xs ∨ SqT K H a xs) ∧ xs.length = n ∧ t xs σ H Q
theorem pg_seq {es : List Expr} {k : Nat} {t : TGs} {n : Nat} {pos : Pos} (hc : X.calm = true) (h : PGs X es t) (hn : (assignEach es X.env).length = n := by rfl) (hst : (assignEach es X.env).findIdx? (·.1) = none := by rfl) : PG X (.Tuple es k pos) (gSeq X.K n t) := by
  refine ⟨fun pins s σ H v u Q I r hw => ?_⟩
  obtain ⟨a, xs, e, hq | hq, hl, hw⟩ := hw
  · exact (pg_lst hc h hn hst).run pins s σ H v u Q I r ⟨a, xs, e, hq, hl, hw⟩
  · exact (pg_tup hc h hn hst).run pins s σ H v u Q I r ⟨a, xs, e, hq, hl, hw⟩
end
/-- a dict comprehension over the list or tuple that slot i holds -/
theorem dc_seqV {K : PySem.W.Frag} {i : Nat} {a : Addr} {xs : List V} {g : TG} {tt : TT} {tk tv : TE} {vs : List Nat} {σ : L2.St} {H : Hp} {Q : VK} (e : σ[i]? = some (some (.ref a))) (q : Qa H a xs) (Pv : Addr → Nat → Hp → Prop) (h0 : ∀ D, H D = none → Pv D 0 (upd H D (.dK [])))
    (hl : ∀ D j H', H D = none → j ≤ xs.length → Pv D j H' → ∀ o, H a = some o → H' a = some o)
    (hs : ∀ D j x H', H D = none → xs[j]? = some x → Pv D j H' → g x (wipe σ vs) H' fun σ2 H2 => wipe σ2 vs = wipe σ vs ∧ tt σ2 H2 fun b H3 =>
      if b = true then tk σ2 H3 fun y H4 => tv σ2 H4 fun z H5 => ∃ kvs k, y = kV k ∧ H5 D = some (.dK kvs) ∧ kvs.length < sizeLine ∧ Pv D (j + 1) (upd H5 D (.dK (putK kvs k z))) else Pv D (j + 1) H3)
    (hd : ∀ D H', H D = none → Pv D xs.length H' → Q (.ref D) H') : tDc (iSeqV K i) g tt tk tv vs σ H Q := by
  have core : ∀ {J : It} (G : Hp → Prop), Walk J xs.length G (YAt xs) → (∀ D j H', H D = none → j ≤ xs.length → Pv D j H' → G H') → ∀ D, H D = none → ∃ W : Nat → Nat → Hp → Prop, (∃ m, W 0 m (upd H D (.dK []))) ∧ ∀ i m H, W i m H →
      (J.stop i H ∧ Q (.ref D) H) ∨ (J.go i H ∧ ∃ Nx : Hp → Prop, (∀ H', Nx H' → ∃ m', m' < m ∧ W (i + 1) m' H') ∧ ∀ x H', J.yld i H x H' → g x (wipe σ vs) H' fun σ2 H2 => wipe σ2 vs = wipe σ vs ∧ tt σ2 H2 fun b H3 =>
        if b = true then tk σ2 H3 fun y H4 => tv σ2 H4 fun z H5 => ∃ kvs k, y = kV k ∧ H5 D = some (.dK kvs) ∧ kvs.length < sizeLine ∧ Nx (upd H5 D (.dK (putK kvs k z))) else Nx H3) := by
    intro J G w hG D hD
    refine ⟨fun i m H' => m = xs.length - i ∧ i ≤ xs.length ∧ Pv D i H', ⟨xs.length, by simp, Nat.zero_le _, h0 D hD⟩, ?_⟩
    rintro i m H' ⟨rfl, hi, p⟩
    have q := hG D i H' hD hi p
    by_cases hlt : i < xs.length
    · refine .inr ⟨w.goes i H' hlt q, Pv D (i + 1), fun H2 p' => ⟨xs.length - (i + 1), by omega, rfl, hlt, p'⟩, fun x H2 y => ?_⟩
      obtain ⟨e1, e2⟩ := w.yields i H' x H2 hlt q y
      subst e1
      exact hs D i x _ hD e2 p
    · have e : i = xs.length := by omega
      subst e
      exact .inl ⟨w.stops H' q, hd D H' hD p⟩
  rcases q with q | q
  · exact ⟨a, xs, e, .inl ⟨SqL.of q, core _ walk_list fun D j H' hD hj p => SqL.of (hl D j H' hD hj p _ q)⟩⟩
  · exact ⟨a, xs, e, .inr ⟨SqT.of q, core _ walk_tup fun D j H' hD hj p => SqT.of (hl D j H' hD hj p _ q)⟩⟩
section
variable {X : Cx}
/-- name = {k: v for ..} on one line, the name a local -/
theorem ps_setDc {i : Nat} {y : Str} {py : Pos} {kx vx tg iter : Expr} {ifs : List Expr} {scope : Scope} {own : List (Str × Nat)} {pos spos : Pos} {wi : TI} {g : TG} {tt : TT} {tk tv : TE} (hc : X.calm = true) (hN : X.N.Nodup) (hy : X.N[i]? = some y) (hyl : X.env.scope.names.lookup y = some .local)
    (hsw : swapsWith (.DictComp kx vx [⟨tg, iter, ifs, 0⟩] scope pos) (some (.Name y py)) spos.line X.env = pure true) (hi : PI X tg iter wi) (ok : BlkOk X.N X.env.scope scope own)
    (hg : ∀ (s : Shared) (H : Hp) (C : Addr) (cl : List (Str × Addr)) (fp : List Addr), PG (X.blk s H scope (compEnvC scope cl C X.env) fp) tg g) (ht : ∀ (s : Shared) (H : Hp) (C : Addr) (cl : List (Str × Addr)) (fp : List Addr), PTs (X.blk s H scope (compEnvC scope cl C X.env) fp) ifs tt)
    (hk : ∀ (s : Shared) (H : Hp) (C : Addr) (cl : List (Str × Addr)) (fp : List Addr), PE (X.blk s H scope (compEnvC scope cl C X.env) fp) kx tk)
    (he : ∀ (s : Shared) (H : Hp) (C : Addr) (cl : List (Str × Addr)) (fp : List Addr), PE (X.blk s H scope (compEnvC scope cl C X.env) fp) vx tv) (hs : ∀ x, foldedSetIterable iter X.env x = pure x := by intro _; rfl) :
    PS X (.Assign [.Name y py] (.DictComp kx vx [⟨tg, iter, ifs, 0⟩] scope pos) spos) (tAsg (tDc wi g tt tk tv (own.map (·.2))) (gName i)) := by
  refine ⟨fun pins s σ H D I h => ?_⟩
  rw [exec_Assign_Name_used _ _ _ _ hsw]
  refine wpAny_bind (wpAny_standAt (wpAny_bind ?_))
  show wpAny _ X.A (do let _ ← comprehension (.DictComp kx vx [⟨tg, iter, ifs, 0⟩] scope pos) scope X.env (firstIterPos [⟨tg, iter, ifs, 0⟩] pos) newDict false (eval iter X.env) (some (assign (.Name y py) X.env))) _ _ s
  refine wpAny_bind (thn (dc_core (Qf := fun _ s' => SP X pins D .next s') hc hN I hi ok hg ht hk he hs (show tDc wi g tt tk tv (own.map (·.2)) σ H (fun x H1 => gName i x σ H1 D.nx) from h) fun L C s' m H' I' q hn f => ?_) fun _ s' hq => wpAny_pure (wpAny_pure hq))
  show wpAny _ _ (assign (.Name y py) X.env (.ref L)) _ _ _
  obtain ⟨f0, f1, f2, f3, f4, f5⟩ := f
  refine wpAny_assign_Name (store_ok2 (v := V.ref L) I' hN hy (.inl hyl) rfl (fun s2 I2 ⟨a, sb, ha⟩ => ?_) (.inr hyl))
  have apart : C ≠ a := by
    rcases ha with z | z
    · rw [z]; exact f1
    · exact fun e => f4 y a z e.symm
  exact ⟨m, hn.sameBut sb apart, fun h3 sb3 => ⟨_, H', I2.turned (t' := s2.toks) (fun b o hb e => (sb3.2 b hb).trans e) f0 f1 f3 f4 f5, q⟩⟩
theorem sw_dict {kx vx : Expr} {gs : List Comprehension} {scope : Scope} {pos py : Pos} {y : Str} {l : Nat} {env : Env} (hk : env.scope.kind = .function) (hy : env.scope.names.lookup y = some .local) (hl : (py.line == pos.line) = true)
    (ha : (scope.names.any fun (n, k) => n == y && (k == .local || k == .cell)) = false) : swapsWith (.DictComp kx vx gs scope pos) (some (.Name y py)) l env = pure true := by
  have ky : env.kindOf y = some .local := hy
  have hb : env.blockKind = .function := by unfold Env.blockKind; rw [hk]; rfl
  unfold swapsWith
  simp only [hb, ky, ha, Expr.pos, hl]
  rfl
end
/-- tuple(x) of a list or a tuple -/
theorem tuple_of {K : PySem.W.Frag} {H : Hp} {t : Addr} {xs : List V} {Q : VK} (h : Qa H t xs) (k : ∀ b H', Same H H' → H' b = some (.tup xs) → Q (.ref b) H') :
    ∃ p ys, [V.ref t] = [V.ref p] ∧ ((SqL K H p ys ∧ ∀ l, H l = none → Q (.ref l) (upd H l (.tup ys))) ∨ (SqT K H p ys ∧ Q (.ref p) H)) := by
  rcases h with h | h
  · exact ⟨t, xs, rfl, .inl ⟨SqL.of h, fun l hl => k l _ (same_upd (Same.refl H) hl) upd_same⟩⟩
  · exact ⟨t, xs, rfl, .inr ⟨SqT.of h, k t H (Same.refl H) h⟩⟩
section
variable {X : Cx}
/-- a call's rule by a weaker promise -/
theorem call_weak {f : Value} {r r' : List V → Hp → VK → Prop} (h : CallR X f r) (w : ∀ xs H Q, r' xs H Q → r xs H Q) : CallR X f r' := fun pins s σ H xs us Q I rv p => h pins s σ H xs us Q I rv (w xs H Q p)
/-- tuple(x), list(x) of a tracked list or tuple -/
theorem call_tupleQ : CallR X (.type "tuple") (fun xs H Q => ∃ p ys, xs = [.ref p] ∧ Qa H p ys ∧ ∀ b H', Same H H' → H' b = some (.tup ys) → Q (.ref b) H') :=
  call_weak call_tuple_of fun xs H Q ⟨p, ys, e, h, k⟩ => by
    subst e
    rcases h with h | h
    · exact ⟨p, ys, rfl, .inl ⟨SqL.of h, fun l hl => k l _ (same_upd (Same.refl H) hl) upd_same⟩⟩
    · exact ⟨p, ys, rfl, .inr ⟨SqT.of h, k p H (Same.refl H) h⟩⟩
theorem call_listQ : CallR X (.type "list") (fun xs H Q => ∃ p ys, xs = [.ref p] ∧ Qa H p ys ∧ ∀ l, H l = none → Q (.ref l) (upd H l (.lst ys))) :=
  call_weak call_list_of fun xs H Q ⟨p, ys, e, h, k⟩ => ⟨p, ys, e, h.sq, k⟩
end
theorem seq_setDc {wi : TI} {g : TG} {tt : TT} {tk tv : TE} {vs : List Nat} {i : Nat} {u : TS} {D : Ends} {σ : L2.St} {H : Hp} (h : tDc wi g tt tk tv vs σ H fun x H1 => gName i x σ H1 (u D)) : tSeq (tAsg (tDc wi g tt tk tv vs) (gName i)) u D σ H := h
theorem notin_take {α : Type} : ∀ {l : List α} {i : Nat} {x : α}, l.Nodup → l[i]? = some x → x ∉ l.take i
  | [], _, _, _, h => by simp at h
  | a :: r, 0, _, _, _ => by simp
  | a :: r, i + 1, x, nd, h => by
    obtain ⟨n1, n2⟩ := List.nodup_cons.mp nd
    have h' : r[i]? = some x := h
    rw [List.take_succ_cons, List.mem_cons, not_or]
    exact ⟨fun e => n1 (by rw [← e]; exact List.mem_of_getElem? h'), notin_take n2 h'⟩
end Kx

namespace Kx
open PySem PySem.Spec PyProof.Rows L2
/-! ### webs in plain Lean: what is reached -/
abbrev Edge := Int × Int
inductive Reach (es : List Edge) : Int → Int → Prop
  | refl (u : Int) : Reach es u u
  | step {u m v : Int} : (u, m) ∈ es → Reach es m v → Reach es u v
theorem Reach.trans {es : List Edge} {u m v : Int} (a : Reach es u m) (b : Reach es m v) : Reach es u v := by
  induction a with
  | refl => exact b
  | step e _ ih => exact .step e (ih b)
theorem Reach.one {es : List Edge} {u v : Int} (h : (u, v) ∈ es) : Reach es u v := .step h (.refl v)
theorem Reach.more {es es' : List Edge} {u v : Int} (s : ∀ e ∈ es, e ∈ es') (a : Reach es u v) : Reach es' u v := by
  induction a with
  | refl => exact .refl _
  | step e _ ih => exact .step (s _ e) ih
def turned (es : List Edge) : List Edge := es.map fun e => (e.2, e.1)
theorem mem_turned {es : List Edge} {u v : Int} : (u, v) ∈ turned es ↔ (v, u) ∈ es := by
  unfold turned
  rw [List.mem_map]
  constructor
  · rintro ⟨⟨a, b⟩, h, e⟩
    cases e
    exact h
  · intro h
    exact ⟨(v, u), h, rfl⟩
theorem Reach.back {es : List Edge} {u v : Int} (a : Reach es u v) : Reach (turned es) v u := by
  induction a with
  | refl => exact .refl _
  | step e _ ih => exact ih.trans (.one (mem_turned.mpr e))
theorem Reach.unturn {es : List Edge} {u v : Int} (a : Reach (turned es) u v) : Reach es v u := by
  induction a with
  | refl => exact .refl _
  | step e _ ih => exact ih.trans (.one (mem_turned.mp e))
theorem Reach.closed {es : List Edge} {S : List Int} (c : ∀ u ∈ S, ∀ v, (u, v) ∈ es → v ∈ S) {u v : Int} (a : Reach es u v) (h : u ∈ S) : v ∈ S := by
  induction a with
  | refl => exact h
  | step e _ ih => exact ih (c _ h _ e)
/-- a web whose parts are as the constructor asks -/
structure Good (n : Int) (es : List Edge) (e : Int) (xs : List Int) : Prop where
  n1 : 1 ≤ n
  n2 : n ≤ 24
  few : es.length < 60
  rng : ∀ p ∈ es, 0 ≤ p.1 ∧ p.1 < n ∧ 0 ≤ p.2 ∧ p.2 < n
  nd : es.Nodup
  e0 : 0 ≤ e
  e1 : e < n
  x0 : xs ≠ []
  xr : ∀ x ∈ xs, 0 ≤ x ∧ x < n
  xf : xs.length < 60
  fwd : ∀ v, 0 ≤ v → v < n → Reach es e v
  bwd : ∀ v, 0 ≤ v → v < n → ∃ x ∈ xs, Reach es v x
/-! ### the search -/
theorem len_le_of_sub {α : Type} [DecidableEq α] : ∀ (l m : List α), l.Nodup → (∀ x ∈ l, x ∈ m) → l.length ≤ m.length
  | [], m, _, _ => Nat.zero_le _
  | a :: r, m, nd, s => by
    obtain ⟨h1, h2⟩ := List.nodup_cons.mp nd
    have ha : a ∈ m := s a List.mem_cons_self
    have ih := len_le_of_sub r (m.erase a) h2 fun x hx => (List.mem_erase_of_ne (fun e => h1 (by rw [← e]; exact hx))).mpr (s x (List.mem_cons_of_mem _ hx))
    have e := List.length_erase_of_mem ha
    have p : 0 < m.length := List.length_pos_of_mem ha
    rw [List.length_cons]
    omega
/-- S found, W waiting -/
structure Seek (ss : List Int) (es : List Edge) (S W : List Int) : Prop where
  nd : S.Nodup
  sub : ∀ w ∈ W, w ∈ S
  st : ∀ s ∈ ss, s ∈ S
  sound : ∀ v ∈ S, ∃ s ∈ ss, Reach es s v
  bd : ∀ v ∈ S, v ∈ ss ++ es.map (·.2)
  closed : ∀ u ∈ S, u ∉ W → ∀ v, (u, v) ∈ es → v ∈ S
theorem Seek.len {ss : List Int} {es : List Edge} {S W : List Int} (k : Seek ss es S W) : S.length ≤ ss.length + es.length := by
  have := len_le_of_sub S (ss ++ es.map (·.2)) k.nd k.bd
  rw [List.length_append, List.length_map] at this
  exact this
/-- within a turn: p is taken off, j edges were looked at -/
structure Inn (es : List Edge) (p : Int) (S W : List Int) (j : Nat) (S' W' : List Int) : Prop where
  nd : S'.Nodup
  s1 : ∀ v ∈ S, v ∈ S'
  w1 : ∀ v ∈ W, v ∈ W'
  new : ∀ v ∈ S', v ∈ S ∨ (v ∈ W' ∧ (p, v) ∈ es)
  wn : ∀ v ∈ W', v ∈ W ∨ v ∈ S'
  got : ∀ v, (p, v) ∈ es.take j → v ∈ S'
  len : S'.length + W.length = W'.length + S.length
theorem Inn.start {es : List Edge} {p : Int} {S W : List Int} (h : S.Nodup) : Inn es p S W 0 S W :=
  ⟨h, fun _ h => h, fun _ h => h, fun _ h => .inl h, fun _ h => .inl h, fun v h => by simp at h, Nat.add_comm _ _ ▸ rfl⟩
theorem take_next {α : Type} {l : List α} {i : Nat} {x : α} (h : l[i]? = some x) : l.take (i + 1) = l.take i ++ [x] := by
  rw [List.take_add_one, h]
  rfl
theorem Inn.skip {es : List Edge} {p : Int} {S W S' W' : List Int} {j : Nat} {b e : Int} (k : Inn es p S W j S' W') (h : es[j]? = some (b, e)) (no : b ≠ p ∨ e ∈ S') : Inn es p S W (j + 1) S' W' :=
  ⟨k.nd, k.s1, k.w1, k.new, k.wn, fun v hv => by
      rw [take_next h, List.mem_append] at hv
      rcases hv with hv | hv
      · exact k.got v hv
      · have q := List.mem_singleton.mp hv
        injection q with q1 q2
        rcases no with no | no
        · exact absurd q1.symm no
        · rw [q2]; exact no, k.len⟩
theorem Inn.put {es : List Edge} {p : Int} {S W S' W' : List Int} {j : Nat} {e : Int} (k : Inn es p S W j S' W') (h : es[j]? = some (p, e)) (no : e ∉ S') : Inn es p S W (j + 1) (S' ++ [e]) (W' ++ [e]) where
  nd := nd_snoc k.nd no
  s1 := fun v h => List.mem_append_left _ (k.s1 v h)
  w1 := fun v h => List.mem_append_left _ (k.w1 v h)
  new := fun v hv => by
    rcases List.mem_append.mp hv with hv | hv
    · rcases k.new v hv with z | ⟨z1, z2⟩
      · exact .inl z
      · exact .inr ⟨List.mem_append_left _ z1, z2⟩
    · rw [List.mem_singleton.mp hv]
      exact .inr ⟨List.mem_append_right _ List.mem_cons_self, List.mem_of_getElem? h⟩
  wn := fun v hv => by
    rcases List.mem_append.mp hv with hv | hv
    · rcases k.wn v hv with z | z
      · exact .inl z
      · exact .inr (List.mem_append_left _ z)
    · exact .inr (List.mem_append_right _ hv)
  got := fun v hv => by
    rw [take_next h, List.mem_append] at hv
    rcases hv with hv | hv
    · exact List.mem_append_left _ (k.got v hv)
    · have q := List.mem_singleton.mp hv
      injection q with q1 q2
      rw [q2]
      exact List.mem_append_right _ List.mem_cons_self
  len := by
    have := k.len
    rw [List.length_append, List.length_append, List.length_singleton]
    omega
theorem Seek.turn {ss : List Int} {es : List Edge} {S W S' W' : List Int} {p : Int} (k : Seek ss es S (W ++ [p])) (i : Inn es p S W es.length S' W') : Seek ss es S' W' where
  nd := i.nd
  sub := fun v hv => by
    rcases i.wn v hv with z | z
    · exact i.s1 v (k.sub v (List.mem_append_left _ z))
    · exact z
  st := fun s h => i.s1 s (k.st s h)
  sound := fun v hv => by
    rcases i.new v hv with z | ⟨_, z⟩
    · exact k.sound v z
    · obtain ⟨s, hs, r⟩ := k.sound p (k.sub p (List.mem_append_right _ List.mem_cons_self))
      exact ⟨s, hs, r.trans (.one z)⟩
  bd := fun v hv => by
    rcases i.new v hv with z | ⟨_, z⟩
    · exact k.bd v z
    · exact List.mem_append_right _ (List.mem_map.mpr ⟨(p, v), z, rfl⟩)
  closed := fun u hu hw v he => by
    by_cases e : u = p
    · rw [e] at he
      exact i.got v (by rw [List.take_length]; exact he)
    · rcases i.new u hu with z | ⟨z, _⟩
      · refine i.s1 v (k.closed u z (fun m => ?_) v he)
        rcases List.mem_append.mp m with m | m
        · exact hw (i.w1 u m)
        · exact e (List.mem_singleton.mp m)
      · exact absurd z hw
theorem Seek.done {ss : List Int} {es : List Edge} {S : List Int} (k : Seek ss es S []) (v : Int) : v ∈ S ↔ ∃ s ∈ ss, Reach es s v :=
  ⟨k.sound v, fun ⟨s, hs, r⟩ => r.closed (fun u hu w he => k.closed u hu (by simp) w he) (k.st s hs)⟩
/-! ### a dict of True -/
def dS (S : List Int) : List (Key × V) := S.map fun i => ((Sum.inl i : Key), V.bl true)
theorem dS_val (S : List Int) (i : Int) : valV (dS S) (Sum.inl i) = if i ∈ S then some (V.bl true) else none := by
  induction S with
  | nil => simp [dS, valV]
  | cons a r ih =>
    show valV (((Sum.inl a : Key), V.bl true) :: dS r) (Sum.inl i) = _
    by_cases e : a = i
    · subst e
      rw [valV_pos rfl, if_pos List.mem_cons_self]
    · rw [valV_neg (fun z => e (Sum.inl.inj z)), ih]
      by_cases m : i ∈ r
      · rw [if_pos m, if_pos (List.mem_cons_of_mem _ m)]
      · rw [if_neg m, if_neg]
        intro z
        rcases List.mem_cons.mp z with z | z
        · exact e z.symm
        · exact m z
theorem dS_len (S : List Int) : (dS S).length = S.length := List.length_map ..
theorem dS_put_new {S : List Int} {i : Int} (h : i ∉ S) : putK (dS S) (Sum.inl i) (V.bl true) = dS (S ++ [i]) := by
  rw [putK_new _ (by rw [dS_val, if_neg h])]
  unfold dS
  rw [List.map_append]
  rfl
theorem dS_put_old {S : List Int} {i : Int} (h : i ∈ S) : putK (dS S) (Sum.inl i) (V.bl true) = dS S := by
  unfold putK
  rw [valV_any, dS_val, if_pos h, Option.isSome_some, if_pos rfl]
  unfold dS
  rw [List.map_map]
  refine List.map_congr_left fun j _ => ?_
  show (if (Sum.inl j : Key) = Sum.inl i then ((Sum.inl j : Key), V.bl true) else ((Sum.inl j : Key), V.bl true)) = _
  split <;> rfl
/-- what the comprehension has found behind the first of ss -/
structure Firsts (ss : List Int) (S : List Int) : Prop where
  nd : S.Nodup
  mem : ∀ v, v ∈ S ↔ v ∈ ss
theorem Firsts.next {ss S : List Int} {s : Int} (f : Firsts ss S) : Firsts (ss ++ [s]) (if s ∈ S then S else S ++ [s]) := by
  by_cases h : s ∈ S
  · rw [if_pos h]
    refine ⟨f.nd, fun v => ?_⟩
    rw [List.mem_append, List.mem_singleton, f.mem]
    constructor
    · exact .inl
    · rintro (z | z)
      · exact z
      · rw [z]; exact (f.mem s).mp h
  · rw [if_neg h]
    refine ⟨nd_snoc f.nd h, fun v => ?_⟩
    rw [List.mem_append, List.mem_append, f.mem]
theorem dS_put (S : List Int) (i : Int) : putK (dS S) (Sum.inl i) (V.bl true) = dS (if i ∈ S then S else S ++ [i]) := by
  by_cases h : i ∈ S
  · rw [if_pos h, dS_put_old h]
  · rw [if_neg h, dS_put_new h]
theorem Firsts.len {ss S : List Int} (f : Firsts ss S) : S.length ≤ ss.length := len_le_of_sub S ss f.nd fun v h => (f.mem v).mp h
theorem Firsts.seek {ss S : List Int} (f : Firsts ss S) (es : List Edge) : Seek ss es S ss where
  nd := f.nd
  sub := fun w h => (f.mem w).mpr h
  st := fun w h => (f.mem w).mpr h
  sound := fun v h => ⟨v, (f.mem v).mp h, .refl v⟩
  bd := fun v h => List.mem_append_left _ ((f.mem v).mp h)
  closed := fun u h n => absurd ((f.mem u).mp h) n
end Kx

namespace Kx
open PySem PySem.Spec PyProof.Rows L2
/-! ### == by an own __eq__, whatever it answers -/
section
variable {X : Cx}
def rEqOwn (C : Addr) (sp : Sp) (E : XK) : R2 := fun x y H Q => ∃ a b dx dy fs gs, x = .ref a ∧ y = .ref b ∧ H a = some (.ins C dx fs) ∧ H b = some (.ins C dy gs) ∧ sp [.ref a, .ref b] H Q E
theorem op_eqOwn {CX : CXT} {n : Nat} {C f : Addr} {fd : FuncData} {ps : List Str} {sp : Sp} {E : XK} (F : FnOk X.prog X.w X.K X.mg X.base CX n f fd ps sp) (hr : Room n X.A)
    (hs : PySem.W.findIn X.K (.ref C) "__eq__" = some (some (.ref f))) (hf : PySem.W.isFn X.K (.ref f) = true) (hb : Binds X.K fd ps []) (hx : Passes CX X E) : OpR X (compareOp .Eq) (rEqOwn C sp E) := by
  intro pins s σ H x y v u Q I rx ry d
  obtain ⟨a, b, dx, dy, fs, gs, rfl, rfl, ha, hb', q⟩ := d
  cases rx
  cases ry
  obtain ⟨mA, J, _⟩ := ins_get I.hok ha
  obtain ⟨mB, J', _⟩ := ins_get I.hok hb'
  obtain ⟨od, J, _⟩ := J.look
  obtain ⟨od', J', _⟩ := J'.look
  obtain ⟨m, hF⟩ := I.fr
  show wpAny (model X.prog X.w) X.A (richCompare .Eq (.ref a) (.ref b)) (EP X pins σ Q) X.xe s
  refine PySem.W.cmp_K (op := .Eq) (tb := .ref C) hr.units0 hF I.ok.mod.kin J J'.type (by simp [PySem.W.notFirst]) hs hf ?_
  have hl := F.len _ _ _ _ q
  have r2 : Vals [V.ref a, V.ref b] [Value.ref a, Value.ref b] := .cons rfl (.cons rfl .nil)
  refine wpAny_call (codeAny_mono (F.run X.A X.stack s H ⟨[.ref a, .ref b], []⟩ [.ref a, .ref b] [.ref a, .ref b] _ E hr I.env0 (by
    have := hb s [.ref a, .ref b] I.kIn (by simpa using hl)
    simpa using this) r2 q) fun r s' hq => ?_)
  cases r with
  | error e => exact hx pins σ H s e s' I hq
  | ok fl =>
    cases fl with
    | ret w =>
      obtain ⟨z, H', I', rz, qz⟩ := I.after hq
      exact SlX.cmpback rz ⟨z, H', I', rz, qz⟩
    | next => exact False.elim hq
    | brk => exact False.elim hq
    | cont => exact False.elim hq
end
/-! ### t.index(x), flat items -/
section
variable {X : Cx}
def rIndexT (K : PySem.W.Frag) : V → List V → Hp → VK → Prop := fun x xs H Q => ∃ (a : Addr) (ys : List Int) (y : Int) (j : Nat), x = V.ref a ∧ xs = [.int y] ∧ SqT K H a (ys.map V.int) ∧ ys[j]? = some y ∧ (∀ m, m < j → ys[m]? ≠ some y) ∧ Q (.int (j : Nat)) H
theorem mt_tup_indexI : MtR X "tuple.index" (rIndexT X.K) := by
  intro pins s σ H x xs v us Q I rx rxs h
  obtain ⟨a, ns, y, j, rfl, rfl, hs, hz, hno, q⟩ := h
  cases rx
  have fys : (ns.map V.int).all flatV = true := by
    rw [List.all_eq_true]
    intro v hv
    obtain ⟨_, _, rfl⟩ := List.mem_map.mp hv
    rfl
  obtain ⟨uy, rfl, ry⟩ := rxs.one
  obtain ⟨its, rv, pl, hlen⟩ := I.tuple hs
  obtain ⟨⟨cls, dd, dt, sl⟩, ho, hc, n, hd⟩ := pl
  simp only at hc hd
  subst hc
  subst hd
  have hz' : (ns.map V.int)[j]? = some (.int y) := by rw [List.getElem?_map, hz]; rfl
  obtain ⟨u, hu, ru⟩ := rv.get hz'
  obtain ⟨hjl, hje⟩ := List.getElem?_eq_some_iff.mp hu
  have hvl := rv.length
  have hj : j < its.toArray.size := by simpa using hjl
  refine call_meets PySem.F.slot_tuple_index ⟨_, ho, rfl⟩ PySem.F.entry_tuple_index (PySem.F.args_tuple_index_2 _ _)
    (TI.tuple_indexAt a its.toArray n dd sl uy (eqU (.int y)) j hj ?_ ?_) ⟨ho, fun u' hu' => mem_eqAt ry rfl rv fys u' (by simpa using hu'), ?_⟩
  · have e1 : its.toArray[j] = u := by simpa using hje
    rw [e1, eqU_of ru rfl]
    show (y == y) = true
    exact beq_self_eq_true y
  · intro m hm hmj
    have hml : m < its.length := by simpa using hm
    have hmy : m < (ns.map V.int).length := by omega
    have hmn : m < ns.length := by simpa using hmy
    have hy' : (ns.map V.int)[m]? = some (.int ns[m]) := by rw [List.getElem?_map, List.getElem?_eq_getElem hmn]; rfl
    obtain ⟨u2, hu2, ru2⟩ := rv.get hy'
    obtain ⟨_, hme⟩ := List.getElem?_eq_some_iff.mp hu2
    have e1 : its.toArray[m] = u2 := by simpa using hme
    rw [e1, eqU_of ru2 rfl]
    have ne : ns[m] ≠ y := fun e => hno m hmj (by rw [List.getElem?_eq_getElem hmn, e])
    show (ns[m] == y) = false
    exact beq_false_of_ne ne
  · exact ⟨.int (j : Nat), H, I.tok _, ⟨_, rfl⟩, q⟩
theorem inV_ints (y : Int) : ∀ ns : List Int, inV (.int y) (ns.map V.int) = decide (y ∈ ns)
  | [] => rfl
  | a :: r => by
    have ih := inV_ints y r
    unfold inV at ih ⊢
    rw [List.map_cons, List.any_cons, ih]
    show ((a == y) || decide (y ∈ r)) = _
    rw [Bool.eq_iff_iff, Bool.or_eq_true, beq_iff_eq, decide_eq_true_iff, decide_eq_true_iff, List.mem_cons]
    exact ⟨fun z => z.elim (fun z => .inl z.symm) .inr, fun z => z.elim (fun z => .inl z.symm) .inr⟩
theorem flat_ints (ns : List Int) : (ns.map V.int).all flatV = true := by
  rw [List.all_eq_true]
  intro v hv
  obtain ⟨_, _, rfl⟩ := List.mem_map.mp hv
  rfl
end
/-! ### a tuple whose object is known: its methods -/
theorem sqF {K : PySem.W.Frag} {H : Hp} {a : Addr} {o : Obj} {xs : List V} (h : H a = some (.frz o (.tup xs))) : SqT K H a xs := .inl (.inr ⟨o, h⟩)
section
variable {X : Cx}
theorem call_tupleF : CallR X (.type "tuple") (fun xs H Q => ∃ p ys, xs = [.ref p] ∧ SqL X.K H p ys ∧ ∀ l (o : Obj), H l = none → o.cls = .type "tuple" → o.dict = none → Q (.ref l) (upd H l (.frz o (.tup ys)))) := by
  intro pins s σ H xs us Q I r h
  obtain ⟨p, ys, rfl, hq, q⟩ := h
  obtain ⟨u, rfl, rx⟩ := vals1 r
  cases rx
  obtain ⟨its, r', pl, hz⟩ := I.list hq
  have hlen := r'.length
  refine call_tuple_list pl.isList (fun h' kp => ?_) (by simp only [List.size_toArray] <;> omega)
  have I1 : Inv X pins σ H { s with heap := h' } := I.kept (t' := s.toks) kp
  have I2 : Inv X pins σ (upd H h'.objs.size (.frz { cls := .type "tuple", data := .seq its.toArray } (.tup ys))) { s with heap := h'.push { cls := .type "tuple", data := .seq its.toArray } } :=
    I1.laid (t' := s.toks) (fun b o e => Heap.get?_push_of_some _ e) (Nat.le_refl _) (show ObjOk X.prog X.w _ _ _ (.frz _ (.tup ys)) from ⟨Heap.get?_push_size _ rfl, hz, its, r', IsTup.new _ _⟩)
  exact ⟨.ref h'.objs.size, _, I2, rfl, q _ _ (I1.hok.fresh (Nat.le_refl _)) rfl rfl⟩
def tBMT (r : V → List V → Hp → VK → Prop) (to : TE) (t : TA) : TE := fun σ H Q => to σ H fun x H1 => ∃ p o ys, x = .ref p ∧ H1 p = some (.frz o (.tup ys)) ∧ o.cls = .type "tuple" ∧ o.dict = none ∧ t σ H1 fun xs H2 => r x xs H2 Q
theorem pe_bmT {o e : Expr} {es : List Expr} {to : TE} {t : TA} {name : Str} {apos cpos : Pos} {id : String} {r : V → List V → Hp → VK → Prop} (pa : PlainAttrs "tuple") (slot : Slot "tuple" name id) (hty : typeOf (.builtin id) = pure (.type "method_descriptor")) (hm : MtR X id r) (ho : PE X o to) (ha : PA X (e :: es) t)
    (hbase : attributeBase o name X.env (eval o X.env) = eval o X.env := by rfl)
    (hfew : ((backTo cpos (starEach (e :: es) X.env)).all (fun x => !x.1) && (backToKw cpos (keywordEach [] X.env)).all (fun x => x.1.isSome)
      && decide ((e :: es).length + ([] : List Keyword).length + (if ([] : List Keyword).isEmpty then 0 else 1) < 30)) = true := by rfl)
    (hline : (apos.endLine == cpos.line) = true := by rfl) (hs : starEach (e :: es) X.env = (false, eval e X.env) :: starEach es X.env := by rfl) (hplain : (backTo cpos (starEach es X.env)).any (·.1) = false := by rfl) :
    PE X (.Call (.Attribute o name apos) (e :: es) [] cpos) (tBMT r to t) := by
  refine ⟨fun pins s σ H Q I h => ?_⟩
  refine wpAny_Call_method_late hbase hfew hline rfl (thn (ho.run pins s σ H _ I h) fun v s1 ⟨x, H1, I1, r1, p, ob, ys, ex, hp, hc, hd, q1⟩ => ?_)
  subst ex
  cases r1
  obtain ⟨ho1, _⟩ := I1.hok p _ hp
  refine ⟨"tuple", id, pa, slot, hty, ⟨ob, ho1, hc⟩, fun a ea => ?_, ?_⟩
  · cases ea
    exact ⟨ob, ho1, hd⟩
  have hA := ha.run cpos pins s1 σ H1 _ I1 q1
  rw [hs] at hA ⊢
  refine Calls.callWith_builtin (by show (false || (backTo cpos (starEach es X.env)).any (·.1)) = false; rw [hplain] <;> rfl) (Calls.evalArgs_plain ?_)
  exact thn hA fun us s2 ⟨vs, H2, I2, r2, q2⟩ => hm pins s2 σ H2 (.ref p) vs _ us Q I2 rfl r2 q2
end
/-! ### raise C(e), C an error with its __init__ -/
section
variable {X : Cx} {C : Addr} {f x : Str} {e : Expr} {es : List Expr} {ta : TA} {p pos : Pos}
def wkA (ta : TA) : TA := fun σ H Q => ∃ Q0, ta σ H Q0 ∧ ∀ vs H', Q0 vs H' → Q vs H'
theorem pa_wk (ha : PA X es ta) : PA X es (wkA ta) := ⟨fun pos pins s σ H Q I ⟨Q0, h, w⟩ => wpAny_mono (ha.run pos pins s σ H Q0 I h) (fun us s1 ⟨vs, H1, I1, r, q⟩ => ⟨vs, H1, I1, r, w vs H1 q⟩) fun _ _ x => x⟩
def tRs (C : Addr) (f : Str) (ta : TA) : L2.St → Hp → XK → Prop := fun σ H Q => ta σ H fun vs H1 => ∃ v, vs = [v] ∧ ∀ (d : Addr) (H2 : Hp), H1 d = none → H2 d = some (.xd [(f, v)]) → Same H1 H2 → Q (.ref C) (some d) H2
theorem pmk_errF (T : ErrI X.prog X.w X.K X.mg X.base C f) (hr : Room 2 X.A) (hg : Gl X x) (hm : X.mg x = some (.ref C)) (ha : PA X [e] ta)
    (hdb : (x == ("__debug__" : Str)) = false := by decide) (he : starEach [e] X.env = (false, eval e X.env) :: starEach [] X.env := by rfl) (hpl : (backTo pos (starEach [] X.env)).any (·.1) = false := by rfl) :
    PMk X (.Call (.Name x p) [e] [] pos) (tRs C f ta) := by
  obtain ⟨fI, fd, iC, tI, F1, hb⟩ := T.init
  intro pins s σ H Q I h
  refine pmk_oex (dvs := []) (ds := []) T.o iC tI F1 hr hb .nil pass0 hg hm (pa_wk ha) hdb he hpl pins s σ H Q I ⟨_, h, fun vs H1 q => ?_⟩
  obtain ⟨v, rfl, q⟩ := q
  refine ⟨(by decide : (1 : Nat) ≤ 1000), fun a hn => ⟨a, v, rfl, upd_same, fun dx hd ne => ⟨rfl, dx, [(f, v)], upd_same, by rw [upd_ne ne, upd_same], ?_, ?_⟩⟩⟩
  · rw [upd_ne ne] at hd
    exact hd
  · rw [upd_ne ne] at hd
    refine q dx _ hd upd_same fun b o e => ?_
    have n1 : b ≠ dx := ne_of_none e hd
    have n2 : b ≠ a := ne_of_none e hn
    rw [upd_ne n1, del_ne n2, upd_ne n2, upd_ne n1, upd_ne n2]
    exact e
end
/-! ### o.m(e, ..) in a try -/
section
variable {X : Cx} {CX : CXT} {k : Nat} {f C : Addr} {fd : FuncData} {ps : List Str} {sp : Sp} {E : L2.St → XK} {m : Str} {pos apos : Pos} {e o : Expr} {es : List Expr} {ta : TE} {t : TA}
def tMethE (C : Addr) (m : Str) (sp : Sp) (E : L2.St → XK) (ta : TE) (t : TA) : TE := fun σ H Q => ta σ H fun x H1 => ∃ a dx fs, x = .ref a ∧ H1 a = some (.ins C dx fs) ∧ fs.lookup m = none ∧ t σ H1 fun vs H2 => sp (x :: vs) H2 Q (E σ)
theorem pe_methE {pl : Sem Bool} (he : PE X o ta) (c : Cls X.K C) (hm : Meth X.K C m f) (F : FnOk X.prog X.w X.K X.mg X.base CX k f fd ps sp) (hr : Room k X.A) (hb : Binds X.K fd ps []) (hx : ∀ σ, PassesAt CX X σ (E σ)) (ha : PA X (e :: es) t)
    (hst : starEach (e :: es) X.env = (false, eval e X.env) :: starEach es X.env := by rfl) (hpl : (backTo pos (starEach es X.env)).any (·.1) = false := by rfl)
    (ht : eval (.Call (.Attribute o m apos) (e :: es) [] pos) X.env = (do
      let ov ← eval o X.env
      standAt apos.atName
      let (f, first) ← holding [ov] (getMethod ov m pl)
      callWith pos f first (backTo pos (starEach (e :: es) X.env)) (backToKw pos (keywordEach [] X.env))) := by rfl) :
    PE X (.Call (.Attribute o m apos) (e :: es) [] pos) (tMethE C m sp E ta t) := by
  refine ⟨fun pins s σ H Q I h => ?_⟩
  refine PySem.W.methodCall_KW (pl := pl) (thn (he.run pins s σ H _ I h) fun u s1 ⟨x, H1, I1, rx, a, dx, fs, ex, ea, l, q⟩ => ?_) ht
  subst ex
  obtain rfl : u = Value.ref a := rx
  refine getmeth_ok I1 ea c hm l ?_
  refine PySem.W.callWith_K (first := [.ref a]) (h₀ := X.base) I.ok.mod.kin hm.kp (thn (ha.run pos pins s1 σ H1 _ I1 q) fun us s2 ⟨vs, H2, I2, r, q2⟩ => ⟨I2.kIn, ?_⟩) hst hpl
  exact run_fnS (us := .ref a :: us) (vs := .ref a :: vs) F hr hb (hx σ) I2 (.cons rfl r) q2
end
/-! ### xs[::-1] -/
section
variable {X : Cx} {e st : Expr} {te : TE} {ts : TO} {pos p2 : Pos}
def tRevL (K : PySem.W.Frag) (te : TE) (ts : TO) : TE := fun σ H Q => te σ H fun x H1 => ts σ H1 fun l H2 => ∃ a xs, x = .ref a ∧ l = some (-1) ∧ SqL K H2 a xs ∧ ∀ p, H2 p = none → Q (.ref p) (upd H2 p (.lst xs.reverse))
theorem pe_sliceRev (he : PE X e te) (hs : PO X (some st) ts) (hsub : ∀ a b : Addr, subscripted (.Slice none none (some st) p2) false (.ref a) (.ref b) = operate [.ref a, .ref b] (getItem (.ref a) (.ref b)) := by intro _ _; with_unfolding_all rfl) : PE X (.Subscript e (.Slice none none (some st) p2) pos) (tRevL X.K te ts) := by
  refine ⟨fun pins s σ H Q I h => ?_⟩
  refine Subscript_ (thn (he.run pins s σ H _ I h) fun v s1 ⟨x, H1, I1, r1, q1⟩ => ?_)
  refine wpAny_Slice ?_
  rw [evalPart_none]
  refine wpAny_pure (wpAny_pure (thn (hs.run pins s1 σ H1 _ I1 q1) fun vs s3 ⟨u, H3, I3, pu, q3⟩ => ?_))
  obtain ⟨a, xs, ex, eu, hx, q⟩ := q3
  subst ex
  subst eu
  cases r1
  have I4 : Inv X pins σ H3 { s3 with heap := s3.heap.push { cls := .type "slice", data := .fields #[.none, .none, vs] } } := I3.kept (t' := s3.toks) fun b ob q => Heap.get?_push_of_some _ q
  obtain ⟨its, r, ht, hz⟩ := I4.list hx
  have hlen := r.length
  refine tail_any (ops := [.ref a, .ref s3.heap.objs.size]) (T := "list") ht.isList.typeIs slot_list_getitem.lookup ?_ (hsub _ _)
  refine wpAny_getItem_list_slice ht.isList (Heap.IsSliceOf.new ..) .none .none pu (by simp) ?_ (by rw [List.size_toArray] <;> omega)
  rw [PySem.W.krv_pick]
  refine ⟨.ref _, _, I4.laid (t' := s3.toks) (o := .lst xs.reverse) (fun b ob q => Heap.get?_push_of_some _ q) (Nat.le_refl _) ?_, rfl, q _ (I4.hok.fresh (Nat.le_refl _))⟩
  exact ⟨by rw [List.length_reverse]; exact hz, its.reverse, 0, r.reverse, Heap.get?_push_size _ rfl⟩
end
/-! ### slices of a tracked list -/
theorem cut_head (xs : List V) : cutV xs none (some 1) = xs.take 1 := by
  unfold cutV
  rw [HT.sIx_none, show (some (1 : Int)) = some ((1 : Nat) : Int) from rfl, HT.sIx_nat, List.drop_zero, Nat.sub_zero]
  rcases Nat.lt_or_ge xs.length 1 with h | h
  · rw [Nat.min_eq_right (by omega), List.take_of_length_le (by omega), List.take_of_length_le (by omega)]
  · rw [Nat.min_eq_left h]
theorem cut_tail (xs : List V) (k : Nat) : cutV xs (some (k : Int)) none = xs.drop k := by
  unfold cutV
  rw [HT.sIx_none, HT.sIx_nat]
  rcases Nat.lt_or_ge xs.length k with h | h
  · rw [Nat.min_eq_right (by omega), List.drop_of_length_le (Nat.le_refl _), List.drop_of_length_le (by omega)] <;> simp
  · rw [Nat.min_eq_left h, List.take_of_length_le (by rw [List.length_drop]; omega)]
/-! ### tuples of numbers and of pairs as data -/
theorem eqv_ints : ∀ (as bs : List Int), PyData.eqvAll (as.map PyData.int) (bs.map PyData.int) = decide (as = bs)
  | [], [] => rfl
  | [], _ :: _ => rfl
  | _ :: _, [] => rfl
  | a :: as, b :: bs => by
    show (PyData.eqv (.int a) (.int b) && PyData.eqvAll (as.map PyData.int) (bs.map PyData.int)) = _
    rw [eqv_ints as bs]
    show ((a == b) && decide (as = bs)) = _
    rw [Bool.eq_iff_iff]
    simp
def dP (p : Int × Int) : PyData := .tuple [.int p.1, .int p.2]
theorem eqv_pair (p q : Int × Int) : PyData.eqv (dP p) (dP q) = decide (p = q) := by
  obtain ⟨a, b⟩ := p
  obtain ⟨c, d⟩ := q
  show ((a == c) && ((b == d) && true)) = _
  rw [Bool.eq_iff_iff]
  simp
theorem eqv_pairs : ∀ (as bs : List (Int × Int)), PyData.eqvAll (as.map dP) (bs.map dP) = decide (as = bs)
  | [], [] => rfl
  | [], _ :: _ => rfl
  | _ :: _, [] => rfl
  | a :: as, b :: bs => by
    show (PyData.eqv (dP a) (dP b) && PyData.eqvAll (as.map dP) (bs.map dP)) = _
    rw [eqv_pairs as bs, eqv_pair, Bool.eq_iff_iff]
    simp
theorem dp_ints {K : PySem.W.Frag} {H : Hp} : ∀ (as : List Int), DpAll K H (as.map V.int) (as.map PyData.int)
  | [] => .nil
  | a :: r => .cons (.int a) (dp_ints r)
theorem dp_pair {K : PySem.W.Frag} {H : Hp} {a : Addr} {p : Int × Int} (h : H a = some (.tup [.int p.1, .int p.2])) : Dp K H (.ref a) (dP p) := .tup (SqT.of h) (.cons (.int _) (.cons (.int _) .nil))
theorem dp_pairs {K : PySem.W.Frag} {H : Hp} : ∀ (M : List (Addr × (Int × Int))), (∀ p ∈ M, H p.1 = some (.tup [.int p.2.1, .int p.2.2])) → DpAll K H (M.map fun p => V.ref p.1) ((M.map (·.2)).map dP)
  | [], _ => .nil
  | p :: r, h => .cons (dp_pair (h p List.mem_cons_self)) (dp_pairs r fun q hq => h q (List.mem_cons_of_mem _ hq))
theorem lay_ints : ∀ as : List Int, PyData.canLayAll0 (as.map PyData.int) = true
  | [] => rfl
  | a :: r => by
    show (true && PyData.canLayAll0 (r.map PyData.int)) = true
    rw [lay_ints r] <;> rfl
theorem lay_pairs : ∀ as : List (Int × Int), PyData.canLayAll0 (as.map dP) = true
  | [] => rfl
  | a :: r => by
    show (true && PyData.canLayAll0 (r.map dP)) = true
    rw [lay_pairs r] <;> rfl
theorem depth_ints : ∀ as : List Int, PyData.depthAll (as.map PyData.int) ≤ 1
  | [] => by simp [PyData.depthAll]
  | a :: r => by
    have h := depth_ints r
    simp only [List.map_cons, PyData.depthAll, PyData.depth]
    omega
theorem depth_pair (p : Int × Int) : (dP p).depth ≤ 4 := by
  unfold dP
  simp only [PyData.depth, PyData.depthAll]
  omega
theorem depth_pairs : ∀ as : List (Int × Int), PyData.depthAll (as.map dP) ≤ 4
  | [] => by simp [PyData.depthAll]
  | a :: r => by
    have h := depth_pairs r
    have h2 := depth_pair a
    simp only [List.map_cons, PyData.depthAll]
    omega
theorem shaped_ints (as : List Int) : SeqAt.shaped (.tuple (as.map PyData.int)) = true := by
  unfold SeqAt.shaped
  have e : (PyData.tuple (as.map PyData.int)).canLay0 = true := lay_ints as
  have d : (PyData.tuple (as.map PyData.int)).depth ≤ 64 := by
    have h2 := depth_ints as
    simp only [PyData.depth]
    omega
  rw [e, decide_eq_true d]
  rfl
theorem shaped_pair (p : Int × Int) : SeqAt.shaped (dP p) = true := by
  unfold SeqAt.shaped
  rw [show (dP p).canLay0 = true from rfl, decide_eq_true (Nat.le_trans (depth_pair p) (by decide))]
  rfl
theorem shaped_pairs (as : List (Int × Int)) : SeqAt.shaped (.tuple (as.map dP)) = true := by
  unfold SeqAt.shaped
  have e : (PyData.tuple (as.map dP)).canLay0 = true := lay_pairs as
  have d : (PyData.tuple (as.map dP)).depth ≤ 64 := by
    have h2 := depth_pairs as
    simp only [PyData.depth]
    omega
  rw [e, decide_eq_true d]
  rfl
theorem nil_ints {K : PySem.W.Frag} {H : Hp} {a : Addr} {as : List Int} (h : H a = some (.tup (as.map V.int))) : Dp K H (.ref a) (.tuple (as.map PyData.int)) := .tup (SqT.of h) (dp_ints as)
/-! ### a hook that reads the getters of properties too -/
structure PropD where
  cls : Str
  f : Str
  d : He.DefD
def PropD.p (K : PySem.W.Frag) (q : PropD) : Addr := He.ma K (He.ga K q.cls) q.f
def PropD.g (K : PySem.W.Frag) (q : PropD) : Addr := match PySem.W.recIn K (q.p K) "property" with
  | some (.ref g :: _) => g
  | _ => 0
def fnAt (K : PySem.W.Frag) (a : Addr) : He.FnW := match K.lookup a with
  | some ⟨_, _, .func fd, _⟩ => some (fd.name, fd.qualname, fd.params, fd.body, fd.scope, fd.globals, fd.closure, fd.builtins)
  | _ => none
def PropD.ok (K : PySem.W.Frag) (q : PropD) : Bool := PySem.W.keepIn K (.ref (q.g K)) && ((match K.lookup (q.g K) with
  | some ⟨_, _, .func fd, _⟩ => PySem.W.codeIn K fd.code q.d.qual && (He.dflB K fd.defaults [] && He.kwdB K fd.kwdefaults [])
  | _ => false) && (He.eqO (PySem.W.findIn K (.ref (He.ga K q.cls)) q.f) (some (some (.ref (q.p K)))) && (He.eqO (PySem.W.specialIn K (.ref (q.p K)) "__get__") (some (some (.builtin "property.__get__"))) &&
  (decide (PySem.W.takesIn K (.ref (q.p K)) = some true) && (match PySem.W.recIn K (q.p K) "property" with
    | some (.ref _ :: _) => true
    | _ => false)))))
theorem PropD.funD {K : PySem.W.Frag} {q : PropD} (e : fnAt K (q.g K) = q.d.val) (c : q.ok K = true) : (∃ fd, FunD K q.d.name q.d.qual q.d.params q.d.body q.d.scope [] [] (q.g K) fd) ∧ PropOf K (He.ga K q.cls) q.f (q.p K) (q.g K) := by
  obtain ⟨kp, c⟩ := Bool.and_eq_true_iff.mp c
  obtain ⟨c2, c⟩ := Bool.and_eq_true_iff.mp c
  obtain ⟨p1, c⟩ := Bool.and_eq_true_iff.mp c
  obtain ⟨p2, c⟩ := Bool.and_eq_true_iff.mp c
  obtain ⟨p3, p4⟩ := Bool.and_eq_true_iff.mp c
  refine ⟨?_, He.eqO_ok p1, He.eqO_ok p2, of_decide_eq_true p3, ?_⟩
  · unfold fnAt at e
    cases z : K.lookup (q.g K) with
    | none =>
      rw [z] at c2
      cases c2
    | some o =>
      obtain ⟨oc, od, dt, osl⟩ := o
      rw [z] at c2 e
      cases dt with
      | func fd =>
        obtain ⟨n1, n2, n3, n4, n5, n6, n7, n8, n9, n10, n11, n12, n13, n14, n15⟩ := fd
        have e2 : (some (n1, n2, n3, n4, n5, n6, n7, n15) : He.FnW) = some (q.d.name, q.d.qual, q.d.params, .stmts q.d.body, q.d.scope, mainGlobals, [], builtinsNs) := e
        simp only [Option.some.injEq, Prod.mk.injEq] at e2
        obtain ⟨h1, h2, h3, h4, h5, h6, h7, h8⟩ := e2
        subst h1 h2 h3 h4 h5 h6 h7 h8
        have c3 : (PySem.W.codeIn K n13 q.d.qual && (He.dflB K n8 [] && He.kwdB K n9 [])) = true := c2
        obtain ⟨k1, k2⟩ := Bool.and_eq_true_iff.mp c3
        obtain ⟨k3, k4⟩ := Bool.and_eq_true_iff.mp k2
        exact ⟨_, ⟨oc, od, n8, n9, n10, n11, n12, n13, n14, osl, rfl, z, k1, He.dflB_ok k3, He.kwdB_ok k4⟩, kp⟩
      | _ => cases c2
  · unfold PropD.g
    cases z : PySem.W.recIn K (q.p K) "property" with
    | none =>
      rw [z] at p4
      cases p4
    | some l =>
      rw [z] at p4
      cases l with
      | nil => cases p4
      | cons a r =>
        cases a with
        | ref g => exact ⟨r, rfl⟩
        | _ => cases p4
section
variable (n : Nat) (fa : List He.Fa) (fn : List He.DefD) (ps : List PropD) (ex : PySem.W.Frag → Bool)
abbrev AlP : Type := He.AlX × List He.FnW
def obsP (g : Addr → Option Obj) : AlP := (He.obsX n fa fn [] [] ex g, ps.map fun q => fnAt (He.frT g (He.asD g n)) (q.g (He.frT g (He.asD g n))))
def hookP : PySem.W.Hook where
  α := AlP
  obs := fun s => obsP n fa fn ps ex s.heap.get?
  val := fun w => (He.valX fn [] w, ps.map fun q => q.d.val)
  says := fun w h => ∃ K : PySem.W.Frag, K.In h ∧ He.SaysX fa fn [] [] ex w h K ∧ (ps.map fun q => fnAt K (q.g K)) = ps.map fun q => q.d.val
  of := fun _ _ e => ⟨_, He.frT_in, He.saysX_of (congrArg (fun z : AlP => z.1) e), by have h := congrArg (fun z : AlP => z.2) e; exact h⟩
  keeps := fun _ _ _ ⟨K, hK, c, e⟩ k => ⟨K, PySem.W.Frag.In.keeps hK k, ⟨c.t, c.more, c.hd, c.out, fun p hp => k _ _ (c.empty p hp)⟩, e⟩
theorem obsP_eq {g : Addr → Option Obj} {s : Shared} (h : ∀ a, g a = s.heap.get? a) : obsP n fa fn ps ex g = (hookP n fa fn ps ex).obs s := by
  have e : g = s.heap.get? := funext h
  rw [e] <;> rfl
end
end Kx

namespace Kx
open PySem PySem.Spec PyProof.Rows L2
/-! ### try: .. with several clauses, each with its name -/
abbrev Cl := Value × Nat × (Addr → Value → Option Addr → TS)
/-- behind a clause its name is gone -/
def goneAt (i : Nat) (D : Ends) : Ends := { nx := fun q G => D.nx (q.set i none) G, rt := D.rt, bk := fun q G => D.bk (q.set i none) G, ct := fun q G => D.ct (q.set i none) G }
/-- what the clauses wish, one after the other -/
def wCls (K : PySem.W.Frag) (Wo : WX) (D : Ends) : List Cl → WX
  | [] => Wo
  | (c, i, ts) :: more => fun cls d q G => ∃ b, PySem.W.exmOne K cls c = some b ∧ (b = true → ∀ a, G a = none → ts a cls d (goneAt i D) (q.set i (some (.ref a))) G) ∧ (b = false → wCls K Wo D more cls d q G)
inductive ClsOk (X : Cx) : List ExceptHandler → List Cl → Prop
  | nil : ClsOk X [] []
  | cons {x n : Str} {i : Nat} {c : Value} {ts : Addr → Value → Option Addr → TS} {s0 : Stmt} {ss : List Stmt} {p1 p2 : Pos} {hds : List ExceptHandler} {l : List Cl} (named : Names X x c) (at_ : X.N[i]? = some n) (loc : X.env.kindOf n = some .local)
      (suite : ∀ (a : Addr) (ob : Obj) (cls : Value) (d : Option Addr) (pn : List (Addr × Obj)), Zc cls d ob → (∃ vs, ob.data = .fields vs) → PSs (X.suite a ((a, ob) :: pn)) (s0 :: ss) (ts a cls d)) (rest : ClsOk X hds l) :
      ClsOk X (.ExceptHandler (some (.Name x p1)) (some n) (s0 :: ss) p2 :: hds) ((c, i, ts) :: l)
section
variable {X : Cx} {Wo : WX} {body : List Stmt} {h0 : ExceptHandler} {hds : List ExceptHandler} {l : List Cl} {pos : Pos} {tb : WX → TS}
/-- the end of a try's body, seen from outside -/
theorem body_end {pins : List (Addr × Obj)} {xe : Value → Shared → Prop} {D : Ends} {f : Flow} {t : Shared} (ok : X.Ok) (h : SP (X.tr (X.pn ++ pins) xe) [] D f t) : SP X pins D f t := by
  cases f with
  | next => exact h.elim fun q h => h.elim fun G h => ⟨q, G, h.1.ofTry ok, h.2⟩
  | brk => exact h.elim fun q h => h.elim fun G h => ⟨q, G, h.1.ofTry ok, h.2⟩
  | cont => exact h.elim fun q h => h.elim fun G h => ⟨q, G, h.1.ofTry ok, h.2⟩
  | ret u => exact h.elim fun v h => h.elim fun q h => h.elim fun G h => ⟨v, q, G, h.1.ofTry ok, h.2⟩
theorem ps_try_cls (tops : X.stack = X.env :: X.outer) (frame : X.env.frame = some X.env.locals) (nodup : X.N.Nodup) (tk : Takes X Wo)
    (bodyOk : ∀ (W : WX) (pn : List (Addr × Obj)) (xe : Value → Shared → Prop), Takes (X.tr pn xe) W → PassesOwn (model X.prog X.w) X.A X.env xe → PSs (X.tr pn xe) body (tb W)) (clauses : ClsOk X (h0 :: hds) l) :
    PS X (.Try body (h0 :: hds) [] [] pos) (fun D σ H => tb (wCls X.K Wo D l) D σ H) := by
  refine ⟨fun pins s σ H D I h => ?_⟩
  have ok := I.ok
  have live : X.A.frames = some (X.env :: X.outer) := ok.frames.trans (congrArg some tops)
  refine wpAny_Try_except ?_
  refine wpAny_mono ((bodyOk (wCls X.K Wo D l) (X.pn ++ pins) _ (fun u t air => ?_) PassesOwn.looking).run [] s σ H D (I.toTry _) h) (fun f t e => ?_) (fun e t z => z)
  case refine_2 =>
    have e' := body_end ok e
    cases f with
    | next => exact wpAny_execs_nil e'
    | brk => exact e'
    | cont => exact e'
    | ret _ => exact e'
  case refine_1 =>
    obtain ⟨a, B, sI, pins', q, G, cls, d, rfl, J', beside, same, sky, free, os, bare, wish⟩ := air
    have J : Inv X pins q G sI := J'.ofTry ok
    rw [show (X.tr (X.pn ++ pins) _).stack = X.env :: X.outer from tops] at sky
    show wpAny (model X.prog X.w) X.A (noteFrame (.ref a) X.env) _ _ _
    refine Sky.land Zc.steady live frame sky fun g fly turned => ?_
    have JG : Inv X pins q G { t with heap := g } := J.landed beside fly.1 (same.trans turned) os bare
    obtain ⟨ob, vs, there, kind, data⟩ := fly.there
    have noFrame : a ∉ frs (X.env :: X.outer) := fun hm => by
      obtain ⟨_, o', e', nf⟩ := fly.2.2.1.mem hm
      rw [there] at e'
      cases e'
      exact nf _ data
    have offL : a ≠ X.env.locals := fun z => noFrame (List.mem_filterMap.mpr ⟨X.env, List.mem_cons_self, by rw [frame, z]⟩)
    have offF : a ∉ X.fs := fun hm => by
      obtain ⟨w, hw, z⟩ := List.mem_filterMap.mp hm
      exact noFrame (List.mem_filterMap.mpr ⟨w, List.mem_cons_of_mem _ hw, z⟩)
    have inSuite := JG.suite there data free offL offF
    have walk : ∀ {hs : List ExceptHandler} {m : List Cl}, ClsOk X hs m → wCls X.K Wo D m cls d q G → wpAny (model X.prog X.w) X.A (handleBy (.ref a) X.env hs) (SP X pins D) X.xe { t with heap := g } := by
      intro hs m hm
      induction hm with
      | nil =>
        intro out
        refine wpAny_handleBy_nil ?_
        obtain ⟨_, _, _, ob2, vs2, T, _, _, e2, _, d2, f2, _⟩ := id fly
        unfold PySem.passOn
        refine wpAny_bind (wpAny_field e2 d2 f2 ?_)
        rw [if_neg (show ¬ ((Value.ref T == Value.none) = true) by simp)]
        have rise : wpAny (model X.prog X.w) X.A (setFlight (.ref a) X.env.frame) (fun _ t4 => wpAny (model X.prog X.w) X.A (throw (.ref a) : Sem Flow) (SP X pins D) X.xe t4) X.xe { t with heap := g } := by
          rw [frame]
          refine HandSPX.setFlight_upZ fly fun g4 held up4 => wpAny_throw (tk _ _ ⟨a, B, sI, pins, q, G, cls, d, rfl, J, beside, (same.trans turned).trans up4, .inr (.inr ?_), free, os, bare, out⟩)
          rw [tops]
          exact held
        first
          | exact wpAny_bind (wpAny_pure (wpAny_bind rise))
          | exact wpAny_bind rise
      | @cons x n i c ts s0 ss p1 p2 hs2 m2 named at_ loc suite rest ih =>
        intro wish
        obtain ⟨b, eb, yes, no⟩ := wish
        refine wpAny_handleBy_cons (codeAny_handlers_test ?_) (by intro z; cases z)
        have kindOf : PySem.W.Looks (model X.prog X.w) g (typeOf (.ref a)) cls := fun _ _ _ _ k z => wpAny_typeOf_ref (k _ _ there) (by rw [kind.1]; exact z)
        have matches_ := PySem.W.exm_one (M := model X.prog X.w) JG.kIn kindOf eb
        have name : ∀ {Q : Value → Shared → Prop} {E : Value → Shared → Prop}, Q c { t with heap := g } → wpAny (model X.prog X.w) (X.A.mark (some (.ref a))) (eval (.Name x p1) X.env) Q E { t with heap := g } := fun {Q E} z => by
          obtain ⟨gl, nd, own | ⟨fre, blt, nn⟩⟩ := named
          · exact ld_glob (X := X.suite a ((a, ob) :: (X.pn ++ pins))) inSuite gl own z nd
          · exact ld_blt (X := X.suite a ((a, ob) :: (X.pn ++ pins))) inSuite gl fre blt z nn nd
        refine name (matches_.here ?_)
        cases b with
        | false =>
          show wpAny _ X.A (handleBy (.ref a) X.env hs2) _ _ _
          exact ih (no rfl)
        | true =>
          refine codeAny_handlers_suite_as ?_
          refine HandSPX.lands_againZ fly fun g4 fly4 up4 => ?_
          have J4 : Inv X pins q G { t with heap := g4 } := J.landed beside fly4.1 ((same.trans turned).trans up4) os bare
          obtain ⟨ob4, vs4, there4, kind4, data4⟩ := fly4.there
          refine store_ok (X := X.suite a ((a, ob4) :: (X.pn ++ pins))) (v := .ref a) (J4.suite there4 data4 free offL offF) nodup at_ (.inl loc) rfl (fun t5 S5 => ?_) (.inr loc)
          refine wpAny_mono ((suite a ob4 cls d (X.pn ++ pins) kind4 ⟨_, data4⟩).run [] t5 _ G _ S5 (yes rfl a free)) (fun f t6 e => ?_) (fun _ _ z => False.elim z)
          have drop : ∀ {q6 : L2.St} {G6 : Hp} {R : Shared → Prop}, Inv (X.suite a ((a, ob4) :: (X.pn ++ pins))) [] q6 G6 t6 → (∀ t7, Inv X pins (q6.set i none) G6 t7 → R t7) →
              wpAny (model X.prog X.w) X.A (do bindName X.env n .none; unbindBehindTheSuite X.env n p2) (fun _ t7 => R t7) X.xe t6 := fun {q6 G6 R} S6 hr => gone_ok (S6.unsuite ok) nodup at_ loc hr
          cases f with
          | next =>
            obtain ⟨_, _, S6, z⟩ := e
            exact drop S6 fun _ J7 => ⟨_, _, J7, z⟩
          | brk =>
            obtain ⟨_, _, S6, z⟩ := e
            exact drop S6 fun _ J7 => ⟨_, _, J7, z⟩
          | cont =>
            obtain ⟨_, _, S6, z⟩ := e
            exact drop S6 fun _ J7 => ⟨_, _, J7, z⟩
          | ret _ =>
            obtain ⟨_, _, _, S6, r6, z⟩ := e
            exact drop S6 fun _ J7 => ⟨_, _, _, J7, r6, z⟩
    exact walk clauses wish
end
end Kx

namespace Kx
open PySem PySem.Spec PyProof.Rows L2
/-! ### drawn webs, in plain Lean -/
theorem perm_ins {α : Type} (l : List α) (i : Nat) (x : α) : (l.take i ++ [x] ++ l.drop i).Perm (x :: l) := by
  rw [List.append_assoc]
  have h : (l.take i ++ [x] ++ l.drop i).Perm (x :: (l.take i ++ l.drop i)) := by
    rw [List.append_assoc]
    exact List.perm_middle
  rw [List.take_append_drop, List.append_assoc] at h
  exact h
/-- an order of the first k places -/
structure Ord (k : Nat) (o : List Int) : Prop where
  len : o.length = k
  nd : o.Nodup
  mem : ∀ v, v ∈ o ↔ 0 ≤ v ∧ v < (k : Int)
theorem Ord.zero : Ord 0 [] := ⟨rfl, List.nodup_nil, fun v => by
  constructor
  · intro h; cases h
  · rintro ⟨h1, h2⟩; omega⟩
theorem Ord.next {k : Nat} {o o' : List Int} (h : Ord k o) (p : o'.Perm ((k : Int) :: o)) : Ord (k + 1) o' where
  len := by rw [p.length_eq, List.length_cons, h.len]
  nd := by
    rw [p.nodup_iff, List.nodup_cons]
    refine ⟨fun m => ?_, h.nd⟩
    have := ((h.mem _).mp m).2
    omega
  mem := fun v => by
    rw [p.mem_iff, List.mem_cons, h.mem]
    omega
theorem Ord.at_ {k : Nat} {o : List Int} (h : Ord k o) {i : Nat} {v : Int} (e : o[i]? = some v) : 0 ≤ v ∧ v < (k : Int) := (h.mem v).mp (List.mem_of_getElem? e)
theorem nd_index {α : Type} : ∀ {o : List α}, o.Nodup → ∀ {i j : Nat} {v : α}, o[i]? = some v → o[j]? = some v → i = j
  | [], _, _, _, _, h, _ => by simp at h
  | a :: r, nd, 0, 0, _, _, _ => rfl
  | a :: r, nd, 0, j + 1, v, h1, h2 => by
    have e : a = v := Option.some.inj h1
    exact absurd (List.mem_of_getElem? (show r[j]? = some a by rw [e]; exact h2)) (List.nodup_cons.mp nd).1
  | a :: r, nd, i + 1, 0, v, h1, h2 => by
    have e : a = v := Option.some.inj h2
    exact absurd (List.mem_of_getElem? (show r[i]? = some a by rw [e]; exact h1)) (List.nodup_cons.mp nd).1
  | a :: r, nd, i + 1, j + 1, v, h1, h2 => congrArg (· + 1) (nd_index (List.nodup_cons.mp nd).2 (show r[i]? = some v from h1) (show r[j]? = some v from h2))
/-- the first k of the order o hang together from its first one -/
structure Span (n k : Nat) (o : List Int) (e : Int) (es : List Edge) : Prop where
  len : es.length + 1 = k
  rng : ∀ p ∈ es, (0 ≤ p.1 ∧ p.1 < (n : Int)) ∧ 0 ≤ p.2 ∧ p.2 < (n : Int)
  nd : es.Nodup
  snd : ∀ p ∈ es, ∃ i, i < k ∧ o[i]? = some p.2
  fwd : ∀ (i : Nat) v, i < k → o[i]? = some v → Reach es e v
theorem Span.one {n : Nat} {o : List Int} {e : Int} (h : o[0]? = some e) : Span n 1 o e [] where
  len := rfl
  rng := fun _ h => by cases h
  nd := List.nodup_nil
  snd := fun _ h => by cases h
  fwd := fun i v hi hv => by
    have e0 : i = 0 := by omega
    rw [e0, h] at hv
    rw [Option.some.inj hv]
    exact .refl _
theorem Span.next {n k : Nat} {o : List Int} {e a c : Int} {es es' : List Edge} {d : Nat} (h : Span n k o e es) (O : Ord n o) (hd : d < k) (ha : o[d]? = some a) (hc : o[k]? = some c) (p : es'.Perm ((a, c) :: es)) : Span n (k + 1) o e es' where
  len := by rw [p.length_eq, List.length_cons, h.len]
  rng := fun q hq => by
    rcases List.mem_cons.mp (p.mem_iff.mp hq) with rfl | hq
    · exact ⟨O.at_ ha, O.at_ hc⟩
    · exact h.rng q hq
  nd := by
    rw [p.nodup_iff, List.nodup_cons]
    refine ⟨fun m => ?_, h.nd⟩
    obtain ⟨i, hi, e'⟩ := h.snd _ m
    have := nd_index O.nd e' hc
    omega
  snd := fun q hq => by
    rcases List.mem_cons.mp (p.mem_iff.mp hq) with rfl | hq
    · exact ⟨k, Nat.lt_succ_self k, hc⟩
    · obtain ⟨i, hi, e'⟩ := h.snd q hq
      exact ⟨i, by omega, e'⟩
  fwd := fun i v hi hv => by
    have sub : ∀ q ∈ es, q ∈ es' := fun q hq => p.mem_iff.mpr (List.mem_cons_of_mem _ hq)
    by_cases e0 : i = k
    · rw [e0, hc] at hv
      rw [← Option.some.inj hv]
      exact ((h.fwd d a hd ha).more sub).trans (.one (p.mem_iff.mpr List.mem_cons_self))
    · exact (h.fwd i v (by omega) hv).more sub
/-- all places are reached -/
structure Core (n : Nat) (e : Int) (es : List Edge) : Prop where
  rng : ∀ p ∈ es, (0 ≤ p.1 ∧ p.1 < (n : Int)) ∧ 0 ≤ p.2 ∧ p.2 < (n : Int)
  nd : es.Nodup
  e0 : 0 ≤ e ∧ e < (n : Int)
  fwd : ∀ v, 0 ≤ v → v < (n : Int) → Reach es e v
theorem Span.core {n : Nat} {o : List Int} {e : Int} {es : List Edge} (h : Span n n o e es) (O : Ord n o) (he : o[0]? = some e) : Core n e es where
  rng := h.rng
  nd := h.nd
  e0 := O.at_ he
  fwd := fun v h0 h1 => by
    obtain ⟨i, hi, q⟩ := List.mem_iff_getElem.mp ((O.mem v).mpr ⟨h0, h1⟩)
    exact h.fwd i v (by rw [← O.len]; exact hi) (by rw [List.getElem?_eq_getElem hi, q])
theorem Core.add {n : Nat} {e : Int} {es es' : List Edge} {q : Edge} (h : Core n e es) (hq : (0 ≤ q.1 ∧ q.1 < (n : Int)) ∧ 0 ≤ q.2 ∧ q.2 < (n : Int)) (no : q ∉ es) (p : es'.Perm (q :: es)) : Core n e es' where
  rng := fun r hr => by
    rcases List.mem_cons.mp (p.mem_iff.mp hr) with rfl | hr
    · exact hq
    · exact h.rng r hr
  nd := by rw [p.nodup_iff, List.nodup_cons]; exact ⟨no, h.nd⟩
  e0 := h.e0
  fwd := fun v h0 h1 => (h.fwd v h0 h1).more fun r hr => p.mem_iff.mpr (List.mem_cons_of_mem _ hr)
/-- the goals, for the first i places -/
structure Aims (n i : Nat) (es : List Edge) (gs : List Int) : Prop where
  nd : gs.Nodup
  rng : ∀ g ∈ gs, 0 ≤ g ∧ g < (n : Int)
  ne : gs ≠ []
  bwd : ∀ v, 0 ≤ v → v < (i : Int) → ∃ g ∈ gs, Reach es v g
theorem Aims.stay {n i : Nat} {es : List Edge} {gs : List Int} (h : Aims n i es gs) (r : ∃ g ∈ gs, Reach es (i : Int) g) : Aims n (i + 1) es gs :=
  ⟨h.nd, h.rng, h.ne, fun v h0 h1 => by
    by_cases e : v = (i : Int)
    · rw [e]; exact r
    · exact h.bwd v h0 (by omega)⟩
theorem Aims.edge {n i : Nat} {es es' : List Edge} {gs : List Int} {g : Int} (h : Aims n i es gs) (hg : g ∈ gs) (p : es'.Perm (((i : Int), g) :: es)) : Aims n (i + 1) es' gs :=
  ⟨h.nd, h.rng, h.ne, fun v h0 h1 => by
    by_cases e : v = (i : Int)
    · rw [e]
      exact ⟨g, hg, .one (p.mem_iff.mpr List.mem_cons_self)⟩
    · obtain ⟨g', hg', r⟩ := h.bwd v h0 (by omega)
      exact ⟨g', hg', r.more fun q hq => p.mem_iff.mpr (List.mem_cons_of_mem _ hq)⟩⟩
theorem Aims.goal {n i : Nat} {es : List Edge} {gs gs' : List Int} (h : Aims n i es gs) (hi : i < n) (no : (i : Int) ∉ gs) (p : gs'.Perm ((i : Int) :: gs)) : Aims n (i + 1) es gs' where
  nd := by rw [p.nodup_iff, List.nodup_cons]; exact ⟨no, h.nd⟩
  rng := fun g hg => by
    rcases List.mem_cons.mp (p.mem_iff.mp hg) with rfl | hg
    · omega
    · exact h.rng g hg
  ne := fun z => by
    rw [z] at p
    have := p.length_eq
    simp at this
  bwd := fun v h0 h1 => by
    by_cases e : v = (i : Int)
    · rw [e]
      exact ⟨_, p.mem_iff.mpr List.mem_cons_self, .refl _⟩
    · obtain ⟨g', hg', r⟩ := h.bwd v h0 (by omega)
      exact ⟨g', p.mem_iff.mpr (List.mem_cons_of_mem _ hg'), r⟩
theorem rng_len {n : Nat} {gs : List Int} (nd : gs.Nodup) (rng : ∀ g ∈ gs, 0 ≤ g ∧ g < (n : Int)) : gs.length ≤ n := by
  have h := len_le_of_sub gs ((List.range n).map Int.ofNat) nd fun g hg => by
    obtain ⟨h0, h1⟩ := rng g hg
    exact List.mem_map.mpr ⟨g.toNat, List.mem_range.mpr (by omega), by show ((g.toNat : Nat) : Int) = g; omega⟩
  rw [List.length_map, List.length_range] at h
  exact h
theorem Core.good {n : Nat} {e : Int} {es : List Edge} {gs : List Int} (h : Core n e es) (a : Aims n n es gs) (hn : n ≤ 24) (hf : es.length < 60) : Good n es e gs where
  n1 := by have := h.e0; omega
  n2 := by omega
  few := hf
  rng := fun p hp => by
    obtain ⟨⟨a1, a2⟩, a3, a4⟩ := h.rng p hp
    exact ⟨a1, a2, a3, a4⟩
  nd := h.nd
  e0 := h.e0.1
  e1 := h.e0.2
  x0 := a.ne
  xr := a.rng
  xf := by have := rng_len a.nd a.rng; omega
  fwd := h.fwd
  bwd := a.bwd
/-! ### what reaches a goal, found in turns -/
def Closed (es : List Edge) (ms : List Int) : Prop := ∀ u v, (u, v) ∈ es → v ∈ ms → u ∈ ms
structure Met (es : List Edge) (gs ad ms : List Int) : Prop where
  eq : ms = gs ++ ad
  nd : ad.Nodup
  src : ∀ v ∈ ad, v ∈ es.map (·.1)
  sound : ∀ v ∈ ms, ∃ g ∈ gs, Reach es v g
theorem Met.start (es : List Edge) (gs : List Int) : Met es gs [] gs := ⟨by simp, List.nodup_nil, (fun _ h => by cases h), fun v h => ⟨v, h, .refl v⟩⟩
theorem Met.len {es : List Edge} {gs ad ms : List Int} (m : Met es gs ad ms) : ad.length ≤ es.length := by
  have h := len_le_of_sub ad (es.map (·.1)) m.nd m.src
  rw [List.length_map] at h
  exact h
theorem Met.full {es : List Edge} {gs ad ms : List Int} (m : Met es gs ad ms) (h : es.length ≤ ad.length) : Closed es ms := fun u v he _ => by
  rw [m.eq]
  refine List.mem_append_right _ ?_
  by_cases hu : u ∈ ad
  · exact hu
  · have hs : u ∈ es.map (·.1) := List.mem_map.mpr ⟨(u, v), he, rfl⟩
    have q := len_le_of_sub ad ((es.map (·.1)).erase u) m.nd fun x hx => (List.mem_erase_of_ne (fun e => hu (by rw [← e]; exact hx))).mpr (m.src x hx)
    have l := List.length_erase_of_mem hs
    have pos : 0 < (es.map (·.1)).length := List.length_pos_of_mem hs
    rw [List.length_map] at l pos
    omega
theorem Met.all {es : List Edge} {gs ad ms : List Int} (m : Met es gs ad ms) (c : Closed es ms) (v : Int) : v ∈ ms ↔ ∃ g ∈ gs, Reach es v g := by
  constructor
  · exact m.sound v
  · rintro ⟨g, hg, r⟩
    have hgm : g ∈ ms := by rw [m.eq]; exact List.mem_append_left _ hg
    clear hg
    induction r with
    | refl => exact hgm
    | step e _ ih => exact c _ _ e (ih hgm)
/-- within a turn: j edges were looked at; ad0 was found before it -/
structure Turn (es : List Edge) (gs ad0 ms0 : List Int) (j : Nat) (ad ms : List Int) : Prop where
  met : Met es gs ad ms
  grow : ad0.length ≤ ad.length
  same : ad.length = ad0.length → ad = ad0
  none_ : ad.length = ad0.length → ∀ u v, (u, v) ∈ es.take j → v ∈ ms → u ∈ ms
  done : Closed es ms0 → ad = ad0
theorem Turn.start {es : List Edge} {gs ad ms : List Int} (m : Met es gs ad ms) : Turn es gs ad ms 0 ad ms := ⟨m, Nat.le_refl _, fun _ => rfl, fun _ u v h => by simp at h, fun _ => rfl⟩
theorem Turn.skip {es : List Edge} {gs ad0 ms0 ad ms : List Int} {j : Nat} {a b : Int} (t : Turn es gs ad0 ms0 j ad ms) (h : es[j]? = some (a, b)) (no : b ∉ ms ∨ a ∈ ms) : Turn es gs ad0 ms0 (j + 1) ad ms :=
  ⟨t.met, t.grow, t.same, fun e u v hu hv => by
    rw [take_next h, List.mem_append] at hu
    rcases hu with hu | hu
    · exact t.none_ e u v hu hv
    · have q := List.mem_singleton.mp hu
      injection q with q1 q2
      rcases no with no | no
      · exact absurd (q2 ▸ hv) no
      · rw [q1]; exact no, t.done⟩
theorem Turn.put {es : List Edge} {gs ad0 ms0 ad ms : List Int} {j : Nat} {a b : Int} (t : Turn es gs ad0 ms0 j ad ms) (m0 : ms0 = gs ++ ad0) (h : es[j]? = some (a, b)) (hb : b ∈ ms) (ha : a ∉ ms) : Turn es gs ad0 ms0 (j + 1) (ad ++ [a]) (ms ++ [a]) where
  met :=
    { eq := by rw [t.met.eq, List.append_assoc]
      nd := nd_snoc t.met.nd fun z => ha (by rw [t.met.eq]; exact List.mem_append_right _ z)
      src := fun v hv => by
        rcases List.mem_append.mp hv with hv | hv
        · exact t.met.src v hv
        · rw [List.mem_singleton.mp hv]
          exact List.mem_map.mpr ⟨(a, b), List.mem_of_getElem? h, rfl⟩
      sound := fun v hv => by
        rcases List.mem_append.mp hv with hv | hv
        · exact t.met.sound v hv
        · rw [List.mem_singleton.mp hv]
          obtain ⟨g, hg, r⟩ := t.met.sound b hb
          exact ⟨g, hg, .step (List.mem_of_getElem? h) r⟩ }
  grow := by have := t.grow; rw [List.length_append]; omega
  same := fun e => by
    have := t.grow
    rw [List.length_append, List.length_singleton] at e
    omega
  none_ := fun e => by
    have := t.grow
    rw [List.length_append, List.length_singleton] at e
    omega
  done := fun c => by
    have e := t.done c
    have em : ms = ms0 := by rw [t.met.eq, m0, e]
    rw [em] at ha hb
    exact absurd (c a b (List.mem_of_getElem? h) hb) ha
/-- behind i turns -/
structure Turns (es : List Edge) (gs : List Int) (i : Nat) (ad ms : List Int) : Prop where
  met : Met es gs ad ms
  on : Closed es ms ∨ i ≤ ad.length
theorem Turns.next {es : List Edge} {gs ad0 ms0 ad ms : List Int} {i : Nat} (T : Turns es gs i ad0 ms0) (t : Turn es gs ad0 ms0 es.length ad ms) : Turns es gs (i + 1) ad ms where
  met := t.met
  on := by
    by_cases e : ad.length = ad0.length
    · refine .inl fun u v he hv => t.none_ e u v ?_ hv
      rw [List.take_length]
      exact he
    · have g := t.grow
      rcases T.on with c | c
      · exact absurd (congrArg List.length (t.done c)) e
      · exact .inr (by omega)
theorem Turns.end_ {es : List Edge} {gs ad ms : List Int} (T : Turns es gs es.length ad ms) : Closed es ms := by
  rcases T.on with c | c
  · exact c
  · exact T.met.full c
/-! ### other webs of a web -/
theorem Good.more {n e : Int} {es : List Edge} {xs xs' : List Int} (g : Good n es e xs) (sub : ∀ x ∈ xs, x ∈ xs') (rng : ∀ x ∈ xs', 0 ≤ x ∧ x < n) (len : xs'.length < 60) : Good n es e xs' :=
  { g with
    x0 := fun z => by
      obtain ⟨x, hx⟩ := List.exists_mem_of_ne_nil _ g.x0
      have := sub x hx
      rw [z] at this
      cases this
    xr := rng
    xf := len
    bwd := fun v h0 h1 => by
      obtain ⟨x, hx, r⟩ := g.bwd v h0 h1
      exact ⟨x, sub x hx, r⟩ }
theorem Good.edge {n e : Int} {es es' : List Edge} {xs : List Int} {q : Edge} (g : Good n es e xs) (hq : (0 ≤ q.1 ∧ q.1 < n) ∧ 0 ≤ q.2 ∧ q.2 < n) (no : q ∉ es) (p : es'.Perm (q :: es)) (len : es'.length < 60) : Good n es' e xs :=
  { g with
    few := len
    rng := fun r hr => by
      rcases List.mem_cons.mp (p.mem_iff.mp hr) with rfl | hr
      · exact ⟨hq.1.1, hq.1.2, hq.2.1, hq.2.2⟩
      · exact g.rng r hr
    nd := by rw [p.nodup_iff, List.nodup_cons]; exact ⟨no, g.nd⟩
    fwd := fun v h0 h1 => (g.fwd v h0 h1).more fun r hr => p.mem_iff.mpr (List.mem_cons_of_mem _ hr)
    bwd := fun v h0 h1 => by
      obtain ⟨x, hx, r⟩ := g.bwd v h0 h1
      exact ⟨x, hx, r.more fun r hr => p.mem_iff.mpr (List.mem_cons_of_mem _ hr)⟩ }
theorem Good.perm {n e : Int} {es es' : List Edge} {xs : List Int} (g : Good n es e xs) (p : es'.Perm es) : Good n es' e xs :=
  { g with
    few := by rw [p.length_eq]; exact g.few
    rng := fun r hr => g.rng r (p.mem_iff.mp hr)
    nd := p.nodup_iff.mpr g.nd
    fwd := fun v h0 h1 => (g.fwd v h0 h1).more fun r hr => p.mem_iff.mpr hr
    bwd := fun v h0 h1 => by
      obtain ⟨x, hx, r⟩ := g.bwd v h0 h1
      exact ⟨x, hx, r.more fun r hr => p.mem_iff.mpr hr⟩ }
theorem Good.longer {n e : Int} {es : List Edge} {xs : List Int} (g : Good n es e xs) (hn : n ≤ 23) (hf : es.length < 59) (hx : xs.length < 59) : Good (n + 1) (es ++ [(e, n)]) e (xs ++ [n]) where
  n1 := by have := g.n1; omega
  n2 := by omega
  few := by rw [List.length_append, List.length_singleton]; omega
  rng := fun r hr => by
    have h1 := g.n1
    have h2 := g.e0
    have h3 := g.e1
    rcases List.mem_append.mp hr with hr | hr
    · have := g.rng r hr
      omega
    · rw [List.mem_singleton.mp hr]
      show 0 ≤ e ∧ e < n + 1 ∧ 0 ≤ n ∧ n < n + 1
      omega
  nd := nd_snoc g.nd fun m => by
    have := (g.rng _ m).2.2.2
    simp at this
  e0 := g.e0
  e1 := by have := g.e1; omega
  x0 := by simp
  xr := fun x hx => by
    have h1 := g.n1
    rcases List.mem_append.mp hx with hx | hx
    · have := g.xr x hx
      omega
    · rw [List.mem_singleton.mp hx]
      omega
  xf := by rw [List.length_append, List.length_singleton]; omega
  fwd := fun v h0 h1 => by
    by_cases ev : v = n
    · rw [ev]
      exact .one (List.mem_append_right _ List.mem_cons_self)
    · exact (g.fwd v h0 (by omega)).more fun r hr => List.mem_append_left _ hr
  bwd := fun v h0 h1 => by
    by_cases ev : v = n
    · exact ⟨n, List.mem_append_right _ List.mem_cons_self, by rw [ev]; exact .refl n⟩
    · obtain ⟨x, hx, r⟩ := g.bwd v h0 (by omega)
      exact ⟨x, List.mem_append_left _ hx, r.more fun r hr => List.mem_append_left _ hr⟩
/-! ### all edges from a place and to it -/
def outE (n : Nat) (e : Int) : List Edge := (List.range n).map fun i => (e, Int.ofNat i)
def backE (n : Nat) (e : Int) : List Edge := (((List.range n).map Int.ofNat).filter fun v => !decide (v = e)).map fun v => (v, e)
theorem outE_next (n : Nat) (e : Int) : outE (n + 1) e = outE n e ++ [(e, (n : Int))] := by
  unfold outE
  rw [List.range_succ, List.map_append]
  rfl
theorem backE_next (n : Nat) (e : Int) : backE (n + 1) e = backE n e ++ if (n : Int) = e then [] else [((n : Int), e)] := by
  unfold backE
  rw [List.range_succ, List.map_append, List.filter_append, List.map_append]
  congr 1
  show List.map _ (List.filter _ [Int.ofNat n]) = _
  by_cases h : (n : Int) = e
  · rw [if_pos h, List.filter_cons_of_neg]
    · rfl
    · show ¬ (!decide ((n : Int) = e)) = true
      rw [decide_eq_true h]
      simp
  · rw [if_neg h, List.filter_cons_of_pos]
    · rfl
    · show (!decide ((n : Int) = e)) = true
      rw [decide_eq_false h]
      rfl
theorem outE_mem {n : Nat} {e : Int} {q : Edge} : q ∈ outE n e ↔ q.1 = e ∧ 0 ≤ q.2 ∧ q.2 < (n : Int) := by
  unfold outE
  rw [List.mem_map]
  constructor
  · rintro ⟨i, hi, rfl⟩
    have := List.mem_range.mp hi
    refine ⟨rfl, ?_, ?_⟩
    · show (0 : Int) ≤ (i : Int)
      omega
    · show (i : Int) < (n : Int)
      omega
  · rintro ⟨h1, h2, h3⟩
    refine ⟨q.2.toNat, List.mem_range.mpr (by omega), ?_⟩
    obtain ⟨a, b⟩ := q
    have e1 : a = e := h1
    have e2 : ((b.toNat : Nat) : Int) = b := Int.toNat_of_nonneg h2
    show (e, ((b.toNat : Nat) : Int)) = (a, b)
    rw [e1, e2]
theorem backE_mem {n : Nat} {e : Int} {q : Edge} : q ∈ backE n e ↔ q.2 = e ∧ q.1 ≠ e ∧ 0 ≤ q.1 ∧ q.1 < (n : Int) := by
  unfold backE
  rw [List.mem_map]
  constructor
  · rintro ⟨v, hv, rfl⟩
    obtain ⟨h1, h2⟩ := List.mem_filter.mp hv
    obtain ⟨i, hi, rfl⟩ := List.mem_map.mp h1
    have := List.mem_range.mp hi
    refine ⟨rfl, fun z => ?_, ?_, ?_⟩
    · rw [decide_eq_true z] at h2
      cases h2
    · show (0 : Int) ≤ (i : Int)
      omega
    · show (i : Int) < (n : Int)
      omega
  · rintro ⟨h1, h0, h2, h3⟩
    obtain ⟨a, b⟩ := q
    have e1 : b = e := h1
    have e2 : ((a.toNat : Nat) : Int) = a := Int.toNat_of_nonneg h2
    refine ⟨a, List.mem_filter.mpr ⟨List.mem_map.mpr ⟨a.toNat, List.mem_range.mpr (by have : a < (n : Int) := h3; omega), e2⟩, ?_⟩, by rw [e1]⟩
    rw [decide_eq_false h0]
    rfl
theorem nd_map {α β : Type} {f : α → β} (inj : ∀ a b, f a = f b → a = b) : ∀ {l : List α}, l.Nodup → (l.map f).Nodup
  | [], _ => List.nodup_nil
  | a :: r, h => by
    obtain ⟨h1, h2⟩ := List.nodup_cons.mp h
    rw [List.map_cons, List.nodup_cons]
    refine ⟨fun m => ?_, nd_map inj h2⟩
    obtain ⟨b, hb, e⟩ := List.mem_map.mp m
    exact h1 (inj _ _ e ▸ hb)
theorem Good.star {n : Nat} {e o : Int} (hn : n ≤ 24) (h0 : 0 ≤ e) (h1 : e < (n : Int)) (o0 : 0 ≤ o) (o1 : o < (n : Int)) : Good n (outE n e ++ backE n e) o [e] where
  n1 := by omega
  n2 := by omega
  few := by
    have l1 : (outE n e).length = n := by unfold outE; rw [List.length_map, List.length_range]
    have l2 : (backE n e).length ≤ n := by
      unfold backE
      rw [List.length_map]
      have h2 := List.length_filter_le (fun v => !decide (v = e)) ((List.range n).map Int.ofNat)
      rw [List.length_map, List.length_range] at h2
      exact h2
    rw [List.length_append]
    omega
  rng := fun q hq => by
    rcases List.mem_append.mp hq with hq | hq
    · obtain ⟨a1, a2, a3⟩ := outE_mem.mp hq
      rw [a1]
      exact ⟨h0, h1, a2, a3⟩
    · obtain ⟨a1, _, a2, a3⟩ := backE_mem.mp hq
      rw [a1]
      exact ⟨a2, a3, h0, h1⟩
  nd := by
    rw [List.nodup_append]
    have ndr : ((List.range n).map Int.ofNat).Nodup := nd_map (fun a b h => Int.ofNat.inj h) List.nodup_range
    refine ⟨nd_map (fun a b h => ?_) List.nodup_range, nd_map (fun a b h => (Prod.mk.inj h).1) (ndr.sublist List.filter_sublist), fun a ha b hb hab => ?_⟩
    · exact Int.ofNat.inj (Prod.mk.inj h).2
    · obtain ⟨a1, _⟩ := outE_mem.mp ha
      obtain ⟨_, b2, _⟩ := backE_mem.mp hb
      rw [← hab] at b2
      exact b2 a1
  e0 := o0
  e1 := o1
  x0 := by simp
  xr := fun x hx => by rw [List.mem_singleton.mp hx]; exact ⟨h0, h1⟩
  xf := by rw [List.length_singleton]; decide
  fwd := fun v v0 v1 => by
    have r1 : Reach (outE n e ++ backE n e) e v := .one (List.mem_append_left _ (outE_mem.mpr ⟨rfl, v0, v1⟩))
    by_cases h : o = e
    · rw [h]; exact r1
    · exact .step (List.mem_append_right _ (backE_mem.mpr ⟨rfl, h, o0, o1⟩)) r1
  bwd := fun v v0 v1 => by
    refine ⟨e, List.mem_cons_self, ?_⟩
    by_cases h : v = e
    · rw [h]; exact .refl e
    · exact .one (List.mem_append_right _ (backE_mem.mpr ⟨rfl, h, v0, v1⟩))
end Kx

namespace Kx
open PySem PySem.Spec PyProof.Rows L2
/-! ### C(e, ..) in a try, where __init__ may raise; raise X() of an own class without __init__ -/
section
variable {X : Cx} {CX : CXT} {k : Nat} {f C : Addr} {fd : FuncData} {ps : List Str} {sp : Sp} {E : L2.St → XK} {x : Str} {p pos : Pos} {e : Expr} {es : List Expr} {t : TA}
def tMakeE (C : Addr) (sp : Sp) (E : L2.St → XK) (t : TA) : TE := fun σ H Q => t σ H fun vs H1 => ∀ x dx, H1 x = none → H1 dx = none → dx ≠ x → sp (.ref x :: vs) (upd (upd H1 dx (.own x)) x (.ins C dx [])) (fun v H2 => v = .non ∧ Q (.ref x) H2) (E σ)
theorem pe_makeE (M : Mk X.K C f) (F : FnOk X.prog X.w X.K X.mg X.base CX k f fd ps sp) (hr : Room (k + 1) X.A) (hg : Gl X x) (hm : X.mg x = some (.ref C)) (hb : Binds X.K fd ps []) (hx : ∀ σ, PassesAt CX X σ (E σ)) (ha : PA X (e :: es) t)
    (hdb : (x == ("__debug__" : Str)) = false := by decide) (he : starEach (e :: es) X.env = (false, eval e X.env) :: starEach es X.env := by rfl) (hpl : (backTo pos (starEach es X.env)).any (·.1) = false := by rfl) :
    PE X (.Call (.Name x p) (e :: es) [] pos) (tMakeE C sp E t) := by
  refine ⟨fun pins s0 σ H Q I h => wpAny_Call_Name_kw (ld_glob I hg hm (PySem.W.callWith_K (h₀ := X.base) I.ok.mod.kin M.kp (thn (ha.run pos pins s0 σ H _ I h) fun us s ⟨vs, H1, I1, r, q⟩ => ⟨I1.kIn, ?_⟩) he hpl) hdb)⟩
  have new := q (s.heap.objs.size + 1) s.heap.objs.size (I1.hok.fresh (Nat.le_succ _)) (I1.hok.fresh (Nat.le_refl _)) (Nat.ne_of_lt (Nat.lt_succ_self _))
  have J := Inv.made (C := C) I1
  have rel : Vals (V.ref (s.heap.objs.size + 1) :: vs) (Value.ref (s.heap.objs.size + 1) :: us) := .cons rfl r
  have bound := hb _ (Value.ref (s.heap.objs.size + 1) :: us) J.kIn (by rw [List.append_nil, ← rel.length, F.len _ _ _ _ new])
  rw [List.append_nil] at bound
  refine wpAny_call (make_map (f := f) I1.kIn M.makes M.init (beq_iff_eq.mp M.fn) (codeAny_mono (F.run _ X.stack _ _ ⟨Value.ref (s.heap.objs.size + 1) :: us, []⟩ _ _ _ _ (hr.make C us []) (J.env0.make C us []) bound rel new) fun r2 s2 back => ?_))
  rcases r2 with er | fl
  · exact hx σ pins _ _ er s2 J back
  rcases fl with _ | _ | _ | u
  · exact False.elim back
  · exact False.elim back
  · exact False.elim back
  obtain ⟨v, H2, I2, rv, ev, q2⟩ := J.after back
  subst ev
  exact ⟨rv, ⟨V.ref (s.heap.objs.size + 1), H2, I2, rfl, q2⟩⟩
theorem pmk_own0 {bmB : List Value} {B newId initId : String} (F : ExcBaseFacts B newId initId bmB) (q : PySem.W.excIn X.K C bmB newId = true) (gC : X.mg x = some (.ref C)) (kC : PySem.W.keepIn X.K (.ref C) = true) (r : Raises X (.ref C)) (hg : Gl X x)
    (hdb : (x == ("__debug__" : Str)) = false := by decide) : PMk X (.Call (.Name x p) [] [] pos) (fun _ H Q => Q (.ref C) none H) := by
  intro pins s σ H Q I h
  refine wpAny_Call_Name_kw (ld_glob I hg gC (PySem.W.callWith_K0 I.kIn kC ?_) hdb)
  obtain ⟨_, _, _, _, _, _, _, _, _, _, _, _, _, _, _, _, _, hC, hN, hni, T⟩ := exc_obj I.kIn q
  exact wpAny_call_exc_subT F T hC hN hni (fun h' e made => mk_of I made r h (I.hok.gone made.new)) (Nat.zero_le _)
end
end Kx

namespace Kx
open PySem PySem.Spec PyProof.Rows L2
/-! ### isinstance(e, C), e the exception that the suite holds, with or without fields -/
def rIsD (K : PySem.W.Frag) (a : Addr) (cls : Value) (d : Option Addr) (D : Addr) : List V → Hp → VK → Prop := fun xs H Q => ∃ (c : V) (cv : Value) (b : Bool), xs = [.ref a, c] ∧ cls = .ref D ∧ (d = none ∨ ∃ dd fs, d = some dd ∧ H dd = some (.xd fs)) ∧ (∀ u, RelV c u → u = cv) ∧ PySem.W.kitOne K (.ref D) cv = some b ∧ Q (.bl b) H
theorem call_isD {X : Cx} {a D : Addr} {cls : Value} {d : Option Addr} {oe : Obj} {pn : List (Addr × Obj)} (C : ExcC X.K D) (hz : Zc cls d oe) (hf : ∃ vs, oe.data = .fields vs) : CallR (X.suite a ((a, oe) :: pn)) (.builtin "isinstance") (rIsD X.K a cls d D) := by
  intro pins s σ H xs us Q I r h
  obtain ⟨c, cv, b, rfl, ec, hd, hcv, e, q⟩ := h
  cases r with
  | cons rx rr =>
    cases rr with
    | cons rt rr =>
      cases rr
      cases rx
      have ev := hcv _ rt
      subst ev
      subst ec
      obtain ⟨hget, _⟩ := I.pin (a, oe) (List.mem_append.mpr (.inl List.mem_cons_self))
      obtain ⟨vs, hv⟩ := hf
      have isC : (PySem.W.clsIn X.K D).isSome = true := by
        obtain ⟨cd, hc, _⟩ := PySem.W.any_some C.hd
        rw [hc]
        rfl
      rcases hd with dn | ⟨dd, fs, ed, ea⟩
      · subst dn
        have J : PySem.W.InstAt s.heap a oe D none := by
          obtain ⟨oc, od, oda, osl⟩ := oe
          obtain ⟨h1, h2⟩ := hz
          dsimp only at h1 h2 hv
          subst h1 h2 hv
          exact ⟨hget, rfl, rfl, trivial⟩
        exact PySem.W.kia_one (PySem.W.handS_kitx_exc C.hg C.hk C.hs C.hd C.ha C.hn C.ht C.hm) I.kIn J e (fun z => nomatch z) fun tk => ⟨.bl b, H, I.kept (t' := tk) fun _ _ z => z, rfl, q⟩
      · subst ed
        have hx : ObjOk X.prog X.w H s.heap dd (.xd fs) := I.hok dd _ ea
        obtain ⟨mA, hns, hr⟩ := hx
        obtain ⟨od, ho, hl⟩ := lookIn_ns hns
        have J : PySem.W.InstAt s.heap a oe D (some od) := ⟨hget, hz.1, by unfold PySem.W.notCls; rw [hv] <;> rfl, by rw [hz.2]; exact ho⟩
        exact PySem.W.kia_one (PySem.W.kitx_exc isC C.hg C.hk C.hs C.ha C.hn C.ht C.hm) I.kIn J e (fun z => nomatch z) fun tk => ⟨.bl b, H, I.kept (t' := tk) fun _ _ z => z, rfl, q⟩
end Kx

namespace Kx
open PySem PySem.Spec PyProof.Rows L2
/-! ### signs over objects of an own class: a <= b, a | b, x in a, len(a), a[i], if a -/
section
variable {X : Cx} {pins : List (Addr × Obj)} {σ : L2.St} {H : Hp} {s : Shared} {CX : CXT} {n : Nat} {C f : Addr} {fd : FuncData} {ps : List Str} {sp : Sp} {E : XK}
/-- a def is called by its address, where the code is as far away as A says -/
theorem own_callA (F : FnOk X.prog X.w X.K X.mg X.base CX n f fd ps sp) {A : Around} (hr : Room n A) (he : Env0 X.prog X.w X.K X.mg X.base A X.stack s H) (hb : Binds X.K fd ps []) (hx : Passes CX X E) {xs : List V} {us : List Value} {Q : VK}
    (I : Inv X pins σ H s) (rv : Vals xs us) (q : sp xs H Q E) : wpAny (model X.prog X.w) A (call (.ref f) us) (EP X pins σ Q) X.xe s := by
  have same := F.len _ _ _ _ q
  have bound := hb s us I.kIn (by rw [← same]; simpa using (rv.length).symm)
  rw [List.append_nil] at bound
  refine wpAny_call (codeAny_mono (F.run A X.stack s H ⟨us, []⟩ us xs _ E hr he (by simpa using bound) rv q) fun r s' back => ?_)
  rcases r with e | fl
  · exact hx pins σ H s e s' I back
  · rcases fl with _ | _ | _ | w
    all_goals first
      | exact False.elim back
      | exact I.after back
/-- an object of an own class, and how it looks in memory -/
theorem inst_look (I : Inv X pins σ H s) {a dx : Addr} {fs : List (Str × V)} (ha : H a = some (.ins C dx fs)) : ∃ ox od, PySem.W.InstAt s.heap a ox C od := by
  obtain ⟨_, J, _⟩ := ins_get I.hok ha
  obtain ⟨_, J, _⟩ := J.look
  exact ⟨_, _, J⟩
/-- a method of the class that the machine calls by itself -/
structure Own1 (K : PySem.W.Frag) (C f : Addr) (name : Str) : Prop where
  at_ : PySem.W.findIn K (.ref C) name = some (some (.ref f))
  fn : PySem.W.isFn K (.ref f) = true
/-- both sides are objects of C: what the method says -/
def rTwo (C : Addr) (sp : Sp) (E : XK) : R2 := fun x y H Q => ∃ a b dx dy fs gs, x = .ref a ∧ y = .ref b ∧ H a = some (.ins C dx fs) ∧ H b = some (.ins C dy gs) ∧ sp [.ref a, .ref b] H Q E
theorem op_cmpOwn {op : CmpOp} (F : FnOk X.prog X.w X.K X.mg X.base CX n f fd ps sp) (hr : Room n X.A) (m : Own1 X.K C f (cmpInfo op).2.1) (hb : Binds X.K fd ps []) (hx : Passes CX X E)
    (hop : ∀ u v, compareOp op u v = richCompare op u v := by intro _ _; rfl) : OpR X (compareOp op) (rTwo C sp E) := by
  intro pins s σ H x y v u Q I rx ry d
  obtain ⟨a, b, dx, dy, fs, gs, rfl, rfl, ha, hb', q⟩ := d
  cases rx
  cases ry
  obtain ⟨_, _, J⟩ := inst_look I ha
  obtain ⟨_, _, J'⟩ := inst_look I hb'
  obtain ⟨m0, hF⟩ := I.fr
  rw [hop]
  refine PySem.W.cmp_K (tb := .ref C) hr.units0 hF I.ok.mod.kin J J'.type (by simp [PySem.W.notFirst]) m.at_ m.fn ?_
  refine wpAny_mono (own_callA F hr I.env0 hb hx I (xs := [.ref a, .ref b]) (.cons rfl (.cons rfl .nil)) q) (fun r s' e => ?_) fun _ _ e => e
  obtain ⟨z, H', I', rz, qz⟩ := e
  exact SlX.cmpback rz ⟨z, H', I', rz, qz⟩
theorem op_binOwn {op : Operator} (F : FnOk X.prog X.w X.K X.mg X.base CX n f fd ps sp) (hr : Room n X.A) (hc : PySem.W.selfFirst X.K C = true) (m : Own1 X.K C f (PySem.dunder op.info.2)) (hb : Binds X.K fd ps []) (hx : Passes CX X E) :
    OpR X (binaryOp op) (rTwo C sp E) := by
  intro pins s σ H x y v u Q I rx ry d
  obtain ⟨a, b, dx, dy, fs, gs, rfl, rfl, ha, hb', q⟩ := d
  cases rx
  cases ry
  obtain ⟨_, _, J⟩ := inst_look I ha
  obtain ⟨_, _, J'⟩ := inst_look I hb'
  obtain ⟨m0, hF⟩ := I.fr
  refine PySem.W.binop_K hF I.ok.mod.kin J J'.type hc m.at_ m.fn ?_
  refine wpAny_mono (own_callA F hr I.env0 hb hx I (xs := [.ref a, .ref b]) (.cons rfl (.cons rfl .nil)) q) (fun r s' e => ?_) fun _ _ e => e
  obtain ⟨z, H', I', rz, qz⟩ := e
  exact SlX.cmpback rz ⟨z, H', I', rz, qz⟩
/-- x in o, x not in o: the method answers with a truth -/
def rInOwn (C : Addr) (sp : Sp) (E : XK) (neg : Bool) : R2 := fun x y H Q => ∃ b dy gs, y = .ref b ∧ H b = some (.ins C dy gs) ∧ sp [.ref b, x] H (fun r H' => ∃ k : Bool, r = .bl k ∧ Q (.bl (if neg = true then !k else k)) H') E
theorem op_inOwn (F : FnOk X.prog X.w X.K X.mg X.base CX n f fd ps sp) (hr : Room n X.A) (m : Own1 X.K C f "__contains__") (hb : Binds X.K fd ps []) (hx : Passes CX X E) : OpR X (compareOp .In) (rInOwn C sp E false) := by
  intro pins s σ H x y v u Q I rx ry d
  obtain ⟨b, dy, gs, rfl, hb', q⟩ := d
  cases ry
  obtain ⟨_, _, J⟩ := inst_look I hb'
  obtain ⟨m0, hF⟩ := I.fr
  refine PySem.W.in_K hF I.ok.mod.kin J m.at_ m.fn ?_
  refine wpAny_mono (own_callA F hr I.env0 hb hx I (xs := [.ref b, x]) (.cons rfl (.cons rx .nil)) q) (fun r s' e => ?_) fun _ _ e => e
  obtain ⟨z, H', I', rz, k, rfl, qz⟩ := e
  cases rz
  exact wpAny_truthy_bool ⟨.bl _, H', I', rfl, qz⟩
theorem op_notInOwn (F : FnOk X.prog X.w X.K X.mg X.base CX n f fd ps sp) (hr : Room n X.A) (m : Own1 X.K C f "__contains__") (hb : Binds X.K fd ps []) (hx : Passes CX X E) : OpR X (compareOp .NotIn) (rInOwn C sp E true) := by
  intro pins s σ H x y v u Q I rx ry d
  obtain ⟨b, dy, gs, rfl, hb', q⟩ := d
  cases ry
  obtain ⟨_, _, J⟩ := inst_look I hb'
  obtain ⟨m0, hF⟩ := I.fr
  refine PySem.W.notIn_K hF I.ok.mod.kin J m.at_ m.fn ?_
  refine wpAny_mono (own_callA F hr I.env0 hb hx I (xs := [.ref b, x]) (.cons rfl (.cons rx .nil)) q) (fun r s' e => ?_) fun _ _ e => e
  obtain ⟨z, H', I', rz, k, rfl, qz⟩ := e
  cases rz
  exact wpAny_truthy_bool ⟨.bl _, H', I', rfl, qz⟩
/-- len(o) -/
def rLenOwn (C : Addr) (sp : Sp) (E : XK) : List V → Hp → VK → Prop := fun xs H Q => ∃ a dx fs, xs = [.ref a] ∧ H a = some (.ins C dx fs) ∧ sp [.ref a] H (fun r H' => ∃ i : Int, r = .int i ∧ (0 ≤ i ∧ i < 2 ^ 63) ∧ Q (.int i) H') E
theorem call_lenOwn (F : FnOk X.prog X.w X.K X.mg X.base CX n f fd ps sp) (hr : Room (n + 1) X.A) (m : Own1 X.K C f "__len__") (hb : Binds X.K fd ps []) (hx : Passes CX X E) : CallR X (.builtin "len") (rLenOwn C sp E) := by
  intro pins s σ H xs us Q I rv h
  obtain ⟨a, dx, fs, rfl, ha, q⟩ := h
  obtain ⟨u, rfl, ru⟩ := rv.one
  cases ru
  obtain ⟨_, _, J⟩ := inst_look I ha
  obtain ⟨m0, hF⟩ := I.fr
  refine PySem.W.len_K hF I.ok.mod.kin J m.at_ m.fn ?_
  refine wpAny_mono (own_callA F hr.in1 I.env0.in1 hb hx I (xs := [.ref a]) (.cons rfl .nil) q) (fun r s' e => ?_) fun _ _ e => e
  obtain ⟨z, H', I', rz, i, rfl, hi, qz⟩ := e
  obtain ⟨t, rfl⟩ := rz
  exact ⟨hi, .int i, H', I'.tok _, ⟨_, rfl⟩, qz⟩
/-- if o -/
def rTruOwn (C : Addr) (sp : Sp) (E : XK) : V → Hp → (Bool → Hp → Prop) → Prop := fun x H Q => ∃ a dx fs, x = .ref a ∧ H a = some (.ins C dx fs) ∧ sp [.ref a] H (fun r H' => ∃ k : Bool, r = .bl k ∧ Q k H') E
theorem tru_own (F : FnOk X.prog X.w X.K X.mg X.base CX n f fd ps sp) (hr : Room n X.A) (m : Own1 X.K C f "__bool__") (hb : Binds X.K fd ps []) (hx : Passes CX X E) : TruR X (rTruOwn C sp E) := by
  intro pins s σ H x v Q I rx h
  obtain ⟨a, dx, fs, rfl, ha, q⟩ := h
  cases rx
  obtain ⟨_, _, J⟩ := inst_look I ha
  obtain ⟨m0, hF⟩ := I.fr
  refine PySem.W.truthy_K hF I.ok.mod.kin J m.at_ m.fn ?_
  refine wpAny_mono (own_callA F hr I.env0 hb hx I (xs := [.ref a]) (.cons rfl .nil) q) (fun r s' e => ?_) fun _ _ e => e
  obtain ⟨z, H', I', rz, k, rfl, qz⟩ := e
  cases rz
  exact ⟨H', I', qz⟩
/-- o[i] -/
def rIxOwn (C : Addr) (sp : Sp) (E : XK) : R2 := fun x y H Q => ∃ a dx fs, x = .ref a ∧ H a = some (.ins C dx fs) ∧ sp [.ref a, y] H Q E
theorem pe_ixOwn {a b : Expr} {ta tb : TE} {pos : Pos} (F : FnOk X.prog X.w X.K X.mg X.base CX n f fd ps sp) (hr : Room (n + 1) X.A) (m : Own1 X.K C f "__getitem__") (hf : PySem.W.fnIn X.K f = true) (hb : Binds X.K fd ps []) (hx : Passes CX X E)
    (ea : PE X a ta) (eb : PE X b tb) (hs : ∀ x i, subscripted b true (.ref x) i = runValue (.builtin "lifetime.subscript" ⟨[.ref x, i], []⟩) := by intro _ _; with_unfolding_all rfl) : PE X (.Subscript a b pos) (tOp (rIxOwn C sp E) ta tb) := by
  refine ⟨fun pins s σ H Q I h => Subscript_ (binT ea eb I h fun v u s2 x y H2 I2 rx ry d => ?_)⟩
  obtain ⟨c, dx, fs, rfl, ha, q⟩ := d
  cases rx
  obtain ⟨_, _, J⟩ := inst_look I2 ha
  obtain ⟨m0, hF⟩ := I2.fr
  refine PySem.W.sub_K hF I2.ok.mod.kin J m.at_ hf m.fn ?_ (hs _ _)
  exact own_callA F hr.in1 I2.env0.in1 hb hx I2 (xs := [.ref c, y]) (.cons rfl (.cons ry .nil)) q
end
end Kx

namespace Kx
open PySem PySem.Spec PyProof.Rows L2
/-! ### a def whose promise knows how large the memory was when it was called -/
abbrev SpN := Nat → Sp
structure FnN (P : Program) (w : World) (K : PySem.W.Frag) (mg : Str → Option Value) (base : Heap) (CX : CXT) (k : Nat) (f : Addr) (fd : FuncData) (ps : List Str) (sp : SpN) : Prop where
  len : ∀ n vs H Q E, sp n vs H Q E → vs.length = ps.length
  run : ∀ {A : Around} {outer : List Env} {s : Shared} {H : Hp} {args : Args} {us : List Value} {vs : List V} {Q : VK} {E : XK}, Room k A → Env0 P w K mg base A outer s H → BindsTo s fd args (ps.zip us) → Vals vs us →
    sp s.heap.objs.size vs H Q E → codeAny (model P w) A (.call (.ref f) args) (CR CX outer P w H s Q E) s
theorem FnN.of {P : Program} {w : World} {K : PySem.W.Frag} {mg : Str → Option Value} {base : Heap} {CX : CXT} {k : Nat} {f : Addr} {fd : FuncData} {ps N : List Str} {sp : SpN} {x qual : Str} {params : Arguments} {body : List Stmt} {scope : Scope}
    {dvs : List V} {kws : List (Str × V)} (F : FunD K x qual params body scope dvs kws f fd) (S : FnScope N ps scope) (len : ∀ n vs H Q E, sp n vs H Q E → vs.length = ps.length)
    (hbody : ∀ (cdv : Value) (A : Around) (outer : List Env) (s : Shared) (H : Hp) (vs : List V) (Q : VK) (E : XK), Room k (A.deeper (envOfC qual scope s.heap.objs.size f cdv)) → sp s.heap.objs.size vs H Q E →
      ∃ t, PSs (cxOf CX P w K mg base N qual scope f cdv A outer s H E) body t ∧ t { nx := fun _ H' => Q .non H', rt := Q } (start N vs) H) : FnN P w K mg base CX (k + 1) f fd ps sp := by
  obtain ⟨oc, od, dV, kV, doc, pm, an, cdv, ct, osl, hfd, here, code, _, _⟩ := F.ex
  subst hfd
  refine ⟨len, ?_⟩
  intro A outer s H args us vs Q E room env bound rel q
  have up : ∀ b o, base.get? b = some o → s.heap.get? b = some o := fun b o e => (env.bs b o e).1
  have inK : K.In s.heap := env.mod.kin.keeps up
  obtain ⟨t, ht, hq⟩ := hbody cdv A outer s H vs Q E (room.deeper _) q
  have pk : ∀ y ∈ ps.zip us, scope.names.lookup y.1 = some .local ∨ (scope.names.lookup y.1 = some .cell ∧ ((cellsFrom (s.heap.objs.size + 1) scope.names []).lookup y.1).isSome = true) := by
    intro y hy
    rcases S.par y.1 (List.of_mem_zip (a := y.1) (b := y.2) hy).1 with z | z
    · exact .inl z
    · exact .inr ⟨z, PySem.W.cellsFrom_some _ _ _ (.inl z)⟩
  refine codeAny_call_function room.depth (inK _ _ here) rfl S.co S.gen rfl (PySem.W.codeRec_of inK code) (bound _ _ _ _ (wpAny_newFunctionEnv_cells S.kind pk ?_))
  rintro _ rfl s1 newEnv
  refine ⟨(env.mod.nolimit.keeps up).keeps newEnv.toInCall.keep, codeAny_func (wpAny_mono (ht.run [] s1 (start N vs) H _ (inv_start S room.hd env (len _ _ _ _ _ q) rel newEnv) hq) ?_ fun _ _ z => z)⟩
  intro fl s' hs
  rcases fl with _ | _ | _ | u
  · obtain ⟨_, H', J, q'⟩ := hs
    exact ⟨V.non, H', J.os, J.bare, J.base, J.hok, rfl, q'⟩
  · exact hs.elim fun _ z => z.elim fun _ z => z.2.elim
  · exact hs.elim fun _ z => z.elim fun _ z => z.2.elim
  · obtain ⟨v, _, H', J, rv, q'⟩ := hs
    exact ⟨v, H', J.os, J.bare, J.base, J.hok, rv, q'⟩
/-! ### iter(t), t a tuple -/
def ItTO (l it : Addr) (i : Nat) : HO := .ext fun h => h.IsTupleIter it l i
theorem itTO_ok {P : Program} {w : World} {H : Hp} {h : Heap} {l it : Addr} {i : Nat} (e : h.IsTupleIter it l i) : ObjOk P w H h it (ItTO l it i) := by
  have ⟨o, ho, r⟩ := e
  exact ⟨e, ⟨o, ho⟩, fun h1 h2 p k => by
    obtain ⟨o', ho', r'⟩ := (show h1.IsTupleIter it l i from p)
    exact ⟨o', k o' ho', r'⟩⟩
def rIterT (K : PySem.W.Frag) (n : Nat) : List V → Hp → VK → Prop := fun xs H Q => ∃ (l : Addr) (zs : List V), xs = [.ref l] ∧ SqT K H l zs ∧ ∀ it, H it = none → n ≤ it → Q (.ref it) (upd H it (ItTO l it 0))
section
variable {X : Cx}
theorem call_iterT : CallR X (.builtin "iter") (rIterT X.K X.s_0.heap.objs.size) := by
  intro pins s σ H xs us Q I r h
  obtain ⟨l, zs, rfl, hq, q⟩ := h
  obtain ⟨u, rfl, ru⟩ := r.one
  cases ru
  obtain ⟨its, rv, pl, hz⟩ := I.tuple hq
  have iterArgs : someArgs "iter" 1 2 ⟨[Value.ref l], []⟩ = pure [Value.ref l] := by first | rfl | kernel_rfl!
  refine Calls.call_function_entry (by decide +kernel) (by decide +kernel) PySem.W.kdk_entry_iter (PySem.W.kdk_args_iter _) (show wpAny _ _ (Builtin.«iter» _) _ _ _ from ?_)
  unfold Builtin.«iter»
  refine wpAny_bind (wpAny_of_eq iterArgs (wpAny_bind (wpAny_pyIter_tuple (show s.heap.IsTuple l its.toArray from pl) (wpAny_pure ⟨_, rfl, ?_⟩))))
  exact ⟨.ref s.heap.objs.size, _, I.laid (t' := s.toks) (fun b u e => Heap.get?_push_of_some _ e) (Nat.le_refl _) (itTO_ok ⟨_, Heap.get?_push_size _ rfl, rfl, rfl⟩), rfl, q _ (I.hok.fresh (Nat.le_refl _)) I.sz⟩
end
/-! ### for x in o, where the class says `def __iter__(self): return iter(self.t)`, t a tuple -/
def spIterN (C : Addr) (fld : Str) (K : PySem.W.Frag) : SpN := fun n vs H Q _ => ∃ (a dx l : Addr) (fs : List (Str × V)) (zs : List V), vs = [.ref a] ∧ H a = some (.ins C dx fs) ∧ fs.lookup fld = some (.ref l) ∧ SqT K H l zs ∧ ∀ it, H it = none → n ≤ it → Q (.ref it) (upd H it (ItTO l it 0))
def iOwn (K : PySem.W.Frag) (C : Addr) (fld : Str) (tl : TE) : TI := fun σ H R => tl σ H fun x H1 => ∃ (a dx l : Addr) (fs : List (Str × V)) (zs : List V), x = .ref a ∧ H1 a = some (.ins C dx fs) ∧ fs.lookup fld = some (.ref l) ∧ SqT K H1 l zs ∧ R (Itt K l) H1
section
variable {X : Cx} {tg : Expr} {n : Nat} {C f : Addr} {fd : FuncData} {ps : List Str} {fld : Str}
theorem pi_own {e : Expr} {tl : TE} (he : PE X e tl) (F : FnN X.prog X.w X.K X.mg X.base CX0 n f fd ps (spIterN C fld X.K)) (hr : Room n X.A) (m : Own1 X.K C f "__iter__") (hb : Binds X.K fd ps []) : PI X tg e (iOwn X.K C fld tl) := by
  refine ⟨fun pins s σ H R I h => ?_⟩
  refine thn (he.run pins s σ H _ I h) fun v s1 ⟨x, H1, I1, r1, a, dx, l, fs, zs, e1, ha, hl, hz, q⟩ => ?_
  subst e1
  cases r1
  obtain ⟨_, _, J⟩ := inst_look I1 ha
  obtain ⟨m0, hF⟩ := I1.fr
  refine PySem.W.owit_iter hF I1.ok.mod.kin J m.at_ m.fn ?_
  have q0 : spIterN C fld X.K s1.heap.objs.size [.ref a] H1 (fun v H' => ∃ it, v = .ref it ∧ s1.heap.objs.size ≤ it ∧ H1 it = none ∧ H' = upd H1 it (ItTO l it 0)) (fun _ _ _ => False) := by
    refine ⟨a, dx, l, fs, zs, rfl, ha, hl, hz, fun it h0 hn => ⟨it, rfl, hn, h0, rfl⟩⟩
  have same := F.len _ _ _ _ _ q0
  have bound := hb s1 [.ref a] I1.kIn (by rw [← same]; rfl)
  rw [List.append_nil] at bound
  refine wpAny_call (codeAny_mono (F.run (vs := [.ref a]) (us := [.ref a]) (args := ⟨[.ref a], []⟩) hr I1.env0 bound (.cons rfl .nil) q0) fun r s2 back => ?_)
  rcases r with er | fl
  · exact False.elim back
  rcases fl with _ | _ | _ | u
  · exact False.elim back
  · exact False.elim back
  · exact False.elim back
  obtain ⟨v, H2, I2, rv, it, e2, hn, h0, e3⟩ := I1.after back
  subst e2
  cases rv
  rw [e3] at I2
  have there : (upd H1 it (ItTO l it 0)) it = some (ItTO l it 0) := upd_same
  have st : s2.heap.IsTupleIter it l 0 := (I2.hok it _ there).1
  have young : X.s_0.heap.objs.size ≤ it := Nat.le_trans I1.sz hn
  have there' := there
  unfold ItTO at there'
  have I3 := ItX.inv_drop I2 (a := it) (φ := fun h => h.IsTupleIter it l 0) there
  have fp := ItX.inv_fp I2 there young
  rw [ItX.dropH_upd h0] at I3 fp
  unfold PySem.W.OwitIt
  refine wpAny_specialOf (name := Str.ofString "__next__") st.typeIs slot_tupleiter_next.lookup ?_
  refine ⟨it, [it], _, _, H1, rfl, I3, turn_tuple l it, st, fun b hb => ?_, q⟩
  have e : b = it := by simpa using hb
  rw [e]
  exact fp
end
end Kx

namespace Kx
open PySem PySem.Spec PyProof.Rows L2
/-! ### list(o), where the class says `def __iter__(self): return iter(self.t)` and has __len__ -/
section
variable {X : Cx} {pins : List (Addr × Obj)} {σ : L2.St} {H : Hp} {s : Shared} {n : Nat} {C fi fl a q : Addr} {fdI fdL : FuncData} {psI psL : List Str} {fld : Str} {spL : Sp} {A1 : Around}
theorem sqt_set {K : PySem.W.Frag} {H : Hp} {a c : Addr} {xs ys : List V} {o : HO} (h : SqT K H a xs) (hc : H c = some (.lst ys)) : SqT K (upd H c o) a xs := by
  rcases h with (h | ⟨q, h⟩) | h
  · exact .inl (.inl (by rw [upd_ne (ne_of h hc (by intro z; cases z))]; exact h))
  · exact .inl (.inr ⟨q, by rw [upd_ne (ne_of h hc (by intro z; cases z))]; exact h⟩)
  · exact .inr h
/-- a def that lets nothing out is called -/
theorem own_call0 (F : FnOk X.prog X.w X.K X.mg X.base CX0 n fl fdL psL spL) {A : Around} {E : Value → Shared → Prop} (hr : Room n A) (he : Env0 X.prog X.w X.K X.mg X.base A X.stack s H) (hb : Binds X.K fdL psL []) {xs : List V} {us : List Value} {Q : VK}
    (I : Inv X pins σ H s) (rv : Vals xs us) (q : spL xs H Q (fun _ _ _ => False)) : wpAny (model X.prog X.w) A (call (.ref fl) us) (EP X pins σ Q) E s := by
  have same := F.len _ _ _ _ q
  have bound := hb s us I.kIn (by rw [← same]; simpa using (rv.length).symm)
  rw [List.append_nil] at bound
  refine wpAny_call (codeAny_mono (F.run A X.stack s H ⟨us, []⟩ us xs _ _ hr he (by simpa using bound) rv q) fun r s' back => ?_)
  rcases r with e | fl
  · exact False.elim back
  · rcases fl with _ | _ | _ | w
    all_goals first
      | exact False.elim back
      | exact I.after back
theorem env_sub (sb : Sub X n A1) (I : Inv X pins σ H s) : Env0 X.prog X.w X.K X.mg X.base A1 X.stack s H := by
  have e := I.env0
  exact ⟨by rw [sb.fr]; exact e.frames, e.mod, e.bs, e.bsz, e.funs, e.frf, e.hok, e.bare⟩
theorem tup_loop {l it q : Addr} {zs : List V} {Rs : Result → Shared → Prop} {Hd : Hp} (hA : A1.in1.handled = none) (hz : SqT X.K Hd l zs) (hq : Hd q = some (.lst [])) (few : zs.length ≤ sizeLine) (done : ∀ s', Inv X pins σ (upd Hd q (.lst zs)) s' → Rs (.ok (.ret .none)) s') (hni : it ≠ q) :
    ∀ (m i : Nat) (s : Shared), m = zs.length - i → i ≤ zs.length → Inv X pins σ (upd Hd q (.lst (zs.take i))) s → s.heap.IsTupleIter it l i → FpOk X pins Hd it →
    codeAny (model X.prog X.w) A1 (.builtin "list.extend.loop" ⟨[.ref q, .ref it, .none], []⟩) Rs s := by
  intro m
  induction m with
  | zero =>
    intro i s em hi I st fp
    have ei : i = zs.length := by omega
    subst ei
    rw [List.take_length] at I
    refine codeAny_builtin PySem.F.entry_extend_loop ?_
    rw [Around.under_plainId PySem.F.plain_extend_loop _]
    show wpAny _ A1.in1 (pyNext (.ref it) >>= _) _ _ s
    obtain ⟨its, rv, p, hzs⟩ := I.tuple (sqt_set hz hq)
    have hl := rv.length
    obtain ⟨f0, f1, f2, f3, f4, f5⟩ := fp
    have f0' : (upd Hd q (.lst zs)) it = none := by rw [upd_ne hni]; exact f0
    refine wpAny_bind (wpAny_pyNext_tuple_end hA st (show s.heap.IsTuple l its.toArray from p) (by simp; omega) fun h' eb => ?_)
    exact wpAny_pure (done _ (I.turned (t' := s.toks) (fun b o hb e => eb b o hb e) f0' f1 f3 f4 f5))
  | succ m ih =>
    intro i s em hi I st fp
    have lt : i < zs.length := by omega
    have ex : zs[i]? = some zs[i] := List.getElem?_eq_getElem lt
    refine codeAny_builtin PySem.F.entry_extend_loop ?_
    rw [Around.under_plainId PySem.F.plain_extend_loop _]
    show wpAny _ A1.in1 (pyNext (.ref it) >>= _) _ _ s
    obtain ⟨its, rv, p, hzs⟩ := I.tuple (sqt_set hz hq)
    obtain ⟨u, hu, ru⟩ := rv.get ex
    have fp' := fp
    obtain ⟨f0, f1, f2, f3, f4, f5⟩ := fp
    have f0' : (upd Hd q (.lst (zs.take i))) it = none := by rw [upd_ne hni]; exact f0
    refine wpAny_bind (wpAny_pyNext_tuple_item st (show s.heap.IsTuple l its.toArray from p) (x := u) (by simpa using hu) fun h' st' sb => ?_)
    have I1 : Inv X pins σ (upd Hd q (.lst (zs.take i))) { s with heap := h' } := I.turned (t' := s.toks) (fun b o hb e => (sb.2 b hb).trans e) f0' f1 f3 f4 f5
    show wpAny _ A1.in1 (updateSeq q (·.push u) >>= _) _ _ _
    obtain ⟨z, its2, k, r2, hl2, e2⟩ := I1.lstM upd_same
    have lt2 : its2.length = i := by
      have := r2.length
      rw [List.length_take] at this
      omega
    refine wpAny_bind (wpAny_updateSeq e2 rfl (wpAny_pure ⟨plainId_quiet PySem.F.plain_extend_loop _, ?_⟩) (by rw [List.size_toArray]; omega) (by show (its2.toArray.push u).size ≤ sizeLine + 1; rw [Array.size_push, List.size_toArray]; omega))
    have I2 := I1.lset (f := (·.push u)) (its' := its2 ++ [u]) (ys := zs.take i ++ [zs[i]]) (t' := s.toks) upd_same e2 (by simp) (r2.append (.cons ru .nil)) (by rw [List.length_append, List.length_singleton, List.length_take]; omega)
    rw [upd_upd, show zs.take i ++ [zs[i]] = zs.take (i + 1) by rw [List.take_succ, ex]; rfl] at I2
    refine ih (i + 1) _ (by omega) (by omega) I2 ?_ fp'
    exact st'.at fun o e => (Heap.get?_update_other h' (Obj.mapSeq _) (Ne.symm hni)).trans e
/-- the length that o tells -/
theorem own_hintL {Q : Bool → Shared → Prop} {E : Value → Shared → Prop} {dx : Addr} {fs : List (Str × V)} {k : Nat} (sb : Sub X n A1.in1) (m : Own1 X.K C fl "__len__") (FL : FnOk X.prog X.w X.K X.mg X.base CX0 n fl fdL psL spL) (bL : Binds X.K fdL psL [])
    (I : Inv X pins σ H s) (ha : H a = some (.ins C dx fs)) (hk : k ≤ sizeLine) (q : spL [.ref a] H (fun r H' => r = .int (k : Int) ∧ Same H H') (fun _ _ _ => False)) (h : ∀ H' s' b, Same H H' → Inv X pins σ H' s' → Q b s') :
    wpAny (model X.prog X.w) A1 (Builtin.List.listLengthHint (.ref a)) Q E s := by
  obtain ⟨_, _, J⟩ := inst_look I ha
  obtain ⟨m0, hF⟩ := I.fr
  unfold Builtin.List.listLengthHint
  refine wpAny_bind (wpAny_bind (J.type.here ((PySem.W.looks_findIn I.kIn m.at_).here ?_)))
  refine PySem.W.KFB.if_not rfl ?_
  refine PySem.W.KFB.if_so rfl ?_
  refine wpAny_bind (wpAny_rule ?_)
  refine wpAny_bind (wpAny_attempt ?_)
  refine PySem.W.len_K hF I.ok.mod.kin J m.at_ m.fn ?_
  refine wpAny_mono (own_call0 FL sb.room (env_sub sb I) bL I (xs := [.ref a]) (.cons rfl .nil) q) (fun r s' e => ?_) fun _ _ z => z
  · obtain ⟨z, H', I', rz, rfl, sm⟩ := e
    obtain ⟨t, rfl⟩ := rz
    refine ⟨⟨by omega, Int.lt_of_le_of_lt (show (k : Int) ≤ (sizeLine : Int) by omega) (by decide)⟩, ?_⟩
    refine wpAny_bind (m := asInt? _) (wpAny_pure ?_)
    refine PySem.W.KFB.if_not ?_ (wpAny_pure (h H' _ _ sm (I'.tok _)))
    show decide ((k : Int).toNat > sizeLine) = false
    rw [Int.toNat_natCast]
    exact decide_eq_false (by omega)
/-- list(o): the numbers of its tuple, in a new list -/
def rListIt (K : PySem.W.Frag) (C : Addr) (fld : Str) (spL : Sp) : List V → Hp → VK → Prop := fun xs H Q => ∃ (a dx l : Addr) (fs : List (Str × V)) (zs : List V), xs = [.ref a] ∧ H a = some (.ins C dx fs) ∧ fs.lookup fld = some (.ref l) ∧ SqT K H l zs ∧ zs.length ≤ sizeLine ∧
  (∀ H1, Same H H1 → spL [.ref a] H1 (fun r H' => r = .int (zs.length : Int) ∧ Same H1 H') (fun _ _ _ => False)) ∧ ∀ H' q, Same H H' → H' q = some (.lst zs) → Q (.ref q) H'
theorem call_listIt {ps : List Str} {fd : FuncData} (F : FnN X.prog X.w X.K X.mg X.base CX0 n fi fd ps (spIterN C fld X.K)) (mi : Own1 X.K C fi "__iter__") (hb : Binds X.K fd ps [])
    (m : Own1 X.K C fl "__len__") (FL : FnOk X.prog X.w X.K X.mg X.base CX0 n fl fdL psL spL) (bL : Binds X.K fdL psL []) (hr : Room (n + 3) X.A) (hc : X.calm = true) : CallR X (.type "list") (rListIt X.K C fld spL) := by
  intro pins s σ H xs us Q I rv h
  obtain ⟨a, dx, l, fs, zs, rfl, ha, hl, hz, few, hlen, q⟩ := h
  obtain ⟨u, rfl, ru⟩ := rv.one
  cases ru
  have sb : Sub X (n + 1) X.A.in1.in1 := (Sub.in1 (Sub.in1 (⟨hr, rfl⟩ : Sub X (n + 3) X.A)))
  refine callType_codes (Q₁ := fun obj s₁ => obj = .ref s.heap.objs.size ∧ s₁ = { s with heap := s.heap.push { cls := .type "list", data := .seq #[] } }) PySem.F.called_list (PySem.F.typeCall_list_1 _) PySem.F.entry_list_init
    (code_list_new _ ⟨rfl, rfl⟩) fun obj s₁ h₁ => ?_
  obtain ⟨rfl, rfl⟩ := h₁
  have hS : (s.heap.push { cls := .type "list", data := .seq #[] }).get? s.heap.objs.size = some { cls := .type "list", data := .seq #[] } := Heap.get?_push_size _ rfl
  refine ⟨⟨_, hS, rfl⟩, PySem.F.args_list_init_2 _ _, ?_⟩
  have fr : H s.heap.objs.size = none := I.hok.fresh (Nat.le_refl _)
  have I1 : Inv X pins σ (upd H s.heap.objs.size (.lst [])) { s with heap := s.heap.push { cls := .type "list", data := .seq #[] } } := I.lnew (its := []) (t' := s.toks) .nil (Nat.zero_le _)
  generalize hq : s.heap.objs.size = q0 at *
  show wpAny _ _ (do let old ← Builtin.List.listItems (.ref q0); Builtin.List.listUpdate (.ref q0) (fun _ => #[]); letGo old.toList.reverse; Builtin.List.listExtendWith (.ref q0) (.ref a) .none) _ _ _
  refine wpAny_bind ?_
  unfold Builtin.List.listItems
  refine wpAny_bind (wpAny_seqItems hS rfl (wpAny_pure ?_))
  show wpAny _ _ (updateSeq q0 (fun _ => #[]) >>= fun _ => letGo (#[] : Array Value).toList.reverse >>= fun _ => Builtin.List.listExtendWith (.ref q0) (.ref a) .none) _ _ _
  refine wpAny_bind (wpAny_updateSeq hS rfl ?_)
  have I2 := I1.lset (f := fun _ => #[]) (its := []) (its' := []) (ys := []) (t' := s.toks) upd_same hS rfl .nil (Nat.zero_le _)
  rw [upd_upd] at I2
  refine wpAny_bind (wpAny_letGo ?_)
  have s2 : Same H (upd H q0 (.lst [])) := same_upd (Same.refl H) fr
  have ha2 := s2 _ _ ha
  have hz2 := hz.ext s2
  have hq2 : (upd H q0 (.lst [])) q0 = some (.lst []) := upd_same
  revert I2 s2 ha2 hz2 hq2
  generalize upd H q0 (.lst []) = H2
  intro I2 s2 ha2 hz2 hq2
  have hne : q0 ≠ a := ne_of hq2 ha2 (fun z => nomatch z)
  obtain ⟨mA, J, _⟩ := ins_get I2.hok ha2
  obtain ⟨od, J, _⟩ := J.look
  obtain ⟨m0, hF⟩ := I2.fr
  unfold Builtin.List.listExtendWith
  refine wpAny_bind (J.type.here ?_)
  have h1 : Builtin.List.listSameRef (.ref q0) (.ref a) = false := by simp [Builtin.List.listSameRef, hne]
  have h2 : (Value.ref C == Value.type "list") = false := rfl
  have h3 : (Value.ref C == Value.type "tuple") = false := rfl
  simp only [h1, h2, h3, Bool.or_false, Bool.false_eq_true, if_false]
  refine wpAny_bind (PySem.W.owit_iter hF I2.ok.mod.kin J mi.at_ mi.fn ?_)
  generalize hs2 : ({ s with heap := (s.heap.push { cls := .type "list", data := .seq #[] }).update q0 (Obj.mapSeq fun _ => #[]), toks := s.toks } : Shared) = sx at *
  have qI : spIterN C fld X.K sx.heap.objs.size [.ref a] H2 (fun v H' => ∃ it, v = .ref it ∧ sx.heap.objs.size ≤ it ∧ H2 it = none ∧ H' = upd H2 it (ItTO l it 0)) (fun _ _ _ => False) := ⟨a, dx, l, fs, zs, rfl, ha2, hl, hz2, fun it h0 hn => ⟨it, rfl, hn, h0, rfl⟩⟩
  have same := F.len _ _ _ _ _ qI
  have bound := hb sx [.ref a] I2.kIn (by rw [← same]; rfl)
  rw [List.append_nil] at bound
  refine wpAny_call (codeAny_mono (F.run (vs := [.ref a]) (us := [.ref a]) (args := ⟨[.ref a], []⟩) (sb.mono (by omega)).room (env_sub sb I2) bound (.cons rfl .nil) qI) fun r s3 back => ?_)
  rcases r with er | flw
  · exact False.elim back
  rcases flw with _ | _ | _ | u
  · exact False.elim back
  · exact False.elim back
  · exact False.elim back
  obtain ⟨v, H3, I3, rv3, it, e2, hn, h0, e3⟩ := I2.after back
  subst e2
  cases rv3
  rw [e3] at I3
  have there : (upd H2 it (ItTO l it 0)) it = some (ItTO l it 0) := upd_same
  have st : s3.heap.IsTupleIter it l 0 := (I3.hok it _ there).1
  have young : X.s_0.heap.objs.size ≤ it := Nat.le_trans I2.sz hn
  unfold PySem.W.OwitIt
  refine wpAny_specialOf (name := "__next__") st.typeIs slot_tupleiter_next.lookup ?_
  have s3' : Same H2 (upd H2 it (ItTO l it 0)) := same_upd (Same.refl H2) h0
  refine wpAny_bind (wpAny_holding (own_hintL (A1 := X.A.in1.in1) sb.in1 m FL bL I3 (s3' _ _ ha2) few (hlen _ (s2.trans s3')) fun H4 s4 b sm4 I4 => ?_))
  have I5 := ItX.inv_drop I4 (a := it) (φ := fun h => h.IsTupleIter it l 0) (sm4 _ _ there)
  have fp := ItX.inv_fp I4 (sm4 _ _ there) young
  have st4 : s4.heap.IsTupleIter it l 0 := (I4.hok it _ (sm4 _ _ there)).1
  have s5 : Same H2 (ItX.dropH H4 it) := fun b o e => by
    rw [ItX.dropH_ne (ne_of_none e h0)]
    exact sm4 _ _ (s3' b o e)
  have hni : it ≠ q0 := fun e => by rw [e, hq2] at h0; cases h0
  have fin : ∀ s6, Inv X pins σ (ItX.dropH H4 it) s6 → s6.heap.IsTupleIter it l 0 → codeAny (model X.prog X.w) X.A.in1 (.builtin "list.extend.loop" ⟨[.ref q0, .ref it, .none], []⟩) (wants (fun r s₂ => r = .none ∧ EP X pins σ Q (.ref q0) s₂) X.xe) s6 := fun s6 I6 st6 => by
    have e0 : upd (ItX.dropH H4 it) q0 (.lst (zs.take 0)) = ItX.dropH H4 it := by
      funext b
      by_cases hb : b = q0
      · rw [hb, upd_same, s5 _ _ hq2]
        rfl
      · rw [upd_ne hb]
    refine tup_loop (A1 := X.A.in1) (Hd := ItX.dropH H4 it) (zs := zs) (I2.ok.hd hc) (hz2.ext s5) (s5 _ _ hq2) few (fun s' I' => ⟨rfl, .ref q0, _, I', rfl, q _ q0 (fun b o e => ?_) upd_same⟩) hni _ 0 s6 rfl (Nat.zero_le _) (by rw [e0]; exact I6) st6 fp
    rw [upd_ne (ne_of_none e fr)]
    exact s5 _ _ (s2 b o e)
  refine wpAny_ite_split (fun _ => ?_) (fun _ => wpAny_pure ⟨plainId_quiet PySem.F.plain_extend_loop _, fin s4 I5 st4⟩)
  obtain ⟨z, its, k, r3, hl3, e3'⟩ := I5.lstM (s5 _ _ hq2)
  cases r3
  refine wpAny_bind (wpAny_rule ?_)
  refine wpAny_bind ?_
  show wpAny _ _ (updateSeq q0 (·.push .none) >>= fun _ => updateSeq q0 (·.pop)) _ _ _
  refine wpAny_bind (wpAny_updateSeq e3' rfl ?_)
  have I6 := I5.lset (f := (·.push Value.none)) (its' := [Value.none]) (ys := [.non]) (t' := s4.toks) (s5 _ _ hq2) e3' (by simp) (.cons rfl .nil) (by rw [List.length_singleton, sizeLine_eq]; decide)
  obtain ⟨z4, its4, k4, r4, hl4, e4⟩ := I6.lstM upd_same
  obtain ⟨u4, rfl, ru4⟩ := r4.one
  refine wpAny_updateSeq e4 rfl ?_ (by show 1 ≤ sizeLine; rw [sizeLine_eq]; decide) (by show 0 ≤ sizeLine + 1; exact Nat.zero_le _)
  refine wpAny_pure ⟨plainId_quiet PySem.F.plain_extend_loop _, ?_⟩
  have I7 := I6.lset (f := (·.pop)) (its := [u4]) (its' := []) (ys := []) (t' := s4.toks) upd_same e4 (by rfl) .nil (Nat.zero_le _)
  rw [upd_upd] at I7
  have hH : upd (ItX.dropH H4 it) q0 (.lst []) = ItX.dropH H4 it := by
    funext b
    by_cases hb : b = q0
    · rw [hb, upd_same, s5 _ _ hq2]
    · rw [upd_ne hb]
  rw [hH] at I7
  refine fin _ I7 ?_
  exact (st4.at fun o e => (Heap.get?_update_other _ (Obj.mapSeq _) (Ne.symm hni)).trans e).at fun o e => (Heap.get?_update_other _ (Obj.mapSeq _) (Ne.symm hni)).trans e
end
end Kx

namespace Kx
open PySem PySem.Spec PyProof.Rows L2
def top (i : Nat) : Stmt := PySem.Challenge.pw_savedseats_k04_lots_built.main.body.getD i (.Pass ⟨0, 0, 0, 0⟩)

/-- a def of the text, by its address: its promise and how its arguments bind -/
def Okd (P : Program) (w : World) (K : PySem.W.Frag) (mg : Str → Option Value) (base : Heap) (CX : CXT) (k : Nat) (f : Addr) (ps : List Str) (sp : Sp) : Prop := ∃ fd, FnOk P w K mg base CX k f fd ps sp ∧ Binds K fd ps []
/-- the script's list: read, never written -/
def Scr (K : PySem.W.Frag) (H : Hp) (a : Addr) (ns : List Int) : Prop := (∃ o, H a = some (.frz o (.lst (ns.map V.int)))) ∨
  ∃ (o : Obj) (its : Array Value) (n : Nat), K.lookup a = some o ∧ o.cls = .type "list" ∧ o.dict = none ∧ o.data = .seq its n ∧ its.size ≤ sizeLine ∧ Vals (ns.map V.int) its.toList
theorem Scr.sq {K : PySem.W.Frag} {H : Hp} {a : Addr} {ns : List Int} (h : Scr K H a ns) : SqL K H a (ns.map V.int) := by
  rcases h with ⟨o, h⟩ | h
  · exact .inl (.inr ⟨o, h⟩)
  · exact .inr h
theorem Scr.of {K : PySem.W.Frag} {H : Hp} {a : Addr} {ns : List Int} (hO : Only H) (h : SqL K H a (ns.map V.int)) : Scr K H a ns := by
  rcases h with (h | ⟨o, h⟩) | h
  · rcases hO a with e | ⟨o, xs, e⟩
    · rw [h] at e; cases e
    · rw [h] at e; cases e
  · exact .inl ⟨o, h⟩
  · exact .inr h
/-- what is read only stands -/
def Frz (H H' : Hp) : Prop := ∀ b o u, H b = some (.frz o u) → H' b = some (.frz o u)
theorem Frz.refl (H : Hp) : Frz H H := fun _ _ _ h => h
theorem Frz.trans {H H1 H2 : Hp} (a : Frz H H1) (b : Frz H1 H2) : Frz H H2 := fun c o u h => b c o u (a c o u h)
theorem Frz.same {H H' : Hp} (s : Same H H') : Frz H H' := fun b o u h => s b _ h
theorem Frz.upd {H : Hp} {p : Addr} {x : HO} (n : ∀ o u, H p ≠ some (.frz o u)) : Frz H (upd H p x) := fun b o u h => by
  rw [upd_ne (fun e => by subst e; exact n o u h)]
  exact h
theorem nfz_none {H : Hp} {p : Addr} (h : H p = none) : ∀ o u, H p ≠ some (.frz o u) := fun o u e => by rw [h] at e; cases e
theorem nfz_lst {H : Hp} {p : Addr} {xs : List V} (h : H p = some (.lst xs)) : ∀ o u, H p ≠ some (.frz o u) := fun o u e => by rw [h] at e; cases e
theorem Scr.keep {K : PySem.W.Frag} {H H' : Hp} {a : Addr} {ns : List Int} (h : Scr K H a ns) (f : Frz H H') : Scr K H' a ns := by
  rcases h with ⟨o, h⟩ | h
  · exact .inl ⟨o, f _ _ _ h⟩
  · exact .inr h
/-- the pool at p, with room for b draws more -/
def PoolAt (K : PySem.W.Frag) (H : Hp) (p : Addr) (b : Nat) : Prop := ∃ (a : Addr) (ns : List Int) (n i r m : Int), Scr K H a ns ∧ H p = some (.lst [.ref a, .int n, .int i, .int r, .int m]) ∧
  0 ≤ n ∧ n + (b : Int) ≤ 1000000000000 ∧ 0 ≤ i ∧ 0 ≤ r ∧ 0 ≤ m ∧ m < 2147483629
theorem PoolAt.less {K : PySem.W.Frag} {H : Hp} {p : Addr} {b c : Nat} (h : PoolAt K H p b) (l : c ≤ b) : PoolAt K H p c := by
  obtain ⟨a, ns, n, i, r, m, h1, h2, h3, h4, h6⟩ := h
  exact ⟨a, ns, n, i, r, m, h1, h2, h3, by omega, h6⟩
theorem PoolAt.keep {K : PySem.W.Frag} {H H' : Hp} {p : Addr} {b : Nat} (h : PoolAt K H p b) (hp : ∀ o, H p = some o → H' p = some o) (f : Frz H H') : PoolAt K H' p b := by
  obtain ⟨a, ns, n, i, r, m, h1, h2, h3⟩ := h
  exact ⟨a, ns, n, i, r, m, h1.keep f, hp _ h2, h3⟩
theorem PoolAt.same {K : PySem.W.Frag} {H H' : Hp} {p : Addr} {b : Nat} (h : PoolAt K H p b) (s : Same H H') : PoolAt K H' p b := h.keep (fun o e => s _ _ e) (.same s)
theorem PoolAt.new {K : PySem.W.Frag} {H : Hp} {p q : Addr} {b : Nat} {x : HO} (h : PoolAt K H p b) (n : H q = none) : PoolAt K (upd H q x) p b :=
  h.keep (fun o e => by rw [upd_ne (ne_of_none e n)]; exact e) (.upd (nfz_none n))
theorem PoolAt.set {K : PySem.W.Frag} {H : Hp} {p q : Addr} {b : Nat} {x : HO} {xs : List V} (h : PoolAt K H p b) (n : H q = some (.lst xs)) (ne : q ≠ p) : PoolAt K (upd H q x) p b :=
  h.keep (fun o e => by rw [upd_ne ne.symm]; exact e) (.upd (nfz_lst n))
theorem PoolAt.ne_new {K : PySem.W.Frag} {H : Hp} {p q : Addr} {b : Nat} (h : PoolAt K H p b) (n : H q = none) : q ≠ p := fun e => by
  obtain ⟨_, _, _, _, _, _, _, h2, _⟩ := h
  rw [e, h2] at n
  cases n
/-- what stood beside the pool stands -/
def But (p : Addr) (H H' : Hp) : Prop := (∀ b, b ≠ p → H' b = H b) ∧ (H' p).isSome = true
theorem But.trans {p : Addr} {H H1 H2 : Hp} (a : But p H H1) (b : But p H1 H2) : But p H H2 := ⟨fun c h => (b.1 c h).trans (a.1 c h), b.2⟩
theorem But.of {p : Addr} {H : Hp} {o : HO} : But p H (upd H p o) := ⟨fun _ h => upd_ne h, by rw [upd_same]; rfl⟩
def spPool (K : PySem.W.Frag) : Sp := fun vs H Q _ => ∃ (a : Addr) (ns : List Int), vs = [.ref a] ∧ Scr K H a ns ∧ ∀ (H' : Hp) (p : Addr), H p = none → PoolAt K H' p 1000000000000 → (∃ o, H' = upd H p o) → Q (.ref p) H'
/-- draw(pool, limit): a number from 0 to below the limit; one draw less -/
def spDraw (K : PySem.W.Frag) : Sp := fun vs H Q _ => ∃ (p : Addr) (b : Nat) (lim : Int), vs = [.ref p, .int lim] ∧ PoolAt K H p (b + 1) ∧ 0 < lim ∧ lim.natAbs < 2 ^ 200 ∧
  ∀ (H' : Hp) (d : Int), 0 ≤ d → d < lim → PoolAt K H' p b → But p H H' → Q (.int d) H'
structure TxDraw (mg : Str → Option Value) : Prop where
  n_len : mg "len" = none
  n_abs : mg "abs" = none
  n_int : mg "int" = none
theorem ix_there {xs : List V} {i : Int} (h0 : 0 ≤ i) (h1 : i < xs.length) : ∃ v, atI xs i = some v ∧ v ∈ xs := by
  obtain ⟨j, rfl⟩ : ∃ j : Nat, i = (j : Int) := ⟨i.toNat, by omega⟩
  have hj : j < xs.length := by omega
  exact ⟨xs[j], atI_nat (List.getElem?_eq_getElem hj), List.getElem_mem hj⟩
theorem int_at {xs : List Int} {i : Nat} {v : V} (e : (xs.map V.int)[i]? = some v) : ∃ z, xs[i]? = some z ∧ v = .int z := by
  rw [List.getElem?_map] at e
  cases q : xs[i]? with
  | none => rw [q] at e; cases e
  | some z =>
    rw [q] at e
    exact ⟨z, rfl, (Option.some.inj e).symm⟩
def But1 (w0 : Addr) (H H' : Hp) : Prop := ∀ b o, b ≠ w0 → H b = some o → H' b = some o
theorem But1.trans {w0 : Addr} {H H1 H2 : Hp} (a : But1 w0 H H1) (b : But1 w0 H1 H2) : But1 w0 H H2 := fun c o n e => b c o n (a c o n e)
theorem But1.of {w0 : Addr} {H H' : Hp} (s : Same H H') : But1 w0 H H' := fun b o _ e => s b o e
theorem But1.set {w0 : Addr} {H : Hp} {o : HO} : But1 w0 H (upd H w0 o) := fun b u n e => by rw [upd_ne n]; exact e
theorem iteB {c : Bool} {A B : Prop} (h1 : c = true → A) (h2 : c = false → B) : if c = true then A else B := by
  cases c with
  | true => exact h1 rfl
  | false => exact h2 rfl
theorem shaped_lints (as : List Int) : SeqAt.shaped (.list (as.map PyData.int)) = true := by
  unfold SeqAt.shaped
  have e : (PyData.list (as.map PyData.int)).canLay0 = true := lay_ints as
  have d : (PyData.list (as.map PyData.int)).depth ≤ 64 := by
    have h2 := depth_ints as
    simp only [PyData.depth]
    omega
  rw [e, decide_eq_true d]
  rfl

theorem But1.refl (p : Addr) (H : Hp) : But1 p H H := fun _ _ _ e => e
theorem But1.new {p q : Addr} {H H' : Hp} {x : HO} (b : But1 p H H') (n : H q = none) : But1 p H (upd H' q x) := fun c o nc e => by
  rw [upd_ne (ne_of_none e n)]
  exact b c o nc e
theorem But.one {p : Addr} {H H' : Hp} (b : But p H H') : But1 p H H' := fun c o n e => (b.1 c n).trans e
theorem atI_pos {α : Type} {xs : List α} {y : Int} {v : α} (h0 : 0 ≤ y) (h : xs[y.toNat]? = some v) : atI xs y = some v := by
  have z := atI_nat h
  rw [Int.toNat_of_nonneg h0] at z
  exact z
/-- a number put into an ascending list, if it is not there -/
def below (z : Int) (us : List Int) : Nat := (us.filter fun v => decide (v < z)).length
def insU (us : List Int) (z : Int) : List Int := if z ∈ us then us else us.take (below z us) ++ [z] ++ us.drop (below z us)
def setF (ns : List Int) : List Int := ns.foldl insU []
theorem split_up {z : Int} : ∀ {us : List Int}, us.Pairwise (· < ·) → z ∉ us → (∀ v ∈ us.take (below z us), v < z) ∧ ∀ v ∈ us.drop (below z us), z < v
  | [], _, _ => ⟨fun _ h => by simp [below] at h, fun _ h => by simp [below] at h⟩
  | a :: r, up, no => by
    obtain ⟨u1, u2⟩ := List.pairwise_cons.mp up
    have ih := split_up u2 fun m => no (List.mem_cons_of_mem _ m)
    have ne : z ≠ a := fun e => no (e ▸ List.mem_cons_self)
    by_cases h : a < z
    · have b : below z (a :: r) = below z r + 1 := by
        unfold below
        rw [List.filter_cons_of_pos (by exact decide_eq_true h), List.length_cons]
      rw [b, List.take_succ_cons, List.drop_succ_cons]
      refine ⟨fun v hv => ?_, ih.2⟩
      rcases List.mem_cons.mp hv with e | hv
      · rw [e]
        exact h
      · exact ih.1 v hv
    · have b : below z (a :: r) = 0 := by
        unfold below
        rw [List.filter_cons_of_neg (by exact fun y => h (of_decide_eq_true y)), List.length_eq_zero_iff, List.filter_eq_nil_iff]
        intro v hv y
        have := u1 v hv
        have := of_decide_eq_true y
        omega
      rw [b]
      refine ⟨fun v hv => by simp at hv, fun v hv => ?_⟩
      rw [List.drop_zero] at hv
      rcases List.mem_cons.mp hv with e | hv
      · rw [e]
        omega
      · have := u1 v hv
        omega
theorem insU_up {us : List Int} {z : Int} (up : us.Pairwise (· < ·)) : (insU us z).Pairwise (· < ·) := by
  unfold insU
  by_cases m : z ∈ us
  · rw [if_pos m]
    exact up
  rw [if_neg m]
  obtain ⟨h1, h2⟩ := split_up up m
  rw [List.pairwise_append, List.pairwise_append]
  refine ⟨⟨up.sublist (List.take_sublist ..), by simp, fun a ha b hb => ?_⟩, up.sublist (List.drop_sublist ..), fun a ha b hb => ?_⟩
  · rw [List.mem_singleton.mp hb]
    exact h1 a ha
  · rcases List.mem_append.mp ha with ha | ha
    · have := h1 a ha
      have := h2 b hb
      omega
    · rw [List.mem_singleton.mp ha]
      exact h2 b hb
theorem insU_mem {us : List Int} {z v : Int} : v ∈ insU us z ↔ v = z ∨ v ∈ us := by
  unfold insU
  by_cases m : z ∈ us
  · rw [if_pos m]
    exact ⟨.inr, fun h => h.elim (fun e => e ▸ m) id⟩
  · rw [if_neg m, (perm_ins us (below z us) z).mem_iff, List.mem_cons]
theorem insU_len {us : List Int} {z : Int} : (insU us z).length ≤ us.length + 1 := by
  unfold insU
  by_cases m : z ∈ us
  · rw [if_pos m]
    omega
  · rw [if_neg m, (perm_ins us (below z us) z).length_eq, List.length_cons]
    omega
theorem setF_snoc (ns : List Int) (z : Int) : setF (ns ++ [z]) = insU (setF ns) z := by
  unfold setF
  rw [List.foldl_append]
  rfl
theorem setF_all : ∀ {ns us : List Int}, us.Pairwise (· < ·) → (ns.foldl insU us).Pairwise (· < ·) ∧ (∀ v, v ∈ ns.foldl insU us ↔ v ∈ us ∨ v ∈ ns) ∧ (ns.foldl insU us).length ≤ us.length + ns.length
  | [], us, up => ⟨up, fun v => by simp, by simp⟩
  | z :: r, us, up => by
    obtain ⟨i1, i2, i3⟩ := setF_all (ns := r) (insU_up (z := z) up)
    refine ⟨i1, fun v => ?_, ?_⟩
    · rw [List.foldl_cons, i2 v, insU_mem, List.mem_cons]
      exact ⟨fun h => h.elim (fun h => h.elim (fun h => .inr (.inl h)) .inl) fun h => .inr (.inr h), fun h => h.elim (fun h => .inl (.inr h)) fun h => h.elim (fun h => .inl (.inl h)) .inr⟩
    · rw [List.foldl_cons]
      have := insU_len (us := us) (z := z)
      rw [List.length_cons]
      omega
theorem setF_up (ns : List Int) : (setF ns).Pairwise (· < ·) := (setF_all (ns := ns) List.Pairwise.nil).1
theorem setF_mem (ns : List Int) (v : Int) : v ∈ setF ns ↔ v ∈ ns := by
  rw [show setF ns = ns.foldl insU [] from rfl, (setF_all (ns := ns) List.Pairwise.nil).2.1 v]
  simp
theorem setF_len (ns : List Int) : (setF ns).length ≤ ns.length := by
  have h := (setF_all (ns := ns) List.Pairwise.nil).2.2
  rw [List.length_nil, Nat.zero_add] at h
  exact h
def spNums (K : PySem.W.Frag) (c : Nat) : Sp := fun vs H Q _ => ∃ (p : Addr) (b : Nat) (sp : Bool), vs = [.ref p, .bl sp] ∧ PoolAt K H p b ∧ 200 ≤ b ∧
  ∀ (H' : Hp) (l : Addr) (ns : List Int), But1 p H H' → PoolAt K H' p (b - 200) → H' l = some (.lst (ns.map V.int)) → ns.length < c → (sp = false → ∀ v ∈ ns, 0 ≤ v) → l ≠ p → H l = none → Q (.ref l) H'
/-- the numbers as a set: a new list or tuple (o) -/
def spSet (o : List V → HO) : Sp := fun vs H Q _ => ∃ (l : Addr) (ns : List Int), vs = [.ref l] ∧ H l = some (.lst (ns.map V.int)) ∧ ns.length ≤ 200 ∧ ∀ (H' : Hp) (r : Addr), Same H H' → H' r = some (o ((setF ns).map V.int)) → Q (.ref r) H'
structure TxN (K : PySem.W.Frag) (mg : Str → Option Value) : Prop where
  g__law_pool : mg "_law_pool" = some (.ref (He.ga K "_law_pool"))
  k__law_pool : PySem.W.keepIn K (.ref (He.ga K "_law_pool")) = true
  g__law_draw : mg "_law_draw" = some (.ref (He.ga K "_law_draw"))
  k__law_draw : PySem.W.keepIn K (.ref (He.ga K "_law_draw")) = true
  g__law_numbers : mg "_law_numbers" = some (.ref (He.ga K "_law_numbers"))
  k__law_numbers : PySem.W.keepIn K (.ref (He.ga K "_law_numbers")) = true
  g__law_set : mg "_law_set" = some (.ref (He.ga K "_law_set"))
  k__law_set : PySem.W.keepIn K (.ref (He.ga K "_law_set")) = true
  n_len : mg "len" = none
  n_range : mg "range" = none
  n_abs : mg "abs" = none
  n_int : mg "int" = none
  n_list : mg "list" = none
  n_tuple : mg "tuple" = none
  n_isinstance : mg "isinstance" = none

section
variable {P : Program} {w : World} {K : PySem.W.Frag} {mg : Str → Option Value} {base : Heap}
abbrev s_pool : Stmt := top 8
theorem sc_pool : FnScope ["_law_script"] ["_law_script"] (defScope s_pool) := ⟨rfl, rfl, rfl, by decide +kernel, rfl, by decide +kernel, by decide +kernel⟩
theorem ok_pool {f : Addr} {fd : FuncData} (F : FunD K "_law_pool" "_law_pool" (defArgs s_pool) (defBody s_pool) (defScope s_pool) [] [] f fd) : FnOk P w K mg base CX0 1 f fd ["_law_script"] (spPool K) := by
  refine F.ok sc_pool (fun vs H Q E h => ?_) (fun cdv A outer s H vs Q E hr h => ?_)
  · obtain ⟨a, ns, rfl, _⟩ := h
    rfl
  · obtain ⟨a, ns, rfl, hS, k⟩ := h
    refine ⟨_, PSs.nox (pss_one (ps_ret (pe_lst (pa_cons (pv 0) (pa_cons pe_int (pa_cons pe_int (pa_cons pe_int (pa_cons pe_int pa_nil)))))))), ?_⟩
    refine ⟨_, rfl, (by show 5 ≤ sizeLine; decide), fun p hp => ?_⟩
    exact k _ p hp ⟨a, ns, 0, 0, 0, 7, hS.keep (.upd (nfz_none hp)), upd_same, by omega, by omega, by omega, by omega, by omega, by omega⟩ ⟨_, rfl⟩
abbrev s_draw : Stmt := top 9
theorem sc_draw : FnScope ["_law_pool_here", "_law_limit", "_law_cell", "_law_digit", "_law_mixed"] ["_law_pool_here", "_law_limit"] (defScope s_draw) := ⟨rfl, rfl, rfl, by decide +kernel, rfl, by decide +kernel, by decide +kernel⟩
theorem ok_draw {f : Addr} {fd : FuncData} (F : FunD K "_law_draw" "_law_draw" (defArgs s_draw) (defBody s_draw) (defScope s_draw) [] [] f fd) (T : TxDraw mg) : FnOk P w K mg base CX0 1 f fd ["_law_pool_here", "_law_limit"] (spDraw K) := by
  refine F.ok sc_draw (fun vs H Q E h => ?_) (fun cdv A outer s H vs Q E hr h => ?_)
  · obtain ⟨p, b, lim, rfl, _⟩ := h
    rfl
  · obtain ⟨p, b, lim, rfl, ⟨a, ns, n, i, r, m, hS, hp, n0, nb, i0, r0, m0, m1⟩, l0, l1, k⟩ := h
    refine ⟨_, PSs.nox (pss_cons (ps_asg (pe_op op_add (pe_ix ix_list (pv 0) pe_int (fun _ _ => rfl)) pe_int) (pg_sub (pv 0) pe_int set_list))
    (C8.pss_cut (ps_if (PW.pt (pw_and (pt_cmpR op_eq (pe_ix ix_list (pv 0) pe_int (fun _ _ => rfl)) pe_int (nomark _)) (pw_and1 (pt_cmpR op_lt (pe_ix ix_list (pv 0) pe_int (fun _ _ => rfl)) (pe_callB call_len_seq (by rfl) T.n_len PySem.boot_len (pa_cons (pe_ix ix_list (pv 0) pe_int (fun _ _ => rfl)) pa_nil)) (nomark _))))) (pss_cons (ps_set (i := 2) sc_draw.nd rfl (Or.inl rfl) (pe_callB call_abs (by rfl) T.n_abs (by decide +kernel) (pa_cons (pe_ix ix_list (pe_ix ix_list (pv 0) pe_int (fun _ _ => rfl)) (pe_ix ix_list (pv 0) pe_int (fun _ _ => rfl)) (fun _ _ => rfl)) pa_nil)))
    (pss_cons (ps_asg (pe_op op_add (pe_ix ix_list (pv 0) pe_int (fun _ _ => rfl)) pe_int) (pg_sub (pv 0) pe_int set_list))
    (pss_one (ps_if (pt_cmpR op_ge (pv 2) (pe_op op_pow pe_int pe_int) (nomark _)) (pss_one (ps_asg (pv 2) (pg_sub (pv 0) pe_int set_list))) (pss_one (ps_asg (pe_op op_mod (pe_callTy call_int1 (by rfl) T.n_int (by decide +kernel) (pa_cons (pe_op op_mul (pe_op op_add (pe_op op_add (pe_ix ix_list (pv 0) pe_int (fun _ _ => rfl)) (pv 2)) pe_int) pe_int) pa_nil)) pe_int) (pg_sub (pv 0) pe_int set_list))))))) pss_nil)
    (pss_cons (ps_if (pt_cmpR op_gt (pe_ix ix_list (pv 0) pe_int (fun _ _ => rfl)) pe_int (nomark _)) (pss_cons (ps_set (i := 3) sc_draw.nd rfl (Or.inl rfl) (pe_op op_mod (pe_callTy call_int1 (by rfl) T.n_int (by decide +kernel) (pa_cons (pe_ix ix_list (pv 0) pe_int (fun _ _ => rfl)) pa_nil)) (pv 1)))
    (pss_cons (ps_asg (pe_op op_fdivW (pe_ix ix_list (pv 0) pe_int (fun _ _ => rfl)) (pv 1)) (pg_sub (pv 0) pe_int set_list))
    (pss_one (ps_ret (pv 3))))) pss_nil)
    (pss_cons (ps_set (i := 4) sc_draw.nd rfl (Or.inl rfl) (pe_op op_mod (pe_callTy call_int1 (by rfl) T.n_int (by decide +kernel) (pa_cons (pe_op op_pow (pe_op op_add (pe_ix ix_list (pv 0) pe_int (fun _ _ => rfl)) (pe_op op_mul (pe_ix ix_list (pv 0) pe_int (fun _ _ => rfl)) pe_int)) pe_int) pa_nil)) pe_int))
    (pss_one (ps_ret (pe_op op_mod (pe_callTy call_int1 (by rfl) T.n_int (by decide +kernel) (pa_cons (pe_op op_fdiv (pv 4) pe_int) pa_nil)) (pv 1)))))))), ?_⟩
    -- pool[1] = pool[1] + 1
    refine ⟨_, rfl, p, _, _, _, rfl, rfl, SqL.of hp, rfl, _, _, rfl, rfl, _, rfl, p, _, _, 1, rfl, rfl, hp, rfl, ?_⟩
    have fz : ∀ x, Frz H (upd H p x) := fun x => .upd (nfz_lst hp)
    have hS1 : Scr K (upd H p (.lst ([.ref a, .int n, .int i, .int r, .int m].set 1 (.int (n + 1))))) a ns := hS.keep (fz _)
    -- the test and the draw of a cell: what holds behind it
    refine ⟨fun σ H' => ∃ (c : Option V) (i r m : Int), σ = [some (.ref p), some (.int lim), c, none, none] ∧ Scr K H' a ns ∧ H' p = some (.lst [.ref a, .int (n + 1), .int i, .int r, .int m]) ∧ But p H H' ∧ 0 ≤ i ∧ 0 ≤ r ∧ 0 ≤ m ∧ m < 2147483629, ?_, ?_⟩
    · refine ⟨_, rfl, p, _, _, _, rfl, rfl, SqL.of upd_same, rfl, rfl, _, rfl, ?_⟩
      have keep0 : ∃ (c : Option V) (i' r' m' : Int), (start ["_law_pool_here", "_law_limit", "_law_cell", "_law_digit", "_law_mixed"] [V.ref p, V.int lim]) = [some (.ref p), some (.int lim), c, none, none] ∧ Scr K (upd H p (.lst ([.ref a, .int n, .int i, .int r, .int m].set 1 (.int (n + 1))))) a ns ∧
          (upd H p (.lst ([.ref a, .int n, .int i, .int r, .int m].set 1 (.int (n + 1))))) p = some (.lst [.ref a, .int (n + 1), .int i', .int r', .int m']) ∧ But p H (upd H p (.lst ([.ref a, .int n, .int i, .int r, .int m].set 1 (.int (n + 1))))) ∧ 0 ≤ i' ∧ 0 ≤ r' ∧ 0 ≤ m' ∧ m' < 2147483629 :=
        ⟨none, i, r, m, rfl, hS1, upd_same, But.of, i0, r0, m0, m1⟩
      refine ite2 (fun hr0 => ?_) (fun _ => iteF keep0)
      refine ⟨_, rfl, p, _, _, _, rfl, rfl, SqL.of upd_same, rfl, _, rfl, p, _, _, _, rfl, rfl, SqL.of upd_same, rfl, a, _, rfl, .inl hS1.sq, _, _, rfl, rfl, _, rfl, ?_⟩
      refine ite2 (fun hi => ?_) (fun _ => keep0)
      have hi' : i < ((ns.map V.int).length : Int) := of_decide_eq_true hi
      obtain ⟨v, hv, hm⟩ := ix_there i0 hi'
      obtain ⟨c, hc, rfl⟩ := List.mem_map.mp hm
      -- cell = abs(pool[0][pool[2]])
      refine ⟨_, rfl, p, _, _, _, rfl, rfl, SqL.of upd_same, rfl, _, rfl, p, _, _, _, rfl, rfl, SqL.of upd_same, rfl, a, _, _, _, rfl, rfl, hS1.sq, hv, _, rfl, ?_⟩
      -- pool[2] = pool[2] + 1
      refine ⟨_, rfl, p, _, _, _, rfl, rfl, SqL.of upd_same, rfl, _, _, rfl, rfl, _, rfl, p, _, _, 2, rfl, rfl, upd_same, rfl, ?_⟩
      rw [upd_upd]
      have c0 : 0 ≤ (if c < 0 then -c else c) := by split <;> omega
      generalize (if c < 0 then -c else c) = z at c0 ⊢
      -- if cell >= 10 ** 18
      refine ⟨_, rfl, _, _, rfl, rfl, ⟨by decide, by decide, by decide⟩, _, _, rfl, rfl, _, rfl, ?_⟩
      refine ite2 (fun hz => ?_) (fun hz => ?_)
      · refine ⟨_, rfl, _, rfl, p, _, _, 3, rfl, rfl, upd_same, rfl, ?_⟩
        rw [upd_upd]
        exact ⟨_, i + 1, z, m, rfl, hS.keep (fz _), upd_same, But.of, by omega, by omega, m0, m1⟩
      · have hz' : z < 1000000000000000000 := by
          have q : ¬ ((10 : Int) ^ (18 : Int).toNat ≤ z) := fun y => hz (decide_eq_true y)
          have e : (10 : Int) ^ (18 : Int).toNat = 1000000000000000000 := by decide
          rw [e] at q
          omega
        refine ⟨_, rfl, p, _, _, _, rfl, rfl, SqL.of upd_same, rfl, _, rfl, _, _, rfl, rfl, _, _, rfl, rfl, _, _, rfl, rfl, .inl ⟨by omega, by omega⟩, .inl ⟨_, rfl, ?_⟩⟩
        refine ⟨_, _, rfl, rfl, (by show (0 : Int) < 2147483629; decide), _, rfl, p, _, _, 4, rfl, rfl, upd_same, rfl, ?_⟩
        rw [upd_upd]
        exact ⟨_, i + 1, r, _, rfl, hS.keep (fz _), upd_same, But.of, by omega, r0, Int.emod_nonneg _ (by decide), Int.emod_lt_of_pos _ (by decide)⟩
    · rintro σ H2 ⟨c, i, r, m, rfl, hS2, hp2, bt, i0, r0, m0, m1⟩
      -- if pool[3] > 0
      refine ⟨_, rfl, p, _, _, _, rfl, rfl, SqL.of hp2, rfl, _, _, rfl, rfl, _, rfl, ?_⟩
      refine ite2 (fun hg => ?_) (fun _ => ?_)
      · refine ⟨_, rfl, p, _, _, _, rfl, rfl, SqL.of hp2, rfl, .inl ⟨_, rfl, ?_⟩⟩
        refine ⟨_, rfl, _, _, rfl, rfl, l0, ?_⟩
        refine ⟨_, rfl, p, _, _, _, rfl, rfl, SqL.of hp2, rfl, _, rfl, _, _, rfl, rfl, wide_div l0 l1 (by decide) (by decide), _, rfl, p, _, _, 3, rfl, rfl, hp2, rfl, ?_⟩
        refine ⟨_, rfl, ?_⟩
        exact k _ _ (Int.emod_nonneg _ (by omega)) (Int.emod_lt_of_pos _ l0) ⟨a, ns, n + 1, i, r / lim, m, hS2.keep (.upd (nfz_lst hp2)), upd_same, by omega, by omega, i0, Int.ediv_nonneg r0 (by omega), m0, m1⟩ (bt.trans But.of)
      · -- mixed = int((pool[4] + pool[1] * 7919) ** 3) mod 2147483647
        refine ⟨_, rfl, p, _, _, _, rfl, rfl, SqL.of hp2, rfl, _, rfl, p, _, _, _, rfl, rfl, SqL.of hp2, rfl, _, _, rfl, rfl, .inl ⟨by omega, by omega⟩, _, _, rfl, rfl, _, _, rfl, rfl, ⟨by decide, by decide, by omega⟩, .inl ⟨_, rfl, ?_⟩⟩
        refine ⟨_, _, rfl, rfl, (by show (0 : Int) < 2147483647; decide), ?_⟩
        refine ⟨_, rfl, _, _, rfl, rfl, ⟨by decide, by decide⟩, .inl ⟨_, rfl, ?_⟩⟩
        refine ⟨_, rfl, _, _, rfl, rfl, l0, ?_⟩
        exact k _ _ (Int.emod_nonneg _ (by omega)) (Int.emod_lt_of_pos _ l0) ⟨a, ns, n + 1, i, r, m, hS2, hp2, by omega, by omega, i0, r0, m0, m1⟩ bt
end
section
variable {P : Program} {w : World} {K : PySem.W.Frag} {mg : Str → Option Value} {base : Heap}
abbrev s_numbers : Stmt := top 10
theorem sc_numbers : FnScope ["_law_pool_here", "_law_spoils", "_law_numbers_here", "_law_k", "_law_number"] ["_law_pool_here", "_law_spoils"] (defScope s_numbers) := ⟨rfl, rfl, rfl, by decide +kernel, rfl, by decide +kernel, by decide +kernel⟩
theorem ok_numbers {fd : FuncData} (F : FunD K "_law_numbers" "_law_numbers" (defArgs s_numbers) (defBody s_numbers) (defScope s_numbers) [] [] (He.ga K "_law_numbers") fd) (T : TxN K mg) (d_draw : Okd P w K mg base CX0 1 (He.ga K "_law_draw") ["_law_pool_here", "_law_limit"] (spDraw K)) : FnOk P w K mg base CX0 2 (He.ga K "_law_numbers") fd ["_law_pool_here", "_law_spoils"] (spNums K 13) := by
  obtain ⟨fd_draw, G_draw, b_draw⟩ := d_draw
  refine F.ok sc_numbers (fun vs H Q E h => by obtain ⟨p, b, sp, rfl, _⟩ := h; rfl) (fun cdv A outer s H vs Q E hr h => ?_)
  obtain ⟨p, b, sp, rfl, P, hb, q⟩ := h
  refine ⟨_, PSs.nox (pss_cons (ps_set (i := 2) sc_numbers.nd rfl (Or.inl rfl) (pe_lst pa_nil))
    (pss_cons (ps_for PassesOwn.never rfl (pi_range1 rfl T.n_range (pa_cons (pe_call G_draw (hr.mono (by decide)) (by rfl) T.g__law_draw T.k__law_draw b_draw .nil pass0 (pa_cons (pv 0) (pa_cons pe_int pa_nil))) pa_nil)) (pg_name (i := 3) sc_numbers.nd rfl (Or.inl rfl))
      (pss_cons (ps_set (i := 4) sc_numbers.nd rfl (Or.inl rfl) (pe_call G_draw (hr.mono (by decide)) (by rfl) T.g__law_draw T.k__law_draw b_draw .nil pass0 (pa_cons (pv 0) (pa_cons pe_int pa_nil))))
    (C8.pss_cut (ps_if (pt_cmpR op_eq (pe_call G_draw (hr.mono (by decide)) (by rfl) T.g__law_draw T.k__law_draw b_draw .nil pass0 (pa_cons (pv 0) (pa_cons pe_int pa_nil))) pe_int (nomark _)) (pss_one (ps_set (i := 4) sc_numbers.nd rfl (Or.inl rfl) (pe_call G_draw (hr.mono (by decide)) (by rfl) T.g__law_draw T.k__law_draw b_draw .nil pass0 (pa_cons (pv 0) (pa_cons (pe_op op_pow pe_int pe_int) pa_nil))))) pss_nil)
    (C8.pss_cut (ps_if (PW.pt (pw_and (pt_cmpR op_gt (pv 3) pe_int (nomark _)) (pw_and1 (pt_cmpR op_eq (pe_call G_draw (hr.mono (by decide)) (by rfl) T.g__law_draw T.k__law_draw b_draw .nil pass0 (pa_cons (pv 0) (pa_cons pe_int pa_nil))) pe_int (nomark _))))) (pss_one (ps_set (i := 4) sc_numbers.nd rfl (Or.inl rfl) (pe_ix ix_list (pv 2) (pe_call G_draw (hr.mono (by decide)) (by rfl) T.g__law_draw T.k__law_draw b_draw .nil pass0 (pa_cons (pv 0) (pa_cons (pv 3) pa_nil))) (fun _ _ => rfl)))) pss_nil)
    (C8.pss_cut (ps_if (PW.pt (pw_and (pt_val (pv 1)) (pw_and1 (pt_cmpR op_eq (pe_call G_draw (hr.mono (by decide)) (by rfl) T.g__law_draw T.k__law_draw b_draw .nil pass0 (pa_cons (pv 0) (pa_cons pe_int pa_nil))) pe_int (nomark _))))) (pss_one (ps_set (i := 4) sc_numbers.nd rfl (Or.inl rfl) (pe_op op_sub (pe_un un_neg pe_int) (pe_call G_draw (hr.mono (by decide)) (by rfl) T.g__law_draw T.k__law_draw b_draw .nil pass0 (pa_cons (pv 0) (pa_cons (pe_ix ix_list (pe_lst (pa_cons pe_int (pa_cons (pe_op op_pow pe_int pe_int) pa_nil))) (pe_call G_draw (hr.mono (by decide)) (by rfl) T.g__law_draw T.k__law_draw b_draw .nil pass0 (pa_cons (pv 0) (pa_cons pe_int pa_nil))) (fun _ _ => rfl)) pa_nil)))))) pss_nil)
    (pss_one (ps_expr (pe_bm PySem.F.plainAttrs_list PySem.F.slot_list_append PySem.F.type_list_append mt_append (pv 2) (pa_cons (pv 4) pa_nil)))))))))
    (pss_one (ps_ret (pv 2))))), ?_⟩
  have small : ∀ {z : Int}, 0 ≤ z → z ≤ 1000 → z.natAbs < 2 ^ 200 := fun {z} h0 h1 => Nat.lt_of_le_of_lt (show z.natAbs ≤ 1000 by omega) (by decide)
  refine ⟨(by show 0 ≤ sizeLine; decide), fun l hl => ?_⟩
  have hlp : l ≠ p := P.ne_new hl
  refine ⟨_, rfl, p, b - 1, 13, rfl, (P.new hl).less (by omega), by decide, by decide, fun H1 d d0 d1 P1 B1 => ?_⟩
  refine ⟨d, rfl, by omega, by omega, for_range (lo := 0) (n := d.toNat) (fun i σ' H' => ∃ (v3 v4 : Option V) (ns : List Int), σ' = [some (.ref p), some (.bl sp), some (.ref l), v3, v4] ∧ But1 p H H' ∧ PoolAt K H' p (b - 2 - 10 * i) ∧ H' l = some (.lst (ns.map V.int)) ∧ ns.length = i ∧ (sp = false → ∀ v ∈ ns, 0 ≤ v))
    ⟨none, none, [], rfl, ((But1.refl p H).new hl).trans B1.one, P1.less (by omega), B1.one l _ hlp upd_same, rfl, fun _ _ z => nomatch z⟩ ?_ ?_⟩
  · rintro i σ1 H2 hi ⟨v3, v4, ns, rfl, b2, P2, h2, l2, r2⟩
    have i13 : i < 13 := by omega
    refine ⟨_, rfl, p, b - 3 - 10 * i, 8, rfl, P2.less (by omega), by decide, by decide, fun H3 z z0 z1 P3 B3 => ?_⟩
    have b3 := b2.trans B3.one
    have h3 := B3.one l _ hlp h2
    refine ⟨fun σ' H' => ∃ z : Int, σ' = [some (.ref p), some (.bl sp), some (.ref l), some (.int (0 + (i : Int))), some (.int z)] ∧ 0 ≤ z ∧ But1 p H H' ∧ PoolAt K H' p (b - 5 - 10 * i) ∧ H' l = some (.lst (ns.map V.int)), ?_, ?_⟩
    · refine ⟨_, rfl, p, b - 4 - 10 * i, 6, rfl, P3.less (by omega), by decide, by decide, fun H4 d d0 d1 P4 B4 => ⟨rfl, _, rfl, ?_⟩⟩
      have b4 := b3.trans B4.one
      have h4 := B4.one l _ hlp h3
      refine iteB (fun _ => ?_) (fun _ => ⟨z, rfl, z0, b4, P4.less (by omega), h4⟩)
      refine ⟨_, rfl, _, _, rfl, rfl, ⟨by decide, by decide, by decide⟩, p, b - 5 - 10 * i, _, rfl, P4.less (by omega), by decide, by decide, fun H5 y y0 y1 P5 B5 => ?_⟩
      exact ⟨y, rfl, y0, b4.trans B5.one, P5.less (by omega), B5.one l _ hlp h4⟩
    clear z z0 z1 P3 B3 b3 h3 H3
    rintro σ3 H3 ⟨z, rfl, z0, b3, P3, h3⟩
    refine ⟨fun σ' H' => ∃ z : Int, σ' = [some (.ref p), some (.bl sp), some (.ref l), some (.int (0 + (i : Int))), some (.int z)] ∧ (sp = false → 0 ≤ z) ∧ But1 p H H' ∧ PoolAt K H' p (b - 7 - 10 * i) ∧ H' l = some (.lst (ns.map V.int)), ?_, ?_⟩
    · refine ⟨_, rfl, _, _, rfl, rfl, _, rfl, ?_⟩
      refine iteB (fun hk => ?_) (fun _ => iteF ⟨z, rfl, fun _ => z0, b3, P3.less (by omega), h3⟩)
      have k0 : (0 : Int) < 0 + (i : Int) := of_decide_eq_true hk
      refine ⟨_, rfl, p, b - 6 - 10 * i, 5, rfl, P3.less (by omega), by decide, by decide, fun H4 d d0 d1 P4 B4 => ⟨rfl, _, rfl, ?_⟩⟩
      have b4 := b3.trans B4.one
      have h4 := B4.one l _ hlp h3
      refine iteB (fun _ => ?_) (fun _ => ⟨z, rfl, fun _ => z0, b4, P4.less (by omega), h4⟩)
      refine ⟨_, rfl, _, rfl, _, rfl, p, b - 7 - 10 * i, _, rfl, P4.less (by omega), k0, small (by omega) (by omega), fun H5 y y0 y1 P5 B5 => ?_⟩
      have h5 := B5.one l _ hlp h4
      have ly : y.toNat < ns.length := by omega
      refine ⟨l, _, y, _, rfl, rfl, SqL.of h5, atI_pos (v := .int ns[y.toNat]) y0 (by rw [List.getElem?_map, List.getElem?_eq_getElem ly]; rfl), ?_⟩
      exact ⟨ns[y.toNat], rfl, fun e => r2 e _ (List.getElem_mem ly), b4.trans B5.one, P5.less (by omega), h5⟩
    clear z z0 P3 b3 h3 H3
    rintro σ3 H3 ⟨z, rfl, z0, b3, P3, h3⟩
    refine ⟨fun σ' H' => ∃ z : Int, σ' = [some (.ref p), some (.bl sp), some (.ref l), some (.int (0 + (i : Int))), some (.int z)] ∧ (sp = false → 0 ≤ z) ∧ But1 p H H' ∧ PoolAt K H' p (b - 12 - 10 * i) ∧ H' l = some (.lst (ns.map V.int)), ?_, ?_⟩
    · have same : ∃ z' : Int, ([some (.ref p), some (.bl sp), some (.ref l), some (.int (0 + (i : Int))), some (.int z)] : L2.St) = [some (.ref p), some (.bl sp), some (.ref l), some (.int (0 + (i : Int))), some (.int z')] ∧ (sp = false → 0 ≤ z') ∧ But1 p H H3 ∧ PoolAt K H3 p (b - 12 - 10 * i) ∧ H3 l = some (.lst (ns.map V.int)) := ⟨z, rfl, z0, b3, P3.less (by omega), h3⟩
      refine ⟨_, rfl, sp, rfl, ?_⟩
      cases sp with
      | false => exact iteF same
      | true =>
      refine iteT ?_
      refine ⟨_, rfl, p, b - 8 - 10 * i, 6, rfl, P3.less (by omega), by decide, by decide, fun H4 d d0 d1 P4 B4 => ⟨rfl, _, rfl, ?_⟩⟩
      have b4 := b3.trans B4.one
      have h4 := B4.one l _ hlp h3
      refine iteB (fun _ => ?_) (fun _ => ⟨z, rfl, z0, b4, P4.less (by omega), h4⟩)
      refine ⟨_, rfl, _, rfl, _, _, rfl, rfl, ⟨by decide, by decide, by decide⟩, (by show 2 ≤ sizeLine; decide), fun l2 hl2 => ?_⟩
      have s5 := same_upd (o := .lst ([(3 : Int), 10 ^ (30 : Int).toNat].map V.int)) (Same.refl H4) hl2
      have b5 : But1 p H (upd H4 l2 (.lst ([(3 : Int), 10 ^ (30 : Int).toNat].map V.int))) := b4.trans fun c o _ h => s5 c o h
      refine ⟨_, rfl, p, b - 9 - 10 * i, 2, rfl, (P4.same s5).less (by omega), by decide, by decide, fun H6 y y0 y1 P6 B6 => ?_⟩
      have h6 : H6 l2 = some (.lst ([(3 : Int), 10 ^ (30 : Int).toNat].map V.int)) := B6.one l2 _ (P4.ne_new hl2) upd_same
      have hl6 := B6.one l _ hlp (s5 _ _ h4)
      have b6 := b5.trans B6.one
      obtain rfl | rfl : y = 0 ∨ y = 1 := by omega
      · refine ⟨l2, _, 0, .int 3, rfl, rfl, SqL.of h6, rfl, p, b - 10 - 10 * i, 3, rfl, P6.less (by omega), by decide, by decide, fun H7 w w0 w1 P7 B7 => ?_⟩
        exact ⟨_, _, rfl, rfl, -1 - w, rfl, fun e => Bool.noConfusion e, b6.trans B7.one, P7.less (by omega), B7.one l _ hlp hl6⟩
      · refine ⟨l2, _, 1, .int (10 ^ (30 : Int).toNat), rfl, rfl, SqL.of h6, rfl, p, b - 10 - 10 * i, _, rfl, P6.less (by omega), by decide, by decide, fun H7 w w0 w1 P7 B7 => ?_⟩
        exact ⟨_, _, rfl, rfl, -1 - w, rfl, fun e => Bool.noConfusion e, b6.trans B7.one, P7.less (by omega), B7.one l _ hlp hl6⟩
    clear z z0 P3 b3 h3 H3
    rintro σ3 H3 ⟨z, rfl, z0, b3, P3, h3⟩
    refine ⟨_, rfl, .inl ⟨rfl, _, SqL.of h3⟩, _, rfl, l, _, _, rfl, rfl, h3, ?_, ?_⟩
    · rw [List.length_map]
      exact Nat.lt_of_le_of_lt (show ns.length ≤ 100 by omega) (by decide)
    · refine ⟨_, _, ns ++ [z], rfl, b3.new hl, (P3.less (by omega)).set h3 hlp, by rw [upd_same, List.map_append]; rfl, by rw [List.length_append, List.length_singleton]; omega, fun e v hv => ?_⟩
      rcases List.mem_append.mp hv with hv | hv
      · exact r2 e v hv
      · rw [List.mem_singleton.mp hv]
        exact z0 e
  rintro σ1 H2 ⟨v3, v4, ns, rfl, b2, P2, h2, l2, r2⟩
  exact ⟨_, rfl, q H2 l ns b2 (P2.less (by omega)) h2 (by omega) r2 hlp hl⟩
abbrev s_set : Stmt := top 11
theorem sc_set : FnScope ["_law_numbers_here", "_law_found", "_law_number", "_law_one"] ["_law_numbers_here"] (defScope s_set) := ⟨rfl, rfl, rfl, by decide +kernel, rfl, by decide +kernel, by decide +kernel⟩
theorem ok_set {fd : FuncData} (F : FunD K "_law_set" "_law_set" (defArgs s_set) (defBody s_set) (defScope s_set) [] [] (He.ga K "_law_set") fd) (T : TxN K mg) : FnOk P w K mg base CX0 1 (He.ga K "_law_set") fd ["_law_numbers_here"] (spSet .lst) := by
  refine F.ok sc_set (fun vs H Q E h => by obtain ⟨l, ns, rfl, _⟩ := h; rfl) (fun cdv A outer s H vs Q E hr h => ?_)
  obtain ⟨l, ns, rfl, hl, few, q⟩ := h
  refine ⟨_, PSs.nox (pss_cons (ps_set (i := 1) sc_set.nd rfl (Or.inl rfl) (pe_lst pa_nil))
    (pss_cons (ps_for PassesOwn.never rfl (pi_list (pv 0)) (pg_name (i := 2) sc_set.nd rfl (Or.inr rfl))
      (pss_one (ps_if (pt_cmpR op_notIn_seq (pv 2) (pv 1) (by first | exact nomark _ | rfl)) (pss_one (ps_expr (pe_bm PySem.F.plainAttrs_list PySem.F.slot_list_insert PySem.F.type_list_insert mt_insert (pv 1) (pa_cons (pe_callB call_len_seq (by rfl) T.n_len PySem.boot_len (pa_cons (pe_lc (own := [("_law_one", 3)]) (g := gName 3)  rfl sc_set.nd (pi_list (pv 1)) (blkOk_by (own := [("_law_one", 3)]) (N := ["_law_numbers_here", "_law_found", "_law_number", "_law_one"]) (sc := defScope s_set) (by decide +kernel)) (fun _ _ _ _ _ => (pg_name (i := 3) sc_set.nd rfl (Or.inl rfl))) (fun _ _ _ _ _ => (pts_one (pt_cmpR op_lt (pv 3) (pv 2) (nomark _)))) (fun _ _ _ _ _ => (pv 3))) pa_nil)) (pa_cons (pv 2) pa_nil))))) pss_nil)))
    (pss_one (ps_ret (pv 1))))), ?_⟩
  refine ⟨(by show 0 ≤ sizeLine; decide), fun f hf => ?_⟩
  have hf0 : H f = none := hf
  refine ⟨_, rfl, l, rfl, ⟨_, SqL.of ((same_upd (Same.refl H) hf) _ _ hl)⟩, for_list (K := K) (a := l) (xs := ns.map V.int) (fun i σ' H' => ∃ v2 : Option V, σ' = [some (.ref l), some (.ref f), v2, none] ∧ Same H H' ∧ H' f = some (.lst ((setF (ns.take i)).map V.int)))
    ⟨none, rfl, same_upd (Same.refl H) hf, upd_same⟩ (fun i σ' H' _ h => by obtain ⟨_, _, s, _⟩ := h; exact SqL.of (s _ _ hl)) ?_ ?_⟩
  · rintro i x σ1 H1 hi ⟨v2, rfl, s1, h1⟩
    obtain ⟨z, hz, rfl⟩ := int_at hi
    have lt := (List.getElem?_eq_some_iff.mp hz).1
    have nx : setF (ns.take (i + 1)) = insU (setF (ns.take i)) z := by rw [take_next hz, setF_snoc]
    have lu : (setF (ns.take i)).length ≤ 200 := by
      have := setF_len (ns.take i)
      rw [List.length_take] at this
      omega
    revert h1 nx lu
    generalize setF (ns.take i) = us
    intro h1 nx lu
    refine ⟨_, rfl, _, rfl, f, _, rfl, .inl (SqL.of h1), rfl, flat_ints us, _, rfl, ?_⟩
    show if (!inV (V.int z) (us.map V.int)) = true then _ else _
    rw [inV_ints]
    by_cases m : z ∈ us
    · rw [decide_eq_true m]
      refine iteF ⟨_, rfl, s1, ?_⟩
      rw [nx, h1]
      unfold insU
      rw [if_pos m]
    rw [decide_eq_false m]
    refine iteT ?_
    refine ⟨_, rfl, .inl ⟨rfl, _, SqL.of h1⟩, ?_⟩
    refine ⟨_, rfl, f, rfl, ⟨_, SqL.of h1⟩, fun D hD => lc_list (K := K) (a := f) (xs := us.map V.int) (fun j H' => ∃ cs : List Int, Same H1 H' ∧ H' D = some (.lst (cs.map V.int)) ∧ cs = (us.take j).filter fun v => decide (v < z))
      ⟨[], same_upd (Same.refl H1) hD, upd_same, rfl⟩ (fun j H' _ h => by obtain ⟨_, s, _⟩ := h; exact SqL.of (s _ _ h1)) ?_ ?_⟩
    · rintro j x H2 hj ⟨cs, s2, hc, ec⟩
      obtain ⟨y, hy, rfl⟩ := int_at hj
      refine ⟨rfl, _, rfl, _, rfl, _, _, rfl, rfl, _, rfl, ?_⟩
      have lc : cs.length ≤ 200 := by
        have := List.length_filter_le (fun v => decide (v < z)) (us.take j)
        rw [← ec, List.length_take] at this
        omega
      refine iteB (fun yes => ⟨_, rfl, _, hc, ?_, cs ++ [y], fun b o h => ?_, ?_, ?_⟩) (fun no => ⟨cs, s2, hc, ?_⟩)
      · rw [List.length_map]
        exact Nat.lt_of_le_of_lt lc (by decide)
      · rw [upd_ne (ne_of_none h hD)]
        exact s2 b o h
      · rw [upd_same, List.map_append]
        rfl
      · rw [take_next hy, List.filter_append, ← ec, List.filter_cons_of_pos (by exact yes)]
        rfl
      · rw [take_next hy, List.filter_append, ← ec, List.filter_cons_of_neg (by rw [no]; simp)]
        simp
    rintro H2 ⟨cs, s2, hc, ec⟩
    rw [List.length_map, List.take_length] at ec
    refine ⟨D, _, rfl, .inl (SqL.of hc), ?_⟩
    have lcs : cs.length = below z us := by rw [ec]; rfl
    have lb : below z us ≤ us.length := List.length_filter_le _ us
    rw [List.length_map, lcs]
    refine ⟨_, rfl, f, _, (below z us : Nat), _, rfl, rfl, s2 _ _ h1, ?_, by omega, by omega, ?_⟩
    · rw [List.length_map]
      exact Nat.lt_of_le_of_lt lu (by decide)
    refine ⟨_, rfl, fun b o h => ?_, ?_⟩
    · rw [upd_ne (ne_of_none h hf0)]
      exact s2 _ _ (s1 b o h)
    · rw [upd_same, nx]
      unfold insU
      rw [if_neg m, Int.toNat_natCast, List.map_append, List.map_append, List.map_take, List.map_drop]
      rfl
  rintro σ1 H1 ⟨v2, rfl, s1, h1⟩
  rw [List.length_map, List.take_length] at h1
  exact ⟨_, rfl, q H1 f s1 h1⟩
end
structure TxP (K : PySem.W.Frag) (mg : Str → Option Value) : Prop where
  g__law_built : mg "_law_built" = some (.ref (He.ga K "_law_built"))
  k__law_built : PySem.W.keepIn K (.ref (He.ga K "_law_built")) = true
  g__law_same : mg "_law_same" = some (.ref (He.ga K "_law_same"))
  k__law_same : PySem.W.keepIn K (.ref (He.ga K "_law_same")) = true
  g_law : mg "law" = some (.ref (He.ga K "law"))
  k_law : PySem.W.keepIn K (.ref (He.ga K "law")) = true
  g_Lot : mg "Lot" = some (.ref (He.ga K "Lot"))
  cl_Lot : Cls K (He.ga K "Lot")
  mk_Lot : Mk K (He.ga K "Lot") (He.ma K (He.ga K "Lot") "__init__")
  o_len : Own1 K (He.ga K "Lot") (He.ma K (He.ga K "Lot") "__len__") "__len__"
  o_eq : Own1 K (He.ga K "Lot") (He.ma K (He.ga K "Lot") "__eq__") "__eq__"
  na_places : NoAttr K (He.ga K "Lot") "places"
  g_SeatError : mg "SeatError" = some (.ref (He.ga K "SeatError"))
  g_BadPlace : mg "BadPlace" = some (.ref (He.ga K "BadPlace"))
  x_BadPlace : PySem.W.exmOne K (.ref (He.ga K "BadPlace")) (.ref (He.ga K "BadPlace")) = some true
  xc_BadPlace : ExcC K (He.ga K "BadPlace")
  e_BadPlace : PySem.W.kitOne K (.ref (He.ga K "BadPlace")) (.ref (He.ga K "SeatError")) = some true
  o_in : Own1 K (He.ga K "Lot") (He.ma K (He.ga K "Lot") "__contains__") "__contains__"
  o_iter : Own1 K (He.ga K "Lot") (He.ma K (He.ga K "Lot") "__iter__") "__iter__"
section
variable {P : Program} {w : World} {K : PySem.W.Frag} {mg : Str → Option Value} {base : Heap}

theorem eqv_nil (ns : List Int) : PyData.eqv (.list (ns.map PyData.int)) (.list []) = decide (ns = []) := by
  cases ns with
  | nil => rfl
  | cons a r => rfl
/-- a lot with these places -/
structure LotAt (K : PySem.W.Frag) (H : Hp) (a : Addr) (us : List Int) : Prop where
  at_ : ∃ dx tx : Addr, H a = some (.ins (He.ga K "Lot") dx [("places", .ref tx)]) ∧ SqT K H tx (us.map V.int)
theorem LotAt.same {K : PySem.W.Frag} {H H' : Hp} {a : Addr} {us : List Int} (h : LotAt K H a us) (s : Same H H') : LotAt K H' a us := by
  obtain ⟨dx, tx, h1, h2⟩ := h.at_
  exact ⟨dx, tx, s _ _ h1, h2.ext s⟩
def spLotLen (K : PySem.W.Frag) : Sp := fun vs H Q _ => ∃ (a : Addr) (us : List Int), vs = [.ref a] ∧ LotAt K H a us ∧ us.length < 1000 ∧ ∀ H', Same H H' → Q (.int (us.length : Nat)) H'
def spLotIn (K : PySem.W.Frag) : Sp := fun vs H Q _ => ∃ (a : Addr) (v : Int) (us : List Int), vs = [.ref a, .int v] ∧ LotAt K H a us ∧ us.length < 1000 ∧ ∀ H', Same H H' → Q (.bl (decide (v ∈ us))) H'
def spSame (K : PySem.W.Frag) : Sp := fun vs H Q _ => ∃ (a l : Addr) (ns : List Int), vs = [.ref a, .ref l] ∧ LotAt K H a (setF ns) ∧ H l = some (.lst (ns.map V.int)) ∧ ns.length ≤ 100 ∧ ∀ H', Same H H' → Q (.bl true) H'
abbrev s_same : Stmt := top 13
theorem sc_same : FnScope ["_law_lot", "_law_numbers_here", "_law_due", "_law_asked", "_law_number", "_law_place"] ["_law_lot", "_law_numbers_here"] (defScope s_same) := ⟨rfl, rfl, rfl, by decide +kernel, rfl, by decide +kernel, by decide +kernel⟩
theorem ok_same {fd : FuncData} (F : FunD K "_law_same" "_law_same" (defArgs s_same) (defBody s_same) (defScope s_same) [] [] (He.ga K "_law_same") fd) (T : TxN K mg) (Y : TxP K mg) (d_set : Okd P w K mg base CX0 1 (He.ga K "_law_set") ["_law_numbers_here"] (spSet .lst)) (d_len : Okd P w K mg base CX0 1 (He.ma K (He.ga K "Lot") "__len__") ["self"] (spLotLen K)) (d_in : Okd P w K mg base CX0 1 (He.ma K (He.ga K "Lot") "__contains__") ["self", "place"] (spLotIn K)) {fd_it : FuncData} (G_it : FnN P w K mg base CX0 1 (He.ma K (He.ga K "Lot") "__iter__") fd_it ["self"] (spIterN (He.ga K "Lot") "places" K)) (b_it : L2.Binds K fd_it ["self"] []) : FnOk P w K mg base CX0 3 (He.ga K "_law_same") fd ["_law_lot", "_law_numbers_here"] (spSame K) := by
  obtain ⟨fd_set, G_set, b_set⟩ := d_set
  obtain ⟨fd_len, G_len, b_len⟩ := d_len
  obtain ⟨fd_in, G_in, b_in⟩ := d_in
  refine F.ok sc_same (fun vs H Q E h => by obtain ⟨a, l, ns, rfl, _⟩ := h; rfl) (fun cdv A outer s H vs Q E hr h => ?_)
  obtain ⟨a, l, ns, rfl, hA, hl, few, q⟩ := h
  refine ⟨_, PSs.nox (pss_cons (ps_set (i := 2) sc_same.nd rfl (Or.inr rfl) (pe_call G_set (hr.mono (by decide)) (by rfl) T.g__law_set T.k__law_set b_set .nil pass0 (pa_cons (pv 1) pa_nil)))
    (pss_cons (ps_if (PW.pt (pw_or (pt_cmpR (op_neD hr.units) (pe_fld (pv 0) rfl) (pe_callTy call_tupleQ (by rfl) T.n_tuple (by decide +kernel) (pa_cons (pv 2) pa_nil)) (nomark _)) (pw_or (pt_cmpR op_ne (pe_callB (call_lenOwn G_len (hr.mono (by decide)) Y.o_len b_len pass0) (by rfl) T.n_len PySem.boot_len (pa_cons (pv 0) pa_nil)) (pe_callB call_len_seq (by rfl) T.n_len PySem.boot_len (pa_cons (pv 2) pa_nil)) (nomark _)) (pw_or1 (pt_cmpR (op_neD hr.units) (pe_lc (own := [("_law_place", 5)]) (g := gName 5) (tt := tYes) rfl sc_same.nd (pi_own (pv 0) G_it (hr.mono (by decide)) Y.o_iter b_it) (blkOk_by (own := [("_law_place", 5)]) (N := ["_law_lot", "_law_numbers_here", "_law_due", "_law_asked", "_law_number", "_law_place"]) (sc := defScope s_same) (by decide +kernel)) (fun _ _ _ _ _ => (pg_name (i := 5) sc_same.nd rfl (Or.inl rfl))) (fun _ _ _ _ _ => pts_nil) (fun _ _ _ _ _ => (pv 5))) (pv 2) (nomark _)))))) (pss_one (ps_ret pe_bl)) pss_nil)
    (pss_cons (ps_set (i := 3) sc_same.nd rfl (Or.inl rfl) (pe_op op_cat (pe_op op_cat (pe_op op_cat (pe_listRg rfl rfl T.n_list (prg_2 rfl T.n_range (pe_un un_neg pe_int) pe_int)) (pv 2)) (pe_lc (own := [("_law_number", 4)]) (g := gName 4) (tt := tYes) rfl sc_same.nd (pi_list (pv 2)) (blkOk_by (own := [("_law_number", 4)]) (N := ["_law_lot", "_law_numbers_here", "_law_due", "_law_asked", "_law_number", "_law_place"]) (sc := defScope s_same) (by decide +kernel)) (fun _ _ _ _ _ => (pg_name (i := 4) sc_same.nd rfl (Or.inl rfl))) (fun _ _ _ _ _ => pts_nil) (fun _ _ _ _ _ => (pe_op op_add (pv 4) pe_int)))) (pe_lst (pa_cons (pe_un un_neg (pe_op op_pow pe_int pe_int)) pa_nil))))
    (pss_one (ps_ret (pe_cmpR (op_eqD hr.units) (pe_lc (own := [("_law_number", 4)]) (g := gName 4)  rfl sc_same.nd (pi_list (pv 3)) (blkOk_by (own := [("_law_number", 4)]) (N := ["_law_lot", "_law_numbers_here", "_law_due", "_law_asked", "_law_number", "_law_place"]) (sc := defScope s_same) (by decide +kernel)) (fun _ _ _ _ _ => (pg_name (i := 4) sc_same.nd rfl (Or.inl rfl))) (fun _ _ _ _ _ => (pts_one (pt_cmpR op_ne (pe_cmpR (op_inOwn G_in (hr.mono (by decide)) Y.o_in b_in pass0) (pv 4) (pv 0) (by first | exact nomark _ | rfl)) (pe_cmpR (r := rIn K false) op_in_seq (pv 4) (pv 2) (by first | exact nomark _ | rfl)) (nomark _)))) (fun _ _ _ _ _ => (pv 4))) (pe_lst pa_nil) (nomark _))))))), ?_⟩
  have big : ∀ {k : Nat}, k ≤ 1000 → k ≤ sizeLine := fun {k} h => Nat.le_trans h (by decide)
  have lS := setF_len ns
  refine ⟨_, rfl, l, ns, rfl, hl, by omega, fun H1 u s1 hu => ?_⟩
  generalize setF ns = us at hA hu lS
  have A1 := hA.same s1
  obtain ⟨dx, tx, w1, w2⟩ := A1.at_
  -- places
  refine ⟨_, rfl, a, _, dx, _, _, rfl, w1, Y.cl_Lot, Y.na_places, rfl, ?_⟩
  refine ⟨_, rfl, u, _, rfl, .inl hu, fun tu H2 s2 htu => ?_⟩
  refine ⟨.tuple (us.map PyData.int), .tuple (us.map PyData.int), .tup (w2.ext s2) (dp_ints us), .tup (SqT.of htu) (dp_ints us), shaped_ints us, shaped_ints us, _, rfl, ?_⟩
  rw [eqv_self (shaped_ints us)]
  refine iteF ?_
  -- len
  refine ⟨_, rfl, a, dx, _, rfl, s2 _ _ w1, a, us, rfl, A1.same s2, by omega, fun H3 s3 => ⟨_, rfl, ⟨by omega, by omega⟩, ?_⟩⟩
  have s13 := s2.trans s3
  refine ⟨_, rfl, u, _, rfl, .inl (SqL.of (s13 _ _ hu)), ?_⟩
  rw [List.length_map]
  refine ⟨rfl, _, rfl, ?_⟩
  rw [decide_eq_true (rfl : V.int (us.length : Nat) = V.int (us.length : Nat))]
  refine iteF ?_
  -- the walk
  refine ⟨_, rfl, a, dx, tx, _, _, rfl, s13 _ _ w1, rfl, w2.ext s13, fun D hD => lc_tup (K := K) (a := tx) (xs := us.map V.int) (fun j H' => Same H3 H' ∧ H' D = some (.lst ((us.take j).map V.int)))
    ⟨same_upd (Same.refl H3) hD, upd_same⟩ (fun j H' _ h => (w2.ext s13).ext h.1) ?_ ?_⟩
  · rintro j x H4 hj ⟨s4, h4⟩
    obtain ⟨y, hy, rfl⟩ := int_at hj
    refine ⟨rfl, _, rfl, _, h4, ?_, fun b o h => ?_, ?_⟩
    · rw [List.length_map, List.length_take]
      exact Nat.lt_of_le_of_lt (show min j us.length ≤ 200 by omega) (by decide)
    · rw [upd_ne (ne_of_none h hD)]
      exact s4 b o h
    · rw [upd_same, take_next hy, List.map_append]
      rfl
  rintro H4 ⟨s4, h4⟩
  rw [List.length_map, List.take_length] at h4
  have s14 := s13.trans s4
  refine ⟨_, rfl, .list (us.map PyData.int), .list (us.map PyData.int), .lst (SqL.of h4) (dp_ints us), .lst (SqL.of (s14 _ _ hu)) (dp_ints us), shaped_lints us, shaped_lints us, _, rfl, ?_⟩
  rw [eqv_self (shaped_lints us)]
  refine iteF ?_
  -- what is asked
  obtain ⟨rs, ers, lrs⟩ : ∃ rs : List Int, rgV (-2) 10 = rs.map V.int ∧ rs.length = 12 := ⟨[-2, -1, 0, 1, 2, 3, 4, 5, 6, 7, 8, 9], by rfl, rfl⟩
  refine ⟨_, rfl, -2, 10, rfl, rfl, ⟨by omega, by omega, by omega, by omega, by decide⟩, fun l1 h1 => ?_⟩
  rw [ers]
  have s5 := same_upd (o := .lst (rs.map V.int)) s14 h1
  refine ⟨_, rfl, l1, u, _, _, rfl, rfl, upd_same, s5 _ _ hu, by rw [List.length_map, List.length_map]; exact big (by omega), fun l2 h2 => ?_⟩
  have s6 := same_upd (o := .lst (rs.map V.int ++ us.map V.int)) s5 h2
  have k2 : (upd (upd H4 l1 (.lst (rs.map V.int))) l2 (.lst (rs.map V.int ++ us.map V.int))) l2 = some (.lst ((rs ++ us).map V.int)) := by rw [upd_same, List.map_append]
  revert s6 k2
  generalize upd (upd H4 l1 (.lst (rs.map V.int))) l2 (.lst (rs.map V.int ++ us.map V.int)) = H6
  intro s6 k2
  refine ⟨_, rfl, u, rfl, ⟨_, SqL.of (s6 _ _ hu)⟩, fun D2 hD2 => lc_list (K := K) (a := u) (xs := us.map V.int) (fun j H' => Same H6 H' ∧ H' D2 = some (.lst (((us.take j).map fun v => v + 1).map V.int)))
    ⟨same_upd (Same.refl H6) hD2, upd_same⟩ (fun j H' _ h => SqL.of (h.1 _ _ (s6 _ _ hu))) ?_ ?_⟩
  · rintro j x H7 hj ⟨s7, h7⟩
    obtain ⟨y, hy, rfl⟩ := int_at hj
    refine ⟨rfl, _, rfl, _, _, rfl, rfl, _, h7, ?_, fun b o h => ?_, ?_⟩
    · rw [List.length_map, List.length_map, List.length_take]
      exact Nat.lt_of_le_of_lt (show min j us.length ≤ 200 by omega) (by decide)
    · rw [upd_ne (ne_of_none h hD2)]
      exact s7 b o h
    · rw [upd_same, take_next hy, List.map_append, List.map_append]
      rfl
  rintro H7 ⟨s7, h7⟩
  rw [List.length_map, List.take_length] at h7
  have s67 := s6.trans s7
  refine ⟨l2, D2, _, _, rfl, rfl, s7 _ _ k2, h7, by rw [List.length_map, List.length_map, List.length_map, List.length_append]; exact big (by omega), fun l3 h3 => ?_⟩
  rw [← List.map_append]
  have s8 := same_upd (o := .lst ((rs ++ us ++ us.map fun v => v + 1).map V.int)) s67 h3
  refine ⟨_, _, rfl, rfl, ⟨by decide, by decide, by decide⟩, _, rfl, (by show 1 ≤ sizeLine; decide), fun l4 h4' => ?_⟩
  have k3 : (upd (upd H7 l3 (.lst ((rs ++ us ++ us.map fun v => v + 1).map V.int))) l4 (.lst ([-(10 ^ (30 : Int).toNat)].map V.int))) l3 = some (.lst ((rs ++ us ++ us.map fun v => v + 1).map V.int)) := by rw [upd_ne (ne_of_none (o := .lst ((rs ++ us ++ us.map fun v => v + 1).map V.int)) upd_same h4'), upd_same]
  have s9 := same_upd (o := .lst ([-(10 ^ (30 : Int).toNat)].map V.int)) s8 h4'
  refine ⟨l3, l4, _, [-(10 ^ (30 : Int).toNat)].map V.int, rfl, rfl, k3, upd_same, ?_, fun l5 h5 => ?_⟩
  · rw [List.length_map, List.length_append, List.length_append, List.length_map]
    exact big (by show rs.length + us.length + us.length + 1 ≤ 1000; omega)
  rw [← List.map_append]
  generalize (rs ++ us ++ us.map fun v => v + 1) ++ [-(10 ^ (30 : Int).toNat)] = qs
  have s10 := same_upd (o := .lst (qs.map V.int)) s9 h5
  have kq : (upd (upd (upd H7 l3 (.lst ((rs ++ us ++ us.map fun v => v + 1).map V.int))) l4 (.lst ([-(10 ^ (30 : Int).toNat)].map V.int))) l5 (.lst (qs.map V.int))) l5 = some (.lst (qs.map V.int)) := upd_same
  -- nobody differs
  refine ⟨_, rfl, l5, rfl, ⟨_, SqL.of kq⟩, fun D3 hD3 => lc_list (K := K) (a := l5) (xs := qs.map V.int) (fun j H' => Same (upd (upd (upd H7 l3 (.lst ((rs ++ us ++ us.map fun v => v + 1).map V.int))) l4 (.lst ([-(10 ^ (30 : Int).toNat)].map V.int))) l5 (.lst (qs.map V.int))) H' ∧ H' D3 = some (.lst []))
    ⟨same_upd (Same.refl _) hD3, upd_same⟩ (fun j H' _ h => SqL.of (h.1 _ _ kq)) ?_ ?_⟩
  · rintro j x H9 hj ⟨s11, h9⟩
    obtain ⟨y, hy, rfl⟩ := int_at hj
    have sZ := s10.trans s11
    refine ⟨rfl, _, rfl, _, rfl, a, dx, _, rfl, sZ _ _ w1, a, y, us, rfl, A1.same sZ, by omega, fun H10 s12 => ⟨_, rfl, ?_⟩⟩
    refine ⟨_, rfl, _, rfl, u, _, rfl, .inl (SqL.of (s12 _ _ (sZ _ _ hu))), rfl, flat_ints us, ?_⟩
    rw [inV_ints]
    refine ⟨rfl, _, rfl, ?_⟩
    have same : V.bl (if (false = true) then !decide (y ∈ us) else decide (y ∈ us)) = V.bl (if (false = true) then !decide (y ∈ us) else decide (y ∈ us)) := rfl
    rw [decide_eq_true (show V.bl (if (false = true) then !decide (y ∈ us) else decide (y ∈ us)) = V.bl (if (false = true) then !decide (y ∈ us) else decide (y ∈ us)) from rfl)]
    exact iteF ⟨s11.trans s12, s12 _ _ h9⟩
  rintro H9 ⟨s11, h9⟩
  refine ⟨(by show 0 ≤ sizeLine; decide), fun na hna => ?_⟩
  have sN := same_upd (o := .lst []) (Same.refl H9) hna
  refine ⟨.list [], .list [], .lst (SqL.of (sN _ _ h9)) .nil, .lst (SqL.of upd_same) .nil, rfl, rfl, ?_⟩
  exact q _ ((((s1.trans s10).trans s11)).trans sN)
end
structure TxC (K : PySem.W.Frag) (mg : Str → Option Value) : Prop where
  g_is_number : mg "is_number" = some (.ref (He.ga K "is_number"))
  k_is_number : PySem.W.keepIn K (.ref (He.ga K "is_number")) = true
  n_isinstance : mg "isinstance" = none
  n_int : mg "int" = none
  n_bool : mg "bool" = none
  n_list : mg "list" = none
  n_tuple : mg "tuple" = none
  n_set : mg "set" = none
  n_sorted : mg "sorted" = none
  n_len : mg "len" = none
  n_iter : mg "iter" = none
  g_BadPlace : mg "BadPlace" = some (.ref (He.ga K "BadPlace"))
  g_Lot : mg "Lot" = some (.ref (He.ga K "Lot"))
  cl_Lot : Cls K (He.ga K "Lot")
  ins_Lot : C8.InsC K (He.ga K "Lot")
  mk_Lot : Mk K (He.ga K "Lot") (He.ma K (He.ga K "Lot") "__init__")
  na_places : NoAttr K (He.ga K "Lot") "places"
section
variable {P : Program} {w : World} {K : PySem.W.Frag} {mg : Str → Option Value} {base : Heap}
def spIsNum : Sp := fun vs H Q _ => ∃ i : Int, vs = [.int i] ∧ Q (.bl true) H
abbrev s_is_number : Stmt := top 4
theorem sc_is_number : FnScope ["value"] ["value"] (defScope s_is_number) := ⟨rfl, rfl, rfl, by decide +kernel, rfl, by decide +kernel, by decide +kernel⟩
theorem ok_is_number {fd : FuncData} (F : FunD K "is_number" "is_number" (defArgs s_is_number) (defBody s_is_number) (defScope s_is_number) [] [] (He.ga K "is_number") fd) (T : TxC K mg) : FnOk P w K mg base CX0 1 (He.ga K "is_number") fd ["value"] spIsNum := by
  refine F.ok sc_is_number (fun vs H Q E h => by obtain ⟨i, rfl, _⟩ := h; rfl) (fun cdv A outer s H vs Q E hr h => ?_)
  obtain ⟨i, rfl, q⟩ := h
  refine ⟨_, PSs.nox (pss_one (ps_ret (pe_and (pe_callB call_isi (by rfl) T.n_isinstance (by decide +kernel) (pa_cons (pv 0) (pa_cons (pe_bltn (v := .ty "int") (by rfl) T.n_int (by decide +kernel) rfl) pa_nil))) (pe_one (pe_not (pe_callB call_isi (by rfl) T.n_isinstance (by decide +kernel) (pa_cons (pv 0) (pa_cons (pe_bltn (v := .ty "bool") (by rfl) T.n_bool (by decide +kernel) rfl) pa_nil)))))))), ?_⟩
  refine ⟨_, rfl, .int i, .ty "int", _, _, true, rfl, .ty _, .base (.int i), kit_ty (by decide +kernel), true, rfl, ?_⟩
  refine iteT ?_
  exact ⟨_, rfl, .int i, .ty "bool", _, _, false, rfl, .ty _, .base (.int i), kit_ty (by decide +kernel), false, rfl, q⟩
theorem up_eq : ∀ {a b : List Int}, a.Pairwise (· < ·) → b.Pairwise (· < ·) → (∀ v, v ∈ a ↔ v ∈ b) → a = b
  | [], [], _, _, _ => rfl
  | [], y :: b, _, _, h => absurd ((h y).mpr List.mem_cons_self) (by simp)
  | x :: a, [], _, _, h => absurd ((h x).mp List.mem_cons_self) (by simp)
  | x :: a, y :: b, ha, hb, h => by
    obtain ⟨a1, a2⟩ := List.pairwise_cons.mp ha
    obtain ⟨b1, b2⟩ := List.pairwise_cons.mp hb
    have e : x = y := by
      rcases List.mem_cons.mp ((h x).mp List.mem_cons_self) with e | m1
      · exact e
      · rcases List.mem_cons.mp ((h y).mpr List.mem_cons_self) with e | m2
        · exact e.symm
        · have := b1 x m1
          have := a1 y m2
          omega
    subst e
    rw [up_eq a2 b2 fun v => ?_]
    constructor
    · intro hv
      rcases List.mem_cons.mp ((h v).mp (List.mem_cons_of_mem _ hv)) with e | m
      · have := a1 v hv
        omega
      · exact m
    · intro hv
      rcases List.mem_cons.mp ((h v).mpr (List.mem_cons_of_mem _ hv)) with e | m
      · have := b1 v hv
        omega
      · exact m
theorem setF_eq {a b : List Int} (h : ∀ v, v ∈ a ↔ v ∈ b) : setF a = setF b := up_eq (setF_up a) (setF_up b) fun v => (setF_mem a v).trans ((h v).trans (setF_mem b v).symm)
theorem catA_s {K : PySem.W.Frag} {H : Hp} {a b : Addr} {xs ys : List V} {Q : VK} (ha : SqT K H a xs) (hb : SqT K H b ys) (l : xs.length + ys.length ≤ sizeLine) (k : ∀ (H' : Hp) (c : Addr), Same H H' → SqT K H' c (xs ++ ys) → Q (.ref c) H') : rCatA K (.ref a) (.ref b) H Q :=
  ⟨a, b, xs, ys, rfl, rfl, ha, hb, l, fun e => k H b (Same.refl H) (by rw [e]; exact hb), fun _ e => k H a (Same.refl H) (by rw [e, List.append_nil]; exact ha), fun _ _ p hp => k _ p (same_upd (Same.refl H) hp) (SqT.of upd_same)⟩
/-- the first of a list that fits, ahead of it none -/
theorem filter_first {α : Type} {q : α → Bool} {xs : List α} {j : Nat} {z : α} (hz : xs[j]? = some z) (y : q z = true) (before : ∀ v ∈ xs.take j, q v = false) : xs.filter q = z :: (xs.drop (j + 1)).filter q := by
  have lt := (List.getElem?_eq_some_iff.mp hz).1
  have e : xs = xs.take j ++ z :: xs.drop (j + 1) := by
    conv => lhs; rw [← List.take_append_drop j xs]
    rw [List.drop_eq_getElem_cons lt, (List.getElem?_eq_some_iff.mp hz).2]
  conv => lhs; rw [e]
  rw [List.filter_append, List.filter_cons_of_pos y, List.filter_eq_nil_iff.mpr (fun v hv z => by rw [before v hv] at z; cases z), List.nil_append]
theorem filter_none {α : Type} {q : α → Bool} {xs : List α} (before : ∀ v ∈ xs, q v = false) : xs.filter q = [] := List.filter_eq_nil_iff.mpr fun v hv z => by rw [before v hv] at z; cases z
theorem putF0 (f : Str) (v : V) : putF f v [] = [(f, v)] := rfl
def negs (ns : List Int) : List Int := ns.filter fun v => decide (v < 0)
theorem ints_app (a b : List Int) : a.map V.int ++ b.map V.int = (a ++ b).map V.int := (List.map_append ..).symm
/-- an error of the class C goes out, with v under f -/
def Rz (K : PySem.W.Frag) (E : XK) (C f : Str) (v : V) (H : Hp) : Prop := ∀ (H' : Hp) (d : Addr), H' d = some (.xd [(f, v)]) → Same H H' → E (.ref (He.ga K C)) (some d) H'
theorem SqT.set {K : PySem.W.Frag} {H : Hp} {a c : Addr} {xs ys : List V} {o : HO} (h : SqT K H a xs) (hc : H c = some (.lst ys)) : SqT K (upd H c o) a xs := by
  rcases h with (h | ⟨q, h⟩) | h
  · exact .inl (.inl (by rw [upd_ne (ne_of h hc (by intro z; cases z))]; exact h))
  · exact .inl (.inr ⟨q, by rw [upd_ne (ne_of h hc (by intro z; cases z))]; exact h⟩)
  · exact .inr h

theorem LotAt.set {K : PySem.W.Frag} {H : Hp} {a c : Addr} {us : List Int} {ys : List V} {o : HO} (h : LotAt K H a us) (hc : H c = some (.lst ys)) : LotAt K (upd H c o) a us := by
  obtain ⟨dx, tx, h1, h2⟩ := h.at_
  exact ⟨dx, tx, by rw [upd_ne (ne_of h1 hc (by intro z; cases z))]; exact h1, SqT.set h2 hc⟩
def spLotInit (K : PySem.W.Frag) : Sp := fun vs H Q E => ∃ (a dx l : Addr) (ns : List Int), vs = [.ref a, .ref l] ∧ H a = some (.ins (He.ga K "Lot") dx []) ∧ (SqL K H l (ns.map V.int) ∨ SqT K H l (ns.map V.int)) ∧ ns.length < 60 ∧
  (∀ z r, negs ns = z :: r → Rz K E "BadPlace" "number" (.int z) H) ∧ (negs ns = [] → ∀ H', But1 a H H' → LotAt K H' a (setF ns) → Q .non H')
def spLotEq (K : PySem.W.Frag) : Sp := fun vs H Q _ => ∃ (a b : Addr) (us us' : List Int), vs = [.ref a, .ref b] ∧ LotAt K H a us ∧ LotAt K H b us' ∧ ∀ H', Same H H' → Q (.bl (decide (us = us'))) H'
theorem sq_same {K : PySem.W.Frag} {H H' : Hp} {l : Addr} {xs : List V} (h : SqL K H l xs ∨ SqT K H l xs) (s : Same H H') : SqL K H' l xs ∨ SqT K H' l xs := h.imp (fun h => Same.seq s h) fun h => h.ext s
theorem make_lot {K : PySem.W.Frag} {H : Hp} {x dx l : Addr} {ns : List Int} {R : VK} {E : XK} (hx : H x = none) (hdx : H dx = none) (h1 : SqL K H l (ns.map V.int) ∨ SqT K H l (ns.map V.int)) (l1 : ns.length < 60)
    (r1 : ∀ z r, negs ns = z :: r → Rz K E "BadPlace" "number" (.int z) H) (k : negs ns = [] → ∀ H', Same H H' → LotAt K H' x (setF ns) → R .non H') :
    spLotInit K [.ref x, .ref l] (upd (upd H dx (.own x)) x (.ins (He.ga K "Lot") dx [])) R E := by
  have s0 : Same H (upd (upd H dx (.own x)) x (.ins (He.ga K "Lot") dx [])) := fun b o h => by
    rw [upd_ne (ne_of_none h hx), upd_ne (ne_of_none h hdx)]
    exact h
  exact ⟨x, dx, l, ns, rfl, upd_same, sq_same h1 s0, l1, fun z r e H' d hd s => r1 z r e H' d hd (s0.trans s), fun e H' b W => k e H' (fun c o h => b c o (ne_of_none h hx) (s0 c o h)) W⟩
abbrev s_Lot_init : Stmt := inClass (top 6) 0
theorem sc_Lot_init : FnScope ["self", "places", "numbers", "number"] ["self", "places"] (defScope s_Lot_init) := ⟨rfl, rfl, rfl, by decide +kernel, rfl, by decide +kernel, by decide +kernel⟩
theorem ok_Lot_init {fd : FuncData} (F : FunD K "__init__" "Lot.__init__" (defArgs s_Lot_init) (defBody s_Lot_init) (defScope s_Lot_init) [] [] (He.ma K (He.ga K "Lot") "__init__") fd) (T : TxC K mg) (I_BadPlace : ErrI P w K mg base (He.ga K "BadPlace") "number") (d_is_number : Okd P w K mg base CX0 1 (He.ga K "is_number") ["value"] spIsNum) : FnOk P w K mg base (L2.CX P w) 3 (He.ma K (He.ga K "Lot") "__init__") fd ["self", "places"] (spLotInit K) := by
  obtain ⟨fd_is_number, G_is_number, b_is_number⟩ := d_is_number
  refine F.ok sc_Lot_init (fun vs H Q E h => by obtain ⟨a, dx, l, ns, rfl, _⟩ := h; rfl) (fun cdv A outer s H vs Q E hr h => ?_)
  obtain ⟨a, dx, l, ns, rfl, hA, h1, f1, r1, r2⟩ := h
  refine ⟨_,  (pss_cons (ps_set (i := 2) sc_Lot_init.nd rfl (Or.inl rfl) (pe_callTy call_list_of (by rfl) T.n_list (by decide +kernel) (pa_cons (pv 1) pa_nil)))
    (pss_cons (ps_for (passes_of rfl) rfl (pi_list (pv 2)) (pg_name (i := 3) sc_Lot_init.nd rfl (Or.inl rfl))
      (pss_one (ps_if (PW.pt (pw_or (pt_not (pt_val (pe_call G_is_number (hr.mono (by decide)) (by rfl) T.g_is_number T.k_is_number b_is_number .nil pass0 (pa_cons (pv 3) pa_nil)))) (pw_or1 (pt_cmpR op_lt (pv 3) pe_int (nomark _))))) (pss_one (ps_raise rfl (takes_of rfl rfl rfl rfl) (pmk_errF I_BadPlace (hr.mono (by decide)) (by rfl) T.g_BadPlace (pa_cons (pv 3) pa_nil)))) pss_nil)))
    (pss_one (ps_fld (pv 0) (pe_callTy call_tupleQ (by rfl) T.n_tuple (by decide +kernel) (pa_cons (pe_callB (cr_sortedSet rfl) (by rfl) T.n_sorted (by decide +kernel) (pa_cons (pe_callTy (cr_setI rfl) (by rfl) T.n_set (by decide +kernel) (pa_cons (pv 2) pa_nil)) pa_nil)) pa_nil)) rfl)))), ?_⟩
  refine ⟨_, rfl, l, _, rfl, h1, fun f hf => ?_⟩
  have s03 := same_upd (o := .lst (ns.map V.int)) (Same.refl H) hf
  have hf3 : (upd H f (.lst (ns.map V.int))) f = some (.lst (ns.map V.int)) := upd_same
  revert s03 hf3
  generalize upd H f (.lst (ns.map V.int)) = H3
  intro s03 hf3
  refine ⟨_, rfl, f, rfl, ⟨_, SqL.of hf3⟩, for_list (K := K) (a := f) (xs := ns.map V.int) (fun j σ' H' => ∃ v3 : Option V, σ' = [some (.ref a), some (.ref l), some (.ref f), v3] ∧ H' = H3 ∧ ∀ v ∈ ns.take j, decide (v < 0) = false)
    ⟨none, rfl, rfl, fun v hv => by simp at hv⟩ (fun j σ' H' _ h => by obtain ⟨_, _, rfl, _⟩ := h; exact SqL.of hf3) ?_ ?_⟩
  · rintro j x σ' H' hj ⟨v5, rfl, rfl, before⟩
    obtain ⟨z, hz, rfl⟩ := int_at hj
    refine ⟨_, rfl, z, rfl, _, rfl, ?_⟩
    refine iteF ?_
    refine ⟨_, rfl, _, _, rfl, rfl, _, rfl, ?_⟩
    by_cases neg : z < 0
    · rw [decide_eq_true neg]
      exact iteT ⟨_, rfl, _, rfl, fun d H2' _ hx s => r1 z _ (filter_first hz (decide_eq_true neg) before) H2' d hx (s03.trans s)⟩
    · rw [decide_eq_false neg]
      refine iteF ⟨_, rfl, rfl, fun v hv => ?_⟩
      rw [take_next hz] at hv
      rcases List.mem_append.mp hv with hv | hv
      · exact before v hv
      · rw [List.mem_singleton.mp hv]
        exact decide_eq_false neg
  rintro σ' H' ⟨v5, rfl, rfl, before⟩
  rw [List.length_map, List.take_length] at before
  have nn : negs ns = [] := filter_none before
  clear before
  have hA3 := s03 _ _ hA
  have b3 := But1.of (w0 := a) s03
  refine ⟨_, rfl, f, ns, rfl, .inl (SqL.of hf3), by omega, fun sa k hsa hk => ?_⟩
  refine ⟨sa, _, k, rfl, upd_same, by omega, fun ys q1 pw mem len hq1 => ?_⟩
  have e1 : ys = setF ns := up_eq pw (setF_up ns) fun v => ((mem v).trans decide_eq_true_iff).trans (setF_mem ns v).symm
  subst e1
  refine ⟨q1, _, rfl, .inl upd_same, fun ts H4 s4 hts => ?_⟩
  have s34 := (same_upd (same_upd (Same.refl _) hsa) hq1).trans s4
  have hA4 := s34 _ _ hA3
  refine ⟨_, rfl, a, _, dx, _, rfl, hA4, T.cl_Lot, T.na_places, by decide, ?_⟩
  have b4 := (b3.trans (But1.of s34)).trans (But1.set (o := .ins (He.ga K "Lot") dx (putF "places" (.ref ts) [])))
  have c4 := But1.set (w0 := a) (H := H4) (o := .ins (He.ga K "Lot") dx (putF "places" (.ref ts) []))
  have hts5 := c4 _ _ (ne_of hts hA4 (by intro z; cases z)) hts
  exact r2 nn _ b4 ⟨dx, ts, upd_same, SqT.of hts5⟩
abbrev s_Lot_eq : Stmt := inClass (top 6) 1
theorem sc_Lot_eq : FnScope ["self", "other"] ["self", "other"] (defScope s_Lot_eq) := ⟨rfl, rfl, rfl, by decide +kernel, rfl, by decide +kernel, by decide +kernel⟩
theorem ok_Lot_eq {fd : FuncData} (F : FunD K "__eq__" "Lot.__eq__" (defArgs s_Lot_eq) (defBody s_Lot_eq) (defScope s_Lot_eq) [] [] (He.ma K (He.ga K "Lot") "__eq__") fd) (T : TxC K mg) : FnOk P w K mg base CX0 1 (He.ma K (He.ga K "Lot") "__eq__") fd ["self", "other"] (spLotEq K) := by
  refine F.ok sc_Lot_eq (fun vs H Q E h => by obtain ⟨a, b, us, us', rfl, _⟩ := h; rfl) (fun cdv A outer s H vs Q E hr h => ?_)
  obtain ⟨a, b, us, us', rfl, hA, hB, q⟩ := h
  refine ⟨_, PSs.nox (pss_one (ps_ret (pe_and (pe_callB (C8.call_isC T.ins_Lot) (by rfl) T.n_isinstance (by decide +kernel) (pa_cons (pv 1) (pa_cons (pe_glob (v := .ref (He.ga K "Lot")) rfl T.g_Lot rfl) pa_nil))) (pe_one (pe_cmpR (op_eqD hr.units) (pe_fld (pv 0) rfl) (pe_fld (pv 1) rfl) (nomark _)))))), ?_⟩
  obtain ⟨dx, ts, h1, h2⟩ := hA.at_
  obtain ⟨dy, ts', i1, i2⟩ := hB.at_
  have q := q H (Same.refl H)
  refine ⟨_, rfl, b, dy, _, rfl, i1, _, rfl, ?_⟩
  refine iteT ?_
  refine ⟨_, rfl, a, _, dx, _, _, rfl, h1, T.cl_Lot, T.na_places, rfl, _, rfl, b, _, dy, _, _, rfl, i1, T.cl_Lot, T.na_places, rfl, _, _, .tup h2 (dp_ints us), .tup i2 (dp_ints us'), shaped_ints _, shaped_ints _, ?_⟩
  rw [show PyData.eqv (.tuple (us.map PyData.int)) (.tuple (us'.map PyData.int)) = decide (us = us') from eqv_ints _ _]
  exact q
abbrev s_Lot_len : Stmt := inClass (top 6) 7
theorem sc_Lot_len : FnScope ["self"] ["self"] (defScope s_Lot_len) := ⟨rfl, rfl, rfl, by decide +kernel, rfl, by decide +kernel, by decide +kernel⟩
theorem ok_Lot_len {fd : FuncData} (F : FunD K "__len__" "Lot.__len__" (defArgs s_Lot_len) (defBody s_Lot_len) (defScope s_Lot_len) [] [] (He.ma K (He.ga K "Lot") "__len__") fd) (T : TxC K mg) : FnOk P w K mg base CX0 1 (He.ma K (He.ga K "Lot") "__len__") fd ["self"] (spLotLen K) := by
  refine F.ok sc_Lot_len (fun vs H Q E h => by obtain ⟨a, us, rfl, _⟩ := h; rfl) (fun cdv A outer s H vs Q E hr h => ?_)
  obtain ⟨a, us, rfl, hA, few, q⟩ := h
  refine ⟨_, PSs.nox (pss_one (ps_ret (pe_callB call_len_seq (by rfl) T.n_len PySem.boot_len (pa_cons (pe_fld (pv 0) rfl) pa_nil)))), ?_⟩
  obtain ⟨dx, ts, h1, h2⟩ := hA.at_
  refine ⟨_, rfl, a, _, dx, _, _, rfl, h1, T.cl_Lot, T.na_places, rfl, ts, _, rfl, .inr h2, ?_⟩
  rw [List.length_map]
  exact q H (Same.refl H)
abbrev s_Lot_contains : Stmt := inClass (top 6) 6
theorem sc_Lot_contains : FnScope ["self", "place"] ["self", "place"] (defScope s_Lot_contains) := ⟨rfl, rfl, rfl, by decide +kernel, rfl, by decide +kernel, by decide +kernel⟩
theorem ok_Lot_contains {fd : FuncData} (F : FunD K "__contains__" "Lot.__contains__" (defArgs s_Lot_contains) (defBody s_Lot_contains) (defScope s_Lot_contains) [] [] (He.ma K (He.ga K "Lot") "__contains__") fd) (T : TxC K mg) : FnOk P w K mg base CX0 1 (He.ma K (He.ga K "Lot") "__contains__") fd ["self", "place"] (spLotIn K) := by
  refine F.ok sc_Lot_contains (fun vs H Q E h => by obtain ⟨a, v, us, rfl, _⟩ := h; rfl) (fun cdv A outer s H vs Q E hr h => ?_)
  obtain ⟨a, v, us, rfl, hA, few, q⟩ := h
  refine ⟨_, PSs.nox (pss_one (ps_ret (pe_cmpR op_in_seq (pv 1) (pe_fld (pv 0) rfl) (by first | exact nomark _ | rfl)))), ?_⟩
  obtain ⟨dx, ts, h1, h2⟩ := hA.at_
  refine ⟨_, rfl, _, rfl, a, _, dx, _, _, rfl, h1, T.cl_Lot, T.na_places, rfl, ts, _, rfl, .inr h2, rfl, flat_ints us, ?_⟩
  rw [inV_ints]
  exact q H (Same.refl H)
abbrev s_Lot_iter : Stmt := inClass (top 6) 8
theorem sc_Lot_iter : FnScope ["self"] ["self"] (defScope s_Lot_iter) := ⟨rfl, rfl, rfl, by decide +kernel, rfl, by decide +kernel, by decide +kernel⟩
theorem okn_Lot_iter {fd : FuncData} (F : FunD K "__iter__" "Lot.__iter__" (defArgs s_Lot_iter) (defBody s_Lot_iter) (defScope s_Lot_iter) [] [] (He.ma K (He.ga K "Lot") "__iter__") fd) (T : TxC K mg) : FnN P w K mg base CX0 1 (He.ma K (He.ga K "Lot") "__iter__") fd ["self"] (spIterN (He.ga K "Lot") "places" K) := by
  refine FnN.of F sc_Lot_iter (fun n vs H Q E h => by obtain ⟨a, dx, l, fs, zs, rfl, _⟩ := h; rfl) (fun cdv A outer s H vs Q E hr h => ?_)
  obtain ⟨a, dx, l, fs, zs, rfl, ha, hl, hz, q⟩ := h
  refine ⟨_, PSs.nox (pss_one (ps_ret (pe_callB call_iterT (by rfl) T.n_iter (by decide +kernel) (pa_cons (pe_fld (pv 0) rfl) pa_nil)))), ?_⟩
  exact ⟨_, rfl, a, _, dx, _, _, rfl, ha, T.cl_Lot, T.na_places, hl, l, zs, rfl, hz, fun it h0 hn => q it h0 hn⟩
theorem takesN {X : Cx} : Takes X (fun _ _ _ _ => False) := fun _ _ x => by
  obtain ⟨_, _, _, _, _, _, _, _, _, _, _, _, _, _, _, _, z⟩ := x
  exact z.elim
theorem passF {P : Program} {w : World} {X : Cx} : Passes (L2.CX P w) X (fun _ _ _ => False) := fun _ _ _ _ _ _ _ c => by
  obtain ⟨_, _, _, _, _, _, _, _, _, _, _, _, z⟩ := c
  exact z.elim
end
section
variable {P : Program} {w : World} {K : PySem.W.Frag} {mg : Str → Option Value} {base : Heap}

def spLawBuilt (K : PySem.W.Frag) : Sp := fun vs H Q _ => ∃ (l : Addr) (ns : List Int), vs = [.ref l] ∧ H l = some (.lst (ns.map V.int)) ∧ ns.length < 60 ∧
  (∀ z r (H' : Hp) (t : Addr), negs ns = z :: r → Same H H' → H' t = some (.tup [.str "bad", .int z, .bl true]) → Q (.ref t) H') ∧
  (negs ns = [] → ∀ (H' : Hp) (t x : Addr), Same H H' → H' t = some (.tup [.str "lot", .ref x, .bl true]) → LotAt K H' x (setF ns) → Q (.ref t) H')
abbrev s_built : Stmt := top 12
theorem sc_built : FnScope ["_law_numbers_here", "_law_given", "_law_lot", "e"] ["_law_numbers_here"] (defScope s_built) := ⟨rfl, rfl, rfl, by decide +kernel, rfl, by decide +kernel, by decide +kernel⟩
theorem ok_built {fd : FuncData} (F : FunD K "_law_built" "_law_built" (defArgs s_built) (defBody s_built) (defScope s_built) [] [] (He.ga K "_law_built") fd) (T : TxN K mg) (Y : TxP K mg) (I_BadPlace : ErrI P w K mg base (He.ga K "BadPlace") "number") (d_init : Okd P w K mg base (L2.CX P w) 3 (He.ma K (He.ga K "Lot") "__init__") ["self", "places"] (spLotInit K)) : FnOk P w K mg base CX0 6 (He.ga K "_law_built") fd ["_law_numbers_here"] (spLawBuilt K) := by
  obtain ⟨fd_init, G_init, b_init⟩ := d_init
  refine F.ok sc_built (fun vs H Q E h => by obtain ⟨l, ns, rfl, _⟩ := h; rfl) (fun cdv A outer s H vs Q E hr h => ?_)
  obtain ⟨l, ns, rfl, hl, few, q1, q2⟩ := h
  refine ⟨_, PSs.nox (pss_cons (ps_set (i := 1) sc_built.nd rfl (Or.inl rfl) (pe_callTy call_list_of (by rfl) T.n_list (by decide +kernel) (pa_cons (pv 0) pa_nil)))
    (pss_cons (ps_try_cls (Wo := fun _ _ _ _ => False) rfl rfl sc_built.nd takesN (fun W pn xe tk _ => pss_one (ps_set (i := 2) sc_built.nd rfl (Or.inl rfl) (pe_makeE Y.mk_Lot G_init (hr.mono (by decide)) (by rfl) Y.g_Lot b_init (fun σ => passAt tk σ) (pa_cons (pv 1) pa_nil)))) (.cons ⟨rfl, by decide, Or.inl Y.g_BadPlace⟩ (i := 3) rfl rfl (fun a oe cls d pn hz hf => pss_one (ps_ret (pe_tup (pa_cons pe_str (pa_cons (pe_xf ⟨I_BadPlace.e.ga, I_BadPlace.e.gg, I_BadPlace.e.exC, I_BadPlace.e.hd⟩ I_BadPlace.no hz hf (pv 3)) (pa_cons (pe_callB (call_isD Y.xc_BadPlace hz hf) (by rfl) T.n_isinstance (by decide +kernel) (pa_cons (pv 3) (pa_cons (pe_glob (v := .ref (He.ga K "SeatError")) rfl Y.g_SeatError rfl) pa_nil))) pa_nil)))))) .nil))
    (pss_cons (ps_expr (pe_bm PySem.F.plainAttrs_list PySem.F.slot_list_append PySem.F.type_list_append mt_append (pv 1) (pa_cons pe_int pa_nil)))
    (pss_cons (ps_asg pe_int (pg_sub (pv 1) pe_int set_list))
    (pss_one (ps_ret (pe_tup (pa_cons pe_str (pa_cons (pv 2) (pa_cons pe_bl pa_nil)))))))))), ?_⟩
  refine ⟨_, rfl, l, _, rfl, .inl (SqL.of hl), fun f hf => ?_⟩
  have hf0 : H f = none := hf
  have s2 := same_upd (o := .lst (ns.map V.int)) (Same.refl H) hf
  have hf2 : (upd H f (.lst (ns.map V.int))) f = some (.lst (ns.map V.int)) := upd_same
  revert s2 hf2
  generalize upd H f (.lst (ns.map V.int)) = H2
  intro s2 hf2
  clear hf
  refine ⟨_, rfl, fun x dx hx hdx ne => ?_⟩
  refine make_lot hx hdx (.inl (SqL.of hf2)) few (fun z r e H3 d hd s3 => ?_) (fun e H3 s3 W => ⟨rfl, ?_⟩)
  · refine ⟨true, Y.x_BadPlace, fun _ ae hae => ?_, fun z => Bool.noConfusion z⟩
    exact ⟨_, rfl, rfl, rfl, d, _, _, rfl, hd, rfl, _, rfl, _, _, true, rfl, rfl, .inr ⟨d, _, rfl, hd⟩, fun _ r => r, Y.e_BadPlace, (by show 3 ≤ sizeLine; decide), fun tp htp => q1 z r _ tp e ((s2.trans s3).trans (same_upd (Same.refl H3) htp)) upd_same⟩
  have hf3 := s3 _ _ hf2
  have sA := s2.trans s3
  refine ⟨_, rfl, .inl ⟨rfl, _, SqL.of hf3⟩, f, _, _, rfl, rfl, hf3, ?_, ?_⟩
  · rw [List.length_map]
    exact Nat.lt_of_le_of_lt (show ns.length ≤ 100 by omega) (by decide)
  have W4 := W.set (o := .lst (ns.map V.int ++ [V.int 5])) hf3
  have hf4 : (upd H3 f (.lst (ns.map V.int ++ [V.int 5]))) f = some (.lst (ns.map V.int ++ [V.int 5])) := upd_same
  have sB : Same H (upd H3 f (.lst (ns.map V.int ++ [V.int 5]))) := fun c o h => by rw [upd_ne (ne_of_none h hf0)]; exact sA c o h
  revert W4 hf4 sB
  generalize upd H3 f (.lst (ns.map V.int ++ [V.int 5])) = H4
  intro W4 hf4 sB
  refine ⟨_, rfl, f, _, 0, 0, rfl, rfl, hf4, ?_, ?_⟩
  · show (if (0 : Int) ≤ 0 then (if (0 : Int) < ((ns.map V.int ++ [V.int 5]).length : Nat) then some (0 : Int).toNat else none) else _) = some 0
    rw [if_pos (by decide), if_pos (by rw [List.length_append, List.length_singleton]; omega)]
    rfl
  have W5 := W4.set (o := .lst ((ns.map V.int ++ [V.int 5]).set 0 (.int 4))) hf4
  have sC : Same H (upd H4 f (.lst ((ns.map V.int ++ [V.int 5]).set 0 (V.int 4)))) := fun c o h => by rw [upd_ne (ne_of_none h hf0)]; exact sB c o h
  revert W5 sC
  generalize upd H4 f (.lst ((ns.map V.int ++ [V.int 5]).set 0 (V.int 4))) = H5
  intro W5 sC
  refine ⟨_, rfl, (by show 3 ≤ sizeLine; decide), fun tp htp => ?_⟩
  have s6 := same_upd (o := .tup [.str "lot", .ref x, .bl true]) (Same.refl H5) htp
  exact q2 e _ tp x (sC.trans s6) upd_same (W5.same s6)
end
section
variable {P : Program} {w : World} {K : PySem.W.Frag} {mg : Str → Option Value} {base : Heap}

theorem ne_str (a b : Str) (h : a ≠ b) : decide (V.str a = V.str b) = false := decide_eq_false fun z => h (V.str.inj z)
theorem LotAt.but {K : PySem.W.Frag} {H H' : Hp} {p a : Addr} {b : Nat} {us : List Int} (h : LotAt K H a us) (P : PoolAt K H p b) (s : But1 p H H') : LotAt K H' a us := by
  obtain ⟨dx, tx, h1, h2⟩ := h.at_
  obtain ⟨_, _, _, _, _, _, _, hp, _⟩ := P
  refine ⟨dx, tx, s _ _ (ne_of h1 hp (by intro z; cases z)) h1, ?_⟩
  rcases h2 with (h | ⟨q, h⟩) | h
  · exact .inl (.inl (s _ _ (ne_of h hp (by intro z; cases z)) h))
  · exact .inl (.inr ⟨q, s _ _ (ne_of h hp (by intro z; cases z)) h⟩)
  · exact .inr h
/-- a list of numbers fit for a lot -/
def MoreAt (H : Hp) (t : Addr) : Prop := ∃ fs : List Int, H t = some (.lst (fs.map V.int)) ∧ fs.length < 60 ∧ ∀ v ∈ fs, 0 ≤ v
theorem MoreAt.same {H H' : Hp} {t : Addr} (h : MoreAt H t) (s : Same H H') : MoreAt H' t := by
  obtain ⟨fs, h1, h2⟩ := h
  exact ⟨fs, s _ _ h1, h2⟩
def Mores (H : Hp) (ts : List Addr) : Prop := ∀ t ∈ ts, MoreAt H t
theorem Mores.same {H H' : Hp} {ts : List Addr} (h : Mores H ts) (s : Same H H') : Mores H' ts := fun t ht => (h t ht).same s
theorem Mores.snoc {H : Hp} {ts : List Addr} {t : Addr} (h : Mores H ts) (k : MoreAt H t) : Mores H (ts ++ [t]) := fun x hx => (List.mem_append.mp hx).elim (h x) fun e => by rw [List.mem_singleton.mp e]; exact k
theorem Mores.nil (H : Hp) : Mores H [] := fun _ h => nomatch h
theorem negs_nil {ns : List Int} (h : ∀ v ∈ ns, 0 ≤ v) : negs ns = [] := filter_none fun v hv => decide_eq_false (by have := h v hv; omega)
theorem negs_pos {ns : List Int} (h : negs ns = []) : ∀ v ∈ ns, 0 ≤ v := fun v hv => by
  have := List.filter_eq_nil_iff.mp h v hv
  have h2 : ¬ v < 0 := fun z => this (decide_eq_true z)
  omega
theorem upd_app {H : Hp} {c : Addr} {a b : List Int} : (upd H c (.lst (a.map V.int ++ b.map V.int))) c = some (.lst ((a ++ b).map V.int)) := by rw [upd_same, ints_app]
theorem upd_tail {H : Hp} {c : Addr} {a : List Int} : (upd H c (.lst (cutV (a.map V.int) (some 1) none))) c = some (.lst ((a.drop 1).map V.int)) := by
  rw [upd_same, show (some (1 : Int)) = some ((1 : Nat) : Int) from rfl, cut_tail, List.map_drop]
def spLaw (K : PySem.W.Frag) : Sp := fun vs H Q _ => ∃ (a : Addr) (ns : List Int), vs = [.ref a] ∧ Scr K H a ns ∧ ∀ H', Q (.bl true) H'
abbrev s_law : Stmt := top 14
theorem sc_law : FnScope ["_law_script", "_law_pool_here", "_law_numbers_here", "_law_wrong", "_law_told", "_law_other", "_law_more", "_law_number"] ["_law_script"] (defScope s_law) := ⟨rfl, rfl, rfl, by decide +kernel, rfl, by decide +kernel, by decide +kernel⟩
theorem ok_law {fd : FuncData} (F : FunD K "law" "law" (defArgs s_law) (defBody s_law) (defScope s_law) [] [] (He.ga K "law") fd) (T : TxN K mg) (Y : TxP K mg) (d_pool : Okd P w K mg base CX0 1 (He.ga K "_law_pool") ["_law_script"] (spPool K)) (d_draw : Okd P w K mg base CX0 1 (He.ga K "_law_draw") ["_law_pool_here", "_law_limit"] (spDraw K)) (d_numbers : Okd P w K mg base CX0 2 (He.ga K "_law_numbers") ["_law_pool_here", "_law_spoils"] (spNums K 13)) (d_set : Okd P w K mg base CX0 1 (He.ga K "_law_set") ["_law_numbers_here"] (spSet .lst)) (d_built : Okd P w K mg base CX0 6 (He.ga K "_law_built") ["_law_numbers_here"] (spLawBuilt K)) (d_same : Okd P w K mg base CX0 3 (He.ga K "_law_same") ["_law_lot", "_law_numbers_here"] (spSame K)) (d_init : Okd P w K mg base (L2.CX P w) 3 (He.ma K (He.ga K "Lot") "__init__") ["self", "places"] (spLotInit K)) (d_len : Okd P w K mg base CX0 1 (He.ma K (He.ga K "Lot") "__len__") ["self"] (spLotLen K)) (d_eq : Okd P w K mg base CX0 1 (He.ma K (He.ga K "Lot") "__eq__") ["self", "other"] (spLotEq K)) {fd_it : FuncData} (G_it : FnN P w K mg base CX0 1 (He.ma K (He.ga K "Lot") "__iter__") fd_it ["self"] (spIterN (He.ga K "Lot") "places" K)) (b_it : L2.Binds K fd_it ["self"] []) : FnOk P w K mg base CX0 7 (He.ga K "law") fd ["_law_script"] (spLaw K) := by
  obtain ⟨fd_pool, G_pool, b_pool⟩ := d_pool
  obtain ⟨fd_draw, G_draw, b_draw⟩ := d_draw
  obtain ⟨fd_numbers, G_numbers, b_numbers⟩ := d_numbers
  obtain ⟨fd_set, G_set, b_set⟩ := d_set
  obtain ⟨fd_built, G_built, b_built⟩ := d_built
  obtain ⟨fd_same, G_same, b_same⟩ := d_same
  obtain ⟨fd_init, G_init, b_init⟩ := d_init
  obtain ⟨fd_len, G_len, b_len⟩ := d_len
  obtain ⟨fd_eq, G_eq, b_eq⟩ := d_eq
  refine F.ok sc_law (fun vs H Q E h => by obtain ⟨a, ns, rfl, _⟩ := h; rfl) (fun cdv A outer s H vs Q E hr h => ?_)
  obtain ⟨a, ns, rfl, hS, kk⟩ := h
  refine ⟨_, PSs.nox (pss_cons (ps_set (i := 1) sc_law.nd rfl (Or.inl rfl) (pe_call G_pool (hr.mono (by decide)) (by rfl) T.g__law_pool T.k__law_pool b_pool .nil pass0 (pa_cons (pv 0) pa_nil)))
    (pss_cons (ps_set (i := 2) sc_law.nd rfl (Or.inl rfl) (pe_call G_numbers (hr.mono (by decide)) (by rfl) T.g__law_numbers T.k__law_numbers b_numbers .nil pass0 (pa_cons (pv 1) (pa_cons (pe_cmpR op_eq (pe_call G_draw (hr.mono (by decide)) (by rfl) T.g__law_draw T.k__law_draw b_draw .nil pass0 (pa_cons (pv 1) (pa_cons pe_int pa_nil))) pe_int (nomark _)) pa_nil))))
    (pss_cons (ps_setLc (i := 3) (own := [("_law_number", 7)]) (g := gName 7)  rfl sc_law.nd rfl rfl (sw_true rfl rfl rfl (by decide +kernel)) (pi_list (pv 2)) (blkOk_by (own := [("_law_number", 7)]) (N := ["_law_script", "_law_pool_here", "_law_numbers_here", "_law_wrong", "_law_told", "_law_other", "_law_more", "_law_number"]) (sc := defScope s_law) (by decide +kernel)) (fun _ _ _ _ _ => (pg_name (i := 7) sc_law.nd rfl (Or.inl rfl))) (fun _ _ _ _ _ => (pts_one (pt_cmpR op_lt (pv 7) pe_int (nomark _)))) (fun _ _ _ _ _ => (pv 7)))
    (pss_cons (ps_set (i := 4) sc_law.nd rfl (Or.inl rfl) (pe_call G_built (hr.mono (by decide)) (by rfl) Y.g__law_built Y.k__law_built b_built .nil pass0 (pa_cons (pv 2) pa_nil)))
    (pss_cons (ps_if (pt_cmpR (op_neD hr.units) (pv 3) (pe_lst pa_nil) (nomark _)) (pss_one (ps_ret (pe_and (pe_cmpR op_eq (pe_ix ix_tup (pv 4) pe_int (fun _ _ => rfl)) pe_str (nomark _)) (pe_and (pe_cmpR op_eq (pe_ix ix_tup (pv 4) pe_int (fun _ _ => rfl)) (pe_ix ix_list (pv 3) pe_int (fun _ _ => rfl)) (nomark _)) (pe_one (pe_ix ix_tup (pv 4) pe_int (fun _ _ => rfl))))))) pss_nil)
    (pss_cons (ps_if (PW.pt (pw_or (pt_cmpR op_ne (pe_ix ix_tup (pv 4) pe_int (fun _ _ => rfl)) pe_str (nomark _)) (pw_or1 (pt_not (pt_val (pe_call G_same (hr.mono (by decide)) (by rfl) Y.g__law_same Y.k__law_same b_same .nil pass0 (pa_cons (pe_ix ix_tup (pv 4) pe_int (fun _ _ => rfl)) (pa_cons (pv 2) pa_nil)))))))) (pss_one (ps_ret pe_bl)) pss_nil)
    (pss_cons (ps_set (i := 5) sc_law.nd rfl (Or.inl rfl) (pe_call G_numbers (hr.mono (by decide)) (by rfl) T.g__law_numbers T.k__law_numbers b_numbers .nil pass0 (pa_cons (pv 1) (pa_cons pe_bl pa_nil))))
    (pss_cons (ps_for PassesOwn.never rfl (pi_list (pe_lst (pa_cons (pv 5) (pa_cons (pe_op op_cat (pv 2) (pv 5)) (pa_cons (pv 2) (pa_cons (pe_slice sl_list (pv 2) (po_some pe_int) po_none) (pa_cons (pe_op op_cat (pe_sliceRev (pv 2) (po_some (pe_un un_neg pe_int))) (pv 2)) pa_nil))))))) (pg_name (i := 6) sc_law.nd rfl (Or.inl rfl))
      (pss_one (ps_if (pt_cmpR op_ne (pe_cmpR (op_eqOwn G_eq (hr.mono (by decide)) Y.o_eq.at_ Y.o_eq.fn b_eq pass0) (pe_ix ix_tup (pv 4) pe_int (fun _ _ => rfl)) (pe_make Y.mk_Lot G_init (hr.mono (by decide)) (by rfl) Y.g_Lot b_init .nil passF (pa_cons (pe_callTy call_tupleQ (by rfl) T.n_tuple (by decide +kernel) (pa_cons (pv 6) pa_nil)) pa_nil)) (nomark _)) (pe_cmpR (op_eqD hr.units) (pe_call G_set (hr.mono (by decide)) (by rfl) T.g__law_set T.k__law_set b_set .nil pass0 (pa_cons (pv 6) pa_nil)) (pe_call G_set (hr.mono (by decide)) (by rfl) T.g__law_set T.k__law_set b_set .nil pass0 (pa_cons (pv 2) pa_nil)) (nomark _)) (nomark _)) (pss_one (ps_ret pe_bl)) pss_nil)))
    (pss_one (ps_ret (pe_and (pe_call G_same (hr.mono (by decide)) (by rfl) Y.g__law_same Y.k__law_same b_same .nil pass0 (pa_cons (pe_make Y.mk_Lot G_init (hr.mono (by decide)) (by rfl) Y.g_Lot b_init .nil passF (pa_cons (pe_callTy (call_listIt G_it Y.o_iter b_it Y.o_len G_len b_len (hr.mono (by decide)) rfl) (by rfl) T.n_list (by decide +kernel) (pa_cons (pe_ix ix_tup (pv 4) pe_int (fun _ _ => rfl)) pa_nil)) pa_nil)) (pa_cons (pv 2) pa_nil))) (pe_one (pe_call G_same (hr.mono (by decide)) (by rfl) Y.g__law_same Y.k__law_same b_same .nil pass0 (pa_cons (pe_make Y.mk_Lot G_init (hr.mono (by decide)) (by rfl) Y.g_Lot b_init .nil passF (pa_cons (pe_tup pa_nil) pa_nil)) (pa_cons (pe_lst pa_nil) pa_nil))))))))))))))), ?_⟩
  have big : ∀ {k : Nat}, k ≤ 1000 → k ≤ sizeLine := fun {k} h => Nat.le_trans h (by decide)
  refine ⟨_, rfl, a, ns, rfl, hS, fun H1 p hp P1 hH1 => ?_⟩
  refine ⟨_, rfl, _, rfl, p, 999999999999, 2, rfl, P1.less (by decide), by decide, by decide, fun H2 d d0 d1 P2 B2 => ⟨rfl, p, 999999999999, _, rfl, P2, by decide, fun H3 l ss b3 P3 h3 l3 _ lp l0 => ?_⟩⟩
  refine ⟨_, rfl, l, rfl, ⟨_, SqL.of h3⟩, fun D hD => lc_list (K := K) (a := l) (xs := ss.map V.int) (fun j H' => ∃ cs : List Int, Same H3 H' ∧ H' D = some (.lst (cs.map V.int)) ∧ cs = negs (ss.take j))
    ⟨[], same_upd (Same.refl H3) hD, upd_same, rfl⟩ (fun j H' _ h => by obtain ⟨_, s, _⟩ := h; exact SqL.of (s _ _ h3)) ?_ ?_⟩
  · rintro j x H4 hj ⟨cs, s4, h4, ec⟩
    obtain ⟨y, hy, rfl⟩ := int_at hj
    have lc : cs.length ≤ 200 := by
      have := List.length_filter_le (fun v => decide (v < 0)) (ss.take j)
      rw [show (ss.take j).filter (fun v => decide (v < 0)) = cs from ec.symm, List.length_take] at this
      omega
    refine ⟨rfl, _, rfl, _, _, rfl, rfl, _, rfl, ?_⟩
    have nx : negs (ss.take (j + 1)) = negs (ss.take j) ++ negs [y] := by
      rw [take_next hy]
      exact List.filter_append ..
    refine iteB (fun yes => ⟨_, rfl, _, h4, ?_, cs ++ [y], fun b o h => ?_, ?_, ?_⟩) (fun no => ⟨cs, s4, h4, ?_⟩)
    · rw [List.length_map]
      exact Nat.lt_of_le_of_lt lc (by decide)
    · rw [upd_ne (ne_of_none h hD)]
      exact s4 b o h
    · rw [upd_same, List.map_append]
      rfl
    · rw [nx, ← ec, show negs [y] = [y] from List.filter_cons_of_pos (by exact yes)]
    · rw [nx, ← ec, show negs [y] = [] from List.filter_cons_of_neg (by rw [no]; simp), List.append_nil]
  rintro H4 ⟨cs, s4, h4, ec⟩
  rw [List.length_map, List.take_length] at ec
  have hl4 := s4 _ _ h3
  have P4 := P3.same s4
  refine ⟨_, rfl, l, ss, rfl, hl4, by omega, fun z r H5 t eN s5 ht => ?_, fun eN H5 t x s5 ht X5 => ?_⟩
  · -- a number below 0
    have h5 := s5 _ _ h4
    refine ⟨_, rfl, (by show 0 ≤ sizeLine; decide), fun na hna => ?_⟩
    have s6 := same_upd (o := .lst []) (Same.refl H5) hna
    refine ⟨.list (cs.map PyData.int), .list [], .lst (SqL.of (s6 _ _ h5)) (dp_ints cs), .lst (SqL.of upd_same) .nil, shaped_lints cs, rfl, _, rfl, ?_⟩
    rw [eqv_nil]
    have ec' : cs = z :: r := ec.trans eN
    rw [decide_eq_false (show ¬ cs = [] by rw [ec']; simp)]
    refine iteT ?_
    have ht6 := s6 _ _ ht
    refine ⟨_, rfl, t, _, 0, .str "bad", rfl, rfl, SqT.of ht6, rfl, rfl, _, rfl, ?_⟩
    rw [decide_eq_true rfl]
    refine iteT ?_
    refine ⟨_, rfl, t, _, 1, .int z, rfl, rfl, SqT.of ht6, rfl, _, rfl, D, _, 0, .int z, rfl, rfl, SqL.of (s6 _ _ h5), by rw [ec']; exact atI_nat (j := 0) rfl, rfl, _, rfl, ?_⟩
    rw [decide_eq_true rfl]
    refine iteT ?_
    exact ⟨_, rfl, t, _, 2, .bl true, rfl, rfl, SqT.of ht6, rfl, kk _⟩
  -- a lot
  have ec' : cs = [] := ec.trans eN
  subst ec'
  have h5 := s5 _ _ h4
  refine ⟨_, rfl, (by show 0 ≤ sizeLine; decide), fun na hna => ?_⟩
  have s6 := same_upd (o := .lst []) (Same.refl H5) hna
  refine ⟨.list (([] : List Int).map PyData.int), .list [], .lst (SqL.of (s6 _ _ h5)) .nil, .lst (SqL.of upd_same) .nil, rfl, rfl, _, rfl, ?_⟩
  rw [eqv_nil]
  refine iteF ?_
  have ht6 := s6 _ _ ht
  have X6 := X5.same s6
  have hl6 := s6 _ _ (s5 _ _ hl4)
  have P6 := (P4.same s5).same s6
  clear h5 h4 hD s6 hna
  revert ht6 X6 hl6 P6
  generalize upd H5 na (.lst []) = H6
  intro ht6 X6 hl6 P6
  have pos := negs_pos eN
  refine ⟨_, rfl, t, _, 0, .str "lot", rfl, rfl, SqT.of ht6, rfl, rfl, _, rfl, ?_⟩
  rw [decide_eq_true rfl]
  refine iteF ?_
  refine ⟨_, rfl, t, _, 1, .ref x, rfl, rfl, SqT.of ht6, rfl, _, rfl, x, l, ss, rfl, X6, hl6, by omega, fun H7 s7 => ⟨_, rfl, iteF ?_⟩⟩
  have ht7 := s7 _ _ ht6
  have X7 := X6.same s7
  have hl7 := s7 _ _ hl6
  have P7 := P6.same s7
  -- other numbers
  refine ⟨_, rfl, p, 999999999700, false, rfl, P7.less (by decide), by decide, fun H8 l2 ms b8 P8 h8 l8 nn8 lp2 l20 => ?_⟩
  have pos8 := nn8 rfl
  have tp : t ≠ p := by
    obtain ⟨_, _, _, _, _, _, _, hpp, _⟩ := P7
    exact ne_of ht7 hpp (by intro z; cases z)
  have ht8 := b8 _ _ tp ht7
  have hl8 := b8 _ _ lp hl7
  have X8 := X7.but P7 b8
  refine ⟨_, rfl, _, rfl, _, rfl, l, l2, _, _, rfl, rfl, hl8, h8, by rw [List.length_map, List.length_map]; exact big (by omega), fun c1 hc1 => ?_⟩
  have s9 := same_upd (o := .lst (ss.map V.int ++ ms.map V.int)) (Same.refl H8) hc1
  have hc1' : (upd H8 c1 (.lst (ss.map V.int ++ ms.map V.int))) c1 = some (.lst ((ss ++ ms).map V.int)) := upd_app
  revert s9 hc1'
  generalize upd H8 c1 (.lst (ss.map V.int ++ ms.map V.int)) = H9
  intro s9 hc1'
  refine ⟨_, rfl, _, rfl, _, rfl, l, _, rfl, SqL.of (s9 _ _ hl8), fun c2 hc2 => ?_⟩
  have s10 := same_upd (o := .lst (cutV (ss.map V.int) (some 1) none)) s9 hc2
  have hc2' : (upd H9 c2 (.lst (cutV (ss.map V.int) (some 1) none))) c2 = some (.lst ((ss.drop 1).map V.int)) := upd_tail
  have hc1a := (same_upd (o := .lst (cutV (ss.map V.int) (some 1) none)) (Same.refl H9) hc2) _ _ hc1'
  revert s10 hc2' hc1a
  generalize upd H9 c2 (.lst (cutV (ss.map V.int) (some 1) none)) = H10
  intro s10 hc2' hc1a
  refine ⟨_, rfl, _, rfl, _, rfl, l, _, rfl, rfl, SqL.of (s10 _ _ hl8), fun c3 hc3 => ?_⟩
  have s11 := same_upd (o := .lst (ss.map V.int).reverse) s10 hc3
  have sB := same_upd (o := .lst (ss.map V.int).reverse) (Same.refl H10) hc3
  have hc3' : (upd H10 c3 (.lst (ss.map V.int).reverse)) c3 = some (.lst (ss.reverse.map V.int)) := by rw [upd_same, List.map_reverse]
  have hc1b := sB _ _ hc1a
  have hc2b := sB _ _ hc2'
  revert s11 hc3' hc1b hc2b
  generalize upd H10 c3 (.lst (ss.map V.int).reverse) = H11
  intro s11 hc3' hc1b hc2b
  refine ⟨_, rfl, c3, l, _, _, rfl, rfl, hc3', s11 _ _ hl8, by rw [List.length_map, List.length_map, List.length_reverse]; exact big (by omega), fun c4 hc4 => ?_⟩
  have s12 := same_upd (o := .lst (ss.reverse.map V.int ++ ss.map V.int)) s11 hc4
  have sC := same_upd (o := .lst (ss.reverse.map V.int ++ ss.map V.int)) (Same.refl H11) hc4
  have hc4' : (upd H11 c4 (.lst (ss.reverse.map V.int ++ ss.map V.int))) c4 = some (.lst ((ss.reverse ++ ss).map V.int)) := upd_app
  have hc1c := sC _ _ hc1b
  have hc2c := sC _ _ hc2b
  revert s12 hc4' hc1c hc2c
  generalize upd H11 c4 (.lst (ss.reverse.map V.int ++ ss.map V.int)) = H12
  intro s12 hc4' hc1c hc2c
  refine ⟨(by show 5 ≤ sizeLine; decide), fun al hal => ?_⟩
  have M : Mores H12 ([l2, c1, l, c2, c4] : List Addr) := by
    refine Mores.snoc (Mores.snoc (Mores.snoc (Mores.snoc (Mores.snoc (Mores.nil H12) ⟨ms, s12 _ _ h8, by omega, pos8⟩) ⟨ss ++ ms, hc1c, by rw [List.length_append]; omega, fun v hv => (List.mem_append.mp hv).elim (pos v) (pos8 v)⟩) ⟨ss, s12 _ _ hl8, by omega, pos⟩) ⟨ss.drop 1, hc2c, by rw [List.length_drop]; omega, fun v hv => pos v (List.mem_of_mem_drop hv)⟩) ⟨ss.reverse ++ ss, hc4', by rw [List.length_append, List.length_reverse]; omega, fun v hv => (List.mem_append.mp hv).elim (fun h => pos v (List.mem_reverse.mp h)) (pos v)⟩
  have s13 := same_upd (o := .lst [.ref l2, .ref c1, .ref l, .ref c2, .ref c4]) (Same.refl H12) hal
  have hal' : (upd H12 al (.lst [.ref l2, .ref c1, .ref l, .ref c2, .ref c4])) al = some (.lst (([l2, c1, l, c2, c4] : List Addr).map V.ref)) := upd_same
  have M13 := M.same s13
  have ht13 := s13 _ _ (s12 _ _ ht8)
  have hl13 := s13 _ _ (s12 _ _ hl8)
  have X13 := X8.same (s12.trans s13)
  revert hal' M13 ht13 hl13 X13
  generalize ([l2, c1, l, c2, c4] : List Addr) = ts
  generalize upd H12 al (.lst [.ref l2, .ref c1, .ref l, .ref c2, .ref c4]) = H13
  intro hal' M13 ht13 hl13 X13
  refine ⟨al, rfl, ⟨_, SqL.of hal'⟩, for_list (K := K) (a := al) (xs := ts.map V.ref) (fun j σ' H' => ∃ v6 : Option V, σ' = [some (.ref a), some (.ref p), some (.ref l), some (.ref D), some (.ref t), some (.ref l2), v6, none] ∧ Same H13 H')
    ⟨none, rfl, Same.refl H13⟩ (fun j σ' H' _ h => by obtain ⟨_, _, s⟩ := h; exact SqL.of (s _ _ hal')) ?_ ?_⟩
  · rintro j z σ' H14 hj ⟨v6, rfl, s14⟩
    obtain ⟨u, hu, rfl⟩ : ∃ u, ts[j]? = some u ∧ z = .ref u := by
      rw [List.getElem?_map] at hj
      cases h : ts[j]? with
      | none => rw [h] at hj; cases hj
      | some u => rw [h] at hj; exact ⟨u, rfl, (Option.some.inj hj).symm⟩
    obtain ⟨fs, hfs, lfs, pfs⟩ := (M13.same s14) u (List.mem_of_getElem? hu)
    refine ⟨_, rfl, t, _, 1, .ref x, rfl, rfl, SqT.of (s14 _ _ ht13), rfl, _, rfl, u, _, rfl, .inl hfs, fun tt H15 s15 htt => ?_⟩
    intro y dy hy hdy ney
    refine make_lot hy hdy (.inr (SqT.of htt)) (by omega) (fun z r e => by rw [negs_nil pfs] at e; cases e) fun _ H16 s16 W16 => ⟨rfl, ?_⟩
    have s146 := (s14.trans s15).trans s16
    have X16 := X13.same s146
    obtain ⟨d1, _, x1, _⟩ := X16.at_
    obtain ⟨d2, _, x2, _⟩ := W16.at_
    refine ⟨x, y, d1, d2, _, _, rfl, rfl, x1, x2, x, y, _, _, rfl, X16, W16, fun H17 s17 => ?_⟩
    have s147 := s146.trans s17
    have hu17 := (s15.trans (s16.trans s17)) _ _ hfs
    refine ⟨_, rfl, u, fs, rfl, hu17, by omega, fun H18 u1 w1 hu1 => ?_⟩
    refine ⟨_, rfl, l, ss, rfl, w1 _ _ (s147 _ _ hl13), by omega, fun H19 u2 w2 hu2 => ?_⟩
    refine ⟨.list ((setF fs).map PyData.int), .list ((setF ss).map PyData.int), .lst (SqL.of (w2 _ _ hu1)) (dp_ints _), .lst (SqL.of hu2) (dp_ints _), shaped_lints _, shaped_lints _, ?_⟩
    rw [show PyData.eqv (.list ((setF fs).map PyData.int)) (.list ((setF ss).map PyData.int)) = decide (setF ss = setF fs) by
      rw [show PyData.eqv (.list ((setF fs).map PyData.int)) (.list ((setF ss).map PyData.int)) = decide (setF fs = setF ss) from eqv_ints _ _, Bool.eq_iff_iff, decide_eq_true_iff, decide_eq_true_iff]
      exact eq_comm]
    refine ⟨rfl, _, rfl, ?_⟩
    rw [decide_eq_true (rfl : V.bl (decide (setF ss = setF fs)) = V.bl (decide (setF ss = setF fs)))]
    exact iteF ⟨_, rfl, s147.trans (w1.trans w2)⟩
  rintro σ' H14 ⟨v6, rfl, s14⟩
  have X14 := X13.same s14
  have hl14 := s14 _ _ hl13
  obtain ⟨dx, tx, x1, x2⟩ := X14.at_
  have few : (setF ss).length ≤ ss.length := setF_len ss
  refine ⟨_, rfl, t, _, 1, .ref x, rfl, rfl, SqT.of (s14 _ _ ht13), rfl, x, dx, tx, _, _, rfl, x1, rfl, x2, ?_, fun H15 s15 => ⟨x, setF ss, rfl, X14.same s15, by omega, fun H16 s16 => ⟨by rw [List.length_map], s16⟩⟩, fun H15 q s15 hq => ?_⟩
  · rw [List.length_map]
    exact big (by omega)
  intro y dy hy hdy ney
  have posS : ∀ v ∈ setF ss, 0 ≤ v := fun v hv => pos v ((setF_mem ss v).mp hv)
  refine make_lot (ns := setF ss) hy hdy (.inl (SqL.of hq)) (by omega) (fun z r e => by rw [negs_nil posS] at e; cases e) fun _ H16 s16 W16 => ⟨rfl, ?_⟩
  have eS : setF (setF ss) = setF ss := up_eq (setF_up _) (setF_up _) fun v => setF_mem _ v
  rw [eS] at W16
  refine ⟨_, rfl, y, l, ss, rfl, W16, s16 _ _ (s15 _ _ hl14), by omega, fun H17 s17 => ⟨_, rfl, iteT ?_⟩⟩
  refine ⟨(by show 0 ≤ sizeLine; decide), fun u1 h1 => ?_⟩
  intro y2 dy2 hy2 hdy2 ney2
  have z1 : (upd H17 u1 (.tup [])) u1 = some (.tup (([] : List Int).map V.int)) := upd_same
  refine make_lot (ns := []) hy2 hdy2 (.inr (SqT.of z1)) (by decide) (fun z r e => nomatch e) fun _ H18 s18 W18 => ⟨rfl, ?_⟩
  refine ⟨(by show 0 ≤ sizeLine; decide), fun u2 h2 => ?_⟩
  exact ⟨y2, u2, [], rfl, W18.same (same_upd (Same.refl H18) h2), upd_same, by decide, fun H19 s19 => kk _⟩
end
section
variable {P : Program} {w : World} {K : PySem.W.Frag} {mg : Str → Option Value} {base : Heap}
abbrev s_BadPlace_init : Stmt := inClass (top 2) 0
theorem sc_BadPlace_init : FnScope ["self", "number"] ["self", "number"] (defScope s_BadPlace_init) := ⟨rfl, rfl, rfl, by decide +kernel, rfl, by decide +kernel, by decide +kernel⟩
theorem oki_BadPlace_init {fd : FuncData} (F : FunD K "__init__" "BadPlace.__init__" (defArgs s_BadPlace_init) (defBody s_BadPlace_init) (defScope s_BadPlace_init) [] [] (He.ma K (He.ga K "BadPlace") "__init__") fd) (T : OexC K (He.ga K "BadPlace")) (no : PySem.W.findIn K (.ref (He.ga K "BadPlace")) "number" = some none) :
    FnOk P w K mg base CX0 1 (He.ma K (He.ga K "BadPlace") "__init__") fd (["self", "number"] : List Str) (spInit (He.ga K "BadPlace") "number") := by
  refine F.ok sc_BadPlace_init (fun vs H Q E h => ?_) (fun cdv A outer s H vs Q E hr h => ?_)
  · obtain ⟨a, v, rfl, _⟩ := h
    rfl
  · obtain ⟨a, v, rfl, ha, k⟩ := h
    refine ⟨_, pss_one (ps_ost (pv 0) (pv 1)), ?_⟩
    exact ⟨_, rfl, _, rfl, a, He.ga K "BadPlace", rfl, T, no, .inl ⟨ha, fun dx n ne => k dx n ne⟩⟩
end
def fns : List He.DefD := [
  ⟨("_law_pool", none), "_law_pool", "_law_pool", defArgs s_pool, defBody s_pool, defScope s_pool, [], []⟩,
  ⟨("_law_draw", none), "_law_draw", "_law_draw", defArgs s_draw, defBody s_draw, defScope s_draw, [], []⟩,
  ⟨("_law_numbers", none), "_law_numbers", "_law_numbers", defArgs s_numbers, defBody s_numbers, defScope s_numbers, [], []⟩,
  ⟨("_law_set", none), "_law_set", "_law_set", defArgs s_set, defBody s_set, defScope s_set, [], []⟩,
  ⟨("_law_same", none), "_law_same", "_law_same", defArgs s_same, defBody s_same, defScope s_same, [], []⟩,
  ⟨("is_number", none), "is_number", "is_number", defArgs s_is_number, defBody s_is_number, defScope s_is_number, [], []⟩,
  ⟨("Lot", some "__init__"), "__init__", "Lot.__init__", defArgs s_Lot_init, defBody s_Lot_init, defScope s_Lot_init, [], []⟩,
  ⟨("Lot", some "__eq__"), "__eq__", "Lot.__eq__", defArgs s_Lot_eq, defBody s_Lot_eq, defScope s_Lot_eq, [], []⟩,
  ⟨("Lot", some "__len__"), "__len__", "Lot.__len__", defArgs s_Lot_len, defBody s_Lot_len, defScope s_Lot_len, [], []⟩,
  ⟨("Lot", some "__contains__"), "__contains__", "Lot.__contains__", defArgs s_Lot_contains, defBody s_Lot_contains, defScope s_Lot_contains, [], []⟩,
  ⟨("_law_built", none), "_law_built", "_law_built", defArgs s_built, defBody s_built, defScope s_built, [], []⟩,
  ⟨("law", none), "law", "law", defArgs s_law, defBody s_law, defScope s_law, [], []⟩,
  ⟨("Lot", some "__iter__"), "__iter__", "Lot.__iter__", defArgs s_Lot_iter, defBody s_Lot_iter, defScope s_Lot_iter, [], []⟩,
  ⟨("BadPlace", some "__init__"), "__init__", "BadPlace.__init__", defArgs s_BadPlace_init, defBody s_BadPlace_init, defScope s_BadPlace_init, [], []⟩]
def pqs : List PropD := []
def fas : List He.Fa := [.glo "_law_pool", .glo "_law_draw", .glo "_law_numbers", .glo "_law_set", .free "len", .free "range", .free "abs", .free "int", .free "list", .free "tuple", .free "isinstance", .glo "_law_built", .glo "_law_same", .glo "law", .glo "Lot", .cls "Lot", .mkr "Lot", .meth "Lot" "__len__", .meth "Lot" "__eq__", .noat "Lot" "places", .glo "SeatError", .glo "BadPlace", .exm "BadPlace" "BadPlace" true, .meth "Lot" "__contains__", .meth "Lot" "__iter__", .glo "is_number", .free "bool", .free "set", .free "sorted", .free "iter", .noat "BadPlace" "number"]
def initB (K : PySem.W.Frag) (C : Addr) : Bool := oexB K C && (eqOB (PySem.W.findIn K (.ref C) "__init__") (some (some (.ref (He.ma K C "__init__")))) && eqVB (PySem.W.typeIn K (.ref (He.ma K C "__init__"))) (some (.type "function")))
def excB (K : PySem.W.Frag) (C : Addr) : Bool := eqOB (PySem.W.findIn K (.ref C) "__getattribute__") (some (some (.builtin "BaseException.__getattribute__"))) && (eqOB (PySem.W.findIn K (.ref C) "__getattr__") (some none) && (eqBB (PySem.W.subIn K (.ref C) (.type "BaseException")) (some true) && (PySem.W.hasDictIn K C &&
  (eqOB (PySem.W.findIn K (.ref C) "__class__") (some (some (.builtin "object.__class__"))) && (eqOB (PySem.W.specialIn K (.builtin "object.__class__") "__get__") (some (some (.builtin "getset_descriptor.__get__"))) && (eqBB (PySem.W.takesIn K (.builtin "object.__class__")) (some true) && eqBB (PySem.W.mroIn K C (.type "object")) (some true)))))))
def noB (K : PySem.W.Frag) (C : Addr) : Bool := PySem.W.excIn K C He.veBase "ValueError.__new__" && (PySem.W.keepIn K (.ref C) && (eqBB (PySem.W.subIn K (.ref C) (.type "BaseException")) (some true) && eqVB (PySem.W.typeIn K (.ref C)) (some (.type "type"))))
def insB (K : PySem.W.Frag) (C : Addr) : Bool := eqOB (PySem.W.findIn K (.ref C) "__class__") (some (some (.builtin "object.__class__"))) && (eqOB (PySem.W.specialIn K (.builtin "object.__class__") "__get__") (some (some (.builtin "getset_descriptor.__get__"))) &&
  (eqBB (PySem.W.takesIn K (.builtin "object.__class__")) (some true) && (eqBB (PySem.W.mroIn K C (.type "object")) (some true) && eqBB (PySem.W.kitOne K (.ref C) (.ref C)) (some true))))
def kindB (K : PySem.W.Frag) (x : Str) : Bool := excB K (He.ga K x) && eqBB (PySem.W.kitOne K (.ref (He.ga K x)) (.ref (He.ga K "SeatError"))) (some true)
def errs : List Str := ["BadPlace"]
def kinds : List Str := ["BadPlace"]
def nos : List Str := []
def inss : List Str := ["Lot"]
def firsts : List Str := []
def exB (K : PySem.W.Frag) : Bool := (nos.all fun x => noB K (He.ga K x)) && ((errs.all fun x => errB K (He.ga K x)) && ((errs.all fun x => initB K (He.ga K x)) && ((kinds.all fun x => kindB K x) && ((inss.all fun x => insB K (He.ga K x)) && ((firsts.all fun x => PySem.W.selfFirst K (He.ga K x)) && pqs.all fun q => q.ok K)))))
abbrev RR : PySem.W.OpenRow := PySem.W.OpenLaw.row PySem.Challenge.rw_savedseats_k04_lots_built
abbrev hkx : PySem.W.Hook := hookP 5 fas fns pqs exB
def obx (s : PySem.W.SharedT) : AlP := obsP 5 fas fns pqs exB (HandSHeadRun.getT s)
theorem obx_eq (s : PySem.W.SharedT) : obx s = hkx.obs s.abs := obsP_eq 5 fas fns pqs exB (HandSHeadRun.getT_eq s)
def loose : List Str := (["BadPlace", "Lot", "SeatError", "__name__", "_law_built", "_law_draw", "_law_numbers", "_law_pool", "_law_same", "_law_set", "is_number"] : List Str)
theorem runx (w : World) : HandSHeadRun.RunEq RR (PySem.W.view RR.prog [14]) hkx obx 100000 loose w := by
  intro os
  kernel_rfl
section
variable {P : Program} {w : World} {K : PySem.W.Frag} {mg : Str → Option Value} {h : Heap}
theorem excB_ok {C : Addr} (e : excB K C = true) : ExcC K C := by
  obtain ⟨b1, b⟩ := andB e
  obtain ⟨b2, b⟩ := andB b
  obtain ⟨b3, b⟩ := andB b
  obtain ⟨b4, b⟩ := andB b
  obtain ⟨b5, b⟩ := andB b
  obtain ⟨b6, b⟩ := andB b
  obtain ⟨b7, b8⟩ := andB b
  exact ⟨of_decide_eq_true b1, of_decide_eq_true b2, of_decide_eq_true b3, b4, of_decide_eq_true b5, of_decide_eq_true b6, of_decide_eq_true b7, of_decide_eq_true b8⟩
structure Ex (K : PySem.W.Frag) : Prop where
  no : ∀ x ∈ nos, PySem.W.excIn K (He.ga K x) He.veBase "ValueError.__new__" = true ∧ PySem.W.keepIn K (.ref (He.ga K x)) = true ∧ PySem.W.subIn K (.ref (He.ga K x)) (.type "BaseException") = some true ∧ PySem.W.typeIn K (.ref (He.ga K x)) = some (.type "type")
  err : ∀ x ∈ errs, errB K (He.ga K x) = true
  init : ∀ x ∈ errs, initB K (He.ga K x) = true
  kinds : ∀ x ∈ kinds, ExcC K (He.ga K x) ∧ PySem.W.kitOne K (.ref (He.ga K x)) (.ref (He.ga K "SeatError")) = some true
  ins : ∀ x ∈ inss, insB K (He.ga K x) = true
  first : ∀ x ∈ firsts, PySem.W.selfFirst K (He.ga K x) = true
  pq : ∀ q ∈ pqs, q.ok K = true
theorem ex_of (c : exB K = true) : Ex K := by
  obtain ⟨c0, c⟩ := andB c
  obtain ⟨c1, c⟩ := andB c
  obtain ⟨c2, c⟩ := andB c
  obtain ⟨c3, c⟩ := andB c
  obtain ⟨c4, c⟩ := andB c
  obtain ⟨c5, c6⟩ := andB c
  refine ⟨fun x hx => ?_, List.all_eq_true.mp c1, List.all_eq_true.mp c2, fun x hx => ?_, List.all_eq_true.mp c4, List.all_eq_true.mp c5, List.all_eq_true.mp c6⟩
  · obtain ⟨b1, b⟩ := andB (List.all_eq_true.mp c0 x hx)
    obtain ⟨b2, b⟩ := andB b
    obtain ⟨b3, b4⟩ := andB b
    exact ⟨b1, b2, of_decide_eq_true b3, of_decide_eq_true b4⟩
  · obtain ⟨k1, k2⟩ := andB (List.all_eq_true.mp c3 x hx)
    exact ⟨excB_ok k1, of_decide_eq_true k2⟩
theorem ins_of {C : Addr} (L : Cls K C) (e : insB K C = true) : C8.InsC K C := by
  obtain ⟨b1, b⟩ := andB e
  obtain ⟨b2, b⟩ := andB b
  obtain ⟨b3, b⟩ := andB b
  obtain ⟨b4, b5⟩ := andB b
  exact ⟨L, of_decide_eq_true b1, of_decide_eq_true b2, of_decide_eq_true b3, of_decide_eq_true b4, of_decide_eq_true b5⟩
theorem of_TxN (X : K.In h) (G : h.Ns mainGlobals mg) (c : He.SaysD fas fns K) (e : exB K = true) (ep : (pqs.map fun q => fnAt K (q.g K)) = pqs.map fun q => q.d.val) : TxN K mg where
  g__law_pool := He.glo_ok X G (c.fact 0 (f := .glo "_law_pool") rfl)
  k__law_pool := (c.def_ 0 rfl).elim fun _ F => F.kp
  g__law_draw := He.glo_ok X G (c.fact 1 (f := .glo "_law_draw") rfl)
  k__law_draw := (c.def_ 1 rfl).elim fun _ F => F.kp
  g__law_numbers := He.glo_ok X G (c.fact 2 (f := .glo "_law_numbers") rfl)
  k__law_numbers := (c.def_ 2 rfl).elim fun _ F => F.kp
  g__law_set := He.glo_ok X G (c.fact 3 (f := .glo "_law_set") rfl)
  k__law_set := (c.def_ 3 rfl).elim fun _ F => F.kp
  n_len := He.free_ok X G (c.fact 4 (f := .free "len") rfl)
  n_range := He.free_ok X G (c.fact 5 (f := .free "range") rfl)
  n_abs := He.free_ok X G (c.fact 6 (f := .free "abs") rfl)
  n_int := He.free_ok X G (c.fact 7 (f := .free "int") rfl)
  n_list := He.free_ok X G (c.fact 8 (f := .free "list") rfl)
  n_tuple := He.free_ok X G (c.fact 9 (f := .free "tuple") rfl)
  n_isinstance := He.free_ok X G (c.fact 10 (f := .free "isinstance") rfl)
theorem of_TxP (X : K.In h) (G : h.Ns mainGlobals mg) (c : He.SaysD fas fns K) (e : exB K = true) (ep : (pqs.map fun q => fnAt K (q.g K)) = pqs.map fun q => q.d.val) : TxP K mg where
  g__law_built := He.glo_ok X G (c.fact 11 (f := .glo "_law_built") rfl)
  k__law_built := (c.def_ 10 rfl).elim fun _ F => F.kp
  g__law_same := He.glo_ok X G (c.fact 12 (f := .glo "_law_same") rfl)
  k__law_same := (c.def_ 4 rfl).elim fun _ F => F.kp
  g_law := He.glo_ok X G (c.fact 13 (f := .glo "law") rfl)
  k_law := (c.def_ 11 rfl).elim fun _ F => F.kp
  g_Lot := He.glo_ok X G (c.fact 14 (f := .glo "Lot") rfl)
  cl_Lot := He.cls_ok (c.fact 15 (f := .cls "Lot") rfl)
  mk_Lot := He.mkr_ok (c.fact 16 (f := .mkr "Lot") rfl)
  o_len := ⟨(He.meth_ok (c.fact 17 (f := .meth "Lot" "__len__") rfl)).at_, (He.meth_ok (c.fact 17 (f := .meth "Lot" "__len__") rfl)).fn⟩
  o_eq := ⟨(He.meth_ok (c.fact 18 (f := .meth "Lot" "__eq__") rfl)).at_, (He.meth_ok (c.fact 18 (f := .meth "Lot" "__eq__") rfl)).fn⟩
  na_places := He.noat_ok (c.fact 19 (f := .noat "Lot" "places") rfl)
  g_SeatError := He.glo_ok X G (c.fact 20 (f := .glo "SeatError") rfl)
  g_BadPlace := He.glo_ok X G (c.fact 21 (f := .glo "BadPlace") rfl)
  x_BadPlace := He.exm_ok (c.fact 22 (f := .exm "BadPlace" "BadPlace" true) rfl)
  xc_BadPlace := ((ex_of e).kinds "BadPlace" (by decide +kernel)).1
  e_BadPlace := ((ex_of e).kinds "BadPlace" (by decide +kernel)).2
  o_in := ⟨(He.meth_ok (c.fact 23 (f := .meth "Lot" "__contains__") rfl)).at_, (He.meth_ok (c.fact 23 (f := .meth "Lot" "__contains__") rfl)).fn⟩
  o_iter := ⟨(He.meth_ok (c.fact 24 (f := .meth "Lot" "__iter__") rfl)).at_, (He.meth_ok (c.fact 24 (f := .meth "Lot" "__iter__") rfl)).fn⟩
theorem of_TxC (X : K.In h) (G : h.Ns mainGlobals mg) (c : He.SaysD fas fns K) (e : exB K = true) (ep : (pqs.map fun q => fnAt K (q.g K)) = pqs.map fun q => q.d.val) : TxC K mg where
  g_is_number := He.glo_ok X G (c.fact 25 (f := .glo "is_number") rfl)
  k_is_number := (c.def_ 5 rfl).elim fun _ F => F.kp
  n_isinstance := He.free_ok X G (c.fact 10 (f := .free "isinstance") rfl)
  n_int := He.free_ok X G (c.fact 7 (f := .free "int") rfl)
  n_bool := He.free_ok X G (c.fact 26 (f := .free "bool") rfl)
  n_list := He.free_ok X G (c.fact 8 (f := .free "list") rfl)
  n_tuple := He.free_ok X G (c.fact 9 (f := .free "tuple") rfl)
  n_set := He.free_ok X G (c.fact 27 (f := .free "set") rfl)
  n_sorted := He.free_ok X G (c.fact 28 (f := .free "sorted") rfl)
  n_len := He.free_ok X G (c.fact 4 (f := .free "len") rfl)
  n_iter := He.free_ok X G (c.fact 29 (f := .free "iter") rfl)
  g_BadPlace := He.glo_ok X G (c.fact 21 (f := .glo "BadPlace") rfl)
  g_Lot := He.glo_ok X G (c.fact 14 (f := .glo "Lot") rfl)
  cl_Lot := He.cls_ok (c.fact 15 (f := .cls "Lot") rfl)
  ins_Lot := ins_of (He.cls_ok (c.fact 15 (f := .cls "Lot") rfl)) ((ex_of e).ins "Lot" (by decide +kernel))
  mk_Lot := He.mkr_ok (c.fact 16 (f := .mkr "Lot") rfl)
  na_places := He.noat_ok (c.fact 19 (f := .noat "Lot" "places") rfl)
theorem i_BadPlace (c : He.SaysD fas fns K) (e : exB K = true) (base : Heap) : ErrI P w K mg base (He.ga K "BadPlace") "number" := by
  obtain ⟨fd, F⟩ := c.def_ 13 (d := ⟨("BadPlace", some "__init__"), "__init__", "BadPlace.__init__", defArgs s_BadPlace_init, defBody s_BadPlace_init, defScope s_BadPlace_init, [], []⟩) rfl
  have E := errB_ok ((ex_of e).err "BadPlace" (by decide +kernel))
  obtain ⟨b1, b⟩ := andB ((ex_of e).init "BadPlace" (by decide +kernel))
  obtain ⟨b2, b3⟩ := andB b
  have no := He.noat_ok (c.fact 30 (f := .noat "BadPlace" "number") rfl)
  exact ⟨E, E.oex b1, no, _, fd, of_decide_eq_true b2, of_decide_eq_true b3, oki_BadPlace_init F (E.oex b1) no, FunD.bindsN (ps := ["self", "number"]) F fun _ _ _ _ _ _ us hl => match us, hl with | [_, _], _ => rfl⟩
theorem facts {f : Addr} (X : K.In h) (G : h.Ns mainGlobals mg) (hfa : mg ("law" : Str) = some (.ref f)) (c : He.SaysD fas fns K) (e : exB K = true) (ep : (pqs.map fun q => fnAt K (q.g K)) = pqs.map fun q => q.d.val) :
    ∃ fd : FuncData, (∀ (s : Shared) (v : Value), BindsTo s fd ⟨[v], []⟩ [("_law_script", v)]) ∧ ∀ base : Heap, K.In base → base.Ns mainGlobals mg → FnOk P w K mg base CX0 7 f fd ["_law_script"] (spLaw K) := by
  obtain ⟨fd_pool, F_pool⟩ := c.def_ 0 (d := ⟨("_law_pool", none), "_law_pool", "_law_pool", defArgs s_pool, defBody s_pool, defScope s_pool, [], []⟩) rfl
  obtain ⟨fd_draw, F_draw⟩ := c.def_ 1 (d := ⟨("_law_draw", none), "_law_draw", "_law_draw", defArgs s_draw, defBody s_draw, defScope s_draw, [], []⟩) rfl
  obtain ⟨fd_numbers, F_numbers⟩ := c.def_ 2 (d := ⟨("_law_numbers", none), "_law_numbers", "_law_numbers", defArgs s_numbers, defBody s_numbers, defScope s_numbers, [], []⟩) rfl
  obtain ⟨fd_set, F_set⟩ := c.def_ 3 (d := ⟨("_law_set", none), "_law_set", "_law_set", defArgs s_set, defBody s_set, defScope s_set, [], []⟩) rfl
  obtain ⟨fd_same, F_same⟩ := c.def_ 4 (d := ⟨("_law_same", none), "_law_same", "_law_same", defArgs s_same, defBody s_same, defScope s_same, [], []⟩) rfl
  obtain ⟨fd_is_number, F_is_number⟩ := c.def_ 5 (d := ⟨("is_number", none), "is_number", "is_number", defArgs s_is_number, defBody s_is_number, defScope s_is_number, [], []⟩) rfl
  obtain ⟨fd_Lot_init, F_Lot_init⟩ := c.def_ 6 (d := ⟨("Lot", some "__init__"), "__init__", "Lot.__init__", defArgs s_Lot_init, defBody s_Lot_init, defScope s_Lot_init, [], []⟩) rfl
  obtain ⟨fd_Lot_eq, F_Lot_eq⟩ := c.def_ 7 (d := ⟨("Lot", some "__eq__"), "__eq__", "Lot.__eq__", defArgs s_Lot_eq, defBody s_Lot_eq, defScope s_Lot_eq, [], []⟩) rfl
  obtain ⟨fd_Lot_len, F_Lot_len⟩ := c.def_ 8 (d := ⟨("Lot", some "__len__"), "__len__", "Lot.__len__", defArgs s_Lot_len, defBody s_Lot_len, defScope s_Lot_len, [], []⟩) rfl
  obtain ⟨fd_Lot_contains, F_Lot_contains⟩ := c.def_ 9 (d := ⟨("Lot", some "__contains__"), "__contains__", "Lot.__contains__", defArgs s_Lot_contains, defBody s_Lot_contains, defScope s_Lot_contains, [], []⟩) rfl
  obtain ⟨fd_built, F_built⟩ := c.def_ 10 (d := ⟨("_law_built", none), "_law_built", "_law_built", defArgs s_built, defBody s_built, defScope s_built, [], []⟩) rfl
  obtain ⟨fd_law, F_law⟩ := c.def_ 11 (d := ⟨("law", none), "law", "law", defArgs s_law, defBody s_law, defScope s_law, [], []⟩) rfl
  have T0 := of_TxN X G c e ep
  have T1 := of_TxP X G c e ep
  have T2 := of_TxC X G c e ep
  have hlaw := He.glo_ok X G (c.fact 13 (f := .glo "law") rfl)
  have q := hfa.symm.trans hlaw
  cases q
  have b := FunD.bindsA (ps := ["_law_script"]) F_law fun _ _ _ _ _ _ us hl => match us, hl with | [_], _ => rfl
  refine ⟨fd_law, fun s v => b s [v] rfl, fun base _ _ => ?_⟩
  have I_BadPlace : ErrI P w K mg base (He.ga K "BadPlace") "number" := i_BadPlace c e base
  obtain ⟨fd_iter_Lot, F_iter_Lot⟩ := c.def_ 12 (d := ⟨("Lot", some "__iter__"), "__iter__", "Lot.__iter__", defArgs s_Lot_iter, defBody s_Lot_iter, defScope s_Lot_iter, [], []⟩) rfl
  have G_iter_Lot := okn_Lot_iter (P := P) (w := w) (mg := mg) (base := base) F_iter_Lot T2
  have b_iter_Lot := FunD.bindsN (ps := ["self"]) F_iter_Lot fun _ _ _ _ _ _ us hl => match us, hl with | [_], _ => rfl
  have d_pool : Okd P w K mg base CX0 1 (He.ga K "_law_pool") ["_law_script"] (spPool K) := ⟨_, ok_pool F_pool , FunD.bindsN F_pool fun _ _ _ _ _ _ us hl => match us, hl with | [_], _ => rfl⟩
  have d_draw : Okd P w K mg base CX0 1 (He.ga K "_law_draw") ["_law_pool_here", "_law_limit"] (spDraw K) := ⟨_, ok_draw F_draw ⟨He.free_ok X G (c.fact 4 (f := .free "len") rfl), He.free_ok X G (c.fact 6 (f := .free "abs") rfl), He.free_ok X G (c.fact 7 (f := .free "int") rfl)⟩, FunD.bindsN F_draw fun _ _ _ _ _ _ us hl => match us, hl with | [_, _], _ => rfl⟩
  have d_set : Okd P w K mg base CX0 1 (He.ga K "_law_set") ["_law_numbers_here"] (spSet .lst) := ⟨_, ok_set F_set T0, FunD.bindsN F_set fun _ _ _ _ _ _ us hl => match us, hl with | [_], _ => rfl⟩
  have d_is_number : Okd P w K mg base CX0 1 (He.ga K "is_number") ["value"] spIsNum := ⟨_, ok_is_number F_is_number T2, FunD.bindsN F_is_number fun _ _ _ _ _ _ us hl => match us, hl with | [_], _ => rfl⟩
  have d_Lot_eq : Okd P w K mg base CX0 1 (He.ma K (He.ga K "Lot") "__eq__") ["self", "other"] (spLotEq K) := ⟨_, ok_Lot_eq F_Lot_eq T2, FunD.bindsN F_Lot_eq fun _ _ _ _ _ _ us hl => match us, hl with | [_, _], _ => rfl⟩
  have d_Lot_len : Okd P w K mg base CX0 1 (He.ma K (He.ga K "Lot") "__len__") ["self"] (spLotLen K) := ⟨_, ok_Lot_len F_Lot_len T2, FunD.bindsN F_Lot_len fun _ _ _ _ _ _ us hl => match us, hl with | [_], _ => rfl⟩
  have d_Lot_contains : Okd P w K mg base CX0 1 (He.ma K (He.ga K "Lot") "__contains__") ["self", "place"] (spLotIn K) := ⟨_, ok_Lot_contains F_Lot_contains T2, FunD.bindsN F_Lot_contains fun _ _ _ _ _ _ us hl => match us, hl with | [_, _], _ => rfl⟩
  have d_numbers : Okd P w K mg base CX0 2 (He.ga K "_law_numbers") ["_law_pool_here", "_law_spoils"] (spNums K 13) := ⟨_, ok_numbers F_numbers T0 d_draw, FunD.bindsN F_numbers fun _ _ _ _ _ _ us hl => match us, hl with | [_, _], _ => rfl⟩
  have d_same : Okd P w K mg base CX0 3 (He.ga K "_law_same") ["_law_lot", "_law_numbers_here"] (spSame K) := ⟨_, ok_same F_same T0 T1 d_set d_Lot_len d_Lot_contains G_iter_Lot b_iter_Lot, FunD.bindsN F_same fun _ _ _ _ _ _ us hl => match us, hl with | [_, _], _ => rfl⟩
  have d_Lot_init : Okd P w K mg base (L2.CX P w) 3 (He.ma K (He.ga K "Lot") "__init__") ["self", "places"] (spLotInit K) := ⟨_, ok_Lot_init F_Lot_init T2 I_BadPlace d_is_number, FunD.bindsN F_Lot_init fun _ _ _ _ _ _ us hl => match us, hl with | [_, _], _ => rfl⟩
  have d_built : Okd P w K mg base CX0 6 (He.ga K "_law_built") ["_law_numbers_here"] (spLawBuilt K) := ⟨_, ok_built F_built T0 T1 I_BadPlace d_Lot_init, FunD.bindsN F_built fun _ _ _ _ _ _ us hl => match us, hl with | [_], _ => rfl⟩
  exact ok_law F_law T0 T1 d_pool d_draw d_numbers d_set d_built d_same d_Lot_init d_Lot_len d_Lot_eq G_iter_Lot b_iter_Lot
end
end Kx
open PySem PySem.W PyProof.Rows
set_option maxRecDepth 100000 in
set_option maxHeartbeats 0 in
theorem PySem.Challenge.cw_savedseats_k04_lots_built_holds : PySem.Challenge.rw_savedseats_k04_lots_built.Holds := by
  w_on; o_law
  refine HandSHeadRun.head_any (r := OpenLaw.row PySem.Challenge.rw_savedseats_k04_lots_built) (q := view (OpenLaw.row PySem.Challenge.rw_savedseats_k04_lots_built).prog [14]) (H := Kx.hkx) (ob := Kx.obx) (M := 100000) (loose := Kx.loose) (d := HandSHeadRun.topDef (OpenLaw.row PySem.Challenge.rw_savedseats_k04_lots_built).prog 14) (kwd := []) Kx.obx_eq
    (by kernel_rfl) (fun s => by kernel_rfl) Kx.runx (by kernel_rfl) (by kernel_rfl) (by kernel_rfl) (by rfl) (by first | assumption | decide +kernel) (by decide +kernel) ⟨rfl, rfl, rfl, rfl, rfl, by decide +kernel⟩ ?hw ?hc
  case hw => w_witness2
  case hc =>
    refine L2.walk_ofE (l := PySem.Challenge.rw_savedseats_k04_lots_built) (n := 63) (k := 7) (x := "_law_script") (CX := L2.CX0) rfl (by decide) (by kernel_rfl) ⟨rfl, by decide, by decide⟩ ?F (fun _ _ _ _ z => z)
    intro w mg fa h Y G hmg0
    obtain ⟨K, KX, c, ep⟩ := Y
    have hmg : mg ("law" : PySem.Str) = some (.ref fa) := by
      have e : (HandSHeadRun.topDef (OpenLaw.row PySem.Challenge.rw_savedseats_k04_lots_built).prog 14).name = ("law" : PySem.Str) := by kernel_rfl
      rw [← e]
      exact hmg0
    obtain ⟨fd, hb, hF⟩ := Kx.facts (P := (PySem.Challenge.rw_savedseats_k04_lots_built).prog) (w := w) KX G hmg c.t.d c.more ep
    exact ⟨K, fd, Kx.spLaw K, KX, hb, fun H a ns hl hO hS => ⟨a, ns, rfl, Kx.Scr.of hO hS, fun _ => rfl⟩, hF⟩
