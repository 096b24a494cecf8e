import PyProof.Rows.All
import Wide.All
import OpenK.AllK
import Wide.FinOn
import HandS.Deep
import HandS.ExcIs
import HandS.ForMost
import HandS.Defaults
import HandS.Codes
import HandS.Wide
import HandS.Exc
import HandS.ExcOwn
import HandS.ExcInit
import HandS.ExcValue
import HandS.IsInst
import KE.KExcIs
import HandS.HeadHook4
import PyProof.P3Eq
import HandS.Strs
import HandS.SetFor
import HandS.TupSets
import HandS.TryOnly
import HandS.DictComp
import HandS.Walk
import HandS.OwnEq
import HandS.SlotsOwn
import HandS.Property
import HandS.ExcField
import KE.KRevSl
import HandS.TryMany
import HandS.Small
import KE.KStateDown
import HandS.Head0
import HandS.Head1
import HandS.Head2
import HandS.HeadEnd
import PySem.Challenge.RW_savedseats_k01_web_errors
set_option Elab.async false
set_option linter.all false
set_option maxRecDepth 100000
set_option maxHeartbeats 4000000
namespace Kx
open PySem PySem.Spec PyProof.Rows L2
/-! ### an own error over ValueError: what the text says of its class, as one Bool -/
/-- the class of an error with an own __init__(self, f) that keeps f -/
def oexB (K : PySem.W.Frag) (C : Addr) : Bool := match K.lookup C with
  | some ⟨.type "type", _, .cls cd, sl⟩ => (match cd.mro, sl.toList with
    | .ref C' :: bm, [_, _, _, _, some (.builtin n), _] => C' == C && n == "ValueError.__new__" && !cd.hasDel && cd.hasDict && PySem.HandSPX.refsVE bm
    | _, _ => false)
  | _ => false
theorem oexB_ok {K : PySem.W.Frag} {C : Addr} (q : oexB K C = true) : ∃ nm q N bs bm sn sub ab col dd k0 k1 k2 k3 k5, K.lookup C = some (excClassObj nm q C N bs bm true sn sub ab col dd k0 k1 k2 k3 k5 "ValueError.__new__") ∧ PySem.HandSPX.refsVE bm = true := by
  unfold oexB at q
  split at q
  · rename_i dd cd sl ho
    split at q
    · rename_i C' bm k0 k1 k2 k3 n k5 hm hs
      simp only [Bool.and_eq_true, beq_iff_eq, Bool.not_eq_true'] at q
      obtain ⟨⟨⟨⟨rfl, rfl⟩, hdel⟩, hdct⟩, ht⟩ := q
      obtain ⟨nm, bs, mro, ns, qn, hd, sn, sub, ab, col, del⟩ := cd
      dsimp only at hm hdel hdct
      subst hm hdel hdct
      have hsl : sl = #[k0, k1, k2, k3, some (.builtin "ValueError.__new__"), k5] := by
        obtain ⟨l⟩ := sl
        simp only at hs
        rw [hs]
      subst hsl
      exact ⟨nm, qn, ns, bs, bm, sn, sub, ab, col, dd, k0, k1, k2, k3, k5, ho, ht⟩
    · cases q
  · cases q
def eqOB (a b : Option (Option Value)) : Bool := decide (a = b)
def eqVB (a b : Option Value) : Bool := decide (a = b)
def eqBB (a b : Option Bool) : Bool := decide (a = b)
/-- what is asked of each error's class -/
def errB (K : PySem.W.Frag) (C : Addr) : Bool :=
  eqOB (PySem.W.findIn K (.ref C) "__setattr__") (some (some (.builtin "object.__setattr__"))) && (eqBB (PySem.W.subIn K (.ref C) (.type "BaseException")) (some true) && (eqVB (PySem.W.typeIn K (.ref C)) (some (.type "type")) && (PySem.W.keepIn K (.ref C) &&
  (eqOB (PySem.W.findIn K (.ref C) "__getattribute__") (some (some (.builtin "BaseException.__getattribute__"))) && (eqOB (PySem.W.findIn K (.ref C) "__getattr__") (some none) && (PySem.W.hasDictIn K C && (eqOB (PySem.W.findIn K (.ref C) "__class__") (some (some (.builtin "object.__class__"))) &&
  (eqOB (PySem.W.specialIn K (.builtin "object.__class__") "__get__") (some (some (.builtin "getset_descriptor.__get__"))) && (eqBB (PySem.W.takesIn K (.builtin "object.__class__")) (some true) && (eqBB (PySem.W.mroIn K C (.type "object")) (some true) && (PySem.W.clsIn K C).isSome))))))))))
structure ErrC (K : PySem.W.Frag) (C : Addr) : Prop where
  sa : PySem.W.findIn K (.ref C) "__setattr__" = some (some (.builtin "object.__setattr__"))
  exC : PySem.W.subIn K (.ref C) (.type "BaseException") = some true
  tyC : PySem.W.typeIn K (.ref C) = some (.type "type")
  kC : PySem.W.keepIn K (.ref C) = true
  ga : PySem.W.findIn K (.ref C) "__getattribute__" = some (some (.builtin "BaseException.__getattribute__"))
  gg : PySem.W.findIn K (.ref C) "__getattr__" = some none
  hd : PySem.W.hasDictIn K C = true
  ca : PySem.W.findIn K (.ref C) "__class__" = some (some (.builtin "object.__class__"))
  cg : PySem.W.specialIn K (.builtin "object.__class__") "__get__" = some (some (.builtin "getset_descriptor.__get__"))
  ct : PySem.W.takesIn K (.builtin "object.__class__") = some true
  cm : PySem.W.mroIn K C (.type "object") = some true
  cl : (PySem.W.clsIn K C).isSome = true
theorem andB {a b : Bool} (h : (a && b) = true) : a = true ∧ b = true := Bool.and_eq_true_iff.mp h
theorem errB_ok {K : PySem.W.Frag} {C : Addr} (h : errB K C = true) : ErrC K C := by
  obtain ⟨h1, h⟩ := andB h
  obtain ⟨h2, h⟩ := andB h
  obtain ⟨h3, h⟩ := andB h
  obtain ⟨h4, h⟩ := andB h
  obtain ⟨h5, h⟩ := andB h
  obtain ⟨h6, h⟩ := andB h
  obtain ⟨h7, h⟩ := andB h
  obtain ⟨h8, h⟩ := andB h
  obtain ⟨h9, h⟩ := andB h
  obtain ⟨h10, h⟩ := andB h
  obtain ⟨h11, h12⟩ := andB h
  exact ⟨of_decide_eq_true h1, of_decide_eq_true h2, of_decide_eq_true h3, h4, of_decide_eq_true h5, of_decide_eq_true h6, h7, of_decide_eq_true h8, of_decide_eq_true h9, of_decide_eq_true h10, of_decide_eq_true h11, h12⟩
theorem ErrC.oex {K : PySem.W.Frag} {C : Addr} (E : ErrC K C) (h : oexB K C = true) : OexC K C := ⟨oexB_ok h, E.sa, E.exC, E.tyC, E.kC⟩

/-! ### __init__(self, f): self.f = f -/
def spInit (C : Addr) (f : Str) : Sp := fun vs H Q _ => ∃ (a : Addr) (v : V), vs = [.ref a, v] ∧ H a = some (exo a C none) ∧
  ∀ dx, H dx = none → dx ≠ a → Q .non (upd (upd H dx (exd dx [(f, v)])) a (exo a C (some dx)))
/-- an error's class with its __init__ -/
structure ErrI (P : Program) (w : World) (K : PySem.W.Frag) (mg : Str → Option Value) (base : Heap) (C : Addr) (f : Str) : Prop where
  e : ErrC K C
  o : OexC K C
  no : PySem.W.findIn K (.ref C) f = some none
  init : ∃ fI fd, PySem.W.findIn K (.ref C) "__init__" = some (some (.ref fI)) ∧ PySem.W.typeIn K (.ref fI) = some (.type "function") ∧ FnOk P w K mg base CX0 1 fI fd ["self", f] (spInit C f) ∧ Binds K fd ["self", f] []
section
variable {X : Cx} {C : Addr} {f x : Str} {e : Expr} {ta : TA} {te : TE} {p pos : Pos}
/-- C(e) as a value: a new exception at a, its dict at d -/
def tErr (C : Addr) (f : Str) (ta : TA) : TE := fun σ H Q => ta σ H fun vs H1 => ∃ v, vs = [v] ∧ ∀ (a d : Addr) (H2 : Hp), H1 a = none → H1 d = none → H2 a = some (exo a C (some d)) → H2 d = some (exd d [(f, v)]) → Same H1 H2 → Q (.ref a) H2
theorem pe_err (T : ErrI X.prog X.w X.K X.mg X.base C f) (hr : Room 2 X.A) (hg : Gl X x) (hm : X.mg x = some (.ref C)) (ha : PA X [e] ta)
    (hdb : (x == ("__debug__" : Str)) = false := by decide) (he : starEach [e] X.env = (false, eval e X.env) :: starEach [] X.env := by rfl) (hpl : (backTo pos (starEach [] X.env)).any (·.1) = false := by rfl) :
    PE X (.Call (.Name x p) [e] [] pos) (tErr C f ta) := by
  refine ⟨fun pins s σ H Q I h => ?_⟩
  obtain ⟨nm, q, N, bs, bm, sn, sub, ab, col, dd, k0, k1, k2, k3, k5, hC, hbm⟩ := T.o.cls
  obtain ⟨fI, fd, iC, tI, F1, hb⟩ := T.init
  refine wpAny_Call_Name_kw (ld_glob I hg hm ?_ hdb)
  refine PySem.W.callWith_K (h₀ := X.base) I.ok.mod.kin T.o.kC (thn (ha.run pos pins s σ H _ I h) fun us s1 ⟨vs, H1, I1, r1, v, ev, q1⟩ => ⟨I1.kIn, ?_⟩) he hpl
  subst ev
  show wpAny _ _ (call (.ref C) us) _ _ _
  obtain ⟨hp, g, dr, tk, os⟩ := s1
  have hsz : hp.objs.size ≤ hp.objs.size + 1 := Nat.le_succ _
  have hn : H1 (hp.objs.size + 1) = none := I1.hok.fresh hsz
  have kk : ∀ b o, hp.get? b = some o → ((hp.push (PySem.W.kdv_tup us)).push (PySem.HandSPX.excO C hp.objs.size)).get? b = some o := fun b o e => Heap.get?_push_of_some _ (Heap.get?_push_of_some _ e)
  have hget : ((hp.push (PySem.W.kdv_tup us)).push (PySem.HandSPX.excO C hp.objs.size)).get? (hp.objs.size + 1) = some (PySem.HandSPX.excO C hp.objs.size) := by heap_get
  have I2 : Inv X pins σ (upd H1 (hp.objs.size + 1) (exo (hp.objs.size + 1) C none)) ⟨(hp.push (PySem.W.kdv_tup us)).push (PySem.HandSPX.excO C hp.objs.size), g, dr, tk, os⟩ :=
    I1.laid (t' := tk) (a := hp.objs.size + 1) (o := exo (hp.objs.size + 1) C none) (h' := (hp.push (PySem.W.kdv_tup us)).push (PySem.HandSPX.excO C hp.objs.size)) kk hsz (exo_ok hget)
  have r2 : Vals [V.ref (hp.objs.size + 1), v] (Value.ref (hp.objs.size + 1) :: us) := .cons rfl r1
  have hq : spInit C f [V.ref (hp.objs.size + 1), v] (upd H1 (hp.objs.size + 1) (exo (hp.objs.size + 1) C none)) (fun u H2 => u = .non ∧ Q (.ref (hp.objs.size + 1)) H2) (fun _ _ _ => False) :=
    ⟨_, v, rfl, upd_same, fun dx ndx ne => ⟨rfl, by
      have nd1 : H1 dx = none := by rw [upd_ne ne] at ndx; exact ndx
      refine q1 _ dx _ hn nd1 upd_same (by rw [upd_ne ne, upd_same]) fun b o e => ?_
      rw [upd_ne (ne_of_none e hn), upd_ne (ne_of_none e nd1), upd_ne (ne_of_none e hn)]
      exact e⟩⟩
  have hl : ((Value.ref (hp.objs.size + 1) :: us) ++ []).length = (["self", f] : List Str).length := by
    rw [List.append_nil]
    exact r2.length.symm
  have hbb := hb _ (Value.ref (hp.objs.size + 1) :: us) I2.kIn hl
  rw [List.append_nil] at hbb
  have hus : us.length ≤ sizeLine := by
    rw [← Paired.length r1]
    show 1 ≤ sizeLine
    decide
  refine wpAny_call (PySem.HandSPX.call_own F.excBase_ValueError (fun Y => PySem.HandSPX.refsVE_contains Y bm hbm) (I1.kIn _ _ hC) (PySem.W.looks_findIn I1.kIn iC) (fun self => PySem.W.bind_fn I1.kIn self tI) hus
    (codeAny_mono (F1.run _ X.stack _ _ ⟨Value.ref (hp.objs.size + 1) :: us, []⟩ (Value.ref (hp.objs.size + 1) :: us) _ _ (fun _ _ _ => False) (hr.make C us []) (I2.env0.make C us []) hbb r2 hq) fun r s' hq' => ?_))
  cases r with
  | error er => exact False.elim hq'
  | ok fl =>
    cases fl with
    | ret u =>
      obtain ⟨v', H', I3, rv, ev, q3⟩ := I2.after hq'
      subst ev
      exact ⟨rv, ⟨V.ref (hp.objs.size + 1), H', I3, rfl, q3⟩⟩
    | next => exact False.elim hq'
    | brk => exact False.elim hq'
    | cont => exact False.elim hq'
/-- C(), an own error class without own __init__, as a value -/
def tErr0 (C : Addr) : TE := fun _ H Q => ∀ a, H a = none → Q (.ref a) (upd H a (ExO (.ref C) a))
theorem pe_err0 (q : PySem.W.excIn X.K C He.veBase "ValueError.__new__" = true) (kC : PySem.W.keepIn X.K (.ref C) = true) (hg : Gl X x) (hm : X.mg x = some (.ref C))
    (hdb : (x == ("__debug__" : Str)) = false := by decide) : PE X (.Call (.Name x p) [] [] pos) (tErr0 C) := by
  refine ⟨fun pins s σ H Q I h => ?_⟩
  refine wpAny_Call_Name_kw (ld_glob I hg hm ?_ hdb)
  refine PySem.W.callWith_K0 I.kIn kC ?_
  show wpAny _ _ (call (.ref C) []) _ _ _
  obtain ⟨bm, N, nm, qn, bs, hdct, sn, sub, ab, col, dd, k0, k1, k2, k3, k5, mN, hC, hN, hni, T⟩ := exc_obj I.kIn q
  refine wpAny_call_exc_subT F.excBase_ValueError T hC hN hni (fun h' a hm => ?_) (by show 0 ≤ sizeLine; exact Nat.zero_le _)
  have hn : H a = none := I.hok.gone hm.new
  obtain ⟨t, ht, _, _⟩ := hm.there
  exact ⟨.ref a, upd H a (ExO (.ref C) a), I.laidN hm.keeps hm.new hn (exO_ok ht ⟨rfl, rfl⟩ rfl rfl rfl (show 4 < 6 by decide)), rfl, h a hn⟩
/-- an exception of the class C stands at e, not raised -/
def XV (H : Hp) (C e : Addr) : Prop := (∃ d fs, H e = some (exo e C (some d)) ∧ H d = some (exd d fs)) ∨ H e = some (ExO (.ref C) e)
/-- a.f, a an exception -/
def tErrF (K : PySem.W.Frag) (f : Str) (te : TE) : TE := fun σ H Q => te σ H fun x H1 => ∃ (a C d : Addr) (fs : List (Str × V)) (v : V), x = .ref a ∧ ErrC K C ∧ PySem.W.findIn K (.ref C) f = some none ∧ H1 a = some (exo a C (some d)) ∧ H1 d = some (exd d fs) ∧ fs.lookup f = some v ∧ Q v H1
theorem pe_errF (he : PE X e te) (hb : attributeBase e f X.env (eval e X.env) = eval e X.env := by rfl) : PE X (.Attribute e f pos) (tErrF X.K f te) := by
  refine ⟨fun pins s σ H Q I h => ?_⟩
  refine attr_of hb (thn (he.run pins s σ H _ I h) fun u s1 hh => ?_)
  obtain ⟨x, H1, I1, rx, a, C, d, fs, v, ex, T, hno, ea, ed, l, q⟩ := hh
  subst ex
  obtain rfl : u = Value.ref a := rx
  obtain ⟨t1, ha⟩ := exo_at I1.hok ea
  obtain ⟨mA, hns, hr⟩ := exd_at I1.hok ed
  obtain ⟨od, ho, hl⟩ := lookIn_ns hns
  obtain ⟨u, hu, ru⟩ := RelO.some_of (v := v) (o := mA f) (by rw [← l]; exact hr f)
  have J : PySem.W.InstAt s1.heap a { cls := .ref C, dict := some d, data := .fields #[.ref t1, .none, .none, .none, .bool false, .none] } C (some od) := ⟨ha, rfl, rfl, ho⟩
  exact HandSPX.exc_get I1.kIn J T.ga T.gg T.exC (PySem.W.findObj_own T.hd hno rfl (by rw [hl, hu])) (handed_of ru) ⟨v, H1, I1.tok _, ru, q⟩
/-- isinstance(e, c), e an exception that is held -/
def rIsV (K : PySem.W.Frag) : List V → Hp → VK → Prop := fun xs H Q => ∃ (e C : Addr) (c : V) (u : Value) (b : Bool), xs = [.ref e, c] ∧ ClsV c u ∧ XV H C e ∧ ErrC K C ∧ PySem.W.kitOne K (.ref C) u = some b ∧ Q (.bl b) H
theorem call_isV : CallR X (.builtin "isinstance") (rIsV X.K) := by
  intro pins s σ H xs us Q I r h
  obtain ⟨a, C, c, u, b, rfl, k, xv, T, e, q⟩ := h
  obtain ⟨u1, u2, rfl, r1, r2⟩ := vals2 r
  have e2 := k.eq r2
  subst e2
  obtain rfl : u1 = Value.ref a := r1
  rcases xv with ⟨d, fs, ea, ed⟩ | ea
  · obtain ⟨t1, ha⟩ := exo_at I.hok ea
    obtain ⟨mA, hns, hr⟩ := exd_at I.hok ed
    obtain ⟨od, ho, hl⟩ := lookIn_ns hns
    have J : PySem.W.InstAt s.heap a { cls := .ref C, dict := some d, data := .fields #[.ref t1, .none, .none, .none, .bool false, .none] } C (some od) := ⟨ha, rfl, rfl, ho⟩
    exact PySem.W.kia_one (PySem.W.kitx_exc T.cl T.ga T.gg T.exC T.ca T.cg T.ct T.cm) I.kIn J e (fun z => nomatch z) fun tk => ⟨.bl b, H, I.kept (t' := tk) fun _ _ z => z, rfl, q⟩
  · obtain ⟨⟨oe, vs, ho, hz, hd, h1, _⟩, _, _⟩ := (show ObjOk X.prog X.w H s.heap a (ExO (.ref C) a) from I.hok a _ ea)
    have J : PySem.W.InstAt s.heap a oe C none := by
      obtain ⟨oc, od, oda, osl⟩ := oe
      obtain ⟨z1, z2⟩ := hz
      dsimp only at z1 z2 hd
      subst z1 z2 hd
      exact ⟨ho, rfl, rfl, trivial⟩
    exact PySem.W.kia_one (PySem.W.kitx_exc T.cl T.ga T.gg T.exC T.ca T.cg T.ct T.cm) I.kIn J e (fun z => nomatch z) fun tk => ⟨.bl b, H, I.kept (t' := tk) fun _ _ z => z, rfl, q⟩
end
/-- the __init__ of an error, as the text has it -/
theorem ok_init {P : Program} {w : World} {K : PySem.W.Frag} {mg : Str → Option Value} {base : Heap} {x qual f : Str} {params : Arguments} {body : List Stmt} {scope : Scope} {fI C : Addr} {fd : FuncData}
    (F : FunD K x qual params body scope [] [] fI fd) (sc : FnScope (["self", f] : List Str) ["self", f] scope) (T : OexC K C) (no : PySem.W.findIn K (.ref C) f = some none)
    (hb : ∀ X : Cx, X.N = (["self", f] : List Str) → X.env.scope = scope → PSs X body (tOst X.K f (tVar 0) (tVar 1))) : FnOk P w K mg base CX0 1 fI fd (["self", f] : List Str) (spInit C f) := by
  refine F.ok sc (fun vs H Q E h => ?_) (fun cdv A outer s H vs Q E hr h => ?_)
  · obtain ⟨a, v, rfl, _⟩ := h
    rfl
  · obtain ⟨a, v, rfl, ha, k⟩ := h
    refine ⟨_, hb _ rfl rfl, ?_⟩
    exact ⟨_, rfl, _, rfl, a, C, rfl, T, no, .inl ⟨ha, fun dx n ne => k dx n ne⟩⟩
end Kx

namespace Kx
open PySem PySem.Spec PyProof.Rows L2
/-! ### flat values as data -/
def dV : V → PyData
  | .non => .none
  | .bl b => .bool b
  | .int i => .int i
  | .str x => .str x
  | _ => .none
def okV : V → Bool
  | .non => true
  | .bl _ => true
  | .int _ => true
  | .str x => PyData.strOk x
  | _ => false
theorem dp_flat {K : PySem.W.Frag} {H : Hp} : ∀ {v : V}, okV v = true → Dp K H v (dV v)
  | .non, _ => .non
  | .bl b, _ => .bl b
  | .int i, _ => .int i
  | .str x, _ => .str x
theorem dp_all {K : PySem.W.Frag} {H : Hp} : ∀ {xs : List V}, xs.all okV = true → DpAll K H xs (xs.map dV)
  | [], _ => .nil
  | v :: r, h => by
    rw [List.all_cons, Bool.and_eq_true] at h
    exact .cons (dp_flat h.1) (dp_all h.2)
theorem lay_flat : ∀ {v : V}, okV v = true → (dV v).canLay0 = true
  | .non, _ => rfl
  | .bl b, _ => rfl
  | .int i, _ => rfl
  | .str x, h => h
theorem lay_all : ∀ {xs : List V}, xs.all okV = true → PyData.canLayAll0 (xs.map dV) = true
  | [], _ => rfl
  | v :: r, h => by
    rw [List.all_cons, Bool.and_eq_true] at h
    rw [List.map_cons, PyData.canLayAll0, lay_flat h.1, lay_all h.2]
    rfl
theorem depth_flat : ∀ v : V, (dV v).depth ≤ 1
  | .non => by simp [dV, PyData.depth]
  | .bl b => by simp [dV, PyData.depth]
  | .int i => by simp [dV, PyData.depth]
  | .str x => by simp [dV, PyData.depth]
  | .byt _ => by simp [dV, PyData.depth]
  | .flt _ => by simp [dV, PyData.depth]
  | .ref _ => by simp [dV, PyData.depth]
  | .ty _ => by simp [dV, PyData.depth]
theorem depth_all : ∀ xs : List V, PyData.depthAll (xs.map dV) ≤ 1
  | [] => by simp [PyData.depthAll]
  | v :: r => by
    have h1 := depth_flat v
    have h2 := depth_all r
    simp only [List.map_cons, PyData.depthAll]
    omega
theorem shaped_flat {v : V} (h : okV v = true) : SeqAt.shaped (dV v) = true := by
  unfold SeqAt.shaped
  rw [lay_flat h, decide_eq_true (Nat.le_trans (depth_flat v) (by decide))]
  rfl
theorem shaped_tup {xs : List V} (h : xs.all okV = true) : SeqAt.shaped (.tuple (xs.map dV)) = true := by
  unfold SeqAt.shaped
  have e : (PyData.tuple (xs.map dV)).canLay0 = true := lay_all h
  have d : (PyData.tuple (xs.map dV)).depth ≤ 64 := by
    have h2 := depth_all xs
    simp only [PyData.depth]
    omega
  rw [e, decide_eq_true d]
  rfl
theorem shaped_lst {xs : List V} (h : xs.all okV = true) : SeqAt.shaped (.list (xs.map dV)) = true := by
  unfold SeqAt.shaped
  have e : (PyData.list (xs.map dV)).canLay0 = true := lay_all h
  have d : (PyData.list (xs.map dV)).depth ≤ 64 := by
    have h2 := depth_all xs
    simp only [PyData.depth]
    omega
  rw [e, decide_eq_true d]
  rfl
theorem eqv_self {d : PyData} (h : SeqAt.shaped d = true) : PyData.eqv d d = true := PySem.SeqAt.eqv_refl d (SeqAt.canLay_of_shaped h)
end Kx

namespace Kx
open PySem PySem.Spec PyProof.Rows L2
/-! ### a set of tuples of ints that is asked (of a tuple that is not in it) and grows -/
section
variable {P : Program} {w : World} {A : Around} {E : Value → Shared → Prop} {s : Shared} {a x : Addr} {L : List (Addr × List Int)} {es : Array (Int × Value)} {ep : Nat} {t : SetTable} {k : List Int}
abbrev wayP (t : SetTable) (h : Int) (c : Nat) : SetTable.Probe := nth t.mask (runAt t.mask (SetTable.bits h % (t.mask + 1)) (SetTable.bits h)) c
theorem wayP_add (t : SetTable) (h : Int) (c q : Nat) : nth t.mask (wayP t h c) q = wayP t h (c + q) := (nth_add t.mask c _ q).symm
theorem nth_dummy (m : Nat) : ∀ (n : Nat) (p : SetTable.Probe), p.dummy = none → (nth m p n).dummy = none
  | 0, _, h => h
  | n + 1, p, h => nth_dummy m n _ (by unfold adv; split <;> exact h)
/-- a tuple that is not in: from the c-th step of its way on the search ends at the free place K -/
theorem seek_out (R : SetTR P w s.heap a L es ep t) (hx : IsT P w s.heap k x) (hu : A.units < cLine) (no : k ∉ L.map (·.2)) {K : Nat} (hKf : K < 10 * SetTable.turns t.mask) (hK : way t.mask (thash P w k) K ∉ t.place.toList)
    (hKb : ∀ c, c < K → way t.mask (thash P w k) c ∈ t.place.toList) {Q : SetFound → Shared → Prop} (out : Q (.free (way t.mask (thash P w k) K) false) s) :
    ∀ (f c : Nat) (stand : Option SetTable.Probe), stand.getD (t.probeStart (thash P w k)) = wayP t (thash P w k) c → c ≤ K → K - c < f → wpAny (model P w) A (setSearchFrom a (.ref x) (thash P w k) false f stand) Q E s := by
  obtain ⟨o, ho, hex, hd⟩ := R.ob
  intro f
  induction f with
  | zero => intro c stand _ _ hf; omega
  | succ f ih =>
    intro c stand hst hc hf
    have atJ : ∀ q, (nth t.mask (wayP t (thash P w k) c) q).j = way t.mask (thash P w k) (c + q) := fun q => congrArg (·.j) (wayP_add t _ c q)
    rw [setSearchFrom_succ]
    refine wpAny_bind (wpAny_setState_of ho hd R.fits (wp_if_neg R.gw (wpAny_bind (wpAny_pure ?_))))
    rcases go_spec t R.tab.ris R.tab.dm (fun i => (es[i]?.map (·.1)).getD 0) (thash P w k) (10 * SetTable.turns t.mask) (K - c) (wayP t (thash P w k) c) (nth_dummy _ c _ rfl) (by omega)
      (fun q hq => by rw [atJ]; exact hKb _ (by omega)) (by rw [atJ, Nat.add_sub_cancel' hc]; exact hK) with ⟨q, i, hq, hi, _, _, found⟩ | ⟨_, found⟩
    · have found' : t.probe (fun i => (es[i]?.map (·.1)).getD 0) (thash P w k) (stand.getD (t.probeStart (thash P w k))) = some (.candidate (way t.mask (thash P w k) (c + q)) i (wayP t (thash P w k) (c + (q + 1)))) := by
        rw [hst, ← atJ, ← wayP_add]
        exact found
      rw [found']
      rw [atJ] at hi
      have small : i < L.length := by
        have h1 := (List.getElem?_eq_some_iff.mp hi).1
        have h2 := R.tab.sz
        simp only [Array.length_toList, List.length_map] at h1 h2
        omega
      obtain ⟨p, hp⟩ : ∃ p, L[i]? = some p := ⟨_, List.getElem?_eq_getElem small⟩
      have inL : p ∈ L := List.mem_of_getElem? hp
      have unlike : ¬ p.2 = k := fun e => no (List.mem_map.mpr ⟨p, inL, e⟩)
      have live := slot_live R.tab.ris hi
      have tail : wpAny (model P w) A (searchRest a (.ref x) (thash P w k) false f es t (way t.mask (thash P w k) (c + q)) i (wayP t (thash P w k) (c + (q + 1)))) Q E s := by
        unfold searchRest
        rw [R.entry hp]
        refine wpAny_bind (wpAny_holding (wpAny_eqBool_tuple hu (R.tup p inL) hx (wpAny_bind (wpAny_setState_of ho hd R.fits ?_))))
        refine wp_if_neg (by simp) (wpAny_bind (wpAny_pure ?_))
        rw [sameMem]
        simp only [if_true, live, R.entry hp]
        refine wpAny_bind (wpAny_isSame_ref_self (wpAny_bind (wpAny_pure ?_)))
        simp only [if_true]
        exact wp_if_neg (by simp [unlike]) (ih _ _ rfl (by omega) (by omega))
      by_cases hl : t.led = true
      · exact wp_if_neg (by simp [hl]) (wpAny_bind (wpAny_pure tail))
      · refine wp_if_pos (by simp [hl]) (wpAny_bind (seen_tup hx (fun y hy => ?_) (wp_if_neg (by decide) (wpAny_bind (wpAny_pure tail)))))
        obtain ⟨e, he, rfl⟩ := List.mem_map.mp hy
        have he2 : e ∈ es.toList := by
          have := (show e ∈ es ∧ e.1 = thash P w k by simpa using he).1
          simpa using this
        rw [R.rows] at he2
        obtain ⟨p2, hp2, rfl⟩ := List.mem_map.mp he2
        exact ⟨p2.2, p2.1, rfl, R.tup p2 hp2⟩
    · have found' : t.probe (fun i => (es[i]?.map (·.1)).getD 0) (thash P w k) (stand.getD (t.probeStart (thash P w k))) = some (.empty (way t.mask (thash P w k) K) none) := by
        have e2 := atJ (K - c)
        rw [Nat.add_sub_cancel' hc] at e2
        rw [hst, ← e2]
        exact found
      rw [found']
      exact wpAny_pure out
theorem notin_setT (R : SetTR P w s.heap a L es ep t) (hx : IsT P w s.heap k x) (hu : A.units + 3 < cLine) (no : k ∉ L.map (·.2)) {Q : Bool → Shared → Prop} (h : ∀ tk, Q false { s with toks := tk }) :
    wpAny (model P w) A (setContains a (.ref x)) Q E s := by
  obtain ⟨o, ho, hex, hd⟩ := R.ob
  have room := R.room
  obtain ⟨K, hKf, hK, hKb⟩ := R.tab.first (by rw [List.length_map]; omega) (thash P w k)
  have big : K < 100000 := by
    have : 10 * SetTable.turns t.mask ≤ 1420 := by
      unfold SetTable.turns
      rcases R.tab.mok with e | e | e <;> omega
    omega
  unfold setContains
  refine wpAny_holding (wpAny_bind (wpAny_pyHash_tuple (by omega) hx (wpAny_bind ?_)))
  have R' : SetTR P w ({ s with toks := s.toks + (k.length + 1) } : Shared).heap a L es ep t := R
  show wpAny _ _ (setFind a (.ref x) (thash P w k)) _ _ _
  unfold setFind
  rw [show (100000 : Nat) = 99999 + 1 from rfl]
  unfold setFindIn
  refine wpAny_bind (wpAny_setState_of ho hd R.fits (wp_if_neg (by simp [byScan, Value.scannable]) (wpAny_bind ?_)))
  unfold setSearch
  refine seek_out (s := { s with toks := s.toks + (k.length + 1) }) R' hx (by omega) no hKf hK hKb ?_ 100000 0 none rfl (Nat.zero_le _) (by omega)
  exact wpAny_pure (wpAny_pure (h _))
/-- x in the set -/
theorem in_setT (R : SetTR P w s.heap a L es ep t) (hx : IsT P w s.heap k x) (hu : A.units + 8 < cLine) (no : k ∉ L.map (·.2)) {Q : Value → Shared → Prop} (h : ∀ tk, Q (.bool false) { s with toks := tk }) :
    wpAny (model P w) A (compareOp .In (.ref x) (.ref a)) Q E s := by
  obtain ⟨o, ho, hex, hd⟩ := R.ob
  have ty : s.TypeIs (.ref a) "set" := ⟨o, ho, hex.1⟩
  show wpAny _ _ (contains (.ref a) (.ref x) >>= fun b => pure (Value.bool b)) Q E s
  refine wpAny_bind ?_
  unfold contains
  try with_reducible refine wpAny_holding ?_
  refine wpAny_bind (wpAny_specialOf ty F.slot_set_contains.lookup (wp_if_neg (by rw [beq_builtin_none]; exact Bool.false_ne_true) ?_))
  refine wpAny_bind (wpAny_callSpecialUnlessNone?_slot (name := Str.ofString "__contains__") ty F.slot_set_contains (wpAny_call_entry F.slot_set_contains ty entry_set_contains ?_ (F.args_set_contains_2 _ _)))
  unfold Builtin.«frozenset.__contains__» Builtin.Frozenset.oneOther
  simp only [List.isEmpty_nil, bind_assoc]
  unfold Builtin.Frozenset.addrOf Builtin.Frozenset.withSetAsKey
  refine wpAny_bind (wpAny_pure (wpAny_bind (wpAny_pure (wpAny_bind (wpAny_tryCatch ?_)))))
  refine notin_setT R hx ?_ no fun tk => ?_
  · show A.units + 1 + 3 < cLine
    omega
  exact wpAny_pure ⟨_, rfl, wpAny_truthy_bool (wpAny_pure (h tk))⟩
end
section
variable {X : Cx}
def TupsT (K : PySem.W.Frag) (H : Hp) (L : List (Addr × List Int)) : Prop := ∀ p ∈ L, SqT K H p.1 (p.2.map V.int)
theorem full_of {pins : List (Addr × Obj)} {σ : L2.St} {H : Hp} {s : Shared} {a : Addr} {L : List (Addr × List Int)} (I : Inv X pins σ H s) (ha : H a = some (SetTO X.prog X.w a L)) (ht : TupsT X.K H L) : ∃ es ep t, SetTR X.prog X.w s.heap a L es ep t :=
  SetT0.full (I.hok a _ ha).1 fun p hp => I.isT (ht p hp)
/-- t in seen, t a tuple of ints that is not in it -/
def rInT0 (K : PySem.W.Frag) (P : Program) (w : World) : R2 := fun x y H Q => ∃ (b a : Addr) (k : List Int) (L : List (Addr × List Int)), x = .ref b ∧ y = .ref a ∧ SqT K H b (k.map V.int) ∧ H a = some (SetTO P w a L) ∧ TupsT K H L ∧ k ∉ L.map (·.2) ∧ Q (.bl false) H
theorem op_inT0 (hu : X.A.units + 64 < cLine) : OpR X (compareOp .In) (rInT0 X.K X.prog X.w) := by
  intro pins s σ H x y v u Q I rx ry h
  obtain ⟨b, a, k, L, rfl, rfl, hb, ha, ht, no, q⟩ := h
  cases rx
  cases ry
  obtain ⟨es, ep, t, R⟩ := full_of I ha ht
  exact in_setT R (I.isT hb) (by omega) no fun tk => ⟨.bl false, H, I.tok tk, rfl, q⟩
/-- set() of tuples to come -/
def rSet0T (P : Program) (w : World) : List V → Hp → VK → Prop := fun xs H Q => xs = [] ∧ ∀ p, H p = none → Q (.ref p) (upd H p (SetTO P w p []))
theorem cr_set0T : CallR X (.type "set") (rSet0T X.prog X.w) := by
  intro pins s σ H xs us Q I r h
  obtain ⟨rfl, q⟩ := h
  cases r
  refine setR_new fun _ => ?_
  have new := setTR_fresh (P := X.prog) (w := X.w) (h := s.heap.push { cls := .type "set", dict := none, data := .set #[] 0 (.fresh 0 0 (!X.w.params.followText "set-order")) }) (a := s.heap.objs.size) (Heap.get?_push_size _ rfl)
  exact ⟨.ref _, upd H s.heap.objs.size (SetTO X.prog X.w s.heap.objs.size []), I.laid (t' := s.toks) (fun b u e => Heap.get?_push_of_some _ e) (Nat.le_refl _) (setTO_new new.t0), rfl, q _ (I.hok.fresh (Nat.le_refl _))⟩
/-- seen.add(t), t not in it, fewer than 64 -/
def rAddT (K : PySem.W.Frag) (P : Program) (w : World) : V → List V → Hp → VK → Prop := fun x xs H Q => ∃ (a b : Addr) (k : List Int) (L : List (Addr × List Int)), x = V.ref a ∧ xs = [V.ref b] ∧ H a = some (SetTO P w a L) ∧ TupsT K H L ∧ SqT K H b (k.map V.int) ∧ k ∉ L.map (·.2) ∧ L.length + 1 < 64 ∧
  ∀ L', L'.Perm ((b, k) :: L) → Q .non (upd H a (SetTO P w a L'))
theorem mt_saddT (hu : X.A.units + 64 < cLine) : MtR X "set.add" (rAddT X.K X.prog X.w) := by
  intro pins s σ H x xs v us Q I rx rxs h
  obtain ⟨a, b, k, L, rfl, rfl, ha, ht, hb, no, few, q⟩ := h
  cases rx
  rw [Vals.ref1 rxs]
  obtain ⟨es, ep, t, R⟩ := full_of I ha ht
  obtain ⟨o, ho, hex, hd⟩ := R.ob
  refine wpAny_call_entry F.slot_set_add ⟨o, ho, hex.1⟩ F.entry_set_add ?_ (F.args_set_add_2 _ _)
  unfold Builtin.«set.add» Builtin.Frozenset.oneOther
  simp only [List.isEmpty_nil, bind_assoc]
  unfold Builtin.Frozenset.addrOf setAdd
  refine wpAny_bind (wpAny_pure (wpAny_bind (wpAny_pure (wpAny_bind (wpAny_holding (wpAny_bind (wpAny_pyHash_tuple (by show X.A.units + 1 < cLine; omega) (I.isT hb) ?_)))))))
  refine add_at (s := { s with toks := s.toks + (k.length + 1) }) R (I.isT hb) (by show X.A.units + 1 < cLine; omega) few fun c h' L' es' ep' t' sb R' _ more => ?_
  refine wpAny_pure ⟨_, rfl, ?_⟩
  have he : ∃ u, h'.get? a = some u := by
    obtain ⟨o', ho', _⟩ := R'.ob
    exact ⟨o', ho'⟩
  exact ⟨.non, upd H a (SetTO X.prog X.w a L'), I.write (e := a) (t' := s.toks + (k.length + 1)) (by rw [ha]; trivial) (.inl rfl) (fun b u hb hu => (sb.2 b hb).trans hu) he (setTO_new R'.t0), rfl, q L' (more no)⟩
def tAddT (K : PySem.W.Frag) (P : Program) (w : World) (to : TE) (t : TA) : TE := fun σ H Q => to σ H fun x H1 => (∃ a L, x = V.ref a ∧ H1 a = some (SetTO P w a L) ∧ TupsT K H1 L) ∧ t σ H1 fun xs H2 => rAddT K P w x xs H2 Q
variable {o e : Expr} {to : TE} {t : TA} {apos cpos : Pos}
theorem pe_saddT (hu : X.A.units + 64 < cLine) (ho : PE X o to) (ha : PA X [e] t)
    (hbase : attributeBase o "add" X.env (eval o X.env) = eval o X.env := by rfl)
    (hfew : ((backTo cpos (starEach [e] X.env)).all (fun x => !x.1) && (backToKw cpos (keywordEach [] X.env)).all (fun x => x.1.isSome)
      && decide ([e].length + ([] : List Keyword).length + (if ([] : List Keyword).isEmpty then 0 else 1) < 30)) = true := by rfl)
    (hline : (apos.endLine == cpos.line) = true := by rfl) (hs : starEach [e] X.env = (false, eval e X.env) :: starEach [] X.env := by rfl) (hplain : (backTo cpos (starEach [] X.env)).any (·.1) = false := by rfl) :
    PE X (.Call (.Attribute o "add" apos) [e] [] cpos) (tAddT X.K X.prog X.w to t) := by
  refine ⟨fun pins s σ H Q I h => wpAny_Call_method_late hbase hfew hline rfl (thn (ho.run pins s σ H _ I h) fun v s1 ⟨x, H1, I1, r1, ty, q1⟩ => ?_)⟩
  obtain ⟨a, L, rfl, hka, htt⟩ := ty
  obtain ⟨es, ep, tt, R⟩ := full_of I1 hka htt
  cases r1
  obtain ⟨ob, hob, hex, hd⟩ := R.ob
  refine ⟨"set", "set.add", F.plainAttrs_set, F.slot_set_add, F.type_set_add, ⟨ob, hob, hex.1⟩, fun b e => ?_, ?_⟩
  · cases e
    exact ⟨ob, hob, hex.2.1⟩
  have hA := ha.run cpos pins s1 σ H1 _ I1 q1
  rw [hs] at hA ⊢
  refine Calls.callWith_builtin (by show (false || (backTo cpos (starEach [] X.env)).any (·.1)) = false; rw [hplain] <;> rfl) (Calls.evalArgs_plain ?_)
  exact thn hA fun us s2 ⟨vs, H2, I2, r2, q2⟩ => mt_saddT hu pins s2 σ H2 (.ref a) vs (.ref a) us Q I2 rfl r2 q2
end
/-! ### set(l), l a list of ints: as the library has it of tuples -/
abbrev freshSet (w : World) : Obj := { cls := .type "set", dict := none, data := .set #[] 0 (.fresh 0 0 (!w.params.followText "set-order")) }
section
variable {P : Program} {w : World} {A : Around} {E : Value → Shared → Prop} {s : Shared}
theorem call_set_listI {l : Addr} {items : Array Value} (ns : List Int) {Q : Value → Shared → Prop} (hh : A.handled = none) (hl : s.heap.IsList l items) (hit : IntsAre items.toList ns) (hb : ns.length + 1 < scanBound)
    (h : ∀ (h' : Heap) (tk c : Nat), SetR w h' s.heap.objs.size (fun j => decide (j ∈ ns)) c → c ≤ ns.length → (∀ b o, s.heap.get? b = some o → h'.get? b = some o) → Q (.ref s.heap.objs.size) { s with heap := h', toks := tk }) :
    wpAny (model P w) A (call (.type "set") [.ref l]) Q E s := by
  have many : items.size = ns.length := by rw [← IntsAre.length hit, Array.length_toList]
  obtain ⟨c, tl, hmro⟩ := F.called_set.mro
  have m1 := F.called_set.made
  have m2 := F.called_set.sub
  have m3 := F.called_set.notType
  have m4 := F.called_set.canCreate
  have m5 := F.typeCall_set_1 (.ref l)
  refine wpAny_call (codeAny_of_tree (show wpAny _ _ (callAny (.type "set") _) _ _ _ from wpAny_pure ⟨Code.quiet_builtin _ (by decide +kernel), codeAny_builtin F.entry_type_call ?_⟩))
  rw [Around.under_plain (weight_type_call_type "set" [.ref l] []) rfl]
  repeat (any_goals (first | assumption | wp_step))
  refine codeAny_mono (code_set_led1 (.ref l) (E := E) (Q₁ := fun obj s₁ => obj = .ref s.heap.objs.size ∧ s₁ = { s with heap := s.heap.push (freshSet w) }) ⟨rfl, rfl⟩) fun r s₁ hr => ?_
  cases r with
  | error e => exact hr
  | ok fl =>
   cases fl with
   | ret obj =>
    obtain ⟨rfl, rfl⟩ := hr
    have at0 : (s.heap.push (freshSet w)).get? s.heap.objs.size = some (freshSet w) := Heap.get?_push_size _ rfl
    have ty : Shared.TypeIs { s with heap := s.heap.push (freshSet w) } (.ref s.heap.objs.size) "set" := ⟨_, at0, rfl⟩
    have i1 := F.called_set.init.lookup
    have i2 := F.called_set.init.bind (.ref s.heap.objs.size)
    repeat (any_goals (first | assumption | wp_step))
    refine codeAny_mono (codeAny_call_builtin (R := wants (fun r s₂ => r = .none ∧ ∃ h' tk c, s₂ = { s with heap := h', toks := tk } ∧ SetR w h' s.heap.objs.size (fun j => decide (j ∈ ns)) c ∧ c ≤ ns.length ∧
      (∀ b o, s.heap.get? b = some o → h'.get? b = some o)) E) F.called_set.init.plain F.entry_set_init (check_set_init_1 ty ?_)) fun r₂ s₂ hr₂ => ?_
    · have old : l < s.heap.objs.size := by obtain ⟨_, ho, _⟩ := hl; exact Heap.lt_size ho
      obtain ⟨⟨ocls, odict, odata, oslots⟩, hol, hcl, nl, hdl⟩ := hl
      simp only at hcl hdl
      subst hcl hdl
      have hol' : (s.heap.push (freshSet w)).get? l = some { cls := .type "list", dict := odict, data := .seq items nl, slots := oslots } := Heap.get?_push_of_some _ hol
      have s1 := F.sub_list_set
      have s2 := F.sub_list_frozenset
      have s3 : (Value.type "list" == Value.type "dict") = false := by decide
      have lst : (s.heap.push (freshSet w)).IsList l items := ⟨_, hol', rfl, nl, rfl⟩
      unfold Builtin.«set.__init__» noKeywords Builtin.Frozenset.updateFrom
      generalize hPI : pyIter = PI
      wp_walk
      subst hPI
      refine wpAny_pyIter_list lst (wpAny_bind (wpAny_runValue ?_))
      have quiet : A.in1.in1.in1.handled = none := by simp [hh]
      have size1 : (s.heap.push (freshSet w)).objs.size = s.heap.objs.size + 1 := Heap.size_push ..
      refine set_update_ints ((Walks.list quiet (s.heap.push (freshSet w)).objs.size l (by rw [size1]; exact Nat.ne_of_lt (Nat.lt_succ_of_lt old)) items).toS) s.heap.objs.size (by rw [size1]; simp only [List.mem_cons, List.not_mem_nil, or_false, not_or]; exact ⟨Nat.ne_of_lt (Nat.lt_succ_self _), Nat.ne_of_gt old⟩) ns many hb (fun i v hv => ?_) (items.size - 0) 0 _ (by omega) (Nat.zero_le _)
        ⟨⟨_, Heap.get?_push_size _ rfl, rfl, rfl⟩, lst.push _⟩ ⟨0, Nat.le_refl 0, setR_new_at (Heap.get?_push_of_some _ at0)⟩ fun s' c' hm hc' hS' => ?_
      · have hi : i < ns.length := by rw [← many]; exact (Array.getElem?_eq_some_iff.mp hv).1
        obtain ⟨t, e⟩ := PyProof.Rows.IntsAre.int_at hit i v (by rw [Array.getElem?_toList]; exact hv)
        exact ⟨ns[i], t, List.getElem?_eq_getElem hi, by rw [e, List.getD_eq_getElem?_getD, List.getElem?_eq_getElem hi] <;> rfl⟩
      · obtain ⟨h', g2, d', tk', os'⟩ := s'
        obtain rfl : g2 = s.gens := hm.gens
        obtain rfl : d' = s.drawn := hm.drawn
        obtain rfl : os' = s.os := hm.os
        rw [many] at hc'
        refine wpAny_pure (wpAny_pure ⟨rfl, h', tk', c', rfl, hS', hc', fun b o e => ?_⟩)
        have hb0 : b < s.heap.objs.size := Heap.lt_size e
        exact hm.heap b o (by rw [size1]; simp only [List.mem_cons, List.not_mem_nil, or_false, not_or]; exact ⟨Nat.ne_of_lt hb0, Nat.ne_of_lt (Nat.lt_succ_of_lt hb0)⟩) (Heap.get?_push_of_some _ (Heap.get?_push_of_some _ e))
    · cases r₂ with
      | error e => exact hr₂
      | ok fl₂ =>
        cases fl₂ with
        | ret v =>
          obtain ⟨rfl, h', tk, c', rfl, hS', hc', k⟩ := hr₂
          repeat (any_goals (first | assumption | wp_step))
          exact h _ _ _ hS' hc' k
        | _ => exact hr₂.elim
   | _ => exact hr.elim
end
section
variable {X : Cx}
/-- set(xs), xs a list or a tuple of ints -/
def rSetI (K : PySem.W.Frag) (w : World) : List V → Hp → VK → Prop := fun xs H Q => ∃ (l : Addr) (ns : List Int), xs = [V.ref l] ∧ (SqL K H l (ns.map V.int) ∨ SqT K H l (ns.map V.int)) ∧ ns.length < 60 ∧
  ∀ a c, H a = none → c ≤ ns.length → Q (.ref a) (upd H a (SetO w a (fun j => decide (j ∈ ns)) c))
theorem cr_setI (hc : X.calm = true) : CallR X (.type "set") (rSetI X.K X.w) := by
  intro pins s σ H xs us Q I r h
  obtain ⟨l, ns, rfl, hq, few, q⟩ := h
  rw [Vals.ref1 r]
  have fin : ∀ (h' : Heap) (tk c : Nat), SetR X.w h' s.heap.objs.size (fun j => decide (j ∈ ns)) c → c ≤ ns.length → (∀ b o, s.heap.get? b = some o → h'.get? b = some o) → EP X pins σ Q (.ref s.heap.objs.size) { s with heap := h', toks := tk } := fun h' tk c R hcn k =>
    ⟨.ref s.heap.objs.size, upd H s.heap.objs.size (SetO X.w s.heap.objs.size (fun j => decide (j ∈ ns)) c), I.laid (t' := tk) k (Nat.le_refl _) (setO_new R), rfl, q _ c (I.hok.fresh (Nat.le_refl _)) hcn⟩
  have small : ns.length + 1 < scanBound := Nat.lt_trans (Nat.succ_lt_succ few) (by decide)
  rcases hq with hq | hq
  · obtain ⟨its, rv, pl, hz⟩ := I.list hq
    exact call_set_listI (P := X.prog) (w := X.w) ns (I.ok.hd hc) pl.isList (by simpa using ints_of_vals rv) small fin
  · obtain ⟨its, rv, pl, hz⟩ := I.tuple hq
    exact call_set_tupI (P := X.prog) (w := X.w) ns (I.ok.hd hc) pl (by simpa using ints_of_vals rv) small fin
end
end Kx

namespace Kx
open PySem PySem.Spec PyProof.Rows L2
/-! ### a list or a tuple that is tracked -/
def Qa (H : Hp) (a : Addr) (xs : List V) : Prop := H a = some (.lst xs) ∨ H a = some (.tup xs)
theorem Qa.sq {K : PySem.W.Frag} {H : Hp} {a : Addr} {xs : List V} (h : Qa H a xs) : SqL K H a xs ∨ SqT K H a xs := by
  rcases h with h | h
  · exact .inl (SqL.of h)
  · exact .inr (SqT.of h)
theorem Qa.same {H H' : Hp} {a : Addr} {xs : List V} (h : Qa H a xs) (s : Same H H') : Qa H' a xs := by
  rcases h with h | h
  · exact .inl (s _ _ h)
  · exact .inr (s _ _ h)
theorem same_upd {H H' : Hp} {p : Addr} {o : HO} (s : Same H H') (n : H' p = none) : Same H (upd H' p o) := fun b u e => by
  rw [upd_ne (ne_of_none (s b u e) n)]
  exact s b u e
section
variable {X : Cx}
/-- what a for walks: the list or tuple that slot i holds -/
def iSeqV (K : PySem.W.Frag) (i : Nat) : TI := fun σ H R => ∃ a xs, σ[i]? = some (some (.ref a)) ∧ ((SqL K H a xs ∧ R (Itl K a) H) ∨ (SqT K H a xs ∧ R (Itt K a) H))
theorem pi_seqV (i : Nat) {tg : Expr} {x : Str} {pos : Pos} (hN : X.N[i]? = some x := by rfl) (hv : Vis X.env.scope x := by first | exact Or.inl rfl | exact Or.inr (Or.inl rfl) | exact Or.inr (Or.inr rfl)) (hd : (x == ("__debug__" : Str)) = false := by decide)
    (hcd : (x == ("__classdict__" : Str)) = false := by decide) : PI X tg (.Name x pos) (iSeqV X.K i) := by
  refine ⟨fun pins s σ H R I h => ?_⟩
  obtain ⟨a, xs, e, hq | hq⟩ := h
  · exact (pi_list (pe_var hN hv hd hcd)).run pins s σ H R I ⟨_, e, a, rfl, ⟨xs, hq.1⟩, hq.2⟩
  · exact (pi_tup (pe_var hN hv hd hcd)).run pins s σ H R I ⟨_, e, a, rfl, ⟨xs, hq.1⟩, hq.2⟩
theorem for_seqV {K : PySem.W.Frag} {i : Nat} {a : Addr} {xs : List V} {g : TG} {tb : TS} {D : Ends} {σ : L2.St} {H : Hp} (e : σ[i]? = some (some (.ref a))) (q : Qa H a xs) (Pv : Nat → L2.St → Hp → Prop) (h0 : Pv 0 σ H)
    (hl : ∀ j σ' H', j ≤ xs.length → Pv j σ' H' → ∀ o, H a = some o → H' a = some o)
    (hs : ∀ j x σ' H', xs[j]? = some x → Pv j σ' H' → g x σ' H' fun σ2 H2 => tb { D with nx := Pv (j + 1), ct := Pv (j + 1), bk := D.nx } σ2 H2) (hd : ∀ σ' H', Pv xs.length σ' H' → D.nx σ' H') : tFor (iSeqV K i) g tb D σ H := by
  rcases q with q | q
  · exact ⟨a, xs, e, .inl ⟨SqL.of q, for_list (K := K) (a := a) (xs := xs) Pv h0 (fun j σ' H' hj p => SqL.of (hl j σ' H' hj p _ q)) hs hd⟩⟩
  · exact ⟨a, xs, e, .inr ⟨SqT.of q, for_tup (K := K) (a := a) (xs := xs) Pv h0 (fun j σ' H' hj p => SqT.of (hl j σ' H' hj p _ q)) hs hd⟩⟩
/-- a, b, .. = a list or a tuple of that length -/
def gSeq (K : PySem.W.Frag) (n : Nat) (t : TGs) : TG := fun v σ H Q => ∃ a xs, v = .ref a ∧ (SqL K H a xs ∨ SqT K H a xs) ∧ xs.length = n ∧ t xs σ H Q
theorem pg_seq {es : List Expr} {k : Nat} {t : TGs} {n : Nat} {pos : Pos} (hc : X.calm = true) (h : PGs X es t) (hn : (assignEach es X.env).length = n := by rfl) (hst : (assignEach es X.env).findIdx? (·.1) = none := by rfl) : PG X (.Tuple es k pos) (gSeq X.K n t) := by
  refine ⟨fun pins s σ H v u Q I r hw => ?_⟩
  obtain ⟨a, xs, e, hq | hq, hl, hw⟩ := hw
  · exact (pg_lst hc h hn hst).run pins s σ H v u Q I r ⟨a, xs, e, hq, hl, hw⟩
  · exact (pg_tup hc h hn hst).run pins s σ H v u Q I r ⟨a, xs, e, hq, hl, hw⟩
end
/-- a dict comprehension over the list or tuple that slot i holds -/
theorem dc_seqV {K : PySem.W.Frag} {i : Nat} {a : Addr} {xs : List V} {g : TG} {tt : TT} {tk tv : TE} {vs : List Nat} {σ : L2.St} {H : Hp} {Q : VK} (e : σ[i]? = some (some (.ref a))) (q : Qa H a xs) (Pv : Addr → Nat → Hp → Prop) (h0 : ∀ D, H D = none → Pv D 0 (upd H D (.dK [])))
    (hl : ∀ D j H', H D = none → j ≤ xs.length → Pv D j H' → ∀ o, H a = some o → H' a = some o)
    (hs : ∀ D j x H', H D = none → xs[j]? = some x → Pv D j H' → g x (wipe σ vs) H' fun σ2 H2 => wipe σ2 vs = wipe σ vs ∧ tt σ2 H2 fun b H3 =>
      if b = true then tk σ2 H3 fun y H4 => tv σ2 H4 fun z H5 => ∃ kvs k, y = kV k ∧ H5 D = some (.dK kvs) ∧ kvs.length < sizeLine ∧ Pv D (j + 1) (upd H5 D (.dK (putK kvs k z))) else Pv D (j + 1) H3)
    (hd : ∀ D H', H D = none → Pv D xs.length H' → Q (.ref D) H') : tDc (iSeqV K i) g tt tk tv vs σ H Q := by
  have core : ∀ {J : It} (G : Hp → Prop), Walk J xs.length G (YAt xs) → (∀ D j H', H D = none → j ≤ xs.length → Pv D j H' → G H') → ∀ D, H D = none → ∃ W : Nat → Nat → Hp → Prop, (∃ m, W 0 m (upd H D (.dK []))) ∧ ∀ i m H, W i m H →
      (J.stop i H ∧ Q (.ref D) H) ∨ (J.go i H ∧ ∃ Nx : Hp → Prop, (∀ H', Nx H' → ∃ m', m' < m ∧ W (i + 1) m' H') ∧ ∀ x H', J.yld i H x H' → g x (wipe σ vs) H' fun σ2 H2 => wipe σ2 vs = wipe σ vs ∧ tt σ2 H2 fun b H3 =>
        if b = true then tk σ2 H3 fun y H4 => tv σ2 H4 fun z H5 => ∃ kvs k, y = kV k ∧ H5 D = some (.dK kvs) ∧ kvs.length < sizeLine ∧ Nx (upd H5 D (.dK (putK kvs k z))) else Nx H3) := by
    intro J G w hG D hD
    refine ⟨fun i m H' => m = xs.length - i ∧ i ≤ xs.length ∧ Pv D i H', ⟨xs.length, by simp, Nat.zero_le _, h0 D hD⟩, ?_⟩
    rintro i m H' ⟨rfl, hi, p⟩
    have q := hG D i H' hD hi p
    by_cases hlt : i < xs.length
    · refine .inr ⟨w.goes i H' hlt q, Pv D (i + 1), fun H2 p' => ⟨xs.length - (i + 1), by omega, rfl, hlt, p'⟩, fun x H2 y => ?_⟩
      obtain ⟨e1, e2⟩ := w.yields i H' x H2 hlt q y
      subst e1
      exact hs D i x _ hD e2 p
    · have e : i = xs.length := by omega
      subst e
      exact .inl ⟨w.stops H' q, hd D H' hD p⟩
  rcases q with q | q
  · exact ⟨a, xs, e, .inl ⟨SqL.of q, core _ walk_list fun D j H' hD hj p => SqL.of (hl D j H' hD hj p _ q)⟩⟩
  · exact ⟨a, xs, e, .inr ⟨SqT.of q, core _ walk_tup fun D j H' hD hj p => SqT.of (hl D j H' hD hj p _ q)⟩⟩
section
variable {X : Cx}
/-- name = {k: v for ..} on one line, the name a local -/
theorem ps_setDc {i : Nat} {y : Str} {py : Pos} {kx vx tg iter : Expr} {ifs : List Expr} {scope : Scope} {own : List (Str × Nat)} {pos spos : Pos} {wi : TI} {g : TG} {tt : TT} {tk tv : TE} (hc : X.calm = true) (hN : X.N.Nodup) (hy : X.N[i]? = some y) (hyl : X.env.scope.names.lookup y = some .local)
    (hsw : swapsWith (.DictComp kx vx [⟨tg, iter, ifs, 0⟩] scope pos) (some (.Name y py)) spos.line X.env = pure true) (hi : PI X tg iter wi) (ok : BlkOk X.N X.env.scope scope own)
    (hg : ∀ (s : Shared) (H : Hp) (C : Addr) (cl : List (Str × Addr)) (fp : List Addr), PG (X.blk s H scope (compEnvC scope cl C X.env) fp) tg g) (ht : ∀ (s : Shared) (H : Hp) (C : Addr) (cl : List (Str × Addr)) (fp : List Addr), PTs (X.blk s H scope (compEnvC scope cl C X.env) fp) ifs tt)
    (hk : ∀ (s : Shared) (H : Hp) (C : Addr) (cl : List (Str × Addr)) (fp : List Addr), PE (X.blk s H scope (compEnvC scope cl C X.env) fp) kx tk)
    (he : ∀ (s : Shared) (H : Hp) (C : Addr) (cl : List (Str × Addr)) (fp : List Addr), PE (X.blk s H scope (compEnvC scope cl C X.env) fp) vx tv) (hs : ∀ x, foldedSetIterable iter X.env x = pure x := by intro _; rfl) :
    PS X (.Assign [.Name y py] (.DictComp kx vx [⟨tg, iter, ifs, 0⟩] scope pos) spos) (tAsg (tDc wi g tt tk tv (own.map (·.2))) (gName i)) := by
  refine ⟨fun pins s σ H D I h => ?_⟩
  rw [exec_Assign_Name_used _ _ _ _ hsw]
  refine wpAny_bind (wpAny_standAt (wpAny_bind ?_))
  show wpAny _ X.A (do let _ ← comprehension (.DictComp kx vx [⟨tg, iter, ifs, 0⟩] scope pos) scope X.env (firstIterPos [⟨tg, iter, ifs, 0⟩] pos) newDict false (eval iter X.env) (some (assign (.Name y py) X.env))) _ _ s
  refine wpAny_bind (thn (dc_core (Qf := fun _ s' => SP X pins D .next s') hc hN I hi ok hg ht hk he hs (show tDc wi g tt tk tv (own.map (·.2)) σ H (fun x H1 => gName i x σ H1 D.nx) from h) fun L C s' m H' I' q hn f => ?_) fun _ s' hq => wpAny_pure (wpAny_pure hq))
  show wpAny _ _ (assign (.Name y py) X.env (.ref L)) _ _ _
  obtain ⟨f0, f1, f2, f3, f4, f5⟩ := f
  refine wpAny_assign_Name (store_ok2 (v := V.ref L) I' hN hy (.inl hyl) rfl (fun s2 I2 ⟨a, sb, ha⟩ => ?_) (.inr hyl))
  have apart : C ≠ a := by
    rcases ha with z | z
    · rw [z]; exact f1
    · exact fun e => f4 y a z e.symm
  exact ⟨m, hn.sameBut sb apart, fun h3 sb3 => ⟨_, H', I2.turned (t' := s2.toks) (fun b o hb e => (sb3.2 b hb).trans e) f0 f1 f3 f4 f5, q⟩⟩
theorem sw_dict {kx vx : Expr} {gs : List Comprehension} {scope : Scope} {pos py : Pos} {y : Str} {l : Nat} {env : Env} (hk : env.scope.kind = .function) (hy : env.scope.names.lookup y = some .local) (hl : (py.line == pos.line) = true)
    (ha : (scope.names.any fun (n, k) => n == y && (k == .local || k == .cell)) = false) : swapsWith (.DictComp kx vx gs scope pos) (some (.Name y py)) l env = pure true := by
  have ky : env.kindOf y = some .local := hy
  have hb : env.blockKind = .function := by unfold Env.blockKind; rw [hk]; rfl
  unfold swapsWith
  simp only [hb, ky, ha, Expr.pos, hl]
  rfl
end
/-- tuple(x) of a list or a tuple -/
theorem tuple_of {K : PySem.W.Frag} {H : Hp} {t : Addr} {xs : List V} {Q : VK} (h : Qa H t xs) (k : ∀ b H', Same H H' → H' b = some (.tup xs) → Q (.ref b) H') :
    ∃ p ys, [V.ref t] = [V.ref p] ∧ ((SqL K H p ys ∧ ∀ l, H l = none → Q (.ref l) (upd H l (.tup ys))) ∨ (SqT K H p ys ∧ Q (.ref p) H)) := by
  rcases h with h | h
  · exact ⟨t, xs, rfl, .inl ⟨SqL.of h, fun l hl => k l _ (same_upd (Same.refl H) hl) upd_same⟩⟩
  · exact ⟨t, xs, rfl, .inr ⟨SqT.of h, k t H (Same.refl H) h⟩⟩
section
variable {X : Cx}
/-- a call's rule by a weaker promise -/
theorem call_weak {f : Value} {r r' : List V → Hp → VK → Prop} (h : CallR X f r) (w : ∀ xs H Q, r' xs H Q → r xs H Q) : CallR X f r' := fun pins s σ H xs us Q I rv p => h pins s σ H xs us Q I rv (w xs H Q p)
/-- tuple(x), list(x) of a tracked list or tuple -/
theorem call_tupleQ : CallR X (.type "tuple") (fun xs H Q => ∃ p ys, xs = [.ref p] ∧ Qa H p ys ∧ ∀ b H', Same H H' → H' b = some (.tup ys) → Q (.ref b) H') :=
  call_weak call_tuple_of fun xs H Q ⟨p, ys, e, h, k⟩ => by
    subst e
    rcases h with h | h
    · exact ⟨p, ys, rfl, .inl ⟨SqL.of h, fun l hl => k l _ (same_upd (Same.refl H) hl) upd_same⟩⟩
    · exact ⟨p, ys, rfl, .inr ⟨SqT.of h, k p H (Same.refl H) h⟩⟩
theorem call_listQ : CallR X (.type "list") (fun xs H Q => ∃ p ys, xs = [.ref p] ∧ Qa H p ys ∧ ∀ l, H l = none → Q (.ref l) (upd H l (.lst ys))) :=
  call_weak call_list_of fun xs H Q ⟨p, ys, e, h, k⟩ => ⟨p, ys, e, h.sq, k⟩
end
theorem seq_setDc {wi : TI} {g : TG} {tt : TT} {tk tv : TE} {vs : List Nat} {i : Nat} {u : TS} {D : Ends} {σ : L2.St} {H : Hp} (h : tDc wi g tt tk tv vs σ H fun x H1 => gName i x σ H1 (u D)) : tSeq (tAsg (tDc wi g tt tk tv vs) (gName i)) u D σ H := h
theorem notin_take {α : Type} : ∀ {l : List α} {i : Nat} {x : α}, l.Nodup → l[i]? = some x → x ∉ l.take i
  | [], _, _, _, h => by simp at h
  | a :: r, 0, _, _, _ => by simp
  | a :: r, i + 1, x, nd, h => by
    obtain ⟨n1, n2⟩ := List.nodup_cons.mp nd
    have h' : r[i]? = some x := h
    rw [List.take_succ_cons, List.mem_cons, not_or]
    exact ⟨fun e => n1 (by rw [← e]; exact List.mem_of_getElem? h'), notin_take n2 h'⟩
end Kx

namespace Kx
open PySem PySem.Spec PyProof.Rows L2
/-! ### webs in plain Lean: what is reached -/
abbrev Edge := Int × Int
inductive Reach (es : List Edge) : Int → Int → Prop
  | refl (u : Int) : Reach es u u
  | step {u m v : Int} : (u, m) ∈ es → Reach es m v → Reach es u v
theorem Reach.trans {es : List Edge} {u m v : Int} (a : Reach es u m) (b : Reach es m v) : Reach es u v := by
  induction a with
  | refl => exact b
  | step e _ ih => exact .step e (ih b)
theorem Reach.one {es : List Edge} {u v : Int} (h : (u, v) ∈ es) : Reach es u v := .step h (.refl v)
theorem Reach.more {es es' : List Edge} {u v : Int} (s : ∀ e ∈ es, e ∈ es') (a : Reach es u v) : Reach es' u v := by
  induction a with
  | refl => exact .refl _
  | step e _ ih => exact .step (s _ e) ih
def turned (es : List Edge) : List Edge := es.map fun e => (e.2, e.1)
theorem mem_turned {es : List Edge} {u v : Int} : (u, v) ∈ turned es ↔ (v, u) ∈ es := by
  unfold turned
  rw [List.mem_map]
  constructor
  · rintro ⟨⟨a, b⟩, h, e⟩
    cases e
    exact h
  · intro h
    exact ⟨(v, u), h, rfl⟩
theorem Reach.back {es : List Edge} {u v : Int} (a : Reach es u v) : Reach (turned es) v u := by
  induction a with
  | refl => exact .refl _
  | step e _ ih => exact ih.trans (.one (mem_turned.mpr e))
theorem Reach.unturn {es : List Edge} {u v : Int} (a : Reach (turned es) u v) : Reach es v u := by
  induction a with
  | refl => exact .refl _
  | step e _ ih => exact ih.trans (.one (mem_turned.mp e))
theorem Reach.closed {es : List Edge} {S : List Int} (c : ∀ u ∈ S, ∀ v, (u, v) ∈ es → v ∈ S) {u v : Int} (a : Reach es u v) (h : u ∈ S) : v ∈ S := by
  induction a with
  | refl => exact h
  | step e _ ih => exact ih (c _ h _ e)
/-- a web whose parts are as the constructor asks -/
structure Good (n : Int) (es : List Edge) (e : Int) (xs : List Int) : Prop where
  n1 : 1 ≤ n
  n2 : n ≤ 24
  few : es.length < 60
  rng : ∀ p ∈ es, 0 ≤ p.1 ∧ p.1 < n ∧ 0 ≤ p.2 ∧ p.2 < n
  nd : es.Nodup
  e0 : 0 ≤ e
  e1 : e < n
  x0 : xs ≠ []
  xr : ∀ x ∈ xs, 0 ≤ x ∧ x < n
  xf : xs.length < 60
  fwd : ∀ v, 0 ≤ v → v < n → Reach es e v
  bwd : ∀ v, 0 ≤ v → v < n → ∃ x ∈ xs, Reach es v x
/-! ### the search -/
theorem len_le_of_sub {α : Type} [DecidableEq α] : ∀ (l m : List α), l.Nodup → (∀ x ∈ l, x ∈ m) → l.length ≤ m.length
  | [], m, _, _ => Nat.zero_le _
  | a :: r, m, nd, s => by
    obtain ⟨h1, h2⟩ := List.nodup_cons.mp nd
    have ha : a ∈ m := s a List.mem_cons_self
    have ih := len_le_of_sub r (m.erase a) h2 fun x hx => (List.mem_erase_of_ne (fun e => h1 (by rw [← e]; exact hx))).mpr (s x (List.mem_cons_of_mem _ hx))
    have e := List.length_erase_of_mem ha
    have p : 0 < m.length := List.length_pos_of_mem ha
    rw [List.length_cons]
    omega
/-- S found, W waiting -/
structure Seek (ss : List Int) (es : List Edge) (S W : List Int) : Prop where
  nd : S.Nodup
  sub : ∀ w ∈ W, w ∈ S
  st : ∀ s ∈ ss, s ∈ S
  sound : ∀ v ∈ S, ∃ s ∈ ss, Reach es s v
  bd : ∀ v ∈ S, v ∈ ss ++ es.map (·.2)
  closed : ∀ u ∈ S, u ∉ W → ∀ v, (u, v) ∈ es → v ∈ S
theorem Seek.len {ss : List Int} {es : List Edge} {S W : List Int} (k : Seek ss es S W) : S.length ≤ ss.length + es.length := by
  have := len_le_of_sub S (ss ++ es.map (·.2)) k.nd k.bd
  rw [List.length_append, List.length_map] at this
  exact this
/-- within a turn: p is taken off, j edges were looked at -/
structure Inn (es : List Edge) (p : Int) (S W : List Int) (j : Nat) (S' W' : List Int) : Prop where
  nd : S'.Nodup
  s1 : ∀ v ∈ S, v ∈ S'
  w1 : ∀ v ∈ W, v ∈ W'
  new : ∀ v ∈ S', v ∈ S ∨ (v ∈ W' ∧ (p, v) ∈ es)
  wn : ∀ v ∈ W', v ∈ W ∨ v ∈ S'
  got : ∀ v, (p, v) ∈ es.take j → v ∈ S'
  len : S'.length + W.length = W'.length + S.length
theorem Inn.start {es : List Edge} {p : Int} {S W : List Int} (h : S.Nodup) : Inn es p S W 0 S W :=
  ⟨h, fun _ h => h, fun _ h => h, fun _ h => .inl h, fun _ h => .inl h, fun v h => by simp at h, Nat.add_comm _ _ ▸ rfl⟩
theorem take_next {α : Type} {l : List α} {i : Nat} {x : α} (h : l[i]? = some x) : l.take (i + 1) = l.take i ++ [x] := by
  rw [List.take_add_one, h]
  rfl
theorem Inn.skip {es : List Edge} {p : Int} {S W S' W' : List Int} {j : Nat} {b e : Int} (k : Inn es p S W j S' W') (h : es[j]? = some (b, e)) (no : b ≠ p ∨ e ∈ S') : Inn es p S W (j + 1) S' W' :=
  ⟨k.nd, k.s1, k.w1, k.new, k.wn, fun v hv => by
      rw [take_next h, List.mem_append] at hv
      rcases hv with hv | hv
      · exact k.got v hv
      · have q := List.mem_singleton.mp hv
        injection q with q1 q2
        rcases no with no | no
        · exact absurd q1.symm no
        · rw [q2]; exact no, k.len⟩
theorem Inn.put {es : List Edge} {p : Int} {S W S' W' : List Int} {j : Nat} {e : Int} (k : Inn es p S W j S' W') (h : es[j]? = some (p, e)) (no : e ∉ S') : Inn es p S W (j + 1) (S' ++ [e]) (W' ++ [e]) where
  nd := nd_snoc k.nd no
  s1 := fun v h => List.mem_append_left _ (k.s1 v h)
  w1 := fun v h => List.mem_append_left _ (k.w1 v h)
  new := fun v hv => by
    rcases List.mem_append.mp hv with hv | hv
    · rcases k.new v hv with z | ⟨z1, z2⟩
      · exact .inl z
      · exact .inr ⟨List.mem_append_left _ z1, z2⟩
    · rw [List.mem_singleton.mp hv]
      exact .inr ⟨List.mem_append_right _ List.mem_cons_self, List.mem_of_getElem? h⟩
  wn := fun v hv => by
    rcases List.mem_append.mp hv with hv | hv
    · rcases k.wn v hv with z | z
      · exact .inl z
      · exact .inr (List.mem_append_left _ z)
    · exact .inr (List.mem_append_right _ hv)
  got := fun v hv => by
    rw [take_next h, List.mem_append] at hv
    rcases hv with hv | hv
    · exact List.mem_append_left _ (k.got v hv)
    · have q := List.mem_singleton.mp hv
      injection q with q1 q2
      rw [q2]
      exact List.mem_append_right _ List.mem_cons_self
  len := by
    have := k.len
    rw [List.length_append, List.length_append, List.length_singleton]
    omega
theorem Seek.turn {ss : List Int} {es : List Edge} {S W S' W' : List Int} {p : Int} (k : Seek ss es S (W ++ [p])) (i : Inn es p S W es.length S' W') : Seek ss es S' W' where
  nd := i.nd
  sub := fun v hv => by
    rcases i.wn v hv with z | z
    · exact i.s1 v (k.sub v (List.mem_append_left _ z))
    · exact z
  st := fun s h => i.s1 s (k.st s h)
  sound := fun v hv => by
    rcases i.new v hv with z | ⟨_, z⟩
    · exact k.sound v z
    · obtain ⟨s, hs, r⟩ := k.sound p (k.sub p (List.mem_append_right _ List.mem_cons_self))
      exact ⟨s, hs, r.trans (.one z)⟩
  bd := fun v hv => by
    rcases i.new v hv with z | ⟨_, z⟩
    · exact k.bd v z
    · exact List.mem_append_right _ (List.mem_map.mpr ⟨(p, v), z, rfl⟩)
  closed := fun u hu hw v he => by
    by_cases e : u = p
    · rw [e] at he
      exact i.got v (by rw [List.take_length]; exact he)
    · rcases i.new u hu with z | ⟨z, _⟩
      · refine i.s1 v (k.closed u z (fun m => ?_) v he)
        rcases List.mem_append.mp m with m | m
        · exact hw (i.w1 u m)
        · exact e (List.mem_singleton.mp m)
      · exact absurd z hw
theorem Seek.done {ss : List Int} {es : List Edge} {S : List Int} (k : Seek ss es S []) (v : Int) : v ∈ S ↔ ∃ s ∈ ss, Reach es s v :=
  ⟨k.sound v, fun ⟨s, hs, r⟩ => r.closed (fun u hu w he => k.closed u hu (by simp) w he) (k.st s hs)⟩
/-! ### a dict of True -/
def dS (S : List Int) : List (Key × V) := S.map fun i => ((Sum.inl i : Key), V.bl true)
theorem dS_val (S : List Int) (i : Int) : valV (dS S) (Sum.inl i) = if i ∈ S then some (V.bl true) else none := by
  induction S with
  | nil => simp [dS, valV]
  | cons a r ih =>
    show valV (((Sum.inl a : Key), V.bl true) :: dS r) (Sum.inl i) = _
    by_cases e : a = i
    · subst e
      rw [valV_pos rfl, if_pos List.mem_cons_self]
    · rw [valV_neg (fun z => e (Sum.inl.inj z)), ih]
      by_cases m : i ∈ r
      · rw [if_pos m, if_pos (List.mem_cons_of_mem _ m)]
      · rw [if_neg m, if_neg]
        intro z
        rcases List.mem_cons.mp z with z | z
        · exact e z.symm
        · exact m z
theorem dS_len (S : List Int) : (dS S).length = S.length := List.length_map ..
theorem dS_put_new {S : List Int} {i : Int} (h : i ∉ S) : putK (dS S) (Sum.inl i) (V.bl true) = dS (S ++ [i]) := by
  rw [putK_new _ (by rw [dS_val, if_neg h])]
  unfold dS
  rw [List.map_append]
  rfl
theorem dS_put_old {S : List Int} {i : Int} (h : i ∈ S) : putK (dS S) (Sum.inl i) (V.bl true) = dS S := by
  unfold putK
  rw [valV_any, dS_val, if_pos h, Option.isSome_some, if_pos rfl]
  unfold dS
  rw [List.map_map]
  refine List.map_congr_left fun j _ => ?_
  show (if (Sum.inl j : Key) = Sum.inl i then ((Sum.inl j : Key), V.bl true) else ((Sum.inl j : Key), V.bl true)) = _
  split <;> rfl
/-- what the comprehension has found behind the first of ss -/
structure Firsts (ss : List Int) (S : List Int) : Prop where
  nd : S.Nodup
  mem : ∀ v, v ∈ S ↔ v ∈ ss
theorem Firsts.next {ss S : List Int} {s : Int} (f : Firsts ss S) : Firsts (ss ++ [s]) (if s ∈ S then S else S ++ [s]) := by
  by_cases h : s ∈ S
  · rw [if_pos h]
    refine ⟨f.nd, fun v => ?_⟩
    rw [List.mem_append, List.mem_singleton, f.mem]
    constructor
    · exact .inl
    · rintro (z | z)
      · exact z
      · rw [z]; exact (f.mem s).mp h
  · rw [if_neg h]
    refine ⟨nd_snoc f.nd h, fun v => ?_⟩
    rw [List.mem_append, List.mem_append, f.mem]
theorem dS_put (S : List Int) (i : Int) : putK (dS S) (Sum.inl i) (V.bl true) = dS (if i ∈ S then S else S ++ [i]) := by
  by_cases h : i ∈ S
  · rw [if_pos h, dS_put_old h]
  · rw [if_neg h, dS_put_new h]
theorem Firsts.len {ss S : List Int} (f : Firsts ss S) : S.length ≤ ss.length := len_le_of_sub S ss f.nd fun v h => (f.mem v).mp h
theorem Firsts.seek {ss S : List Int} (f : Firsts ss S) (es : List Edge) : Seek ss es S ss where
  nd := f.nd
  sub := fun w h => (f.mem w).mpr h
  st := fun w h => (f.mem w).mpr h
  sound := fun v h => ⟨v, (f.mem v).mp h, .refl v⟩
  bd := fun v h => List.mem_append_left _ ((f.mem v).mp h)
  closed := fun u h n => absurd ((f.mem u).mp h) n
end Kx

namespace Kx
open PySem PySem.Spec PyProof.Rows L2
/-! ### == by an own __eq__, whatever it answers -/
section
variable {X : Cx}
def rEqOwn (C : Addr) (sp : Sp) (E : XK) : R2 := fun x y H Q => ∃ a b dx dy fs gs, x = .ref a ∧ y = .ref b ∧ H a = some (.ins C dx fs) ∧ H b = some (.ins C dy gs) ∧ sp [.ref a, .ref b] H Q E
theorem op_eqOwn {CX : CXT} {n : Nat} {C f : Addr} {fd : FuncData} {ps : List Str} {sp : Sp} {E : XK} (F : FnOk X.prog X.w X.K X.mg X.base CX n f fd ps sp) (hr : Room n X.A)
    (hs : PySem.W.findIn X.K (.ref C) "__eq__" = some (some (.ref f))) (hf : PySem.W.isFn X.K (.ref f) = true) (hb : Binds X.K fd ps []) (hx : Passes CX X E) : OpR X (compareOp .Eq) (rEqOwn C sp E) := by
  intro pins s σ H x y v u Q I rx ry d
  obtain ⟨a, b, dx, dy, fs, gs, rfl, rfl, ha, hb', q⟩ := d
  cases rx
  cases ry
  obtain ⟨mA, J, _⟩ := ins_get I.hok ha
  obtain ⟨mB, J', _⟩ := ins_get I.hok hb'
  obtain ⟨od, J, _⟩ := J.look
  obtain ⟨od', J', _⟩ := J'.look
  obtain ⟨m, hF⟩ := I.fr
  show wpAny (model X.prog X.w) X.A (richCompare .Eq (.ref a) (.ref b)) (EP X pins σ Q) X.xe s
  refine PySem.W.cmp_K (op := .Eq) (tb := .ref C) hr.units0 hF I.ok.mod.kin J J'.type (by simp [PySem.W.notFirst]) hs hf ?_
  have hl := F.len _ _ _ _ q
  have r2 : Vals [V.ref a, V.ref b] [Value.ref a, Value.ref b] := .cons rfl (.cons rfl .nil)
  refine wpAny_call (codeAny_mono (F.run X.A X.stack s H ⟨[.ref a, .ref b], []⟩ [.ref a, .ref b] [.ref a, .ref b] _ E hr I.env0 (by
    have := hb s [.ref a, .ref b] I.kIn (by simpa using hl)
    simpa using this) r2 q) fun r s' hq => ?_)
  cases r with
  | error e => exact hx pins σ H s e s' I hq
  | ok fl =>
    cases fl with
    | ret w =>
      obtain ⟨z, H', I', rz, qz⟩ := I.after hq
      exact SlX.cmpback rz ⟨z, H', I', rz, qz⟩
    | next => exact False.elim hq
    | brk => exact False.elim hq
    | cont => exact False.elim hq
end
/-! ### t.index(x), flat items -/
section
variable {X : Cx}
def rIndexT (K : PySem.W.Frag) : V → List V → Hp → VK → Prop := fun x xs H Q => ∃ (a : Addr) (ys : List Int) (y : Int) (j : Nat), x = V.ref a ∧ xs = [.int y] ∧ SqT K H a (ys.map V.int) ∧ ys[j]? = some y ∧ (∀ m, m < j → ys[m]? ≠ some y) ∧ Q (.int (j : Nat)) H
theorem mt_tup_indexI : MtR X "tuple.index" (rIndexT X.K) := by
  intro pins s σ H x xs v us Q I rx rxs h
  obtain ⟨a, ns, y, j, rfl, rfl, hs, hz, hno, q⟩ := h
  cases rx
  have fys : (ns.map V.int).all flatV = true := by
    rw [List.all_eq_true]
    intro v hv
    obtain ⟨_, _, rfl⟩ := List.mem_map.mp hv
    rfl
  obtain ⟨uy, rfl, ry⟩ := rxs.one
  obtain ⟨its, rv, pl, hlen⟩ := I.tuple hs
  obtain ⟨⟨cls, dd, dt, sl⟩, ho, hc, n, hd⟩ := pl
  simp only at hc hd
  subst hc
  subst hd
  have hz' : (ns.map V.int)[j]? = some (.int y) := by rw [List.getElem?_map, hz]; rfl
  obtain ⟨u, hu, ru⟩ := rv.get hz'
  obtain ⟨hjl, hje⟩ := List.getElem?_eq_some_iff.mp hu
  have hvl := rv.length
  have hj : j < its.toArray.size := by simpa using hjl
  refine call_meets PySem.F.slot_tuple_index ⟨_, ho, rfl⟩ PySem.F.entry_tuple_index (PySem.F.args_tuple_index_2 _ _)
    (TI.tuple_indexAt a its.toArray n dd sl uy (eqU (.int y)) j hj ?_ ?_) ⟨ho, fun u' hu' => mem_eqAt ry rfl rv fys u' (by simpa using hu'), ?_⟩
  · have e1 : its.toArray[j] = u := by simpa using hje
    rw [e1, eqU_of ru rfl]
    show (y == y) = true
    exact beq_self_eq_true y
  · intro m hm hmj
    have hml : m < its.length := by simpa using hm
    have hmy : m < (ns.map V.int).length := by omega
    have hmn : m < ns.length := by simpa using hmy
    have hy' : (ns.map V.int)[m]? = some (.int ns[m]) := by rw [List.getElem?_map, List.getElem?_eq_getElem hmn]; rfl
    obtain ⟨u2, hu2, ru2⟩ := rv.get hy'
    obtain ⟨_, hme⟩ := List.getElem?_eq_some_iff.mp hu2
    have e1 : its.toArray[m] = u2 := by simpa using hme
    rw [e1, eqU_of ru2 rfl]
    have ne : ns[m] ≠ y := fun e => hno m hmj (by rw [List.getElem?_eq_getElem hmn, e])
    show (ns[m] == y) = false
    exact beq_false_of_ne ne
  · exact ⟨.int (j : Nat), H, I.tok _, ⟨_, rfl⟩, q⟩
theorem inV_ints (y : Int) : ∀ ns : List Int, inV (.int y) (ns.map V.int) = decide (y ∈ ns)
  | [] => rfl
  | a :: r => by
    have ih := inV_ints y r
    unfold inV at ih ⊢
    rw [List.map_cons, List.any_cons, ih]
    show ((a == y) || decide (y ∈ r)) = _
    rw [Bool.eq_iff_iff, Bool.or_eq_true, beq_iff_eq, decide_eq_true_iff, decide_eq_true_iff, List.mem_cons]
    exact ⟨fun z => z.elim (fun z => .inl z.symm) .inr, fun z => z.elim (fun z => .inl z.symm) .inr⟩
theorem flat_ints (ns : List Int) : (ns.map V.int).all flatV = true := by
  rw [List.all_eq_true]
  intro v hv
  obtain ⟨_, _, rfl⟩ := List.mem_map.mp hv
  rfl
end
/-! ### a tuple whose object is known: its methods -/
theorem sqF {K : PySem.W.Frag} {H : Hp} {a : Addr} {o : Obj} {xs : List V} (h : H a = some (.frz o (.tup xs))) : SqT K H a xs := .inl (.inr ⟨o, h⟩)
section
variable {X : Cx}
theorem call_tupleF : CallR X (.type "tuple") (fun xs H Q => ∃ p ys, xs = [.ref p] ∧ SqL X.K H p ys ∧ ∀ l (o : Obj), H l = none → o.cls = .type "tuple" → o.dict = none → Q (.ref l) (upd H l (.frz o (.tup ys)))) := by
  intro pins s σ H xs us Q I r h
  obtain ⟨p, ys, rfl, hq, q⟩ := h
  obtain ⟨u, rfl, rx⟩ := vals1 r
  cases rx
  obtain ⟨its, r', pl, hz⟩ := I.list hq
  have hlen := r'.length
  refine call_tuple_list pl.isList (fun h' kp => ?_) (by simp only [List.size_toArray] <;> omega)
  have I1 : Inv X pins σ H { s with heap := h' } := I.kept (t' := s.toks) kp
  have I2 : Inv X pins σ (upd H h'.objs.size (.frz { cls := .type "tuple", data := .seq its.toArray } (.tup ys))) { s with heap := h'.push { cls := .type "tuple", data := .seq its.toArray } } :=
    I1.laid (t' := s.toks) (fun b o e => Heap.get?_push_of_some _ e) (Nat.le_refl _) (show ObjOk X.prog X.w _ _ _ (.frz _ (.tup ys)) from ⟨Heap.get?_push_size _ rfl, hz, its, r', IsTup.new _ _⟩)
  exact ⟨.ref h'.objs.size, _, I2, rfl, q _ _ (I1.hok.fresh (Nat.le_refl _)) rfl rfl⟩
def tBMT (r : V → List V → Hp → VK → Prop) (to : TE) (t : TA) : TE := fun σ H Q => to σ H fun x H1 => ∃ p o ys, x = .ref p ∧ H1 p = some (.frz o (.tup ys)) ∧ o.cls = .type "tuple" ∧ o.dict = none ∧ t σ H1 fun xs H2 => r x xs H2 Q
theorem pe_bmT {o e : Expr} {es : List Expr} {to : TE} {t : TA} {name : Str} {apos cpos : Pos} {id : String} {r : V → List V → Hp → VK → Prop} (pa : PlainAttrs "tuple") (slot : Slot "tuple" name id) (hty : typeOf (.builtin id) = pure (.type "method_descriptor")) (hm : MtR X id r) (ho : PE X o to) (ha : PA X (e :: es) t)
    (hbase : attributeBase o name X.env (eval o X.env) = eval o X.env := by rfl)
    (hfew : ((backTo cpos (starEach (e :: es) X.env)).all (fun x => !x.1) && (backToKw cpos (keywordEach [] X.env)).all (fun x => x.1.isSome)
      && decide ((e :: es).length + ([] : List Keyword).length + (if ([] : List Keyword).isEmpty then 0 else 1) < 30)) = true := by rfl)
    (hline : (apos.endLine == cpos.line) = true := by rfl) (hs : starEach (e :: es) X.env = (false, eval e X.env) :: starEach es X.env := by rfl) (hplain : (backTo cpos (starEach es X.env)).any (·.1) = false := by rfl) :
    PE X (.Call (.Attribute o name apos) (e :: es) [] cpos) (tBMT r to t) := by
  refine ⟨fun pins s σ H Q I h => ?_⟩
  refine wpAny_Call_method_late hbase hfew hline rfl (thn (ho.run pins s σ H _ I h) fun v s1 ⟨x, H1, I1, r1, p, ob, ys, ex, hp, hc, hd, q1⟩ => ?_)
  subst ex
  cases r1
  obtain ⟨ho1, _⟩ := I1.hok p _ hp
  refine ⟨"tuple", id, pa, slot, hty, ⟨ob, ho1, hc⟩, fun a ea => ?_, ?_⟩
  · cases ea
    exact ⟨ob, ho1, hd⟩
  have hA := ha.run cpos pins s1 σ H1 _ I1 q1
  rw [hs] at hA ⊢
  refine Calls.callWith_builtin (by show (false || (backTo cpos (starEach es X.env)).any (·.1)) = false; rw [hplain] <;> rfl) (Calls.evalArgs_plain ?_)
  exact thn hA fun us s2 ⟨vs, H2, I2, r2, q2⟩ => hm pins s2 σ H2 (.ref p) vs _ us Q I2 rfl r2 q2
end
/-! ### raise C(e), C an error with its __init__ -/
section
variable {X : Cx} {C : Addr} {f x : Str} {e : Expr} {es : List Expr} {ta : TA} {p pos : Pos}
def wkA (ta : TA) : TA := fun σ H Q => ∃ Q0, ta σ H Q0 ∧ ∀ vs H', Q0 vs H' → Q vs H'
theorem pa_wk (ha : PA X es ta) : PA X es (wkA ta) := ⟨fun pos pins s σ H Q I ⟨Q0, h, w⟩ => wpAny_mono (ha.run pos pins s σ H Q0 I h) (fun us s1 ⟨vs, H1, I1, r, q⟩ => ⟨vs, H1, I1, r, w vs H1 q⟩) fun _ _ x => x⟩
def tRs (C : Addr) (f : Str) (ta : TA) : L2.St → Hp → XK → Prop := fun σ H Q => ta σ H fun vs H1 => ∃ v, vs = [v] ∧ ∀ (d : Addr) (H2 : Hp), H1 d = none → H2 d = some (.xd [(f, v)]) → Same H1 H2 → Q (.ref C) (some d) H2
theorem pmk_errF (T : ErrI X.prog X.w X.K X.mg X.base C f) (hr : Room 2 X.A) (hg : Gl X x) (hm : X.mg x = some (.ref C)) (ha : PA X [e] ta)
    (hdb : (x == ("__debug__" : Str)) = false := by decide) (he : starEach [e] X.env = (false, eval e X.env) :: starEach [] X.env := by rfl) (hpl : (backTo pos (starEach [] X.env)).any (·.1) = false := by rfl) :
    PMk X (.Call (.Name x p) [e] [] pos) (tRs C f ta) := by
  obtain ⟨fI, fd, iC, tI, F1, hb⟩ := T.init
  intro pins s σ H Q I h
  refine pmk_oex (dvs := []) (ds := []) T.o iC tI F1 hr hb .nil pass0 hg hm (pa_wk ha) hdb he hpl pins s σ H Q I ⟨_, h, fun vs H1 q => ?_⟩
  obtain ⟨v, rfl, q⟩ := q
  refine ⟨(by decide : (1 : Nat) ≤ 1000), fun a hn => ⟨a, v, rfl, upd_same, fun dx hd ne => ⟨rfl, dx, [(f, v)], upd_same, by rw [upd_ne ne, upd_same], ?_, ?_⟩⟩⟩
  · rw [upd_ne ne] at hd
    exact hd
  · rw [upd_ne ne] at hd
    refine q dx _ hd upd_same fun b o e => ?_
    have n1 : b ≠ dx := ne_of_none e hd
    have n2 : b ≠ a := ne_of_none e hn
    rw [upd_ne n1, del_ne n2, upd_ne n2, upd_ne n1, upd_ne n2]
    exact e
end
/-! ### o.m(e, ..) in a try -/
section
variable {X : Cx} {CX : CXT} {k : Nat} {f C : Addr} {fd : FuncData} {ps : List Str} {sp : Sp} {E : L2.St → XK} {m : Str} {pos apos : Pos} {e o : Expr} {es : List Expr} {ta : TE} {t : TA}
def tMethE (C : Addr) (m : Str) (sp : Sp) (E : L2.St → XK) (ta : TE) (t : TA) : TE := fun σ H Q => ta σ H fun x H1 => ∃ a dx fs, x = .ref a ∧ H1 a = some (.ins C dx fs) ∧ fs.lookup m = none ∧ t σ H1 fun vs H2 => sp (x :: vs) H2 Q (E σ)
theorem pe_methE {pl : Sem Bool} (he : PE X o ta) (c : Cls X.K C) (hm : Meth X.K C m f) (F : FnOk X.prog X.w X.K X.mg X.base CX k f fd ps sp) (hr : Room k X.A) (hb : Binds X.K fd ps []) (hx : ∀ σ, PassesAt CX X σ (E σ)) (ha : PA X (e :: es) t)
    (hst : starEach (e :: es) X.env = (false, eval e X.env) :: starEach es X.env := by rfl) (hpl : (backTo pos (starEach es X.env)).any (·.1) = false := by rfl)
    (ht : eval (.Call (.Attribute o m apos) (e :: es) [] pos) X.env = (do
      let ov ← eval o X.env
      standAt apos.atName
      let (f, first) ← holding [ov] (getMethod ov m pl)
      callWith pos f first (backTo pos (starEach (e :: es) X.env)) (backToKw pos (keywordEach [] X.env))) := by rfl) :
    PE X (.Call (.Attribute o m apos) (e :: es) [] pos) (tMethE C m sp E ta t) := by
  refine ⟨fun pins s σ H Q I h => ?_⟩
  refine PySem.W.methodCall_KW (pl := pl) (thn (he.run pins s σ H _ I h) fun u s1 ⟨x, H1, I1, rx, a, dx, fs, ex, ea, l, q⟩ => ?_) ht
  subst ex
  obtain rfl : u = Value.ref a := rx
  refine getmeth_ok I1 ea c hm l ?_
  refine PySem.W.callWith_K (first := [.ref a]) (h₀ := X.base) I.ok.mod.kin hm.kp (thn (ha.run pos pins s1 σ H1 _ I1 q) fun us s2 ⟨vs, H2, I2, r, q2⟩ => ⟨I2.kIn, ?_⟩) hst hpl
  exact run_fnS (us := .ref a :: us) (vs := .ref a :: vs) F hr hb (hx σ) I2 (.cons rfl r) q2
end
/-! ### xs[::-1] -/
section
variable {X : Cx} {e st : Expr} {te : TE} {ts : TO} {pos p2 : Pos}
def tRevL (K : PySem.W.Frag) (te : TE) (ts : TO) : TE := fun σ H Q => te σ H fun x H1 => ts σ H1 fun l H2 => ∃ a xs, x = .ref a ∧ l = some (-1) ∧ SqL K H2 a xs ∧ ∀ p, H2 p = none → Q (.ref p) (upd H2 p (.lst xs.reverse))
theorem pe_sliceRev (he : PE X e te) (hs : PO X (some st) ts) (hsub : ∀ a b : Addr, subscripted (.Slice none none (some st) p2) false (.ref a) (.ref b) = operate [.ref a, .ref b] (getItem (.ref a) (.ref b)) := by intro _ _; with_unfolding_all rfl) : PE X (.Subscript e (.Slice none none (some st) p2) pos) (tRevL X.K te ts) := by
  refine ⟨fun pins s σ H Q I h => ?_⟩
  refine Subscript_ (thn (he.run pins s σ H _ I h) fun v s1 ⟨x, H1, I1, r1, q1⟩ => ?_)
  refine wpAny_Slice ?_
  rw [evalPart_none]
  refine wpAny_pure (wpAny_pure (thn (hs.run pins s1 σ H1 _ I1 q1) fun vs s3 ⟨u, H3, I3, pu, q3⟩ => ?_))
  obtain ⟨a, xs, ex, eu, hx, q⟩ := q3
  subst ex
  subst eu
  cases r1
  have I4 : Inv X pins σ H3 { s3 with heap := s3.heap.push { cls := .type "slice", data := .fields #[.none, .none, vs] } } := I3.kept (t' := s3.toks) fun b ob q => Heap.get?_push_of_some _ q
  obtain ⟨its, r, ht, hz⟩ := I4.list hx
  have hlen := r.length
  refine tail_any (ops := [.ref a, .ref s3.heap.objs.size]) (T := "list") ht.isList.typeIs slot_list_getitem.lookup ?_ (hsub _ _)
  refine wpAny_getItem_list_slice ht.isList (Heap.IsSliceOf.new ..) .none .none pu (by simp) ?_ (by rw [List.size_toArray] <;> omega)
  rw [PySem.W.krv_pick]
  refine ⟨.ref _, _, I4.laid (t' := s3.toks) (o := .lst xs.reverse) (fun b ob q => Heap.get?_push_of_some _ q) (Nat.le_refl _) ?_, rfl, q _ (I4.hok.fresh (Nat.le_refl _))⟩
  exact ⟨by rw [List.length_reverse]; exact hz, its.reverse, 0, r.reverse, Heap.get?_push_size _ rfl⟩
end
/-! ### slices of a tracked list -/
theorem cut_head (xs : List V) : cutV xs none (some 1) = xs.take 1 := by
  unfold cutV
  rw [HT.sIx_none, show (some (1 : Int)) = some ((1 : Nat) : Int) from rfl, HT.sIx_nat, List.drop_zero, Nat.sub_zero]
  rcases Nat.lt_or_ge xs.length 1 with h | h
  · rw [Nat.min_eq_right (by omega), List.take_of_length_le (by omega), List.take_of_length_le (by omega)]
  · rw [Nat.min_eq_left h]
theorem cut_tail (xs : List V) (k : Nat) : cutV xs (some (k : Int)) none = xs.drop k := by
  unfold cutV
  rw [HT.sIx_none, HT.sIx_nat]
  rcases Nat.lt_or_ge xs.length k with h | h
  · rw [Nat.min_eq_right (by omega), List.drop_of_length_le (Nat.le_refl _), List.drop_of_length_le (by omega)] <;> simp
  · rw [Nat.min_eq_left h, List.take_of_length_le (by rw [List.length_drop]; omega)]
/-! ### tuples of numbers and of pairs as data -/
theorem eqv_ints : ∀ (as bs : List Int), PyData.eqvAll (as.map PyData.int) (bs.map PyData.int) = decide (as = bs)
  | [], [] => rfl
  | [], _ :: _ => rfl
  | _ :: _, [] => rfl
  | a :: as, b :: bs => by
    show (PyData.eqv (.int a) (.int b) && PyData.eqvAll (as.map PyData.int) (bs.map PyData.int)) = _
    rw [eqv_ints as bs]
    show ((a == b) && decide (as = bs)) = _
    rw [Bool.eq_iff_iff]
    simp
def dP (p : Int × Int) : PyData := .tuple [.int p.1, .int p.2]
theorem eqv_pair (p q : Int × Int) : PyData.eqv (dP p) (dP q) = decide (p = q) := by
  obtain ⟨a, b⟩ := p
  obtain ⟨c, d⟩ := q
  show ((a == c) && ((b == d) && true)) = _
  rw [Bool.eq_iff_iff]
  simp
theorem eqv_pairs : ∀ (as bs : List (Int × Int)), PyData.eqvAll (as.map dP) (bs.map dP) = decide (as = bs)
  | [], [] => rfl
  | [], _ :: _ => rfl
  | _ :: _, [] => rfl
  | a :: as, b :: bs => by
    show (PyData.eqv (dP a) (dP b) && PyData.eqvAll (as.map dP) (bs.map dP)) = _
    rw [eqv_pairs as bs, eqv_pair, Bool.eq_iff_iff]
    simp
theorem dp_ints {K : PySem.W.Frag} {H : Hp} : ∀ (as : List Int), DpAll K H (as.map V.int) (as.map PyData.int)
  | [] => .nil
  | a :: r => .cons (.int a) (dp_ints r)
theorem dp_pair {K : PySem.W.Frag} {H : Hp} {a : Addr} {p : Int × Int} (h : H a = some (.tup [.int p.1, .int p.2])) : Dp K H (.ref a) (dP p) := .tup (SqT.of h) (.cons (.int _) (.cons (.int _) .nil))
theorem dp_pairs {K : PySem.W.Frag} {H : Hp} : ∀ (M : List (Addr × (Int × Int))), (∀ p ∈ M, H p.1 = some (.tup [.int p.2.1, .int p.2.2])) → DpAll K H (M.map fun p => V.ref p.1) ((M.map (·.2)).map dP)
  | [], _ => .nil
  | p :: r, h => .cons (dp_pair (h p List.mem_cons_self)) (dp_pairs r fun q hq => h q (List.mem_cons_of_mem _ hq))
theorem lay_ints : ∀ as : List Int, PyData.canLayAll0 (as.map PyData.int) = true
  | [] => rfl
  | a :: r => by
    show (true && PyData.canLayAll0 (r.map PyData.int)) = true
    rw [lay_ints r] <;> rfl
theorem lay_pairs : ∀ as : List (Int × Int), PyData.canLayAll0 (as.map dP) = true
  | [] => rfl
  | a :: r => by
    show (true && PyData.canLayAll0 (r.map dP)) = true
    rw [lay_pairs r] <;> rfl
theorem depth_ints : ∀ as : List Int, PyData.depthAll (as.map PyData.int) ≤ 1
  | [] => by simp [PyData.depthAll]
  | a :: r => by
    have h := depth_ints r
    simp only [List.map_cons, PyData.depthAll, PyData.depth]
    omega
theorem depth_pair (p : Int × Int) : (dP p).depth ≤ 4 := by
  unfold dP
  simp only [PyData.depth, PyData.depthAll]
  omega
theorem depth_pairs : ∀ as : List (Int × Int), PyData.depthAll (as.map dP) ≤ 4
  | [] => by simp [PyData.depthAll]
  | a :: r => by
    have h := depth_pairs r
    have h2 := depth_pair a
    simp only [List.map_cons, PyData.depthAll]
    omega
theorem shaped_ints (as : List Int) : SeqAt.shaped (.tuple (as.map PyData.int)) = true := by
  unfold SeqAt.shaped
  have e : (PyData.tuple (as.map PyData.int)).canLay0 = true := lay_ints as
  have d : (PyData.tuple (as.map PyData.int)).depth ≤ 64 := by
    have h2 := depth_ints as
    simp only [PyData.depth]
    omega
  rw [e, decide_eq_true d]
  rfl
theorem shaped_pair (p : Int × Int) : SeqAt.shaped (dP p) = true := by
  unfold SeqAt.shaped
  rw [show (dP p).canLay0 = true from rfl, decide_eq_true (Nat.le_trans (depth_pair p) (by decide))]
  rfl
theorem shaped_pairs (as : List (Int × Int)) : SeqAt.shaped (.tuple (as.map dP)) = true := by
  unfold SeqAt.shaped
  have e : (PyData.tuple (as.map dP)).canLay0 = true := lay_pairs as
  have d : (PyData.tuple (as.map dP)).depth ≤ 64 := by
    have h2 := depth_pairs as
    simp only [PyData.depth]
    omega
  rw [e, decide_eq_true d]
  rfl
theorem nil_ints {K : PySem.W.Frag} {H : Hp} {a : Addr} {as : List Int} (h : H a = some (.tup (as.map V.int))) : Dp K H (.ref a) (.tuple (as.map PyData.int)) := .tup (SqT.of h) (dp_ints as)
/-! ### a hook that reads the getters of properties too -/
structure PropD where
  cls : Str
  f : Str
  d : He.DefD
def PropD.p (K : PySem.W.Frag) (q : PropD) : Addr := He.ma K (He.ga K q.cls) q.f
def PropD.g (K : PySem.W.Frag) (q : PropD) : Addr := match PySem.W.recIn K (q.p K) "property" with
  | some (.ref g :: _) => g
  | _ => 0
def fnAt (K : PySem.W.Frag) (a : Addr) : He.FnW := match K.lookup a with
  | some ⟨_, _, .func fd, _⟩ => some (fd.name, fd.qualname, fd.params, fd.body, fd.scope, fd.globals, fd.closure, fd.builtins)
  | _ => none
def PropD.ok (K : PySem.W.Frag) (q : PropD) : Bool := PySem.W.keepIn K (.ref (q.g K)) && ((match K.lookup (q.g K) with
  | some ⟨_, _, .func fd, _⟩ => PySem.W.codeIn K fd.code q.d.qual && (He.dflB K fd.defaults [] && He.kwdB K fd.kwdefaults [])
  | _ => false) && (He.eqO (PySem.W.findIn K (.ref (He.ga K q.cls)) q.f) (some (some (.ref (q.p K)))) && (He.eqO (PySem.W.specialIn K (.ref (q.p K)) "__get__") (some (some (.builtin "property.__get__"))) &&
  (decide (PySem.W.takesIn K (.ref (q.p K)) = some true) && (match PySem.W.recIn K (q.p K) "property" with
    | some (.ref _ :: _) => true
    | _ => false)))))
theorem PropD.funD {K : PySem.W.Frag} {q : PropD} (e : fnAt K (q.g K) = q.d.val) (c : q.ok K = true) : (∃ fd, FunD K q.d.name q.d.qual q.d.params q.d.body q.d.scope [] [] (q.g K) fd) ∧ PropOf K (He.ga K q.cls) q.f (q.p K) (q.g K) := by
  obtain ⟨kp, c⟩ := Bool.and_eq_true_iff.mp c
  obtain ⟨c2, c⟩ := Bool.and_eq_true_iff.mp c
  obtain ⟨p1, c⟩ := Bool.and_eq_true_iff.mp c
  obtain ⟨p2, c⟩ := Bool.and_eq_true_iff.mp c
  obtain ⟨p3, p4⟩ := Bool.and_eq_true_iff.mp c
  refine ⟨?_, He.eqO_ok p1, He.eqO_ok p2, of_decide_eq_true p3, ?_⟩
  · unfold fnAt at e
    cases z : K.lookup (q.g K) with
    | none =>
      rw [z] at c2
      cases c2
    | some o =>
      obtain ⟨oc, od, dt, osl⟩ := o
      rw [z] at c2 e
      cases dt with
      | func fd =>
        obtain ⟨n1, n2, n3, n4, n5, n6, n7, n8, n9, n10, n11, n12, n13, n14, n15⟩ := fd
        have e2 : (some (n1, n2, n3, n4, n5, n6, n7, n15) : He.FnW) = some (q.d.name, q.d.qual, q.d.params, .stmts q.d.body, q.d.scope, mainGlobals, [], builtinsNs) := e
        simp only [Option.some.injEq, Prod.mk.injEq] at e2
        obtain ⟨h1, h2, h3, h4, h5, h6, h7, h8⟩ := e2
        subst h1 h2 h3 h4 h5 h6 h7 h8
        have c3 : (PySem.W.codeIn K n13 q.d.qual && (He.dflB K n8 [] && He.kwdB K n9 [])) = true := c2
        obtain ⟨k1, k2⟩ := Bool.and_eq_true_iff.mp c3
        obtain ⟨k3, k4⟩ := Bool.and_eq_true_iff.mp k2
        exact ⟨_, ⟨oc, od, n8, n9, n10, n11, n12, n13, n14, osl, rfl, z, k1, He.dflB_ok k3, He.kwdB_ok k4⟩, kp⟩
      | _ => cases c2
  · unfold PropD.g
    cases z : PySem.W.recIn K (q.p K) "property" with
    | none =>
      rw [z] at p4
      cases p4
    | some l =>
      rw [z] at p4
      cases l with
      | nil => cases p4
      | cons a r =>
        cases a with
        | ref g => exact ⟨r, rfl⟩
        | _ => cases p4
section
variable (n : Nat) (fa : List He.Fa) (fn : List He.DefD) (ps : List PropD) (ex : PySem.W.Frag → Bool)
abbrev AlP : Type := He.AlX × List He.FnW
def obsP (g : Addr → Option Obj) : AlP := (He.obsX n fa fn [] [] ex g, ps.map fun q => fnAt (He.frT g (He.asD g n)) (q.g (He.frT g (He.asD g n))))
def hookP : PySem.W.Hook where
  α := AlP
  obs := fun s => obsP n fa fn ps ex s.heap.get?
  val := fun w => (He.valX fn [] w, ps.map fun q => q.d.val)
  says := fun w h => ∃ K : PySem.W.Frag, K.In h ∧ He.SaysX fa fn [] [] ex w h K ∧ (ps.map fun q => fnAt K (q.g K)) = ps.map fun q => q.d.val
  of := fun _ _ e => ⟨_, He.frT_in, He.saysX_of (congrArg (fun z : AlP => z.1) e), by have h := congrArg (fun z : AlP => z.2) e; exact h⟩
  keeps := fun _ _ _ ⟨K, hK, c, e⟩ k => ⟨K, PySem.W.Frag.In.keeps hK k, ⟨c.t, c.more, c.hd, c.out, fun p hp => k _ _ (c.empty p hp)⟩, e⟩
theorem obsP_eq {g : Addr → Option Obj} {s : Shared} (h : ∀ a, g a = s.heap.get? a) : obsP n fa fn ps ex g = (hookP n fa fn ps ex).obs s := by
  have e : g = s.heap.get? := funext h
  rw [e] <;> rfl
end
end Kx

namespace Kx
open PySem PySem.Spec PyProof.Rows L2
/-! ### try: .. with several clauses, each with its name -/
abbrev Cl := Value × Nat × (Addr → Value → Option Addr → TS)
/-- behind a clause its name is gone -/
def goneAt (i : Nat) (D : Ends) : Ends := { nx := fun q G => D.nx (q.set i none) G, rt := D.rt, bk := fun q G => D.bk (q.set i none) G, ct := fun q G => D.ct (q.set i none) G }
/-- what the clauses wish, one after the other -/
def wCls (K : PySem.W.Frag) (Wo : WX) (D : Ends) : List Cl → WX
  | [] => Wo
  | (c, i, ts) :: more => fun cls d q G => ∃ b, PySem.W.exmOne K cls c = some b ∧ (b = true → ∀ a, G a = none → ts a cls d (goneAt i D) (q.set i (some (.ref a))) G) ∧ (b = false → wCls K Wo D more cls d q G)
inductive ClsOk (X : Cx) : List ExceptHandler → List Cl → Prop
  | nil : ClsOk X [] []
  | cons {x n : Str} {i : Nat} {c : Value} {ts : Addr → Value → Option Addr → TS} {s0 : Stmt} {ss : List Stmt} {p1 p2 : Pos} {hds : List ExceptHandler} {l : List Cl} (named : Names X x c) (at_ : X.N[i]? = some n) (loc : X.env.kindOf n = some .local)
      (suite : ∀ (a : Addr) (ob : Obj) (cls : Value) (d : Option Addr) (pn : List (Addr × Obj)), Zc cls d ob → (∃ vs, ob.data = .fields vs) → PSs (X.suite a ((a, ob) :: pn)) (s0 :: ss) (ts a cls d)) (rest : ClsOk X hds l) :
      ClsOk X (.ExceptHandler (some (.Name x p1)) (some n) (s0 :: ss) p2 :: hds) ((c, i, ts) :: l)
section
variable {X : Cx} {Wo : WX} {body : List Stmt} {h0 : ExceptHandler} {hds : List ExceptHandler} {l : List Cl} {pos : Pos} {tb : WX → TS}
/-- the end of a try's body, seen from outside -/
theorem body_end {pins : List (Addr × Obj)} {xe : Value → Shared → Prop} {D : Ends} {f : Flow} {t : Shared} (ok : X.Ok) (h : SP (X.tr (X.pn ++ pins) xe) [] D f t) : SP X pins D f t := by
  cases f with
  | next => exact h.elim fun q h => h.elim fun G h => ⟨q, G, h.1.ofTry ok, h.2⟩
  | brk => exact h.elim fun q h => h.elim fun G h => ⟨q, G, h.1.ofTry ok, h.2⟩
  | cont => exact h.elim fun q h => h.elim fun G h => ⟨q, G, h.1.ofTry ok, h.2⟩
  | ret u => exact h.elim fun v h => h.elim fun q h => h.elim fun G h => ⟨v, q, G, h.1.ofTry ok, h.2⟩
theorem ps_try_cls (tops : X.stack = X.env :: X.outer) (frame : X.env.frame = some X.env.locals) (nodup : X.N.Nodup) (tk : Takes X Wo)
    (bodyOk : ∀ (W : WX) (pn : List (Addr × Obj)) (xe : Value → Shared → Prop), Takes (X.tr pn xe) W → PassesOwn (model X.prog X.w) X.A X.env xe → PSs (X.tr pn xe) body (tb W)) (clauses : ClsOk X (h0 :: hds) l) :
    PS X (.Try body (h0 :: hds) [] [] pos) (fun D σ H => tb (wCls X.K Wo D l) D σ H) := by
  refine ⟨fun pins s σ H D I h => ?_⟩
  have ok := I.ok
  have live : X.A.frames = some (X.env :: X.outer) := ok.frames.trans (congrArg some tops)
  refine wpAny_Try_except ?_
  refine wpAny_mono ((bodyOk (wCls X.K Wo D l) (X.pn ++ pins) _ (fun u t air => ?_) PassesOwn.looking).run [] s σ H D (I.toTry _) h) (fun f t e => ?_) (fun e t z => z)
  case refine_2 =>
    have e' := body_end ok e
    cases f with
    | next => exact wpAny_execs_nil e'
    | brk => exact e'
    | cont => exact e'
    | ret _ => exact e'
  case refine_1 =>
    obtain ⟨a, B, sI, pins', q, G, cls, d, rfl, J', beside, same, sky, free, os, bare, wish⟩ := air
    have J : Inv X pins q G sI := J'.ofTry ok
    rw [show (X.tr (X.pn ++ pins) _).stack = X.env :: X.outer from tops] at sky
    show wpAny (model X.prog X.w) X.A (noteFrame (.ref a) X.env) _ _ _
    refine Sky.land Zc.steady live frame sky fun g fly turned => ?_
    have JG : Inv X pins q G { t with heap := g } := J.landed beside fly.1 (same.trans turned) os bare
    obtain ⟨ob, vs, there, kind, data⟩ := fly.there
    have noFrame : a ∉ frs (X.env :: X.outer) := fun hm => by
      obtain ⟨_, o', e', nf⟩ := fly.2.2.1.mem hm
      rw [there] at e'
      cases e'
      exact nf _ data
    have offL : a ≠ X.env.locals := fun z => noFrame (List.mem_filterMap.mpr ⟨X.env, List.mem_cons_self, by rw [frame, z]⟩)
    have offF : a ∉ X.fs := fun hm => by
      obtain ⟨w, hw, z⟩ := List.mem_filterMap.mp hm
      exact noFrame (List.mem_filterMap.mpr ⟨w, List.mem_cons_of_mem _ hw, z⟩)
    have inSuite := JG.suite there data free offL offF
    have walk : ∀ {hs : List ExceptHandler} {m : List Cl}, ClsOk X hs m → wCls X.K Wo D m cls d q G → wpAny (model X.prog X.w) X.A (handleBy (.ref a) X.env hs) (SP X pins D) X.xe { t with heap := g } := by
      intro hs m hm
      induction hm with
      | nil =>
        intro out
        refine wpAny_handleBy_nil ?_
        obtain ⟨_, _, _, ob2, vs2, T, _, _, e2, _, d2, f2, _⟩ := id fly
        unfold PySem.passOn
        refine wpAny_bind (wpAny_field e2 d2 f2 ?_)
        rw [if_neg (show ¬ ((Value.ref T == Value.none) = true) by simp)]
        have rise : wpAny (model X.prog X.w) X.A (setFlight (.ref a) X.env.frame) (fun _ t4 => wpAny (model X.prog X.w) X.A (throw (.ref a) : Sem Flow) (SP X pins D) X.xe t4) X.xe { t with heap := g } := by
          rw [frame]
          refine HandSPX.setFlight_upZ fly fun g4 held up4 => wpAny_throw (tk _ _ ⟨a, B, sI, pins, q, G, cls, d, rfl, J, beside, (same.trans turned).trans up4, .inr (.inr ?_), free, os, bare, out⟩)
          rw [tops]
          exact held
        first
          | exact wpAny_bind (wpAny_pure (wpAny_bind rise))
          | exact wpAny_bind rise
      | @cons x n i c ts s0 ss p1 p2 hs2 m2 named at_ loc suite rest ih =>
        intro wish
        obtain ⟨b, eb, yes, no⟩ := wish
        refine wpAny_handleBy_cons (codeAny_handlers_test ?_) (by intro z; cases z)
        have kindOf : PySem.W.Looks (model X.prog X.w) g (typeOf (.ref a)) cls := fun _ _ _ _ k z => wpAny_typeOf_ref (k _ _ there) (by rw [kind.1]; exact z)
        have matches_ := PySem.W.exm_one (M := model X.prog X.w) JG.kIn kindOf eb
        have name : ∀ {Q : Value → Shared → Prop} {E : Value → Shared → Prop}, Q c { t with heap := g } → wpAny (model X.prog X.w) (X.A.mark (some (.ref a))) (eval (.Name x p1) X.env) Q E { t with heap := g } := fun {Q E} z => by
          obtain ⟨gl, nd, own | ⟨fre, blt, nn⟩⟩ := named
          · exact ld_glob (X := X.suite a ((a, ob) :: (X.pn ++ pins))) inSuite gl own z nd
          · exact ld_blt (X := X.suite a ((a, ob) :: (X.pn ++ pins))) inSuite gl fre blt z nn nd
        refine name (matches_.here ?_)
        cases b with
        | false =>
          show wpAny _ X.A (handleBy (.ref a) X.env hs2) _ _ _
          exact ih (no rfl)
        | true =>
          refine codeAny_handlers_suite_as ?_
          refine HandSPX.lands_againZ fly fun g4 fly4 up4 => ?_
          have J4 : Inv X pins q G { t with heap := g4 } := J.landed beside fly4.1 ((same.trans turned).trans up4) os bare
          obtain ⟨ob4, vs4, there4, kind4, data4⟩ := fly4.there
          refine store_ok (X := X.suite a ((a, ob4) :: (X.pn ++ pins))) (v := .ref a) (J4.suite there4 data4 free offL offF) nodup at_ (.inl loc) rfl (fun t5 S5 => ?_) (.inr loc)
          refine wpAny_mono ((suite a ob4 cls d (X.pn ++ pins) kind4 ⟨_, data4⟩).run [] t5 _ G _ S5 (yes rfl a free)) (fun f t6 e => ?_) (fun _ _ z => False.elim z)
          have drop : ∀ {q6 : L2.St} {G6 : Hp} {R : Shared → Prop}, Inv (X.suite a ((a, ob4) :: (X.pn ++ pins))) [] q6 G6 t6 → (∀ t7, Inv X pins (q6.set i none) G6 t7 → R t7) →
              wpAny (model X.prog X.w) X.A (do bindName X.env n .none; unbindBehindTheSuite X.env n p2) (fun _ t7 => R t7) X.xe t6 := fun {q6 G6 R} S6 hr => gone_ok (S6.unsuite ok) nodup at_ loc hr
          cases f with
          | next =>
            obtain ⟨_, _, S6, z⟩ := e
            exact drop S6 fun _ J7 => ⟨_, _, J7, z⟩
          | brk =>
            obtain ⟨_, _, S6, z⟩ := e
            exact drop S6 fun _ J7 => ⟨_, _, J7, z⟩
          | cont =>
            obtain ⟨_, _, S6, z⟩ := e
            exact drop S6 fun _ J7 => ⟨_, _, J7, z⟩
          | ret _ =>
            obtain ⟨_, _, _, S6, r6, z⟩ := e
            exact drop S6 fun _ J7 => ⟨_, _, _, J7, r6, z⟩
    exact walk clauses wish
end
end Kx

namespace Kx
open PySem PySem.Spec PyProof.Rows L2
/-! ### sets of tuples up to 300 members: the table with 512 places too -/
/-- each place begins a run early enough -/
def Meets (m : Nat) : Prop := ∀ (h : Int) (j : Nat), j ≤ m → ∃ n, n ≤ m + 12 ∧ runI m (SetTable.bits h) n = j
/-- n states from s on -/
def orbit : Nat → Nat → List Nat
  | 0, _ => []
  | n + 1, s => s :: orbit n ((s * 5 + 1) % 512)
theorem orbit_mem : ∀ (n a j : Nat), j ∈ orbit n (lcgN 511 a) → ∃ b, a ≤ b ∧ b < a + n ∧ lcgN 511 b = j
  | 0, _, _, h => by cases h
  | n + 1, a, j, h => by
    rcases List.mem_cons.mp h with e | h
    · exact ⟨a, Nat.le_refl _, by omega, e.symm⟩
    · obtain ⟨b, h1, h2, h3⟩ := orbit_mem n (a + 1) j h
      exact ⟨b, by omega, by omega, h3⟩
theorem orbit_all : ((List.range 512).all fun j => (orbit 512 0).contains j) = true := by decide +kernel
theorem orbit_round : lcgN 511 512 = 0 := by decide +kernel
theorem lcg511 {j : Nat} (h : j ≤ 511) : ∃ b, b ≤ 511 ∧ lcgN 511 b = j := by
  have h1 := List.all_eq_true.mp orbit_all j (List.mem_range.mpr (by omega))
  obtain ⟨b, _, h2, h3⟩ := orbit_mem 512 0 j (List.contains_iff_mem.mp h1)
  exact ⟨b, by omega, h3⟩
theorem lcg511_mod : ∀ k, lcgN 511 (512 + k) = lcgN 511 k
  | 0 => orbit_round
  | k + 1 => by
    show (lcgN 511 (512 + k) * 5 + 1) % (511 + 1) = (lcgN 511 k * 5 + 1) % (511 + 1)
    rw [lcg511_mod k]
theorem lcgI511 {i j : Nat} (hi : i ≤ 511) (hj : j ≤ 511) : ∃ k, k ≤ 511 ∧ lcgI 511 i k = j := by
  obtain ⟨a, ha, rfl⟩ := lcg511 hi
  obtain ⟨b, hb, rfl⟩ := lcg511 hj
  by_cases c : a ≤ b
  · exact ⟨b - a, by omega, by rw [lcgN_add, Nat.add_sub_cancel' c]⟩
  · refine ⟨512 + b - a, by omega, ?_⟩
    rw [lcgN_add, show a + (512 + b - a) = 512 + b by omega, lcg511_mod]
theorem meets511 : Meets 511 := fun h j hj => by
  obtain ⟨k, hk, e⟩ := lcgI511 (runI_le 511 (SetTable.bits h) 12) hj
  exact ⟨12 + k, by omega, (runI_tail (bits_lt h) k).trans e⟩
def MaskX (m : Nat) : Prop := MaskOk m ∨ m = 511
theorem MaskX.meets {m : Nat} (h : MaskX m) : Meets m := by
  rcases h with h | rfl
  · exact fun x j hj => run_meets h x hj
  · exact meets511
theorem MaskX.odd {m : Nat} (h : MaskX m) : m % 2 = 1 := by
  rcases h with h | rfl
  · exact mask_odd h
  · rfl
theorem MaskX.le {m : Nat} (h : MaskX m) : m ≤ 511 := by
  rcases h with (h | h | h) | h <;> omega
/-- a way stays in the table -/
theorem way_in (m : Nat) (h : Int) (k : Nat) : way m h k ≤ m := by
  have b0 : SetTable.bits h % (m + 1) ≤ m := Nat.le_of_lt_succ (Nat.mod_lt _ (Nat.succ_pos m))
  have e0 := runEnd_bd b0
  have last := nth_in (m := m) k (runAt m (SetTable.bits h % (m + 1)) (SetTable.bits h)) (by
    show SetTable.bits h % (m + 1) + (SetTable.runEnd m (SetTable.bits h % (m + 1)) - SetTable.bits h % (m + 1)) ≤ m
    generalize SetTable.bits h % (m + 1) = i at b0 e0 ⊢
    omega)
  exact Nat.le_trans (Nat.le_add_right _ _) last
structure TabX (t : SetTable) (hs : List Int) : Prop where
  ris : Ris t.place.toList
  dm : t.dummies = #[]
  sz : t.place.size = hs.length
  mok : MaskX t.mask
  found : ∀ (i : Nat) (h : Int) (j : Nat), hs[i]? = some h → t.place.toList[i]? = some j → ∃ k, way t.mask h k = j ∧ ∀ c, c < k → way t.mask h c ∈ t.place.toList
theorem TabX.of {t : SetTable} {hs : List Int} (T : TabOk t hs) : TabX t hs := ⟨T.ris, T.dm, T.sz, .inl T.mok, T.reach⟩
theorem TabX.gap {t : SetTable} {hs : List Int} (T : TabX t hs) (len : hs.length ≤ t.mask) (h : Int) : ∃ K, K < 10 * SetTable.turns t.mask ∧ way t.mask h K ∉ t.place.toList ∧ ∀ c, c < K → way t.mask h c ∈ t.place.toList := by
  obtain ⟨j, hj, out⟩ := st_missing t.place.toList (t.mask + 1) (by rw [Array.length_toList, T.sz]; omega)
  obtain ⟨n, hn, e⟩ := T.mok.meets h j (by omega)
  obtain ⟨k, hk, e2⟩ := run_nth t.mask (SetTable.bits h) n
  have wk : way t.mask h k = j := (congrArg SetTable.Probe.j e2).trans e
  obtain ⟨K, k1, k2, k3⟩ := st_least (p := fun c => way t.mask h c ∉ t.place.toList) k (wk ▸ out)
  refine ⟨K, ?_, k2, fun c hc => Classical.not_not.mp (k3 c hc)⟩
  unfold SetTable.turns
  omega
/-- one more is put in at the first gap -/
theorem TabX.put {t : SetTable} {hs : List Int} (T : TabX t hs) {h : Int} {K : Nat} (out : way t.mask h K ∉ t.place.toList) (ahead : ∀ c, c < K → way t.mask h c ∈ t.place.toList) :
    ∃ p, (t.put (way t.mask h K)).2 = p ∧ p ≤ hs.length ∧ TabX (t.put (way t.mask h K)).1 (hs.take p ++ h :: hs.drop p) ∧ (t.put (way t.mask h K)).1.mask = t.mask ∧ (t.put (way t.mask h K)).1.led = t.led ∧
      (t.put (way t.mask h K)).1.plain = t.plain ∧ (t.put (way t.mask h K)).1.fill = hs.length + 1 := by
  generalize hj : way t.mask h K = j at out
  have low : SetTable.below t.place j ≤ t.place.size := (below_cut T.ris j).1
  have lowL : SetTable.below t.place j ≤ t.place.toList.length := by rw [Array.length_toList]; exact low
  have lowH : SetTable.below t.place j ≤ hs.length := T.sz ▸ low
  have there := put_place t j
  have size : (t.put j).1.place.size = hs.length + 1 := by
    have q := congrArg List.length there
    rw [L2.len_ins _ lowL, Array.length_toList, Array.length_toList, T.sz] at q
    exact q
  have stay : ∀ {x}, x ∈ t.place.toList → x ∈ (t.put j).1.place.toList := fun hx => by rw [there]; exact L2.mem_ins.2 (.inr hx)
  have fresh : t.place[SetTable.below t.place j]? ≠ some j := fun e => out (List.mem_of_getElem? ((Array.getElem?_toList ..).trans e))
  refine ⟨SetTable.below t.place j, rfl, lowH, ⟨ris_insert T.ris fresh, put_dm T.dm j, by rw [L2.len_ins _ lowH]; exact size, T.mok, ?_⟩, rfl, rfl, rfl, ?_⟩
  · intro i h' j' e1 e2
    rw [tins_get hs lowH] at e1
    rw [there, tins_get _ lowL] at e2
    have old : ∀ i', hs[i']? = some h' → t.place.toList[i']? = some j' → ∃ k, way t.mask h' k = j' ∧ ∀ c, c < k → way t.mask h' c ∈ (t.put j).1.place.toList := fun i' a b => by
      obtain ⟨k, w, f⟩ := T.found i' h' j' a b
      exact ⟨k, w, fun c hc => stay (f c hc)⟩
    by_cases c1 : i < SetTable.below t.place j
    · rw [if_pos c1] at e1 e2
      exact old i e1 e2
    · rw [if_neg c1] at e1 e2
      by_cases c2 : i = SetTable.below t.place j
      · rw [if_pos c2] at e1 e2
        cases e1
        cases e2
        exact ⟨K, hj, fun c hc => stay (ahead c hc)⟩
      · rw [if_neg c2] at e1 e2
        exact old (i - 1) e1 e2
  · show (t.put j).1.place.size + (t.put j).1.dummies.size = hs.length + 1
    rw [size, put_dm T.dm j]
    rfl
end Kx

namespace Kx
open PySem PySem.Spec PyProof.Rows L2
/-! ### the table laid anew, whatever its mask -/
theorem own_gap {m : Nat} (M : Meets m) {done : List Int} {owner : Array (Option Nat)} (W : Own m done owner) (len : done.length ≤ m) (h : Int) :
    ∃ K, SetTable.layClean.free m owner (SetTable.turns m) (SetTable.bits h % (m + 1)) (SetTable.bits h) = some (way m h K) ∧ oAt owner (way m h K) = none ∧ ∀ c, c < K → oAt owner (way m h c) ≠ none := by
  obtain ⟨taken, same, sure⟩ := W.ps
  obtain ⟨j, hj, notIn⟩ := st_missing taken (m + 1) (by omega)
  have empty : oAt owner j = none := Classical.byContradiction fun z => notIn (sure j (by omega) z)
  obtain ⟨n, hn, e⟩ := M h j (by omega)
  generalize hB : SetTable.bits h = b at e ⊢
  have at_ : ∀ c, way m h c = (nth m (runAt m (b % (m + 1)) b) c).j := fun c => by rw [← hB]
  have reached : (nth m (runAt m (b % (m + 1)) b) (off m (b % (m + 1)) b n)).j = j := by
    rw [nth_off, itL_run]
    exact e
  obtain ⟨K, below, gap, full⟩ := st_least (p := fun c => oAt owner (nth m (runAt m (b % (m + 1)) b) c).j = none) (off m (b % (m + 1)) b n) (by show oAt owner _ = none; rw [reached]; exact empty)
  refine ⟨K, ?_, (at_ K).symm ▸ gap, fun c hc => (at_ c).symm ▸ full c hc⟩
  rw [at_ K]
  refine free_spec m owner _ n _ _ K (by unfold SetTable.turns; omega) below (fun c hc => ?_) (by rw [gap]; rfl)
  have busy := full c hc
  revert busy
  cases oAt owner (nth m (runAt m (b % (m + 1)) b) c).j with
  | none => exact fun z => absurd rfl z
  | some _ => exact fun _ => rfl
theorem own_next {m : Nat} (M : Meets m) {done : List Int} {owner : Array (Option Nat)} (W : Own m done owner) (len : done.length ≤ m) (h : Int) :
    ∃ j, SetTable.layClean.free m owner (SetTable.turns m) (SetTable.bits h % (m + 1)) (SetTable.bits h) = some j ∧ Own m (done ++ [h]) (owner.setIfInBounds j (some done.length)) := by
  obtain ⟨K, found, gap, full⟩ := own_gap M W len h
  have le := way_in m h K
  generalize hw : way m h K = w at found gap le
  have self : oAt (owner.setIfInBounds w (some done.length)) w = some done.length := oAt_set_self _ (by rw [W.sz]; omega)
  have other : ∀ {i}, i ≠ w → oAt (owner.setIfInBounds w (some done.length)) i = oAt owner i := fun n => oAt_set_ne _ n
  have more : ∀ {i}, oAt owner i ≠ none → oAt (owner.setIfInBounds w (some done.length)) i ≠ none := by
    intro i hi
    by_cases e : i = w
    · subst e
      rw [self]
      exact fun z => nomatch z
    · rw [other e]
      exact hi
  obtain ⟨taken, same, sure⟩ := W.ps
  refine ⟨w, found, (Array.size_setIfInBounds ..).trans W.sz, ?_, ?_, w :: taken, by simp [same], ?_⟩
  · intro i k hi e
    by_cases c : i = w
    · subst c
      rw [self] at e
      cases e
      exact ⟨h, K, List.getElem?_concat_length, hw, fun c hc => more (full c hc)⟩
    · rw [other c] at e
      obtain ⟨h', K', a1, a2, a3⟩ := W.at_ i k hi e
      exact ⟨h', K', (List.getElem?_append_left (List.getElem?_eq_some_iff.mp a1).1).trans a1, a2, fun c hc => more (a3 c hc)⟩
  · intro k hk
    rw [List.length_append, List.length_singleton] at hk
    by_cases c : k = done.length
    · subst c
      exact ⟨w, le, self⟩
    · obtain ⟨i, hi, e⟩ := W.all k (by omega)
      exact ⟨i, hi, (other fun z => by rw [z, gap] at e; cases e).trans e⟩
  · intro i hi e
    by_cases c : i = w
    · exact c ▸ List.mem_cons_self
    · exact List.mem_cons_of_mem _ (sure i hi (by rw [← other c]; exact e))
theorem own_all {m : Nat} (M : Meets m) : ∀ (rest done : List Int) (owner : Array (Option Nat)), Own m done owner → done.length + rest.length ≤ m →
    ∃ owner2, rest.foldl (stepF m) (some (owner, done.length)) = some (owner2, (done ++ rest).length) ∧ Own m (done ++ rest) owner2
  | [], done, owner, W, _ => ⟨owner, by simp, by simpa using W⟩
  | h :: rest, done, owner, W, len => by
    rw [List.length_cons] at len
    obtain ⟨j, e, W1⟩ := own_next M W (by omega) h
    obtain ⟨owner2, f, W2⟩ := own_all M rest (done ++ [h]) _ W1 (by rw [List.length_append, List.length_singleton]; omega)
    rw [List.append_assoc, List.singleton_append] at f W2
    rw [List.length_append, List.length_singleton] at f
    exact ⟨owner2, by rw [List.foldl_cons, stepF_some e]; exact f, W2⟩
theorem relaidX (t : SetTable) {hs : Array Int} {wanted m : Nat} (hw : SetTable.sizeAbove wanted - 1 = m) (hm : MaskX m) (len : hs.size ≤ m) :
    ∃ t2 order, t.relaid hs wanted = some (t2, order) ∧ order.toList.Perm (List.range hs.size) ∧ TabX t2 (order.toList.map fun i => hs.getD i 0) ∧ t2.mask = m ∧ t2.led = t.led ∧ t2.plain = t.plain := by
  obtain ⟨owner, f, W⟩ := own_all hm.meets hs.toList [] _ (Own.init m) (by simpa using len)
  rw [List.nil_append] at f W
  have clean : SetTable.layClean m hs = some owner := by
    rw [layClean_eq]
    exact congrArg (Option.map Prod.fst) f
  have live : ∀ {j k}, (j, k) ∈ liveOf m owner ↔ j ≤ m ∧ oAt owner j = some k := mem_live W.sz
  obtain ⟨up, inR⟩ := ris_live (fun j => owner.getD j none) (List.range (m + 1)) (by unfold Ris; first | exact List.pairwise_lt_range | exact List.pairwise_lt_range _)
  have up : Ris ((liveOf m owner).map (·.1)) := up
  have many : (liveOf m owner).length = hs.size := by
    obtain ⟨taken, same, sure⟩ := W.ps
    have n1 := nat_nodup_len _ taken (List.Pairwise.imp (fun h => Nat.ne_of_lt h) up) (by
      intro x hx
      obtain ⟨q, hq, rfl⟩ := List.mem_map.mp hx
      obtain ⟨a, b⟩ := live.mp (show (q.1, q.2) ∈ _ from hq)
      exact sure q.1 a (by rw [b]; exact fun z => nomatch z))
    have n2 := nat_nodup_len (List.range hs.size) ((liveOf m owner).map (·.2)) List.nodup_range (by
      intro k hk
      obtain ⟨j, a, b⟩ := W.all k (by simpa using List.mem_range.mp hk)
      exact List.mem_map.mpr ⟨(j, k), live.mpr ⟨a, b⟩, rfl⟩)
    simp only [List.length_map, List.length_range, Array.length_toList] at n1 n2 same
    omega
  refine ⟨tabOf t m owner, ((liveOf m owner).map (·.2)).toArray, by rw [relaid_eq, hw, clean]; rfl, ?_, ⟨up, rfl, by show ((liveOf m owner).map (·.1)).toArray.size = _; simp, hm, ?_⟩, rfl, rfl, rfl⟩
  · exact perm_range _ _ (by simpa using many) fun k hk => by
      obtain ⟨j, a, b⟩ := W.all k (by simpa using hk)
      exact List.mem_map.mpr ⟨(j, k), live.mpr ⟨a, b⟩, rfl⟩
  · intro i h j e1 e2
    have e1 : (((liveOf m owner).map (·.2)).map fun i => hs.getD i 0)[i]? = some h := e1
    have e2 : ((liveOf m owner).map (·.1))[i]? = some j := e2
    simp only [List.getElem?_map] at e1 e2
    cases hq : (liveOf m owner)[i]? with
    | none => rw [hq] at e2; cases e2
    | some q =>
      obtain ⟨x, k⟩ := q
      rw [hq] at e1 e2
      cases e2
      obtain ⟨a, b⟩ := live.mp (List.mem_of_getElem? hq)
      obtain ⟨h0, K, c1, c2, c3⟩ := W.at_ _ k a b
      have hk : hs.getD k 0 = h0 := by
        rw [Array.getD_eq_getD_getElem?, ← Array.getElem?_toList, c1]
        rfl
      have hh : h0 = h := hk.symm.trans (Option.some.inj e1)
      subst hh
      refine ⟨K, c2, fun c hc => ?_⟩
      show way m h0 c ∈ (liveOf m owner).map (·.1)
      obtain ⟨k2, z⟩ := Option.ne_none_iff_exists'.mp (c3 c hc)
      exact List.mem_map.mpr ⟨(_, k2), live.mpr ⟨way_in m h0 c, z⟩, rfl⟩
end Kx

namespace Kx
open PySem PySem.Spec PyProof.Rows L2
/-! ### the set of tuples: asked, and more put in -/
abbrev pr (t : SetTable) (h : Int) (c : Nat) : SetTable.Probe := nth t.mask (runAt t.mask (SetTable.bits h % (t.mask + 1)) (SetTable.bits h)) c
theorem pr_add (t : SetTable) (h : Int) (c q : Nat) : nth t.mask (pr t h c) q = pr t h (c + q) := (nth_add t.mask c _ q).symm
theorem pr_dummy (m : Nat) : ∀ (n : Nat) (p : SetTable.Probe), p.dummy = none → (nth m p n).dummy = none
  | 0, _, h => h
  | n + 1, p, h => pr_dummy m n _ (by unfold adv; split <;> exact h)
section
variable {P : Program} {w : World} {A : Around} {E : Value → Shared → Prop} {s : Shared}
structure SX (P : Program) (w : World) (h : Heap) (a : Addr) (L : List (Addr × List Int)) (es : Array (Int × Value)) (ep : Nat) (t : SetTable) : Prop where
  ob : ∃ o, h.get? a = some o ∧ o.ExactSet ∧ o.data = .set es ep t
  rows : es.toList = rowsOf P w L
  tab : TabX t (L.map fun p => thash P w p.2)
  nd : (L.map (·.2)).Nodup
  tup : ∀ p ∈ L, IsT P w h p.2 p.1
  plain : t.plain = true
  led : w.params.followText "set-order" = true ∨ t.led = true
  room : L.length * 5 < t.mask * 3
  few : L.length ≤ 100
variable {a x : Addr} {L : List (Addr × List Int)} {es : Array (Int × Value)} {ep : Nat} {t : SetTable} {k : List Int}
theorem SX.size {h : Heap} (R : SX P w h a L es ep t) : es.size = L.length := by
  have q := congrArg List.length R.rows
  simpa [rowsOf] using q
theorem SX.fits {h : Heap} (R : SX P w h a L es ep t) : t.fits es.size = true := by
  have h1 := R.tab.sz
  have h2 := R.size
  have h3 := R.room
  rw [List.length_map] at h1
  unfold SetTable.fits SetTable.fill
  rw [R.tab.dm, Bool.and_eq_true, beq_iff_eq, decide_eq_true_eq]
  show _ = _ ∧ t.place.size + 0 ≤ t.mask
  omega
theorem SX.item {h : Heap} (R : SX P w h a L es ep t) {i : Nat} {p : Addr × List Int} (hp : L[i]? = some p) : es[i]? = some (thash P w p.2, Value.ref p.1) := by
  have q : es.toList[i]? = _ := congrArg (·[i]?) R.rows
  rw [Array.getElem?_toList] at q
  rw [q]
  simp [rowsOf, hp]
theorem SX.there {h : Heap} (R : SX P w h a L es ep t) : ¬ t.gaveWay = true := by
  unfold SetTable.gaveWay
  rw [R.tab.mok.odd]
  decide
/-- the search, from the c-th step of its way on -/
theorem seekX (R : SX P w s.heap a L es ep t) (hx : IsT P w s.heap k x) (hu : A.units < cLine) (ad : Bool) {K : Nat} (hKf : K < 10 * SetTable.turns t.mask) (hK : way t.mask (thash P w k) K ∉ t.place.toList)
    (hKb : ∀ c, c < K → way t.mask (thash P w k) c ∈ t.place.toList) {Q : SetFound → Shared → Prop} (yes : k ∈ L.map (·.2) → ∀ r : Option Nat, (ad = false → r.isSome = true) → Q (.there r) s)
    (no : k ∉ L.map (·.2) → Q (.free (way t.mask (thash P w k) K) false) s) :
    ∀ (f c : Nat) (stand : Option SetTable.Probe), stand.getD (t.probeStart (thash P w k)) = pr t (thash P w k) c → c ≤ K → K - c < f →
      (∀ (i : Nat) (p : Addr × List Int), L[i]? = some p → p.2 = k → ∃ c', c ≤ c' ∧ c' < K ∧ t.place.toList[i]? = some (way t.mask (thash P w k) c')) →
      wpAny (model P w) A (setSearchFrom a (.ref x) (thash P w k) ad f stand) Q E s := by
  obtain ⟨o, ho, hex, hd⟩ := R.ob
  intro f
  induction f with
  | zero => intro c stand _ _ hf; omega
  | succ f ih =>
    intro c stand hst hc hf ahead
    have step : ∀ q, (nth t.mask (pr t (thash P w k) c) q).j = way t.mask (thash P w k) (c + q) := fun q => congrArg (·.j) (pr_add t _ c q)
    have hashOf : ∀ {i : Nat} {p : Addr × List Int}, L[i]? = some p → (es[i]?.map (·.1)).getD 0 = thash P w p.2 := fun e => by rw [R.item e]; rfl
    rw [setSearchFrom_succ]
    refine wpAny_bind (wpAny_setState_of ho hd R.fits (wp_if_neg R.there (wpAny_bind (wpAny_pure ?_))))
    rcases go_spec t R.tab.ris R.tab.dm (fun i => (es[i]?.map (·.1)).getD 0) (thash P w k) (10 * SetTable.turns t.mask) (K - c) (pr t (thash P w k) c) (pr_dummy _ c _ rfl) (by omega)
      (fun q hq => by rw [step]; exact hKb _ (by omega)) (by rw [step, Nat.add_sub_cancel' hc]; exact hK) with ⟨q, i, hq, hi, _, first, found⟩ | ⟨first, found⟩
    · have found' : t.probe (fun i => (es[i]?.map (·.1)).getD 0) (thash P w k) (stand.getD (t.probeStart (thash P w k))) = some (.candidate (way t.mask (thash P w k) (c + q)) i (pr t (thash P w k) (c + (q + 1)))) := by
        rw [hst, ← step, ← pr_add]
        exact found
      rw [found']
      rw [step] at hi
      have small : i < L.length := by
        have h1 := (List.getElem?_eq_some_iff.mp hi).1
        have h2 := R.tab.sz
        simp only [Array.length_toList, List.length_map] at h1 h2
        omega
      obtain ⟨p, hp⟩ : ∃ p, L[i]? = some p := ⟨_, List.getElem?_eq_getElem small⟩
      have inL : p ∈ L := List.mem_of_getElem? hp
      have live := slot_live R.tab.ris hi
      have tail : wpAny (model P w) A (searchRest a (.ref x) (thash P w k) ad f es t (way t.mask (thash P w k) (c + q)) i (pr t (thash P w k) (c + (q + 1)))) Q E s := by
        unfold searchRest
        rw [R.item hp]
        refine wpAny_bind (wpAny_holding (wpAny_eqBool_tuple hu (R.tup p inL) hx (wpAny_bind (wpAny_setState_of ho hd R.fits ?_))))
        by_cases like : p.2 = k
        · have here : k ∈ L.map (·.2) := List.mem_map.mpr ⟨p, inL, like⟩
          cases ad with
          | true => exact wp_if_pos (by simp [like]) (wpAny_pure (yes here none fun z => nomatch z))
          | false =>
            refine wp_if_neg (by simp) (wpAny_bind (wpAny_pure ?_))
            rw [sameMem]
            simp only [if_true, live, R.item hp]
            refine wpAny_bind (wpAny_isSame_ref_self (wpAny_bind (wpAny_pure ?_)))
            simp only [if_true]
            exact wp_if_pos (by simp [like]) (wpAny_pure (yes here (some i) fun _ => rfl))
        · refine wp_if_neg (by simp [like]) (wpAny_bind (wpAny_pure ?_))
          rw [sameMem]
          simp only [if_true, live, R.item hp]
          refine wpAny_bind (wpAny_isSame_ref_self (wpAny_bind (wpAny_pure ?_)))
          simp only [if_true]
          refine wp_if_neg (by simp [like]) (ih _ _ rfl (by omega) (by omega) fun i0 p0 e0 k0 => ?_)
          obtain ⟨c', l1, l2, l3⟩ := ahead i0 p0 e0 k0
          refine ⟨c', ?_, l2, l3⟩
          by_cases b1 : c' < c + q
          · exact absurd ((hashOf e0).trans (congrArg (thash P w) k0)) (first (c' - c) i0 (by omega) (by rw [step, Nat.add_sub_cancel' l1]; exact l3))
          · by_cases b2 : c' = c + q
            · rw [b2] at l3
              have twice := slot_live R.tab.ris l3
              rw [live] at twice
              cases twice
              rw [hp] at e0
              cases e0
              exact absurd k0 like
            · omega
      by_cases hl : t.led = true
      · exact wp_if_neg (by simp [hl]) (wpAny_bind (wpAny_pure tail))
      · refine wp_if_pos (by simp [hl]) (wpAny_bind (seen_tup hx (fun y hy => ?_) (wp_if_neg (by decide) (wpAny_bind (wpAny_pure tail)))))
        obtain ⟨e, he, rfl⟩ := List.mem_map.mp hy
        have he2 : e ∈ es.toList := by
          have := (show e ∈ es ∧ e.1 = thash P w k by simpa using he).1
          simpa using this
        rw [R.rows] at he2
        obtain ⟨p2, hp2, rfl⟩ := List.mem_map.mp he2
        exact ⟨p2.2, p2.1, rfl, R.tup p2 hp2⟩
    · have found' : t.probe (fun i => (es[i]?.map (·.1)).getD 0) (thash P w k) (stand.getD (t.probeStart (thash P w k))) = some (.empty (way t.mask (thash P w k) K) none) := by
        have e2 := step (K - c)
        rw [Nat.add_sub_cancel' hc] at e2
        rw [hst, ← e2]
        exact found
      rw [found']
      refine wpAny_pure (no fun hm => ?_)
      obtain ⟨p0, h0, k0⟩ := List.mem_map.mp hm
      obtain ⟨i0, e0⟩ := List.mem_iff_getElem?.mp h0
      obtain ⟨c', l1, l2, l3⟩ := ahead i0 p0 e0 k0
      exact first (c' - c) i0 (by omega) (by rw [step, Nat.add_sub_cancel' l1]; exact l3) ((hashOf e0).trans (congrArg (thash P w) k0))
end
end Kx

namespace Kx
open PySem PySem.Spec PyProof.Rows L2
section
variable {P : Program} {w : World} {A : Around} {E : Value → Shared → Prop} {s : Shared} {a x : Addr} {L : List (Addr × List Int)} {es : Array (Int × Value)} {ep : Nat} {t : SetTable} {k : List Int}
theorem searchX (R : SX P w s.heap a L es ep t) (hx : IsT P w s.heap k x) (hu : A.units < cLine) (ad : Bool) {Q : SetFound → Shared → Prop} (yes : k ∈ L.map (·.2) → ∀ r : Option Nat, (ad = false → r.isSome = true) → Q (.there r) s)
    (no : ∀ K, k ∉ L.map (·.2) → way t.mask (thash P w k) K ∉ t.place.toList → (∀ c, c < K → way t.mask (thash P w k) c ∈ t.place.toList) → Q (.free (way t.mask (thash P w k) K) false) s) :
    wpAny (model P w) A (setSearch a (.ref x) (thash P w k) ad) Q E s := by
  have room := R.room
  obtain ⟨K, hKf, hK, hKb⟩ := R.tab.gap (by rw [List.length_map]; omega) (thash P w k)
  have big : 10 * SetTable.turns t.mask < 100000 := by
    have := R.tab.mok.le
    unfold SetTable.turns
    omega
  unfold setSearch
  refine seekX R hx hu ad hKf hK hKb yes (fun n => no K n hK hKb) 100000 0 none rfl (Nat.zero_le K) (by omega) fun i p hp hk => ?_
  have lt : i < t.place.toList.length := by
    have h1 := (List.getElem?_eq_some_iff.mp hp).1
    have h2 := R.tab.sz
    simp only [Array.length_toList, List.length_map] at h2 ⊢
    omega
  have hj := List.getElem?_eq_getElem lt
  obtain ⟨c, e, before⟩ := R.tab.found i (thash P w k) _ (by rw [List.getElem?_map, hp, ← hk]; rfl) hj
  have cK : c < K := by
    rcases Nat.lt_trichotomy c K with z | z | z
    · exact z
    · exact absurd (List.mem_of_getElem? hj) (by rw [← e, z]; exact hK)
    · exact absurd (before K z) hK
  exact ⟨c, Nat.zero_le _, cK, by rw [hj, e]⟩
theorem containsX (R : SX P w s.heap a L es ep t) (hx : IsT P w s.heap k x) (hu : A.units + 3 < cLine) {Q : Bool → Shared → Prop} (h : ∀ tk, Q (decide (k ∈ L.map (·.2))) { s with toks := tk }) : wpAny (model P w) A (setContains a (.ref x)) Q E s := by
  obtain ⟨o, ho, hex, hd⟩ := R.ob
  unfold setContains
  refine wpAny_holding (wpAny_bind (wpAny_pyHash_tuple (by omega) hx (wpAny_bind ?_)))
  have R' : SX P w ({ s with toks := s.toks + (k.length + 1) } : Shared).heap a L es ep t := R
  show wpAny _ _ (setFind a (.ref x) (thash P w k)) _ _ _
  unfold setFind
  rw [show (100000 : Nat) = 99999 + 1 from rfl]
  unfold setFindIn
  refine wpAny_bind (wpAny_setState_of ho hd R.fits (wp_if_neg (by simp [byScan, Value.scannable]) (wpAny_bind ?_)))
  refine searchX (s := { s with toks := s.toks + (k.length + 1) }) R' hx (by omega) false (fun m r hr => ?_) fun K m _ _ => ?_
  · refine wpAny_pure (wpAny_pure ?_)
    rw [hr rfl, ← decide_eq_true m]
    exact h _
  · refine wpAny_pure (wpAny_pure ?_)
    have q := h (s.toks + (k.length + 1))
    rw [decide_eq_false m] at q
    exact q
/-- x in the set, x not in it -/
theorem inX (R : SX P w s.heap a L es ep t) (hx : IsT P w s.heap k x) (hu : A.units + 8 < cLine) {Q : Value → Shared → Prop} (h : ∀ tk, Q (.bool (decide (k ∈ L.map (·.2)))) { s with toks := tk }) : wpAny (model P w) A (compareOp .In (.ref x) (.ref a)) Q E s := by
  obtain ⟨o, ho, hex, hd⟩ := R.ob
  have ty : s.TypeIs (.ref a) "set" := ⟨o, ho, hex.1⟩
  show wpAny _ _ (contains (.ref a) (.ref x) >>= fun b => pure (Value.bool b)) Q E s
  refine wpAny_bind ?_
  unfold contains
  try with_reducible refine wpAny_holding ?_
  refine wpAny_bind (wpAny_specialOf ty F.slot_set_contains.lookup (wp_if_neg (by rw [beq_builtin_none]; exact Bool.false_ne_true) ?_))
  refine wpAny_bind (wpAny_callSpecialUnlessNone?_slot (name := Str.ofString "__contains__") ty F.slot_set_contains (wpAny_call_entry F.slot_set_contains ty entry_set_contains ?_ (F.args_set_contains_2 _ _)))
  unfold Builtin.«frozenset.__contains__» Builtin.Frozenset.oneOther
  simp only [List.isEmpty_nil, bind_assoc]
  unfold Builtin.Frozenset.addrOf Builtin.Frozenset.withSetAsKey
  refine wpAny_bind (wpAny_pure (wpAny_bind (wpAny_pure (wpAny_bind (wpAny_tryCatch ?_)))))
  refine containsX R hx ?_ fun tk => ?_
  · show A.units + 1 + 3 < cLine
    omega
  exact wpAny_pure ⟨_, rfl, wpAny_truthy_bool (wpAny_pure (h tk))⟩
/-- the table laid anew -/
theorem relayX {o : Obj} (ho : s.heap.get? a = some o) (hex : o.ExactSet) (hd : o.data = .set es ep t) (rows : es.toList = rowsOf P w L) (sz : t.place.size = es.size) (dm : t.dummies = #[]) (fl : es.size ≤ t.mask) (nd : (L.map (·.2)).Nodup)
    (tup : ∀ p ∈ L, IsT P w s.heap p.2 p.1) (pl : t.plain = true) (ld : w.params.followText "set-order" = true ∨ t.led = true) (few : L.length ≤ 100) {wanted m : Nat} (hw : SetTable.sizeAbove wanted - 1 = m) (hm : MaskX m) (hw2 : SetTable.sizeAbove wanted ≤ 512)
    (room : L.length * 5 < m * 3) {Q : Unit → Shared → Prop} (hQ : ∀ h' L' es' ep' t', Heap.SameBut a s.heap h' → SX P w h' a L' es' ep' t' → L'.Perm L → Q () { s with heap := h' }) : wpAny (model P w) A (setRelay a wanted) Q E s := by
  have many : es.size = L.length := by simpa [rowsOf] using congrArg List.length rows
  have fits : t.fits es.size = true := by
    unfold SetTable.fits SetTable.fill
    rw [dm, Bool.and_eq_true, beq_iff_eq, decide_eq_true_eq]
    show _ = _ ∧ t.place.size + 0 ≤ t.mask
    omega
  obtain ⟨t2, order, e, hp, T, em, el, epl⟩ := relaidX t (hs := es.map (·.1)) (wanted := wanted) hw hm (by rw [Array.size_map, many]; omega)
  rw [Array.size_map, many] at hp
  obtain ⟨L2, r1, r2, r3⟩ := order_rows L es order rows hp
  rw [← r3] at T
  have many2 : (order.filterMap (es[·]?)).size = es.size := by
    have q := congrArg List.length r1
    simp only [rowsOf, Array.length_toList, List.length_map, r2.length_eq] at q
    omega
  rw [setRelay_eq]
  refine wpAny_bind (wpAny_setState_of ho hd fits (wp_if_neg (by rw [sizeLine_eq]; omega) ?_))
  rw [e]
  refine wpAny_bind (wp_if_neg (by rw [many2]; simp) (wpAny_pure ?_))
  refine wpAny_storeSet_of ho hd ?_ (by rw [many2, many, sizeLine_eq]; omega)
  have same : Heap.SameBut a s.heap (s.heap.update a (Obj.putSet (order.filterMap (es[·]?)) t2)) := Heap.SameBut.update ..
  refine hQ _ L2 (order.filterMap (es[·]?)) (ep + 1) t2 same ⟨⟨_, store_at ho hd, ⟨hex.1, hex.2.1, hex.2.2⟩, rfl⟩, r1, T, (r2.map (·.2)).nodup_iff.mpr nd, fun p hpm => isT_same (tup p (r2.mem_iff.mp hpm)) ho hd same, epl.trans pl, el ▸ ld, ?_, r2.length_eq ▸ few⟩ r2
  rw [r2.length_eq, em]
  exact room
theorem size_308 : SetTable.sizeAbove (SetTable.grown 77) = 512 := by decide +kernel
/-- one is put in -/
theorem addX (R : SX P w s.heap a L es ep t) (hx : IsT P w s.heap k x) (hu : A.units < cLine) (no : k ∉ L.map (·.2)) (few : L.length + 1 ≤ 100) {Q : Bool → Shared → Prop}
    (hQ : ∀ h' L' es' ep' t', Heap.SameBut a s.heap h' → SX P w h' a L' es' ep' t' → L'.Perm ((x, k) :: L) → Q true { s with heap := h' }) : wpAny (model P w) A (setAddHashed a (.ref x) (thash P w k)) Q E s := by
  obtain ⟨o, ho, hex, hd⟩ := R.ob
  have size := R.size
  have room := R.room
  unfold setAddHashed
  refine wpAny_holding ?_
  rw [show (100000 : Nat) = 99999 + 1 from rfl, setAddHashedIn_succ]
  refine wpAny_bind (wpAny_setState_of ho hd R.fits (wp_if_neg (by simp [byScan, Value.scannable]) (wpAny_bind (searchX R hx hu true (fun m => absurd m no) fun K _ out ahead => ?_))))
  refine wpAny_bind (wpAny_setState_of ho hd R.fits ?_)
  dsimp only
  obtain ⟨p, e1, low, T, e2, e3, e4, e5⟩ := R.tab.put out ahead
  rw [List.length_map] at low e5
  have pl1 : (t.put (way t.mask (thash P w k) K)).1.plain = true := e4.trans R.plain
  revert e1 T e2 e3 e4 e5 pl1
  generalize t.put (way t.mask (thash P w k) K) = pt
  obtain ⟨t1, p1⟩ := pt
  intro e1 T e2 e3 e4 e5 pl1
  dsimp only at e1 T e2 e3 e4 e5 pl1 ⊢
  subst e1
  first
    | (refine wpAny_bind (wp_if_pos pl1 (hashBy_tup hx ?_)))
    | refine wp_if_pos pl1 (wpAny_bind (hashBy_tup hx ?_))
  simp only [if_true]
  have rows1 : (SetTable.insertAt es p1 (thash P w k, Value.ref x)).toList = rowsOf P w (L.take p1 ++ (x, k) :: L.drop p1) := by rw [SetTable.toList_insertAt, rows_put, R.rows]
  have pm := put_perm L p1 (x, k)
  have T1 : TabX t1 ((L.take p1 ++ (x, k) :: L.drop p1).map fun p => thash P w p.2) := by
    rw [List.map_append, List.map_cons, List.map_take, List.map_drop]
    exact T
  revert rows1 pm T1
  generalize L.take p1 ++ (x, k) :: L.drop p1 = L1
  generalize SetTable.insertAt es p1 (thash P w k, Value.ref x) = es1
  intro rows1 pm T1
  have len1 : L1.length = L.length + 1 := pm.length_eq
  have size1 : es1.size = L.length + 1 := by
    have q := congrArg List.length rows1
    simp only [rowsOf, Array.length_toList, List.length_map] at q
    omega
  have nd1 : (L1.map (·.2)).Nodup := (pm.map (·.2)).nodup_iff.mpr (List.nodup_cons.mpr ⟨no, R.nd⟩)
  refine wpAny_bind (wpAny_storeSet_of ho hd ?_ (by rw [size1, sizeLine_eq]; omega))
  have same : Heap.SameBut a s.heap (s.heap.update a (Obj.putSet es1 t1)) := Heap.SameBut.update ..
  have ho1 := store_at (es' := es1) (t' := t1) ho hd
  revert same ho1
  generalize s.heap.update a (Obj.putSet es1 t1) = h1
  intro same ho1
  have tup1 : ∀ p ∈ L1, IsT P w h1 p.2 p.1 := fun p hp => by
    rcases List.mem_cons.mp (pm.mem_iff.mp hp) with rfl | hp
    · exact isT_same hx ho hd same
    · exact isT_same (R.tup p hp) ho hd same
  have ld1 : w.params.followText "set-order" = true ∨ t1.led = true := e3 ▸ R.led
  have fullIff : (t1.tooFull = true) ↔ (L.length + 1) * 5 ≥ t1.mask * 3 := by
    unfold SetTable.tooFull
    rw [decide_eq_true_eq, e5]
  by_cases hf : t1.tooFull = true
  · first
      | (refine wpAny_bind (wp_if_pos (by simp [hf]) ?_))
      | (refine wp_if_pos (by simp [hf]) (wpAny_bind ?_))
    have full := fullIff.mp hf
    rw [e2] at full
    rw [size]
    have sz1 : t1.place.size = es1.size := by
      have q := T1.sz
      rw [List.length_map] at q
      omega
    have le : es1.size ≤ t1.mask := by rw [e2]; omega
    have go : ∀ m, SetTable.sizeAbove (SetTable.grown (L.length + 1)) = m + 1 → MaskX m → m ≤ 511 → (L.length + 1) * 5 < m * 3 → wpAny (model P w) A (setRelay a (SetTable.grown (L.length + 1))) (fun _ s' => wpAny (model P w) A (pure true) Q E s') E { s with heap := h1 } := by
      intro m z1 z2 z3 z4
      refine relayX (s := { s with heap := h1 }) ho1 ⟨hex.1, hex.2.1, hex.2.2⟩ rfl rows1 sz1 T1.dm le nd1 tup1 pl1 ld1 (by omega) (by rw [z1]; rfl) z2 (by rw [z1]; omega) (by rw [len1]; exact z4) ?_
      intro h2 L2 es2 ep2 t2 same2 R2 pm2
      exact wpAny_pure (hQ h2 L2 es2 ep2 t2 (same.trans same2) R2 (pm2.trans pm))
    rcases R.tab.mok with (z | z | z) | z
    · have : L.length = 4 := by omega
      exact go 31 (by rw [this, size_20]) (.inl (.inr (.inl rfl))) (by decide) (by omega)
    · have : L.length = 18 := by omega
      exact go 127 (by rw [this, size_76]) (.inl (.inr (.inr rfl))) (by decide) (by omega)
    · have : L.length = 76 := by omega
      exact go 511 (by rw [this, size_308]) (.inr rfl) (by decide) (by omega)
    · omega
  · first
      | refine wp_if_neg (by simp [hf]) ?_
      | (refine wpAny_bind (wp_if_neg (by simp [hf]) (wpAny_pure ?_)))
    have notFull := mt fullIff.mpr hf
    exact wpAny_pure (hQ h1 L1 es1 (ep + 1) t1 same ⟨⟨_, ho1, ⟨hex.1, hex.2.1, hex.2.2⟩, rfl⟩, rows1, T1, nd1, tup1, pl1, ld1, by omega, by omega⟩ pm)
end
end Kx

namespace Kx
open PySem PySem.Spec PyProof.Rows L2
/-! ### sets of tuples up to 100 members, as things of the hand layer -/
def TupsX (K : PySem.W.Frag) (H : Hp) (L : List (Addr × List Int)) : Prop := ∀ p ∈ L, SqT K H p.1 (p.2.map V.int)
structure SX0 (P : Program) (w : World) (h : Heap) (a : Addr) (L : List (Addr × List Int)) : Prop where
  ex : ∃ es ep t, (∃ o, h.get? a = some o ∧ o.ExactSet ∧ o.data = .set es ep t) ∧ es.toList = rowsOf P w L ∧ TabX t (L.map fun p => thash P w p.2) ∧ (L.map (·.2)).Nodup ∧ t.plain = true ∧
    (w.params.followText "set-order" = true ∨ t.led = true) ∧ L.length * 5 < t.mask * 3 ∧ L.length ≤ 100
def SetXO (P : Program) (w : World) (a : Addr) (L : List (Addr × List Int)) : HO := .ext fun h => SX0 P w h a L
theorem SX.x0 {P : Program} {w : World} {h : Heap} {a : Addr} {L : List (Addr × List Int)} {es : Array (Int × Value)} {ep : Nat} {t : SetTable} (R : SX P w h a L es ep t) : SX0 P w h a L :=
  ⟨es, ep, t, R.ob, R.rows, R.tab, R.nd, R.plain, R.led, R.room, R.few⟩
theorem setXO_ok {P : Program} {w : World} {H : Hp} {h : Heap} {a : Addr} {L : List (Addr × List Int)} (R : SX0 P w h a L) : ObjOk P w H h a (SetXO P w a L) := by
  obtain ⟨es, ep, t, ⟨o, ho, r⟩, q⟩ := R.ex
  refine ⟨R, ⟨o, ho⟩, fun h1 h2 p k => ?_⟩
  obtain ⟨es', ep', t', ⟨o', ho', r'⟩, q'⟩ := SX0.ex p
  exact ⟨es', ep', t', ⟨o', k o' ho', r'⟩, q'⟩
section
variable {X : Cx}
theorem fullX {pins : List (Addr × Obj)} {σ : L2.St} {H : Hp} {s : Shared} {a : Addr} {L : List (Addr × List Int)} (I : Inv X pins σ H s) (ha : H a = some (SetXO X.prog X.w a L)) (ht : TupsX X.K H L) : ∃ es ep t, SX X.prog X.w s.heap a L es ep t := by
  obtain ⟨es, ep, t, h1, h2, h3, h4, h5, h6, h7, h8⟩ := SX0.ex (I.hok a _ ha).1
  exact ⟨es, ep, t, h1, h2, h3, h4, fun p hp => I.isT (ht p hp), h5, h6, h7, h8⟩
/-- t in seen, t a tuple of ints -/
def rInX (K : PySem.W.Frag) (P : Program) (w : World) : R2 := fun x y H Q => ∃ (b a : Addr) (k : List Int) (L : List (Addr × List Int)), x = .ref b ∧ y = .ref a ∧ SqT K H b (k.map V.int) ∧ H a = some (SetXO P w a L) ∧ TupsX K H L ∧ Q (.bl (decide (k ∈ L.map (·.2)))) H
theorem op_inX (hu : X.A.units + 64 < cLine) : OpR X (compareOp .In) (rInX X.K X.prog X.w) := by
  intro pins s σ H x y v u Q I rx ry h
  obtain ⟨b, a, k, L, rfl, rfl, hb, ha, ht, q⟩ := h
  cases rx
  cases ry
  obtain ⟨es, ep, t, R⟩ := fullX I ha ht
  exact inX R (I.isT hb) (by omega) fun tk => ⟨.bl _, H, I.tok tk, rfl, q⟩
/-- set() -/
def rSet0X (P : Program) (w : World) : List V → Hp → VK → Prop := fun xs H Q => xs = [] ∧ ∀ p, H p = none → Q (.ref p) (upd H p (SetXO P w p []))
theorem cr_set0X : CallR X (.type "set") (rSet0X X.prog X.w) := by
  intro pins s σ H xs us Q I r h
  obtain ⟨rfl, q⟩ := h
  cases r
  refine setR_new fun _ => ?_
  have old := setTR_fresh (P := X.prog) (w := X.w) (h := s.heap.push { cls := .type "set", dict := none, data := .set #[] 0 (.fresh 0 0 (!X.w.params.followText "set-order")) }) (a := s.heap.objs.size) (Heap.get?_push_size _ rfl)
  have new : SX X.prog X.w _ s.heap.objs.size [] _ _ _ := ⟨old.ob, old.rows, TabX.of old.tab, old.nd, old.tup, old.plain, old.led, old.room, by decide⟩
  exact ⟨.ref _, upd H s.heap.objs.size (SetXO X.prog X.w s.heap.objs.size []), I.laid (t' := s.toks) (fun b u e => Heap.get?_push_of_some _ e) (Nat.le_refl _) (setXO_ok new.x0), rfl, q _ (I.hok.fresh (Nat.le_refl _))⟩
/-- seen.add(t), t not in it -/
def rAddX (K : PySem.W.Frag) (P : Program) (w : World) : V → List V → Hp → VK → Prop := fun x xs H Q => ∃ (a b : Addr) (k : List Int) (L : List (Addr × List Int)), x = V.ref a ∧ xs = [V.ref b] ∧ H a = some (SetXO P w a L) ∧ TupsX K H L ∧ SqT K H b (k.map V.int) ∧ k ∉ L.map (·.2) ∧ L.length + 1 ≤ 100 ∧
  ∀ L', L'.Perm ((b, k) :: L) → Q .non (upd H a (SetXO P w a L'))
theorem mt_saddX (hu : X.A.units + 64 < cLine) : MtR X "set.add" (rAddX X.K X.prog X.w) := by
  intro pins s σ H x xs v us Q I rx rxs h
  obtain ⟨a, b, k, L, rfl, rfl, ha, ht, hb, no, few, q⟩ := h
  cases rx
  rw [Vals.ref1 rxs]
  obtain ⟨es, ep, t, R⟩ := fullX I ha ht
  obtain ⟨o, ho, hex, hd⟩ := R.ob
  refine wpAny_call_entry F.slot_set_add ⟨o, ho, hex.1⟩ F.entry_set_add ?_ (F.args_set_add_2 _ _)
  unfold Builtin.«set.add» Builtin.Frozenset.oneOther
  simp only [List.isEmpty_nil, bind_assoc]
  unfold Builtin.Frozenset.addrOf setAdd
  refine wpAny_bind (wpAny_pure (wpAny_bind (wpAny_pure (wpAny_bind (wpAny_holding (wpAny_bind (wpAny_pyHash_tuple (by show X.A.units + 1 < cLine; omega) (I.isT hb) ?_)))))))
  refine addX (s := { s with toks := s.toks + (k.length + 1) }) R (I.isT hb) (by show X.A.units + 1 < cLine; omega) no few fun h' L' es' ep' t' sb R' perm => ?_
  refine wpAny_pure ⟨_, rfl, ?_⟩
  have there : ∃ u, h'.get? a = some u := by
    obtain ⟨o', ho', _⟩ := R'.ob
    exact ⟨o', ho'⟩
  exact ⟨.non, upd H a (SetXO X.prog X.w a L'), I.write (e := a) (t' := s.toks + (k.length + 1)) (by rw [ha]; trivial) (.inl rfl) (fun b u hb hu => (sb.2 b hb).trans hu) there (setXO_ok R'.x0), rfl, q L' perm⟩
def tAddX (K : PySem.W.Frag) (P : Program) (w : World) (to : TE) (t : TA) : TE := fun σ H Q => to σ H fun x H1 => (∃ a L, x = V.ref a ∧ H1 a = some (SetXO P w a L) ∧ TupsX K H1 L) ∧ t σ H1 fun xs H2 => rAddX K P w x xs H2 Q
variable {o e : Expr} {to : TE} {t : TA} {apos cpos : Pos}
theorem pe_saddX (hu : X.A.units + 64 < cLine) (ho : PE X o to) (ha : PA X [e] t)
    (hbase : attributeBase o "add" X.env (eval o X.env) = eval o X.env := by rfl)
    (hfew : ((backTo cpos (starEach [e] X.env)).all (fun x => !x.1) && (backToKw cpos (keywordEach [] X.env)).all (fun x => x.1.isSome)
      && decide ([e].length + ([] : List Keyword).length + (if ([] : List Keyword).isEmpty then 0 else 1) < 30)) = true := by rfl)
    (hline : (apos.endLine == cpos.line) = true := by rfl) (hs : starEach [e] X.env = (false, eval e X.env) :: starEach [] X.env := by rfl) (hplain : (backTo cpos (starEach [] X.env)).any (·.1) = false := by rfl) :
    PE X (.Call (.Attribute o "add" apos) [e] [] cpos) (tAddX X.K X.prog X.w to t) := by
  refine ⟨fun pins s σ H Q I h => wpAny_Call_method_late hbase hfew hline rfl (thn (ho.run pins s σ H _ I h) fun v s1 ⟨x, H1, I1, r1, ty, q1⟩ => ?_)⟩
  obtain ⟨a, L, rfl, hka, htt⟩ := ty
  obtain ⟨es, ep, tt, R⟩ := fullX I1 hka htt
  cases r1
  obtain ⟨ob, hob, hex, hd⟩ := R.ob
  refine ⟨"set", "set.add", F.plainAttrs_set, F.slot_set_add, F.type_set_add, ⟨ob, hob, hex.1⟩, fun b e => ?_, ?_⟩
  · cases e
    exact ⟨ob, hob, hex.2.1⟩
  have hA := ha.run cpos pins s1 σ H1 _ I1 q1
  rw [hs] at hA ⊢
  refine Calls.callWith_builtin (by show (false || (backTo cpos (starEach [] X.env)).any (·.1)) = false; rw [hplain] <;> rfl) (Calls.evalArgs_plain ?_)
  exact thn hA fun us s2 ⟨vs, H2, I2, r2, q2⟩ => mt_saddX hu pins s2 σ H2 (.ref a) vs (.ref a) us Q I2 rfl r2 q2
end
end Kx

namespace Kx
open PySem PySem.Spec PyProof.Rows L2
/-! ### C(e, ..) in a try, where __init__ may raise; raise X() of an own class without __init__ -/
section
variable {X : Cx} {CX : CXT} {k : Nat} {f C : Addr} {fd : FuncData} {ps : List Str} {sp : Sp} {E : L2.St → XK} {x : Str} {p pos : Pos} {e : Expr} {es : List Expr} {t : TA}
def tMakeE (C : Addr) (sp : Sp) (E : L2.St → XK) (t : TA) : TE := fun σ H Q => t σ H fun vs H1 => ∀ x dx, H1 x = none → H1 dx = none → dx ≠ x → sp (.ref x :: vs) (upd (upd H1 dx (.own x)) x (.ins C dx [])) (fun v H2 => v = .non ∧ Q (.ref x) H2) (E σ)
theorem pe_makeE (M : Mk X.K C f) (F : FnOk X.prog X.w X.K X.mg X.base CX k f fd ps sp) (hr : Room (k + 1) X.A) (hg : Gl X x) (hm : X.mg x = some (.ref C)) (hb : Binds X.K fd ps []) (hx : ∀ σ, PassesAt CX X σ (E σ)) (ha : PA X (e :: es) t)
    (hdb : (x == ("__debug__" : Str)) = false := by decide) (he : starEach (e :: es) X.env = (false, eval e X.env) :: starEach es X.env := by rfl) (hpl : (backTo pos (starEach es X.env)).any (·.1) = false := by rfl) :
    PE X (.Call (.Name x p) (e :: es) [] pos) (tMakeE C sp E t) := by
  refine ⟨fun pins s0 σ H Q I h => wpAny_Call_Name_kw (ld_glob I hg hm (PySem.W.callWith_K (h₀ := X.base) I.ok.mod.kin M.kp (thn (ha.run pos pins s0 σ H _ I h) fun us s ⟨vs, H1, I1, r, q⟩ => ⟨I1.kIn, ?_⟩) he hpl) hdb)⟩
  have new := q (s.heap.objs.size + 1) s.heap.objs.size (I1.hok.fresh (Nat.le_succ _)) (I1.hok.fresh (Nat.le_refl _)) (Nat.ne_of_lt (Nat.lt_succ_self _))
  have J := Inv.made (C := C) I1
  have rel : Vals (V.ref (s.heap.objs.size + 1) :: vs) (Value.ref (s.heap.objs.size + 1) :: us) := .cons rfl r
  have bound := hb _ (Value.ref (s.heap.objs.size + 1) :: us) J.kIn (by rw [List.append_nil, ← rel.length, F.len _ _ _ _ new])
  rw [List.append_nil] at bound
  refine wpAny_call (make_map (f := f) I1.kIn M.makes M.init (beq_iff_eq.mp M.fn) (codeAny_mono (F.run _ X.stack _ _ ⟨Value.ref (s.heap.objs.size + 1) :: us, []⟩ _ _ _ _ (hr.make C us []) (J.env0.make C us []) bound rel new) fun r2 s2 back => ?_))
  rcases r2 with er | fl
  · exact hx σ pins _ _ er s2 J back
  rcases fl with _ | _ | _ | u
  · exact False.elim back
  · exact False.elim back
  · exact False.elim back
  obtain ⟨v, H2, I2, rv, ev, q2⟩ := J.after back
  subst ev
  exact ⟨rv, ⟨V.ref (s.heap.objs.size + 1), H2, I2, rfl, q2⟩⟩
theorem pmk_own0 {bmB : List Value} {B newId initId : String} (F : ExcBaseFacts B newId initId bmB) (q : PySem.W.excIn X.K C bmB newId = true) (gC : X.mg x = some (.ref C)) (kC : PySem.W.keepIn X.K (.ref C) = true) (r : Raises X (.ref C)) (hg : Gl X x)
    (hdb : (x == ("__debug__" : Str)) = false := by decide) : PMk X (.Call (.Name x p) [] [] pos) (fun _ H Q => Q (.ref C) none H) := by
  intro pins s σ H Q I h
  refine wpAny_Call_Name_kw (ld_glob I hg gC (PySem.W.callWith_K0 I.kIn kC ?_) hdb)
  obtain ⟨_, _, _, _, _, _, _, _, _, _, _, _, _, _, _, _, _, hC, hN, hni, T⟩ := exc_obj I.kIn q
  exact wpAny_call_exc_subT F T hC hN hni (fun h' e made => mk_of I made r h (I.hok.gone made.new)) (Nat.zero_le _)
end
end Kx

namespace Kx
open PySem PySem.Spec PyProof.Rows L2
/-! ### drawn webs, in plain Lean -/
theorem perm_ins {α : Type} (l : List α) (i : Nat) (x : α) : (l.take i ++ [x] ++ l.drop i).Perm (x :: l) := by
  rw [List.append_assoc]
  have h : (l.take i ++ [x] ++ l.drop i).Perm (x :: (l.take i ++ l.drop i)) := by
    rw [List.append_assoc]
    exact List.perm_middle
  rw [List.take_append_drop, List.append_assoc] at h
  exact h
/-- an order of the first k places -/
structure Ord (k : Nat) (o : List Int) : Prop where
  len : o.length = k
  nd : o.Nodup
  mem : ∀ v, v ∈ o ↔ 0 ≤ v ∧ v < (k : Int)
theorem Ord.zero : Ord 0 [] := ⟨rfl, List.nodup_nil, fun v => by
  constructor
  · intro h; cases h
  · rintro ⟨h1, h2⟩; omega⟩
theorem Ord.next {k : Nat} {o o' : List Int} (h : Ord k o) (p : o'.Perm ((k : Int) :: o)) : Ord (k + 1) o' where
  len := by rw [p.length_eq, List.length_cons, h.len]
  nd := by
    rw [p.nodup_iff, List.nodup_cons]
    refine ⟨fun m => ?_, h.nd⟩
    have := ((h.mem _).mp m).2
    omega
  mem := fun v => by
    rw [p.mem_iff, List.mem_cons, h.mem]
    omega
theorem Ord.at_ {k : Nat} {o : List Int} (h : Ord k o) {i : Nat} {v : Int} (e : o[i]? = some v) : 0 ≤ v ∧ v < (k : Int) := (h.mem v).mp (List.mem_of_getElem? e)
theorem nd_index {α : Type} : ∀ {o : List α}, o.Nodup → ∀ {i j : Nat} {v : α}, o[i]? = some v → o[j]? = some v → i = j
  | [], _, _, _, _, h, _ => by simp at h
  | a :: r, nd, 0, 0, _, _, _ => rfl
  | a :: r, nd, 0, j + 1, v, h1, h2 => by
    have e : a = v := Option.some.inj h1
    exact absurd (List.mem_of_getElem? (show r[j]? = some a by rw [e]; exact h2)) (List.nodup_cons.mp nd).1
  | a :: r, nd, i + 1, 0, v, h1, h2 => by
    have e : a = v := Option.some.inj h2
    exact absurd (List.mem_of_getElem? (show r[i]? = some a by rw [e]; exact h1)) (List.nodup_cons.mp nd).1
  | a :: r, nd, i + 1, j + 1, v, h1, h2 => congrArg (· + 1) (nd_index (List.nodup_cons.mp nd).2 (show r[i]? = some v from h1) (show r[j]? = some v from h2))
/-- the first k of the order o hang together from its first one -/
structure Span (n k : Nat) (o : List Int) (e : Int) (es : List Edge) : Prop where
  len : es.length + 1 = k
  rng : ∀ p ∈ es, (0 ≤ p.1 ∧ p.1 < (n : Int)) ∧ 0 ≤ p.2 ∧ p.2 < (n : Int)
  nd : es.Nodup
  snd : ∀ p ∈ es, ∃ i, i < k ∧ o[i]? = some p.2
  fwd : ∀ (i : Nat) v, i < k → o[i]? = some v → Reach es e v
theorem Span.one {n : Nat} {o : List Int} {e : Int} (h : o[0]? = some e) : Span n 1 o e [] where
  len := rfl
  rng := fun _ h => by cases h
  nd := List.nodup_nil
  snd := fun _ h => by cases h
  fwd := fun i v hi hv => by
    have e0 : i = 0 := by omega
    rw [e0, h] at hv
    rw [Option.some.inj hv]
    exact .refl _
theorem Span.next {n k : Nat} {o : List Int} {e a c : Int} {es es' : List Edge} {d : Nat} (h : Span n k o e es) (O : Ord n o) (hd : d < k) (ha : o[d]? = some a) (hc : o[k]? = some c) (p : es'.Perm ((a, c) :: es)) : Span n (k + 1) o e es' where
  len := by rw [p.length_eq, List.length_cons, h.len]
  rng := fun q hq => by
    rcases List.mem_cons.mp (p.mem_iff.mp hq) with rfl | hq
    · exact ⟨O.at_ ha, O.at_ hc⟩
    · exact h.rng q hq
  nd := by
    rw [p.nodup_iff, List.nodup_cons]
    refine ⟨fun m => ?_, h.nd⟩
    obtain ⟨i, hi, e'⟩ := h.snd _ m
    have := nd_index O.nd e' hc
    omega
  snd := fun q hq => by
    rcases List.mem_cons.mp (p.mem_iff.mp hq) with rfl | hq
    · exact ⟨k, Nat.lt_succ_self k, hc⟩
    · obtain ⟨i, hi, e'⟩ := h.snd q hq
      exact ⟨i, by omega, e'⟩
  fwd := fun i v hi hv => by
    have sub : ∀ q ∈ es, q ∈ es' := fun q hq => p.mem_iff.mpr (List.mem_cons_of_mem _ hq)
    by_cases e0 : i = k
    · rw [e0, hc] at hv
      rw [← Option.some.inj hv]
      exact ((h.fwd d a hd ha).more sub).trans (.one (p.mem_iff.mpr List.mem_cons_self))
    · exact (h.fwd i v (by omega) hv).more sub
/-- all places are reached -/
structure Core (n : Nat) (e : Int) (es : List Edge) : Prop where
  rng : ∀ p ∈ es, (0 ≤ p.1 ∧ p.1 < (n : Int)) ∧ 0 ≤ p.2 ∧ p.2 < (n : Int)
  nd : es.Nodup
  e0 : 0 ≤ e ∧ e < (n : Int)
  fwd : ∀ v, 0 ≤ v → v < (n : Int) → Reach es e v
theorem Span.core {n : Nat} {o : List Int} {e : Int} {es : List Edge} (h : Span n n o e es) (O : Ord n o) (he : o[0]? = some e) : Core n e es where
  rng := h.rng
  nd := h.nd
  e0 := O.at_ he
  fwd := fun v h0 h1 => by
    obtain ⟨i, hi, q⟩ := List.mem_iff_getElem.mp ((O.mem v).mpr ⟨h0, h1⟩)
    exact h.fwd i v (by rw [← O.len]; exact hi) (by rw [List.getElem?_eq_getElem hi, q])
theorem Core.add {n : Nat} {e : Int} {es es' : List Edge} {q : Edge} (h : Core n e es) (hq : (0 ≤ q.1 ∧ q.1 < (n : Int)) ∧ 0 ≤ q.2 ∧ q.2 < (n : Int)) (no : q ∉ es) (p : es'.Perm (q :: es)) : Core n e es' where
  rng := fun r hr => by
    rcases List.mem_cons.mp (p.mem_iff.mp hr) with rfl | hr
    · exact hq
    · exact h.rng r hr
  nd := by rw [p.nodup_iff, List.nodup_cons]; exact ⟨no, h.nd⟩
  e0 := h.e0
  fwd := fun v h0 h1 => (h.fwd v h0 h1).more fun r hr => p.mem_iff.mpr (List.mem_cons_of_mem _ hr)
/-- the goals, for the first i places -/
structure Aims (n i : Nat) (es : List Edge) (gs : List Int) : Prop where
  nd : gs.Nodup
  rng : ∀ g ∈ gs, 0 ≤ g ∧ g < (n : Int)
  ne : gs ≠ []
  bwd : ∀ v, 0 ≤ v → v < (i : Int) → ∃ g ∈ gs, Reach es v g
theorem Aims.stay {n i : Nat} {es : List Edge} {gs : List Int} (h : Aims n i es gs) (r : ∃ g ∈ gs, Reach es (i : Int) g) : Aims n (i + 1) es gs :=
  ⟨h.nd, h.rng, h.ne, fun v h0 h1 => by
    by_cases e : v = (i : Int)
    · rw [e]; exact r
    · exact h.bwd v h0 (by omega)⟩
theorem Aims.edge {n i : Nat} {es es' : List Edge} {gs : List Int} {g : Int} (h : Aims n i es gs) (hg : g ∈ gs) (p : es'.Perm (((i : Int), g) :: es)) : Aims n (i + 1) es' gs :=
  ⟨h.nd, h.rng, h.ne, fun v h0 h1 => by
    by_cases e : v = (i : Int)
    · rw [e]
      exact ⟨g, hg, .one (p.mem_iff.mpr List.mem_cons_self)⟩
    · obtain ⟨g', hg', r⟩ := h.bwd v h0 (by omega)
      exact ⟨g', hg', r.more fun q hq => p.mem_iff.mpr (List.mem_cons_of_mem _ hq)⟩⟩
theorem Aims.goal {n i : Nat} {es : List Edge} {gs gs' : List Int} (h : Aims n i es gs) (hi : i < n) (no : (i : Int) ∉ gs) (p : gs'.Perm ((i : Int) :: gs)) : Aims n (i + 1) es gs' where
  nd := by rw [p.nodup_iff, List.nodup_cons]; exact ⟨no, h.nd⟩
  rng := fun g hg => by
    rcases List.mem_cons.mp (p.mem_iff.mp hg) with rfl | hg
    · omega
    · exact h.rng g hg
  ne := fun z => by
    rw [z] at p
    have := p.length_eq
    simp at this
  bwd := fun v h0 h1 => by
    by_cases e : v = (i : Int)
    · rw [e]
      exact ⟨_, p.mem_iff.mpr List.mem_cons_self, .refl _⟩
    · obtain ⟨g', hg', r⟩ := h.bwd v h0 (by omega)
      exact ⟨g', p.mem_iff.mpr (List.mem_cons_of_mem _ hg'), r⟩
theorem rng_len {n : Nat} {gs : List Int} (nd : gs.Nodup) (rng : ∀ g ∈ gs, 0 ≤ g ∧ g < (n : Int)) : gs.length ≤ n := by
  have h := len_le_of_sub gs ((List.range n).map Int.ofNat) nd fun g hg => by
    obtain ⟨h0, h1⟩ := rng g hg
    exact List.mem_map.mpr ⟨g.toNat, List.mem_range.mpr (by omega), by show ((g.toNat : Nat) : Int) = g; omega⟩
  rw [List.length_map, List.length_range] at h
  exact h
theorem Core.good {n : Nat} {e : Int} {es : List Edge} {gs : List Int} (h : Core n e es) (a : Aims n n es gs) (hn : n ≤ 24) (hf : es.length < 60) : Good n es e gs where
  n1 := by have := h.e0; omega
  n2 := by omega
  few := hf
  rng := fun p hp => by
    obtain ⟨⟨a1, a2⟩, a3, a4⟩ := h.rng p hp
    exact ⟨a1, a2, a3, a4⟩
  nd := h.nd
  e0 := h.e0.1
  e1 := h.e0.2
  x0 := a.ne
  xr := a.rng
  xf := by have := rng_len a.nd a.rng; omega
  fwd := h.fwd
  bwd := a.bwd
/-! ### what reaches a goal, found in turns -/
def Closed (es : List Edge) (ms : List Int) : Prop := ∀ u v, (u, v) ∈ es → v ∈ ms → u ∈ ms
structure Met (es : List Edge) (gs ad ms : List Int) : Prop where
  eq : ms = gs ++ ad
  nd : ad.Nodup
  src : ∀ v ∈ ad, v ∈ es.map (·.1)
  sound : ∀ v ∈ ms, ∃ g ∈ gs, Reach es v g
theorem Met.start (es : List Edge) (gs : List Int) : Met es gs [] gs := ⟨by simp, List.nodup_nil, (fun _ h => by cases h), fun v h => ⟨v, h, .refl v⟩⟩
theorem Met.len {es : List Edge} {gs ad ms : List Int} (m : Met es gs ad ms) : ad.length ≤ es.length := by
  have h := len_le_of_sub ad (es.map (·.1)) m.nd m.src
  rw [List.length_map] at h
  exact h
theorem Met.full {es : List Edge} {gs ad ms : List Int} (m : Met es gs ad ms) (h : es.length ≤ ad.length) : Closed es ms := fun u v he _ => by
  rw [m.eq]
  refine List.mem_append_right _ ?_
  by_cases hu : u ∈ ad
  · exact hu
  · have hs : u ∈ es.map (·.1) := List.mem_map.mpr ⟨(u, v), he, rfl⟩
    have q := len_le_of_sub ad ((es.map (·.1)).erase u) m.nd fun x hx => (List.mem_erase_of_ne (fun e => hu (by rw [← e]; exact hx))).mpr (m.src x hx)
    have l := List.length_erase_of_mem hs
    have pos : 0 < (es.map (·.1)).length := List.length_pos_of_mem hs
    rw [List.length_map] at l pos
    omega
theorem Met.all {es : List Edge} {gs ad ms : List Int} (m : Met es gs ad ms) (c : Closed es ms) (v : Int) : v ∈ ms ↔ ∃ g ∈ gs, Reach es v g := by
  constructor
  · exact m.sound v
  · rintro ⟨g, hg, r⟩
    have hgm : g ∈ ms := by rw [m.eq]; exact List.mem_append_left _ hg
    clear hg
    induction r with
    | refl => exact hgm
    | step e _ ih => exact c _ _ e (ih hgm)
/-- within a turn: j edges were looked at; ad0 was found before it -/
structure Turn (es : List Edge) (gs ad0 ms0 : List Int) (j : Nat) (ad ms : List Int) : Prop where
  met : Met es gs ad ms
  grow : ad0.length ≤ ad.length
  same : ad.length = ad0.length → ad = ad0
  none_ : ad.length = ad0.length → ∀ u v, (u, v) ∈ es.take j → v ∈ ms → u ∈ ms
  done : Closed es ms0 → ad = ad0
theorem Turn.start {es : List Edge} {gs ad ms : List Int} (m : Met es gs ad ms) : Turn es gs ad ms 0 ad ms := ⟨m, Nat.le_refl _, fun _ => rfl, fun _ u v h => by simp at h, fun _ => rfl⟩
theorem Turn.skip {es : List Edge} {gs ad0 ms0 ad ms : List Int} {j : Nat} {a b : Int} (t : Turn es gs ad0 ms0 j ad ms) (h : es[j]? = some (a, b)) (no : b ∉ ms ∨ a ∈ ms) : Turn es gs ad0 ms0 (j + 1) ad ms :=
  ⟨t.met, t.grow, t.same, fun e u v hu hv => by
    rw [take_next h, List.mem_append] at hu
    rcases hu with hu | hu
    · exact t.none_ e u v hu hv
    · have q := List.mem_singleton.mp hu
      injection q with q1 q2
      rcases no with no | no
      · exact absurd (q2 ▸ hv) no
      · rw [q1]; exact no, t.done⟩
theorem Turn.put {es : List Edge} {gs ad0 ms0 ad ms : List Int} {j : Nat} {a b : Int} (t : Turn es gs ad0 ms0 j ad ms) (m0 : ms0 = gs ++ ad0) (h : es[j]? = some (a, b)) (hb : b ∈ ms) (ha : a ∉ ms) : Turn es gs ad0 ms0 (j + 1) (ad ++ [a]) (ms ++ [a]) where
  met :=
    { eq := by rw [t.met.eq, List.append_assoc]
      nd := nd_snoc t.met.nd fun z => ha (by rw [t.met.eq]; exact List.mem_append_right _ z)
      src := fun v hv => by
        rcases List.mem_append.mp hv with hv | hv
        · exact t.met.src v hv
        · rw [List.mem_singleton.mp hv]
          exact List.mem_map.mpr ⟨(a, b), List.mem_of_getElem? h, rfl⟩
      sound := fun v hv => by
        rcases List.mem_append.mp hv with hv | hv
        · exact t.met.sound v hv
        · rw [List.mem_singleton.mp hv]
          obtain ⟨g, hg, r⟩ := t.met.sound b hb
          exact ⟨g, hg, .step (List.mem_of_getElem? h) r⟩ }
  grow := by have := t.grow; rw [List.length_append]; omega
  same := fun e => by
    have := t.grow
    rw [List.length_append, List.length_singleton] at e
    omega
  none_ := fun e => by
    have := t.grow
    rw [List.length_append, List.length_singleton] at e
    omega
  done := fun c => by
    have e := t.done c
    have em : ms = ms0 := by rw [t.met.eq, m0, e]
    rw [em] at ha hb
    exact absurd (c a b (List.mem_of_getElem? h) hb) ha
/-- behind i turns -/
structure Turns (es : List Edge) (gs : List Int) (i : Nat) (ad ms : List Int) : Prop where
  met : Met es gs ad ms
  on : Closed es ms ∨ i ≤ ad.length
theorem Turns.next {es : List Edge} {gs ad0 ms0 ad ms : List Int} {i : Nat} (T : Turns es gs i ad0 ms0) (t : Turn es gs ad0 ms0 es.length ad ms) : Turns es gs (i + 1) ad ms where
  met := t.met
  on := by
    by_cases e : ad.length = ad0.length
    · refine .inl fun u v he hv => t.none_ e u v ?_ hv
      rw [List.take_length]
      exact he
    · have g := t.grow
      rcases T.on with c | c
      · exact absurd (congrArg List.length (t.done c)) e
      · exact .inr (by omega)
theorem Turns.end_ {es : List Edge} {gs ad ms : List Int} (T : Turns es gs es.length ad ms) : Closed es ms := by
  rcases T.on with c | c
  · exact c
  · exact T.met.full c
/-! ### other webs of a web -/
theorem Good.more {n e : Int} {es : List Edge} {xs xs' : List Int} (g : Good n es e xs) (sub : ∀ x ∈ xs, x ∈ xs') (rng : ∀ x ∈ xs', 0 ≤ x ∧ x < n) (len : xs'.length < 60) : Good n es e xs' :=
  { g with
    x0 := fun z => by
      obtain ⟨x, hx⟩ := List.exists_mem_of_ne_nil _ g.x0
      have := sub x hx
      rw [z] at this
      cases this
    xr := rng
    xf := len
    bwd := fun v h0 h1 => by
      obtain ⟨x, hx, r⟩ := g.bwd v h0 h1
      exact ⟨x, sub x hx, r⟩ }
theorem Good.edge {n e : Int} {es es' : List Edge} {xs : List Int} {q : Edge} (g : Good n es e xs) (hq : (0 ≤ q.1 ∧ q.1 < n) ∧ 0 ≤ q.2 ∧ q.2 < n) (no : q ∉ es) (p : es'.Perm (q :: es)) (len : es'.length < 60) : Good n es' e xs :=
  { g with
    few := len
    rng := fun r hr => by
      rcases List.mem_cons.mp (p.mem_iff.mp hr) with rfl | hr
      · exact ⟨hq.1.1, hq.1.2, hq.2.1, hq.2.2⟩
      · exact g.rng r hr
    nd := by rw [p.nodup_iff, List.nodup_cons]; exact ⟨no, g.nd⟩
    fwd := fun v h0 h1 => (g.fwd v h0 h1).more fun r hr => p.mem_iff.mpr (List.mem_cons_of_mem _ hr)
    bwd := fun v h0 h1 => by
      obtain ⟨x, hx, r⟩ := g.bwd v h0 h1
      exact ⟨x, hx, r.more fun r hr => p.mem_iff.mpr (List.mem_cons_of_mem _ hr)⟩ }
theorem Good.perm {n e : Int} {es es' : List Edge} {xs : List Int} (g : Good n es e xs) (p : es'.Perm es) : Good n es' e xs :=
  { g with
    few := by rw [p.length_eq]; exact g.few
    rng := fun r hr => g.rng r (p.mem_iff.mp hr)
    nd := p.nodup_iff.mpr g.nd
    fwd := fun v h0 h1 => (g.fwd v h0 h1).more fun r hr => p.mem_iff.mpr hr
    bwd := fun v h0 h1 => by
      obtain ⟨x, hx, r⟩ := g.bwd v h0 h1
      exact ⟨x, hx, r.more fun r hr => p.mem_iff.mpr hr⟩ }
theorem Good.longer {n e : Int} {es : List Edge} {xs : List Int} (g : Good n es e xs) (hn : n ≤ 23) (hf : es.length < 59) (hx : xs.length < 59) : Good (n + 1) (es ++ [(e, n)]) e (xs ++ [n]) where
  n1 := by have := g.n1; omega
  n2 := by omega
  few := by rw [List.length_append, List.length_singleton]; omega
  rng := fun r hr => by
    have h1 := g.n1
    have h2 := g.e0
    have h3 := g.e1
    rcases List.mem_append.mp hr with hr | hr
    · have := g.rng r hr
      omega
    · rw [List.mem_singleton.mp hr]
      show 0 ≤ e ∧ e < n + 1 ∧ 0 ≤ n ∧ n < n + 1
      omega
  nd := nd_snoc g.nd fun m => by
    have := (g.rng _ m).2.2.2
    simp at this
  e0 := g.e0
  e1 := by have := g.e1; omega
  x0 := by simp
  xr := fun x hx => by
    have h1 := g.n1
    rcases List.mem_append.mp hx with hx | hx
    · have := g.xr x hx
      omega
    · rw [List.mem_singleton.mp hx]
      omega
  xf := by rw [List.length_append, List.length_singleton]; omega
  fwd := fun v h0 h1 => by
    by_cases ev : v = n
    · rw [ev]
      exact .one (List.mem_append_right _ List.mem_cons_self)
    · exact (g.fwd v h0 (by omega)).more fun r hr => List.mem_append_left _ hr
  bwd := fun v h0 h1 => by
    by_cases ev : v = n
    · exact ⟨n, List.mem_append_right _ List.mem_cons_self, by rw [ev]; exact .refl n⟩
    · obtain ⟨x, hx, r⟩ := g.bwd v h0 (by omega)
      exact ⟨x, List.mem_append_left _ hx, r.more fun r hr => List.mem_append_left _ hr⟩
/-! ### all edges from a place and to it -/
def outE (n : Nat) (e : Int) : List Edge := (List.range n).map fun i => (e, Int.ofNat i)
def backE (n : Nat) (e : Int) : List Edge := (((List.range n).map Int.ofNat).filter fun v => !decide (v = e)).map fun v => (v, e)
theorem outE_next (n : Nat) (e : Int) : outE (n + 1) e = outE n e ++ [(e, (n : Int))] := by
  unfold outE
  rw [List.range_succ, List.map_append]
  rfl
theorem backE_next (n : Nat) (e : Int) : backE (n + 1) e = backE n e ++ if (n : Int) = e then [] else [((n : Int), e)] := by
  unfold backE
  rw [List.range_succ, List.map_append, List.filter_append, List.map_append]
  congr 1
  show List.map _ (List.filter _ [Int.ofNat n]) = _
  by_cases h : (n : Int) = e
  · rw [if_pos h, List.filter_cons_of_neg]
    · rfl
    · show ¬ (!decide ((n : Int) = e)) = true
      rw [decide_eq_true h]
      simp
  · rw [if_neg h, List.filter_cons_of_pos]
    · rfl
    · show (!decide ((n : Int) = e)) = true
      rw [decide_eq_false h]
      rfl
theorem outE_mem {n : Nat} {e : Int} {q : Edge} : q ∈ outE n e ↔ q.1 = e ∧ 0 ≤ q.2 ∧ q.2 < (n : Int) := by
  unfold outE
  rw [List.mem_map]
  constructor
  · rintro ⟨i, hi, rfl⟩
    have := List.mem_range.mp hi
    refine ⟨rfl, ?_, ?_⟩
    · show (0 : Int) ≤ (i : Int)
      omega
    · show (i : Int) < (n : Int)
      omega
  · rintro ⟨h1, h2, h3⟩
    refine ⟨q.2.toNat, List.mem_range.mpr (by omega), ?_⟩
    obtain ⟨a, b⟩ := q
    have e1 : a = e := h1
    have e2 : ((b.toNat : Nat) : Int) = b := Int.toNat_of_nonneg h2
    show (e, ((b.toNat : Nat) : Int)) = (a, b)
    rw [e1, e2]
theorem backE_mem {n : Nat} {e : Int} {q : Edge} : q ∈ backE n e ↔ q.2 = e ∧ q.1 ≠ e ∧ 0 ≤ q.1 ∧ q.1 < (n : Int) := by
  unfold backE
  rw [List.mem_map]
  constructor
  · rintro ⟨v, hv, rfl⟩
    obtain ⟨h1, h2⟩ := List.mem_filter.mp hv
    obtain ⟨i, hi, rfl⟩ := List.mem_map.mp h1
    have := List.mem_range.mp hi
    refine ⟨rfl, fun z => ?_, ?_, ?_⟩
    · rw [decide_eq_true z] at h2
      cases h2
    · show (0 : Int) ≤ (i : Int)
      omega
    · show (i : Int) < (n : Int)
      omega
  · rintro ⟨h1, h0, h2, h3⟩
    obtain ⟨a, b⟩ := q
    have e1 : b = e := h1
    have e2 : ((a.toNat : Nat) : Int) = a := Int.toNat_of_nonneg h2
    refine ⟨a, List.mem_filter.mpr ⟨List.mem_map.mpr ⟨a.toNat, List.mem_range.mpr (by have : a < (n : Int) := h3; omega), e2⟩, ?_⟩, by rw [e1]⟩
    rw [decide_eq_false h0]
    rfl
theorem nd_map {α β : Type} {f : α → β} (inj : ∀ a b, f a = f b → a = b) : ∀ {l : List α}, l.Nodup → (l.map f).Nodup
  | [], _ => List.nodup_nil
  | a :: r, h => by
    obtain ⟨h1, h2⟩ := List.nodup_cons.mp h
    rw [List.map_cons, List.nodup_cons]
    refine ⟨fun m => ?_, nd_map inj h2⟩
    obtain ⟨b, hb, e⟩ := List.mem_map.mp m
    exact h1 (inj _ _ e ▸ hb)
theorem Good.star {n : Nat} {e o : Int} (hn : n ≤ 24) (h0 : 0 ≤ e) (h1 : e < (n : Int)) (o0 : 0 ≤ o) (o1 : o < (n : Int)) : Good n (outE n e ++ backE n e) o [e] where
  n1 := by omega
  n2 := by omega
  few := by
    have l1 : (outE n e).length = n := by unfold outE; rw [List.length_map, List.length_range]
    have l2 : (backE n e).length ≤ n := by
      unfold backE
      rw [List.length_map]
      have h2 := List.length_filter_le (fun v => !decide (v = e)) ((List.range n).map Int.ofNat)
      rw [List.length_map, List.length_range] at h2
      exact h2
    rw [List.length_append]
    omega
  rng := fun q hq => by
    rcases List.mem_append.mp hq with hq | hq
    · obtain ⟨a1, a2, a3⟩ := outE_mem.mp hq
      rw [a1]
      exact ⟨h0, h1, a2, a3⟩
    · obtain ⟨a1, _, a2, a3⟩ := backE_mem.mp hq
      rw [a1]
      exact ⟨a2, a3, h0, h1⟩
  nd := by
    rw [List.nodup_append]
    have ndr : ((List.range n).map Int.ofNat).Nodup := nd_map (fun a b h => Int.ofNat.inj h) List.nodup_range
    refine ⟨nd_map (fun a b h => ?_) List.nodup_range, nd_map (fun a b h => (Prod.mk.inj h).1) (ndr.sublist List.filter_sublist), fun a ha b hb hab => ?_⟩
    · exact Int.ofNat.inj (Prod.mk.inj h).2
    · obtain ⟨a1, _⟩ := outE_mem.mp ha
      obtain ⟨_, b2, _⟩ := backE_mem.mp hb
      rw [← hab] at b2
      exact b2 a1
  e0 := o0
  e1 := o1
  x0 := by simp
  xr := fun x hx => by rw [List.mem_singleton.mp hx]; exact ⟨h0, h1⟩
  xf := by rw [List.length_singleton]; decide
  fwd := fun v v0 v1 => by
    have r1 : Reach (outE n e ++ backE n e) e v := .one (List.mem_append_left _ (outE_mem.mpr ⟨rfl, v0, v1⟩))
    by_cases h : o = e
    · rw [h]; exact r1
    · exact .step (List.mem_append_right _ (backE_mem.mpr ⟨rfl, h, o0, o1⟩)) r1
  bwd := fun v v0 v1 => by
    refine ⟨e, List.mem_cons_self, ?_⟩
    by_cases h : v = e
    · rw [h]; exact .refl e
    · exact .one (List.mem_append_right _ (backE_mem.mpr ⟨rfl, h, v0, v1⟩))
end Kx

namespace Kx
open PySem PySem.Spec PyProof.Rows L2
/-! ### which error is due of a web, in plain Lean -/
def okPair (n : Int) (r : List Int) : Bool := match r with
  | [u, v] => decide ((0 ≤ u ∧ u < n) ∧ 0 ≤ v ∧ v < n)
  | _ => false
theorem okPair_iff {n : Int} {r : List Int} : okPair n r = true ↔ ∃ u v, r = [u, v] ∧ (0 ≤ u ∧ u < n) ∧ 0 ≤ v ∧ v < n := by
  unfold okPair
  split
  · rename_i u v
    rw [decide_eq_true_iff]
    exact ⟨fun h => ⟨u, v, rfl, h⟩, fun ⟨u', v', e, h⟩ => by cases e; exact h⟩
  · rename_i no
    exact ⟨(fun h => nomatch h), fun ⟨u, v, e, _⟩ => (no u v e).elim⟩
def firstIx (p : Nat → Bool) (n : Nat) : Option Nat := (List.range n).find? p
theorem firstIx_some {p : Nat → Bool} {n i : Nat} (h : i < n) (y : p i = true) (no : ∀ j, j < i → p j = false) : firstIx p n = some i := L2.find_range p h y no
theorem firstIx_none {p : Nat → Bool} {n : Nat} (no : ∀ j, j < n → p j = false) : firstIx p n = none := L2.find_range_none p no
theorem firstIx_none_iff {p : Nat → Bool} {n : Nat} : firstIx p n = none ↔ ∀ j, j < n → p j = false := by
  refine ⟨fun h j hj => ?_, firstIx_none⟩
  have := List.find?_eq_none.mp h j (List.mem_range.mpr hj)
  simpa using this
def badEdge (n : Int) (rs : List (List Int)) (i : Nat) : Bool := match rs[i]? with
  | some r => !okPair n r || decide (r ∈ rs.take i)
  | none => false
theorem badEdge_at {n : Int} {rs : List (List Int)} {i : Nat} {r : List Int} (h : rs[i]? = some r) : badEdge n rs i = (!okPair n r || decide (r ∈ rs.take i)) := by
  unfold badEdge
  rw [h]
def badExit (n : Int) (gs : List Int) (i : Nat) : Bool := match gs[i]? with
  | some x => !decide (0 ≤ x ∧ x < n)
  | none => false
theorem badExit_at {n : Int} {gs : List Int} {i : Nat} {x : Int} (h : gs[i]? = some x) : badExit n gs i = !decide (0 ≤ x ∧ x < n) := by
  unfold badExit
  rw [h]
def edgeOf (r : List Int) : Edge := (r.getD 0 0, r.getD 1 0)
def edgesOf (rs : List (List Int)) : List Edge := rs.map edgeOf
noncomputable def idleB (rs : List (List Int)) (e : Int) (gs : List Int) (i : Nat) : Bool := @decide (¬ (Reach (edgesOf rs) e (i : Int) ∧ ∃ x ∈ gs, Reach (edgesOf rs) (i : Int) x)) (Classical.propDecidable _)
theorem idleB_true {rs : List (List Int)} {e : Int} {gs : List Int} {i : Nat} : idleB rs e gs i = true ↔ ¬ (Reach (edgesOf rs) e (i : Int) ∧ ∃ x ∈ gs, Reach (edgesOf rs) (i : Int) x) := by
  unfold idleB
  exact @decide_eq_true_iff _ (Classical.propDecidable _)
theorem idleB_false {rs : List (List Int)} {e : Int} {gs : List Int} {i : Nat} : idleB rs e gs i = false ↔ Reach (edgesOf rs) e (i : Int) ∧ ∃ x ∈ gs, Reach (edgesOf rs) (i : Int) x := by
  rw [← Bool.not_eq_true, idleB_true, Classical.not_not]
/-- what a web of these parts leads to -/
inductive Res
  | places (v : Int)
  | edges (v : Int)
  | edge (v : Int)
  | entry (v : Int)
  | noExits
  | exit (v : Int)
  | idle (v : Int)
  | web
noncomputable def dueF (n : Int) (rs : List (List Int)) (e : Int) (gs : List Int) : Res :=
  if ¬ (1 ≤ n ∧ n ≤ 24) then .places n else
  if 80 < rs.length then .edges rs.length else
  match firstIx (badEdge n rs) rs.length with
  | some i => .edge i
  | none => if ¬ (0 ≤ e ∧ e < n) then .entry e else if gs = [] then .noExits else
    match firstIx (badExit n gs) gs.length with
    | some i => .exit (gs.getD i 0)
    | none => match firstIx (idleB rs e gs) n.toNat with
      | some i => .idle i
      | none => .web
theorem edgeOf_inj {n : Int} {a b : List Int} (ha : okPair n a = true) (hb : okPair n b = true) (h : edgeOf a = edgeOf b) : a = b := by
  obtain ⟨u, v, rfl, _⟩ := okPair_iff.mp ha
  obtain ⟨u', v', rfl, _⟩ := okPair_iff.mp hb
  have h1 : u = u' := (Prod.mk.inj h).1
  have h2 : v = v' := (Prod.mk.inj h).2
  rw [h1, h2]
/-- no bad edge: pairs of places, none twice -/
theorem rows_good {n : Int} {rs : List (List Int)} (h : firstIx (badEdge n rs) rs.length = none) : (∀ r ∈ rs, okPair n r = true) ∧ rs.Nodup := by
  have each := firstIx_none_iff.mp h
  have at_ : ∀ i r, rs[i]? = some r → okPair n r = true ∧ r ∉ rs.take i := fun i r e => by
    have q := each i (List.getElem?_eq_some_iff.mp e).1
    rw [badEdge_at e] at q
    simpa using q
  refine ⟨fun r hr => ?_, ?_⟩
  · obtain ⟨i, e⟩ := List.mem_iff_getElem?.mp hr
    exact (at_ i r e).1
  · refine List.pairwise_iff_getElem.mpr fun i j hi hj hij e => ?_
    refine (at_ j rs[j] (List.getElem?_eq_getElem hj)).2 ?_
    rw [← e]
    exact List.mem_take_iff_getElem.mpr ⟨i, by omega, rfl⟩
end Kx

namespace Kx
open PySem PySem.Spec PyProof.Rows L2
/-! ### isinstance(e, C), e the exception that the suite holds, with or without fields -/
def rIsD (K : PySem.W.Frag) (a : Addr) (cls : Value) (d : Option Addr) (D : Addr) : List V → Hp → VK → Prop := fun xs H Q => ∃ (c : V) (cv : Value) (b : Bool), xs = [.ref a, c] ∧ cls = .ref D ∧ (d = none ∨ ∃ dd fs, d = some dd ∧ H dd = some (.xd fs)) ∧ (∀ u, RelV c u → u = cv) ∧ PySem.W.kitOne K (.ref D) cv = some b ∧ Q (.bl b) H
theorem call_isD {X : Cx} {a D : Addr} {cls : Value} {d : Option Addr} {oe : Obj} {pn : List (Addr × Obj)} (C : ExcC X.K D) (hz : Zc cls d oe) (hf : ∃ vs, oe.data = .fields vs) : CallR (X.suite a ((a, oe) :: pn)) (.builtin "isinstance") (rIsD X.K a cls d D) := by
  intro pins s σ H xs us Q I r h
  obtain ⟨c, cv, b, rfl, ec, hd, hcv, e, q⟩ := h
  cases r with
  | cons rx rr =>
    cases rr with
    | cons rt rr =>
      cases rr
      cases rx
      have ev := hcv _ rt
      subst ev
      subst ec
      obtain ⟨hget, _⟩ := I.pin (a, oe) (List.mem_append.mpr (.inl List.mem_cons_self))
      obtain ⟨vs, hv⟩ := hf
      have isC : (PySem.W.clsIn X.K D).isSome = true := by
        obtain ⟨cd, hc, _⟩ := PySem.W.any_some C.hd
        rw [hc]
        rfl
      rcases hd with dn | ⟨dd, fs, ed, ea⟩
      · subst dn
        have J : PySem.W.InstAt s.heap a oe D none := by
          obtain ⟨oc, od, oda, osl⟩ := oe
          obtain ⟨h1, h2⟩ := hz
          dsimp only at h1 h2 hv
          subst h1 h2 hv
          exact ⟨hget, rfl, rfl, trivial⟩
        exact PySem.W.kia_one (PySem.W.handS_kitx_exc C.hg C.hk C.hs C.hd C.ha C.hn C.ht C.hm) I.kIn J e (fun z => nomatch z) fun tk => ⟨.bl b, H, I.kept (t' := tk) fun _ _ z => z, rfl, q⟩
      · subst ed
        have hx : ObjOk X.prog X.w H s.heap dd (.xd fs) := I.hok dd _ ea
        obtain ⟨mA, hns, hr⟩ := hx
        obtain ⟨od, ho, hl⟩ := lookIn_ns hns
        have J : PySem.W.InstAt s.heap a oe D (some od) := ⟨hget, hz.1, by unfold PySem.W.notCls; rw [hv] <;> rfl, by rw [hz.2]; exact ho⟩
        exact PySem.W.kia_one (PySem.W.kitx_exc isC C.hg C.hk C.hs C.ha C.hn C.ht C.hm) I.kIn J e (fun z => nomatch z) fun tk => ⟨.bl b, H, I.kept (t' := tk) fun _ _ z => z, rfl, q⟩
end Kx

namespace Kx
open PySem PySem.Spec PyProof.Rows L2
def top (i : Nat) : Stmt := PySem.Challenge.pw_savedseats_k01_web_errors.main.body.getD i (.Pass ⟨0, 0, 0, 0⟩)

/-- a def of the text, by its address: its promise and how its arguments bind -/
def Okd (P : Program) (w : World) (K : PySem.W.Frag) (mg : Str → Option Value) (base : Heap) (CX : CXT) (k : Nat) (f : Addr) (ps : List Str) (sp : Sp) : Prop := ∃ fd, FnOk P w K mg base CX k f fd ps sp ∧ Binds K fd ps []
/-- the script's list: read, never written -/
def Scr (K : PySem.W.Frag) (H : Hp) (a : Addr) (ns : List Int) : Prop := (∃ o, H a = some (.frz o (.lst (ns.map V.int)))) ∨
  ∃ (o : Obj) (its : Array Value) (n : Nat), K.lookup a = some o ∧ o.cls = .type "list" ∧ o.dict = none ∧ o.data = .seq its n ∧ its.size ≤ sizeLine ∧ Vals (ns.map V.int) its.toList
theorem Scr.sq {K : PySem.W.Frag} {H : Hp} {a : Addr} {ns : List Int} (h : Scr K H a ns) : SqL K H a (ns.map V.int) := by
  rcases h with ⟨o, h⟩ | h
  · exact .inl (.inr ⟨o, h⟩)
  · exact .inr h
theorem Scr.of {K : PySem.W.Frag} {H : Hp} {a : Addr} {ns : List Int} (hO : Only H) (h : SqL K H a (ns.map V.int)) : Scr K H a ns := by
  rcases h with (h | ⟨o, h⟩) | h
  · rcases hO a with e | ⟨o, xs, e⟩
    · rw [h] at e; cases e
    · rw [h] at e; cases e
  · exact .inl ⟨o, h⟩
  · exact .inr h
/-- what is read only stands -/
def Frz (H H' : Hp) : Prop := ∀ b o u, H b = some (.frz o u) → H' b = some (.frz o u)
theorem Frz.refl (H : Hp) : Frz H H := fun _ _ _ h => h
theorem Frz.trans {H H1 H2 : Hp} (a : Frz H H1) (b : Frz H1 H2) : Frz H H2 := fun c o u h => b c o u (a c o u h)
theorem Frz.same {H H' : Hp} (s : Same H H') : Frz H H' := fun b o u h => s b _ h
theorem Frz.upd {H : Hp} {p : Addr} {x : HO} (n : ∀ o u, H p ≠ some (.frz o u)) : Frz H (upd H p x) := fun b o u h => by
  rw [upd_ne (fun e => by subst e; exact n o u h)]
  exact h
theorem nfz_none {H : Hp} {p : Addr} (h : H p = none) : ∀ o u, H p ≠ some (.frz o u) := fun o u e => by rw [h] at e; cases e
theorem nfz_lst {H : Hp} {p : Addr} {xs : List V} (h : H p = some (.lst xs)) : ∀ o u, H p ≠ some (.frz o u) := fun o u e => by rw [h] at e; cases e
theorem Scr.keep {K : PySem.W.Frag} {H H' : Hp} {a : Addr} {ns : List Int} (h : Scr K H a ns) (f : Frz H H') : Scr K H' a ns := by
  rcases h with ⟨o, h⟩ | h
  · exact .inl ⟨o, f _ _ _ h⟩
  · exact .inr h
/-- the pool at p, with room for b draws more -/
def PoolAt (K : PySem.W.Frag) (H : Hp) (p : Addr) (b : Nat) : Prop := ∃ (a : Addr) (ns : List Int) (n i r m : Int), Scr K H a ns ∧ H p = some (.lst [.ref a, .int n, .int i, .int r, .int m]) ∧
  0 ≤ n ∧ n + (b : Int) ≤ 1000000000000 ∧ 0 ≤ i ∧ 0 ≤ r ∧ 0 ≤ m ∧ m < 2147483629
theorem PoolAt.less {K : PySem.W.Frag} {H : Hp} {p : Addr} {b c : Nat} (h : PoolAt K H p b) (l : c ≤ b) : PoolAt K H p c := by
  obtain ⟨a, ns, n, i, r, m, h1, h2, h3, h4, h6⟩ := h
  exact ⟨a, ns, n, i, r, m, h1, h2, h3, by omega, h6⟩
theorem PoolAt.keep {K : PySem.W.Frag} {H H' : Hp} {p : Addr} {b : Nat} (h : PoolAt K H p b) (hp : ∀ o, H p = some o → H' p = some o) (f : Frz H H') : PoolAt K H' p b := by
  obtain ⟨a, ns, n, i, r, m, h1, h2, h3⟩ := h
  exact ⟨a, ns, n, i, r, m, h1.keep f, hp _ h2, h3⟩
theorem PoolAt.same {K : PySem.W.Frag} {H H' : Hp} {p : Addr} {b : Nat} (h : PoolAt K H p b) (s : Same H H') : PoolAt K H' p b := h.keep (fun o e => s _ _ e) (.same s)
theorem PoolAt.new {K : PySem.W.Frag} {H : Hp} {p q : Addr} {b : Nat} {x : HO} (h : PoolAt K H p b) (n : H q = none) : PoolAt K (upd H q x) p b :=
  h.keep (fun o e => by rw [upd_ne (ne_of_none e n)]; exact e) (.upd (nfz_none n))
theorem PoolAt.set {K : PySem.W.Frag} {H : Hp} {p q : Addr} {b : Nat} {x : HO} {xs : List V} (h : PoolAt K H p b) (n : H q = some (.lst xs)) (ne : q ≠ p) : PoolAt K (upd H q x) p b :=
  h.keep (fun o e => by rw [upd_ne ne.symm]; exact e) (.upd (nfz_lst n))
theorem PoolAt.ne_new {K : PySem.W.Frag} {H : Hp} {p q : Addr} {b : Nat} (h : PoolAt K H p b) (n : H q = none) : q ≠ p := fun e => by
  obtain ⟨_, _, _, _, _, _, _, h2, _⟩ := h
  rw [e, h2] at n
  cases n
/-- what stood beside the pool stands -/
def But (p : Addr) (H H' : Hp) : Prop := (∀ b, b ≠ p → H' b = H b) ∧ (H' p).isSome = true
theorem But.trans {p : Addr} {H H1 H2 : Hp} (a : But p H H1) (b : But p H1 H2) : But p H H2 := ⟨fun c h => (b.1 c h).trans (a.1 c h), b.2⟩
theorem But.of {p : Addr} {H : Hp} {o : HO} : But p H (upd H p o) := ⟨fun _ h => upd_ne h, by rw [upd_same]; rfl⟩
def spPool (K : PySem.W.Frag) : Sp := fun vs H Q _ => ∃ (a : Addr) (ns : List Int), vs = [.ref a] ∧ Scr K H a ns ∧ ∀ (H' : Hp) (p : Addr), H p = none → PoolAt K H' p 1000000000000 → (∃ o, H' = upd H p o) → Q (.ref p) H'
/-- draw(pool, limit): a number from 0 to below the limit; one draw less -/
def spDraw (K : PySem.W.Frag) : Sp := fun vs H Q _ => ∃ (p : Addr) (b : Nat) (lim : Int), vs = [.ref p, .int lim] ∧ PoolAt K H p (b + 1) ∧ 0 < lim ∧ lim.natAbs < 2 ^ 200 ∧
  ∀ (H' : Hp) (d : Int), 0 ≤ d → d < lim → PoolAt K H' p b → But p H H' → Q (.int d) H'
structure TxDraw (mg : Str → Option Value) : Prop where
  n_len : mg "len" = none
  n_abs : mg "abs" = none
  n_int : mg "int" = none
theorem ix_there {xs : List V} {i : Int} (h0 : 0 ≤ i) (h1 : i < xs.length) : ∃ v, atI xs i = some v ∧ v ∈ xs := by
  obtain ⟨j, rfl⟩ : ∃ j : Nat, i = (j : Int) := ⟨i.toNat, by omega⟩
  have hj : j < xs.length := by omega
  exact ⟨xs[j], atI_nat (List.getElem?_eq_getElem hj), List.getElem_mem hj⟩
/-! ### edges and exits as objects -/
def EdgesAt (H : Hp) (ea : Addr) (L : List (Addr × Edge)) : Prop := H ea = some (.lst (L.map fun p => V.ref p.1)) ∧ ∀ p ∈ L, Qa H p.1 [.int p.2.1, .int p.2.2]
theorem EdgesAt.same {H H' : Hp} {ea : Addr} {L : List (Addr × Edge)} (h : EdgesAt H ea L) (s : Same H H') : EdgesAt H' ea L := ⟨s _ _ h.1, fun p hp => (h.2 p hp).same s⟩
abbrev pairs (L : List (Addr × Edge)) : List Edge := L.map (·.2)
theorem edge_at {H : Hp} {ea : Addr} {L : List (Addr × Edge)} (h : EdgesAt H ea L) {i : Nat} {v : V} (e : (L.map fun p => V.ref p.1)[i]? = some v) : ∃ t u z, v = .ref t ∧ L[i]? = some (t, u, z) ∧ Qa H t [.int u, .int z] ∧ (pairs L)[i]? = some (u, z) := by
  rw [List.getElem?_map] at e
  cases q : L[i]? with
  | none => rw [q] at e; cases e
  | some p =>
    rw [q] at e
    obtain ⟨t, u, z⟩ := p
    refine ⟨t, u, z, (Option.some.inj e).symm, rfl, h.2 _ (List.mem_of_getElem? q), ?_⟩
    rw [List.getElem?_map, q]
    rfl
theorem int_at {xs : List Int} {i : Nat} {v : V} (e : (xs.map V.int)[i]? = some v) : ∃ z, xs[i]? = some z ∧ v = .int z := by
  rw [List.getElem?_map] at e
  cases q : xs[i]? with
  | none => rw [q] at e; cases e
  | some z =>
    rw [q] at e
    exact ⟨z, rfl, (Option.some.inj e).symm⟩
def spIsNum : Sp := fun vs H Q _ => ∃ i : Int, vs = [.int i] ∧ Q (.bl true) H
def spBelow : Sp := fun vs H Q _ => ∃ i n : Int, vs = [.int i, .int n] ∧ Q (.bl (decide (0 ≤ i ∧ i < n))) H
def spReached : Sp := fun vs H Q _ => ∃ (ea sa : Addr) (L : List (Addr × Edge)) (ss : List Int), vs = [.ref ea, .ref sa] ∧ EdgesAt H ea L ∧ Qa H sa (ss.map V.int) ∧ L.length ≤ 1000 ∧ ss.length ≤ 1000 ∧
  ∀ (H' : Hp) (D : Addr) (S : List Int), Same H H' → H' D = some (.dK (dS S)) → (∀ v, v ∈ S ↔ ∃ s ∈ ss, Reach (pairs L) s v) → Q (.ref D) H'
/-- but for w0 all stays -/
def But1 (w0 : Addr) (H H' : Hp) : Prop := ∀ b o, b ≠ w0 → H b = some o → H' b = some o
theorem But1.trans {w0 : Addr} {H H1 H2 : Hp} (a : But1 w0 H H1) (b : But1 w0 H1 H2) : But1 w0 H H2 := fun c o n e => b c o n (a c o n e)
theorem But1.of {w0 : Addr} {H H' : Hp} (s : Same H H') : But1 w0 H H' := fun b o _ e => s b o e
theorem But1.set {w0 : Addr} {H : Hp} {o : HO} : But1 w0 H (upd H w0 o) := fun b u n e => by rw [upd_ne n]; exact e
structure WebAt (K : PySem.W.Frag) (H : Hp) (wa : Addr) (n : Int) (es : List Edge) (e : Int) (ys : List Int) : Prop where
  few : es.length < 200 ∧ ys.length < 200
  at_ : ∃ (dx te tx : Addr) (M : List (Addr × Edge)) (ot : Obj), H wa = some (.ins (He.ga K "Web") dx [("places", .int n), ("edges", .ref te), ("entry", .int e), ("exits", .ref tx)]) ∧ H te = some (.tup (M.map fun p => V.ref p.1)) ∧ (∀ p ∈ M, H p.1 = some (.tup [.int p.2.1, .int p.2.2])) ∧ pairs M = es ∧ H tx = some (.frz ot (.tup (ys.map V.int))) ∧ ot.cls = .type "tuple" ∧ ot.dict = none
theorem WebAt.same {K : PySem.W.Frag} {H H' : Hp} {wa : Addr} {n : Int} {es : List Edge} {e : Int} {ys : List Int} (h : WebAt K H wa n es e ys) (s : Same H H') : WebAt K H' wa n es e ys := by
  obtain ⟨dx, te, tx, M, ot, h1, h2, h3, h4, h5, h6⟩ := h.at_
  exact ⟨h.few, dx, te, tx, M, ot, s _ _ h1, s _ _ h2, fun p hp => s _ _ (h3 p hp), h4, s _ _ h5, h6⟩
theorem iteB {c : Bool} {A B : Prop} (h1 : c = true → A) (h2 : c = false → B) : if c = true then A else B := by
  cases c with
  | true => exact h1 rfl
  | false => exact h2 rfl
structure TxX (K : PySem.W.Frag) (mg : Str → Option Value) : Prop where
  g_is_number : mg "is_number" = some (.ref (He.ga K "is_number"))
  k_is_number : PySem.W.keepIn K (.ref (He.ga K "is_number")) = true
  g_is_below : mg "is_below" = some (.ref (He.ga K "is_below"))
  k_is_below : PySem.W.keepIn K (.ref (He.ga K "is_below")) = true
  g_check_places : mg "check_places" = some (.ref (He.ga K "check_places"))
  k_check_places : PySem.W.keepIn K (.ref (He.ga K "check_places")) = true
  g_check_edges : mg "check_edges" = some (.ref (He.ga K "check_edges"))
  k_check_edges : PySem.W.keepIn K (.ref (He.ga K "check_edges")) = true
  g_is_pair : mg "is_pair" = some (.ref (He.ga K "is_pair"))
  k_is_pair : PySem.W.keepIn K (.ref (He.ga K "is_pair")) = true
  g_check_entry : mg "check_entry" = some (.ref (He.ga K "check_entry"))
  k_check_entry : PySem.W.keepIn K (.ref (He.ga K "check_entry")) = true
  g_check_exits : mg "check_exits" = some (.ref (He.ga K "check_exits"))
  k_check_exits : PySem.W.keepIn K (.ref (He.ga K "check_exits")) = true
  g_check_idle : mg "check_idle" = some (.ref (He.ga K "check_idle"))
  k_check_idle : PySem.W.keepIn K (.ref (He.ga K "check_idle")) = true
  g_reached : mg "reached" = some (.ref (He.ga K "reached"))
  k_reached : PySem.W.keepIn K (.ref (He.ga K "reached")) = true
  g__law_pool : mg "_law_pool" = some (.ref (He.ga K "_law_pool"))
  k__law_pool : PySem.W.keepIn K (.ref (He.ga K "_law_pool")) = true
  g__law_draw : mg "_law_draw" = some (.ref (He.ga K "_law_draw"))
  k__law_draw : PySem.W.keepIn K (.ref (He.ga K "_law_draw")) = true
  g__law_ahead : mg "_law_ahead" = some (.ref (He.ga K "_law_ahead"))
  k__law_ahead : PySem.W.keepIn K (.ref (He.ga K "_law_ahead")) = true
  g__law_web : mg "_law_web" = some (.ref (He.ga K "_law_web"))
  k__law_web : PySem.W.keepIn K (.ref (He.ga K "_law_web")) = true
  g__law_bent : mg "_law_bent" = some (.ref (He.ga K "_law_bent"))
  k__law_bent : PySem.W.keepIn K (.ref (He.ga K "_law_bent")) = true
  g__law_bad_edge : mg "_law_bad_edge" = some (.ref (He.ga K "_law_bad_edge"))
  k__law_bad_edge : PySem.W.keepIn K (.ref (He.ga K "_law_bad_edge")) = true
  g__law_idle : mg "_law_idle" = some (.ref (He.ga K "_law_idle"))
  k__law_idle : PySem.W.keepIn K (.ref (He.ga K "_law_idle")) = true
  g__law_due : mg "_law_due" = some (.ref (He.ga K "_law_due"))
  k__law_due : PySem.W.keepIn K (.ref (He.ga K "_law_due")) = true
  g__law_built : mg "_law_built" = some (.ref (He.ga K "_law_built"))
  k__law_built : PySem.W.keepIn K (.ref (He.ga K "_law_built")) = true
  g_law : mg "law" = some (.ref (He.ga K "law"))
  k_law : PySem.W.keepIn K (.ref (He.ga K "law")) = true
  c_MOST_PLACES : ∃ t, mg "MOST_PLACES" = some (.int 24 t)
  c_MOST_EDGES : ∃ t, mg "MOST_EDGES" = some (.int 80 t)
  n_len : mg "len" = none
  n_isinstance : mg "isinstance" = none
  n_int : mg "int" = none
  n_bool : mg "bool" = none
  n_list : mg "list" = none
  n_tuple : mg "tuple" = none
  n_set : mg "set" = none
  n_enumerate : mg "enumerate" = none
  n_range : mg "range" = none
  n_sorted : mg "sorted" = none
  n_abs : mg "abs" = none
  g_Web : mg "Web" = some (.ref (He.ga K "Web"))
  cl_Web : Cls K (He.ga K "Web")
  mk_Web : Mk K (He.ga K "Web") (He.ma K (He.ga K "Web") "__init__")
  g_BadPlaces : mg "BadPlaces" = some (.ref (He.ga K "BadPlaces"))
  g_BadEdges : mg "BadEdges" = some (.ref (He.ga K "BadEdges"))
  g_BadEdge : mg "BadEdge" = some (.ref (He.ga K "BadEdge"))
  g_BadEntry : mg "BadEntry" = some (.ref (He.ga K "BadEntry"))
  g_NoExits : mg "NoExits" = some (.ref (He.ga K "NoExits"))
  g_BadExit : mg "BadExit" = some (.ref (He.ga K "BadExit"))
  g_Idle : mg "Idle" = some (.ref (He.ga K "Idle"))
  g_SeatError : mg "SeatError" = some (.ref (He.ga K "SeatError"))
  q_NoExits : PySem.W.excIn K (He.ga K "NoExits") He.veBase "ValueError.__new__" = true
  k_NoExits : PySem.W.keepIn K (.ref (He.ga K "NoExits")) = true
  b_NoExits : PySem.W.subIn K (.ref (He.ga K "NoExits")) (.type "BaseException") = some true
  t_NoExits : PySem.W.typeIn K (.ref (He.ga K "NoExits")) = some (.type "type")
  na_places : NoAttr K (He.ga K "Web") "places"
  na_edges : NoAttr K (He.ga K "Web") "edges"
  na_entry : NoAttr K (He.ga K "Web") "entry"
  na_exits : NoAttr K (He.ga K "Web") "exits"
  x_BadPlaces : PySem.W.exmOne K (.ref (He.ga K "BadPlaces")) (.ref (He.ga K "BadPlaces")) = some true
  xc_BadPlaces : ExcC K (He.ga K "BadPlaces")
  e_BadPlaces : PySem.W.kitOne K (.ref (He.ga K "BadPlaces")) (.ref (He.ga K "SeatError")) = some true
  x_BadEdges : PySem.W.exmOne K (.ref (He.ga K "BadEdges")) (.ref (He.ga K "BadEdges")) = some true
  xc_BadEdges : ExcC K (He.ga K "BadEdges")
  e_BadEdges : PySem.W.kitOne K (.ref (He.ga K "BadEdges")) (.ref (He.ga K "SeatError")) = some true
  x_BadEdges_BadPlaces : PySem.W.exmOne K (.ref (He.ga K "BadEdges")) (.ref (He.ga K "BadPlaces")) = some false
  x_BadEdge : PySem.W.exmOne K (.ref (He.ga K "BadEdge")) (.ref (He.ga K "BadEdge")) = some true
  xc_BadEdge : ExcC K (He.ga K "BadEdge")
  e_BadEdge : PySem.W.kitOne K (.ref (He.ga K "BadEdge")) (.ref (He.ga K "SeatError")) = some true
  x_BadEdge_BadPlaces : PySem.W.exmOne K (.ref (He.ga K "BadEdge")) (.ref (He.ga K "BadPlaces")) = some false
  x_BadEdge_BadEdges : PySem.W.exmOne K (.ref (He.ga K "BadEdge")) (.ref (He.ga K "BadEdges")) = some false
  x_BadEntry : PySem.W.exmOne K (.ref (He.ga K "BadEntry")) (.ref (He.ga K "BadEntry")) = some true
  xc_BadEntry : ExcC K (He.ga K "BadEntry")
  e_BadEntry : PySem.W.kitOne K (.ref (He.ga K "BadEntry")) (.ref (He.ga K "SeatError")) = some true
  x_BadEntry_BadPlaces : PySem.W.exmOne K (.ref (He.ga K "BadEntry")) (.ref (He.ga K "BadPlaces")) = some false
  x_BadEntry_BadEdges : PySem.W.exmOne K (.ref (He.ga K "BadEntry")) (.ref (He.ga K "BadEdges")) = some false
  x_BadEntry_BadEdge : PySem.W.exmOne K (.ref (He.ga K "BadEntry")) (.ref (He.ga K "BadEdge")) = some false
  x_NoExits : PySem.W.exmOne K (.ref (He.ga K "NoExits")) (.ref (He.ga K "NoExits")) = some true
  xc_NoExits : ExcC K (He.ga K "NoExits")
  e_NoExits : PySem.W.kitOne K (.ref (He.ga K "NoExits")) (.ref (He.ga K "SeatError")) = some true
  x_NoExits_BadPlaces : PySem.W.exmOne K (.ref (He.ga K "NoExits")) (.ref (He.ga K "BadPlaces")) = some false
  x_NoExits_BadEdges : PySem.W.exmOne K (.ref (He.ga K "NoExits")) (.ref (He.ga K "BadEdges")) = some false
  x_NoExits_BadEdge : PySem.W.exmOne K (.ref (He.ga K "NoExits")) (.ref (He.ga K "BadEdge")) = some false
  x_NoExits_BadEntry : PySem.W.exmOne K (.ref (He.ga K "NoExits")) (.ref (He.ga K "BadEntry")) = some false
  x_BadExit : PySem.W.exmOne K (.ref (He.ga K "BadExit")) (.ref (He.ga K "BadExit")) = some true
  xc_BadExit : ExcC K (He.ga K "BadExit")
  e_BadExit : PySem.W.kitOne K (.ref (He.ga K "BadExit")) (.ref (He.ga K "SeatError")) = some true
  x_BadExit_BadPlaces : PySem.W.exmOne K (.ref (He.ga K "BadExit")) (.ref (He.ga K "BadPlaces")) = some false
  x_BadExit_BadEdges : PySem.W.exmOne K (.ref (He.ga K "BadExit")) (.ref (He.ga K "BadEdges")) = some false
  x_BadExit_BadEdge : PySem.W.exmOne K (.ref (He.ga K "BadExit")) (.ref (He.ga K "BadEdge")) = some false
  x_BadExit_BadEntry : PySem.W.exmOne K (.ref (He.ga K "BadExit")) (.ref (He.ga K "BadEntry")) = some false
  x_BadExit_NoExits : PySem.W.exmOne K (.ref (He.ga K "BadExit")) (.ref (He.ga K "NoExits")) = some false
  x_Idle : PySem.W.exmOne K (.ref (He.ga K "Idle")) (.ref (He.ga K "Idle")) = some true
  xc_Idle : ExcC K (He.ga K "Idle")
  e_Idle : PySem.W.kitOne K (.ref (He.ga K "Idle")) (.ref (He.ga K "SeatError")) = some true
  x_Idle_BadPlaces : PySem.W.exmOne K (.ref (He.ga K "Idle")) (.ref (He.ga K "BadPlaces")) = some false
  x_Idle_BadEdges : PySem.W.exmOne K (.ref (He.ga K "Idle")) (.ref (He.ga K "BadEdges")) = some false
  x_Idle_BadEdge : PySem.W.exmOne K (.ref (He.ga K "Idle")) (.ref (He.ga K "BadEdge")) = some false
  x_Idle_BadEntry : PySem.W.exmOne K (.ref (He.ga K "Idle")) (.ref (He.ga K "BadEntry")) = some false
  x_Idle_NoExits : PySem.W.exmOne K (.ref (He.ga K "Idle")) (.ref (He.ga K "NoExits")) = some false
  x_Idle_BadExit : PySem.W.exmOne K (.ref (He.ga K "Idle")) (.ref (He.ga K "BadExit")) = some false

/-- an error of the class C goes out, with v under f -/
def Rz (K : PySem.W.Frag) (E : XK) (C f : Str) (v : V) (H : Hp) : Prop := ∀ (H' : Hp) (d : Addr), H' d = some (.xd [(f, v)]) → Same H H' → E (.ref (He.ga K C)) (some d) H'
theorem Rz.from {K : PySem.W.Frag} {E : XK} {C f : Str} {v : V} {H H1 : Hp} (r : Rz K E C f v H) (s : Same H H1) : Rz K E C f v H1 := fun H' d hd s' => r H' d hd (s.trans s')
/-- rows of numbers, each a list or a tuple -/
def RowsAt (H : Hp) (ea : Addr) (R : List (Addr × List Int)) : Prop := H ea = some (.lst (R.map fun p => V.ref p.1)) ∧ ∀ p ∈ R, Qa H p.1 (p.2.map V.int)
theorem RowsAt.same {H H' : Hp} {ea : Addr} {R : List (Addr × List Int)} (h : RowsAt H ea R) (s : Same H H') : RowsAt H' ea R := ⟨s _ _ h.1, fun p hp => (h.2 p hp).same s⟩
abbrev rows (R : List (Addr × List Int)) : List (List Int) := R.map (·.2)
theorem row_at {H : Hp} {ea : Addr} {R : List (Addr × List Int)} (h : RowsAt H ea R) {i : Nat} {v : V} (e : (R.map fun p => V.ref p.1)[i]? = some v) : ∃ t r, v = .ref t ∧ R[i]? = some (t, r) ∧ Qa H t (r.map V.int) ∧ (rows R)[i]? = some r := by
  rw [List.getElem?_map] at e
  cases q : R[i]? with
  | none => rw [q] at e; cases e
  | some p =>
    rw [q] at e
    exact ⟨p.1, p.2, (Option.some.inj e).symm, rfl, h.2 _ (List.mem_of_getElem? q), by rw [List.getElem?_map, q]; rfl⟩
/-- all rows are pairs: edges -/
def toE (R : List (Addr × List Int)) : List (Addr × Edge) := R.map fun p => (p.1, edgeOf p.2)
theorem RowsAt.edges {H : Hp} {ea : Addr} {R : List (Addr × List Int)} (h : RowsAt H ea R) (pr : ∀ r ∈ rows R, ∃ u v, r = [u, v]) : EdgesAt H ea (toE R) := by
  refine ⟨by rw [h.1]; unfold toE; rw [List.map_map]; rfl, fun p hp => ?_⟩
  obtain ⟨q, hq, rfl⟩ := List.mem_map.mp hp
  have g := h.2 q hq
  obtain ⟨u, v, e⟩ := pr q.2 (List.mem_map.mpr ⟨q, hq, rfl⟩)
  rw [e] at g
  show Qa H q.1 [.int (edgeOf q.2).1, .int (edgeOf q.2).2]
  rw [e]
  exact g
theorem toE_pairs (R : List (Addr × List Int)) : pairs (toE R) = edgesOf (rows R) := by
  unfold pairs toE edgesOf rows
  rw [List.map_map, List.map_map]
  rfl
def spChkPlacesX (K : PySem.W.Frag) : Sp := fun vs H Q E => ∃ n : Int, vs = [.int n] ∧ ((1 ≤ n ∧ n ≤ 24) → Q .non H) ∧ (¬ (1 ≤ n ∧ n ≤ 24) → Rz K E "BadPlaces" "count" (.int n) H)
def spIsPairX : Sp := fun vs H Q _ => ∃ (n : Int) (e : Addr) (r : List Int), vs = [.int n, .ref e] ∧ Qa H e (r.map V.int) ∧ ∀ H', Same H H' → Q (.bl (okPair n r)) H'
def spChkEdgesX (K : PySem.W.Frag) : Sp := fun vs H Q E => ∃ (n : Int) (ea : Addr) (R : List (Addr × List Int)), vs = [.int n, .ref ea] ∧ RowsAt H ea R ∧ (80 < R.length → Rz K E "BadEdges" "count" (.int R.length) H) ∧
  (R.length ≤ 80 → ∀ i : Nat, firstIx (badEdge n (rows R)) R.length = some i → Rz K E "BadEdge" "index" (.int i) H) ∧ (R.length ≤ 80 → firstIx (badEdge n (rows R)) R.length = none → ∀ H', Same H H' → Q .non H')
def spChkEntryX (K : PySem.W.Frag) : Sp := fun vs H Q E => ∃ n e : Int, vs = [.int n, .int e] ∧ ((0 ≤ e ∧ e < n) → Q .non H) ∧ (¬ (0 ≤ e ∧ e < n) → Rz K E "BadEntry" "place" (.int e) H)
def spChkExitsX (K : PySem.W.Frag) : Sp := fun vs H Q E => ∃ (n : Int) (xa : Addr) (xs : List Int), vs = [.int n, .ref xa] ∧ Qa H xa (xs.map V.int) ∧ (xs = [] → E (.ref (He.ga K "NoExits")) none H) ∧
  (∀ (i : Nat), firstIx (badExit n xs) xs.length = some i → Rz K E "BadExit" "place" (.int (xs.getD i 0)) H) ∧ (xs ≠ [] → firstIx (badExit n xs) xs.length = none → Q .non H)
def spChkIdleX (K : PySem.W.Frag) : Sp := fun vs H Q E => ∃ (n e : Int) (ea xa : Addr) (R : List (Addr × List Int)) (xs : List Int), vs = [.int n, .ref ea, .int e, .ref xa] ∧ RowsAt H ea R ∧ (∀ r ∈ rows R, ∃ u v, r = [u, v]) ∧ Qa H xa (xs.map V.int) ∧ 1 ≤ n ∧ n ≤ 24 ∧ R.length ≤ 80 ∧ xs.length < 60 ∧
  (∀ i : Nat, firstIx (idleB (rows R) e xs) n.toNat = some i → Rz K E "Idle" "place" (.int i) H) ∧ (firstIx (idleB (rows R) e xs) n.toNat = none → ∀ H', Same H H' → Q .non H')
/-- where a web's making leads -/
def RzF (K : PySem.W.Frag) (E : XK) (H : Hp) : Res → Prop
  | .places v => Rz K E "BadPlaces" "count" (.int v) H
  | .edges v => Rz K E "BadEdges" "count" (.int v) H
  | .edge v => Rz K E "BadEdge" "index" (.int v) H
  | .entry v => Rz K E "BadEntry" "place" (.int v) H
  | .noExits => ∀ H', Same H H' → E (.ref (He.ga K "NoExits")) none H'
  | .exit v => Rz K E "BadExit" "place" (.int v) H
  | .idle v => Rz K E "Idle" "place" (.int v) H
  | .web => True
def spWebInitX (K : PySem.W.Frag) : Sp := fun vs H Q E => ∃ (w0 dx : Addr) (n e : Int) (ea xa : Addr) (R : List (Addr × List Int)) (xs : List Int), vs = [.ref w0, .int n, .ref ea, .int e, .ref xa] ∧ H w0 = some (.ins (He.ga K "Web") dx []) ∧ RowsAt H ea R ∧ Qa H xa (xs.map V.int) ∧ xs.length < 60 ∧
  RzF K E H (dueF n (rows R) e xs) ∧ (dueF n (rows R) e xs = .web → ∀ (H' : Hp) (ys : List Int), But1 w0 H H' → WebAt K H' w0 n (edgesOf (rows R)) e ys → ys.Pairwise (· < ·) → (∀ k, k ∈ ys ↔ k ∈ xs) → Q .non H')
theorem atI_nn {α : Type} {xs : List α} {i : Int} {v : α} (h0 : 0 ≤ i) (h : xs[i.toNat]? = some v) : atI xs i = some v := by
  have z := atI_nat h
  rw [Int.toNat_of_nonneg h0] at z
  exact z
section
variable {P : Program} {w : World} {K : PySem.W.Frag} {mg : Str → Option Value} {base : Heap}
abbrev s_is_number : Stmt := top 11
theorem sc_is_number : FnScope ["value"] ["value"] (defScope s_is_number) := ⟨rfl, rfl, rfl, by decide +kernel, rfl, by decide +kernel, by decide +kernel⟩
theorem ok_is_number {fd : FuncData} (F : FunD K "is_number" "is_number" (defArgs s_is_number) (defBody s_is_number) (defScope s_is_number) [] [] (He.ga K "is_number") fd) (T : TxX K mg) : FnOk P w K mg base CX0 1 (He.ga K "is_number") fd ["value"] spIsNum := by
  refine F.ok sc_is_number (fun vs H Q E h => by obtain ⟨i, rfl, _⟩ := h; rfl) (fun cdv A outer s H vs Q E hr h => ?_)
  obtain ⟨i, rfl, q⟩ := h
  refine ⟨_, PSs.nox (pss_one (ps_ret (pe_and (pe_callB call_isi (by rfl) T.n_isinstance (by decide +kernel) (pa_cons (pv 0) (pa_cons (pe_bltn (v := .ty "int") (by rfl) T.n_int (by decide +kernel) rfl) pa_nil))) (pe_one (pe_not (pe_callB call_isi (by rfl) T.n_isinstance (by decide +kernel) (pa_cons (pv 0) (pa_cons (pe_bltn (v := .ty "bool") (by rfl) T.n_bool (by decide +kernel) rfl) pa_nil)))))))), ?_⟩
  refine ⟨_, rfl, .int i, .ty "int", _, _, true, rfl, .ty _, .base (.int i), kit_ty (by decide +kernel), true, rfl, ?_⟩
  refine iteT ?_
  exact ⟨_, rfl, .int i, .ty "bool", _, _, false, rfl, .ty _, .base (.int i), kit_ty (by decide +kernel), false, rfl, q⟩
abbrev s_is_below : Stmt := top 12
theorem sc_is_below : FnScope ["value", "limit"] ["value", "limit"] (defScope s_is_below) := ⟨rfl, rfl, rfl, by decide +kernel, rfl, by decide +kernel, by decide +kernel⟩
theorem ok_is_below {fd : FuncData} (F : FunD K "is_below" "is_below" (defArgs s_is_below) (defBody s_is_below) (defScope s_is_below) [] [] (He.ga K "is_below") fd) (T : TxX K mg) (d_is_number : Okd P w K mg base CX0 1 (He.ga K "is_number") ["value"] spIsNum) : FnOk P w K mg base CX0 2 (He.ga K "is_below") fd ["value", "limit"] spBelow := by
  obtain ⟨fd_is_number, G_is_number, b_is_number⟩ := d_is_number
  refine F.ok sc_is_below (fun vs H Q E h => by obtain ⟨i, n, rfl, _⟩ := h; rfl) (fun cdv A outer s H vs Q E hr h => ?_)
  obtain ⟨i, n, rfl, q⟩ := h
  refine ⟨_, PSs.nox (pss_one (ps_ret (pe_and (pe_call G_is_number (hr.mono (by decide)) (by rfl) T.g_is_number T.k_is_number b_is_number .nil pass0 (pa_cons (pv 0) pa_nil)) (pe_one (pe_chain op_le op_lt pe_int (pv 0) (pv 1)))))), ?_⟩
  refine ⟨_, rfl, i, rfl, true, rfl, ?_⟩
  refine iteT ?_
  refine ⟨_, rfl, _, _, rfl, rfl, _, rfl, ?_⟩
  refine iteB (fun h1 => ?_) (fun h1 => ?_)
  · refine ⟨_, rfl, _, _, rfl, rfl, ?_⟩
    show Q (V.bl (decide (i < n))) H
    have h1' : 0 ≤ i := of_decide_eq_true h1
    have e : decide (i < n) = decide (0 ≤ i ∧ i < n) := by
      rw [Bool.eq_iff_iff]
      simp only [decide_eq_true_eq]
      omega
    rw [e]
    exact q
  · have h1' : ¬ 0 ≤ i := of_decide_eq_false h1
    have e : decide (0 ≤ i ∧ i < n) = false := decide_eq_false fun z => h1' z.1
    rw [e] at q
    exact q
abbrev s_reached : Stmt := top 23
theorem sc_reached : FnScope ["edges", "starts", "place", "found", "waiting", "begin", "end"] ["edges", "starts"] (defScope s_reached) := ⟨rfl, rfl, rfl, by decide +kernel, rfl, by decide +kernel, by decide +kernel⟩
theorem ok_reached {fd : FuncData} (F : FunD K "reached" "reached" (defArgs s_reached) (defBody s_reached) (defScope s_reached) [] [] (He.ga K "reached") fd) (T : TxX K mg) : FnOk P w K mg base CX0 1 (He.ga K "reached") fd ["edges", "starts"] spReached := by
  refine F.ok sc_reached (fun vs H Q E h => by obtain ⟨ea, sa, L, ss, rfl, _⟩ := h; rfl) (fun cdv A outer s H vs Q E hr h => ?_)
  obtain ⟨ea, sa, L, ss, rfl, hE, hS, l1, l2, q⟩ := h
  refine ⟨_, PSs.nox (pss_cons (ps_setDc (i := 3) (own := [("place", 2)]) (g := gName 2) (tt := tYes) rfl sc_reached.nd rfl rfl (sw_dict rfl rfl rfl (by decide +kernel)) (pi_seqV 1) (blkOk_by (own := [("place", 2)]) (N := ["edges", "starts", "place", "found", "waiting", "begin", "end"]) (sc := defScope s_reached) (by decide +kernel)) (fun _ _ _ _ _ => (pg_name (i := 2) sc_reached.nd rfl (Or.inl rfl))) (fun _ _ _ _ _ => pts_nil) (fun _ _ _ _ _ => (pv 2)) (fun _ _ _ _ _ => pe_bl))
    (pss_cons (ps_set (i := 4) sc_reached.nd rfl (Or.inl rfl) (pe_callTy call_list_of (by rfl) T.n_list (by decide +kernel) (pa_cons (pv 1) pa_nil)))
    (pss_cons (ps_while PassesOwn.never (pt_truth (pv 4) (by intro _; rfl))
      (pss_cons (ps_set (i := 2) sc_reached.nd rfl (Or.inl rfl) (pe_bm0 PySem.F.plainAttrs_list PySem.F.slot_list_pop PySem.F.type_list_pop mt_pop (pv 4)))
    (pss_one (ps_for PassesOwn.never rfl (pi_list (pv 0)) (pg_seq rfl (pgs_cons (pg_name (i := 5) sc_reached.nd rfl (Or.inl rfl)) (pgs_cons (pg_name (i := 6) sc_reached.nd rfl (Or.inl rfl)) pgs_nil)))
      (pss_one (ps_if (PW.pt (pw_and (pt_cmpR op_eq (pv 5) (pv 2) (nomark _)) (pw_and1 (pt_cmp (pc_dnotin (hu_of hr) (pv 6) (pv 3)))))) (pss_cons (ps_dput (hu_of hr) (pv 3) (pv 6) pe_bl rfl)
    (pss_one (ps_expr (pe_bm PySem.F.plainAttrs_list PySem.F.slot_list_append PySem.F.type_list_append mt_append (pv 4) (pa_cons (pv 6) pa_nil))))) pss_nil))))))
    (pss_one (ps_ret (pv 3)))))), ?_⟩
  refine seq_setDc ?_
  refine dc_seqV (K := K) (i := 1) (a := sa) (xs := ss.map V.int) rfl hS (fun D j H' => ∃ S, Same H H' ∧ H' D = some (.dK (dS S)) ∧ Firsts (ss.take j) S)
    (fun D hD => ⟨[], same_upd (Same.refl H) hD, upd_same, List.nodup_nil, fun v => by simp⟩) (fun D j H' _ _ h o e => by obtain ⟨_, s, _⟩ := h; exact s _ _ e) ?_ ?_
  · rintro D j x H1 hD hj ⟨S, s1, hd, fs⟩
    obtain ⟨z, hz, rfl⟩ := int_at hj
    refine ⟨rfl, _, rfl, dS S, Sum.inl z, rfl, hd, ?_, ?_⟩
    · rw [dS_len]
      have := fs.len
      rw [List.length_take] at this
      exact Nat.lt_of_le_of_lt (show S.length ≤ 1000 by omega) (by decide)
    · refine ⟨_, fun b o e => ?_, by rw [upd_same, dS_put], ?_⟩
      · rw [upd_ne (ne_of_none e hD)]
        exact s1 b o e
      · rw [take_next hz]
        exact fs.next
  rintro D H1 hD ⟨S, s1, hd, fs⟩
  rw [List.length_map, List.take_length] at fs
  refine ⟨_, rfl, sa, _, rfl, (hS.same s1).sq, fun wl hw => ?_⟩
  have nDw : D ≠ wl := ne_of_none hd hw
  have hw0 : H wl = none := s1.free hw
  refine ⟨fun m σ' H' => ∃ (S W : List Int) (v2 v5 v6 : Option V), m = 2 * (ss.length + L.length - S.length) + W.length ∧ W.length ≤ S.length + ss.length ∧ σ' = [some (.ref ea), some (.ref sa), v2, some (.ref D), some (.ref wl), v5, v6] ∧ Same H H' ∧ H' D = some (.dK (dS S)) ∧ H' wl = some (.lst (W.map V.int)) ∧ Seek ss (pairs L) S W,
    ⟨_, S, ss, none, none, none, rfl, by omega, rfl, same_upd s1 hw, by rw [upd_ne nDw]; exact hd, upd_same, fs.seek _⟩, ?_⟩
  rintro m σ' H2 ⟨S, W, v2, v5, v6, em, wb, rfl, s2, hd2, hw2, sk⟩
  refine ⟨_, rfl, _, .inl ⟨_, SqL.of hw2, rfl⟩, ?_⟩
  rcases List.eq_nil_or_concat W with e | ⟨W0, p, e⟩
  · subst e
    refine iteF ?_
    exact ⟨_, rfl, q H2 D S s2 hd2 sk.done⟩
  · rw [List.concat_eq_append] at e
    subst e
    have ne : (!((W0 ++ [p]).map V.int).isEmpty) = true := by
      rw [List.map_append]
      cases W0 <;> rfl
    rw [ne]
    refine iteT ?_
    refine ⟨fun σ3 H3 => ∃ m', m' < m ∧ ∃ (S W : List Int) (v2 v5 v6 : Option V), m' = 2 * (ss.length + L.length - S.length) + W.length ∧ W.length ≤ S.length + ss.length ∧ σ3 = [some (.ref ea), some (.ref sa), v2, some (.ref D), some (.ref wl), v5, v6] ∧ Same H H3 ∧ H3 D = some (.dK (dS S)) ∧ H3 wl = some (.lst (W.map V.int)) ∧ Seek ss (pairs L) S W,
      fun σ3 H3 h => h, ?_⟩
    refine ⟨_, rfl, .inl ⟨rfl, _, SqL.of hw2⟩, wl, _, V.int p, rfl, rfl, hw2, by rw [List.map_append, List.length_append]; simp, ?_⟩
    have hdl : ((W0 ++ [p]).map V.int).dropLast = W0.map V.int := by rw [List.map_append]; simp
    rw [hdl]
    have nD : D ≠ wl := ne_of hd2 hw2 (by intro z; cases z)
    have s3 : Same H (upd H2 wl (.lst (W0.map V.int))) := fun b o e => by
      rw [upd_ne (ne_of_none e hw0)]
      exact s2 b o e
    refine ⟨_, rfl, ea, rfl, ⟨_, SqL.of (s3 _ _ hE.1)⟩, for_list (K := K) (a := ea) (xs := L.map fun p => V.ref p.1) (fun j σ3 H3 => ∃ (S' W' : List Int) (v5 v6 : Option V), σ3 = [some (.ref ea), some (.ref sa), some (.int p), some (.ref D), some (.ref wl), v5, v6] ∧ Same H H3 ∧ H3 D = some (.dK (dS S')) ∧ H3 wl = some (.lst (W'.map V.int)) ∧ Inn (pairs L) p S W0 j S' W')
      ⟨S, W0, v5, v6, rfl, s3, by rw [upd_ne nD]; exact hd2, upd_same, Inn.start sk.nd⟩ (fun j σ3 H3 _ h => by obtain ⟨_, _, _, _, _, s, _⟩ := h; exact SqL.of (s _ _ hE.1)) ?_ ?_⟩
    · rintro j x σ3 H3 hj ⟨S', W', v5, v6, rfl, s4, hd4, hw4, inn⟩
      obtain ⟨t, u, z, rfl, hLi, he, hpi⟩ := edge_at hE hj
      have nD4 : D ≠ wl := ne_of hd4 hw4 (by intro z; cases z)
      have bound : S'.length ≤ ss.length + L.length := by
        have e0 := len_le_of_sub S' (ss ++ (pairs L).map (·.2)) inn.nd fun v hv => by
          rcases inn.new v hv with y | ⟨_, y⟩
          · exact sk.bd v y
          · exact List.mem_append_right _ (List.mem_map.mpr ⟨(p, v), y, rfl⟩)
        rw [List.length_append, List.length_map, List.length_map] at e0
        exact e0
      refine ⟨t, _, rfl, (he.same s4).sq, rfl, _, _, rfl, _, _, rfl, rfl, ?_⟩
      refine ⟨_, rfl, _, rfl, rfl, _, rfl, ?_⟩
      refine iteB (fun h1 => ?_) (fun h1 => ?_)
      · have eu : u = p := V.int.inj (of_decide_eq_true h1)
        subst eu
        refine ⟨_, rfl, _, rfl, D, _, rfl, DGet.k (k := Sum.inl z) hd4, _, rfl, ?_⟩
        rw [dS_val]
        by_cases hz : z ∈ S'
        · rw [if_pos hz]
          exact iteF ⟨S', W', _, _, rfl, s4, hd4, hw4, inn.skip hpi (.inr hz)⟩
        · rw [if_neg hz]
          refine iteT ?_
          refine ⟨_, rfl, _, rfl, D, _, rfl, DPut.k (k := Sum.inl z) hd4 (by rw [dS_len]; exact Nat.lt_of_le_of_lt (show S'.length ≤ 2000 by omega) (by decide)), ?_⟩
          rw [dS_put_new hz]
          have hw5 : (upd H3 D (.dK (dS (S' ++ [z])))) wl = some (.lst (W'.map V.int)) := by rw [upd_ne nD4.symm]; exact hw4
          have w5 : (W'.map V.int).length < sizeLine := by
            have := inn.len
            rw [List.length_map]
            rw [List.length_append, List.length_singleton] at wb
            exact Nat.lt_of_le_of_lt (show W'.length ≤ 4000 by omega) (by decide)
          refine ⟨_, rfl, .inl ⟨rfl, _, SqL.of hw5⟩, _, rfl, wl, _, _, rfl, rfl, hw5, w5, ?_⟩
          refine ⟨S' ++ [z], W' ++ [z], _, _, rfl, fun b o e => ?_, by rw [upd_ne nD4, upd_same], by rw [upd_same, List.map_append]; rfl, inn.put hpi hz⟩
          rw [upd_ne (ne_of_none e hw0), upd_ne (ne_of_none e hD)]
          exact s4 b o e
      · have nu : u ≠ p := fun e => (of_decide_eq_false h1) (by rw [e])
        exact iteF ⟨S', W', _, _, rfl, s4, hd4, hw4, inn.skip hpi (.inl nu)⟩
    · rintro σ3 H3 ⟨S', W', v5, v6, rfl, s4, hd4, hw4, inn⟩
      have e1 : (L.map fun p => V.ref p.1).length = (pairs L).length := by rw [List.length_map, List.length_map]
      rw [e1] at inn
      have sk' := sk.turn inn
      have l4 := sk'.len
      have l5 := inn.len
      have l6 : S.length ≤ S'.length := len_le_of_sub S S' sk.nd inn.s1
      rw [List.length_map] at l4
      rw [List.length_append, List.length_singleton] at wb
      refine ⟨_, ?_, S', W', _, v5, v6, rfl, by omega, rfl, s4, hd4, hw4, sk'⟩
      rw [em, List.length_append, List.length_singleton]
      omega
abbrev s_check_places : Stmt := top 17
theorem sc_check_places : FnScope ["places"] ["places"] (defScope s_check_places) := ⟨rfl, rfl, rfl, by decide +kernel, rfl, by decide +kernel, by decide +kernel⟩
theorem ok_check_places {fd : FuncData} (F : FunD K "check_places" "check_places" (defArgs s_check_places) (defBody s_check_places) (defScope s_check_places) [] [] (He.ga K "check_places") fd) (T : TxX K mg) (I_BadPlaces : ErrI P w K mg base (He.ga K "BadPlaces") "count") (d_is_number : Okd P w K mg base CX0 1 (He.ga K "is_number") ["value"] spIsNum) : FnOk P w K mg base (L2.CX P w) 3 (He.ga K "check_places") fd ["places"] (spChkPlacesX K) := by
  obtain ⟨fd_is_number, G_is_number, b_is_number⟩ := d_is_number
  obtain ⟨t24, g24⟩ := T.c_MOST_PLACES
  refine F.ok sc_check_places (fun vs H Q E h => by obtain ⟨n, rfl, _⟩ := h; rfl) (fun cdv A outer s H vs Q E hr h => ?_)
  obtain ⟨n, rfl, q1, q2⟩ := h
  refine ⟨_,  (pss_one (ps_if (PW.pt (pw_or (pt_not (pt_val (pe_call G_is_number (hr.mono (by decide)) (by rfl) T.g_is_number T.k_is_number b_is_number .nil pass0 (pa_cons (pv 0) pa_nil)))) (pw_or1 (pt_not (pt_chain op_le op_le pe_int (pv 0) (pe_glob (v := .int 24) rfl g24 ⟨_, rfl⟩)))))) (pss_one (ps_raise rfl (takes_of rfl rfl rfl rfl) (pmk_errF I_BadPlaces (hr.mono (by decide)) (by rfl) T.g_BadPlaces (pa_cons (pv 0) pa_nil)))) pss_nil)), ?_⟩
  refine ⟨_, rfl, n, rfl, _, rfl, ?_⟩
  refine iteF ?_
  have out : ¬ (1 ≤ n ∧ n ≤ 24) → ∀ (d : Addr) (H2 : Hp), H2 d = some (.xd [("count", .int n)]) → Same H H2 → E (.ref (He.ga K "BadPlaces")) (some d) H2 := fun no d H2 hx s => q2 no H2 d hx s
  refine ⟨_, rfl, _, _, rfl, rfl, _, rfl, ?_⟩
  by_cases c1 : 1 ≤ n
  case neg =>
    rw [decide_eq_false c1]
    refine iteF ?_
    refine ⟨_, rfl, ?_⟩
    refine iteT ?_
    exact ⟨_, rfl, _, rfl, fun d H2 _ hx s => out (fun z => c1 z.1) d H2 hx s⟩
  rw [decide_eq_true c1]
  refine iteT ?_
  refine ⟨_, _, rfl, rfl, _, rfl, ?_⟩
  by_cases c2 : n ≤ 24
  case neg =>
    rw [decide_eq_false c2]
    exact iteT ⟨_, rfl, _, rfl, fun d H2 _ hx s => out (fun z => c2 z.2) d H2 hx s⟩
  rw [decide_eq_true c2]
  exact iteF (q1 ⟨c1, c2⟩)
abbrev s_is_pair : Stmt := top 19
theorem sc_is_pair : FnScope ["places", "edge"] ["places", "edge"] (defScope s_is_pair) := ⟨rfl, rfl, rfl, by decide +kernel, rfl, by decide +kernel, by decide +kernel⟩
theorem ok_is_pair {fd : FuncData} (F : FunD K "is_pair" "is_pair" (defArgs s_is_pair) (defBody s_is_pair) (defScope s_is_pair) [] [] (He.ga K "is_pair") fd) (T : TxX K mg) (d_is_below : Okd P w K mg base CX0 2 (He.ga K "is_below") ["value", "limit"] spBelow) : FnOk P w K mg base CX0 3 (He.ga K "is_pair") fd ["places", "edge"] spIsPairX := by
  obtain ⟨fd_is_below, G_is_below, b_is_below⟩ := d_is_below
  refine F.ok sc_is_pair (fun vs H Q E h => by obtain ⟨n, e, r, rfl, _⟩ := h; rfl) (fun cdv A outer s H vs Q E hr h => ?_)
  obtain ⟨n, e, r, rfl, he, q⟩ := h
  refine ⟨_, PSs.nox (pss_cons (ps_if (PW.pt (pw_or (pt_not (pt_val (pe_callB call_isiT (by rfl) T.n_isinstance (by decide +kernel) (pa_cons (pv 1) (pa_cons (pe_tup (pa_cons (pe_bltn (v := .ty "list") (by rfl) T.n_list (by decide +kernel) rfl) (pa_cons (pe_bltn (v := .ty "tuple") (by rfl) T.n_tuple (by decide +kernel) rfl) pa_nil))) pa_nil))))) (pw_or1 (pt_cmpR op_ne (pe_callB call_len_seq (by rfl) T.n_len PySem.boot_len (pa_cons (pv 1) pa_nil)) pe_int (nomark _))))) (pss_one (ps_ret pe_bl)) pss_nil)
    (pss_one (ps_ret (pe_and (pe_call G_is_below (hr.mono (by decide)) (by rfl) T.g_is_below T.k_is_below b_is_below .nil pass0 (pa_cons (pe_ix ix_seq (pv 1) pe_int (fun _ _ => rfl)) (pa_cons (pv 0) pa_nil))) (pe_one (pe_call G_is_below (hr.mono (by decide)) (by rfl) T.g_is_below T.k_is_below b_is_below .nil pass0 (pa_cons (pe_ix ix_seq (pv 1) pe_int (fun _ _ => rfl)) (pa_cons (pv 0) pa_nil)))))))), ?_⟩
  refine ⟨_, rfl, (by show 2 ≤ sizeLine; decide), fun tp ht => ?_⟩
  have s1 : Same H (upd H tp (.tup [.ty "list", .ty "tuple"])) := same_upd (Same.refl H) ht
  have he1 := he.same s1
  have isl : ∃ ty, TyX K (upd H tp (.tup [.ty "list", .ty "tuple"])) (.ref e) ty ∧ PySem.W.kitAny K ty [.type "list", .type "tuple"] = some true := by
    rcases he1 with h | h
    · exact ⟨_, .base (.lst h), kitAny_cons (b := true) (kit_ty (by decide +kernel)) (fun z => by cases z) (fun _ => rfl)⟩
    · exact ⟨_, .base (.tup h), kitAny_cons (b := false) (kit_ty (by decide +kernel)) (fun _ => kitAny_cons (b := true) (kit_ty (by decide +kernel)) (fun z => by cases z) (fun _ => rfl)) (fun z => by cases z)⟩
  obtain ⟨ty, ht1, ht2⟩ := isl
  refine ⟨_, tp, _, ty, _, true, rfl, upd_same, .cons (.ty _) (.cons (.ty _) .nil), ht1, ht2, _, rfl, ?_⟩
  refine iteF ?_
  refine ⟨_, rfl, e, _, rfl, he1.sq, rfl, _, rfl, ?_⟩
  rw [List.length_map]
  by_cases two : r.length = 2
  case neg =>
    have bad : okPair n r = false := by
      rw [← Bool.not_eq_true, okPair_iff]
      rintro ⟨u, v, rfl, _⟩
      exact two rfl
    have q' := q _ s1
    rw [bad] at q'
    have ne : ¬ ((r.length : Int)) = 2 := fun z => two (by omega)
    rw [decide_eq_false (fun z => ne (V.int.inj z))]
    exact iteT q'
  obtain ⟨u, v, rfl⟩ : ∃ u v, r = [u, v] := by
    match r, two with
    | [u, v], _ => exact ⟨u, v, rfl⟩
  refine iteF ?_
  have q1 := q _ s1
  have val : okPair n [u, v] = decide ((0 ≤ u ∧ u < n) ∧ 0 ≤ v ∧ v < n) := rfl
  rw [val] at q1
  have ix : ∀ (j : Int) (z : V) (Q' : VK), atI [V.int u, V.int v] j = some z → Q' z (upd H tp (.tup [.ty "list", .ty "tuple"])) → rIx K (.ref e) (.int j) (upd H tp (.tup [.ty "list", .ty "tuple"])) Q' := fun j z Q' h1 h2 => by
    rcases he1.sq (K := K) with h | h
    · exact .inl ⟨e, _, _, _, rfl, rfl, h, h1, h2⟩
    · exact .inr (.inl ⟨e, _, _, _, rfl, rfl, h, h1, h2⟩)
  refine ⟨_, rfl, ix 0 (.int u) _ rfl ?_⟩
  refine ⟨_, rfl, u, n, rfl, _, rfl, ?_⟩
  refine iteB (fun h1 => ?_) (fun h1 => ?_)
  · refine ⟨_, rfl, ix 1 (.int v) _ rfl ?_⟩
    refine ⟨_, rfl, v, n, rfl, ?_⟩
    have h1' := of_decide_eq_true h1
    have e2 : decide (0 ≤ v ∧ v < n) = decide ((0 ≤ u ∧ u < n) ∧ 0 ≤ v ∧ v < n) := by
      rw [Bool.eq_iff_iff]
      simp only [decide_eq_true_eq]
      exact ⟨fun z => ⟨h1', z⟩, fun z => z.2⟩
    rw [e2]
    exact q1
  · have h1' := of_decide_eq_false h1
    rw [decide_eq_false fun z => h1' z.1] at q1
    exact q1
abbrev s_check_entry : Stmt := top 20
theorem sc_check_entry : FnScope ["places", "entry"] ["places", "entry"] (defScope s_check_entry) := ⟨rfl, rfl, rfl, by decide +kernel, rfl, by decide +kernel, by decide +kernel⟩
theorem ok_check_entry {fd : FuncData} (F : FunD K "check_entry" "check_entry" (defArgs s_check_entry) (defBody s_check_entry) (defScope s_check_entry) [] [] (He.ga K "check_entry") fd) (T : TxX K mg) (I_BadEntry : ErrI P w K mg base (He.ga K "BadEntry") "place") (d_is_below : Okd P w K mg base CX0 2 (He.ga K "is_below") ["value", "limit"] spBelow) : FnOk P w K mg base (L2.CX P w) 3 (He.ga K "check_entry") fd ["places", "entry"] (spChkEntryX K) := by
  obtain ⟨fd_is_below, G_is_below, b_is_below⟩ := d_is_below
  refine F.ok sc_check_entry (fun vs H Q E h => by obtain ⟨n, e, rfl, _⟩ := h; rfl) (fun cdv A outer s H vs Q E hr h => ?_)
  obtain ⟨n, e, rfl, q1, q2⟩ := h
  refine ⟨_,  (pss_one (ps_if (pt_not (pt_val (pe_call G_is_below (hr.mono (by decide)) (by rfl) T.g_is_below T.k_is_below b_is_below .nil pass0 (pa_cons (pv 1) (pa_cons (pv 0) pa_nil))))) (pss_one (ps_raise rfl (takes_of rfl rfl rfl rfl) (pmk_errF I_BadEntry (hr.mono (by decide)) (by rfl) T.g_BadEntry (pa_cons (pv 1) pa_nil)))) pss_nil)), ?_⟩
  refine ⟨_, rfl, _, rfl, e, n, rfl, _, rfl, ?_⟩
  by_cases c : 0 ≤ e ∧ e < n
  · rw [decide_eq_true c]
    exact iteF (q1 c)
  · rw [decide_eq_false c]
    exact iteT ⟨_, rfl, _, rfl, fun d H2 _ hx s => q2 c H2 d hx s⟩
abbrev s_check_exits : Stmt := top 21
theorem sc_check_exits : FnScope ["places", "exits", "place"] ["places", "exits"] (defScope s_check_exits) := ⟨rfl, rfl, rfl, by decide +kernel, rfl, by decide +kernel, by decide +kernel⟩
theorem ok_check_exits {fd : FuncData} (F : FunD K "check_exits" "check_exits" (defArgs s_check_exits) (defBody s_check_exits) (defScope s_check_exits) [] [] (He.ga K "check_exits") fd) (T : TxX K mg) (I_BadExit : ErrI P w K mg base (He.ga K "BadExit") "place") (d_is_below : Okd P w K mg base CX0 2 (He.ga K "is_below") ["value", "limit"] spBelow) : FnOk P w K mg base (L2.CX P w) 3 (He.ga K "check_exits") fd ["places", "exits"] (spChkExitsX K) := by
  obtain ⟨fd_is_below, G_is_below, b_is_below⟩ := d_is_below
  refine F.ok sc_check_exits (fun vs H Q E h => by obtain ⟨n, xa, xs, rfl, _⟩ := h; rfl) (fun cdv A outer s H vs Q E hr h => ?_)
  obtain ⟨n, xa, xs, rfl, hx, q0, q1, q2⟩ := h
  refine ⟨_,  (pss_cons (ps_if (pt_cmpR op_eq (pe_callB call_len_seq (by rfl) T.n_len PySem.boot_len (pa_cons (pv 1) pa_nil)) pe_int (nomark _)) (pss_one (ps_raise rfl (takes_of rfl rfl rfl rfl) (pmk_own0 PySem.F.excBase_ValueError T.q_NoExits T.g_NoExits T.k_NoExits (raises_own T.b_NoExits T.t_NoExits) (by rfl)))) pss_nil)
    (pss_one (ps_for (passes_of rfl) rfl (pi_seqV 1) (pg_name (i := 2) sc_check_exits.nd rfl (Or.inl rfl))
      (pss_one (ps_if (pt_not (pt_val (pe_call G_is_below (hr.mono (by decide)) (by rfl) T.g_is_below T.k_is_below b_is_below .nil pass0 (pa_cons (pv 2) (pa_cons (pv 0) pa_nil))))) (pss_one (ps_raise rfl (takes_of rfl rfl rfl rfl) (pmk_errF I_BadExit (hr.mono (by decide)) (by rfl) T.g_BadExit (pa_cons (pv 2) pa_nil)))) pss_nil))))), ?_⟩
  refine ⟨_, rfl, xa, _, rfl, hx.sq, rfl, _, rfl, ?_⟩
  rw [List.length_map]
  by_cases none_ : xs = []
  · rw [none_]
    exact iteT (q0 none_)
  have len : ¬ (xs.length : Int) = 0 := by
    have := List.length_pos_iff.mpr none_
    omega
  rw [decide_eq_false (fun z => len (V.int.inj z))]
  refine iteF ?_
  refine for_seqV (K := K) (a := xa) (xs := xs.map V.int) rfl hx (fun j σ' H' => ∃ v, σ' = [some (.int n), some (.ref xa), v] ∧ H' = H ∧ ∀ i, i < j → badExit n xs i = false) ⟨none, rfl, rfl, fun i hi => absurd hi (Nat.not_lt_zero i)⟩ (fun j σ' H' _ h o e => by obtain ⟨_, _, rfl, _⟩ := h; exact e) ?_ ?_
  · rintro j x σ' H' hj ⟨v, rfl, rfl, before⟩
    obtain ⟨z, hz, rfl⟩ := int_at hj
    have lt := (List.getElem?_eq_some_iff.mp hz).1
    refine ⟨_, rfl, _, rfl, z, n, rfl, _, rfl, ?_⟩
    by_cases c : 0 ≤ z ∧ z < n
    · rw [decide_eq_true c]
      refine iteF ⟨_, rfl, rfl, fun i hi => ?_⟩
      by_cases e : i = j
      · rw [e, badExit_at hz, decide_eq_true c]
        rfl
      · exact before i (by omega)
    · rw [decide_eq_false c]
      have first := firstIx_some lt (by rw [badExit_at hz, decide_eq_false c]; rfl) before
      have out := q1 j first
      rw [List.getD_eq_getElem?_getD, hz] at out
      exact iteT ⟨_, rfl, _, rfl, fun d H2 _ hx s => out H2 d hx s⟩
  · rintro σ' H' ⟨v, rfl, rfl, before⟩
    rw [List.length_map] at before
    exact q2 none_ (firstIx_none before)
end
section
variable {P : Program} {w : World} {K : PySem.W.Frag} {mg : Str → Option Value} {base : Heap}
abbrev s_check_edges : Stmt := top 18
theorem sc_check_edges : FnScope ["places", "edges", "seen", "index", "edge"] ["places", "edges"] (defScope s_check_edges) := ⟨rfl, rfl, rfl, by decide +kernel, rfl, by decide +kernel, by decide +kernel⟩
theorem ok_check_edges {fd : FuncData} (F : FunD K "check_edges" "check_edges" (defArgs s_check_edges) (defBody s_check_edges) (defScope s_check_edges) [] [] (He.ga K "check_edges") fd) (T : TxX K mg) (I_BadEdges : ErrI P w K mg base (He.ga K "BadEdges") "count") (I_BadEdge : ErrI P w K mg base (He.ga K "BadEdge") "index") (d_is_pair : Okd P w K mg base CX0 3 (He.ga K "is_pair") ["places", "edge"] spIsPairX) : FnOk P w K mg base (L2.CX P w) 4 (He.ga K "check_edges") fd ["places", "edges"] (spChkEdgesX K) := by
  obtain ⟨fd_is_pair, G_is_pair, b_is_pair⟩ := d_is_pair
  obtain ⟨t80, g80⟩ := T.c_MOST_EDGES
  refine F.ok sc_check_edges (fun vs H Q E h => by obtain ⟨n, ea, R, rfl, _⟩ := h; rfl) (fun cdv A outer s H vs Q E hr h => ?_)
  obtain ⟨n, ea, R, rfl, hE, q0, q1, q2⟩ := h
  refine ⟨_,  (pss_cons (ps_if (pt_cmpR op_gt (pe_callB call_len_seq (by rfl) T.n_len PySem.boot_len (pa_cons (pv 1) pa_nil)) (pe_glob (v := .int 80) rfl g80 ⟨_, rfl⟩) (nomark _)) (pss_one (ps_raise rfl (takes_of rfl rfl rfl rfl) (pmk_errF I_BadEdges (hr.mono (by decide)) (by rfl) T.g_BadEdges (pa_cons (pe_callB call_len_seq (by rfl) T.n_len PySem.boot_len (pa_cons (pv 1) pa_nil)) pa_nil)))) pss_nil)
    (pss_cons (ps_set (i := 2) sc_check_edges.nd rfl (Or.inl rfl) (pe_callTy0 cr_set0X (by rfl) T.n_set (by decide +kernel)))
    (pss_one (ps_for (passes_of rfl) rfl (pi_enum (by rfl) T.n_enumerate (pa_cons (pv 1) pa_nil)) (pg_tup rfl (pgs_cons (pg_name (i := 3) sc_check_edges.nd rfl (Or.inl rfl)) (pgs_cons (pg_name (i := 4) sc_check_edges.nd rfl (Or.inl rfl)) pgs_nil)))
      (pss_cons (ps_if (PW.pt (pw_or (pt_not (pt_val (pe_call G_is_pair (hr.mono (by decide)) (by rfl) T.g_is_pair T.k_is_pair b_is_pair .nil pass0 (pa_cons (pv 0) (pa_cons (pv 4) pa_nil))))) (pw_or1 (pt_cmpR (op_inX hr.units) (pe_callTy call_tupleQ (by rfl) T.n_tuple (by decide +kernel) (pa_cons (pv 4) pa_nil)) (pv 2) (by first | exact nomark _ | rfl))))) (pss_one (ps_raise rfl (takes_of rfl rfl rfl rfl) (pmk_errF I_BadEdge (hr.mono (by decide)) (by rfl) T.g_BadEdge (pa_cons (pv 3) pa_nil)))) pss_nil)
    (pss_one (ps_expr (pe_saddX hr.units (pv 2) (pa_cons (pe_callTy call_tupleQ (by rfl) T.n_tuple (by decide +kernel) (pa_cons (pv 4) pa_nil)) pa_nil))))))))), ?_⟩
  refine ⟨_, rfl, ea, _, rfl, .inl (SqL.of hE.1), _, _, rfl, rfl, _, rfl, ?_⟩
  rw [List.length_map]
  by_cases many : 80 < R.length
  · rw [decide_eq_true (show (80 : Int) < (R.length : Int) by omega)]
    refine iteT ⟨_, rfl, ea, _, rfl, .inl (SqL.of hE.1), _, rfl, fun d H2 _ hx s => ?_⟩
    rw [List.length_map] at hx
    exact q0 many H2 d hx s
  rw [decide_eq_false (show ¬ (80 : Int) < (R.length : Int) by omega)]
  refine iteF ?_
  have le : R.length ≤ 80 := by omega
  refine ⟨rfl, fun sp hsp => ?_⟩
  refine ⟨_, rfl, ea, _, rfl, SqL.of ((same_upd (o := SetXO P w sp []) (Same.refl H) hsp) _ _ hE.1), for_it (walk_enum (K := K) (a := ea) (xs := R.map fun p => V.ref p.1))
    (fun i σ' H' => ∃ (v3 v4 : Option V) (sL : List (Addr × List Int)), σ' = [some (.int n), some (.ref ea), some (.ref sp), v3, v4] ∧ Same H H' ∧ H' sp = some (SetXO P w sp sL) ∧ (∀ p ∈ sL, H' p.1 = some (.tup (p.2.map V.int))) ∧
      (∀ k, k ∈ sL.map (·.2) ↔ k ∈ (rows R).take i) ∧ sL.length ≤ i ∧ ∀ j, j < i → badEdge n (rows R) j = false)
    ⟨none, none, [], rfl, same_upd (Same.refl H) hsp, upd_same, (fun _ z => nomatch z), (fun k => ⟨(fun z => nomatch z), fun z => by simp at z⟩), Nat.le_refl _, fun j hj => absurd hj (Nat.not_lt_zero j)⟩ (fun i σ' H' _ h => by obtain ⟨_, _, _, _, s, _⟩ := h; exact SqL.of (s _ _ hE.1)) ?_ ?_⟩
  · rintro i v σ' H1 H2 hi ⟨v3, v4, sL, rfl, s1, hset, htup, hmem, hlen, before⟩ ⟨T', x, y, rfl, hT, rfl, hx, hy⟩
    cases Option.some.inj hx
    obtain ⟨t, r, rfl, hLi, he, hri⟩ := row_at hE hy
    rw [List.length_map] at hi
    have s2 : Same H1 (upd H1 T' (.tup [.int (i : Nat), .ref t])) := same_upd (Same.refl H1) hT
    have lt : i < (rows R).length := (List.getElem?_eq_some_iff.mp hri).1
    have out : badEdge n (rows R) i = true → ∀ (d : Addr) (H3 : Hp), H3 d = some (.xd [("index", .int (i : Int))]) → Same H H3 → E (.ref (He.ga K "BadEdge")) (some d) H3 := fun bad d H3 hx s => by
      rw [List.length_map] at lt
      exact q1 le i (firstIx_some lt bad before) H3 d hx s
    refine ⟨T', _, rfl, SqT.of upd_same, rfl, _, _, rfl, _, _, rfl, rfl, ?_⟩
    refine ⟨_, rfl, _, rfl, n, t, r, rfl, (he.same s1).same s2, fun H3 s3 => ?_⟩
    have s13 := (s1.trans s2).trans s3
    refine ⟨_, rfl, ?_⟩
    by_cases good : okPair n r = true
    case neg =>
      rw [Bool.not_eq_true] at good
      rw [good]
      refine iteT ⟨_, rfl, _, rfl, fun d H4 _ hx s => out ?_ d H4 hx (s13.trans s)⟩
      rw [badEdge_at hri, good]
      rfl
    rw [good]
    refine iteF ?_
    have up3 : ∀ {H4 : Hp}, Same H3 H4 → H4 sp = some (SetXO P w sp sL) ∧ TupsX K H4 sL ∧ (∀ p ∈ sL, H4 p.1 = some (.tup (p.2.map V.int))) ∧ Same H H4 := fun {H4} s4 =>
      ⟨s4 _ _ (s3 _ _ (s2 _ _ hset)), fun p hp => SqT.of (s4 _ _ (s3 _ _ (s2 _ _ (htup p hp)))), fun p hp => s4 _ _ (s3 _ _ (s2 _ _ (htup p hp))), s13.trans s4⟩
    refine ⟨_, rfl, _, _, rfl, (he.same s1).same (s2.trans s3), fun b H4 s4 hb => ?_⟩
    obtain ⟨a1, a2, a3, a4⟩ := up3 s4
    refine ⟨_, rfl, b, sp, r, sL, rfl, rfl, SqT.of hb, a1, a2, _, rfl, ?_⟩
    by_cases seen : r ∈ (rows R).take i
    · rw [decide_eq_true ((hmem r).mpr seen)]
      refine iteT ⟨_, rfl, _, rfl, fun d H5 _ hx s => out ?_ d H5 hx (a4.trans s)⟩
      rw [badEdge_at hri, decide_eq_true seen, Bool.or_true]
    have no : r ∉ sL.map (·.2) := fun m => seen ((hmem r).mp m)
    rw [decide_eq_false no]
    refine iteF ?_
    refine ⟨_, rfl, ⟨sp, sL, rfl, a1, a2⟩, ?_⟩
    refine ⟨_, rfl, _, _, rfl, ((he.same s1).same (s2.trans s3)).same s4, fun b2 H5 s5 hb2 => ?_⟩
    obtain ⟨c1, c2, c3, c4⟩ := up3 (s4.trans s5)
    refine ⟨sp, b2, r, sL, rfl, rfl, c1, c2, SqT.of hb2, no, by omega, fun L' perm => ?_⟩
    have neT : ∀ {c : Addr} {ys : List V}, H5 c = some (.tup ys) → c ≠ sp := fun {c ys} e => ne_of e c1 (by intro zz; cases zz)
    refine ⟨_, _, L', rfl, fun c o e => ?_, upd_same, fun p hp => ?_, fun k => ?_, ?_, fun j hj => ?_⟩
    · rw [upd_ne (ne_of_none e hsp)]
      exact c4 c o e
    · rcases List.mem_cons.mp (perm.mem_iff.mp hp) with e | hp
      · rw [e, upd_ne (neT hb2)]
        exact hb2
      · rw [upd_ne (neT (c3 p hp))]
        exact c3 p hp
    · rw [(perm.map (·.2)).mem_iff, take_next hri, List.map_cons, List.mem_cons, List.mem_append, List.mem_singleton, hmem]
      exact Or.comm
    · rw [perm.length_eq, List.length_cons]
      omega
    · by_cases e : j = i
      · rw [e, badEdge_at hri, good, decide_eq_false seen]
        rfl
      · exact before j (by omega)
  · rintro σ' H' ⟨v3, v4, sL, rfl, s1, _, _, _, _, before⟩
    rw [List.length_map] at before
    exact q2 le (firstIx_none before) H' s1
abbrev s_check_idle : Stmt := top 22
theorem sc_check_idle : FnScope ["places", "edges", "entry", "exits", "ahead", "behind", "place", "begin", "end"] ["places", "edges", "entry", "exits"] (defScope s_check_idle) := ⟨rfl, rfl, rfl, by decide +kernel, rfl, by decide +kernel, by decide +kernel⟩
theorem ok_check_idle {fd : FuncData} (F : FunD K "check_idle" "check_idle" (defArgs s_check_idle) (defBody s_check_idle) (defScope s_check_idle) [] [] (He.ga K "check_idle") fd) (T : TxX K mg) (I_Idle : ErrI P w K mg base (He.ga K "Idle") "place") (d_reached : Okd P w K mg base CX0 1 (He.ga K "reached") ["edges", "starts"] spReached) : FnOk P w K mg base (L2.CX P w) 3 (He.ga K "check_idle") fd ["places", "edges", "entry", "exits"] (spChkIdleX K) := by
  obtain ⟨fd_reached, G_reached, b_reached⟩ := d_reached
  refine F.ok sc_check_idle (fun vs H Q E h => by obtain ⟨n, e, ea, xa, R, xs, rfl, _⟩ := h; rfl) (fun cdv A outer s H vs Q E hr h => ?_)
  obtain ⟨n, e, ea, xa, R, xs, rfl, hR, pr, hX, n1, n2, few, xf, q1, q2⟩ := h
  refine ⟨_,  (pss_cons (ps_set (i := 4) sc_check_idle.nd rfl (Or.inl rfl) (pe_call G_reached (hr.mono (by decide)) (by rfl) T.g_reached T.k_reached b_reached .nil pass0 (pa_cons (pv 1) (pa_cons (pe_lst (pa_cons (pv 2) pa_nil)) pa_nil))))
    (pss_cons (ps_set (i := 5) sc_check_idle.nd rfl (Or.inl rfl) (pe_call G_reached (hr.mono (by decide)) (by rfl) T.g_reached T.k_reached b_reached .nil pass0 (pa_cons (pe_lc (own := [("begin", 7), ("end", 8)]) (g := gSeq K 2 (gCons (gName 7) (gCons (gName 8) gNil))) (tt := tYes) rfl sc_check_idle.nd (pi_list (pv 1)) (blkOk_by (own := [("begin", 7), ("end", 8)]) (N := ["places", "edges", "entry", "exits", "ahead", "behind", "place", "begin", "end"]) (sc := defScope s_check_idle) (by decide +kernel)) (fun _ _ _ _ _ => (pg_seq rfl (pgs_cons (pg_name (i := 7) sc_check_idle.nd rfl (Or.inl rfl)) (pgs_cons (pg_name (i := 8) sc_check_idle.nd rfl (Or.inl rfl)) pgs_nil)))) (fun _ _ _ _ _ => pts_nil) (fun _ _ _ _ _ => (pe_tup (pa_cons (pv 8) (pa_cons (pv 7) pa_nil))))) (pa_cons (pv 3) pa_nil))))
    (pss_one (ps_for (passes_of rfl) rfl (pi_range1 rfl T.n_range (pa_cons (pv 0) pa_nil)) (pg_name (i := 6) sc_check_idle.nd rfl (Or.inl rfl))
      (pss_one (ps_if (PW.pt (pw_or (pt_cmp (pc_dnotin (hu_of hr) (pv 6) (pv 4))) (pw_or1 (pt_cmp (pc_dnotin (hu_of hr) (pv 6) (pv 5)))))) (pss_one (ps_raise rfl (takes_of rfl rfl rfl rfl) (pmk_errF I_Idle (hr.mono (by decide)) (by rfl) T.g_Idle (pa_cons (pv 6) pa_nil)))) pss_nil)))))), ?_⟩
  have hE := hR.edges pr
  have eP := toE_pairs R
  generalize hL : toE R = L at hE eP
  have lL : L.length = R.length := by rw [← hL]; exact List.length_map ..
  have lp : (pairs L).length = L.length := List.length_map ..
  have hEa : H ea = some (.lst (L.map fun p => V.ref p.1)) := hE.1
  refine ⟨_, rfl, _, rfl, (by show 1 ≤ sizeLine; decide), fun p hp => ?_⟩
  have s0 : Same H (upd H p (.lst [V.int e])) := same_upd (Same.refl H) hp
  refine ⟨ea, p, L, [e], rfl, hE.same s0, .inl upd_same, by omega, by rw [List.length_singleton]; decide, fun H1 D1 S1 s1' d1 m1 => ?_⟩
  have s1 := s0.trans s1'
  refine ⟨_, rfl, ea, rfl, ⟨_, SqL.of (s1 _ _ hE.1)⟩, fun D hD => lc_list (K := K) (a := ea) (xs := L.map fun p => V.ref p.1)
    (fun j H' => ∃ M : List (Addr × Edge), Same H1 H' ∧ H' D = some (.lst (M.map fun p => V.ref p.1)) ∧ (∀ p ∈ M, H' p.1 = some (.tup [.int p.2.1, .int p.2.2])) ∧ pairs M = turned ((pairs L).take j))
    ⟨[], same_upd (Same.refl H1) hD, upd_same, (fun _ z => nomatch z), rfl⟩ (fun j H' _ h => by obtain ⟨_, s, _⟩ := h; exact SqL.of (s _ _ (s1 _ _ hE.1))) ?_ ?_⟩
  · rintro j x H2 hj ⟨M, s2, hM, hMs, eM⟩
    obtain ⟨t, u, z, rfl, hLi, he, hpi⟩ := edge_at hE hj
    refine ⟨t, _, rfl, (he.same (s1.trans s2)).sq, rfl, _, _, rfl, _, _, rfl, rfl, ?_⟩
    refine ⟨rfl, _, rfl, _, rfl, (by show 2 ≤ sizeLine; decide), fun tp ht => ?_⟩
    have nD : D ≠ tp := ne_of_none hM ht
    have hlM : M.length = ((pairs L).take j).length := by
      have := congrArg List.length eM
      unfold turned at this
      rw [List.length_map, List.length_map] at this
      exact this
    have hjl : M.length ≤ 80 := by
      rw [hlM, List.length_take]
      omega
    refine ⟨M.map fun p => V.ref p.1, by rw [upd_ne nD]; exact hM, ?_, ?_⟩
    · rw [List.length_map]
      exact Nat.lt_of_le_of_lt hjl (by decide)
    · refine ⟨M ++ [(tp, (z, u))], fun b o e => ?_, ?_, fun p hp => ?_, ?_⟩
      · rw [upd_ne (ne_of_none e hD), upd_ne (ne_of_none (s2 b o e) ht)]
        exact s2 b o e
      · rw [upd_same, List.map_append]
        rfl
      · rcases List.mem_append.mp hp with hp | hp
        · have h0 := hMs p hp
          rw [upd_ne (ne_of h0 hM (by intro z; cases z)), upd_ne (ne_of_none h0 ht)]
          exact h0
        · rw [List.mem_singleton.mp hp]
          rw [upd_ne nD.symm, upd_same]
      · unfold turned at eM ⊢
        rw [take_next hpi, List.map_append, ← eM]
        exact List.map_append ..
  rintro H2 ⟨M, s2, hM, hMs, eM⟩
  rw [List.length_map, ← lp, List.take_length] at eM
  have lM : M.length = L.length := by
    have := congrArg List.length eM
    unfold turned at this
    rw [List.length_map, List.length_map] at this
    omega
  refine ⟨_, rfl, ?_⟩
  refine ⟨D, xa, M, xs, rfl, ⟨hM, fun p hp => .inr (hMs p hp)⟩, hX.same (s1.trans s2), by omega, by omega, fun H3 D2 S2 s3 d2 m2 => ?_⟩
  have s3' := (s1.trans s2).trans s3
  refine ⟨_, rfl, n, rfl, by omega, by omega, for_range (lo := 0) (n := n.toNat) (fun j σ' H' => ∃ v6, σ' = [some (.int n), some (.ref ea), some (.int e), some (.ref xa), some (.ref D1), some (.ref D2), v6, none, none] ∧ H' = H3 ∧ ∀ i, i < j → idleB (rows R) e xs i = false) ⟨none, rfl, rfl, fun i hi => absurd hi (Nat.not_lt_zero i)⟩ ?_ ?_⟩
  · rintro j σ' H' hj ⟨v6, rfl, rfl, before⟩
    have i1 : (0 + (j : Int)) ∈ S1 ↔ Reach (edgesOf (rows R)) e (j : Int) := by
      rw [m1, ← eP, show 0 + (j : Int) = (j : Int) by omega]
      exact ⟨fun ⟨x, hx, r⟩ => by rw [List.mem_singleton.mp hx] at r; exact r, fun r => ⟨e, List.mem_cons_self, r⟩⟩
    have i2 : (0 + (j : Int)) ∈ S2 ↔ ∃ x ∈ xs, Reach (edgesOf (rows R)) (j : Int) x := by
      rw [m2, eM, ← eP, show 0 + (j : Int) = (j : Int) by omega]
      exact ⟨fun ⟨x, hx, r⟩ => ⟨x, hx, r.unturn⟩, fun ⟨x, hx, r⟩ => ⟨x, hx, r.back⟩⟩
    have out : idleB (rows R) e xs j = true → ∀ (d : Addr) (H4 : Hp), H4 d = some (.xd [("place", .int (0 + (j : Int)))]) → Same H' H4 → E (.ref (He.ga K "Idle")) (some d) H4 := fun bad d H4 hx s => by
      rw [show 0 + (j : Int) = (j : Int) by omega] at hx
      exact q1 j (firstIx_some hj bad before) H4 d hx (s3'.trans s)
    refine ⟨_, rfl, _, rfl, D1, _, rfl, DGet.k (k := Sum.inl (0 + (j : Int))) (s3 _ _ (s2 _ _ d1)), _, rfl, ?_⟩
    rw [dS_val]
    by_cases c1 : (0 + (j : Int)) ∈ S1
    case neg =>
      rw [if_neg c1]
      exact iteT (iteT ⟨_, rfl, _, rfl, fun d H4 _ hx s => out (idleB_true.mpr fun z => c1 (i1.mpr z.1)) d H4 hx s⟩)
    rw [if_pos c1]
    refine iteF ?_
    refine ⟨_, rfl, _, rfl, D2, _, rfl, DGet.k (k := Sum.inl (0 + (j : Int))) d2, _, rfl, ?_⟩
    rw [dS_val]
    by_cases c2 : (0 + (j : Int)) ∈ S2
    case neg =>
      rw [if_neg c2]
      exact iteT ⟨_, rfl, _, rfl, fun d H4 _ hx s => out (idleB_true.mpr fun z => c2 (i2.mpr z.2)) d H4 hx s⟩
    rw [if_pos c2]
    refine iteF ⟨_, rfl, rfl, fun i hi => ?_⟩
    by_cases ei : i = j
    · rw [ei]
      exact idleB_false.mpr ⟨i1.mp c1, i2.mp c2⟩
    · exact before i (by omega)
  · rintro σ' H' ⟨v6, rfl, rfl, before⟩
    exact q2 (firstIx_none before) _ s3'
end
section
variable {P : Program} {w : World} {K : PySem.W.Frag} {mg : Str → Option Value} {base : Heap}
theorem Qa.but {H H' : Hp} {w0 a C dx : Addr} {fs : List (Str × V)} {xs : List V} (h : Qa H a xs) (hw : H w0 = some (.ins C dx fs)) (s : But1 w0 H H') : Qa H' a xs := by
  rcases h with h | h
  · exact .inl (s _ _ (ne_of h hw (by intro z; cases z)) h)
  · exact .inr (s _ _ (ne_of h hw (by intro z; cases z)) h)

theorem due_places {n : Int} {rs : List (List Int)} {e : Int} {gs : List Int} (h : ¬ (1 ≤ n ∧ n ≤ 24)) : dueF n rs e gs = .places n := by
  unfold dueF
  rw [if_pos h]
theorem due_edges {n : Int} {rs : List (List Int)} {e : Int} {gs : List Int} (h1 : 1 ≤ n ∧ n ≤ 24) (h : 80 < rs.length) : dueF n rs e gs = .edges rs.length := by
  unfold dueF
  rw [if_neg (fun z => z h1), if_pos h]
theorem due_edge {n : Int} {rs : List (List Int)} {e : Int} {gs : List Int} (h1 : 1 ≤ n ∧ n ≤ 24) (h2 : ¬ 80 < rs.length) {i : Nat} (h : firstIx (badEdge n rs) rs.length = some i) : dueF n rs e gs = .edge i := by
  unfold dueF
  rw [if_neg (fun z => z h1), if_neg h2, h]
theorem due_entry {n : Int} {rs : List (List Int)} {e : Int} {gs : List Int} (h1 : 1 ≤ n ∧ n ≤ 24) (h2 : ¬ 80 < rs.length) (h3 : firstIx (badEdge n rs) rs.length = none) (h : ¬ (0 ≤ e ∧ e < n)) : dueF n rs e gs = .entry e := by
  unfold dueF
  rw [if_neg (fun z => z h1), if_neg h2, h3]
  exact if_pos h
theorem due_none {n : Int} {rs : List (List Int)} {e : Int} {gs : List Int} (h1 : 1 ≤ n ∧ n ≤ 24) (h2 : ¬ 80 < rs.length) (h3 : firstIx (badEdge n rs) rs.length = none) (h4 : 0 ≤ e ∧ e < n) (h : gs = []) : dueF n rs e gs = .noExits := by
  unfold dueF
  rw [if_neg (fun z => z h1), if_neg h2, h3]
  exact (if_neg (fun z => z h4)).trans (if_pos h)
theorem due_exit {n : Int} {rs : List (List Int)} {e : Int} {gs : List Int} (h1 : 1 ≤ n ∧ n ≤ 24) (h2 : ¬ 80 < rs.length) (h3 : firstIx (badEdge n rs) rs.length = none) (h4 : 0 ≤ e ∧ e < n) (h5 : gs ≠ []) {i : Nat} (h : firstIx (badExit n gs) gs.length = some i) : dueF n rs e gs = .exit (gs.getD i 0) := by
  unfold dueF
  rw [if_neg (fun z => z h1), if_neg h2, h3, h]
  exact (if_neg (fun z => z h4)).trans (if_neg h5)
theorem due_idle {n : Int} {rs : List (List Int)} {e : Int} {gs : List Int} (h1 : 1 ≤ n ∧ n ≤ 24) (h2 : ¬ 80 < rs.length) (h3 : firstIx (badEdge n rs) rs.length = none) (h4 : 0 ≤ e ∧ e < n) (h5 : gs ≠ []) (h6 : firstIx (badExit n gs) gs.length = none) {i : Nat} (h : firstIx (idleB rs e gs) n.toNat = some i) : dueF n rs e gs = .idle i := by
  unfold dueF
  rw [if_neg (fun z => z h1), if_neg h2, h3, h6, h]
  exact (if_neg (fun z => z h4)).trans (if_neg h5)
theorem due_web {n : Int} {rs : List (List Int)} {e : Int} {gs : List Int} (h1 : 1 ≤ n ∧ n ≤ 24) (h2 : ¬ 80 < rs.length) (h3 : firstIx (badEdge n rs) rs.length = none) (h4 : 0 ≤ e ∧ e < n) (h5 : gs ≠ []) (h6 : firstIx (badExit n gs) gs.length = none) (h7 : firstIx (idleB rs e gs) n.toNat = none) : dueF n rs e gs = .web := by
  unfold dueF
  rw [if_neg (fun z => z h1), if_neg h2, h3, h6, h7]
  exact (if_neg (fun z => z h4)).trans (if_neg h5)
abbrev s_Web_init : Stmt := inClass (top 16) 0
theorem sc_Web_init : FnScope ["self", "places", "edges", "entry", "exits", "edge"] ["self", "places", "edges", "entry", "exits"] (defScope s_Web_init) := ⟨rfl, rfl, rfl, by decide +kernel, rfl, by decide +kernel, by decide +kernel⟩
theorem ok_Web_init {fd : FuncData} (F : FunD K "__init__" "Web.__init__" (defArgs s_Web_init) (defBody s_Web_init) (defScope s_Web_init) [] [] (He.ma K (He.ga K "Web") "__init__") fd) (T : TxX K mg) (d_check_places : Okd P w K mg base (L2.CX P w) 3 (He.ga K "check_places") ["places"] (spChkPlacesX K)) (d_check_edges : Okd P w K mg base (L2.CX P w) 4 (He.ga K "check_edges") ["places", "edges"] (spChkEdgesX K)) (d_check_entry : Okd P w K mg base (L2.CX P w) 3 (He.ga K "check_entry") ["places", "entry"] (spChkEntryX K)) (d_check_exits : Okd P w K mg base (L2.CX P w) 3 (He.ga K "check_exits") ["places", "exits"] (spChkExitsX K)) (d_check_idle : Okd P w K mg base (L2.CX P w) 3 (He.ga K "check_idle") ["places", "edges", "entry", "exits"] (spChkIdleX K)) : FnOk P w K mg base (L2.CX P w) 5 (He.ma K (He.ga K "Web") "__init__") fd ["self", "places", "edges", "entry", "exits"] (spWebInitX K) := by
  obtain ⟨fd_check_places, G_check_places, b_check_places⟩ := d_check_places
  obtain ⟨fd_check_edges, G_check_edges, b_check_edges⟩ := d_check_edges
  obtain ⟨fd_check_entry, G_check_entry, b_check_entry⟩ := d_check_entry
  obtain ⟨fd_check_exits, G_check_exits, b_check_exits⟩ := d_check_exits
  obtain ⟨fd_check_idle, G_check_idle, b_check_idle⟩ := d_check_idle
  refine F.ok sc_Web_init (fun vs H Q E h => by obtain ⟨w0, dx, n, e, ea, xa, R, xs, rfl, _⟩ := h; rfl) (fun cdv A outer s H vs Q E hr h => ?_)
  obtain ⟨w0, dx, n, e, ea, xa, R, xs, rfl, hw, hR, hX, xf, r1, q⟩ := h
  refine ⟨_,  (pss_cons (ps_expr (pe_call G_check_places (hr.mono (by decide)) (by rfl) T.g_check_places T.k_check_places b_check_places .nil (passes_call (takes_of rfl rfl rfl rfl) (fun _ _ _ _ h => h)) (pa_cons (pv 1) pa_nil)))
    (pss_cons (ps_expr (pe_call G_check_edges (hr.mono (by decide)) (by rfl) T.g_check_edges T.k_check_edges b_check_edges .nil (passes_call (takes_of rfl rfl rfl rfl) (fun _ _ _ _ h => h)) (pa_cons (pv 1) (pa_cons (pv 2) pa_nil))))
    (pss_cons (ps_expr (pe_call G_check_entry (hr.mono (by decide)) (by rfl) T.g_check_entry T.k_check_entry b_check_entry .nil (passes_call (takes_of rfl rfl rfl rfl) (fun _ _ _ _ h => h)) (pa_cons (pv 1) (pa_cons (pv 3) pa_nil))))
    (pss_cons (ps_expr (pe_call G_check_exits (hr.mono (by decide)) (by rfl) T.g_check_exits T.k_check_exits b_check_exits .nil (passes_call (takes_of rfl rfl rfl rfl) (fun _ _ _ _ h => h)) (pa_cons (pv 1) (pa_cons (pv 4) pa_nil))))
    (pss_cons (ps_expr (pe_call G_check_idle (hr.mono (by decide)) (by rfl) T.g_check_idle T.k_check_idle b_check_idle .nil (passes_call (takes_of rfl rfl rfl rfl) (fun _ _ _ _ h => h)) (pa_cons (pv 1) (pa_cons (pv 2) (pa_cons (pv 3) (pa_cons (pv 4) pa_nil))))))
    (pss_cons (ps_fld (pv 0) (pv 1) rfl)
    (pss_cons (ps_fld (pv 0) (pe_callTy call_tupleQ (by rfl) T.n_tuple (by decide +kernel) (pa_cons (pe_lc (own := [("edge", 5)]) (g := gName 5) (tt := tYes) rfl sc_Web_init.nd (pi_list (pv 2)) (blkOk_by (own := [("edge", 5)]) (N := ["self", "places", "edges", "entry", "exits", "edge"]) (sc := defScope s_Web_init) (by decide +kernel)) (fun _ _ _ _ _ => (pg_name (i := 5) sc_Web_init.nd rfl (Or.inl rfl))) (fun _ _ _ _ _ => pts_nil) (fun _ _ _ _ _ => (pe_callTy call_tupleQ (by rfl) T.n_tuple (by decide +kernel) (pa_cons (pv 5) pa_nil)))) pa_nil)) rfl)
    (pss_cons (ps_fld (pv 0) (pv 3) rfl)
    (pss_one (ps_fld (pv 0) (pe_callTy call_tupleF (by rfl) T.n_tuple (by decide +kernel) (pa_cons (pe_callB (cr_sortedSet rfl) (by rfl) T.n_sorted (by decide +kernel) (pa_cons (pe_callTy (cr_setI rfl) (by rfl) T.n_set (by decide +kernel) (pa_cons (pv 4) pa_nil)) pa_nil)) pa_nil)) rfl)))))))))), ?_⟩
  have lR : (rows R).length = R.length := List.length_map ..
  refine ⟨_, rfl, n, rfl, fun c1 => ?_, fun no => by rw [due_places no] at r1; exact r1⟩
  refine ⟨_, rfl, _, rfl, n, ea, R, rfl, hR, fun many => ?_, fun few i hi => ?_, fun few h3 H1 s1 => ?_⟩
  · rw [due_edges c1 (by omega)] at r1
    rw [← lR]
    exact r1
  · rw [due_edge c1 (by omega) (by rw [lR]; exact hi)] at r1
    exact r1
  have c2 : ¬ 80 < (rows R).length := by omega
  have c3 : firstIx (badEdge n (rows R)) (rows R).length = none := by rw [lR]; exact h3
  refine ⟨_, rfl, _, rfl, n, e, rfl, fun c4 => ?good, fun no => ?bad⟩
  case bad =>
    rw [due_entry c1 c2 c3 no] at r1
    exact r1.from s1
  refine ⟨_, rfl, _, rfl, n, xa, xs, rfl, hX.same s1, fun no => ?_, fun i hi => ?_, fun c5 c6 => ?_⟩
  · rw [due_none c1 c2 c3 c4 no] at r1
    exact r1 _ s1
  · by_cases c5 : xs = []
    · rw [c5] at hi
      exact nomatch hi
    · rw [due_exit c1 c2 c3 c4 c5 hi] at r1
      exact r1.from s1
  have pr : ∀ r ∈ rows R, ∃ u v, r = [u, v] := fun r hr => by
    obtain ⟨u, v, e', _⟩ := okPair_iff.mp ((rows_good c3).1 r hr)
    exact ⟨u, v, e'⟩
  refine ⟨_, rfl, _, rfl, _, rfl, _, rfl, n, e, ea, xa, R, xs, rfl, hR.same s1, pr, hX.same s1, c1.1, c1.2, few, xf, fun i hi => ?_, fun c7 H2 s2 => ?_⟩
  · rw [due_idle c1 c2 c3 c4 c5 c6 hi] at r1
    exact r1.from s1
  have q := q (due_web c1 c2 c3 c4 c5 c6 c7)
  have hE := hR.edges pr
  rw [← toE_pairs] at q
  have lL : (toE R).length = R.length := List.length_map ..
  revert hE q lL
  generalize toE R = L
  intro q hE lL
  have lp : (pairs L).length = L.length := List.length_map ..
  have s12 := s1.trans s2
  have hw2 := s12 _ _ hw
  refine ⟨_, rfl, _, rfl, w0, _, dx, _, rfl, hw2, T.cl_Web, T.na_places, by decide, ?_⟩
  have b3 := (But1.of (w0 := w0) s12).trans (But1.set (o := .ins (He.ga K "Web") dx (putF "places" (.int n) [])))
  have hE3 := b3 _ _ (ne_of hE.1 hw (by intro z; cases z)) hE.1
  have hX3 := hX.but hw b3
  have hL3 : ∀ p ∈ L, _ := fun p hp => (hE.2 p hp).but hw b3
  have hw3 : (upd H2 w0 (.ins (He.ga K "Web") dx (putF "places" (.int n) []))) w0 = some (.ins (He.ga K "Web") dx (putF "places" (.int n) [])) := upd_same
  revert b3 hE3 hX3 hL3 hw3
  generalize upd H2 w0 (.ins (He.ga K "Web") dx (putF "places" (.int n) [])) = H3
  intro b3 hE3 hX3 hL3 hw3
  refine ⟨_, rfl, ea, rfl, ⟨_, SqL.of hE3⟩, fun D hD => lc_list (K := K) (a := ea) (xs := L.map fun p => V.ref p.1)
    (fun j H' => ∃ M : List (Addr × Edge), Same H3 H' ∧ H' D = some (.lst (M.map fun p => V.ref p.1)) ∧ (∀ p ∈ M, H' p.1 = some (.tup [.int p.2.1, .int p.2.2])) ∧ pairs M = (pairs L).take j)
    ⟨[], same_upd (Same.refl H3) hD, upd_same, (fun _ z => nomatch z), rfl⟩ (fun j H' _ h => by obtain ⟨_, s, _⟩ := h; exact SqL.of (s _ _ hE3)) ?_ ?_⟩
  · rintro j x H4 hj ⟨M, s4, hM, hMs, eM⟩
    obtain ⟨t, u, z, rfl, hLi, he, hpi⟩ := edge_at hE hj
    refine ⟨rfl, _, rfl, t, _, rfl, (hL3 _ (List.mem_of_getElem? hLi)).same s4, fun b H5 s5 hb => ?_⟩
    have hM5 := s5 _ _ hM
    have hlM : M.length = ((pairs L).take j).length := by
      have := congrArg List.length eM
      rw [List.length_map] at this
      exact this
    have hjl : M.length ≤ 80 := by
      rw [hlM, List.length_take]
      omega
    refine ⟨M.map fun p => V.ref p.1, hM5, ?_, ?_⟩
    · rw [List.length_map]
      exact Nat.lt_of_le_of_lt hjl (by decide)
    · refine ⟨M ++ [(b, (u, z))], fun b o e => ?_, ?_, fun p hp => ?_, ?_⟩
      · rw [upd_ne (ne_of_none e hD)]
        exact s5 _ _ (s4 b o e)
      · rw [upd_same, List.map_append]
        rfl
      · rcases List.mem_append.mp hp with hp | hp
        · have h0 := s5 _ _ (hMs p hp)
          rw [upd_ne (ne_of h0 hM5 (by intro z; cases z))]
          exact h0
        · rw [List.mem_singleton.mp hp]
          rw [upd_ne (ne_of hb hM5 (by intro z; cases z))]
          exact hb
      · rw [take_next hpi, ← eM]
        exact List.map_append ..
  rintro H4 ⟨M, s4, hM, hMs, eM⟩
  rw [List.length_map, ← lp, List.take_length] at eM
  refine ⟨D, _, rfl, .inl hM, fun te H5 s5 hte => ?_⟩
  have s45 := s4.trans s5
  have hw5 := s45 _ _ hw3
  refine ⟨_, rfl, w0, _, dx, _, rfl, hw5, T.cl_Web, T.na_edges, (by show (1 : Nat) < 1000; decide), ?_⟩
  refine ⟨_, rfl, _, rfl, w0, _, dx, _, rfl, upd_same, T.cl_Web, T.na_entry, (by show (2 : Nat) < 1000; decide), ?_⟩
  have b6 := ((b3.trans (But1.of s45)).trans (But1.set (o := .ins (He.ga K "Web") dx (putF "edges" (.ref te) (putF "places" (.int n) []))))).trans (But1.set (o := .ins (He.ga K "Web") dx (putF "entry" (.int e) (putF "edges" (.ref te) (putF "places" (.int n) [])))))
  have hX6 := hX.but hw b6
  have c6 := (But1.set (w0 := w0) (H := H5) (o := .ins (He.ga K "Web") dx (putF "edges" (.ref te) (putF "places" (.int n) [])))).trans (But1.set (o := .ins (He.ga K "Web") dx (putF "entry" (.int e) (putF "edges" (.ref te) (putF "places" (.int n) [])))))
  have nw : ∀ {c : Addr} {ys : List V}, H5 c = some (.tup ys) → c ≠ w0 := fun {c ys} e => ne_of e hw5 (by intro z; cases z)
  have hte6 := c6 _ _ (nw hte) hte
  have hMs6 : ∀ p ∈ M, _ := fun p hp => c6 _ _ (nw (s5 _ _ (hMs p hp))) (s5 _ _ (hMs p hp))
  have hw6 : (upd (upd H5 w0 (.ins (He.ga K "Web") dx (putF "edges" (.ref te) (putF "places" (.int n) [])))) w0 (.ins (He.ga K "Web") dx (putF "entry" (.int e) (putF "edges" (.ref te) (putF "places" (.int n) []))))) w0 = some (.ins (He.ga K "Web") dx (putF "entry" (.int e) (putF "edges" (.ref te) (putF "places" (.int n) [])))) := upd_same
  refine ⟨_, rfl, xa, xs, rfl, hX6.sq, xf, fun sa c hsa hc => ?_⟩
  refine ⟨sa, _, c, rfl, upd_same, by omega, fun ys l pw mem len hl => ?_⟩
  refine ⟨l, _, rfl, SqL.of upd_same, fun tx ot htx0 oc od => ?_⟩
  have s69 := (same_upd (same_upd (Same.refl _) hsa) hl).trans (same_upd (o := .frz ot (.tup (ys.map V.int))) (Same.refl _) htx0)
  refine ⟨_, rfl, w0, _, dx, _, rfl, s69 _ _ hw6, T.cl_Web, T.na_exits, (by show (3 : Nat) < 1000; decide), ?_⟩
  have e9 : ∀ {c : Addr} {ob : HO} {H9 : Hp}, (∀ C dx fs, ob ≠ .ins C dx fs) → (∃ C dx fs, H9 w0 = some (.ins C dx fs)) → H9 c = some ob → ∀ o, (upd H9 w0 o) c = some ob := fun {c ob H9} ne hw9 e o => by
    obtain ⟨C, dx, fs, hw9⟩ := hw9
    rw [upd_ne (ne_of e hw9 (ne C dx fs))]
    exact e
  have hw9 := s69 _ _ hw6
  refine q _ ys ((b6.trans (But1.of s69)).trans But1.set) ⟨⟨by omega, by omega⟩, dx, te, tx, M, ot, ?_, e9 (by intro _ _ _ z; cases z) ⟨_, _, _, hw9⟩ (s69 _ _ hte6) _, fun p hp => e9 (by intro _ _ _ z; cases z) ⟨_, _, _, hw9⟩ (s69 _ _ (hMs6 p hp)) _, eM, e9 (by intro _ _ _ z; cases z) ⟨_, _, _, hw9⟩ upd_same _, oc, od⟩ pw fun k => (mem k).trans decide_eq_true_iff
  rw [upd_same]
  rfl
end

section
variable {P : Program} {w : World} {K : PySem.W.Frag} {mg : Str → Option Value} {base : Heap}
abbrev s_pool : Stmt := top 25
theorem sc_pool : FnScope ["_law_script"] ["_law_script"] (defScope s_pool) := ⟨rfl, rfl, rfl, by decide +kernel, rfl, by decide +kernel, by decide +kernel⟩
theorem ok_pool {f : Addr} {fd : FuncData} (F : FunD K "_law_pool" "_law_pool" (defArgs s_pool) (defBody s_pool) (defScope s_pool) [] [] f fd) : FnOk P w K mg base CX0 1 f fd ["_law_script"] (spPool K) := by
  refine F.ok sc_pool (fun vs H Q E h => ?_) (fun cdv A outer s H vs Q E hr h => ?_)
  · obtain ⟨a, ns, rfl, _⟩ := h
    rfl
  · obtain ⟨a, ns, rfl, hS, k⟩ := h
    refine ⟨_, PSs.nox (pss_one (ps_ret (pe_lst (pa_cons (pv 0) (pa_cons pe_int (pa_cons pe_int (pa_cons pe_int (pa_cons pe_int pa_nil)))))))), ?_⟩
    refine ⟨_, rfl, (by show 5 ≤ sizeLine; decide), fun p hp => ?_⟩
    exact k _ p hp ⟨a, ns, 0, 0, 0, 7, hS.keep (.upd (nfz_none hp)), upd_same, by omega, by omega, by omega, by omega, by omega, by omega⟩ ⟨_, rfl⟩
abbrev s_draw : Stmt := top 26
theorem sc_draw : FnScope ["_law_pool_here", "_law_limit", "_law_cell", "_law_digit", "_law_mixed"] ["_law_pool_here", "_law_limit"] (defScope s_draw) := ⟨rfl, rfl, rfl, by decide +kernel, rfl, by decide +kernel, by decide +kernel⟩
theorem ok_draw {f : Addr} {fd : FuncData} (F : FunD K "_law_draw" "_law_draw" (defArgs s_draw) (defBody s_draw) (defScope s_draw) [] [] f fd) (T : TxDraw mg) : FnOk P w K mg base CX0 1 f fd ["_law_pool_here", "_law_limit"] (spDraw K) := by
  refine F.ok sc_draw (fun vs H Q E h => ?_) (fun cdv A outer s H vs Q E hr h => ?_)
  · obtain ⟨p, b, lim, rfl, _⟩ := h
    rfl
  · obtain ⟨p, b, lim, rfl, ⟨a, ns, n, i, r, m, hS, hp, n0, nb, i0, r0, m0, m1⟩, l0, l1, k⟩ := h
    refine ⟨_, PSs.nox (pss_cons (ps_asg (pe_op op_add (pe_ix ix_list (pv 0) pe_int (fun _ _ => rfl)) pe_int) (pg_sub (pv 0) pe_int set_list))
    (C8.pss_cut (ps_if (PW.pt (pw_and (pt_cmpR op_eq (pe_ix ix_list (pv 0) pe_int (fun _ _ => rfl)) pe_int (nomark _)) (pw_and1 (pt_cmpR op_lt (pe_ix ix_list (pv 0) pe_int (fun _ _ => rfl)) (pe_callB call_len_seq (by rfl) T.n_len PySem.boot_len (pa_cons (pe_ix ix_list (pv 0) pe_int (fun _ _ => rfl)) pa_nil)) (nomark _))))) (pss_cons (ps_set (i := 2) sc_draw.nd rfl (Or.inl rfl) (pe_callB call_abs (by rfl) T.n_abs (by decide +kernel) (pa_cons (pe_ix ix_list (pe_ix ix_list (pv 0) pe_int (fun _ _ => rfl)) (pe_ix ix_list (pv 0) pe_int (fun _ _ => rfl)) (fun _ _ => rfl)) pa_nil)))
    (pss_cons (ps_asg (pe_op op_add (pe_ix ix_list (pv 0) pe_int (fun _ _ => rfl)) pe_int) (pg_sub (pv 0) pe_int set_list))
    (pss_one (ps_if (pt_cmpR op_ge (pv 2) (pe_op op_pow pe_int pe_int) (nomark _)) (pss_one (ps_asg (pv 2) (pg_sub (pv 0) pe_int set_list))) (pss_one (ps_asg (pe_op op_mod (pe_callTy call_int1 (by rfl) T.n_int (by decide +kernel) (pa_cons (pe_op op_mul (pe_op op_add (pe_op op_add (pe_ix ix_list (pv 0) pe_int (fun _ _ => rfl)) (pv 2)) pe_int) pe_int) pa_nil)) pe_int) (pg_sub (pv 0) pe_int set_list))))))) pss_nil)
    (pss_cons (ps_if (pt_cmpR op_gt (pe_ix ix_list (pv 0) pe_int (fun _ _ => rfl)) pe_int (nomark _)) (pss_cons (ps_set (i := 3) sc_draw.nd rfl (Or.inl rfl) (pe_op op_mod (pe_callTy call_int1 (by rfl) T.n_int (by decide +kernel) (pa_cons (pe_ix ix_list (pv 0) pe_int (fun _ _ => rfl)) pa_nil)) (pv 1)))
    (pss_cons (ps_asg (pe_op op_fdivW (pe_ix ix_list (pv 0) pe_int (fun _ _ => rfl)) (pv 1)) (pg_sub (pv 0) pe_int set_list))
    (pss_one (ps_ret (pv 3))))) pss_nil)
    (pss_cons (ps_set (i := 4) sc_draw.nd rfl (Or.inl rfl) (pe_op op_mod (pe_callTy call_int1 (by rfl) T.n_int (by decide +kernel) (pa_cons (pe_op op_pow (pe_op op_add (pe_ix ix_list (pv 0) pe_int (fun _ _ => rfl)) (pe_op op_mul (pe_ix ix_list (pv 0) pe_int (fun _ _ => rfl)) pe_int)) pe_int) pa_nil)) pe_int))
    (pss_one (ps_ret (pe_op op_mod (pe_callTy call_int1 (by rfl) T.n_int (by decide +kernel) (pa_cons (pe_op op_fdiv (pv 4) pe_int) pa_nil)) (pv 1)))))))), ?_⟩
    -- pool[1] = pool[1] + 1
    refine ⟨_, rfl, p, _, _, _, rfl, rfl, SqL.of hp, rfl, _, _, rfl, rfl, _, rfl, p, _, _, 1, rfl, rfl, hp, rfl, ?_⟩
    have fz : ∀ x, Frz H (upd H p x) := fun x => .upd (nfz_lst hp)
    have hS1 : Scr K (upd H p (.lst ([.ref a, .int n, .int i, .int r, .int m].set 1 (.int (n + 1))))) a ns := hS.keep (fz _)
    -- the test and the draw of a cell: what holds behind it
    refine ⟨fun σ H' => ∃ (c : Option V) (i r m : Int), σ = [some (.ref p), some (.int lim), c, none, none] ∧ Scr K H' a ns ∧ H' p = some (.lst [.ref a, .int (n + 1), .int i, .int r, .int m]) ∧ But p H H' ∧ 0 ≤ i ∧ 0 ≤ r ∧ 0 ≤ m ∧ m < 2147483629, ?_, ?_⟩
    · refine ⟨_, rfl, p, _, _, _, rfl, rfl, SqL.of upd_same, rfl, rfl, _, rfl, ?_⟩
      have keep0 : ∃ (c : Option V) (i' r' m' : Int), (start ["_law_pool_here", "_law_limit", "_law_cell", "_law_digit", "_law_mixed"] [V.ref p, V.int lim]) = [some (.ref p), some (.int lim), c, none, none] ∧ Scr K (upd H p (.lst ([.ref a, .int n, .int i, .int r, .int m].set 1 (.int (n + 1))))) a ns ∧
          (upd H p (.lst ([.ref a, .int n, .int i, .int r, .int m].set 1 (.int (n + 1))))) p = some (.lst [.ref a, .int (n + 1), .int i', .int r', .int m']) ∧ But p H (upd H p (.lst ([.ref a, .int n, .int i, .int r, .int m].set 1 (.int (n + 1))))) ∧ 0 ≤ i' ∧ 0 ≤ r' ∧ 0 ≤ m' ∧ m' < 2147483629 :=
        ⟨none, i, r, m, rfl, hS1, upd_same, But.of, i0, r0, m0, m1⟩
      refine ite2 (fun hr0 => ?_) (fun _ => iteF keep0)
      refine ⟨_, rfl, p, _, _, _, rfl, rfl, SqL.of upd_same, rfl, _, rfl, p, _, _, _, rfl, rfl, SqL.of upd_same, rfl, a, _, rfl, .inl hS1.sq, _, _, rfl, rfl, _, rfl, ?_⟩
      refine ite2 (fun hi => ?_) (fun _ => keep0)
      have hi' : i < ((ns.map V.int).length : Int) := of_decide_eq_true hi
      obtain ⟨v, hv, hm⟩ := ix_there i0 hi'
      obtain ⟨c, hc, rfl⟩ := List.mem_map.mp hm
      -- cell = abs(pool[0][pool[2]])
      refine ⟨_, rfl, p, _, _, _, rfl, rfl, SqL.of upd_same, rfl, _, rfl, p, _, _, _, rfl, rfl, SqL.of upd_same, rfl, a, _, _, _, rfl, rfl, hS1.sq, hv, _, rfl, ?_⟩
      -- pool[2] = pool[2] + 1
      refine ⟨_, rfl, p, _, _, _, rfl, rfl, SqL.of upd_same, rfl, _, _, rfl, rfl, _, rfl, p, _, _, 2, rfl, rfl, upd_same, rfl, ?_⟩
      rw [upd_upd]
      have c0 : 0 ≤ (if c < 0 then -c else c) := by split <;> omega
      generalize (if c < 0 then -c else c) = z at c0 ⊢
      -- if cell >= 10 ** 18
      refine ⟨_, rfl, _, _, rfl, rfl, ⟨by decide, by decide, by decide⟩, _, _, rfl, rfl, _, rfl, ?_⟩
      refine ite2 (fun hz => ?_) (fun hz => ?_)
      · refine ⟨_, rfl, _, rfl, p, _, _, 3, rfl, rfl, upd_same, rfl, ?_⟩
        rw [upd_upd]
        exact ⟨_, i + 1, z, m, rfl, hS.keep (fz _), upd_same, But.of, by omega, by omega, m0, m1⟩
      · have hz' : z < 1000000000000000000 := by
          have q : ¬ ((10 : Int) ^ (18 : Int).toNat ≤ z) := fun y => hz (decide_eq_true y)
          have e : (10 : Int) ^ (18 : Int).toNat = 1000000000000000000 := by decide
          rw [e] at q
          omega
        refine ⟨_, rfl, p, _, _, _, rfl, rfl, SqL.of upd_same, rfl, _, rfl, _, _, rfl, rfl, _, _, rfl, rfl, _, _, rfl, rfl, .inl ⟨by omega, by omega⟩, .inl ⟨_, rfl, ?_⟩⟩
        refine ⟨_, _, rfl, rfl, (by show (0 : Int) < 2147483629; decide), _, rfl, p, _, _, 4, rfl, rfl, upd_same, rfl, ?_⟩
        rw [upd_upd]
        exact ⟨_, i + 1, r, _, rfl, hS.keep (fz _), upd_same, But.of, by omega, r0, Int.emod_nonneg _ (by decide), Int.emod_lt_of_pos _ (by decide)⟩
    · rintro σ H2 ⟨c, i, r, m, rfl, hS2, hp2, bt, i0, r0, m0, m1⟩
      -- if pool[3] > 0
      refine ⟨_, rfl, p, _, _, _, rfl, rfl, SqL.of hp2, rfl, _, _, rfl, rfl, _, rfl, ?_⟩
      refine ite2 (fun hg => ?_) (fun _ => ?_)
      · refine ⟨_, rfl, p, _, _, _, rfl, rfl, SqL.of hp2, rfl, .inl ⟨_, rfl, ?_⟩⟩
        refine ⟨_, rfl, _, _, rfl, rfl, l0, ?_⟩
        refine ⟨_, rfl, p, _, _, _, rfl, rfl, SqL.of hp2, rfl, _, rfl, _, _, rfl, rfl, wide_div l0 l1 (by decide) (by decide), _, rfl, p, _, _, 3, rfl, rfl, hp2, rfl, ?_⟩
        refine ⟨_, rfl, ?_⟩
        exact k _ _ (Int.emod_nonneg _ (by omega)) (Int.emod_lt_of_pos _ l0) ⟨a, ns, n + 1, i, r / lim, m, hS2.keep (.upd (nfz_lst hp2)), upd_same, by omega, by omega, i0, Int.ediv_nonneg r0 (by omega), m0, m1⟩ (bt.trans But.of)
      · -- mixed = int((pool[4] + pool[1] * 7919) ** 3) mod 2147483647
        refine ⟨_, rfl, p, _, _, _, rfl, rfl, SqL.of hp2, rfl, _, rfl, p, _, _, _, rfl, rfl, SqL.of hp2, rfl, _, _, rfl, rfl, .inl ⟨by omega, by omega⟩, _, _, rfl, rfl, _, _, rfl, rfl, ⟨by decide, by decide, by omega⟩, .inl ⟨_, rfl, ?_⟩⟩
        refine ⟨_, _, rfl, rfl, (by show (0 : Int) < 2147483647; decide), ?_⟩
        refine ⟨_, rfl, _, _, rfl, rfl, ⟨by decide, by decide⟩, .inl ⟨_, rfl, ?_⟩⟩
        refine ⟨_, rfl, _, _, rfl, rfl, l0, ?_⟩
        exact k _ _ (Int.emod_nonneg _ (by omega)) (Int.emod_lt_of_pos _ l0) ⟨a, ns, n + 1, i, r, m, hS2, hp2, by omega, by omega, i0, r0, m0, m1⟩ bt
end
section
variable {P : Program} {w : World} {K : PySem.W.Frag} {mg : Str → Option Value} {base : Heap}

theorem units65 {k : Nat} {A : Around} (r : Room k A) : A.units + 65 < cLine := by have := r.un; omega
theorem But.one {p : Addr} {H H' : Hp} (b : But p H H') : But1 p H H' := fun c o n e => (b.1 c n).trans e
theorem But1.refl (p : Addr) (H : Hp) : But1 p H H := fun _ _ _ e => e
theorem But1.new {p q : Addr} {H H' : Hp} {x : HO} (b : But1 p H H') (n : H q = none) : But1 p H (upd H' q x) := fun c o nc e => by
  rw [upd_ne (ne_of_none e n)]
  exact b c o nc e
theorem But1.none {p q : Addr} {H H' : Hp} (b : But1 p H H') (n : H' q = none) (ne : q ≠ p) : H q = none := by
  cases h : H q with
  | none => rfl
  | some o =>
    rw [b q o ne h] at n
    cases n
theorem PoolAt.lst {K : PySem.W.Frag} {H : Hp} {p : Addr} {b : Nat} (h : PoolAt K H p b) : ∃ xs, H p = some (.lst xs) := by
  obtain ⟨a, ns, n, i, r, m, h1, h2, h3⟩ := h
  exact ⟨_, h2⟩
/-- the pairs of a list: each a tuple -/
abbrev eR (L : List (Addr × Edge)) : List V := L.map fun p => V.ref p.1
structure EdT (H : Hp) (ea : Addr) (L : List (Addr × Edge)) : Prop where
  at_ : H ea = some (.lst (eR L))
  tup : ∀ p ∈ L, H p.1 = some (.tup [.int p.2.1, .int p.2.2])
theorem EdT.edges {H : Hp} {ea : Addr} {L : List (Addr × Edge)} (h : EdT H ea L) : EdgesAt H ea L := ⟨h.at_, fun p hp => .inr (h.tup p hp)⟩
theorem EdT.same {H H' : Hp} {ea : Addr} {L : List (Addr × Edge)} (h : EdT H ea L) (s : Same H H') : EdT H' ea L := ⟨s _ _ h.at_, fun p hp => s _ _ (h.tup p hp)⟩
theorem EdT.new {H : Hp} {ea q : Addr} {L : List (Addr × Edge)} {x : HO} (h : EdT H ea L) (n : H q = none) : EdT (upd H q x) ea L := h.same (same_upd (Same.refl H) n)
theorem EdT.but {K : PySem.W.Frag} {H H' : Hp} {p ea : Addr} {b : Nat} {L : List (Addr × Edge)} (h : EdT H ea L) (P : PoolAt K H p b) (s : But1 p H H') (ne : ea ≠ p) : EdT H' ea L := by
  obtain ⟨xs, hp⟩ := P.lst
  exact ⟨s _ _ ne h.at_, fun q hq => s _ _ (ne_of (h.tup q hq) hp (by intro z; cases z)) (h.tup q hq)⟩
theorem EdT.set {H : Hp} {ea q : Addr} {L : List (Addr × Edge)} {xs ys : List V} (h : EdT H ea L) (hq : H q = some (.lst xs)) (ne : ea ≠ q) : EdT (upd H q (.lst ys)) ea L :=
  ⟨by rw [upd_ne ne]; exact h.at_, fun r hr => by rw [upd_ne (ne_of (h.tup r hr) hq (by intro z; cases z))]; exact h.tup r hr⟩
theorem EdT.ins {H : Hp} {ea tp : Addr} {L : List (Addr × Edge)} {i : Nat} {u v : Int} (h : EdT H ea L) (ht : H tp = some (.tup [.int u, .int v])) :
    EdT (upd H ea (.lst ((eR L).take i ++ [.ref tp] ++ (eR L).drop i))) ea (L.take i ++ [(tp, (u, v))] ++ L.drop i) := by
  refine ⟨?_, fun r hr => ?_⟩
  · rw [upd_same]
    unfold eR
    rw [List.map_append, List.map_append, List.map_take, List.map_drop]
    rfl
  · have hr' := (perm_ins L i (tp, (u, v))).mem_iff.mp hr
    rcases List.mem_cons.mp hr' with rfl | hr'
    · rw [upd_ne (ne_of ht h.at_ (by intro z; cases z))]
      exact ht
    · rw [upd_ne (ne_of (h.tup r hr') h.at_ (by intro z; cases z))]
      exact h.tup r hr'
theorem EdT.app {H : Hp} {la lb p : Addr} {L M : List (Addr × Edge)} (h : EdT H la L) (k : EdT H lb M) (n : H p = none) : EdT (upd H p (.lst (eR L ++ eR M))) p (L ++ M) := by
  refine ⟨by rw [upd_same]; unfold eR; rw [List.map_append], fun q hq => ?_⟩
  rcases List.mem_append.mp hq with hq | hq
  · rw [upd_ne (ne_of_none (h.tup q hq) n)]
    exact h.tup q hq
  · rw [upd_ne (ne_of_none (k.tup q hq) n)]
    exact k.tup q hq
theorem size_le {α : Type} {l : List α} {n : Nat} (h : l.length ≤ n) (hn : n ≤ sizeLine := by decide) : l.length ≤ sizeLine := Nat.le_trans h hn
theorem pairs_ins (L : List (Addr × Edge)) (i : Nat) (x : Addr × Edge) : (pairs (L.take i ++ [x] ++ L.drop i)).Perm (x.2 :: pairs L) := (perm_ins L i x).map _
theorem len_ins {α : Type} (L : List α) (i : Nat) (x : α) : (L.take i ++ [x] ++ L.drop i).length = L.length + 1 := (perm_ins L i x).length_eq
theorem ints_ins (l : List Int) (i : Nat) (x : Int) : (l.map V.int).take i ++ [V.int x] ++ (l.map V.int).drop i = (l.take i ++ [x] ++ l.drop i).map V.int := by
  rw [List.map_append, List.map_append, List.map_take, List.map_drop]
  rfl
theorem any_pairs (q : Edge) (l : List Edge) : ((l.map dP).any fun z => PyData.eqv z (dP q)) = decide (q ∈ l) := by
  induction l with
  | nil => rfl
  | cons a r ih =>
    rw [List.map_cons, List.any_cons, ih, eqv_pair, Bool.eq_iff_iff, Bool.or_eq_true, decide_eq_true_iff, decide_eq_true_iff, decide_eq_true_iff, List.mem_cons]
    exact ⟨fun z => z.elim (fun z => .inl z.symm) .inr, fun z => z.elim (fun z => .inl z.symm) .inr⟩
theorem shaped_lpairs (as : List (Int × Int)) : SeqAt.shaped (.list (as.map dP)) = true := by
  unfold SeqAt.shaped
  have e : (PyData.list (as.map dP)).canLay0 = true := lay_pairs as
  have d : (PyData.list (as.map dP)).depth ≤ 64 := by
    have h2 := depth_pairs as
    simp only [PyData.depth]
    omega
  rw [e, decide_eq_true d]
  rfl
theorem shaped_lints (as : List Int) : SeqAt.shaped (.list (as.map PyData.int)) = true := by
  unfold SeqAt.shaped
  have e : (PyData.list (as.map PyData.int)).canLay0 = true := lay_ints as
  have d : (PyData.list (as.map PyData.int)).depth ≤ 64 := by
    have h2 := depth_ints as
    simp only [PyData.depth]
    omega
  rw [e, decide_eq_true d]
  rfl
/-- what _law_web tells -/
structure Told (H : Hp) (t : Addr) (n : Int) (L : List (Addr × Edge)) (e : Int) (gs : List Int) (pa ga : Addr) : Prop where
  at_ : H t = some (.tup [.int n, .ref pa, .int e, .ref ga])
  ed : EdT H pa L
  go : H ga = some (.lst (gs.map V.int))
theorem Told.same {H H' : Hp} {t : Addr} {n : Int} {L : List (Addr × Edge)} {e : Int} {gs : List Int} {pa ga : Addr} (h : Told H t n L e gs pa ga) (s : Same H H') : Told H' t n L e gs pa ga := ⟨s _ _ h.at_, h.ed.same s, s _ _ h.go⟩
def spDrawWeb (K : PySem.W.Frag) : Sp := fun vs H Q _ => ∃ (p : Addr) (b : Nat) (mo ex : Int), vs = [.ref p, .int mo, .int ex] ∧ PoolAt K H p b ∧ 2000 ≤ b ∧ 1 ≤ mo ∧ mo ≤ 24 ∧ 0 ≤ ex ∧ 2 * mo + ex < 60 ∧
  ∀ (H' : Hp) (t : Addr) (n : Int) (L : List (Addr × Edge)) (e : Int) (gs : List Int) (pa ga : Addr), But1 p H H' → PoolAt K H' p (b - 2000) → Told H' t n L e gs pa ga → Good n (pairs L) e gs → gs.Nodup → n ≤ mo → (L.length : Int) ≤ 2 * mo + ex → pa ≠ p → ga ≠ p → H pa = none → H ga = none → H t = none → Q (.ref t) H'
def spAhead : Sp := fun vs H Q _ => ∃ (pa ga : Addr) (L : List (Addr × Edge)) (gs : List Int), vs = [.ref pa, .ref ga] ∧ EdgesAt H pa L ∧ H ga = some (.lst (gs.map V.int)) ∧ L.length < 1000 ∧ gs.length < 1000 ∧
  ∀ (H' : Hp) (m : Addr) (ms : List Int), Same H H' → H' m = some (.lst (ms.map V.int)) → (∀ v, v ∈ ms ↔ ∃ g ∈ gs, Reach (pairs L) v g) → Q (.ref m) H'
abbrev s_ahead : Stmt := top 27
theorem sc_ahead : FnScope ["_law_pairs", "_law_goals", "_law_met", "_law_turn", "_law_one", "_law_two"] ["_law_pairs", "_law_goals"] (defScope s_ahead) := ⟨rfl, rfl, rfl, by decide +kernel, rfl, by decide +kernel, by decide +kernel⟩
theorem ok_ahead {fd : FuncData} (F : FunD K "_law_ahead" "_law_ahead" (defArgs s_ahead) (defBody s_ahead) (defScope s_ahead) [] [] (He.ga K "_law_ahead") fd) (T : TxX K mg) : FnOk P w K mg base CX0 1 (He.ga K "_law_ahead") fd ["_law_pairs", "_law_goals"] spAhead := by
  refine F.ok sc_ahead (fun vs H Q E h => by obtain ⟨pa, ga, L, gs, rfl, _⟩ := h; rfl) (fun cdv A outer s H vs Q E hr h => ?_)
  obtain ⟨pa, ga, L, gs, rfl, hE, hG, l1, l2, q⟩ := h
  refine ⟨_, PSs.nox (pss_cons (ps_set (i := 2) sc_ahead.nd rfl (Or.inl rfl) (pe_callTy call_list_of (by rfl) T.n_list (by decide +kernel) (pa_cons (pv 1) pa_nil)))
    (pss_cons (ps_for PassesOwn.never rfl (pi_range1 rfl T.n_range (pa_cons (pe_callB call_len_seq (by rfl) T.n_len PySem.boot_len (pa_cons (pv 0) pa_nil)) pa_nil)) (pg_name (i := 3) sc_ahead.nd rfl (Or.inl rfl))
      (pss_one (ps_for PassesOwn.never rfl (pi_list (pv 0)) (pg_seq rfl (pgs_cons (pg_name (i := 4) sc_ahead.nd rfl (Or.inl rfl)) (pgs_cons (pg_name (i := 5) sc_ahead.nd rfl (Or.inl rfl)) pgs_nil)))
      (pss_one (ps_if (PW.pt (pw_and (pt_cmpR op_in_seq (pv 5) (pv 2) (by first | exact nomark _ | rfl)) (pw_and1 (pt_cmpR op_notIn_seq (pv 4) (pv 2) (by first | exact nomark _ | rfl))))) (pss_one (ps_expr (pe_bm PySem.F.plainAttrs_list PySem.F.slot_list_append PySem.F.type_list_append mt_append (pv 2) (pa_cons (pv 4) pa_nil)))) pss_nil)))))
    (pss_one (ps_ret (pv 2))))), ?_⟩
  have lp : (pairs L).length = L.length := List.length_map ..
  refine ⟨_, rfl, ga, _, rfl, .inl (SqL.of hG), fun m hm => ?_⟩
  refine ⟨_, rfl, pa, _, rfl, .inl (SqL.of ((same_upd (Same.refl H) hm) _ _ hE.1)), ?_⟩
  rw [List.length_map]
  refine ⟨_, rfl, by omega, by omega, for_range (lo := 0) (n := L.length) (fun i σ' H' => ∃ (v3 v4 v5 : Option V) (ad ms : List Int), σ' = [some (.ref pa), some (.ref ga), some (.ref m), v3, v4, v5] ∧ Same H H' ∧ H' m = some (.lst (ms.map V.int)) ∧ Turns (pairs L) gs i ad ms)
    ⟨none, none, none, [], gs, rfl, same_upd (Same.refl H) hm, upd_same, Met.start _ _, .inr (Nat.le_refl _)⟩ ?_ ?_⟩
  · rintro i σ1 H1 hi ⟨v3, v4, v5, ad, ms, rfl, s1, hm1, T1⟩
    refine ⟨_, rfl, pa, rfl, ⟨_, SqL.of (s1 _ _ hE.1)⟩, for_list (K := K) (a := pa) (xs := L.map fun p => V.ref p.1) (fun j σ' H' => ∃ (v4 v5 : Option V) (ad' ms' : List Int), σ' = [some (.ref pa), some (.ref ga), some (.ref m), some (.int (0 + (i : Nat))), v4, v5] ∧ Same H H' ∧ H' m = some (.lst (ms'.map V.int)) ∧ Turn (pairs L) gs ad ms j ad' ms')
      ⟨v4, v5, ad, ms, rfl, s1, hm1, Turn.start T1.met⟩ (fun j σ' H' _ h => by obtain ⟨_, _, _, _, _, s, _⟩ := h; exact SqL.of (s _ _ hE.1)) ?_ ?_⟩
    · rintro j x σ2 H2 hj ⟨v4, v5, ad', ms', rfl, s2, hm2, t2⟩
      obtain ⟨t, u, z, rfl, hLi, he, hpi⟩ := edge_at hE hj
      refine ⟨t, _, rfl, (he.same s2).sq, rfl, _, _, rfl, _, _, rfl, rfl, ?_⟩
      refine ⟨_, rfl, _, rfl, m, _, rfl, .inl (SqL.of hm2), rfl, flat_ints ms', _, rfl, ?_⟩
      show if inV (V.int z) (ms'.map V.int) = true then _ else _
      rw [inV_ints]
      by_cases hz : z ∈ ms'
      case neg =>
        rw [decide_eq_false hz]
        exact iteF ⟨_, _, ad', ms', rfl, s2, hm2, t2.skip hpi (.inl hz)⟩
      rw [decide_eq_true hz]
      refine iteT ?_
      refine ⟨_, rfl, _, rfl, m, _, rfl, .inl (SqL.of hm2), rfl, flat_ints ms', _, rfl, ?_⟩
      show if (!inV (V.int u) (ms'.map V.int)) = true then _ else _
      rw [inV_ints]
      by_cases hu : u ∈ ms'
      · rw [decide_eq_true hu]
        exact iteF ⟨_, _, ad', ms', rfl, s2, hm2, t2.skip hpi (.inr hu)⟩
      rw [decide_eq_false hu]
      refine iteT ?_
      have lad := t2.met.len
      have w5 : (ms'.map V.int).length < sizeLine := by
        rw [List.length_map, t2.met.eq, List.length_append]
        exact Nat.lt_of_le_of_lt (show gs.length + ad'.length ≤ 2000 by omega) (by decide)
      refine ⟨_, rfl, .inl ⟨rfl, _, SqL.of hm2⟩, _, rfl, m, _, _, rfl, rfl, hm2, w5, ?_⟩
      refine ⟨_, _, ad' ++ [u], ms' ++ [u], rfl, fun b o e => ?_, by rw [upd_same, List.map_append]; rfl, t2.put T1.met.eq hpi hz hu⟩
      rw [upd_ne (ne_of_none e hm)]
      exact s2 b o e
    · rintro σ2 H2 ⟨v4, v5, ad', ms', rfl, s2, hm2, t2⟩
      rw [List.length_map, ← lp] at t2
      exact ⟨_, v4, v5, ad', ms', rfl, s2, hm2, T1.next t2⟩
  · rintro σ1 H1 ⟨v3, v4, v5, ad, ms, rfl, s1, hm1, T1⟩
    rw [← lp] at T1
    exact ⟨_, rfl, q H1 m ms s1 hm1 (T1.met.all T1.end_)⟩
abbrev s_web : Stmt := top 28
theorem sc_web : FnScope ["_law_pool_here", "_law_most", "_law_extra", "_law_count", "_law_order", "_law_place", "_law_pairs", "_law_k", "_law_pair", "_law_goals"] ["_law_pool_here", "_law_most", "_law_extra"] (defScope s_web) := ⟨rfl, rfl, rfl, by decide +kernel, rfl, by decide +kernel, by decide +kernel⟩
theorem ok_web {fd : FuncData} (F : FunD K "_law_web" "_law_web" (defArgs s_web) (defBody s_web) (defScope s_web) [] [] (He.ga K "_law_web") fd) (T : TxX K mg) (d_draw : Okd P w K mg base CX0 1 (He.ga K "_law_draw") ["_law_pool_here", "_law_limit"] (spDraw K)) (d_ahead : Okd P w K mg base CX0 1 (He.ga K "_law_ahead") ["_law_pairs", "_law_goals"] spAhead) : FnOk P w K mg base CX0 2 (He.ga K "_law_web") fd ["_law_pool_here", "_law_most", "_law_extra"] (spDrawWeb K) := by
  obtain ⟨fd_draw, G_draw, b_draw⟩ := d_draw
  obtain ⟨fd_ahead, G_ahead, b_ahead⟩ := d_ahead
  refine F.ok sc_web (fun vs H Q E h => by obtain ⟨p, b, mo, ex, rfl, _⟩ := h; rfl) (fun cdv A outer s H vs Q E hr h => ?_)
  obtain ⟨p, b, mo, ex, rfl, P, hb, m1, m2, x0, mx, q⟩ := h
  refine ⟨_, PSs.nox (pss_cons (ps_set (i := 3) sc_web.nd rfl (Or.inl rfl) (pe_op op_add pe_int (pe_call G_draw (hr.mono (by decide)) (by rfl) T.g__law_draw T.k__law_draw b_draw .nil pass0 (pa_cons (pv 0) (pa_cons (pv 1) pa_nil)))))
    (pss_cons (ps_set (i := 4) sc_web.nd rfl (Or.inl rfl) (pe_lst pa_nil))
    (pss_cons (ps_for PassesOwn.never rfl (pi_range1 rfl T.n_range (pa_cons (pv 3) pa_nil)) (pg_name (i := 5) sc_web.nd rfl (Or.inl rfl))
      (pss_one (ps_expr (pe_bm PySem.F.plainAttrs_list PySem.F.slot_list_insert PySem.F.type_list_insert mt_insert (pv 4) (pa_cons (pe_call G_draw (hr.mono (by decide)) (by rfl) T.g__law_draw T.k__law_draw b_draw .nil pass0 (pa_cons (pv 0) (pa_cons (pe_op op_add (pv 5) pe_int) pa_nil))) (pa_cons (pv 5) pa_nil))))))
    (pss_cons (ps_set (i := 6) sc_web.nd rfl (Or.inl rfl) (pe_lst pa_nil))
    (pss_cons (ps_for PassesOwn.never rfl (pi_range2 rfl T.n_range (pa_cons pe_int (pa_cons (pv 3) pa_nil))) (pg_name (i := 7) sc_web.nd rfl (Or.inl rfl))
      (pss_one (ps_expr (pe_bm PySem.F.plainAttrs_list PySem.F.slot_list_insert PySem.F.type_list_insert mt_insert (pv 6) (pa_cons (pe_call G_draw (hr.mono (by decide)) (by rfl) T.g__law_draw T.k__law_draw b_draw .nil pass0 (pa_cons (pv 0) (pa_cons (pv 7) pa_nil))) (pa_cons (pe_tup (pa_cons (pe_ix ix_list (pv 4) (pe_call G_draw (hr.mono (by decide)) (by rfl) T.g__law_draw T.k__law_draw b_draw .nil pass0 (pa_cons (pv 0) (pa_cons (pv 7) pa_nil))) (fun _ _ => rfl)) (pa_cons (pe_ix ix_list (pv 4) (pv 7) (fun _ _ => rfl)) pa_nil))) pa_nil))))))
    (pss_cons (ps_for PassesOwn.never rfl (pi_range1 rfl T.n_range (pa_cons (pe_call G_draw (hr.mono (by decide)) (by rfl) T.g__law_draw T.k__law_draw b_draw .nil pass0 (pa_cons (pv 0) (pa_cons (pe_op op_add (pv 2) pe_int) pa_nil))) pa_nil)) (pg_name (i := 7) sc_web.nd rfl (Or.inl rfl))
      (pss_cons (ps_set (i := 8) sc_web.nd rfl (Or.inl rfl) (pe_tup (pa_cons (pe_call G_draw (hr.mono (by decide)) (by rfl) T.g__law_draw T.k__law_draw b_draw .nil pass0 (pa_cons (pv 0) (pa_cons (pv 3) pa_nil))) (pa_cons (pe_call G_draw (hr.mono (by decide)) (by rfl) T.g__law_draw T.k__law_draw b_draw .nil pass0 (pa_cons (pv 0) (pa_cons (pv 3) pa_nil))) pa_nil))))
    (pss_one (ps_if (pt_cmpR (op_notInD (units65 hr)) (pv 8) (pv 6) (by first | exact nomark _ | rfl)) (pss_one (ps_expr (pe_bm PySem.F.plainAttrs_list PySem.F.slot_list_insert PySem.F.type_list_insert mt_insert (pv 6) (pa_cons (pe_call G_draw (hr.mono (by decide)) (by rfl) T.g__law_draw T.k__law_draw b_draw .nil pass0 (pa_cons (pv 0) (pa_cons (pe_op op_add (pe_callB call_len_seq (by rfl) T.n_len PySem.boot_len (pa_cons (pv 6) pa_nil)) pe_int) pa_nil))) (pa_cons (pv 8) pa_nil))))) pss_nil))))
    (pss_cons (ps_setLc (i := 9) (own := [("_law_place", 5)]) (g := gName 5)  rfl sc_web.nd rfl rfl (sw_true rfl rfl rfl (by decide +kernel)) (pi_range1 rfl T.n_range (pa_cons (pv 3) pa_nil)) (blkOk_by (own := [("_law_place", 5)]) (N := ["_law_pool_here", "_law_most", "_law_extra", "_law_count", "_law_order", "_law_place", "_law_pairs", "_law_k", "_law_pair", "_law_goals"]) (sc := defScope s_web) (by decide +kernel)) (fun _ _ _ _ _ => (pg_name (i := 5) sc_web.nd rfl (Or.inl rfl))) (fun _ _ _ _ _ => (pts_one (pt_cmpR op_eq (pe_call G_draw (hr.mono (by decide)) (by rfl) T.g__law_draw T.k__law_draw b_draw .nil pass0 (pa_cons (pv 0) (pa_cons pe_int pa_nil))) pe_int (nomark _)))) (fun _ _ _ _ _ => (pv 5)))
    (C8.pss_cut (ps_if (pt_cmpR (op_eqD hr.units) (pv 9) (pe_lst pa_nil) (nomark _)) (pss_one (ps_set (i := 9) sc_web.nd rfl (Or.inl rfl) (pe_lst (pa_cons (pe_call G_draw (hr.mono (by decide)) (by rfl) T.g__law_draw T.k__law_draw b_draw .nil pass0 (pa_cons (pv 0) (pa_cons (pv 3) pa_nil))) pa_nil)))) pss_nil)
    (pss_cons (ps_for PassesOwn.never rfl (pi_range1 rfl T.n_range (pa_cons (pv 3) pa_nil)) (pg_name (i := 5) sc_web.nd rfl (Or.inl rfl))
      (pss_one (ps_if (pt_cmpR op_notIn_seq (pv 5) (pe_call G_ahead (hr.mono (by decide)) (by rfl) T.g__law_ahead T.k__law_ahead b_ahead .nil pass0 (pa_cons (pv 6) (pa_cons (pv 9) pa_nil))) (by first | exact nomark _ | rfl)) (pss_one (ps_if (pt_cmpR op_eq (pe_call G_draw (hr.mono (by decide)) (by rfl) T.g__law_draw T.k__law_draw b_draw .nil pass0 (pa_cons (pv 0) (pa_cons pe_int pa_nil))) pe_int (nomark _)) (pss_one (ps_expr (pe_bm PySem.F.plainAttrs_list PySem.F.slot_list_insert PySem.F.type_list_insert mt_insert (pv 6) (pa_cons (pe_call G_draw (hr.mono (by decide)) (by rfl) T.g__law_draw T.k__law_draw b_draw .nil pass0 (pa_cons (pv 0) (pa_cons (pe_op op_add (pe_callB call_len_seq (by rfl) T.n_len PySem.boot_len (pa_cons (pv 6) pa_nil)) pe_int) pa_nil))) (pa_cons (pe_tup (pa_cons (pv 5) (pa_cons (pe_ix ix_list (pv 9) (pe_call G_draw (hr.mono (by decide)) (by rfl) T.g__law_draw T.k__law_draw b_draw .nil pass0 (pa_cons (pv 0) (pa_cons (pe_callB call_len_seq (by rfl) T.n_len PySem.boot_len (pa_cons (pv 9) pa_nil)) pa_nil))) (fun _ _ => rfl)) pa_nil))) pa_nil))))) (pss_one (ps_expr (pe_bm PySem.F.plainAttrs_list PySem.F.slot_list_insert PySem.F.type_list_insert mt_insert (pv 9) (pa_cons (pe_call G_draw (hr.mono (by decide)) (by rfl) T.g__law_draw T.k__law_draw b_draw .nil pass0 (pa_cons (pv 0) (pa_cons (pe_op op_add (pe_callB call_len_seq (by rfl) T.n_len PySem.boot_len (pa_cons (pv 9) pa_nil)) pe_int) pa_nil))) (pa_cons (pv 5) pa_nil))))))) pss_nil)))
    (pss_one (ps_ret (pe_tup (pa_cons (pv 3) (pa_cons (pv 6) (pa_cons (pe_ix ix_list (pv 4) pe_int (fun _ _ => rfl)) (pa_cons (pv 9) pa_nil)))))))))))))))), ?_⟩
  have small : ∀ {z : Int}, 0 ≤ z → z ≤ 1000 → z.natAbs < 2 ^ 200 := fun {z} h0 h1 => Nat.lt_of_le_of_lt (show z.natAbs ≤ 1000 by omega) (by decide)
  -- the number of places
  refine ⟨_, rfl, _, rfl, p, b - 1, mo, rfl, P.less (by omega), by omega, small (by omega) (by omega), fun H1 d d0 d1 P1 B1 => ?_⟩
  refine ⟨_, _, rfl, rfl, ?_⟩
  have n1 : 1 ≤ (1 + d).toNat := by omega
  have n2 : (1 + d).toNat ≤ 24 := by omega
  have n3 : ((1 + d).toNat : Int) = 1 + d := by omega
  have b1 : But1 p H H1 := B1.one
  -- the order
  refine ⟨(by show 0 ≤ sizeLine; decide), fun oa hoa => ?_⟩
  have hop : oa ≠ p := P1.ne_new hoa
  have ho0 : H oa = none := b1.none hoa hop
  refine ⟨_, rfl, 1 + d, rfl, by omega, by omega, for_range (lo := 0) (n := (1 + d).toNat) (fun i σ' H' => ∃ (v5 : Option V) (o : List Int), σ' = [some (.ref p), some (.int mo), some (.int ex), some (.int (1 + d)), some (.ref oa), v5, none, none, none, none] ∧ But1 p H H' ∧ PoolAt K H' p (b - 1 - i) ∧ H' oa = some (.lst (o.map V.int)) ∧ Ord i o)
    ⟨none, [], rfl, b1.new ho0, P1.new hoa, upd_same, Ord.zero⟩ ?_ ?_⟩
  · rintro i σ1 H2 hi ⟨v5, o, rfl, b2, P2, ho, O⟩
    refine ⟨_, rfl, .inl ⟨rfl, _, SqL.of ho⟩, ?_⟩
    refine ⟨_, rfl, _, rfl, _, _, rfl, rfl, p, b - 1 - i - 1, _, rfl, P2.less (by omega), by omega, small (by omega) (by omega), fun H3 d3 e0 e1 P3 B3 => ?_⟩
    have ho3 := B3.one oa _ hop ho
    refine ⟨_, rfl, oa, _, d3, _, rfl, rfl, ho3, ?_, e0, by omega, ?_⟩
    · rw [List.length_map, O.len]
      exact Nat.lt_of_le_of_lt (show i ≤ 24 by omega) (by decide)
    · refine ⟨_, o.take d3.toNat ++ [(i : Int)] ++ o.drop d3.toNat, rfl, (b2.trans B3.one).new ho0, (P3.less (by omega)).set ho3 hop, ?_, O.next (perm_ins o _ _)⟩
      rw [upd_same, ← ints_ins, show (0 + (i : Int)) = (i : Int) by omega]
  rintro σ1 H2 ⟨v5, o, rfl, b2, P2, ho, O⟩
  obtain ⟨e, ho0'⟩ : ∃ e, o[0]? = some e := by
    have := O.len
    cases o with
    | nil => simp at this; omega
    | cons a r => exact ⟨a, rfl⟩
  -- the pairs
  refine ⟨(by show 0 ≤ sizeLine; decide), fun pa hpa => ?_⟩
  have hpp : pa ≠ p := P2.ne_new hpa
  have hp0 : H pa = none := b2.none hpa hpp
  have hpo : oa ≠ pa := ne_of_none ho hpa
  refine ⟨_, rfl, 1, 1 + d, rfl, ⟨by omega, by omega, by omega, by omega⟩, for_range (lo := 1) (n := ((1 + d) - 1).toNat) (fun i σ' H' => ∃ (v7 : Option V) (L : List (Addr × Edge)), σ' = [some (.ref p), some (.int mo), some (.int ex), some (.int (1 + d)), some (.ref oa), v5, some (.ref pa), v7, none, none] ∧ But1 p H H' ∧ PoolAt K H' p (b - 100 - 2 * i) ∧ H' oa = some (.lst (o.map V.int)) ∧ EdT H' pa L ∧ Span (1 + d).toNat (1 + i) o e (pairs L))
    ⟨none, [], rfl, b2.new hp0, (P2.less (by omega)).new hpa, by rw [upd_ne hpo]; exact ho, ⟨upd_same, fun _ z => nomatch z⟩, Span.one ho0'⟩ ?_ ?_⟩
  · rintro i σ1 H3 hi ⟨v7, L, rfl, b3, P3, ho3, E3, S⟩
    have lL : L.length + 1 = 1 + i := by have := S.len; rw [List.length_map] at this; exact this
    refine ⟨_, rfl, .inl ⟨rfl, _, SqL.of E3.at_⟩, ?_⟩
    refine ⟨_, rfl, _, rfl, p, b - 100 - 2 * i - 1, _, rfl, P3.less (by omega), by omega, small (by omega) (by omega), fun H4 d4 e0 e1 P4 B4 => ?_⟩
    have ho4 := B4.one oa _ hop ho3
    have E4 := E3.but P3 B4.one hpp
    refine ⟨_, rfl, _, rfl, _, rfl, p, b - 100 - 2 * i - 2, _, rfl, P4.less (by omega), by omega, small (by omega) (by omega), fun H5 d5 f0 f1 P5 B5 => ?_⟩
    have ho5 := B5.one oa _ hop ho4
    have E5 := E4.but P4 B5.one hpp
    have la : d5.toNat < o.length := by rw [O.len]; omega
    have lc : 1 + i < o.length := by rw [O.len]; omega
    have ea : o[d5.toNat]? = some o[d5.toNat] := List.getElem?_eq_getElem la
    have ec : o[1 + i]? = some o[1 + i] := List.getElem?_eq_getElem lc
    have nat : ∀ {z : Int} {v : Int}, 0 ≤ z → o[z.toNat]? = some v → atI (o.map V.int) z = some (.int v) := fun {z v} h0 h => by
      have y : (o.map V.int)[z.toNat]? = some (.int v) := by rw [List.getElem?_map, h]; rfl
      have x := atI_nat y
      rw [Int.toNat_of_nonneg h0] at x
      exact x
    refine ⟨oa, _, d5, .int o[d5.toNat], rfl, rfl, SqL.of ho5, nat f0 ea, _, rfl, _, rfl, oa, _, _, .int o[1 + i], rfl, rfl, SqL.of ho5, nat (by omega) (by rw [show (1 + (i : Int)).toNat = 1 + i by omega]; exact ec), (by show 2 ≤ sizeLine; decide), fun tp ht => ?_⟩
    have E6 := E5.new (x := .tup [.int o[d5.toNat], .int o[1 + i]]) ht
    have ht0 : H tp = none := ((b3.trans B4.one).trans B5.one).none ht (P5.ne_new ht)
    refine ⟨pa, _, d4, _, rfl, rfl, E6.at_, ?_, e0, by omega, ?_⟩
    · rw [List.length_map]
      exact Nat.lt_of_le_of_lt (show L.length ≤ 100 by omega) (by decide)
    · refine ⟨_, L.take d4.toNat ++ [(tp, (o[d5.toNat], o[1 + i]))] ++ L.drop d4.toNat, rfl, (((b3.trans B4.one).trans B5.one).new ht0).new hp0, ((P5.less (by omega)).new ht).set E6.at_ hpp, ?_, E6.ins upd_same, S.next O (by omega) ea ec (pairs_ins L _ _)⟩
      rw [upd_ne hpo, upd_ne (ne_of_none ho5 ht)]
      exact ho5
  rintro σ1 H3 ⟨v7, L, rfl, b3, P3, ho3, E3, S⟩
  rw [show 1 + ((1 + d) - 1).toNat = (1 + d).toNat by omega] at S
  have C := S.core O ho0'
  have lL : L.length + 1 = (1 + d).toNat := by have := S.len; rw [List.length_map] at this; exact this
  -- edges more
  refine ⟨_, rfl, _, rfl, _, _, rfl, rfl, p, b - 200, _, rfl, P3.less (by omega), by omega, small (by omega) (by omega), fun H4 d4 e0 e1 P4 B4 => ?_⟩
  refine ⟨d4, rfl, by omega, by omega, for_range (lo := 0) (n := d4.toNat) (fun i σ' H' => ∃ (v7 v8 : Option V) (L : List (Addr × Edge)), σ' = [some (.ref p), some (.int mo), some (.int ex), some (.int (1 + d)), some (.ref oa), v5, some (.ref pa), v7, v8, none] ∧ But1 p H H' ∧ PoolAt K H' p (b - 200 - 3 * i) ∧ H' oa = some (.lst (o.map V.int)) ∧ EdT H' pa L ∧ Core (1 + d).toNat e (pairs L) ∧ L.length + 1 ≤ (1 + d).toNat + i)
    ⟨v7, none, L, rfl, b3.trans B4.one, P4, B4.one oa _ hop ho3, E3.but P3 B4.one hpp, C, by omega⟩ ?_ ?_⟩
  · rintro i σ1 H5 hi ⟨v7, v8, L, rfl, b5, P5, ho5, E5, C5, l5⟩
    refine ⟨_, rfl, _, rfl, p, b - 200 - 3 * i - 1, _, rfl, P5.less (by omega), by omega, small (by omega) (by omega), fun H6 u u0 u1 P6 B6 => ?_⟩
    refine ⟨_, rfl, _, rfl, p, b - 200 - 3 * i - 2, _, rfl, P6.less (by omega), by omega, small (by omega) (by omega), fun H7 z z0 z1 P7 B7 => ?_⟩
    refine ⟨(by show 2 ≤ sizeLine; decide), fun tp ht => ?_⟩
    have b7 := (b5.trans B6.one).trans B7.one
    have E7 := (E5.but P5 B6.one hpp).but P6 B7.one hpp
    have ho7 := B7.one oa _ hop (B6.one oa _ hop ho5)
    have htp := P7.ne_new ht
    have ht0 : H tp = none := b7.none ht htp
    have E8 := E7.new (x := .tup [.int u, .int z]) ht
    have ho8 : (upd H7 tp (.tup [.int u, .int z])) oa = some (.lst (o.map V.int)) := by rw [upd_ne (ne_of_none ho7 ht)]; exact ho7
    refine ⟨_, rfl, _, rfl, dP (u, z), (pairs L).map dP, dp_pair (p := (u, z)) upd_same, .lst (SqL.of E8.at_) (dp_pairs L E8.tup), shaped_pair _, shaped_lpairs _, _, rfl, ?_⟩
    rw [any_pairs]
    by_cases hq : (u, z) ∈ pairs L
    · rw [decide_eq_true hq]
      exact iteF ⟨_, _, L, rfl, b7.new ht0, (P7.less (by omega)).new ht, ho8, E8, C5, by omega⟩
    rw [decide_eq_false hq]
    refine iteT ?_
    refine ⟨_, rfl, .inl ⟨rfl, _, SqL.of E8.at_⟩, ?_⟩
    refine ⟨_, rfl, _, rfl, pa, _, rfl, .inl (SqL.of E8.at_), ?_⟩
    rw [List.length_map]
    refine ⟨_, _, rfl, rfl, p, b - 200 - 3 * i - 3, _, rfl, (P7.less (by omega)).new ht, by omega, small (by omega) (by omega), fun H9 y y0 y1 P9 B9 => ?_⟩
    have E9 := E8.but ((P7.less (c := b - 200 - 3 * i - 3) (by omega)).new ht) B9.one hpp
    have hp2 : p ≠ tp := fun z => htp z.symm
    have ht9 : H9 tp = some (.tup [.int u, .int z]) := B9.one tp _ htp upd_same
    refine ⟨_, rfl, pa, _, y, _, rfl, rfl, E9.at_, ?_, y0, by omega, ?_⟩
    · rw [List.length_map]
      exact Nat.lt_of_le_of_lt (show L.length ≤ 200 by omega) (by decide)
    · refine ⟨_, _, L.take y.toNat ++ [(tp, (u, z))] ++ L.drop y.toNat, rfl, ((b7.new ht0).trans B9.one).new hp0, (P9.less (by omega)).set E9.at_ hpp, ?_, E9.ins ht9, C5.add ⟨⟨u0, by omega⟩, z0, by omega⟩ hq (pairs_ins L _ _), ?_⟩
      · rw [upd_ne hpo]
        exact B9.one oa _ hop ho8
      · rw [len_ins]
        omega
  rintro σ1 H5 ⟨v7', v8, L5, rfl, b5, P5, ho5, E5, C5, l5⟩
  -- the goals
  refine ⟨_, rfl, 1 + d, rfl, by omega, by omega, fun ga hga => lc_range (n := (1 + d).toNat) (fun i H' => ∃ gs : List Int, But1 p H H' ∧ PoolAt K H' p (b - 400 - i) ∧ H' oa = some (.lst (o.map V.int)) ∧ EdT H' pa L5 ∧ H' ga = some (.lst (gs.map V.int)) ∧ gs.Nodup ∧ ∀ g ∈ gs, 0 ≤ g ∧ g < (i : Int)) ?_ ?_ ?_⟩
  · exact ⟨[], b5.new (b5.none hga (P5.ne_new hga)), (P5.less (by omega)).new hga, by rw [upd_ne (ne_of_none ho5 hga)]; exact ho5, E5.new hga, upd_same, List.nodup_nil, (fun _ z => nomatch z)⟩
  · rintro i H6 hi ⟨gs, b6, P6, ho6, E6, hg6, nd, rg⟩
    have hgp : ga ≠ p := P5.ne_new hga
    have hg0 : H ga = none := b5.none hga hgp
    have hgo : oa ≠ ga := ne_of_none ho5 hga
    have hgpa : pa ≠ ga := ne_of_none E5.at_ hga
    refine ⟨rfl, _, rfl, p, b - 400 - i - 1, _, rfl, P6.less (by omega), by omega, small (by omega) (by omega), fun H7 y y0 y1 P7 B7 => ?_⟩
    refine ⟨rfl, _, rfl, ?_⟩
    have b7 := b6.trans B7.one
    have hg7 := B7.one ga _ hgp hg6
    refine iteB (fun _ => ?_) (fun _ => ?_)
    · refine ⟨_, rfl, _, hg7, ?_, gs ++ [(i : Int)], b7.new hg0, (P7.less (by omega)).set hg7 hgp, ?_, (E6.but P6 B7.one hpp).set hg7 hgpa, ?_, ?_, fun g hg => ?_⟩
      · rw [List.length_map]
        have := rng_len nd rg
        exact Nat.lt_of_le_of_lt (show gs.length ≤ 24 by omega) (by decide)
      · rw [upd_ne hgo]
        exact B7.one oa _ hop ho6
      · rw [upd_same, List.map_append, show (0 + (i : Int)) = (i : Int) by omega]
        rfl
      · exact nd_snoc nd fun z => by have := (rg _ z).2; omega
      · rcases List.mem_append.mp hg with hg | hg
        · have := rg g hg
          omega
        · rw [List.mem_singleton.mp hg]
          omega
    · refine ⟨gs, b7, P7.less (by omega), B7.one oa _ hop ho6, E6.but P6 B7.one hpp, hg7, nd, fun g hg => ?_⟩
      have := rg g hg
      omega
  rintro H6 ⟨gs, b6, P6, ho6, E6, hg6, nd, rg⟩
  have hgp : ga ≠ p := P5.ne_new hga
  have hg0 : H ga = none := b5.none hga hgp
  -- no goal yet
  refine ⟨fun σ' H' => ∃ (ga : Addr) (gs : List Int), σ' = [some (.ref p), some (.int mo), some (.int ex), some (.int (1 + d)), some (.ref oa), v5, some (.ref pa), v7', v8, some (.ref ga)] ∧ But1 p H H' ∧ PoolAt K H' p (b - 500) ∧ H' oa = some (.lst (o.map V.int)) ∧ EdT H' pa L5 ∧ H' ga = some (.lst (gs.map V.int)) ∧ ga ≠ p ∧ H ga = none ∧ oa ≠ ga ∧ pa ≠ ga ∧ Aims (1 + d).toNat 0 (pairs L5) gs, ?_, ?_⟩
  · refine ⟨_, rfl, (by show 0 ≤ sizeLine; decide), fun na hna => ?_⟩
    have hg7 : (upd H6 na (.lst [])) ga = some (.lst (gs.map V.int)) := by rw [upd_ne (ne_of_none hg6 hna)]; exact hg6
    refine ⟨.list (gs.map PyData.int), .list [], .lst (SqL.of hg7) (dp_ints gs), .lst (SqL.of upd_same) .nil, shaped_lints gs, rfl, _, rfl, ?_⟩
    have hn0 : H na = none := b6.none hna (P6.ne_new hna)
    have b7 := b6.new (x := .lst []) hn0
    have P7 := (P6.less (c := b - 450) (by omega)).new (x := .lst []) hna
    have E7 := E6.new (x := .lst []) hna
    have ho7 : (upd H6 na (.lst [])) oa = some (.lst (o.map V.int)) := by rw [upd_ne (ne_of_none ho6 hna)]; exact ho6
    cases gs with
    | nil =>
      refine iteT ?_
      refine ⟨_, rfl, _, rfl, p, b - 460, _, rfl, P7.less (by omega), by omega, small (by omega) (by omega), fun H8 y y0 y1 P8 B8 => ?_⟩
      refine ⟨(by show 1 ≤ sizeLine; decide), fun g2 hg2 => ?_⟩
      have b8 := b7.trans B8.one
      have h20 := b8.none hg2 (P8.ne_new hg2)
      have ho8 := B8.one oa _ hop ho7
      have E8 := E7.but P7 B8.one hpp
      refine ⟨g2, [y], rfl, b8.new h20, (P8.less (by omega)).new hg2, by rw [upd_ne (ne_of_none ho8 hg2)]; exact ho8, E8.new hg2, upd_same, P8.ne_new hg2, h20, ne_of_none ho8 hg2, ne_of_none E8.at_ hg2, ?_⟩
      exact ⟨by simp, fun g hg => by rw [List.mem_singleton.mp hg]; omega, by simp, fun v h0 h1 => by omega⟩
    | cons g r =>
      refine iteF ?_
      exact ⟨ga, g :: r, rfl, b7, P7.less (by omega), ho7, E7, hg7, hgp, hg0, ne_of_none ho5 hga, ne_of_none E5.at_ hga, nd, rg, by simp, fun v h0 h1 => by omega⟩
  clear hgp hg0 hg6 nd rg hga gs ga
  rintro σ7 H7 ⟨ga, gs, rfl, b7, P7, ho7, E7, hg7, hgp, hg0, hgo, hgpa, A7⟩
  refine ⟨_, rfl, 1 + d, rfl, by omega, by omega, for_range (lo := 0) (n := (1 + d).toNat) (fun i σ' H' => ∃ (v5 : Option V) (L : List (Addr × Edge)) (gs : List Int), σ' = [some (.ref p), some (.int mo), some (.int ex), some (.int (1 + d)), some (.ref oa), v5, some (.ref pa), v7', v8, some (.ref ga)] ∧ But1 p H H' ∧ PoolAt K H' p (b - 500 - 3 * i) ∧ H' oa = some (.lst (o.map V.int)) ∧ EdT H' pa L ∧ H' ga = some (.lst (gs.map V.int)) ∧ Core (1 + d).toNat e (pairs L) ∧ Aims (1 + d).toNat i (pairs L) gs ∧ L.length ≤ L5.length + i)
    ⟨v5, L5, gs, rfl, b7, P7, ho7, E7, hg7, C5, A7, Nat.le_refl _⟩ ?_ ?_⟩
  · rintro i σ1 H8 hi ⟨v5, L, gs, rfl, b8, P8, ho8, E8, hg8, C8', A8, l8⟩
    have lg := rng_len A8.nd A8.rng
    refine ⟨_, rfl, _, rfl, _, rfl, pa, ga, L, gs, rfl, E8.edges, hg8, by omega, by omega, fun H9 m ms s9 hm hms => ?_⟩
    refine ⟨m, _, rfl, .inl (SqL.of hm), rfl, flat_ints ms, _, rfl, ?_⟩
    show if (!inV (V.int (0 + (i : Int))) (ms.map V.int)) = true then _ else _
    rw [inV_ints, show (0 + (i : Int)) = (i : Int) by omega]
    have b9 := b8.trans (fun c o' _ e' => s9 c o' e')
    have P9 := P8.same s9
    have ho9 := s9 _ _ ho8
    have E9 := E8.same s9
    have hg9 := s9 _ _ hg8
    by_cases hin : (i : Int) ∈ ms
    · rw [decide_eq_true hin]
      refine iteF ⟨_, L, gs, rfl, b9, P9.less (by omega), ho9, E9, hg9, C8', A8.stay ((hms _).mp hin), by omega⟩
    rw [decide_eq_false hin]
    refine iteT ?_
    have far : ∀ g ∈ gs, ¬ Reach (pairs L) (i : Int) g := fun g hg r => hin ((hms _).mpr ⟨g, hg, r⟩)
    refine ⟨_, rfl, p, b - 500 - 3 * i - 1, _, rfl, P9.less (by omega), by omega, small (by omega) (by omega), fun H10 y y0 y1 P10 B10 => ?_⟩
    refine ⟨rfl, _, rfl, ?_⟩
    have b10 := b9.trans B10.one
    have ho10 := B10.one oa _ hop ho9
    have E10 := E9.but P9 B10.one hpp
    have hg10 := B10.one ga _ hgp hg9
    refine iteB (fun _ => ?_) (fun _ => ?_)
    · refine ⟨_, rfl, .inl ⟨rfl, _, SqL.of E10.at_⟩, ?_⟩
      refine ⟨_, rfl, _, rfl, pa, _, rfl, .inl (SqL.of E10.at_), ?_⟩
      rw [List.length_map]
      refine ⟨_, _, rfl, rfl, p, b - 500 - 3 * i - 2, _, rfl, P10.less (by omega), by omega, small (by omega) (by omega), fun H11 z z0 z1 P11 B11 => ?_⟩
      have ho11 := B11.one oa _ hop ho10
      have E11 := E10.but P10 B11.one hpp
      have hg11 := B11.one ga _ hgp hg10
      have g0 : 0 < gs.length := by
        cases gs with
        | nil => exact absurd rfl A8.ne
        | cons a r => simp
      refine ⟨_, rfl, _, rfl, _, rfl, _, rfl, ga, _, rfl, .inl (SqL.of hg11), ?_⟩
      rw [List.length_map]
      refine ⟨p, b - 500 - 3 * i - 3, _, rfl, P11.less (by omega), by omega, small (by omega) (by omega), fun H12 k k0 k1 P12 B12 => ?_⟩
      have ho12 := B12.one oa _ hop ho11
      have E12 := E11.but P11 B12.one hpp
      have hg12 := B12.one ga _ hgp hg11
      have lk : k.toNat < gs.length := by omega
      have ek : gs[k.toNat]? = some gs[k.toNat] := List.getElem?_eq_getElem lk
      have at' : atI (gs.map V.int) k = some (.int gs[k.toNat]) := by
        have x := atI_nat (xs := gs.map V.int) (j := k.toNat) (v := .int gs[k.toNat]) (by rw [List.getElem?_map, ek]; rfl)
        rw [Int.toNat_of_nonneg k0] at x
        exact x
      have hgm : gs[k.toNat] ∈ gs := List.getElem_mem lk
      refine ⟨ga, _, k, .int gs[k.toNat], rfl, rfl, SqL.of hg12, at', (by show 2 ≤ sizeLine; decide), fun tp ht => ?_⟩
      have b12 := (b10.trans B11.one).trans B12.one
      have ht0 := b12.none ht (P12.ne_new ht)
      have E13 := E12.new (x := .tup [.int (i : Int), .int gs[k.toNat]]) ht
      have hg13 : (upd H12 tp (.tup [.int (i : Int), .int gs[k.toNat]])) ga = some (.lst (gs.map V.int)) := by rw [upd_ne (ne_of_none hg12 ht)]; exact hg12
      have ht13 : (upd H12 tp (.tup [.int (i : Int), .int gs[k.toNat]])) tp = some (.tup [.int (i : Int), .int gs[k.toNat]]) := upd_same
      have no : ((i : Int), gs[k.toNat]) ∉ pairs L := fun m => far _ hgm (.one m)
      refine ⟨pa, _, z, _, rfl, rfl, E13.at_, ?_, z0, by omega, ?_⟩
      · rw [List.length_map]
        exact Nat.lt_of_le_of_lt (show L.length ≤ 200 by omega) (by decide)
      · refine ⟨_, L.take z.toNat ++ [(tp, ((i : Int), gs[k.toNat]))] ++ L.drop z.toNat, gs, rfl, (b12.new ht0).new hp0, ((P12.less (by omega)).new ht).set E13.at_ hpp, ?_, E13.ins ht13, ?_, C8'.add ⟨⟨by omega, by omega⟩, A8.rng _ hgm⟩ no (pairs_ins L _ _), A8.edge hgm (pairs_ins L _ _), ?_⟩
        · rw [upd_ne hpo, upd_ne (ne_of_none ho12 ht)]
          exact ho12
        · rw [upd_ne hgpa.symm]
          exact hg13
        · rw [len_ins]
          omega
    · refine ⟨_, rfl, .inl ⟨rfl, _, SqL.of hg10⟩, ?_⟩
      refine ⟨_, rfl, _, rfl, ga, _, rfl, .inl (SqL.of hg10), ?_⟩
      rw [List.length_map]
      refine ⟨_, _, rfl, rfl, p, b - 500 - 3 * i - 2, _, rfl, P10.less (by omega), by omega, small (by omega) (by omega), fun H11 z z0 z1 P11 B11 => ?_⟩
      have hg11 := B11.one ga _ hgp hg10
      have no : (i : Int) ∉ gs := fun m => far _ m (.refl _)
      refine ⟨_, rfl, ga, _, z, _, rfl, rfl, hg11, ?_, z0, by omega, ?_⟩
      · rw [List.length_map]
        exact Nat.lt_of_le_of_lt (show gs.length ≤ 200 by omega) (by decide)
      · refine ⟨_, L, gs.take z.toNat ++ [(i : Int)] ++ gs.drop z.toNat, rfl, (b10.trans B11.one).new hg0, (P11.less (by omega)).set hg11 hgp, ?_, (E10.but P10 B11.one hpp).set hg11 hgpa, ?_, C8', A8.goal (by omega) no (perm_ins gs _ _), by omega⟩
        · rw [upd_ne hgo]
          exact B11.one oa _ hop ho10
        · rw [upd_same, ← ints_ins]
  rintro σ1 H8 ⟨v5', L, gs', rfl, b8, P8, ho8, E8, hg8, C8', A8, l8⟩
  have nat0 : atI (o.map V.int) 0 = some (.int e) := atI_nat (j := 0) (by rw [List.getElem?_map, ho0']; rfl)
  refine ⟨_, rfl, _, rfl, _, rfl, oa, _, 0, .int e, rfl, rfl, SqL.of ho8, nat0, _, rfl, (by show 4 ≤ sizeLine; decide), fun t ht => ?_⟩
  have good := C8'.good A8 n2 (by rw [List.length_map]; omega)
  rw [n3] at good
  exact q _ t (1 + d) L e gs' pa ga (b8.new (b8.none ht (P8.ne_new ht))) ((P8.less (by omega)).new ht) ⟨upd_same, E8.new ht, by rw [upd_ne (ne_of_none hg8 ht)]; exact hg8⟩ good A8.nd (by omega) (by omega) hpp hgp hp0 hg0 (b8.none ht (P8.ne_new ht))
end
section
variable {P : Program} {w : World} {K : PySem.W.Frag} {mg : Str → Option Value} {base : Heap}

abbrev rR (R : List (Addr × List Int)) : List V := R.map fun p => V.ref p.1
/-- rows of numbers, each a tuple -/
structure RowsT (H : Hp) (pa : Addr) (R : List (Addr × List Int)) : Prop where
  at_ : H pa = some (.lst (rR R))
  tup : ∀ p ∈ R, H p.1 = some (.tup (p.2.map V.int))
theorem RowsT.same {H H' : Hp} {pa : Addr} {R : List (Addr × List Int)} (h : RowsT H pa R) (s : Same H H') : RowsT H' pa R := ⟨s _ _ h.at_, fun p hp => s _ _ (h.tup p hp)⟩
theorem RowsT.new {H : Hp} {pa q : Addr} {R : List (Addr × List Int)} {x : HO} (h : RowsT H pa R) (n : H q = none) : RowsT (upd H q x) pa R := h.same (same_upd (Same.refl H) n)
theorem RowsT.but {K : PySem.W.Frag} {H H' : Hp} {p pa : Addr} {b : Nat} {R : List (Addr × List Int)} (h : RowsT H pa R) (P : PoolAt K H p b) (s : But1 p H H') (ne : pa ≠ p) : RowsT H' pa R := by
  obtain ⟨xs, hp⟩ := P.lst
  exact ⟨s _ _ ne h.at_, fun q hq => s _ _ (ne_of (h.tup q hq) hp (by intro z; cases z)) (h.tup q hq)⟩
theorem RowsT.rows {H : Hp} {pa : Addr} {R : List (Addr × List Int)} (h : RowsT H pa R) : RowsAt H pa R := ⟨h.at_, fun p hp => .inr (h.tup p hp)⟩
/-- what is told of a web, bent or not -/
structure ToldX (H : Hp) (t : Addr) (n : Int) (R : List (Addr × List Int)) (e : Int) (gs : List Int) (pa ga : Addr) : Prop where
  at_ : H t = some (.tup [.int n, .ref pa, .int e, .ref ga])
  rw : RowsT H pa R
  go : H ga = some (.lst (gs.map V.int))
theorem ToldX.same {H H' : Hp} {t : Addr} {n : Int} {R : List (Addr × List Int)} {e : Int} {gs : List Int} {pa ga : Addr} (h : ToldX H t n R e gs pa ga) (s : Same H H') : ToldX H' t n R e gs pa ga := ⟨s _ _ h.at_, h.rw.same s, s _ _ h.go⟩
theorem ToldX.but {K : PySem.W.Frag} {H H' : Hp} {p t : Addr} {b : Nat} {n : Int} {R : List (Addr × List Int)} {e : Int} {gs : List Int} {pa ga : Addr} (h : ToldX H t n R e gs pa ga) (P : PoolAt K H p b) (s : But1 p H H') (hpp : pa ≠ p) (hgp : ga ≠ p) : ToldX H' t n R e gs pa ga := by
  obtain ⟨xs, hp⟩ := P.lst
  exact ⟨s _ _ (ne_of h.at_ hp (by intro z; cases z)) h.at_, h.rw.but P s hpp, s _ _ hgp h.go⟩
def toR (L : List (Addr × Edge)) : List (Addr × List Int) := L.map fun p => (p.1, [p.2.1, p.2.2])
theorem toR_rows (L : List (Addr × Edge)) : rows (toR L) = (pairs L).map fun q => [q.1, q.2] := by
  unfold rows toR pairs
  rw [List.map_map, List.map_map]
  rfl
theorem Told.x {H : Hp} {t : Addr} {n : Int} {L : List (Addr × Edge)} {e : Int} {gs : List Int} {pa ga : Addr} (h : Told H t n L e gs pa ga) : ToldX H t n (toR L) e gs pa ga := by
  refine ⟨h.at_, ⟨?_, fun p hp => ?_⟩, h.go⟩
  · rw [h.ed.at_]
    unfold rR toR
    rw [List.map_map]
    rfl
  · obtain ⟨q, hq, rfl⟩ := List.mem_map.mp hp
    exact h.ed.tup q hq
theorem ints_app (a b : List Int) : a.map V.int ++ b.map V.int = (a ++ b).map V.int := (List.map_append ..).symm
theorem rR_app (a b : List (Addr × List Int)) : rR a ++ rR b = rR (a ++ b) := (List.map_append ..).symm
theorem cut_ints (ws : List Int) (lo hi : Option Int) : ∃ ds : List Int, cutV (ws.map V.int) lo hi = ds.map V.int ∧ ds.length ≤ ws.length := by
  refine ⟨(ws.drop (HT.sIx (ws.map V.int).length 0 lo)).take (HT.sIx (ws.map V.int).length (ws.map V.int).length hi - HT.sIx (ws.map V.int).length 0 lo), ?_, ?_⟩
  · unfold cutV
    rw [List.map_take, List.map_drop]
  · rw [List.length_take, List.length_drop]
    omega
theorem cut_rows (R : List (Addr × List Int)) (lo hi : Option Int) : ∃ D : List (Addr × List Int), cutV (rR R) lo hi = rR D ∧ D.length ≤ R.length ∧ ∀ p ∈ D, p ∈ R := by
  refine ⟨(R.drop (HT.sIx (rR R).length 0 lo)).take (HT.sIx (rR R).length (rR R).length hi - HT.sIx (rR R).length 0 lo), ?_, ?_, fun p hp => List.mem_of_mem_drop (List.mem_of_mem_take hp)⟩
  · unfold cutV rR
    rw [List.map_take, List.map_drop]
  · rw [List.length_take, List.length_drop]
    omega
theorem cut_two (xs : List V) (z : Int) : cutV xs none (some z) = xs.take (HT.sIx xs.length 0 (some z)) ∧ cutV xs (some z) none = xs.drop (HT.sIx xs.length 0 (some z)) := by
  unfold cutV
  refine ⟨?_, ?_⟩
  · rw [HT.sIx_none, List.drop_zero, Nat.sub_zero]
    rfl
  · rw [HT.sIx_none]
    exact List.take_of_length_le (by rw [List.length_drop]; omega)
theorem cuts_rows (R : List (Addr × List Int)) (z : Int) : ∃ A B : List (Addr × List Int), cutV (rR R) none (some z) = rR A ∧ cutV (rR R) (some z) none = rR B ∧ A.length + B.length = R.length ∧ (∀ p ∈ A, p ∈ R) ∧ ∀ p ∈ B, p ∈ R := by
  refine ⟨R.take (HT.sIx (rR R).length 0 (some z)), R.drop (HT.sIx (rR R).length 0 (some z)), ?_, ?_, ?_, fun p hp => List.mem_of_mem_take hp, fun p hp => List.mem_of_mem_drop hp⟩
  · rw [(cut_two (rR R) z).1]
    exact (List.map_take ..).symm
  · rw [(cut_two (rR R) z).2]
    exact (List.map_drop ..).symm
  · rw [List.length_take, List.length_drop]
    omega
theorem cuts_ints (R : List Int) (z : Int) : ∃ A B : List Int, cutV (R.map V.int) none (some z) = A.map V.int ∧ cutV (R.map V.int) (some z) none = B.map V.int ∧ A.length + B.length = R.length := by
  refine ⟨R.take (HT.sIx (R.map V.int).length 0 (some z)), R.drop (HT.sIx (R.map V.int).length 0 (some z)), ?_, ?_, ?_⟩
  · rw [(cut_two (R.map V.int) z).1]
    exact (List.map_take ..).symm
  · rw [(cut_two (R.map V.int) z).2]
    exact (List.map_drop ..).symm
  · rw [List.length_take, List.length_drop]
    omega
theorem atI_pos {α : Type} {xs : List α} {y : Int} {v : α} (h0 : 0 ≤ y) (h : xs[y.toNat]? = some v) : atI xs y = some v := by
  have z := atI_nat h
  rw [Int.toNat_of_nonneg h0] at z
  exact z
/-- fresh tuples of numbers -/
def TS (H0 H : Hp) (W : List (Addr × List Int)) : Prop := Same H0 H ∧ ∀ p ∈ W, H p.1 = some (.tup (p.2.map V.int))
theorem TS.nil (H : Hp) : TS H H [] := ⟨Same.refl H, fun _ z => nomatch z⟩
theorem TS.snoc {H0 H : Hp} {W : List (Addr × List Int)} {t : Addr} {r : List Int} (h : TS H0 H W) (n : H t = none) : TS H0 (upd H t (.tup (r.map V.int))) (W ++ [(t, r)]) := by
  refine ⟨same_upd h.1 n, fun p hp => ?_⟩
  rcases List.mem_append.mp hp with hp | hp
  · rw [upd_ne (ne_of_none (h.2 p hp) n)]
    exact h.2 p hp
  · rw [List.mem_singleton.mp hp]
    exact upd_same
theorem RowsT.cut {H : Hp} {pa q : Addr} {R A : List (Addr × List Int)} (h : RowsT H pa R) (n : H q = none) (sub : ∀ p ∈ A, p ∈ R) : RowsT (upd H q (.lst (rR A))) q A := ⟨upd_same, fun p hp => (h.new n).tup p (sub p hp)⟩
theorem RowsT.one {H : Hp} {q tp : Addr} {r : List Int} (h : H tp = some (.tup (r.map V.int))) (n : H q = none) : RowsT (upd H q (.lst [.ref tp])) q [(tp, r)] := ⟨upd_same, fun p hp => by
  rw [List.mem_singleton.mp hp, upd_ne (ne_of_none h n)]
  exact h⟩
theorem RowsT.cat {H : Hp} {a b q : Addr} {A B : List (Addr × List Int)} (h : RowsT H a A) (k : RowsT H b B) (n : H q = none) : RowsT (upd H q (.lst (rR A ++ rR B))) q (A ++ B) := by
  refine ⟨by rw [upd_same, rR_app], fun p hp => ?_⟩
  rcases List.mem_append.mp hp with hp | hp
  · exact (h.new n).tup p hp
  · exact (k.new n).tup p hp
def dR (r : List Int) : PyData := .tuple (r.map PyData.int)
theorem dp_row {K : PySem.W.Frag} {H : Hp} {a : Addr} {r : List Int} (h : H a = some (.tup (r.map V.int))) : Dp K H (.ref a) (dR r) := .tup (SqT.of h) (dp_ints r)
theorem dp_rows {K : PySem.W.Frag} {H : Hp} : ∀ (R : List (Addr × List Int)), (∀ p ∈ R, H p.1 = some (.tup (p.2.map V.int))) → DpAll K H (rR R) ((rows R).map dR)
  | [], _ => .nil
  | p :: r, h => .cons (dp_row (h p List.mem_cons_self)) (dp_rows r fun q hq => h q (List.mem_cons_of_mem _ hq))
theorem lay_rows : ∀ as : List (List Int), PyData.canLayAll0 (as.map dR) = true
  | [] => rfl
  | r :: as => by
    rw [List.map_cons, PyData.canLayAll0, lay_rows as]
    have : (dR r).canLay0 = true := lay_ints r
    rw [this]
    rfl
theorem depth_row (r : List Int) : (dR r).depth ≤ 4 := by
  have := depth_ints r
  unfold dR
  simp only [PyData.depth]
  omega
theorem depth_rows : ∀ as : List (List Int), PyData.depthAll (as.map dR) ≤ 4
  | [] => by simp [PyData.depthAll]
  | r :: as => by
    have h1 := depth_row r
    have h2 := depth_rows as
    simp only [List.map_cons, PyData.depthAll]
    omega
theorem shaped_row (r : List Int) : SeqAt.shaped (dR r) = true := shaped_ints r
theorem shaped_lrows (as : List (List Int)) : SeqAt.shaped (.list (as.map dR)) = true := by
  unfold SeqAt.shaped
  have e : (PyData.list (as.map dR)).canLay0 = true := lay_rows as
  have d : (PyData.list (as.map dR)).depth ≤ 64 := by
    have h2 := depth_rows as
    simp only [PyData.depth]
    omega
  rw [e, decide_eq_true d]
  rfl
theorem eqv_row (a b : List Int) : PyData.eqv (dR a) (dR b) = decide (a = b) := by
  show PyData.eqvAll _ _ = _
  exact eqv_ints a b
theorem any_rows (q : List Int) (l : List (List Int)) : ((l.map dR).any fun z => PyData.eqv z (dR q)) = decide (q ∈ l) := by
  induction l with
  | nil => rfl
  | cons a r ih =>
    rw [List.map_cons, List.any_cons, ih, eqv_row, Bool.eq_iff_iff, Bool.or_eq_true, decide_eq_true_iff, decide_eq_true_iff, decide_eq_true_iff, List.mem_cons]
    exact ⟨fun z => z.elim (fun z => .inl z.symm) .inr, fun z => z.elim (fun z => .inl z.symm) .inr⟩
def BentJ (K : PySem.W.Frag) (H : Hp) (p t : Addr) (far way at_ : Int) (c g b : Nat) (σ : L2.St) (H' : Hp) : Prop := ∃ (n e : Int) (pa ga : Addr) (R : List (Addr × List Int)) (gs : List Int) (v1 v2 v3 : Option V),
  σ = [some (.ref p), some (.ref t), some (.int n), some (.ref pa), some (.int e), some (.ref ga), some (.int far), some (.int way), some (.int at_), v1, v2, v3] ∧ But1 p H H' ∧ PoolAt K H' p b ∧ RowsT H' pa R ∧ H' ga = some (.lst (gs.map V.int)) ∧ pa ≠ p ∧ ga ≠ p ∧ R.length ≤ c ∧ gs.length ≤ g
theorem BentJ.more {K : PySem.W.Frag} {H : Hp} {p t : Addr} {far way at_ : Int} {c g b c' g' b' : Nat} {σ : L2.St} {H' : Hp} (h : BentJ K H p t far way at_ c g b σ H') (hc : c ≤ c') (hg : g ≤ g') (hb : b' ≤ b) : BentJ K H p t far way at_ c' g' b' σ H' := by
  obtain ⟨n, e, pa, ga, R, gs, v1, v2, v3, e1, h1, h2, h3, h4, h5, h6, h7, h8⟩ := h
  exact ⟨n, e, pa, ga, R, gs, v1, v2, v3, e1, h1, h2.less hb, h3, h4, h5, h6, by omega, by omega⟩
def spBent (K : PySem.W.Frag) : Sp := fun vs H Q _ => ∃ (p : Addr) (b : Nat) (t : Addr) (n e : Int) (R : List (Addr × List Int)) (gs : List Int) (pa ga : Addr), vs = [.ref p, .ref t] ∧ PoolAt K H p b ∧ 100 ≤ b ∧ ToldX H t n R e gs pa ga ∧ R.length ≤ 300 ∧ gs.length ≤ 30 ∧ pa ≠ p ∧ ga ≠ p ∧
  ∀ (H' : Hp) (t' : Addr) (n' e' : Int) (R' : List (Addr × List Int)) (gs' : List Int) (pa' ga' : Addr), But1 p H H' → PoolAt K H' p (b - 100) → ToldX H' t' n' R' e' gs' pa' ga' → R'.length ≤ R.length + 100 → gs'.length ≤ 2 * gs.length + 2 → pa' ≠ p → ga' ≠ p → Q (.ref t') H'
abbrev s_bent : Stmt := top 30
theorem sc_bent : FnScope ["_law_pool_here", "_law_told", "_law_count", "_law_pairs", "_law_origin", "_law_goals", "_law_far", "_law_way", "_law_at", "_law_wrong", "_law_spot", "_law_k"] ["_law_pool_here", "_law_told"] (defScope s_bent) := ⟨rfl, rfl, rfl, by decide +kernel, rfl, by decide +kernel, by decide +kernel⟩
theorem ok_bent {fd : FuncData} (F : FunD K "_law_bent" "_law_bent" (defArgs s_bent) (defBody s_bent) (defScope s_bent) [] [] (He.ga K "_law_bent") fd) (T : TxX K mg) (d_draw : Okd P w K mg base CX0 1 (He.ga K "_law_draw") ["_law_pool_here", "_law_limit"] (spDraw K)) : FnOk P w K mg base CX0 2 (He.ga K "_law_bent") fd ["_law_pool_here", "_law_told"] (spBent K) := by
  obtain ⟨fd_draw, G_draw, b_draw⟩ := d_draw
  refine F.ok sc_bent (fun vs H Q E h => by obtain ⟨p, b, t, n, e, R, gs, pa, ga, rfl, _⟩ := h; rfl) (fun cdv A outer s H vs Q E hr h => ?_)
  obtain ⟨p, b, t, n, e, R, gs, pa, ga, rfl, P, hb, hT, hc, hg, hpp, hgp, q⟩ := h
  refine ⟨_, PSs.nox (pss_cons (ps_asg (pv 1) (pg_tup rfl (pgs_cons (pg_name (i := 2) sc_bent.nd rfl (Or.inl rfl)) (pgs_cons (pg_name (i := 3) sc_bent.nd rfl (Or.inl rfl)) (pgs_cons (pg_name (i := 4) sc_bent.nd rfl (Or.inl rfl)) (pgs_cons (pg_name (i := 5) sc_bent.nd rfl (Or.inl rfl)) pgs_nil))))))
    (pss_cons (ps_set (i := 6) sc_bent.nd rfl (Or.inl rfl) (pe_call G_draw (hr.mono (by decide)) (by rfl) T.g__law_draw T.k__law_draw b_draw .nil pass0 (pa_cons (pv 0) (pa_cons (pe_op op_pow pe_int pe_int) pa_nil))))
    (pss_cons (ps_set (i := 7) sc_bent.nd rfl (Or.inl rfl) (pe_call G_draw (hr.mono (by decide)) (by rfl) T.g__law_draw T.k__law_draw b_draw .nil pass0 (pa_cons (pv 0) (pa_cons pe_int pa_nil))))
    (pss_cons (ps_set (i := 8) sc_bent.nd rfl (Or.inl rfl) (pe_call G_draw (hr.mono (by decide)) (by rfl) T.g__law_draw T.k__law_draw b_draw .nil pass0 (pa_cons (pv 0) (pa_cons (pe_op op_add (pe_callB call_len_seq (by rfl) T.n_len PySem.boot_len (pa_cons (pv 3) pa_nil)) pe_int) pa_nil))))
    (C8.pss_cut (ps_if (pt_cmpR op_eq (pv 7) pe_int (nomark _)) (pss_cons (ps_set (i := 9) sc_bent.nd rfl (Or.inl rfl) (pe_ix ix_list (pe_lst (pa_cons (pe_tup (pa_cons (pv 2) (pa_cons pe_int pa_nil))) (pa_cons (pe_tup (pa_cons pe_int (pa_cons (pe_op op_add (pv 2) (pv 6)) pa_nil))) (pa_cons (pe_tup (pa_cons (pe_un un_neg pe_int) (pa_cons pe_int pa_nil))) (pa_cons (pe_tup (pa_cons pe_int (pa_cons (pe_op op_sub (pe_un un_neg pe_int) (pv 6)) pa_nil))) (pa_cons (pe_tup (pa_cons pe_int pa_nil)) (pa_cons (pe_tup (pa_cons pe_int (pa_cons pe_int (pa_cons pe_int pa_nil)))) (pa_cons (pe_tup pa_nil) pa_nil)))))))) (pe_call G_draw (hr.mono (by decide)) (by rfl) T.g__law_draw T.k__law_draw b_draw .nil pass0 (pa_cons (pv 0) (pa_cons pe_int pa_nil))) (fun _ _ => rfl)))
    (pss_one (ps_set (i := 3) sc_bent.nd rfl (Or.inl rfl) (pe_op op_cat (pe_op op_cat (pe_slice sl_list (pv 3) po_none (po_some (pv 8))) (pe_lst (pa_cons (pv 9) pa_nil))) (pe_slice sl_list (pv 3) (po_some (pv 8)) po_none))))) pss_nil)
    (C8.pss_cut (ps_if (PW.pt (pw_and (pt_cmpR op_eq (pv 7) pe_int (nomark _)) (pw_and1 (pt_cmpR (op_neD hr.units) (pv 3) (pe_lst pa_nil) (nomark _))))) (pss_one (ps_set (i := 3) sc_bent.nd rfl (Or.inl rfl) (pe_op op_cat (pe_op op_cat (pe_slice sl_list (pv 3) po_none (po_some (pv 8))) (pe_lst (pa_cons (pe_ix ix_list (pv 3) (pe_call G_draw (hr.mono (by decide)) (by rfl) T.g__law_draw T.k__law_draw b_draw .nil pass0 (pa_cons (pv 0) (pa_cons (pe_callB call_len_seq (by rfl) T.n_len PySem.boot_len (pa_cons (pv 3) pa_nil)) pa_nil))) (fun _ _ => rfl)) pa_nil))) (pe_slice sl_list (pv 3) (po_some (pv 8)) po_none)))) pss_nil)
    (C8.pss_cut (ps_if (pt_cmpR op_eq (pv 7) pe_int (nomark _)) (pss_one (ps_set (i := 4) sc_bent.nd rfl (Or.inl rfl) (pe_ix ix_list (pe_lst (pa_cons (pe_un un_neg pe_int) (pa_cons (pv 2) (pa_cons (pe_op op_add (pv 2) (pv 6)) (pa_cons (pe_op op_sub (pe_un un_neg pe_int) (pv 6)) pa_nil))))) (pe_call G_draw (hr.mono (by decide)) (by rfl) T.g__law_draw T.k__law_draw b_draw .nil pass0 (pa_cons (pv 0) (pa_cons pe_int pa_nil))) (fun _ _ => rfl)))) pss_nil)
    (C8.pss_cut (ps_if (pt_cmpR op_eq (pv 7) pe_int (nomark _)) (pss_cons (ps_set (i := 10) sc_bent.nd rfl (Or.inl rfl) (pe_call G_draw (hr.mono (by decide)) (by rfl) T.g__law_draw T.k__law_draw b_draw .nil pass0 (pa_cons (pv 0) (pa_cons (pe_op op_add (pe_callB call_len_seq (by rfl) T.n_len PySem.boot_len (pa_cons (pv 5) pa_nil)) pe_int) pa_nil))))
    (pss_one (ps_set (i := 5) sc_bent.nd rfl (Or.inl rfl) (pe_op op_cat (pe_op op_cat (pe_slice sl_list (pv 5) po_none (po_some (pv 10))) (pe_lst (pa_cons (pe_ix ix_list (pe_lst (pa_cons (pe_un un_neg pe_int) (pa_cons (pv 2) (pa_cons (pe_op op_add (pv 2) (pv 6)) (pa_cons (pe_op op_sub (pe_un un_neg pe_int) (pv 6)) pa_nil))))) (pe_call G_draw (hr.mono (by decide)) (by rfl) T.g__law_draw T.k__law_draw b_draw .nil pass0 (pa_cons (pv 0) (pa_cons pe_int pa_nil))) (fun _ _ => rfl)) pa_nil))) (pe_slice sl_list (pv 5) (po_some (pv 10)) po_none))))) pss_nil)
    (C8.pss_cut (ps_if (pt_cmpR op_eq (pv 7) pe_int (nomark _)) (pss_one (ps_set (i := 5) sc_bent.nd rfl (Or.inl rfl) (pe_lst pa_nil))) pss_nil)
    (C8.pss_cut (ps_if (PW.pt (pw_and (pt_cmpR op_eq (pv 7) pe_int (nomark _)) (pw_and1 (pt_cmpR (op_neD hr.units) (pv 3) (pe_lst pa_nil) (nomark _))))) (pss_one (ps_set (i := 3) sc_bent.nd rfl (Or.inl rfl) (pe_slice sl_list (pv 3) (po_some pe_int) po_none))) pss_nil)
    (C8.pss_cut (ps_if (pt_cmpR op_eq (pv 7) pe_int (nomark _)) (pss_one (ps_set (i := 5) sc_bent.nd rfl (Or.inl rfl) (pe_op op_cat (pe_slice sl_list (pv 5) (po_some pe_int) po_none) (pe_slice sl_list (pv 5) (po_some pe_int) po_none)))) pss_nil)
    (C8.pss_cut (ps_if (pt_cmpR op_eq (pv 7) pe_int (nomark _)) (pss_one (ps_set (i := 2) sc_bent.nd rfl (Or.inl rfl) (pe_ix ix_list (pe_lst (pa_cons pe_int (pa_cons pe_int (pa_cons (pe_op op_sub (pe_un un_neg pe_int) (pv 6)) (pa_cons (pe_op op_add pe_int (pv 6)) (pa_cons (pe_op op_add (pv 2) pe_int) (pa_cons pe_int pa_nil))))))) (pe_call G_draw (hr.mono (by decide)) (by rfl) T.g__law_draw T.k__law_draw b_draw .nil pass0 (pa_cons (pv 0) (pa_cons pe_int pa_nil))) (fun _ _ => rfl)))) pss_nil)
    (C8.pss_cut (ps_if (pt_cmpR op_eq (pv 7) pe_int (nomark _)) (pss_cons (ps_set (i := 2) sc_bent.nd rfl (Or.inl rfl) pe_int)
    (pss_one (ps_setLc (i := 3) (own := [("_law_k", 11)]) (g := gName 11) (tt := tYes) rfl sc_bent.nd rfl rfl (sw_true rfl rfl rfl (by decide +kernel)) (pi_range1 rfl T.n_range (pa_cons (pe_op op_add pe_int (pe_call G_draw (hr.mono (by decide)) (by rfl) T.g__law_draw T.k__law_draw b_draw .nil pass0 (pa_cons (pv 0) (pa_cons pe_int pa_nil)))) pa_nil)) (blkOk_by (own := [("_law_k", 11)]) (N := ["_law_pool_here", "_law_told", "_law_count", "_law_pairs", "_law_origin", "_law_goals", "_law_far", "_law_way", "_law_at", "_law_wrong", "_law_spot", "_law_k"]) (sc := defScope s_bent) (by decide +kernel)) (fun _ _ _ _ _ => (pg_name (i := 11) sc_bent.nd rfl (Or.inl rfl))) (fun _ _ _ _ _ => pts_nil) (fun _ _ _ _ _ => (pe_tup (pa_cons (pe_op op_fdiv (pv 11) pe_int) (pa_cons (pe_op op_mod (pv 11) pe_int) pa_nil))))))) pss_nil)
    (pss_one (ps_ret (pe_tup (pa_cons (pv 2) (pa_cons (pv 3) (pa_cons (pv 4) (pa_cons (pv 5) pa_nil)))))))))))))))))))), ?_⟩
  have small : ∀ {z : Int}, 0 ≤ z → z ≤ 1000 → z.natAbs < 2 ^ 200 := fun {z} h0 h1 => Nat.lt_of_le_of_lt (show z.natAbs ≤ 1000 by omega) (by decide)
  have big : ∀ {k : Nat}, k ≤ 1000 → k ≤ sizeLine := fun {k} h => Nat.le_trans h (by decide)
  have lR : ∀ R : List (Addr × List Int), (rR R).length = R.length := fun R => List.length_map ..
  refine ⟨_, rfl, t, _, rfl, SqT.of hT.at_, rfl, _, _, rfl, _, _, rfl, _, _, rfl, _, _, rfl, rfl, ?_⟩
  refine ⟨_, rfl, _, _, rfl, rfl, ⟨by decide, by decide, by decide⟩, p, b - 1, _, rfl, P.less (by omega), by decide, by decide, fun H2 far f0 f1 P2 B2 => ?_⟩
  clear f1
  refine ⟨_, rfl, p, b - 2, 9, rfl, P2.less (by omega), by decide, by decide, fun H3 way w0 w1 P3 B3 => ?_⟩
  have b3 := B2.one.trans B3.one
  have T3 := hT.but P b3 hpp hgp
  refine ⟨_, rfl, _, rfl, pa, _, rfl, .inl (SqL.of T3.rw.at_), ?_⟩
  rw [lR]
  refine ⟨_, _, rfl, rfl, p, b - 3, _, rfl, P3.less (by omega), by omega, small (by omega) (by omega), fun H4 at_ a0 a1 P4 B4 => ?_⟩
  clear w0 w1 a0 a1
  have b4 := b3.trans B4.one
  have T4 := T3.but P3 B4.one hpp hgp
  have P1 := P4
  have R1 := T4.rw
  have g1 := T4.go
  clear T4 P4 B4 T3 b3 P3 B3 P2 B2 hT
  -- way 0
  refine ⟨BentJ K H p t far way at_ (R.length + 1) gs.length (b - 10), ?_, ?_⟩
  · refine ⟨_, rfl, rfl, _, rfl, ?_⟩
    refine iteB (fun _ => ?_) (fun _ => ⟨n, e, pa, ga, R, gs, _, _, _, rfl, b4, P1.less (by omega), R1, g1, hpp, hgp, by omega, Nat.le_refl _⟩)
    refine ⟨_, rfl, (by show 2 ≤ sizeLine; decide), fun t1 h1 => ?_⟩
    refine ⟨_, rfl, _, rfl, _, _, rfl, rfl, (by show 2 ≤ sizeLine; decide), fun t2 h2 => ?_⟩
    refine ⟨_, rfl, (by show 2 ≤ sizeLine; decide), fun t3 h3 => ?_⟩
    refine ⟨_, rfl, _, rfl, _, _, rfl, rfl, (by show 2 ≤ sizeLine; decide), fun t4 h4 => ?_⟩
    refine ⟨(by show 1 ≤ sizeLine; decide), fun t5 h5 => ?_⟩
    refine ⟨(by show 3 ≤ sizeLine; decide), fun t6 h6 => ?_⟩
    refine ⟨(by show 0 ≤ sizeLine; decide), fun t7 h7 => ?_⟩
    refine ⟨(by show 7 ≤ sizeLine; decide), fun l hl => ?_⟩
    have Z := (((((((TS.nil H4).snoc (r := [n, 0]) h1).snoc (r := [0, n + far]) h2).snoc (r := [-1, 0]) h3).snoc (r := [0, -1 - far]) h4).snoc (r := [0]) h5).snoc (r := [0, 0, 0]) h6).snoc (r := []) h7
    have Y := same_upd (o := .lst [.ref t1, .ref t2, .ref t3, .ref t4, .ref t5, .ref t6, .ref t7]) (Same.refl _) hl
    have SZ := Z.1.trans Y
    have HZ : ∀ q ∈ [(t1, [n, 0]), (t2, [0, n + far]), (t3, [-1, 0]), (t4, [0, -1 - far]), (t5, [0]), (t6, [0, 0, 0]), (t7, [])], _ := fun q hq => Y _ _ (Z.2 q hq)
    refine ⟨_, rfl, p, b - 4, 7, rfl, (P1.same SZ).less (by omega), by decide, by decide, fun H5 y y0 y1 P5 B5 => ?_⟩
    have hlp : l ≠ p := (P1.same Z.1).ne_new hl
    have hl5 := B5.one l _ hlp upd_same
    have b5 := (b4.trans fun b o _ h => SZ b o h).trans B5.one
    have R5 := (R1.same SZ).but (P1.same SZ) B5.one hpp
    have g5 := B5.one ga _ hgp (SZ _ _ g1)
    have HZ5 : ∀ q ∈ [(t1, [n, 0]), (t2, [0, n + far]), (t3, [-1, 0]), (t4, [0, -1 - far]), (t5, [0]), (t6, [0, 0, 0]), (t7, [])], H5 q.1 = some (.tup (q.2.map V.int)) := fun q hq => by
      obtain ⟨xs, hp⟩ := (P1.same SZ).lst
      exact B5.one _ _ (ne_of (HZ q hq) hp (by intro z; cases z)) (HZ q hq)
    clear HZ SZ Y Z
    obtain ⟨W, hW, lW⟩ : ∃ W : List (Addr × List Int), W = [(t1, [n, 0]), (t2, [0, n + far]), (t3, [-1, 0]), (t4, [0, -1 - far]), (t5, [0]), (t6, [0, 0, 0]), (t7, [])] ∧ W.length = 7 := ⟨_, rfl, rfl⟩
    have hl6 : H5 l = some (.lst (rR W)) := by rw [hl5, hW]; rfl
    have ly : y.toNat < W.length := by omega
    have HW : H5 W[y.toNat].1 = some (.tup (W[y.toNat].2.map V.int)) := HZ5 _ (by rw [← hW]; exact List.getElem_mem ly)
    refine ⟨l, _, y, _, rfl, rfl, SqL.of hl6, atI_pos (v := .ref W[y.toNat].1) y0 (by rw [List.getElem?_map, List.getElem?_eq_getElem ly]; rfl), ?_⟩
    revert HW
    generalize W[y.toNat] = q0
    intro HW
    obtain ⟨A1, B1, eA, eB, lAB, sA, sB⟩ := cuts_rows R at_
    refine ⟨_, rfl, _, rfl, _, rfl, pa, _, rfl, SqL.of R5.at_, fun p1 h1 => ?_⟩
    rw [eA]
    have s1 := same_upd (o := .lst (rR A1)) (Same.refl H5) h1
    have r1 := R5.cut h1 sA
    refine ⟨_, rfl, (by show 1 ≤ sizeLine; decide), fun p2 h2 => ?_⟩
    have s2 := same_upd (o := .lst [.ref q0.1]) s1 h2
    have r2 := RowsT.one (s1 _ _ HW) h2
    have r1' := r1.new (x := .lst [.ref q0.1]) h2
    refine ⟨p1, p2, rR A1, rR [q0], rfl, rfl, r1'.at_, r2.at_, by rw [lR]; exact big (by show A1.length + 1 ≤ 1000; omega), fun p3 h3 => ?_⟩
    have r3 := r1'.cat r2 h3
    have s3 := same_upd (o := .lst (rR A1 ++ rR [q0])) s2 h3
    refine ⟨_, rfl, _, rfl, _, rfl, pa, _, rfl, SqL.of (R5.same s3).at_, fun p4 h4 => ?_⟩
    rw [eB]
    have r4 := (R5.same s3).cut h4 sB
    have r3' := r3.new (x := .lst (rR B1)) h4
    have s4 := same_upd (o := .lst (rR B1)) s3 h4
    refine ⟨p3, p4, rR (A1 ++ [q0]), rR B1, rfl, rfl, r3'.at_, r4.at_, by rw [lR, lR, List.length_append, List.length_singleton]; exact big (by omega), fun p5 h5 => ?_⟩
    have r5 := r3'.cat r4 h5
    have s5 := same_upd (o := .lst (rR (A1 ++ [q0]) ++ rR B1)) s4 h5
    exact ⟨n, e, p5, ga, _, gs, _, _, _, rfl, b5.trans fun b o _ h => s5 b o h, (P5.same s5).less (by omega), r5, s5 _ _ g5, (P5.same s4).ne_new h5, hgp, by rw [List.length_append, List.length_append, List.length_singleton]; omega, Nat.le_refl _⟩
  generalize hc0 : R.length = c at hc q ⊢
  generalize hg0 : gs.length = g at hg q ⊢
  clear hc0 hg0 R1 g1 P1 b4 hpp hgp
  -- way 1
  rintro σ1 H1 J1
  refine ⟨BentJ K H p t far way at_ (c + 2) (g) (b - 13), ?_, ?_⟩
  · obtain ⟨n, e, pa, ga, R, gs, v1, v2, v3, rfl, b1, P1, R1, g1, hpp, hgp, lc, lg⟩ := J1
    refine ⟨_, rfl, rfl, _, rfl, ?_⟩
    have same : BentJ K H p t far way at_ (c + 2) (g) (b - 13) [some (.ref p), some (.ref t), some (.int n), some (.ref pa), some (.int e), some (.ref ga), some (.int far), some (.int way), some (.int at_), v1, v2, v3] H1 := ⟨n, e, pa, ga, R, gs, v1, v2, v3, rfl, b1, P1.less (by omega), R1, g1, hpp, hgp, by omega, by omega⟩
    refine iteB (fun _ => ?_) (fun _ => same)
    refine ⟨_, rfl, (by show 0 ≤ sizeLine; decide), fun na hna => ?_⟩
    have s0 := same_upd (o := .lst []) (Same.refl H1) hna
    refine ⟨.list ((rows R).map dR), .list [], .lst (SqL.of (s0 _ _ R1.at_)) (dp_rows R fun q hq => s0 _ _ (R1.tup q hq)), .lst (SqL.of upd_same) .nil, shaped_lrows _, rfl, ?_⟩
    have same' : BentJ K H p t far way at_ (c + 2) (g) (b - 13) [some (.ref p), some (.ref t), some (.int n), some (.ref pa), some (.int e), some (.ref ga), some (.int far), some (.int way), some (.int at_), v1, v2, v3] (upd H1 na (.lst [])) := ⟨n, e, pa, ga, R, gs, v1, v2, v3, rfl, b1.trans fun b o _ h => s0 b o h, (P1.same s0).less (by omega), R1.same s0, s0 _ _ g1, hpp, hgp, by omega, by omega⟩
    refine ⟨_, rfl, ?_⟩
    cases R with
    | nil => exact iteF same'
    | cons r0 Rr =>
    refine iteT ?_
    clear same' same
    generalize hRR : r0 :: Rr = R at R1 lc ⊢
    have pos : 0 < R.length := by rw [← hRR]; simp
    clear hRR
    obtain ⟨A1, B1, eA, eB, lAB, sA, sB⟩ := cuts_rows R at_
    have R2 := R1.same s0
    have P2 := P1.same s0
    refine ⟨_, rfl, _, rfl, _, rfl, pa, _, rfl, SqL.of R2.at_, fun p1 h1 => ?_⟩
    rw [eA]
    have s1 := same_upd (o := .lst (rR A1)) s0 h1
    have r1 := R2.cut h1 sA
    have p1p : p1 ≠ p := P2.ne_new h1
    refine ⟨_, rfl, _, rfl, _, rfl, pa, _, rfl, .inl (SqL.of (R1.same s1).at_), ?_⟩
    rw [lR]
    refine ⟨p, b - 11, _, rfl, (P1.same s1).less (by omega), by omega, small (by omega) (by omega), fun H5 y y0 y1 P5 B5 => ?_⟩
    have R5 := (R1.same s1).but (P1.same s1) B5.one hpp
    have r5 := r1.but (P1.same s1) B5.one p1p
    have g5 := B5.one ga _ hgp (s1 _ _ g1)
    have b5 := (b1.trans fun b o _ h => s1 b o h).trans B5.one
    have ly : y.toNat < R.length := by omega
    refine ⟨pa, _, y, _, rfl, rfl, SqL.of R5.at_, atI_pos (v := .ref R[y.toNat].1) y0 (by rw [List.getElem?_map, List.getElem?_eq_getElem ly]; rfl), ?_⟩
    have HW := R5.tup _ (List.getElem_mem ly)
    revert HW
    generalize R[y.toNat] = q0
    intro HW
    refine ⟨(by show 1 ≤ sizeLine; decide), fun p2 h2 => ?_⟩
    have s2 := same_upd (o := .lst [.ref q0.1]) (Same.refl H5) h2
    have r2 := RowsT.one HW h2
    have r1' := r5.new (x := .lst [.ref q0.1]) h2
    refine ⟨p1, p2, rR A1, rR [q0], rfl, rfl, r1'.at_, r2.at_, by rw [lR]; exact big (by show A1.length + 1 ≤ 1000; omega), fun p3 h3 => ?_⟩
    have r3 := r1'.cat r2 h3
    have s3 := same_upd (o := .lst (rR A1 ++ rR [q0])) s2 h3
    refine ⟨_, rfl, _, rfl, _, rfl, pa, _, rfl, SqL.of (R5.same s3).at_, fun p4 h4 => ?_⟩
    rw [eB]
    have r4 := (R5.same s3).cut h4 sB
    have r3' := r3.new (x := .lst (rR B1)) h4
    have s4 := same_upd (o := .lst (rR B1)) s3 h4
    refine ⟨p3, p4, rR (A1 ++ [q0]), rR B1, rfl, rfl, r3'.at_, r4.at_, by rw [lR, lR, List.length_append, List.length_singleton]; exact big (by omega), fun p5 h5 => ?_⟩
    have r6 := r3'.cat r4 h5
    have s5 := same_upd (o := .lst (rR (A1 ++ [q0]) ++ rR B1)) s4 h5
    exact ⟨n, e, p5, ga, _, gs, _, _, _, rfl, b5.trans fun b o _ h => s5 b o h, (P5.same s5).less (by omega), r6, s5 _ _ g5, (P5.same s4).ne_new h5, hgp, by rw [List.length_append, List.length_append, List.length_singleton]; omega, lg⟩
  -- way 2
  rintro σ1 H1 J1
  refine ⟨BentJ K H p t far way at_ (c + 2) (g) (b - 15), ?_, ?_⟩
  · obtain ⟨n, e, pa, ga, R, gs, v1, v2, v3, rfl, b1, P1, R1, g1, hpp, hgp, lc, lg⟩ := J1
    refine ⟨_, rfl, rfl, _, rfl, ?_⟩
    refine iteB (fun _ => ?_) (fun _ => ⟨n, e, pa, ga, R, gs, v1, v2, v3, rfl, b1, P1.less (by omega), R1, g1, hpp, hgp, by omega, by omega⟩)
    refine ⟨_, rfl, _, rfl, _, rfl, _, rfl, _, _, rfl, rfl, _, rfl, _, rfl, _, _, rfl, rfl, (by show 4 ≤ sizeLine; decide), fun l hl => ?_⟩
    have sl := same_upd (o := .lst ([(-1 : Int), n, n + far, -1 - far].map V.int)) (Same.refl H1) hl
    refine ⟨_, rfl, p, b - 14, 4, rfl, (P1.same sl).less (by omega), by decide, by decide, fun H6 y y0 y1 P6 B6 => ?_⟩
    have lp := P1.ne_new hl
    have hl6 : H6 l = some (.lst ([(-1 : Int), n, n + far, -1 - far].map V.int)) := B6.one l _ lp upd_same
    have ly : y.toNat < ([(-1 : Int), n, n + far, -1 - far] : List Int).length := by
      show y.toNat < 4
      omega
    refine ⟨l, _, y, _, rfl, rfl, SqL.of hl6, atI_pos (v := .int ([(-1 : Int), n, n + far, -1 - far] : List Int)[y.toNat]) y0 (by rw [List.getElem?_map, List.getElem?_eq_getElem ly]; rfl), ?_⟩
    generalize ([(-1 : Int), n, n + far, -1 - far] : List Int)[y.toNat] = z
    exact ⟨n, z, pa, ga, R, gs, _, _, _, rfl, (b1.trans fun b o _ h => sl b o h).trans B6.one, P6.less (by omega), (R1.same sl).but (P1.same sl) B6.one hpp, B6.one ga _ hgp (sl _ _ g1), hpp, hgp, lc, lg⟩
  -- way 3
  rintro σ1 H1 J1
  refine ⟨BentJ K H p t far way at_ (c + 2) (g + 1) (b - 19), ?_, ?_⟩
  · obtain ⟨n, e, pa, ga, R, gs, v1, v2, v3, rfl, b1, P1, R1, g1, hpp, hgp, lc, lg⟩ := J1
    refine ⟨_, rfl, rfl, _, rfl, ?_⟩
    refine iteB (fun _ => ?_) (fun _ => ⟨n, e, pa, ga, R, gs, v1, v2, v3, rfl, b1, P1.less (by omega), R1, g1, hpp, hgp, by omega, by omega⟩)
    refine ⟨_, rfl, _, rfl, ga, _, rfl, .inl (SqL.of g1), ?_⟩
    rw [List.length_map]
    refine ⟨_, _, rfl, rfl, p, b - 16, _, rfl, P1.less (by omega), by omega, small (by omega) (by omega), fun H2 spot z0 z1 P2 B2 => ?_⟩
    have g2 := B2.one ga _ hgp g1
    have R2 := R1.but P1 B2.one hpp
    have b2 := b1.trans B2.one
    obtain ⟨A1, B1, eA, eB, lAB⟩ := cuts_ints gs spot
    refine ⟨_, rfl, _, rfl, _, rfl, ga, _, rfl, SqL.of g2, fun p1 h1 => ?_⟩
    rw [eA]
    have s1 := same_upd (o := .lst (A1.map V.int)) (Same.refl H2) h1
    have k1 : (upd H2 p1 (.lst (A1.map V.int))) p1 = some (.lst (A1.map V.int)) := upd_same
    have p1p := P2.ne_new h1
    have P3 := P2.same s1
    have R3 := R2.same s1
    have g3 := s1 _ _ g2
    have b3 := b2.trans fun b o _ h => s1 b o h
    revert k1 P3 R3 g3 b3
    generalize upd H2 p1 (.lst (A1.map V.int)) = H3
    intro k1 P3 R3 g3 b3
    refine ⟨_, rfl, _, rfl, _, rfl, _, rfl, _, _, rfl, rfl, _, rfl, _, rfl, _, _, rfl, rfl, (by show 4 ≤ sizeLine; decide), fun l hl => ?_⟩
    have sl := same_upd (o := .lst ([(-1 : Int), n, n + far, -1 - far].map V.int)) (Same.refl H3) hl
    refine ⟨_, rfl, p, b - 17, 4, rfl, (P3.same sl).less (by omega), by decide, by decide, fun H6 y y0 y1 P6 B6 => ?_⟩
    have lp := P3.ne_new hl
    have hl6 : H6 l = some (.lst ([(-1 : Int), n, n + far, -1 - far].map V.int)) := B6.one l _ lp upd_same
    have ly : y.toNat < ([(-1 : Int), n, n + far, -1 - far] : List Int).length := by
      show y.toNat < 4
      omega
    refine ⟨l, _, y, _, rfl, rfl, SqL.of hl6, atI_pos (v := .int ([(-1 : Int), n, n + far, -1 - far] : List Int)[y.toNat]) y0 (by rw [List.getElem?_map, List.getElem?_eq_getElem ly]; rfl), ?_⟩
    generalize ([(-1 : Int), n, n + far, -1 - far] : List Int)[y.toNat] = z
    have k6 := B6.one p1 _ p1p (sl _ _ k1)
    have g6 := B6.one ga _ hgp (sl _ _ g3)
    have R6 := (R3.same sl).but (P3.same sl) B6.one hpp
    have b6 := (b3.trans fun b o _ h => sl b o h).trans B6.one
    refine ⟨(by show 1 ≤ sizeLine; decide), fun p2 h2 => ?_⟩
    have s2 := same_upd (o := .lst ([z].map V.int)) (Same.refl H6) h2
    refine ⟨p1, p2, A1.map V.int, [z].map V.int, rfl, rfl, s2 _ _ k6, upd_same, by rw [List.length_map]; exact big (by show A1.length + 1 ≤ 1000; omega), fun p3 h3 => ?_⟩
    rw [ints_app]
    have s3 := same_upd (o := .lst ((A1 ++ [z]).map V.int)) s2 h3
    refine ⟨_, rfl, _, rfl, _, rfl, ga, _, rfl, SqL.of (s3 _ _ g6), fun p4 h4 => ?_⟩
    rw [eB]
    have s4 := same_upd (o := .lst (B1.map V.int)) s3 h4
    have k4 : (upd (upd (upd H6 p2 (.lst ([z].map V.int))) p3 (.lst ((A1 ++ [z]).map V.int))) p4 (.lst (B1.map V.int))) p3 = some (.lst ((A1 ++ [z]).map V.int)) := by rw [upd_ne (ne_of_none (o := .lst ((A1 ++ [z]).map V.int)) upd_same h4), upd_same]
    refine ⟨p3, p4, (A1 ++ [z]).map V.int, B1.map V.int, rfl, rfl, k4, upd_same, by rw [List.length_map, List.length_map, List.length_append, List.length_singleton]; exact big (by omega), fun p5 h5 => ?_⟩
    rw [ints_app]
    have s5 := same_upd (o := .lst ((A1 ++ [z] ++ B1).map V.int)) s4 h5
    exact ⟨n, e, pa, p5, R, A1 ++ [z] ++ B1, _, _, _, rfl, b6.trans fun b o _ h => s5 b o h, (P6.same s5).less (by omega), R6.same s5, upd_same, hpp, (P6.same s4).ne_new h5, lc, by rw [List.length_append, List.length_append, List.length_singleton]; omega⟩
  -- way 4
  rintro σ1 H1 J1
  refine ⟨BentJ K H p t far way at_ (c + 2) (g + 1) (b - 20), ?_, ?_⟩
  · obtain ⟨n, e, pa, ga, R, gs, v1, v2, v3, rfl, b1, P1, R1, g1, hpp, hgp, lc, lg⟩ := J1
    refine ⟨_, rfl, rfl, _, rfl, ?_⟩
    refine iteB (fun _ => ?_) (fun _ => ⟨n, e, pa, ga, R, gs, v1, v2, v3, rfl, b1, P1.less (by omega), R1, g1, hpp, hgp, by omega, by omega⟩)
    refine ⟨(by show 0 ≤ sizeLine; decide), fun na hna => ?_⟩
    have s0 := same_upd (o := .lst []) (Same.refl H1) hna
    exact ⟨n, e, pa, na, R, [], _, _, _, rfl, b1.trans fun b o _ h => s0 b o h, (P1.same s0).less (by omega), R1.same s0, upd_same, hpp, P1.ne_new hna, lc, by simp⟩
  -- way 5
  rintro σ1 H1 J1
  refine ⟨BentJ K H p t far way at_ (c + 2) (g + 1) (b - 21), ?_, ?_⟩
  · obtain ⟨n, e, pa, ga, R, gs, v1, v2, v3, rfl, b1, P1, R1, g1, hpp, hgp, lc, lg⟩ := J1
    refine ⟨_, rfl, rfl, _, rfl, ?_⟩
    have same : BentJ K H p t far way at_ (c + 2) (g + 1) (b - 21) [some (.ref p), some (.ref t), some (.int n), some (.ref pa), some (.int e), some (.ref ga), some (.int far), some (.int way), some (.int at_), v1, v2, v3] H1 := ⟨n, e, pa, ga, R, gs, v1, v2, v3, rfl, b1, P1.less (by omega), R1, g1, hpp, hgp, by omega, by omega⟩
    refine iteB (fun _ => ?_) (fun _ => same)
    refine ⟨_, rfl, (by show 0 ≤ sizeLine; decide), fun na hna => ?_⟩
    have s0 := same_upd (o := .lst []) (Same.refl H1) hna
    refine ⟨.list ((rows R).map dR), .list [], .lst (SqL.of (s0 _ _ R1.at_)) (dp_rows R fun q hq => s0 _ _ (R1.tup q hq)), .lst (SqL.of upd_same) .nil, shaped_lrows _, rfl, ?_⟩
    have same' : BentJ K H p t far way at_ (c + 2) (g + 1) (b - 21) [some (.ref p), some (.ref t), some (.int n), some (.ref pa), some (.int e), some (.ref ga), some (.int far), some (.int way), some (.int at_), v1, v2, v3] (upd H1 na (.lst [])) := ⟨n, e, pa, ga, R, gs, v1, v2, v3, rfl, b1.trans fun b o _ h => s0 b o h, (P1.same s0).less (by omega), R1.same s0, s0 _ _ g1, hpp, hgp, by omega, by omega⟩
    refine ⟨_, rfl, ?_⟩
    cases R with
    | nil => exact iteF same'
    | cons r0 Rr =>
    refine iteT ?_
    clear same' same
    generalize hRR : r0 :: Rr = R at R1 lc ⊢
    have pos : 0 < R.length := by rw [← hRR]; simp
    clear hRR
    obtain ⟨A1, eA, lA, sA⟩ := cut_rows R (some 1) none
    have R2 := R1.same s0
    have P2 := P1.same s0
    refine ⟨_, rfl, _, rfl, pa, _, rfl, SqL.of R2.at_, fun p1 h1 => ?_⟩
    rw [eA]
    have s1 := same_upd (o := .lst (rR A1)) s0 h1
    exact ⟨n, e, p1, ga, A1, gs, _, _, _, rfl, b1.trans fun b o _ h => s1 b o h, (P1.same s1).less (by omega), R2.cut h1 sA, s1 _ _ g1, P2.ne_new h1, hgp, by omega, lg⟩
  -- way 6
  rintro σ1 H1 J1
  refine ⟨BentJ K H p t far way at_ (c + 2) (2 * g + 2) (b - 22), ?_, ?_⟩
  · obtain ⟨n, e, pa, ga, R, gs, v1, v2, v3, rfl, b1, P1, R1, g1, hpp, hgp, lc, lg⟩ := J1
    refine ⟨_, rfl, rfl, _, rfl, ?_⟩
    refine iteB (fun _ => ?_) (fun _ => ⟨n, e, pa, ga, R, gs, v1, v2, v3, rfl, b1, P1.less (by omega), R1, g1, hpp, hgp, by omega, by omega⟩)
    obtain ⟨A1, eA, lA⟩ := cut_ints gs (some 1) none
    refine ⟨_, rfl, _, rfl, ga, _, rfl, SqL.of g1, fun p1 h1 => ?_⟩
    rw [eA]
    have s1 := same_upd (o := .lst (A1.map V.int)) (Same.refl H1) h1
    refine ⟨_, rfl, _, rfl, ga, _, rfl, SqL.of (s1 _ _ g1), fun p2 h2 => ?_⟩
    rw [eA]
    have s2 := same_upd (o := .lst (A1.map V.int)) s1 h2
    have k1 : (upd (upd H1 p1 (.lst (A1.map V.int))) p2 (.lst (A1.map V.int))) p1 = some (.lst (A1.map V.int)) := by rw [upd_ne (ne_of_none (o := .lst (A1.map V.int)) upd_same h2), upd_same]
    refine ⟨p1, p2, A1.map V.int, A1.map V.int, rfl, rfl, k1, upd_same, by rw [List.length_map]; exact big (by omega), fun p3 h3 => ?_⟩
    rw [ints_app]
    have s3 := same_upd (o := .lst ((A1 ++ A1).map V.int)) s2 h3
    exact ⟨n, e, pa, p3, R, A1 ++ A1, _, _, _, rfl, b1.trans fun b o _ h => s3 b o h, (P1.same s3).less (by omega), R1.same s3, upd_same, hpp, (P1.same s2).ne_new h3, lc, by rw [List.length_append]; omega⟩
  -- way 7
  rintro σ1 H1 J1
  refine ⟨BentJ K H p t far way at_ (c + 2) (2 * g + 2) (b - 24), ?_, ?_⟩
  · obtain ⟨n, e, pa, ga, R, gs, v1, v2, v3, rfl, b1, P1, R1, g1, hpp, hgp, lc, lg⟩ := J1
    refine ⟨_, rfl, rfl, _, rfl, ?_⟩
    refine iteB (fun _ => ?_) (fun _ => ⟨n, e, pa, ga, R, gs, v1, v2, v3, rfl, b1, P1.less (by omega), R1, g1, hpp, hgp, by omega, by omega⟩)
    refine ⟨_, rfl, _, rfl, _, _, rfl, rfl, _, rfl, _, _, rfl, rfl, _, rfl, _, _, rfl, rfl, (by show 6 ≤ sizeLine; decide), fun l hl => ?_⟩
    have sl := same_upd (o := .lst ([(0 : Int), 25, -1 - far, 25 + far, n + 1, 24].map V.int)) (Same.refl H1) hl
    refine ⟨_, rfl, p, b - 23, 6, rfl, (P1.same sl).less (by omega), by decide, by decide, fun H6 y y0 y1 P6 B6 => ?_⟩
    have lp := P1.ne_new hl
    have hl6 : H6 l = some (.lst ([(0 : Int), 25, -1 - far, 25 + far, n + 1, 24].map V.int)) := B6.one l _ lp upd_same
    have ly : y.toNat < ([(0 : Int), 25, -1 - far, 25 + far, n + 1, 24] : List Int).length := by
      show y.toNat < 6
      omega
    refine ⟨l, _, y, _, rfl, rfl, SqL.of hl6, atI_pos (v := .int ([(0 : Int), 25, -1 - far, 25 + far, n + 1, 24] : List Int)[y.toNat]) y0 (by rw [List.getElem?_map, List.getElem?_eq_getElem ly]; rfl), ?_⟩
    generalize ([(0 : Int), 25, -1 - far, 25 + far, n + 1, 24] : List Int)[y.toNat] = z
    exact ⟨z, e, pa, ga, R, gs, _, _, _, rfl, (b1.trans fun b o _ h => sl b o h).trans B6.one, P6.less (by omega), (R1.same sl).but (P1.same sl) B6.one hpp, B6.one ga _ hgp (sl _ _ g1), hpp, hgp, lc, lg⟩
  -- way 8
  rintro σ1 H1 J1
  refine ⟨BentJ K H p t far way at_ (c + 100) (2 * g + 2) (b - 30), ?_, ?_⟩
  · obtain ⟨n, e, pa, ga, R, gs, v1, v2, v3, rfl, b1, P1, R1, g1, hpp, hgp, lc, lg⟩ := J1
    refine ⟨_, rfl, rfl, _, rfl, ?_⟩
    refine iteB (fun _ => ?_) (fun _ => ⟨n, e, pa, ga, R, gs, v1, v2, v3, rfl, b1, P1.less (by omega), R1, g1, hpp, hgp, by omega, by omega⟩)
    refine ⟨_, rfl, p, b - 25, 2, rfl, P1.less (by omega), by decide, by decide, fun H2 d d0 d1 P2 B2 => ⟨_, _, rfl, rfl, _, rfl, by omega, by omega, fun D hD => ?_⟩⟩
    have R2 := R1.but P1 B2.one hpp
    have g2 := B2.one ga _ hgp g1
    have b2 := b1.trans B2.one
    refine lc_range (n := (80 + d).toNat) (fun i H' => ∃ M : List (Addr × List Int), Same H2 H' ∧ RowsT H' D M ∧ M.length = i) ⟨[], same_upd (Same.refl H2) hD, ⟨upd_same, fun _ z => nomatch z⟩, rfl⟩ ?_ ?_
    · rintro i H3 hi ⟨M, s3, hM, lM⟩
      refine ⟨rfl, _, rfl, _, _, rfl, rfl, ⟨by decide, by decide⟩, _, rfl, _, _, rfl, rfl, (by show (0 : Int) < 9; decide), (by show 2 ≤ sizeLine; decide), fun tp ht => ?_⟩
      have hM2 := (hM.new (x := .tup ([(0 + (i : Int)) / 9, (0 + (i : Int)) % 9].map V.int)) ht).at_
      refine ⟨rR M, hM2, ?_, ?_⟩
      · rw [lR]
        exact Nat.lt_of_le_of_lt (show M.length ≤ 100 by omega) (by decide)
      · have nD : D ≠ tp := ne_of_none hM.at_ ht
        have s4 := same_upd (o := .tup ([(0 + (i : Int)) / 9, (0 + (i : Int)) % 9].map V.int)) s3 ht
        refine ⟨M ++ [(tp, [(0 + (i : Int)) / 9, (0 + (i : Int)) % 9])], fun b o h => ?_, ⟨?_, fun q hq => ?_⟩, by rw [List.length_append, List.length_singleton, lM]⟩
        · rw [upd_ne (ne_of_none h hD)]
          exact s4 b o h
        · rw [upd_same, ← rR_app]
          rfl
        · rcases List.mem_append.mp hq with hq | hq
          · have z := (hM.new (x := .tup ([(0 + (i : Int)) / 9, (0 + (i : Int)) % 9].map V.int)) ht).tup q hq
            rw [upd_ne (ne_of z hM2 (by intro z; cases z))]
            exact z
          · rw [List.mem_singleton.mp hq, upd_ne nD.symm]
            exact upd_same
    · rintro H3 ⟨M, s3, hM, lM⟩
      exact ⟨9, e, D, ga, M, gs, _, _, _, rfl, b2.trans fun b o _ h => s3 b o h, (P2.same s3).less (by omega), hM, s3 _ _ g2, P2.ne_new hD, hgp, by omega, lg⟩
  rintro σ1 H1 J1
  obtain ⟨n, e, pa, ga, R, gs, v1, v2, v3, rfl, b1, P1, R1, g1, hpp, hgp, lc, lg⟩ := J1
  refine ⟨_, rfl, _, rfl, _, rfl, _, rfl, (by show 4 ≤ sizeLine; decide), fun t' ht' => ?_⟩
  have s1 := same_upd (o := .tup [.int n, .ref pa, .int e, .ref ga]) (Same.refl H1) ht'
  exact q _ t' n e R gs pa ga (b1.trans fun b o _ h => s1 b o h) ((P1.same s1).less (by omega)) ⟨upd_same, R1.same s1, s1 _ _ g1⟩ lc lg hpp hgp
end
section
variable {P : Program} {w : World} {K : PySem.W.Frag} {mg : Str → Option Value} {base : Heap}

theorem cut_head_rows (R : List (Addr × List Int)) {i : Nat} (h : i ≤ R.length) : cutV (rR R) none (some (0 + (i : Int))) = rR (R.take i) := by
  rw [(cut_two (rR R) _).1, show (0 + (i : Int)) = ((i : Nat) : Int) by omega, HT.sIx_nat]
  rw [show min i (rR R).length = i by rw [List.length_map]; omega]
  exact (List.map_take ..).symm
def spBadEdge : Sp := fun vs H Q _ => ∃ (n : Int) (pa : Addr) (R : List (Addr × List Int)), vs = [.int n, .ref pa] ∧ RowsT H pa R ∧ R.length ≤ 2000 ∧
  (∀ (i : Nat) (H' : Hp), firstIx (badEdge n (rows R)) R.length = some i → Same H H' → Q (.int i) H') ∧ (∀ H', firstIx (badEdge n (rows R)) R.length = none → Same H H' → Q .non H')
theorem le_list {k : Nat} (h : k ≤ 4000) : k ≤ sizeLine := Nat.le_trans h (by decide)
abbrev s_bad_edge : Stmt := top 31
theorem sc_bad_edge : FnScope ["_law_count", "_law_pairs", "_law_k", "_law_pair"] ["_law_count", "_law_pairs"] (defScope s_bad_edge) := ⟨rfl, rfl, rfl, by decide +kernel, rfl, by decide +kernel, by decide +kernel⟩
theorem ok_bad_edge {fd : FuncData} (F : FunD K "_law_bad_edge" "_law_bad_edge" (defArgs s_bad_edge) (defBody s_bad_edge) (defScope s_bad_edge) [] [] (He.ga K "_law_bad_edge") fd) (T : TxX K mg) : FnOk P w K mg base CX0 1 (He.ga K "_law_bad_edge") fd ["_law_count", "_law_pairs"] spBadEdge := by
  refine F.ok sc_bad_edge (fun vs H Q E h => by obtain ⟨n, pa, R, rfl, _⟩ := h; rfl) (fun cdv A outer s H vs Q E hr h => ?_)
  obtain ⟨n, pa, R, rfl, hR, few, q1, q2⟩ := h
  refine ⟨_, PSs.nox (pss_cons (ps_for PassesOwn.never rfl (pi_range1 rfl T.n_range (pa_cons (pe_callB call_len_seq (by rfl) T.n_len PySem.boot_len (pa_cons (pv 1) pa_nil)) pa_nil)) (pg_name (i := 2) sc_bad_edge.nd rfl (Or.inl rfl))
      (pss_cons (ps_set (i := 3) sc_bad_edge.nd rfl (Or.inl rfl) (pe_ix ix_list (pv 1) (pv 2) (fun _ _ => rfl)))
    (pss_one (ps_if (PW.pt (pw_or (pt_cmpR op_ne (pe_callB call_len_seq (by rfl) T.n_len PySem.boot_len (pa_cons (pv 3) pa_nil)) pe_int (nomark _)) (pw_or (pt_not (pt_chain op_le op_lt pe_int (pe_ix ix_tup (pv 3) pe_int (fun _ _ => rfl)) (pv 0))) (pw_or (pt_not (pt_chain op_le op_lt pe_int (pe_ix ix_tup (pv 3) pe_int (fun _ _ => rfl)) (pv 0))) (pw_or1 (pt_cmpR (op_inD (units65 hr)) (pv 3) (pe_slice sl_list (pv 1) po_none (po_some (pv 2))) (by first | exact nomark _ | rfl))))))) (pss_one (ps_ret (pv 2))) pss_nil))))
    (pss_one (ps_ret pe_non))), ?_⟩
  have lR : (rR R).length = R.length := List.length_map ..
  refine ⟨_, rfl, pa, _, rfl, .inl (SqL.of hR.at_), ?_⟩
  rw [lR]
  refine ⟨_, rfl, by omega, by omega, for_range (lo := 0) (n := R.length) (fun i σ' H' => ∃ v2 v3 : Option V, σ' = [some (.int n), some (.ref pa), v2, v3] ∧ Same H H' ∧ ∀ j, j < i → badEdge n (rows R) j = false) ⟨none, none, rfl, Same.refl H, fun j hj => absurd hj (Nat.not_lt_zero j)⟩ ?_ ?_⟩
  · rintro i σ1 H1 hi ⟨v2, v3, rfl, s1, before⟩
    have R1 := hR.same s1
    have eR : R[i]? = some R[i] := List.getElem?_eq_getElem hi
    have aR : atI (rR R) (0 + (i : Int)) = some (.ref R[i].1) := by
      rw [show (0 + (i : Int)) = ((i : Nat) : Int) by omega]
      exact atI_nat (by rw [List.getElem?_map, eR]; rfl)
    have tup := R1.tup _ (List.getElem_mem hi)
    have hri : (rows R)[i]? = some R[i].2 := by rw [List.getElem?_map, eR]; rfl
    have bad : badEdge n (rows R) i = true → ∀ H', Same H H' → Q (.int (0 + (i : Int))) H' := fun y H' s => by
      rw [show (0 + (i : Int)) = ((i : Nat) : Int) by omega]
      exact q1 i H' (firstIx_some hi y before) s
    refine ⟨_, rfl, _, rfl, pa, _, _, _, rfl, rfl, SqL.of R1.at_, aR, ?_⟩
    revert tup hri
    generalize R[i] = r
    obtain ⟨ra, r⟩ := r
    intro tup hri
    have shape : ∀ b, okPair n r = b → badEdge n (rows R) i = (!b || decide (r ∈ (rows R).take i)) := fun b e => by rw [badEdge_at hri, e]
    refine ⟨_, rfl, ra, _, rfl, .inr (SqT.of tup), rfl, _, rfl, ?_⟩
    rw [List.length_map]
    by_cases two : r.length = 2
    case neg =>
      have ne : ¬ ((r.length : Int)) = 2 := fun z => two (by omega)
      rw [decide_eq_false (fun z => ne (V.int.inj z))]
      have no : okPair n r = false := by
        rw [← Bool.not_eq_true, okPair_iff]
        rintro ⟨u, v, rfl, _⟩
        exact two rfl
      exact iteT ⟨_, rfl, bad (by rw [shape _ no]; rfl) _ s1⟩
    obtain ⟨u, v, rfl⟩ : ∃ u v, r = [u, v] := by
      match r, two with
      | [u, v], _ => exact ⟨u, v, rfl⟩
    refine iteF ?_
    have no : ¬ ((0 ≤ u ∧ u < n) ∧ 0 ≤ v ∧ v < n) → ∀ H', Same H H' → Q (.int (0 + (i : Int))) H' := fun z => bad (by
      rw [shape false (decide_eq_false z)]
      rfl)
    refine ⟨_, rfl, ra, _, 0, .int u, rfl, rfl, SqT.of tup, rfl, _, _, rfl, rfl, _, rfl, ?_⟩
    by_cases u0 : 0 ≤ u
    case neg =>
      rw [decide_eq_false u0]
      refine iteF ⟨_, rfl, ?_⟩
      refine iteT ?_
      exact iteT ⟨_, rfl, no (fun z => u0 z.1.1) _ s1⟩
    rw [decide_eq_true u0]
    refine iteT ⟨_, rfl, _, _, rfl, rfl, ?_⟩
    by_cases u1 : u < n
    case neg =>
      refine ⟨_, rfl, ?_⟩
      rw [decide_eq_false u1]
      refine iteT ?_
      exact iteT ⟨_, rfl, no (fun z => u1 z.1.2) _ s1⟩
    refine ⟨_, rfl, ?_⟩
    rw [decide_eq_true u1]
    refine iteF ?_
    refine ⟨_, rfl, ra, _, 1, .int v, rfl, rfl, SqT.of tup, rfl, _, _, rfl, rfl, _, rfl, ?_⟩
    by_cases v0 : 0 ≤ v
    case neg =>
      rw [decide_eq_false v0]
      refine iteF ⟨_, rfl, ?_⟩
      refine iteT ?_
      exact iteT ⟨_, rfl, no (fun z => v0 z.2.1) _ s1⟩
    rw [decide_eq_true v0]
    refine iteT ⟨_, rfl, _, _, rfl, rfl, ?_⟩
    by_cases v1 : v < n
    case neg =>
      refine ⟨_, rfl, ?_⟩
      rw [decide_eq_false v1]
      refine iteT ?_
      exact iteT ⟨_, rfl, no (fun z => v1 z.2.2) _ s1⟩
    refine ⟨_, rfl, ?_⟩
    rw [decide_eq_true v1]
    refine iteF ?_
    have yes := shape true (decide_eq_true ⟨⟨u0, u1⟩, v0, v1⟩)
    refine ⟨_, rfl, _, rfl, _, rfl, _, rfl, pa, _, rfl, SqL.of R1.at_, fun p1 h1 => ?_⟩
    rw [cut_head_rows R (by omega)]
    have s2 := same_upd (o := .lst (rR (R.take i))) s1 h1
    have R2 := (hR.same s2)
    have eT : rows (R.take i) = (rows R).take i := List.map_take ..
    refine ⟨dR [u, v], (rows (R.take i)).map dR, dp_row ((same_upd (Same.refl H1) h1) _ _ tup), .lst (SqL.of upd_same) (dp_rows _ fun p hp => R2.tup p (List.mem_of_mem_take hp)), shaped_row _, shaped_lrows _, _, rfl, ?_⟩
    rw [any_rows, eT]
    by_cases m : [u, v] ∈ (rows R).take i
    · rw [decide_eq_true m]
      exact iteT ⟨_, rfl, bad (by rw [yes, decide_eq_true m]; rfl) _ s2⟩
    · rw [decide_eq_false m]
      refine iteF ⟨_, _, rfl, s2, fun j hj => ?_⟩
      by_cases e : j = i
      · rw [e, yes, decide_eq_false m]
        rfl
      · exact before j (by omega)
  · rintro σ1 H1 ⟨v2, v3, rfl, s1, before⟩
    exact q2 H1 (firstIx_none before) s1
end
section
variable {P : Program} {w : World} {K : PySem.W.Frag} {mg : Str → Option Value} {base : Heap}

def spLawIdle : Sp := fun vs H Q _ => ∃ (t : Addr) (n e : Int) (R : List (Addr × List Int)) (gs : List Int) (pa ga : Addr), vs = [.ref t] ∧ ToldX H t n R e gs pa ga ∧ (∀ r ∈ rows R, ∃ u v, r = [u, v]) ∧ 0 ≤ n ∧ n ≤ 24 ∧ R.length ≤ 80 ∧ gs.length ≤ 200 ∧
  (∀ (i : Nat) (H' : Hp), firstIx (idleB (rows R) e gs) n.toNat = some i → Same H H' → Q (.int i) H') ∧ (∀ H', firstIx (idleB (rows R) e gs) n.toNat = none → Same H H' → Q .non H')
def resV : Res → List V
  | .places v => [.str "places", .int v, .bl true]
  | .edges v => [.str "edges", .int v, .bl true]
  | .edge v => [.str "edge", .int v, .bl true]
  | .entry v => [.str "entry", .int v, .bl true]
  | .noExits => [.str "no exits", .int 0, .bl true]
  | .exit v => [.str "exit", .int v, .bl true]
  | .idle v => [.str "idle", .int v, .bl true]
  | .web => [.str "web", .int 0, .bl true]
theorem ok_kinds : PyData.strOk ("places" : Str) = true ∧ PyData.strOk ("edges" : Str) = true ∧ PyData.strOk ("edge" : Str) = true ∧ PyData.strOk ("entry" : Str) = true ∧ PyData.strOk ("no exits" : Str) = true ∧ PyData.strOk ("exit" : Str) = true ∧ PyData.strOk ("idle" : Str) = true ∧ PyData.strOk ("web" : Str) = true := by decide +kernel
theorem resV_ok (q : Res) : (resV q).all okV = true := by
  obtain ⟨k1, k2, k3, k4, k5, k6, k7, k8⟩ := ok_kinds
  cases q with
  | places v => show (PyData.strOk ("places" : Str) && true) = true; rw [k1]; rfl
  | edges v => show (PyData.strOk ("edges" : Str) && true) = true; rw [k2]; rfl
  | edge v => show (PyData.strOk ("edge" : Str) && true) = true; rw [k3]; rfl
  | entry v => show (PyData.strOk ("entry" : Str) && true) = true; rw [k4]; rfl
  | noExits => show (PyData.strOk ("no exits" : Str) && true) = true; rw [k5]; rfl
  | exit v => show (PyData.strOk ("exit" : Str) && true) = true; rw [k6]; rfl
  | idle v => show (PyData.strOk ("idle" : Str) && true) = true; rw [k7]; rfl
  | web => show (PyData.strOk ("web" : Str) && true) = true; rw [k8]; rfl
/-- the answer as data -/
def resD (q : Res) : PyData := .tuple ((resV q).map dV)
theorem dp_res {K : PySem.W.Frag} {H : Hp} {r : Addr} {q : Res} (h : H r = some (.tup (resV q))) : Dp K H (.ref r) (resD q) := .tup (SqT.of h) (dp_all (resV_ok q))
theorem shaped_res (q : Res) : SeqAt.shaped (resD q) = true := shaped_tup (resV_ok q)
def spLawDue : Sp := fun vs H Q _ => ∃ (t : Addr) (n e : Int) (R : List (Addr × List Int)) (gs : List Int) (pa ga : Addr), vs = [.ref t] ∧ ToldX H t n R e gs pa ga ∧ R.length ≤ 2000 ∧ gs.length ≤ 200 ∧ ∀ (H' : Hp) (r : Addr), Same H H' → H' r = some (.tup (resV (dueF n (rows R) e gs))) → Q (.ref r) H'
abbrev s_idle : Stmt := top 32
theorem sc_idle : FnScope ["_law_told", "_law_count", "_law_pairs", "_law_origin", "_law_goals", "_law_ahead_here", "_law_behind", "_law_place", "_law_one", "_law_two"] ["_law_told"] (defScope s_idle) := ⟨rfl, rfl, rfl, by decide +kernel, rfl, by decide +kernel, by decide +kernel⟩
theorem ok_idle {fd : FuncData} (F : FunD K "_law_idle" "_law_idle" (defArgs s_idle) (defBody s_idle) (defScope s_idle) [] [] (He.ga K "_law_idle") fd) (T : TxX K mg) (d_ahead : Okd P w K mg base CX0 1 (He.ga K "_law_ahead") ["_law_pairs", "_law_goals"] spAhead) : FnOk P w K mg base CX0 2 (He.ga K "_law_idle") fd ["_law_told"] spLawIdle := by
  obtain ⟨fd_ahead, G_ahead, b_ahead⟩ := d_ahead
  refine F.ok sc_idle (fun vs H Q E h => by obtain ⟨t, n, e, R, gs, pa, ga, rfl, _⟩ := h; rfl) (fun cdv A outer s H vs Q E hr h => ?_)
  obtain ⟨t, n, e, R, gs, pa, ga, rfl, hT, pr, n0, n1, few, lg, q1, q2⟩ := h
  refine ⟨_, PSs.nox (pss_cons (ps_asg (pv 0) (pg_tup rfl (pgs_cons (pg_name (i := 1) sc_idle.nd rfl (Or.inl rfl)) (pgs_cons (pg_name (i := 2) sc_idle.nd rfl (Or.inl rfl)) (pgs_cons (pg_name (i := 3) sc_idle.nd rfl (Or.inl rfl)) (pgs_cons (pg_name (i := 4) sc_idle.nd rfl (Or.inl rfl)) pgs_nil))))))
    (pss_cons (ps_set (i := 5) sc_idle.nd rfl (Or.inl rfl) (pe_call G_ahead (hr.mono (by decide)) (by rfl) T.g__law_ahead T.k__law_ahead b_ahead .nil pass0 (pa_cons (pv 2) (pa_cons (pv 4) pa_nil))))
    (pss_cons (ps_set (i := 6) sc_idle.nd rfl (Or.inl rfl) (pe_call G_ahead (hr.mono (by decide)) (by rfl) T.g__law_ahead T.k__law_ahead b_ahead .nil pass0 (pa_cons (pe_lc (own := [("_law_one", 8), ("_law_two", 9)]) (g := gSeq K 2 (gCons (gName 8) (gCons (gName 9) gNil))) (tt := tYes) rfl sc_idle.nd (pi_list (pv 2)) (blkOk_by (own := [("_law_one", 8), ("_law_two", 9)]) (N := ["_law_told", "_law_count", "_law_pairs", "_law_origin", "_law_goals", "_law_ahead_here", "_law_behind", "_law_place", "_law_one", "_law_two"]) (sc := defScope s_idle) (by decide +kernel)) (fun _ _ _ _ _ => (pg_seq rfl (pgs_cons (pg_name (i := 8) sc_idle.nd rfl (Or.inl rfl)) (pgs_cons (pg_name (i := 9) sc_idle.nd rfl (Or.inl rfl)) pgs_nil)))) (fun _ _ _ _ _ => pts_nil) (fun _ _ _ _ _ => (pe_tup (pa_cons (pv 9) (pa_cons (pv 8) pa_nil))))) (pa_cons (pe_lst (pa_cons (pv 3) pa_nil)) pa_nil))))
    (pss_cons (ps_for PassesOwn.never rfl (pi_range1 rfl T.n_range (pa_cons (pv 1) pa_nil)) (pg_name (i := 7) sc_idle.nd rfl (Or.inl rfl))
      (pss_one (ps_if (PW.pt (pw_or (pt_cmpR op_notIn_seq (pv 7) (pv 5) (by first | exact nomark _ | rfl)) (pw_or1 (pt_cmpR op_notIn_seq (pv 7) (pv 6) (by first | exact nomark _ | rfl))))) (pss_one (ps_ret (pv 7))) pss_nil)))
    (pss_one (ps_ret pe_non)))))), ?_⟩
  have hE := hT.rw.rows.edges pr
  have eP := toE_pairs R
  generalize hL : toE R = L at hE eP
  have lL : L.length = R.length := by rw [← hL]; exact List.length_map ..
  have lp : (pairs L).length = L.length := List.length_map ..
  refine ⟨_, rfl, t, _, rfl, SqT.of hT.at_, rfl, _, _, rfl, _, _, rfl, _, _, rfl, _, _, rfl, rfl, ?_⟩
  refine ⟨_, rfl, _, rfl, pa, ga, L, gs, rfl, hE, hT.go, by omega, by omega, fun H1 a1 m1 s1 h1 i1 => ?_⟩
  refine ⟨_, rfl, pa, rfl, ⟨_, SqL.of (s1 _ _ hE.1)⟩, fun D hD => lc_list (K := K) (a := pa) (xs := L.map fun p => V.ref p.1)
    (fun j H' => ∃ M : List (Addr × Edge), Same H1 H' ∧ H' D = some (.lst (M.map fun p => V.ref p.1)) ∧ (∀ p ∈ M, H' p.1 = some (.tup [.int p.2.1, .int p.2.2])) ∧ pairs M = turned ((pairs L).take j))
    ⟨[], same_upd (Same.refl H1) hD, upd_same, (fun _ z => nomatch z), rfl⟩ (fun j H' _ h => by obtain ⟨_, s, _⟩ := h; exact SqL.of (s _ _ (s1 _ _ hE.1))) ?_ ?_⟩
  · rintro j x H2 hj ⟨M, s2, hM, hMs, eM⟩
    obtain ⟨r, u, z, rfl, hLi, he, hpi⟩ := edge_at hE hj
    refine ⟨r, _, rfl, (he.same (s1.trans s2)).sq, rfl, _, _, rfl, _, _, rfl, rfl, ?_⟩
    refine ⟨rfl, _, rfl, _, rfl, (by show 2 ≤ sizeLine; decide), fun tp ht => ?_⟩
    have nD : D ≠ tp := ne_of_none hM ht
    have hlM : M.length = ((pairs L).take j).length := by
      have := congrArg List.length eM
      unfold turned at this
      rw [List.length_map, List.length_map] at this
      exact this
    have hjl : M.length ≤ 80 := by
      rw [hlM, List.length_take]
      omega
    refine ⟨M.map fun p => V.ref p.1, by rw [upd_ne nD]; exact hM, ?_, ?_⟩
    · rw [List.length_map]
      exact Nat.lt_of_le_of_lt hjl (by decide)
    · refine ⟨M ++ [(tp, (z, u))], fun b o e => ?_, ?_, fun p hp => ?_, ?_⟩
      · rw [upd_ne (ne_of_none e hD), upd_ne (ne_of_none (s2 b o e) ht)]
        exact s2 b o e
      · rw [upd_same, List.map_append]
        rfl
      · rcases List.mem_append.mp hp with hp | hp
        · have h0 := hMs p hp
          rw [upd_ne (ne_of h0 hM (by intro z; cases z)), upd_ne (ne_of_none h0 ht)]
          exact h0
        · rw [List.mem_singleton.mp hp]
          rw [upd_ne nD.symm, upd_same]
      · unfold turned at eM ⊢
        rw [take_next hpi, List.map_append, ← eM]
        exact List.map_append ..
  rintro H2 ⟨M, s2, hM, hMs, eM⟩
  rw [List.length_map, ← lp, List.take_length] at eM
  have lM : M.length = L.length := by
    have := congrArg List.length eM
    unfold turned at this
    rw [List.length_map, List.length_map] at this
    omega
  refine ⟨_, rfl, (by show 1 ≤ sizeLine; decide), fun oa hoa => ?_⟩
  have s3 := same_upd (o := .lst ([e].map V.int)) (Same.refl H2) hoa
  refine ⟨D, oa, M, [e], rfl, ⟨s3 _ _ hM, fun p hp => .inr (s3 _ _ (hMs p hp))⟩, upd_same, by omega, by rw [List.length_singleton]; omega, fun H4 a2 m2 s4 h2 i2 => ?_⟩
  have s24 := s3.trans s4
  have h1' := s24 _ _ (s2 _ _ h1)
  have sA := (s1.trans s2).trans s24
  refine ⟨_, rfl, n, rfl, by omega, by omega, for_range (lo := 0) (n := n.toNat) (fun j σ' H' => ∃ v7, σ' = [some (.ref t), some (.int n), some (.ref pa), some (.int e), some (.ref ga), some (.ref a1), some (.ref a2), v7, none, none] ∧ H' = H4 ∧ ∀ i, i < j → idleB (rows R) e gs i = false) ⟨none, rfl, rfl, fun i hi => absurd hi (Nat.not_lt_zero i)⟩ ?_ ?_⟩
  · rintro j σ' H' hj ⟨v7, rfl, rfl, before⟩
    have ej : (0 + (j : Int)) = (j : Int) := by omega
    have j1 : (j : Int) ∈ m1 ↔ ∃ x ∈ gs, Reach (edgesOf (rows R)) (j : Int) x := by
      rw [i1, eP]
    have j2 : (j : Int) ∈ m2 ↔ Reach (edgesOf (rows R)) e (j : Int) := by
      rw [i2, eM, eP]
      exact ⟨fun ⟨x, hx, r⟩ => by rw [List.mem_singleton.mp hx] at r; exact r.unturn, fun r => ⟨e, List.mem_cons_self, r.back⟩⟩
    have out : idleB (rows R) e gs j = true → Q (.int (j : Int)) H' := fun bad => q1 j _ (firstIx_some hj bad before) sA
    refine ⟨_, rfl, _, rfl, a1, _, rfl, .inl (SqL.of h1'), rfl, flat_ints m1, _, rfl, ?_⟩
    show if (!inV (V.int (0 + (j : Int))) (m1.map V.int)) = true then _ else _
    rw [inV_ints, ej]
    by_cases c1 : (j : Int) ∈ m1
    case neg =>
      rw [decide_eq_false c1]
      exact iteT (iteT ⟨_, rfl, out (idleB_true.mpr fun z => c1 (j1.mpr z.2))⟩)
    rw [decide_eq_true c1]
    refine iteF ?_
    refine ⟨_, rfl, _, rfl, a2, _, rfl, .inl (SqL.of h2), rfl, flat_ints m2, _, rfl, ?_⟩
    show if (!inV (V.int (j : Int)) (m2.map V.int)) = true then _ else _
    rw [inV_ints]
    by_cases c2 : (j : Int) ∈ m2
    case neg =>
      rw [decide_eq_false c2]
      exact iteT ⟨_, rfl, out (idleB_true.mpr fun z => c2 (j2.mpr z.1))⟩
    rw [decide_eq_true c2]
    refine iteF ⟨_, rfl, rfl, fun i hi => ?_⟩
    by_cases ei : i = j
    · rw [ei]
      exact idleB_false.mpr ⟨j2.mp c2, j1.mp c1⟩
    · exact before i (by omega)
  · rintro σ' H' ⟨v7, rfl, rfl, before⟩
    exact q2 _ (firstIx_none before) sA
end
section
variable {P : Program} {w : World} {K : PySem.W.Frag} {mg : Str → Option Value} {base : Heap}
abbrev s_due : Stmt := top 33
theorem sc_due : FnScope ["_law_told", "_law_count", "_law_pairs", "_law_origin", "_law_goals", "_law_place"] ["_law_told"] (defScope s_due) := ⟨rfl, rfl, rfl, by decide +kernel, rfl, by decide +kernel, by decide +kernel⟩
theorem ok_due {fd : FuncData} (F : FunD K "_law_due" "_law_due" (defArgs s_due) (defBody s_due) (defScope s_due) [] [] (He.ga K "_law_due") fd) (T : TxX K mg) (d_bad_edge : Okd P w K mg base CX0 1 (He.ga K "_law_bad_edge") ["_law_count", "_law_pairs"] spBadEdge) (d_idle : Okd P w K mg base CX0 2 (He.ga K "_law_idle") ["_law_told"] spLawIdle) : FnOk P w K mg base CX0 3 (He.ga K "_law_due") fd ["_law_told"] spLawDue := by
  obtain ⟨fd_bad_edge, G_bad_edge, b_bad_edge⟩ := d_bad_edge
  obtain ⟨fd_idle, G_idle, b_idle⟩ := d_idle
  refine F.ok sc_due (fun vs H Q E h => by obtain ⟨t, n, e, R, gs, pa, ga, rfl, _⟩ := h; rfl) (fun cdv A outer s H vs Q E hr h => ?_)
  obtain ⟨t, n, e, R, gs, pa, ga, rfl, hT, few, lg, q⟩ := h
  refine ⟨_, PSs.nox (pss_cons (ps_asg (pv 0) (pg_tup rfl (pgs_cons (pg_name (i := 1) sc_due.nd rfl (Or.inl rfl)) (pgs_cons (pg_name (i := 2) sc_due.nd rfl (Or.inl rfl)) (pgs_cons (pg_name (i := 3) sc_due.nd rfl (Or.inl rfl)) (pgs_cons (pg_name (i := 4) sc_due.nd rfl (Or.inl rfl)) pgs_nil))))))
    (pss_cons (ps_if (pt_not (pt_chain op_le op_le pe_int (pv 1) pe_int)) (pss_one (ps_ret (pe_tup (pa_cons pe_str (pa_cons (pv 1) (pa_cons pe_bl pa_nil)))))) pss_nil)
    (pss_cons (ps_if (pt_cmpR op_gt (pe_callB call_len_seq (by rfl) T.n_len PySem.boot_len (pa_cons (pv 2) pa_nil)) pe_int (nomark _)) (pss_one (ps_ret (pe_tup (pa_cons pe_str (pa_cons (pe_callB call_len_seq (by rfl) T.n_len PySem.boot_len (pa_cons (pv 2) pa_nil)) (pa_cons pe_bl pa_nil)))))) pss_nil)
    (pss_cons (ps_if (pt_cmpR op_notN (pe_call G_bad_edge (hr.mono (by decide)) (by rfl) T.g__law_bad_edge T.k__law_bad_edge b_bad_edge .nil pass0 (pa_cons (pv 1) (pa_cons (pv 2) pa_nil))) pe_non (nomark _)) (pss_one (ps_ret (pe_tup (pa_cons pe_str (pa_cons (pe_call G_bad_edge (hr.mono (by decide)) (by rfl) T.g__law_bad_edge T.k__law_bad_edge b_bad_edge .nil pass0 (pa_cons (pv 1) (pa_cons (pv 2) pa_nil))) (pa_cons pe_bl pa_nil)))))) pss_nil)
    (pss_cons (ps_if (pt_not (pt_chain op_le op_lt pe_int (pv 3) (pv 1))) (pss_one (ps_ret (pe_tup (pa_cons pe_str (pa_cons (pv 3) (pa_cons pe_bl pa_nil)))))) pss_nil)
    (pss_cons (ps_if (pt_cmpR (op_eqD hr.units) (pv 4) (pe_lst pa_nil) (nomark _)) (pss_one (ps_ret (pe_tup (pa_cons pe_str (pa_cons pe_int (pa_cons pe_bl pa_nil)))))) pss_nil)
    (pss_cons (ps_for PassesOwn.never rfl (pi_list (pv 4)) (pg_name (i := 5) sc_due.nd rfl (Or.inl rfl))
      (pss_one (ps_if (pt_not (pt_chain op_le op_lt pe_int (pv 5) (pv 1))) (pss_one (ps_ret (pe_tup (pa_cons pe_str (pa_cons (pv 5) (pa_cons pe_bl pa_nil)))))) pss_nil)))
    (pss_cons (ps_if (pt_cmpR op_notN (pe_call G_idle (hr.mono (by decide)) (by rfl) T.g__law_idle T.k__law_idle b_idle .nil pass0 (pa_cons (pv 0) pa_nil)) pe_non (nomark _)) (pss_one (ps_ret (pe_tup (pa_cons pe_str (pa_cons (pe_call G_idle (hr.mono (by decide)) (by rfl) T.g__law_idle T.k__law_idle b_idle .nil pass0 (pa_cons (pv 0) pa_nil)) (pa_cons pe_bl pa_nil)))))) pss_nil)
    (pss_one (ps_ret (pe_tup (pa_cons pe_str (pa_cons pe_int (pa_cons pe_bl pa_nil)))))))))))))), ?_⟩
  have lR : (rR R).length = R.length := List.length_map ..
  have lR' : (rows R).length = R.length := List.length_map ..
  have say : ∀ (D : Res) (H1 : Hp), Same H H1 → dueF n (rows R) e gs = D → ∀ tp, H1 tp = none → Q (.ref tp) (upd H1 tp (.tup (resV D))) := fun D H1 s1 eD tp htp => q _ tp (s1.trans (same_upd (Same.refl H1) htp)) (by rw [eD]; exact upd_same)
  refine ⟨_, rfl, t, _, rfl, SqT.of hT.at_, rfl, _, _, rfl, _, _, rfl, _, _, rfl, _, _, rfl, rfl, ?_⟩
  -- places
  have no1 : ¬ (1 ≤ n ∧ n ≤ 24) → ∀ tp, H tp = none → Q (.ref tp) (upd H tp (.tup [.str "places", .int n, .bl true])) := fun z => say (.places n) H (Same.refl H) (due_places z)
  refine ⟨_, rfl, _, _, rfl, rfl, _, rfl, ?_⟩
  by_cases a1 : 1 ≤ n
  case neg =>
    rw [decide_eq_false a1]
    refine iteF ⟨_, rfl, ?_⟩
    exact iteT ⟨_, rfl, (by show 3 ≤ sizeLine; decide), no1 (fun z => a1 z.1)⟩
  rw [decide_eq_true a1]
  refine iteT ⟨_, _, rfl, rfl, ?_⟩
  by_cases a2 : n ≤ 24
  case neg =>
    refine ⟨_, rfl, ?_⟩
    rw [decide_eq_false a2]
    exact iteT ⟨_, rfl, (by show 3 ≤ sizeLine; decide), no1 (fun z => a2 z.2)⟩
  refine ⟨_, rfl, ?_⟩
  rw [decide_eq_true a2]
  refine iteF ?_
  have c1 : 1 ≤ n ∧ n ≤ 24 := ⟨a1, a2⟩
  -- edges
  refine ⟨_, rfl, pa, _, rfl, .inl (SqL.of hT.rw.at_), _, _, rfl, rfl, _, rfl, ?_⟩
  rw [lR]
  by_cases many : 80 < R.length
  · rw [decide_eq_true (show (80 : Int) < (R.length : Int) by omega)]
    refine iteT ⟨_, rfl, pa, _, rfl, .inl (SqL.of hT.rw.at_), ?_⟩
    rw [lR]
    exact ⟨(by show 3 ≤ sizeLine; decide), say (.edges R.length) H (Same.refl H) (by rw [due_edges c1 (by omega), lR'])⟩
  rw [decide_eq_false (show ¬ (80 : Int) < (R.length : Int) by omega)]
  refine iteF ?_
  have c2 : ¬ 80 < (rows R).length := by omega
  -- an edge
  refine ⟨_, rfl, _, rfl, n, pa, R, rfl, hT.rw, by omega, fun i H1 hi s1 => ?_, fun H1 h3 s1 => ?_⟩
  · refine ⟨rfl, _, rfl, ?_⟩
    refine iteT ⟨_, rfl, _, rfl, n, pa, R, rfl, hT.rw.same s1, by omega, fun i2 H2 hi2 s2 => ?_, fun H2 hn s2 => ?_⟩
    · rw [hi] at hi2
      cases hi2
      exact ⟨(by show 3 ≤ sizeLine; decide), say (.edge i) H2 (s1.trans s2) (due_edge c1 c2 (by rw [lR']; exact hi))⟩
    · rw [hi] at hn
      cases hn
  refine ⟨rfl, _, rfl, ?_⟩
  refine iteF ?_
  have c3 : firstIx (badEdge n (rows R)) (rows R).length = none := by rw [lR']; exact h3
  have T1 := hT.same s1
  -- the entry
  have no4 : ¬ (0 ≤ e ∧ e < n) → ∀ tp, H1 tp = none → Q (.ref tp) (upd H1 tp (.tup [.str "entry", .int e, .bl true])) := fun z => say (.entry e) H1 s1 (due_entry c1 c2 c3 z)
  refine ⟨_, rfl, _, _, rfl, rfl, _, rfl, ?_⟩
  by_cases e0 : 0 ≤ e
  case neg =>
    rw [decide_eq_false e0]
    refine iteF ⟨_, rfl, ?_⟩
    exact iteT ⟨_, rfl, (by show 3 ≤ sizeLine; decide), no4 (fun z => e0 z.1)⟩
  rw [decide_eq_true e0]
  refine iteT ⟨_, rfl, _, _, rfl, rfl, ?_⟩
  by_cases e1 : e < n
  case neg =>
    refine ⟨_, rfl, ?_⟩
    rw [decide_eq_false e1]
    exact iteT ⟨_, rfl, (by show 3 ≤ sizeLine; decide), no4 (fun z => e1 z.2)⟩
  refine ⟨_, rfl, ?_⟩
  rw [decide_eq_true e1]
  refine iteF ?_
  have c4 : 0 ≤ e ∧ e < n := ⟨e0, e1⟩
  -- no exits
  refine ⟨_, rfl, (by show 0 ≤ sizeLine; decide), fun na hna => ?_⟩
  have s2 := s1.trans (same_upd (o := .lst []) (Same.refl H1) hna)
  refine ⟨.list (gs.map PyData.int), .list [], .lst (SqL.of (s2 _ _ hT.go)) (dp_ints gs), .lst (SqL.of upd_same) .nil, shaped_lints gs, rfl, _, rfl, ?_⟩
  revert s2
  generalize upd H1 na (.lst []) = H2
  intro s2
  by_cases c5 : gs = []
  · rw [show PyData.eqv (.list (gs.map PyData.int)) (.list []) = true by rw [c5]; rfl]
    exact iteT ⟨(by show 3 ≤ sizeLine; decide), say .noExits H2 s2 (due_none c1 c2 c3 c4 c5)⟩
  rw [show PyData.eqv (.list (gs.map PyData.int)) (.list []) = false by
    cases gs with
    | nil => exact absurd rfl c5
    | cons g r => rfl]
  refine iteF ?_
  -- the exits
  refine ⟨_, rfl, ga, rfl, ⟨_, SqL.of (s2 _ _ hT.go)⟩, for_list (K := K) (a := ga) (xs := gs.map V.int) (fun j σ' H' => ∃ v5, σ' = [some (.ref t), some (.int n), some (.ref pa), some (.int e), some (.ref ga), v5] ∧ H' = H2 ∧ ∀ i, i < j → badExit n gs i = false)
    ⟨none, rfl, rfl, fun i hi => absurd hi (Nat.not_lt_zero i)⟩ (fun j σ' H' _ h => by obtain ⟨_, _, rfl, _⟩ := h; exact SqL.of (s2 _ _ hT.go)) ?_ ?_⟩
  · rintro j x σ' H' hj ⟨v5, rfl, rfl, before⟩
    obtain ⟨z, hz, rfl⟩ := int_at hj
    have lt := (List.getElem?_eq_some_iff.mp hz).1
    have no6 : ¬ (0 ≤ z ∧ z < n) → ∀ tp, H' tp = none → Q (.ref tp) (upd H' tp (.tup [.str "exit", .int z, .bl true])) := fun y => say (.exit z) H' s2 (by
      rw [due_exit c1 c2 c3 c4 c5 (firstIx_some lt (by rw [badExit_at hz, decide_eq_false y]; rfl) before), List.getD_eq_getElem?_getD, hz]
      rfl)
    refine ⟨_, rfl, _, _, rfl, rfl, _, rfl, ?_⟩
    by_cases z0 : 0 ≤ z
    case neg =>
      rw [decide_eq_false z0]
      refine iteF ⟨_, rfl, ?_⟩
      exact iteT ⟨_, rfl, (by show 3 ≤ sizeLine; decide), no6 (fun y => z0 y.1)⟩
    rw [decide_eq_true z0]
    refine iteT ⟨_, rfl, _, _, rfl, rfl, ?_⟩
    by_cases z1 : z < n
    case neg =>
      refine ⟨_, rfl, ?_⟩
      rw [decide_eq_false z1]
      exact iteT ⟨_, rfl, (by show 3 ≤ sizeLine; decide), no6 (fun y => z1 y.2)⟩
    refine ⟨_, rfl, ?_⟩
    rw [decide_eq_true z1]
    refine iteF ⟨_, rfl, rfl, fun i hi => ?_⟩
    by_cases ei : i = j
    · rw [ei, badExit_at hz, decide_eq_true (show 0 ≤ z ∧ z < n from ⟨z0, z1⟩)]
      rfl
    · exact before i (by omega)
  rintro σ' H' ⟨v5, rfl, rfl, before⟩
  rw [List.length_map] at before
  have c6 := firstIx_none before
  have pr : ∀ r ∈ rows R, ∃ u v, r = [u, v] := fun r hr => by
    obtain ⟨u, v, e', _⟩ := okPair_iff.mp ((rows_good c3).1 r hr)
    exact ⟨u, v, e'⟩
  have T2 := hT.same s2
  refine ⟨_, rfl, t, n, e, R, gs, pa, ga, rfl, T2, pr, by omega, by omega, by omega, lg, fun i H3 hi s3 => ?_, fun H3 hn s3 => ?_⟩
  · refine ⟨rfl, _, rfl, ?_⟩
    refine iteT ⟨_, rfl, t, n, e, R, gs, pa, ga, rfl, T2.same s3, pr, by omega, by omega, by omega, lg, fun i2 H4 hi2 s4 => ?_, fun H4 hn s4 => ?_⟩
    · rw [hi] at hi2
      cases hi2
      exact ⟨(by show 3 ≤ sizeLine; decide), say (.idle i) H4 ((s2.trans s3).trans s4) (due_idle c1 c2 c3 c4 c5 c6 hi)⟩
    · rw [hi] at hn
      cases hn
  refine ⟨rfl, _, rfl, ?_⟩
  refine iteF ?_
  exact ⟨(by show 3 ≤ sizeLine; decide), say .web H3 (s2.trans s3) (due_web c1 c2 c3 c4 c5 c6 hn)⟩
end
section
variable {P : Program} {w : World} {K : PySem.W.Frag} {mg : Str → Option Value} {base : Heap}

theorem takesN {X : Cx} : Takes X (fun _ _ _ _ => False) := fun _ _ x => by
  obtain ⟨_, _, _, _, _, _, _, _, _, _, _, _, _, _, _, _, z⟩ := x
  exact z.elim
theorem WebAt.set {K : PySem.W.Frag} {H : Hp} {c wa : Addr} {o : HO} {xs : List V} {n : Int} {es : List Edge} {e : Int} {ys : List Int} (h : WebAt K H wa n es e ys) (hc : H c = some (.lst xs)) : WebAt K (upd H c o) wa n es e ys := by
  obtain ⟨dx, te, tx, M, ot, h1, h2, h3, h4, h5, h6⟩ := h.at_
  have k : ∀ {a : Addr} {q : HO}, H a = some q → (∀ z, q ≠ .lst z) → (upd H c o) a = some q := fun {a q} e ne => by
    rw [upd_ne (ne_of e hc (ne xs))]
    exact e
  exact ⟨h.few, dx, te, tx, M, ot, k h1 (by intro z y; cases y), k h2 (by intro z y; cases y), fun p hp => k (h3 p hp) (by intro z y; cases y), h4, k h5 (by intro z y; cases y), h6⟩
theorem web_due {n : Int} {rs : List (List Int)} {e : Int} {gs : List Int} (h : dueF n rs e gs = .web) : (1 ≤ n ∧ n ≤ 24) ∧ rs.length ≤ 80 ∧ firstIx (badEdge n rs) rs.length = none ∧ ∀ g ∈ gs, 0 ≤ g ∧ g < n := by
  by_cases c1 : 1 ≤ n ∧ n ≤ 24
  case neg => rw [due_places c1] at h; cases h
  by_cases c2 : 80 < rs.length
  · rw [due_edges c1 c2] at h; cases h
  cases c3 : firstIx (badEdge n rs) rs.length with
  | some i => rw [due_edge c1 c2 c3] at h; cases h
  | none =>
    by_cases c4 : 0 ≤ e ∧ e < n
    case neg => rw [due_entry c1 c2 c3 c4] at h; cases h
    by_cases c5 : gs = []
    · rw [due_none c1 c2 c3 c4 c5] at h; cases h
    cases c6 : firstIx (badExit n gs) gs.length with
    | some i => rw [due_exit c1 c2 c3 c4 c5 c6] at h; cases h
    | none =>
      refine ⟨c1, by omega, rfl, fun g hg => ?_⟩
      obtain ⟨i, hi⟩ := List.mem_iff_getElem?.mp hg
      have z := firstIx_none_iff.mp c6 i (List.getElem?_eq_some_iff.mp hi).1
      rw [badExit_at hi] at z
      simpa using z
theorem rows_dP {rs : List (List Int)} (pr : ∀ r ∈ rs, ∃ u v, r = [u, v]) : (edgesOf rs).map dP = rs.map dR := by
  unfold edgesOf
  rw [List.map_map]
  refine List.map_congr_left fun r hr => ?_
  obtain ⟨u, v, e⟩ := pr r hr
  rw [e]
  rfl
def spBuilt (K : PySem.W.Frag) : Sp := fun vs H Q _ => ∃ (t : Addr) (n e : Int) (R : List (Addr × List Int)) (gs : List Int) (pa ga : Addr), vs = [.ref t] ∧ ToldX H t n R e gs pa ga ∧ R.length ≤ 2000 ∧ gs.length < 60 ∧ ∀ (H' : Hp) (r : Addr), Same H H' → H' r = some (.tup (resV (dueF n (rows R) e gs))) → Q (.ref r) H'
/-- the goals, ascending -/
def goalsUp (n : Int) (gs : List Int) : List Int := ((List.range n.toNat).map Int.ofNat).filter fun v => decide (v ∈ gs)
theorem goalsUp_mem {n : Int} {gs : List Int} (r : ∀ g ∈ gs, 0 ≤ g ∧ g < n) (v : Int) : v ∈ goalsUp n gs ↔ v ∈ gs := by
  unfold goalsUp
  rw [List.mem_filter, decide_eq_true_iff]
  refine ⟨fun h => h.2, fun h => ⟨List.mem_map.mpr ⟨v.toNat, List.mem_range.mpr ?_, ?_⟩, h⟩⟩
  · have := r v h
    omega
  · have := r v h
    show ((v.toNat : Nat) : Int) = v
    omega
theorem range_up : ∀ n : Nat, ((List.range n).map Int.ofNat).Pairwise (· < ·)
  | 0 => by simp
  | n + 1 => by
    rw [List.range_succ, List.map_append, List.pairwise_append]
    refine ⟨range_up n, by simp, fun a ha b hb => ?_⟩
    obtain ⟨i, hi, rfl⟩ := List.mem_map.mp ha
    have hb' : b = Int.ofNat n := by simpa using hb
    rw [hb']
    have := List.mem_range.mp hi
    show (i : Int) < (n : Int)
    omega
theorem goalsUp_up (n : Int) (gs : List Int) : (goalsUp n gs).Pairwise (· < ·) := (range_up _).filter _
theorem up_unique : ∀ {a b : List Int}, a.Pairwise (· < ·) → b.Pairwise (· < ·) → (∀ v, v ∈ a ↔ v ∈ b) → a = b
  | [], [], _, _, _ => rfl
  | [], y :: b, _, _, h => absurd ((h y).mpr List.mem_cons_self) (by simp)
  | x :: a, [], _, _, h => absurd ((h x).mp List.mem_cons_self) (by simp)
  | x :: a, y :: b, ha, hb, h => by
    obtain ⟨a1, a2⟩ := List.pairwise_cons.mp ha
    obtain ⟨b1, b2⟩ := List.pairwise_cons.mp hb
    have e : x = y := by
      rcases List.mem_cons.mp ((h x).mp List.mem_cons_self) with e | m1
      · exact e
      · rcases List.mem_cons.mp ((h y).mpr List.mem_cons_self) with e | m2
        · exact e.symm
        · have := b1 x m1
          have := a1 y m2
          omega
    subst e
    rw [up_unique a2 b2 fun v => ?_]
    constructor
    · intro hv
      rcases List.mem_cons.mp ((h v).mp (List.mem_cons_of_mem _ hv)) with e | m
      · have := a1 v hv
        omega
      · exact m
    · intro hv
      rcases List.mem_cons.mp ((h v).mpr (List.mem_cons_of_mem _ hv)) with e | m
      · have := b1 v hv
        omega
      · exact m
abbrev s_built : Stmt := top 34
theorem sc_built : FnScope ["_law_told", "_law_count", "_law_pairs", "_law_origin", "_law_goals", "_law_pair", "_law_given", "_law_handed", "_law_web_here", "e", "_law_right", "_law_place"] ["_law_told"] (defScope s_built) := ⟨rfl, rfl, rfl, by decide +kernel, rfl, by decide +kernel, by decide +kernel⟩
theorem ok_built {fd : FuncData} (F : FunD K "_law_built" "_law_built" (defArgs s_built) (defBody s_built) (defScope s_built) [] [] (He.ga K "_law_built") fd) (T : TxX K mg) (I_BadPlaces : ErrI P w K mg base (He.ga K "BadPlaces") "count") (I_BadEdges : ErrI P w K mg base (He.ga K "BadEdges") "count") (I_BadEdge : ErrI P w K mg base (He.ga K "BadEdge") "index") (I_BadEntry : ErrI P w K mg base (He.ga K "BadEntry") "place") (I_BadExit : ErrI P w K mg base (He.ga K "BadExit") "place") (I_Idle : ErrI P w K mg base (He.ga K "Idle") "place") (d_init : Okd P w K mg base (L2.CX P w) 5 (He.ma K (He.ga K "Web") "__init__") ["self", "places", "edges", "entry", "exits"] (spWebInitX K)) : FnOk P w K mg base CX0 8 (He.ga K "_law_built") fd ["_law_told"] (spBuilt K) := by
  obtain ⟨fd_init, G_init, b_init⟩ := d_init
  refine F.ok sc_built (fun vs H Q E h => by obtain ⟨t, n, e, R, gs, pa, ga, rfl, _⟩ := h; rfl) (fun cdv A outer s H vs Q E hr h => ?_)
  obtain ⟨t, n, e, R, gs, pa, ga, rfl, hT, few0, lg, q⟩ := h
  refine ⟨_, PSs.nox (pss_cons (ps_asg (pv 0) (pg_tup rfl (pgs_cons (pg_name (i := 1) sc_built.nd rfl (Or.inl rfl)) (pgs_cons (pg_name (i := 2) sc_built.nd rfl (Or.inl rfl)) (pgs_cons (pg_name (i := 3) sc_built.nd rfl (Or.inl rfl)) (pgs_cons (pg_name (i := 4) sc_built.nd rfl (Or.inr rfl)) pgs_nil))))))
    (pss_cons (ps_setLc (i := 6) (own := [("_law_pair", 5)]) (g := gName 5) (tt := tYes) rfl sc_built.nd rfl rfl (sw_true rfl rfl rfl (by decide +kernel)) (pi_list (pv 2)) (blkOk_by (own := [("_law_pair", 5)]) (N := ["_law_told", "_law_count", "_law_pairs", "_law_origin", "_law_goals", "_law_pair", "_law_given", "_law_handed", "_law_web_here", "e", "_law_right", "_law_place"]) (sc := defScope s_built) (by decide +kernel)) (fun _ _ _ _ _ => (pg_name (i := 5) sc_built.nd rfl (Or.inl rfl))) (fun _ _ _ _ _ => pts_nil) (fun _ _ _ _ _ => (pe_callTy call_listQ (by rfl) T.n_list (by decide +kernel) (pa_cons (pv 5) pa_nil))))
    (pss_cons (ps_set (i := 7) sc_built.nd rfl (Or.inl rfl) (pe_callTy call_list_of (by rfl) T.n_list (by decide +kernel) (pa_cons (pv 4) pa_nil)))
    (pss_cons (ps_try_cls (Wo := fun _ _ _ _ => False) rfl rfl sc_built.nd takesN (fun W pn xe tk _ => pss_one (ps_set (i := 8) sc_built.nd rfl (Or.inl rfl) (pe_makeE T.mk_Web G_init (hr.mono (by decide)) (by rfl) T.g_Web b_init (fun σ => passAt tk σ) (pa_cons (pv 1) (pa_cons (pv 6) (pa_cons (pv 3) (pa_cons (pv 7) pa_nil))))))) (.cons ⟨rfl, by decide, Or.inl T.g_BadPlaces⟩ (i := 9) rfl rfl (fun a oe cls d pn hz hf => pss_one (ps_ret (pe_tup (pa_cons pe_str (pa_cons (pe_xf ⟨I_BadPlaces.e.ga, I_BadPlaces.e.gg, I_BadPlaces.e.exC, I_BadPlaces.e.hd⟩ I_BadPlaces.no hz hf (pv 9)) (pa_cons (pe_callB (call_isD T.xc_BadPlaces hz hf) (by rfl) T.n_isinstance (by decide +kernel) (pa_cons (pv 9) (pa_cons (pe_glob (v := .ref (He.ga K "SeatError")) rfl T.g_SeatError rfl) pa_nil))) pa_nil))))))
      (.cons ⟨rfl, by decide, Or.inl T.g_BadEdges⟩ (i := 9) rfl rfl (fun a oe cls d pn hz hf => pss_one (ps_ret (pe_tup (pa_cons pe_str (pa_cons (pe_xf ⟨I_BadEdges.e.ga, I_BadEdges.e.gg, I_BadEdges.e.exC, I_BadEdges.e.hd⟩ I_BadEdges.no hz hf (pv 9)) (pa_cons (pe_callB (call_isD T.xc_BadEdges hz hf) (by rfl) T.n_isinstance (by decide +kernel) (pa_cons (pv 9) (pa_cons (pe_glob (v := .ref (He.ga K "SeatError")) rfl T.g_SeatError rfl) pa_nil))) pa_nil))))))
      (.cons ⟨rfl, by decide, Or.inl T.g_BadEdge⟩ (i := 9) rfl rfl (fun a oe cls d pn hz hf => pss_one (ps_ret (pe_tup (pa_cons pe_str (pa_cons (pe_xf ⟨I_BadEdge.e.ga, I_BadEdge.e.gg, I_BadEdge.e.exC, I_BadEdge.e.hd⟩ I_BadEdge.no hz hf (pv 9)) (pa_cons (pe_callB (call_isD T.xc_BadEdge hz hf) (by rfl) T.n_isinstance (by decide +kernel) (pa_cons (pv 9) (pa_cons (pe_glob (v := .ref (He.ga K "SeatError")) rfl T.g_SeatError rfl) pa_nil))) pa_nil))))))
      (.cons ⟨rfl, by decide, Or.inl T.g_BadEntry⟩ (i := 9) rfl rfl (fun a oe cls d pn hz hf => pss_one (ps_ret (pe_tup (pa_cons pe_str (pa_cons (pe_xf ⟨I_BadEntry.e.ga, I_BadEntry.e.gg, I_BadEntry.e.exC, I_BadEntry.e.hd⟩ I_BadEntry.no hz hf (pv 9)) (pa_cons (pe_callB (call_isD T.xc_BadEntry hz hf) (by rfl) T.n_isinstance (by decide +kernel) (pa_cons (pv 9) (pa_cons (pe_glob (v := .ref (He.ga K "SeatError")) rfl T.g_SeatError rfl) pa_nil))) pa_nil))))))
      (.cons ⟨rfl, by decide, Or.inl T.g_NoExits⟩ (i := 9) rfl rfl (fun a oe cls d pn hz hf => pss_one (ps_ret (pe_tup (pa_cons pe_str (pa_cons pe_int (pa_cons (pe_callB (call_isD T.xc_NoExits hz hf) (by rfl) T.n_isinstance (by decide +kernel) (pa_cons (pv 9) (pa_cons (pe_glob (v := .ref (He.ga K "SeatError")) rfl T.g_SeatError rfl) pa_nil))) pa_nil))))))
      (.cons ⟨rfl, by decide, Or.inl T.g_BadExit⟩ (i := 9) rfl rfl (fun a oe cls d pn hz hf => pss_one (ps_ret (pe_tup (pa_cons pe_str (pa_cons (pe_xf ⟨I_BadExit.e.ga, I_BadExit.e.gg, I_BadExit.e.exC, I_BadExit.e.hd⟩ I_BadExit.no hz hf (pv 9)) (pa_cons (pe_callB (call_isD T.xc_BadExit hz hf) (by rfl) T.n_isinstance (by decide +kernel) (pa_cons (pv 9) (pa_cons (pe_glob (v := .ref (He.ga K "SeatError")) rfl T.g_SeatError rfl) pa_nil))) pa_nil))))))
      (.cons ⟨rfl, by decide, Or.inl T.g_Idle⟩ (i := 9) rfl rfl (fun a oe cls d pn hz hf => pss_one (ps_ret (pe_tup (pa_cons pe_str (pa_cons (pe_xf ⟨I_Idle.e.ga, I_Idle.e.gg, I_Idle.e.exC, I_Idle.e.hd⟩ I_Idle.no hz hf (pv 9)) (pa_cons (pe_callB (call_isD T.xc_Idle hz hf) (by rfl) T.n_isinstance (by decide +kernel) (pa_cons (pv 9) (pa_cons (pe_glob (v := .ref (He.ga K "SeatError")) rfl T.g_SeatError rfl) pa_nil))) pa_nil))))))
      .nil))))))))
    (pss_cons (ps_for PassesOwn.never rfl (pi_list (pv 6)) (pg_name (i := 5) sc_built.nd rfl (Or.inl rfl))
      (pss_one (ps_expr (pe_bm PySem.F.plainAttrs_list PySem.F.slot_list_append PySem.F.type_list_append mt_append (pv 5) (pa_cons pe_int pa_nil)))))
    (pss_cons (ps_expr (pe_bm PySem.F.plainAttrs_list PySem.F.slot_list_append PySem.F.type_list_append mt_append (pv 6) (pa_cons (pe_lst (pa_cons pe_int (pa_cons pe_int pa_nil))) pa_nil)))
    (pss_cons (ps_expr (pe_bm PySem.F.plainAttrs_list PySem.F.slot_list_append PySem.F.type_list_append mt_append (pv 7) (pa_cons pe_int pa_nil)))
    (pss_cons (ps_set (i := 10) sc_built.nd rfl (Or.inl rfl) (pe_and (pe_cmpR (op_eqD hr.units) (pe_fld (pv 8) rfl) (pv 1) (nomark _)) (pe_and (pe_cmpR (op_eqD hr.units) (pe_fld (pv 8) rfl) (pe_callTy call_tupleQ (by rfl) T.n_tuple (by decide +kernel) (pa_cons (pv 2) pa_nil)) (nomark _)) (pe_one (pe_cmpR (op_eqD hr.units) (pe_fld (pv 8) rfl) (pv 3) (nomark _))))))
    (pss_one (ps_ret (pe_tup (pa_cons pe_str (pa_cons pe_int (pa_cons (pe_and (pv 10) (pe_one (pe_cmpR (op_eqD hr.units) (pe_fld (pv 8) rfl) (pe_callTy call_tupleQ (by rfl) T.n_tuple (by decide +kernel) (pa_cons (pe_lc (own := [("_law_place", 11)]) (g := gName 11)  rfl sc_built.nd (pi_range1 rfl T.n_range (pa_cons (pv 1) pa_nil)) (blkOk_by (own := [("_law_place", 11)]) (N := ["_law_told", "_law_count", "_law_pairs", "_law_origin", "_law_goals", "_law_pair", "_law_given", "_law_handed", "_law_web_here", "e", "_law_right", "_law_place"]) (sc := defScope s_built) (by decide +kernel)) (fun _ _ _ _ _ => (pg_name (i := 11) sc_built.nd rfl (Or.inl rfl))) (fun _ _ _ _ _ => (pts_one (pt_cmpR (r := rIn K false) op_in_seq (pv 11) (pv 4) (by rfl)))) (fun _ _ _ _ _ => (pv 11))) pa_nil)) (nomark _)))) pa_nil)))))))))))))), ?_⟩
  have lR : (rR R).length = R.length := List.length_map ..
  refine ⟨_, rfl, t, _, rfl, SqT.of hT.at_, rfl, _, _, rfl, _, _, rfl, _, _, rfl, _, _, rfl, rfl, ?_⟩
  -- the rows, copied
  refine ⟨_, rfl, pa, rfl, ⟨_, SqL.of hT.rw.at_⟩, fun D hD => lc_list (K := K) (a := pa) (xs := rR R)
    (fun j H' => ∃ M : List (Addr × List Int), Same H H' ∧ H' D = some (.lst (rR M)) ∧ (∀ p ∈ M, H' p.1 = some (.lst (p.2.map V.int)) ∧ H p.1 = none ∧ p.1 ≠ D) ∧ rows M = (rows R).take j)
    ⟨[], same_upd (Same.refl H) hD, upd_same, (fun _ z => nomatch z), rfl⟩ (fun j H' _ h => by obtain ⟨_, s, _⟩ := h; exact SqL.of (s _ _ hT.rw.at_)) ?_ ?_⟩
  · rintro j x H2 hj ⟨M, s2, hM, hMs, eM⟩
    obtain ⟨ra, r, rfl, hLi, he, hri⟩ := row_at hT.rw.rows hj
    have tup := s2 _ _ (hT.rw.tup _ (List.mem_of_getElem? hLi))
    refine ⟨rfl, _, rfl, ra, _, rfl, .inr tup, fun l hl => ?_⟩
    have nD : D ≠ l := ne_of_none hM hl
    have hlM : M.length = ((rows R).take j).length := by
      have := congrArg List.length eM
      rw [List.length_map] at this
      exact this
    have hjl : M.length ≤ 2000 := by
      rw [hlM, List.length_take, List.length_map]
      omega
    refine ⟨rR M, by rw [upd_ne nD]; exact hM, ?_, ?_⟩
    · rw [List.length_map]
      exact Nat.lt_of_le_of_lt hjl (by decide)
    · refine ⟨M ++ [(l, r)], fun b o e => ?_, ?_, fun p hp => ?_, ?_⟩
      · rw [upd_ne (ne_of_none e hD), upd_ne (ne_of_none (s2 b o e) hl)]
        exact s2 b o e
      · rw [upd_same, ← rR_app]
        rfl
      · rcases List.mem_append.mp hp with hp | hp
        · obtain ⟨h0, h00, h01⟩ := hMs p hp
          refine ⟨?_, h00, h01⟩
          rw [upd_ne h01, upd_ne (ne_of_none h0 hl)]
          exact h0
        · rw [List.mem_singleton.mp hp]
          exact ⟨by rw [upd_ne nD.symm, upd_same], s2.free hl, nD.symm⟩
      · rw [take_next hri, ← eM]
        exact List.map_append ..
  rintro H2 ⟨M, s2, hM, hMs, eM⟩
  rw [List.length_map, ← show (rows R).length = R.length from List.length_map .., List.take_length] at eM
  have lM : M.length = R.length := by
    have := congrArg List.length eM
    rw [List.length_map, List.length_map] at this
    exact this
  -- the exits, copied
  refine ⟨_, rfl, ga, _, rfl, .inl (SqL.of (s2 _ _ hT.go)), fun hd hhd => ?_⟩
  have s3 := same_upd (o := .lst (gs.map V.int)) (Same.refl H2) hhd
  have hd3 : (upd H2 hd (.lst (gs.map V.int))) hd = some (.lst (gs.map V.int)) := upd_same
  have hD0 : H D = none := hD
  have hd0 : H hd = none := s2.free hhd
  have nhD : D ≠ hd := ne_of_none hM hhd
  have hM3 := s3 _ _ hM
  have hMs3 : ∀ p ∈ M, (upd H2 hd (.lst (gs.map V.int))) p.1 = some (.lst (p.2.map V.int)) ∧ H p.1 = none ∧ p.1 ≠ D ∧ p.1 ≠ hd := fun p hp => ⟨s3 _ _ (hMs p hp).1, (hMs p hp).2.1, (hMs p hp).2.2, ne_of_none (hMs p hp).1 hhd⟩
  have sH := s2.trans s3
  revert hd3 hM3 hMs3 sH
  generalize upd H2 hd (.lst (gs.map V.int)) = H3
  intro hd3 hM3 hMs3 sH
  clear s3 hMs hM hhd s2 hD H2
  refine ⟨_, rfl, _, rfl, _, rfl, _, rfl, fun x dx hx hdx ne => ?_⟩
  have s0 : Same H3 (upd (upd H3 dx (.own x)) x (.ins (He.ga K "Web") dx [])) := fun b o h => by
    rw [upd_ne (ne_of_none h hx), upd_ne (ne_of_none h hdx)]
    exact h
  refine ⟨x, dx, n, e, D, hd, M, gs, rfl, upd_same, ⟨s0 _ _ hM3, fun p hp => .inl (s0 _ _ (hMs3 p hp).1)⟩, .inl (s0 _ _ hd3), lg, ?raised, fun good H4 ys b W pw mem => ⟨rfl, ?made⟩⟩
  case raised =>
    rw [eM]
    have sH0 := sH.trans s0
    have say : ∀ {H4 : Hp} {w : List V}, Same (upd (upd H3 dx (.own x)) x (.ins (He.ga K "Web") dx [])) H4 → w = resV (dueF n (rows R) e gs) → ∀ tp, H4 tp = none → Q (.ref tp) (upd H4 tp (.tup w)) := fun {H4 w} s4 ew tp htp =>
      q _ tp ((sH0.trans s4).trans (same_upd (Same.refl H4) htp)) (by rw [ew]; exact upd_same)
    cases eD : dueF n (rows R) e gs with
    | places v =>
      intro H4 d hd4 s4
      refine ⟨true, T.x_BadPlaces, fun _ ae hae => ?_, fun z => Bool.noConfusion z⟩
      exact ⟨_, rfl, rfl, rfl, d, _, _, rfl, hd4, rfl, _, rfl, _, _, true, rfl, rfl, .inr ⟨d, _, rfl, hd4⟩, fun _ r => r, T.e_BadPlaces, (by show 3 ≤ sizeLine; decide), say s4 (by rw [eD]; rfl)⟩
    | edges v =>
      intro H4 d hd4 s4
      refine ⟨false, T.x_BadEdges_BadPlaces, fun z => Bool.noConfusion z, fun _ => ⟨true, T.x_BadEdges, fun _ ae hae => ?_, fun z => Bool.noConfusion z⟩⟩
      exact ⟨_, rfl, rfl, rfl, d, _, _, rfl, hd4, rfl, _, rfl, _, _, true, rfl, rfl, .inr ⟨d, _, rfl, hd4⟩, fun _ r => r, T.e_BadEdges, (by show 3 ≤ sizeLine; decide), say s4 (by rw [eD]; rfl)⟩
    | edge v =>
      intro H4 d hd4 s4
      refine ⟨false, T.x_BadEdge_BadPlaces, fun z => Bool.noConfusion z, fun _ => ⟨false, T.x_BadEdge_BadEdges, fun z => Bool.noConfusion z, fun _ => ⟨true, T.x_BadEdge, fun _ ae hae => ?_, fun z => Bool.noConfusion z⟩⟩⟩
      exact ⟨_, rfl, rfl, rfl, d, _, _, rfl, hd4, rfl, _, rfl, _, _, true, rfl, rfl, .inr ⟨d, _, rfl, hd4⟩, fun _ r => r, T.e_BadEdge, (by show 3 ≤ sizeLine; decide), say s4 (by rw [eD]; rfl)⟩
    | entry v =>
      intro H4 d hd4 s4
      refine ⟨false, T.x_BadEntry_BadPlaces, fun z => Bool.noConfusion z, fun _ => ⟨false, T.x_BadEntry_BadEdges, fun z => Bool.noConfusion z, fun _ => ⟨false, T.x_BadEntry_BadEdge, fun z => Bool.noConfusion z, fun _ => ⟨true, T.x_BadEntry, fun _ ae hae => ?_, fun z => Bool.noConfusion z⟩⟩⟩⟩
      exact ⟨_, rfl, rfl, rfl, d, _, _, rfl, hd4, rfl, _, rfl, _, _, true, rfl, rfl, .inr ⟨d, _, rfl, hd4⟩, fun _ r => r, T.e_BadEntry, (by show 3 ≤ sizeLine; decide), say s4 (by rw [eD]; rfl)⟩
    | noExits =>
      intro H4 s4
      refine ⟨false, T.x_NoExits_BadPlaces, fun z => Bool.noConfusion z, fun _ => ⟨false, T.x_NoExits_BadEdges, fun z => Bool.noConfusion z, fun _ => ⟨false, T.x_NoExits_BadEdge, fun z => Bool.noConfusion z, fun _ => ⟨false, T.x_NoExits_BadEntry, fun z => Bool.noConfusion z, fun _ => ⟨true, T.x_NoExits, fun _ ae hae => ?_, fun z => Bool.noConfusion z⟩⟩⟩⟩⟩
      exact ⟨_, rfl, _, _, true, rfl, rfl, .inl rfl, fun _ r => r, T.e_NoExits, (by show 3 ≤ sizeLine; decide), say s4 (by rw [eD]; rfl)⟩
    | exit v =>
      intro H4 d hd4 s4
      refine ⟨false, T.x_BadExit_BadPlaces, fun z => Bool.noConfusion z, fun _ => ⟨false, T.x_BadExit_BadEdges, fun z => Bool.noConfusion z, fun _ => ⟨false, T.x_BadExit_BadEdge, fun z => Bool.noConfusion z, fun _ => ⟨false, T.x_BadExit_BadEntry, fun z => Bool.noConfusion z, fun _ => ⟨false, T.x_BadExit_NoExits, fun z => Bool.noConfusion z, fun _ => ⟨true, T.x_BadExit, fun _ ae hae => ?_, fun z => Bool.noConfusion z⟩⟩⟩⟩⟩⟩
      exact ⟨_, rfl, rfl, rfl, d, _, _, rfl, hd4, rfl, _, rfl, _, _, true, rfl, rfl, .inr ⟨d, _, rfl, hd4⟩, fun _ r => r, T.e_BadExit, (by show 3 ≤ sizeLine; decide), say s4 (by rw [eD]; rfl)⟩
    | idle v =>
      intro H4 d hd4 s4
      refine ⟨false, T.x_Idle_BadPlaces, fun z => Bool.noConfusion z, fun _ => ⟨false, T.x_Idle_BadEdges, fun z => Bool.noConfusion z, fun _ => ⟨false, T.x_Idle_BadEdge, fun z => Bool.noConfusion z, fun _ => ⟨false, T.x_Idle_BadEntry, fun z => Bool.noConfusion z, fun _ => ⟨false, T.x_Idle_NoExits, fun z => Bool.noConfusion z, fun _ => ⟨false, T.x_Idle_BadExit, fun z => Bool.noConfusion z, fun _ => ⟨true, T.x_Idle, fun _ ae hae => ?_, fun z => Bool.noConfusion z⟩⟩⟩⟩⟩⟩⟩
      exact ⟨_, rfl, rfl, rfl, d, _, _, rfl, hd4, rfl, _, rfl, _, _, true, rfl, rfl, .inr ⟨d, _, rfl, hd4⟩, fun _ r => r, T.e_Idle, (by show 3 ≤ sizeLine; decide), say s4 (by rw [eD]; rfl)⟩
    | web => exact True.intro
  case made =>
    rw [eM] at W good
    obtain ⟨c1, c2, c3, c6⟩ := web_due good
    have pr : ∀ r ∈ rows R, ∃ u v, r = [u, v] := fun r hr => by
      obtain ⟨u, v, e', _⟩ := okPair_iff.mp ((rows_good c3).1 r hr)
      exact ⟨u, v, e'⟩
    have keep : Same H3 H4 := fun c o h => b c o (ne_of_none h hx) (s0 c o h)
    have few : M.length ≤ 80 := by
      rw [lM]
      rw [List.length_map] at c2
      exact c2
    -- the given rows, spoilt
    refine ⟨_, rfl, D, rfl, ⟨_, SqL.of (keep _ _ hM3)⟩, for_list (K := K) (a := D) (xs := rR M) (fun j σ' H' => ∃ v5 : Option V, σ' = [some (.ref t), some (.int n), some (.ref pa), some (.int e), some (.ref ga), v5, some (.ref D), some (.ref hd), some (.ref x), none, none, none] ∧ Same H H' ∧ H' D = some (.lst (rR M)) ∧ H' hd = some (.lst (gs.map V.int)) ∧ WebAt K H' x n (edgesOf (rows R)) e ys ∧ ∀ p ∈ M, ∃ zs : List Int, H' p.1 = some (.lst (zs.map V.int)) ∧ zs.length ≤ 2 + j)
      ⟨none, rfl, sH.trans keep, keep _ _ hM3, keep _ _ hd3, W, fun p hp => ⟨p.2, keep _ _ (hMs3 p hp).1, by
        obtain ⟨u, v, z⟩ := pr p.2 (by rw [← eM]; exact List.mem_map.mpr ⟨p, hp, rfl⟩)
        rw [z]
        show 2 ≤ 2 + 0
        omega⟩⟩ (fun j σ' H' _ h => by obtain ⟨_, _, _, h, _⟩ := h; exact SqL.of h) ?_ ?_⟩
    · rintro j z σ' H' hj ⟨v5, rfl, sA, hA, hdA, WA, zA⟩
      rw [List.getElem?_map] at hj
      obtain ⟨p, hp, rfl⟩ : ∃ p, M[j]? = some p ∧ z = .ref p.1 := by
        cases h : M[j]? with
        | none => rw [h] at hj; cases hj
        | some p => rw [h] at hj; exact ⟨p, rfl, (Option.some.inj hj).symm⟩
      have pm := List.mem_of_getElem? hp
      obtain ⟨zs, hz, lz⟩ := zA p pm
      obtain ⟨_, p0, pD, phd⟩ := hMs3 p pm
      have lj : j < M.length := (List.getElem?_eq_some_iff.mp hp).1
      refine ⟨_, rfl, .inl ⟨rfl, _, SqL.of hz⟩, p.1, _, _, rfl, rfl, hz, ?_, ?_⟩
      · rw [List.length_map]
        exact Nat.lt_of_le_of_lt (show zs.length ≤ 100 by omega) (by decide)
      · refine ⟨_, rfl, fun c o h => ?_, ?_, ?_, WA.set hz, fun p2 hp2 => ?_⟩
        · rw [upd_ne (ne_of_none h p0)]
          exact sA c o h
        · rw [upd_ne (fun z => pD z.symm)]
          exact hA
        · rw [upd_ne (fun z => phd z.symm)]
          exact hdA
        · by_cases ep : p2.1 = p.1
          · refine ⟨zs ++ [0], ?_, ?_⟩
            · rw [ep, upd_same, List.map_append]
              rfl
            · rw [List.length_append, List.length_singleton]
              omega
          · obtain ⟨z2, hz2, lz2⟩ := zA p2 hp2
            exact ⟨z2, by rw [upd_ne ep]; exact hz2, by omega⟩
    rintro σ' H5 ⟨v5, rfl, sA, hA, hdA, WA, _⟩
    -- one more
    refine ⟨_, rfl, .inl ⟨rfl, _, SqL.of hA⟩, (by show 2 ≤ sizeLine; decide), fun z hz => ?_⟩
    have s6 := same_upd (o := .lst [.int 0, .int 0]) (Same.refl H5) hz
    refine ⟨D, _, _, rfl, rfl, s6 _ _ hA, ?_, ?_⟩
    · rw [List.length_map]
      exact Nat.lt_of_le_of_lt (show M.length ≤ 100 by omega) (by decide)
    have W6 := (WA.same s6).set (o := .lst (rR M ++ [.ref z])) (s6 _ _ hA)
    have hd6 : (upd (upd H5 z (.lst [.int 0, .int 0])) D (.lst (rR M ++ [.ref z]))) hd = some (.lst (gs.map V.int)) := by
      rw [upd_ne (fun y => nhD y.symm)]
      exact s6 _ _ hdA
    have sB : Same H (upd (upd H5 z (.lst [.int 0, .int 0])) D (.lst (rR M ++ [.ref z]))) := fun c o h => by
      rw [upd_ne (ne_of_none h hD0)]
      exact s6 _ _ (sA c o h)
    revert W6 hd6 sB
    generalize upd (upd H5 z (.lst [.int 0, .int 0])) D (.lst (rR M ++ [.ref z])) = H6
    intro W6 hd6 sB
    refine ⟨_, rfl, .inl ⟨rfl, _, SqL.of hd6⟩, hd, _, _, rfl, rfl, hd6, ?_, ?_⟩
    · rw [List.length_map]
      exact Nat.lt_of_le_of_lt (show gs.length ≤ 100 by omega) (by decide)
    have W7 := W6.set (o := .lst (gs.map V.int ++ [.int 77])) hd6
    have sC : Same H (upd H6 hd (.lst (gs.map V.int ++ [.int 77]))) := fun c o h => by
      rw [upd_ne (ne_of_none h hd0)]
      exact sB c o h
    revert W7 sC
    generalize upd H6 hd (.lst (gs.map V.int ++ [.int 77])) = H7
    intro W7 sC
    obtain ⟨dy, te, tx, N, ot, h1, h2, h3, h4, h5, h6⟩ := W7.at_
    have eN : (N.map (·.2)).map dP = (rows R).map dR := by
      rw [show N.map (·.2) = edgesOf (rows R) from h4]
      exact rows_dP pr
    refine ⟨_, rfl, x, _, dy, _, _, rfl, h1, T.cl_Web, T.na_places, rfl, _, rfl, .int n, .int n, .int n, .int n, rfl, rfl, _, rfl, ?_⟩
    rw [eqv_self (show SeqAt.shaped (.int n) = true from rfl)]
    refine iteT ?_
    refine ⟨_, rfl, x, _, dy, _, _, rfl, h1, T.cl_Web, T.na_edges, rfl, _, rfl, pa, _, rfl, .inl (sC _ _ hT.rw.at_), fun tb H8 s8 hb8 => ?_⟩
    refine ⟨.tuple ((N.map (·.2)).map dP), .tuple ((rows R).map dR), .tup (SqT.of (s8 _ _ h2)) (dp_pairs N fun p hp => s8 _ _ (h3 p hp)), .tup (SqT.of hb8) (dp_rows R fun p hp => s8 _ _ (sC _ _ (hT.rw.tup p hp))), shaped_pairs _, by rw [← eN]; exact shaped_pairs _, _, rfl, ?_⟩
    rw [eN, eqv_self (d := .tuple ((rows R).map dR)) (by rw [← eN]; exact shaped_pairs _)]
    refine iteT ?_
    have h18 := s8 _ _ h1
    refine ⟨_, rfl, x, _, dy, _, _, rfl, h18, T.cl_Web, T.na_entry, rfl, _, rfl, .int e, .int e, .int e, .int e, rfl, rfl, ?_⟩
    rw [eqv_self (show SeqAt.shaped (.int e) = true from rfl)]
    have sD := sC.trans s8
    refine ⟨_, rfl, _, rfl, ?_⟩
    refine iteT ?_
    refine ⟨_, rfl, x, _, dy, _, _, rfl, h18, T.cl_Web, T.na_exits, rfl, _, rfl, n, rfl, by omega, by omega, fun C hC => lc_range (n := n.toNat) (fun j H' => ∃ cs : List Int, Same H8 H' ∧ H' C = some (.lst (cs.map V.int)) ∧ cs.length ≤ j ∧ cs = ((List.range j).map Int.ofNat).filter fun v => decide (v ∈ gs)) ?_ ?_ ?_⟩
    · exact ⟨[], same_upd (Same.refl H8) hC, upd_same, Nat.le_refl _, rfl⟩
    · rintro j H9 hj ⟨cs, s9, hc, lc, ec⟩
      have g9 := s9 _ _ (sD _ _ hT.go)
      refine ⟨rfl, _, rfl, _, rfl, ga, _, rfl, .inl (SqL.of g9), rfl, flat_ints gs, _, rfl, ?_⟩
      show if inV (V.int (0 + (j : Int))) (gs.map V.int) = true then _ else _
      rw [inV_ints, show (0 + (j : Int)) = (j : Int) by omega]
      have nx : ((List.range (j + 1)).map Int.ofNat).filter (fun v => decide (v ∈ gs)) = ((List.range j).map Int.ofNat).filter (fun v => decide (v ∈ gs)) ++ if (j : Int) ∈ gs then [(j : Int)] else [] := by
        rw [List.range_succ, List.map_append, List.filter_append]
        congr 1
        show List.filter _ [Int.ofNat j] = _
        by_cases hg : (j : Int) ∈ gs
        · rw [if_pos hg, List.filter_cons_of_pos (by exact decide_eq_true hg)]
          rfl
        · rw [if_neg hg, List.filter_cons_of_neg (by exact fun z => hg (of_decide_eq_true z))]
          rfl
      by_cases hg : (j : Int) ∈ gs
      · rw [if_pos hg] at nx
        rw [decide_eq_true hg]
        refine iteT ⟨_, rfl, _, hc, ?_, cs ++ [(j : Int)], fun b o h => ?_, ?_, ?_, ?_⟩
        · rw [List.length_map]
          exact Nat.lt_of_le_of_lt (show cs.length ≤ 100 by omega) (by decide)
        · rw [upd_ne (ne_of_none h hC)]
          exact s9 b o h
        · rw [upd_same, List.map_append]
          rfl
        · rw [List.length_append, List.length_singleton]
          omega
        · rw [nx, ec]
      · rw [if_neg hg, List.append_nil] at nx
        rw [decide_eq_false hg]
        exact iteF ⟨cs, s9, hc, by omega, by rw [nx, ec]⟩
    rintro H9 ⟨cs, s9, hc, lc, ec⟩
    refine ⟨C, _, rfl, .inl hc, fun tc H10 s10 htc => ?_⟩
    have ey : ys = cs := by
      rw [ec]
      exact up_unique pw (goalsUp_up n gs) fun v => (mem v).trans (goalsUp_mem c6 v).symm
    have s810 := s9.trans s10
    refine ⟨.tuple (ys.map PyData.int), .tuple (cs.map PyData.int), .tup (sqF (s810 _ _ (s8 _ _ h5))) (dp_ints ys), .tup (SqT.of htc) (dp_ints cs), shaped_ints _, shaped_ints _, ?_⟩
    rw [ey, eqv_self (shaped_ints cs)]
    exact ⟨(by show 3 ≤ sizeLine; decide), fun tp htp => q _ tp ((sD.trans s810).trans (same_upd (Same.refl H10) htp)) (by rw [good]; exact upd_same)⟩
end
section
variable {P : Program} {w : World} {K : PySem.W.Frag} {mg : Str → Option Value} {base : Heap}

theorem edges_back (es : List Edge) : edgesOf (es.map fun q => [q.1, q.2]) = es := by
  unfold edgesOf
  rw [List.map_map]
  exact (List.map_congr_left fun q _ => rfl).trans (List.map_id es)
theorem Good.due {n e : Int} {es : List Edge} {gs : List Int} (g : Good n es e gs) : dueF n (es.map fun q => [q.1, q.2]) e gs = .web := by
  refine due_web ⟨g.n1, g.n2⟩ ?_ (firstIx_none fun j hj => ?_) ⟨g.e0, g.e1⟩ g.x0 (firstIx_none fun j hj => ?_) (firstIx_none fun j hj => ?_)
  · rw [List.length_map]
    have := g.few
    omega
  · rw [List.length_map] at hj
    have ej : es[j]? = some es[j] := List.getElem?_eq_getElem hj
    rw [badEdge_at (r := [es[j].1, es[j].2]) (by rw [List.getElem?_map, ej]; rfl)]
    have r := g.rng _ (List.getElem_mem hj)
    rw [show okPair n [es[j].1, es[j].2] = true from okPair_iff.mpr ⟨_, _, rfl, ⟨r.1, r.2.1⟩, r.2.2⟩]
    rw [decide_eq_false fun m => ?_]
    · rfl
    rw [← List.map_take] at m
    obtain ⟨q, hq, eq⟩ := List.mem_map.mp m
    have e1 : q.1 = es[j].1 := (List.cons.inj eq).1
    have e2 : q.2 = es[j].2 := (List.cons.inj (List.cons.inj eq).2).1
    have eqj : q = es[j] := Prod.ext e1 e2
    exact notin_take g.nd ej (eqj ▸ hq)
  · have ej : gs[j]? = some gs[j] := List.getElem?_eq_getElem hj
    rw [badExit_at ej, decide_eq_true (g.xr _ (List.getElem_mem hj))]
    rfl
  · rw [idleB_false, edges_back]
    exact ⟨g.fwd _ (by omega) (by omega), g.bwd _ (by omega) (by omega)⟩
theorem due_small : dueF 1 (rows []) 0 [0, 0] = .web := by
  refine due_web (by decide) (by decide) rfl (by decide) (by decide) (by decide) (firstIx_none fun j hj => ?_)
  have e : j = 0 := by
    have : j < 1 := hj
    omega
  rw [e]
  exact idleB_false.mpr ⟨.refl 0, 0, List.mem_cons_self, .refl 0⟩
def spLaw (K : PySem.W.Frag) : Sp := fun vs H Q _ => ∃ (a : Addr) (ns : List Int), vs = [.ref a] ∧ Scr K H a ns ∧ ∀ H', Q (.bl true) H'
abbrev s_law : Stmt := top 35
theorem sc_law : FnScope ["_law_script", "_law_pool_here", "_law_told", "_law_k", "_law_other"] ["_law_script"] (defScope s_law) := ⟨rfl, rfl, rfl, by decide +kernel, rfl, by decide +kernel, by decide +kernel⟩
theorem ok_law {fd : FuncData} (F : FunD K "law" "law" (defArgs s_law) (defBody s_law) (defScope s_law) [] [] (He.ga K "law") fd) (T : TxX K mg) (d_pool : Okd P w K mg base CX0 1 (He.ga K "_law_pool") ["_law_script"] (spPool K)) (d_draw : Okd P w K mg base CX0 1 (He.ga K "_law_draw") ["_law_pool_here", "_law_limit"] (spDraw K)) (d_web : Okd P w K mg base CX0 2 (He.ga K "_law_web") ["_law_pool_here", "_law_most", "_law_extra"] (spDrawWeb K)) (d_bent : Okd P w K mg base CX0 2 (He.ga K "_law_bent") ["_law_pool_here", "_law_told"] (spBent K)) (d_due : Okd P w K mg base CX0 3 (He.ga K "_law_due") ["_law_told"] spLawDue) (d_built : Okd P w K mg base CX0 8 (He.ga K "_law_built") ["_law_told"] (spBuilt K)) : FnOk P w K mg base CX0 9 (He.ga K "law") fd ["_law_script"] (spLaw K) := by
  obtain ⟨fd_pool, G_pool, b_pool⟩ := d_pool
  obtain ⟨fd_draw, G_draw, b_draw⟩ := d_draw
  obtain ⟨fd_web, G_web, b_web⟩ := d_web
  obtain ⟨fd_bent, G_bent, b_bent⟩ := d_bent
  obtain ⟨fd_due, G_due, b_due⟩ := d_due
  obtain ⟨fd_built, G_built, b_built⟩ := d_built
  refine F.ok sc_law (fun vs H Q E h => by obtain ⟨a, ns, rfl, _⟩ := h; rfl) (fun cdv A outer s H vs Q E hr h => ?_)
  obtain ⟨a, ns, rfl, hS, kk⟩ := h
  refine ⟨_, PSs.nox (pss_cons (ps_set (i := 1) sc_law.nd rfl (Or.inl rfl) (pe_call G_pool (hr.mono (by decide)) (by rfl) T.g__law_pool T.k__law_pool b_pool .nil pass0 (pa_cons (pv 0) pa_nil)))
    (pss_cons (ps_set (i := 2) sc_law.nd rfl (Or.inl rfl) (pe_call G_web (hr.mono (by decide)) (by rfl) T.g__law_web T.k__law_web b_web .nil pass0 (pa_cons (pv 1) (pa_cons pe_int (pa_cons pe_int pa_nil)))))
    (pss_cons (ps_if (PW.pt (pw_or (pt_cmpR (op_neD hr.units) (pe_call G_built (hr.mono (by decide)) (by rfl) T.g__law_built T.k__law_built b_built .nil pass0 (pa_cons (pv 2) pa_nil)) (pe_call G_due (hr.mono (by decide)) (by rfl) T.g__law_due T.k__law_due b_due .nil pass0 (pa_cons (pv 2) pa_nil)) (nomark _)) (pw_or1 (pt_cmpR (op_neD hr.units) (pe_call G_due (hr.mono (by decide)) (by rfl) T.g__law_due T.k__law_due b_due .nil pass0 (pa_cons (pv 2) pa_nil)) (pe_tup (pa_cons pe_str (pa_cons pe_int (pa_cons pe_bl pa_nil)))) (nomark _))))) (pss_one (ps_ret pe_bl)) pss_nil)
    (pss_cons (ps_for PassesOwn.never rfl (pi_range1 rfl T.n_range (pa_cons pe_int pa_nil)) (pg_name (i := 3) sc_law.nd rfl (Or.inl rfl))
      (pss_cons (ps_set (i := 4) sc_law.nd rfl (Or.inl rfl) (pe_call G_bent (hr.mono (by decide)) (by rfl) T.g__law_bent T.k__law_bent b_bent .nil pass0 (pa_cons (pv 1) (pa_cons (pv 2) pa_nil))))
    (C8.pss_cut (ps_if (pt_cmpR op_eq (pe_call G_draw (hr.mono (by decide)) (by rfl) T.g__law_draw T.k__law_draw b_draw .nil pass0 (pa_cons (pv 1) (pa_cons pe_int pa_nil))) pe_int (nomark _)) (pss_one (ps_set (i := 4) sc_law.nd rfl (Or.inl rfl) (pe_call G_bent (hr.mono (by decide)) (by rfl) T.g__law_bent T.k__law_bent b_bent .nil pass0 (pa_cons (pv 1) (pa_cons (pv 4) pa_nil))))) pss_nil)
    (pss_one (ps_if (pt_cmpR (op_neD hr.units) (pe_call G_built (hr.mono (by decide)) (by rfl) T.g__law_built T.k__law_built b_built .nil pass0 (pa_cons (pv 4) pa_nil)) (pe_call G_due (hr.mono (by decide)) (by rfl) T.g__law_due T.k__law_due b_due .nil pass0 (pa_cons (pv 4) pa_nil)) (nomark _)) (pss_one (ps_ret pe_bl)) pss_nil)))))
    (pss_one (ps_ret (pe_cmpR (op_eqD hr.units) (pe_call G_built (hr.mono (by decide)) (by rfl) T.g__law_built T.k__law_built b_built .nil pass0 (pa_cons (pe_tup (pa_cons pe_int (pa_cons (pe_lst pa_nil) (pa_cons pe_int (pa_cons (pe_lst (pa_cons pe_int (pa_cons pe_int pa_nil))) pa_nil))))) pa_nil)) (pe_tup (pa_cons pe_str (pa_cons pe_int (pa_cons pe_bl pa_nil)))) (nomark _)))))))), ?_⟩
  refine ⟨_, rfl, a, ns, rfl, hS, fun H1 p hp P1 hH1 => ?_⟩
  refine ⟨_, rfl, p, _, 6, 5, rfl, P1, by decide, by decide, by decide, by decide, by decide, fun H2 t n L e gs pa ga b2 P2 T2 good gnd hn hl hpp hgp hp0 hg0 ht0 => ?_⟩
  have gn1 := good.n1
  have lgs : gs.length ≤ 6 := by
    have := rng_len gnd (n := n.toNat) (fun g hg => by have := good.xr g hg; omega)
    omega
  have X2 := T2.x
  have lX : (toR L).length ≤ 17 := by
    rw [show (toR L).length = L.length from List.length_map ..]
    omega
  have wd : dueF n (rows (toR L)) e gs = .web := by
    rw [toR_rows]
    exact good.due
  refine ⟨_, rfl, t, n, e, toR L, gs, pa, ga, rfl, X2, by omega, by omega, fun H3 r1 s3 k3 => ?_⟩
  refine ⟨_, rfl, t, n, e, toR L, gs, pa, ga, rfl, X2.same s3, by omega, by omega, fun H4 r2 s4 k4 => ?_⟩
  refine ⟨_, _, dp_res (s4 _ _ k3), dp_res k4, shaped_res _, shaped_res _, _, rfl, ?_⟩
  rw [eqv_self (shaped_res _)]
  refine iteF ?_
  refine ⟨_, rfl, t, n, e, toR L, gs, pa, ga, rfl, X2.same (s3.trans s4), by omega, by omega, fun H5 r3 s5 k5 => ?_⟩
  refine ⟨(by show 3 ≤ sizeLine; decide), fun r4 h4 => ?_⟩
  have s6 := same_upd (o := .tup (resV .web)) (Same.refl H5) h4
  rw [wd] at k5
  refine ⟨resD .web, resD .web, dp_res (s6 _ _ k5), dp_res upd_same, shaped_res _, shaped_res _, _, rfl, ?_⟩
  rw [eqv_self (shaped_res _)]
  refine iteF ?_
  have sX := ((s3.trans s4).trans s5).trans s6
  have P6 := P2.same sX
  have X6 := X2.same sX
  revert P6 X6
  show _ → _ → tSeq _ _ _ _ (upd H5 r4 (.tup (resV .web)))
  generalize upd H5 r4 (.tup (resV .web)) = H6
  intro P6 X6
  refine ⟨3, rfl, by decide, by decide, for_range (lo := 0) (n := 3) (fun i σ' H' => ∃ v3 v4 : Option V, σ' = [some (.ref a), some (.ref p), some (.ref t), v3, v4] ∧ But1 p H6 H' ∧ PoolAt K H' p (999990000 - 1000 * i))
    ⟨none, none, rfl, But1.refl p H6, P6.less (by decide)⟩ ?_ ?_⟩
  · rintro i σ1 H7 hi ⟨v3, v4, rfl, b7, P7⟩
    refine ⟨_, rfl, _, rfl, p, 999990000 - 1000 * i, t, n, e, toR L, gs, pa, ga, rfl, P7, by omega, X6.but P6 b7 hpp hgp, by omega, by omega, hpp, hgp, fun H8 t8 n8 e8 R8 gs8 pa8 ga8 b8 P8 T8 l8 g8 hpp8 hgp8 => ?_⟩
    refine ⟨fun σ' H' => ∃ (t9 : Addr) (n9 e9 : Int) (R9 : List (Addr × List Int)) (gs9 : List Int) (pa9 ga9 : Addr), σ' = [some (.ref a), some (.ref p), some (.ref t), some (.int (0 + (i : Int))), some (.ref t9)] ∧ But1 p H6 H' ∧ PoolAt K H' p (999990000 - 1000 * (i + 1)) ∧ ToldX H' t9 n9 R9 e9 gs9 pa9 ga9 ∧ R9.length ≤ 400 ∧ gs9.length < 60, ?_, ?_⟩
    · refine ⟨_, rfl, p, 999990000 - 1000 * i - 101, 2, rfl, P8.less (by omega), by decide, by decide, fun H9 d d0 d1 P9 B9 => ⟨rfl, _, rfl, ?_⟩⟩
      have T9 := T8.but P8 B9.one hpp8 hgp8
      have b9 := (b7.trans b8).trans B9.one
      refine iteB (fun _ => ?_) (fun _ => ⟨t8, n8, e8, R8, gs8, pa8, ga8, rfl, b9, P9.less (by omega), T9, by omega, by omega⟩)
      refine ⟨_, rfl, _, rfl, p, 999990000 - 1000 * i - 101, t8, n8, e8, R8, gs8, pa8, ga8, rfl, P9, by omega, T9, by omega, by omega, hpp8, hgp8, fun H10 t10 n10 e10 R10 gs10 pa10 ga10 b10 P10 T10 l10 g10 hpp10 hgp10 => ?_⟩
      exact ⟨t10, n10, e10, R10, gs10, pa10, ga10, rfl, b9.trans b10, P10.less (by omega), T10, by omega, by omega⟩
    rintro σ9 H9 ⟨t9, n9, e9, R9, gs9, pa9, ga9, rfl, b9, P9, T9, l9, g9⟩
    refine ⟨_, rfl, t9, n9, e9, R9, gs9, pa9, ga9, rfl, T9, by omega, g9, fun H10 r1 s10 k10 => ?_⟩
    refine ⟨_, rfl, t9, n9, e9, R9, gs9, pa9, ga9, rfl, T9.same s10, by omega, by omega, fun H11 r2 s11 k11 => ?_⟩
    refine ⟨_, _, dp_res (s11 _ _ k10), dp_res k11, shaped_res _, shaped_res _, _, rfl, ?_⟩
    rw [eqv_self (shaped_res _)]
    refine iteF ?_
    have sE := s10.trans s11
    exact ⟨_, _, rfl, fun b o nb h => sE _ _ (b9 b o nb h), P9.same sE⟩
  rintro σ1 H7 ⟨v3, v4, rfl, b7, P7⟩
  refine ⟨(by show 0 ≤ sizeLine; decide), fun l1 h1 => ?_⟩
  refine ⟨(by show 2 ≤ sizeLine; decide), fun l2 h2 => ?_⟩
  refine ⟨(by show 4 ≤ sizeLine; decide), fun tt htt => ?_⟩
  have z1 : (upd (upd H7 l1 (.lst [])) l2 (.lst ([0, 0].map V.int))) l1 = some (.lst (rR [])) := by rw [upd_ne (ne_of_none (o := .lst []) upd_same h2), upd_same]; rfl
  have z2 : (upd (upd H7 l1 (.lst [])) l2 (.lst ([0, 0].map V.int))) l2 = some (.lst ([(0 : Int), 0].map V.int)) := upd_same
  have s8 := same_upd (o := .tup [.int 1, .ref l1, .int 0, .ref l2]) (Same.refl _) htt
  refine ⟨tt, 1, 0, [], [0, 0], l1, l2, rfl, ⟨upd_same, ⟨s8 _ _ z1, fun _ z => nomatch z⟩, s8 _ _ z2⟩, by decide, by decide, fun H8 r1 s9 k9 => ?_⟩
  rw [due_small] at k9
  refine ⟨(by show 3 ≤ sizeLine; decide), fun r2 hr2 => ?_⟩
  have s10 := same_upd (o := .tup (resV .web)) (Same.refl H8) hr2
  refine ⟨resD .web, resD .web, dp_res (s10 _ _ k9), dp_res upd_same, shaped_res _, shaped_res _, ?_⟩
  rw [eqv_self (shaped_res _)]
  exact kk _
end
section
variable {P : Program} {w : World} {K : PySem.W.Frag} {mg : Str → Option Value} {base : Heap}
abbrev s_BadPlaces_init : Stmt := inClass (top 3) 0
theorem sc_BadPlaces_init : FnScope ["self", "count"] ["self", "count"] (defScope s_BadPlaces_init) := ⟨rfl, rfl, rfl, by decide +kernel, rfl, by decide +kernel, by decide +kernel⟩
theorem ok_BadPlaces_init {fd : FuncData} (F : FunD K "__init__" "BadPlaces.__init__" (defArgs s_BadPlaces_init) (defBody s_BadPlaces_init) (defScope s_BadPlaces_init) [] [] (He.ma K (He.ga K "BadPlaces") "__init__") fd) (T : OexC K (He.ga K "BadPlaces")) (no : PySem.W.findIn K (.ref (He.ga K "BadPlaces")) "count" = some none) :
    FnOk P w K mg base CX0 1 (He.ma K (He.ga K "BadPlaces") "__init__") fd (["self", "count"] : List Str) (spInit (He.ga K "BadPlaces") "count") := by
  refine F.ok sc_BadPlaces_init (fun vs H Q E h => ?_) (fun cdv A outer s H vs Q E hr h => ?_)
  · obtain ⟨a, v, rfl, _⟩ := h
    rfl
  · obtain ⟨a, v, rfl, ha, k⟩ := h
    refine ⟨_, pss_one (ps_ost (pv 0) (pv 1)), ?_⟩
    exact ⟨_, rfl, _, rfl, a, He.ga K "BadPlaces", rfl, T, no, .inl ⟨ha, fun dx n ne => k dx n ne⟩⟩
abbrev s_BadEdges_init : Stmt := inClass (top 4) 0
theorem sc_BadEdges_init : FnScope ["self", "count"] ["self", "count"] (defScope s_BadEdges_init) := ⟨rfl, rfl, rfl, by decide +kernel, rfl, by decide +kernel, by decide +kernel⟩
theorem ok_BadEdges_init {fd : FuncData} (F : FunD K "__init__" "BadEdges.__init__" (defArgs s_BadEdges_init) (defBody s_BadEdges_init) (defScope s_BadEdges_init) [] [] (He.ma K (He.ga K "BadEdges") "__init__") fd) (T : OexC K (He.ga K "BadEdges")) (no : PySem.W.findIn K (.ref (He.ga K "BadEdges")) "count" = some none) :
    FnOk P w K mg base CX0 1 (He.ma K (He.ga K "BadEdges") "__init__") fd (["self", "count"] : List Str) (spInit (He.ga K "BadEdges") "count") := by
  refine F.ok sc_BadEdges_init (fun vs H Q E h => ?_) (fun cdv A outer s H vs Q E hr h => ?_)
  · obtain ⟨a, v, rfl, _⟩ := h
    rfl
  · obtain ⟨a, v, rfl, ha, k⟩ := h
    refine ⟨_, pss_one (ps_ost (pv 0) (pv 1)), ?_⟩
    exact ⟨_, rfl, _, rfl, a, He.ga K "BadEdges", rfl, T, no, .inl ⟨ha, fun dx n ne => k dx n ne⟩⟩
abbrev s_BadEdge_init : Stmt := inClass (top 5) 0
theorem sc_BadEdge_init : FnScope ["self", "index"] ["self", "index"] (defScope s_BadEdge_init) := ⟨rfl, rfl, rfl, by decide +kernel, rfl, by decide +kernel, by decide +kernel⟩
theorem ok_BadEdge_init {fd : FuncData} (F : FunD K "__init__" "BadEdge.__init__" (defArgs s_BadEdge_init) (defBody s_BadEdge_init) (defScope s_BadEdge_init) [] [] (He.ma K (He.ga K "BadEdge") "__init__") fd) (T : OexC K (He.ga K "BadEdge")) (no : PySem.W.findIn K (.ref (He.ga K "BadEdge")) "index" = some none) :
    FnOk P w K mg base CX0 1 (He.ma K (He.ga K "BadEdge") "__init__") fd (["self", "index"] : List Str) (spInit (He.ga K "BadEdge") "index") := by
  refine F.ok sc_BadEdge_init (fun vs H Q E h => ?_) (fun cdv A outer s H vs Q E hr h => ?_)
  · obtain ⟨a, v, rfl, _⟩ := h
    rfl
  · obtain ⟨a, v, rfl, ha, k⟩ := h
    refine ⟨_, pss_one (ps_ost (pv 0) (pv 1)), ?_⟩
    exact ⟨_, rfl, _, rfl, a, He.ga K "BadEdge", rfl, T, no, .inl ⟨ha, fun dx n ne => k dx n ne⟩⟩
abbrev s_BadEntry_init : Stmt := inClass (top 6) 0
theorem sc_BadEntry_init : FnScope ["self", "place"] ["self", "place"] (defScope s_BadEntry_init) := ⟨rfl, rfl, rfl, by decide +kernel, rfl, by decide +kernel, by decide +kernel⟩
theorem ok_BadEntry_init {fd : FuncData} (F : FunD K "__init__" "BadEntry.__init__" (defArgs s_BadEntry_init) (defBody s_BadEntry_init) (defScope s_BadEntry_init) [] [] (He.ma K (He.ga K "BadEntry") "__init__") fd) (T : OexC K (He.ga K "BadEntry")) (no : PySem.W.findIn K (.ref (He.ga K "BadEntry")) "place" = some none) :
    FnOk P w K mg base CX0 1 (He.ma K (He.ga K "BadEntry") "__init__") fd (["self", "place"] : List Str) (spInit (He.ga K "BadEntry") "place") := by
  refine F.ok sc_BadEntry_init (fun vs H Q E h => ?_) (fun cdv A outer s H vs Q E hr h => ?_)
  · obtain ⟨a, v, rfl, _⟩ := h
    rfl
  · obtain ⟨a, v, rfl, ha, k⟩ := h
    refine ⟨_, pss_one (ps_ost (pv 0) (pv 1)), ?_⟩
    exact ⟨_, rfl, _, rfl, a, He.ga K "BadEntry", rfl, T, no, .inl ⟨ha, fun dx n ne => k dx n ne⟩⟩
abbrev s_BadExit_init : Stmt := inClass (top 8) 0
theorem sc_BadExit_init : FnScope ["self", "place"] ["self", "place"] (defScope s_BadExit_init) := ⟨rfl, rfl, rfl, by decide +kernel, rfl, by decide +kernel, by decide +kernel⟩
theorem ok_BadExit_init {fd : FuncData} (F : FunD K "__init__" "BadExit.__init__" (defArgs s_BadExit_init) (defBody s_BadExit_init) (defScope s_BadExit_init) [] [] (He.ma K (He.ga K "BadExit") "__init__") fd) (T : OexC K (He.ga K "BadExit")) (no : PySem.W.findIn K (.ref (He.ga K "BadExit")) "place" = some none) :
    FnOk P w K mg base CX0 1 (He.ma K (He.ga K "BadExit") "__init__") fd (["self", "place"] : List Str) (spInit (He.ga K "BadExit") "place") := by
  refine F.ok sc_BadExit_init (fun vs H Q E h => ?_) (fun cdv A outer s H vs Q E hr h => ?_)
  · obtain ⟨a, v, rfl, _⟩ := h
    rfl
  · obtain ⟨a, v, rfl, ha, k⟩ := h
    refine ⟨_, pss_one (ps_ost (pv 0) (pv 1)), ?_⟩
    exact ⟨_, rfl, _, rfl, a, He.ga K "BadExit", rfl, T, no, .inl ⟨ha, fun dx n ne => k dx n ne⟩⟩
abbrev s_Idle_init : Stmt := inClass (top 9) 0
theorem sc_Idle_init : FnScope ["self", "place"] ["self", "place"] (defScope s_Idle_init) := ⟨rfl, rfl, rfl, by decide +kernel, rfl, by decide +kernel, by decide +kernel⟩
theorem ok_Idle_init {fd : FuncData} (F : FunD K "__init__" "Idle.__init__" (defArgs s_Idle_init) (defBody s_Idle_init) (defScope s_Idle_init) [] [] (He.ma K (He.ga K "Idle") "__init__") fd) (T : OexC K (He.ga K "Idle")) (no : PySem.W.findIn K (.ref (He.ga K "Idle")) "place" = some none) :
    FnOk P w K mg base CX0 1 (He.ma K (He.ga K "Idle") "__init__") fd (["self", "place"] : List Str) (spInit (He.ga K "Idle") "place") := by
  refine F.ok sc_Idle_init (fun vs H Q E h => ?_) (fun cdv A outer s H vs Q E hr h => ?_)
  · obtain ⟨a, v, rfl, _⟩ := h
    rfl
  · obtain ⟨a, v, rfl, ha, k⟩ := h
    refine ⟨_, pss_one (ps_ost (pv 0) (pv 1)), ?_⟩
    exact ⟨_, rfl, _, rfl, a, He.ga K "Idle", rfl, T, no, .inl ⟨ha, fun dx n ne => k dx n ne⟩⟩
end
/-! ### the head: what the top leaves, read as one Bool -/
def fns : List He.DefD := [
  ⟨("is_number", none), "is_number", "is_number", defArgs s_is_number, defBody s_is_number, defScope s_is_number, [], []⟩,
  ⟨("is_below", none), "is_below", "is_below", defArgs s_is_below, defBody s_is_below, defScope s_is_below, [], []⟩,
  ⟨("check_places", none), "check_places", "check_places", defArgs s_check_places, defBody s_check_places, defScope s_check_places, [], []⟩,
  ⟨("check_edges", none), "check_edges", "check_edges", defArgs s_check_edges, defBody s_check_edges, defScope s_check_edges, [], []⟩,
  ⟨("is_pair", none), "is_pair", "is_pair", defArgs s_is_pair, defBody s_is_pair, defScope s_is_pair, [], []⟩,
  ⟨("check_entry", none), "check_entry", "check_entry", defArgs s_check_entry, defBody s_check_entry, defScope s_check_entry, [], []⟩,
  ⟨("check_exits", none), "check_exits", "check_exits", defArgs s_check_exits, defBody s_check_exits, defScope s_check_exits, [], []⟩,
  ⟨("check_idle", none), "check_idle", "check_idle", defArgs s_check_idle, defBody s_check_idle, defScope s_check_idle, [], []⟩,
  ⟨("reached", none), "reached", "reached", defArgs s_reached, defBody s_reached, defScope s_reached, [], []⟩,
  ⟨("_law_pool", none), "_law_pool", "_law_pool", defArgs s_pool, defBody s_pool, defScope s_pool, [], []⟩,
  ⟨("_law_draw", none), "_law_draw", "_law_draw", defArgs s_draw, defBody s_draw, defScope s_draw, [], []⟩,
  ⟨("_law_ahead", none), "_law_ahead", "_law_ahead", defArgs s_ahead, defBody s_ahead, defScope s_ahead, [], []⟩,
  ⟨("_law_web", none), "_law_web", "_law_web", defArgs s_web, defBody s_web, defScope s_web, [], []⟩,
  ⟨("_law_bent", none), "_law_bent", "_law_bent", defArgs s_bent, defBody s_bent, defScope s_bent, [], []⟩,
  ⟨("_law_bad_edge", none), "_law_bad_edge", "_law_bad_edge", defArgs s_bad_edge, defBody s_bad_edge, defScope s_bad_edge, [], []⟩,
  ⟨("_law_idle", none), "_law_idle", "_law_idle", defArgs s_idle, defBody s_idle, defScope s_idle, [], []⟩,
  ⟨("_law_due", none), "_law_due", "_law_due", defArgs s_due, defBody s_due, defScope s_due, [], []⟩,
  ⟨("_law_built", none), "_law_built", "_law_built", defArgs s_built, defBody s_built, defScope s_built, [], []⟩,
  ⟨("law", none), "law", "law", defArgs s_law, defBody s_law, defScope s_law, [], []⟩,
  ⟨("Web", some "__init__"), "__init__", "Web.__init__", defArgs s_Web_init, defBody s_Web_init, defScope s_Web_init, [], []⟩,
  ⟨("BadPlaces", some "__init__"), "__init__", "BadPlaces.__init__", defArgs s_BadPlaces_init, defBody s_BadPlaces_init, defScope s_BadPlaces_init, [], []⟩,
  ⟨("BadEdges", some "__init__"), "__init__", "BadEdges.__init__", defArgs s_BadEdges_init, defBody s_BadEdges_init, defScope s_BadEdges_init, [], []⟩,
  ⟨("BadEdge", some "__init__"), "__init__", "BadEdge.__init__", defArgs s_BadEdge_init, defBody s_BadEdge_init, defScope s_BadEdge_init, [], []⟩,
  ⟨("BadEntry", some "__init__"), "__init__", "BadEntry.__init__", defArgs s_BadEntry_init, defBody s_BadEntry_init, defScope s_BadEntry_init, [], []⟩,
  ⟨("BadExit", some "__init__"), "__init__", "BadExit.__init__", defArgs s_BadExit_init, defBody s_BadExit_init, defScope s_BadExit_init, [], []⟩,
  ⟨("Idle", some "__init__"), "__init__", "Idle.__init__", defArgs s_Idle_init, defBody s_Idle_init, defScope s_Idle_init, [], []⟩]
def pqs : List PropD := []
def fas : List He.Fa := [.glo "is_number", .glo "is_below", .glo "check_places", .glo "check_edges", .glo "is_pair", .glo "check_entry", .glo "check_exits", .glo "check_idle", .glo "reached", .glo "_law_pool", .glo "_law_draw", .glo "_law_ahead", .glo "_law_web", .glo "_law_bent", .glo "_law_bad_edge", .glo "_law_idle", .glo "_law_due", .glo "_law_built", .glo "law", .glo "Web", .glo "SeatError", .glo "BadPlaces", .glo "BadEdges", .glo "BadEdge", .glo "BadEntry", .glo "NoExits", .glo "BadExit", .glo "Idle", .free "len", .free "isinstance", .free "int", .free "bool", .free "list", .free "tuple", .free "set", .free "enumerate", .free "range", .free "sorted", .free "abs", .int "MOST_PLACES" 24, .int "MOST_EDGES" 80, .noat "Web" "places", .noat "Web" "edges", .noat "Web" "entry", .noat "Web" "exits", .noat "BadPlaces" "count", .noat "BadEdges" "count", .noat "BadEdge" "index", .noat "BadEntry" "place", .noat "BadExit" "place", .noat "Idle" "place", .cls "Web", .mkr "Web", .exm "BadPlaces" "BadPlaces" true, .exm "BadEdges" "BadEdges" true, .exm "BadEdge" "BadEdge" true, .exm "BadEntry" "BadEntry" true, .exm "NoExits" "NoExits" true, .exm "BadExit" "BadExit" true, .exm "Idle" "Idle" true, .exm "BadEdges" "BadPlaces" false, .exm "BadEdge" "BadPlaces" false, .exm "BadEdge" "BadEdges" false, .exm "BadEntry" "BadPlaces" false, .exm "BadEntry" "BadEdges" false, .exm "BadEntry" "BadEdge" false, .exm "NoExits" "BadPlaces" false, .exm "NoExits" "BadEdges" false, .exm "NoExits" "BadEdge" false, .exm "NoExits" "BadEntry" false, .exm "BadExit" "BadPlaces" false, .exm "BadExit" "BadEdges" false, .exm "BadExit" "BadEdge" false, .exm "BadExit" "BadEntry" false, .exm "BadExit" "NoExits" false, .exm "Idle" "BadPlaces" false, .exm "Idle" "BadEdges" false, .exm "Idle" "BadEdge" false, .exm "Idle" "BadEntry" false, .exm "Idle" "NoExits" false, .exm "Idle" "BadExit" false]
def initB (K : PySem.W.Frag) (C : Addr) : Bool := oexB K C && (eqOB (PySem.W.findIn K (.ref C) "__init__") (some (some (.ref (He.ma K C "__init__")))) && eqVB (PySem.W.typeIn K (.ref (He.ma K C "__init__"))) (some (.type "function")))
def excB (K : PySem.W.Frag) (C : Addr) : Bool := eqOB (PySem.W.findIn K (.ref C) "__getattribute__") (some (some (.builtin "BaseException.__getattribute__"))) && (eqOB (PySem.W.findIn K (.ref C) "__getattr__") (some none) && (eqBB (PySem.W.subIn K (.ref C) (.type "BaseException")) (some true) && (PySem.W.hasDictIn K C &&
  (eqOB (PySem.W.findIn K (.ref C) "__class__") (some (some (.builtin "object.__class__"))) && (eqOB (PySem.W.specialIn K (.builtin "object.__class__") "__get__") (some (some (.builtin "getset_descriptor.__get__"))) && (eqBB (PySem.W.takesIn K (.builtin "object.__class__")) (some true) && eqBB (PySem.W.mroIn K C (.type "object")) (some true)))))))
def noB (K : PySem.W.Frag) (C : Addr) : Bool := PySem.W.excIn K C He.veBase "ValueError.__new__" && (PySem.W.keepIn K (.ref C) && (eqBB (PySem.W.subIn K (.ref C) (.type "BaseException")) (some true) && eqVB (PySem.W.typeIn K (.ref C)) (some (.type "type"))))
def errs : List Str := ["BadPlaces", "BadEdges", "BadEdge", "BadEntry", "BadExit", "Idle"]
def alls : List Str := ["BadPlaces", "BadEdges", "BadEdge", "BadEntry", "NoExits", "BadExit", "Idle"]
def kindB (K : PySem.W.Frag) (x : Str) : Bool := excB K (He.ga K x) && eqBB (PySem.W.kitOne K (.ref (He.ga K x)) (.ref (He.ga K "SeatError"))) (some true)
def exB (K : PySem.W.Frag) : Bool := noB K (He.ga K "NoExits") && ((errs.all fun x => errB K (He.ga K x)) && ((errs.all fun x => initB K (He.ga K x)) && (alls.all fun x => kindB K x)))
abbrev RR : PySem.W.OpenRow := PySem.W.OpenLaw.row PySem.Challenge.rw_savedseats_k01_web_errors
abbrev hkx : PySem.W.Hook := hookP 5 fas fns pqs exB
def obx (s : PySem.W.SharedT) : AlP := obsP 5 fas fns pqs exB (HandSHeadRun.getT s)
theorem obx_eq (s : PySem.W.SharedT) : obx s = hkx.obs s.abs := obsP_eq 5 fas fns pqs exB (HandSHeadRun.getT_eq s)
def loose : List Str := (["BadEdge", "BadEdges", "BadEntry", "BadExit", "BadPlaces", "Idle", "MOST_EDGES", "MOST_PLACES", "NoExits", "SeatError", "Web", "__name__", "_law_ahead", "_law_bad_edge", "_law_bent", "_law_built", "_law_draw", "_law_due", "_law_idle", "_law_made"] : List Str) ++ (["_law_pool", "_law_web", "_wall", "check_edges", "check_entry", "check_exits", "check_idle", "check_places", "is_below", "is_number", "is_pair", "reached"] : List Str)
theorem runx (w : World) : HandSHeadRun.RunEq RR (PySem.W.view RR.prog [35]) hkx obx 100000 loose w := by
  intro os
  kernel_rfl
section
variable {P : Program} {w : World} {K : PySem.W.Frag} {mg : Str → Option Value} {h : Heap}
theorem excB_ok {C : Addr} (e : excB K C = true) : ExcC K C := by
  obtain ⟨b1, b⟩ := andB e
  obtain ⟨b2, b⟩ := andB b
  obtain ⟨b3, b⟩ := andB b
  obtain ⟨b4, b⟩ := andB b
  obtain ⟨b5, b⟩ := andB b
  obtain ⟨b6, b⟩ := andB b
  obtain ⟨b7, b8⟩ := andB b
  exact ⟨of_decide_eq_true b1, of_decide_eq_true b2, of_decide_eq_true b3, b4, of_decide_eq_true b5, of_decide_eq_true b6, of_decide_eq_true b7, of_decide_eq_true b8⟩
theorem ex_of (c : exB K = true) : noB K (He.ga K "NoExits") = true ∧ (∀ x ∈ errs, errB K (He.ga K x) = true) ∧ (∀ x ∈ errs, initB K (He.ga K x) = true) ∧ ∀ x ∈ alls, ExcC K (He.ga K x) ∧ PySem.W.kitOne K (.ref (He.ga K x)) (.ref (He.ga K "SeatError")) = some true := by
  obtain ⟨c0, c⟩ := andB c
  obtain ⟨c1, c⟩ := andB c
  obtain ⟨c2, c3⟩ := andB c
  refine ⟨c0, List.all_eq_true.mp c1, List.all_eq_true.mp c2, fun x hx => ?_⟩
  obtain ⟨k1, k2⟩ := andB (List.all_eq_true.mp c3 x hx)
  exact ⟨excB_ok k1, of_decide_eq_true k2⟩
theorem no_of (c : exB K = true) : PySem.W.excIn K (He.ga K "NoExits") He.veBase "ValueError.__new__" = true ∧ PySem.W.keepIn K (.ref (He.ga K "NoExits")) = true ∧ PySem.W.subIn K (.ref (He.ga K "NoExits")) (.type "BaseException") = some true ∧ PySem.W.typeIn K (.ref (He.ga K "NoExits")) = some (.type "type") := by
  obtain ⟨b1, b⟩ := andB (ex_of c).1
  obtain ⟨b2, b⟩ := andB b
  obtain ⟨b3, b4⟩ := andB b
  exact ⟨b1, b2, of_decide_eq_true b3, of_decide_eq_true b4⟩
theorem txt_of (X : K.In h) (G : h.Ns mainGlobals mg) (c : He.SaysD fas fns K) (e : exB K = true) : TxX K mg where
  g_is_number := He.glo_ok X G (c.fact 0 (f := .glo "is_number") rfl)
  k_is_number := (c.def_ 0 rfl).elim fun _ F => F.kp
  g_is_below := He.glo_ok X G (c.fact 1 (f := .glo "is_below") rfl)
  k_is_below := (c.def_ 1 rfl).elim fun _ F => F.kp
  g_check_places := He.glo_ok X G (c.fact 2 (f := .glo "check_places") rfl)
  k_check_places := (c.def_ 2 rfl).elim fun _ F => F.kp
  g_check_edges := He.glo_ok X G (c.fact 3 (f := .glo "check_edges") rfl)
  k_check_edges := (c.def_ 3 rfl).elim fun _ F => F.kp
  g_is_pair := He.glo_ok X G (c.fact 4 (f := .glo "is_pair") rfl)
  k_is_pair := (c.def_ 4 rfl).elim fun _ F => F.kp
  g_check_entry := He.glo_ok X G (c.fact 5 (f := .glo "check_entry") rfl)
  k_check_entry := (c.def_ 5 rfl).elim fun _ F => F.kp
  g_check_exits := He.glo_ok X G (c.fact 6 (f := .glo "check_exits") rfl)
  k_check_exits := (c.def_ 6 rfl).elim fun _ F => F.kp
  g_check_idle := He.glo_ok X G (c.fact 7 (f := .glo "check_idle") rfl)
  k_check_idle := (c.def_ 7 rfl).elim fun _ F => F.kp
  g_reached := He.glo_ok X G (c.fact 8 (f := .glo "reached") rfl)
  k_reached := (c.def_ 8 rfl).elim fun _ F => F.kp
  g__law_pool := He.glo_ok X G (c.fact 9 (f := .glo "_law_pool") rfl)
  k__law_pool := (c.def_ 9 rfl).elim fun _ F => F.kp
  g__law_draw := He.glo_ok X G (c.fact 10 (f := .glo "_law_draw") rfl)
  k__law_draw := (c.def_ 10 rfl).elim fun _ F => F.kp
  g__law_ahead := He.glo_ok X G (c.fact 11 (f := .glo "_law_ahead") rfl)
  k__law_ahead := (c.def_ 11 rfl).elim fun _ F => F.kp
  g__law_web := He.glo_ok X G (c.fact 12 (f := .glo "_law_web") rfl)
  k__law_web := (c.def_ 12 rfl).elim fun _ F => F.kp
  g__law_bent := He.glo_ok X G (c.fact 13 (f := .glo "_law_bent") rfl)
  k__law_bent := (c.def_ 13 rfl).elim fun _ F => F.kp
  g__law_bad_edge := He.glo_ok X G (c.fact 14 (f := .glo "_law_bad_edge") rfl)
  k__law_bad_edge := (c.def_ 14 rfl).elim fun _ F => F.kp
  g__law_idle := He.glo_ok X G (c.fact 15 (f := .glo "_law_idle") rfl)
  k__law_idle := (c.def_ 15 rfl).elim fun _ F => F.kp
  g__law_due := He.glo_ok X G (c.fact 16 (f := .glo "_law_due") rfl)
  k__law_due := (c.def_ 16 rfl).elim fun _ F => F.kp
  g__law_built := He.glo_ok X G (c.fact 17 (f := .glo "_law_built") rfl)
  k__law_built := (c.def_ 17 rfl).elim fun _ F => F.kp
  g_law := He.glo_ok X G (c.fact 18 (f := .glo "law") rfl)
  k_law := (c.def_ 18 rfl).elim fun _ F => F.kp
  g_Web := He.glo_ok X G (c.fact 19 (f := .glo "Web") rfl)
  g_SeatError := He.glo_ok X G (c.fact 20 (f := .glo "SeatError") rfl)
  g_BadPlaces := He.glo_ok X G (c.fact 21 (f := .glo "BadPlaces") rfl)
  g_BadEdges := He.glo_ok X G (c.fact 22 (f := .glo "BadEdges") rfl)
  g_BadEdge := He.glo_ok X G (c.fact 23 (f := .glo "BadEdge") rfl)
  g_BadEntry := He.glo_ok X G (c.fact 24 (f := .glo "BadEntry") rfl)
  g_NoExits := He.glo_ok X G (c.fact 25 (f := .glo "NoExits") rfl)
  g_BadExit := He.glo_ok X G (c.fact 26 (f := .glo "BadExit") rfl)
  g_Idle := He.glo_ok X G (c.fact 27 (f := .glo "Idle") rfl)
  c_MOST_PLACES := He.int_ok X G (c.fact 39 (f := .int "MOST_PLACES" 24) rfl)
  c_MOST_EDGES := He.int_ok X G (c.fact 40 (f := .int "MOST_EDGES" 80) rfl)
  n_len := He.free_ok X G (c.fact 28 (f := .free "len") rfl)
  n_isinstance := He.free_ok X G (c.fact 29 (f := .free "isinstance") rfl)
  n_int := He.free_ok X G (c.fact 30 (f := .free "int") rfl)
  n_bool := He.free_ok X G (c.fact 31 (f := .free "bool") rfl)
  n_list := He.free_ok X G (c.fact 32 (f := .free "list") rfl)
  n_tuple := He.free_ok X G (c.fact 33 (f := .free "tuple") rfl)
  n_set := He.free_ok X G (c.fact 34 (f := .free "set") rfl)
  n_enumerate := He.free_ok X G (c.fact 35 (f := .free "enumerate") rfl)
  n_range := He.free_ok X G (c.fact 36 (f := .free "range") rfl)
  n_sorted := He.free_ok X G (c.fact 37 (f := .free "sorted") rfl)
  n_abs := He.free_ok X G (c.fact 38 (f := .free "abs") rfl)
  cl_Web := He.cls_ok (c.fact 51 (f := .cls "Web") rfl)
  mk_Web := He.mkr_ok (c.fact 52 (f := .mkr "Web") rfl)
  x_BadPlaces := He.exm_ok (c.fact 53 (f := .exm "BadPlaces" "BadPlaces" true) rfl)
  xc_BadPlaces := ((ex_of e).2.2.2 "BadPlaces" (by decide +kernel)).1
  e_BadPlaces := ((ex_of e).2.2.2 "BadPlaces" (by decide +kernel)).2
  x_BadEdges := He.exm_ok (c.fact 54 (f := .exm "BadEdges" "BadEdges" true) rfl)
  xc_BadEdges := ((ex_of e).2.2.2 "BadEdges" (by decide +kernel)).1
  e_BadEdges := ((ex_of e).2.2.2 "BadEdges" (by decide +kernel)).2
  x_BadEdges_BadPlaces := He.exm_ok (c.fact 60 (f := .exm "BadEdges" "BadPlaces" false) rfl)
  x_BadEdge := He.exm_ok (c.fact 55 (f := .exm "BadEdge" "BadEdge" true) rfl)
  xc_BadEdge := ((ex_of e).2.2.2 "BadEdge" (by decide +kernel)).1
  e_BadEdge := ((ex_of e).2.2.2 "BadEdge" (by decide +kernel)).2
  x_BadEdge_BadPlaces := He.exm_ok (c.fact 61 (f := .exm "BadEdge" "BadPlaces" false) rfl)
  x_BadEdge_BadEdges := He.exm_ok (c.fact 62 (f := .exm "BadEdge" "BadEdges" false) rfl)
  x_BadEntry := He.exm_ok (c.fact 56 (f := .exm "BadEntry" "BadEntry" true) rfl)
  xc_BadEntry := ((ex_of e).2.2.2 "BadEntry" (by decide +kernel)).1
  e_BadEntry := ((ex_of e).2.2.2 "BadEntry" (by decide +kernel)).2
  x_BadEntry_BadPlaces := He.exm_ok (c.fact 63 (f := .exm "BadEntry" "BadPlaces" false) rfl)
  x_BadEntry_BadEdges := He.exm_ok (c.fact 64 (f := .exm "BadEntry" "BadEdges" false) rfl)
  x_BadEntry_BadEdge := He.exm_ok (c.fact 65 (f := .exm "BadEntry" "BadEdge" false) rfl)
  x_NoExits := He.exm_ok (c.fact 57 (f := .exm "NoExits" "NoExits" true) rfl)
  xc_NoExits := ((ex_of e).2.2.2 "NoExits" (by decide +kernel)).1
  e_NoExits := ((ex_of e).2.2.2 "NoExits" (by decide +kernel)).2
  x_NoExits_BadPlaces := He.exm_ok (c.fact 66 (f := .exm "NoExits" "BadPlaces" false) rfl)
  x_NoExits_BadEdges := He.exm_ok (c.fact 67 (f := .exm "NoExits" "BadEdges" false) rfl)
  x_NoExits_BadEdge := He.exm_ok (c.fact 68 (f := .exm "NoExits" "BadEdge" false) rfl)
  x_NoExits_BadEntry := He.exm_ok (c.fact 69 (f := .exm "NoExits" "BadEntry" false) rfl)
  x_BadExit := He.exm_ok (c.fact 58 (f := .exm "BadExit" "BadExit" true) rfl)
  xc_BadExit := ((ex_of e).2.2.2 "BadExit" (by decide +kernel)).1
  e_BadExit := ((ex_of e).2.2.2 "BadExit" (by decide +kernel)).2
  x_BadExit_BadPlaces := He.exm_ok (c.fact 70 (f := .exm "BadExit" "BadPlaces" false) rfl)
  x_BadExit_BadEdges := He.exm_ok (c.fact 71 (f := .exm "BadExit" "BadEdges" false) rfl)
  x_BadExit_BadEdge := He.exm_ok (c.fact 72 (f := .exm "BadExit" "BadEdge" false) rfl)
  x_BadExit_BadEntry := He.exm_ok (c.fact 73 (f := .exm "BadExit" "BadEntry" false) rfl)
  x_BadExit_NoExits := He.exm_ok (c.fact 74 (f := .exm "BadExit" "NoExits" false) rfl)
  x_Idle := He.exm_ok (c.fact 59 (f := .exm "Idle" "Idle" true) rfl)
  xc_Idle := ((ex_of e).2.2.2 "Idle" (by decide +kernel)).1
  e_Idle := ((ex_of e).2.2.2 "Idle" (by decide +kernel)).2
  x_Idle_BadPlaces := He.exm_ok (c.fact 75 (f := .exm "Idle" "BadPlaces" false) rfl)
  x_Idle_BadEdges := He.exm_ok (c.fact 76 (f := .exm "Idle" "BadEdges" false) rfl)
  x_Idle_BadEdge := He.exm_ok (c.fact 77 (f := .exm "Idle" "BadEdge" false) rfl)
  x_Idle_BadEntry := He.exm_ok (c.fact 78 (f := .exm "Idle" "BadEntry" false) rfl)
  x_Idle_NoExits := He.exm_ok (c.fact 79 (f := .exm "Idle" "NoExits" false) rfl)
  x_Idle_BadExit := He.exm_ok (c.fact 80 (f := .exm "Idle" "BadExit" false) rfl)
  na_places := He.noat_ok (c.fact 41 (f := .noat "Web" "places") rfl)
  na_edges := He.noat_ok (c.fact 42 (f := .noat "Web" "edges") rfl)
  na_entry := He.noat_ok (c.fact 43 (f := .noat "Web" "entry") rfl)
  na_exits := He.noat_ok (c.fact 44 (f := .noat "Web" "exits") rfl)
  q_NoExits := (no_of e).1
  k_NoExits := (no_of e).2.1
  b_NoExits := (no_of e).2.2.1
  t_NoExits := (no_of e).2.2.2
theorem i_BadPlaces (c : He.SaysD fas fns K) (e : exB K = true) (base : Heap) : ErrI P w K mg base (He.ga K "BadPlaces") "count" := by
  obtain ⟨fd, F⟩ := c.def_ 20 (d := ⟨("BadPlaces", some "__init__"), "__init__", "BadPlaces.__init__", defArgs s_BadPlaces_init, defBody s_BadPlaces_init, defScope s_BadPlaces_init, [], []⟩) rfl
  have E := errB_ok ((ex_of e).2.1 "BadPlaces" (by decide +kernel))
  obtain ⟨b1, b⟩ := andB ((ex_of e).2.2.1 "BadPlaces" (by decide +kernel))
  obtain ⟨b2, b3⟩ := andB b
  have no := He.noat_ok (c.fact 45 (f := .noat "BadPlaces" "count") rfl)
  exact ⟨E, E.oex b1, no, _, fd, of_decide_eq_true b2, of_decide_eq_true b3, ok_BadPlaces_init F (E.oex b1) no, FunD.bindsN (ps := ["self", "count"]) F fun _ _ _ _ _ _ us hl => match us, hl with | [_, _], _ => rfl⟩
theorem i_BadEdges (c : He.SaysD fas fns K) (e : exB K = true) (base : Heap) : ErrI P w K mg base (He.ga K "BadEdges") "count" := by
  obtain ⟨fd, F⟩ := c.def_ 21 (d := ⟨("BadEdges", some "__init__"), "__init__", "BadEdges.__init__", defArgs s_BadEdges_init, defBody s_BadEdges_init, defScope s_BadEdges_init, [], []⟩) rfl
  have E := errB_ok ((ex_of e).2.1 "BadEdges" (by decide +kernel))
  obtain ⟨b1, b⟩ := andB ((ex_of e).2.2.1 "BadEdges" (by decide +kernel))
  obtain ⟨b2, b3⟩ := andB b
  have no := He.noat_ok (c.fact 46 (f := .noat "BadEdges" "count") rfl)
  exact ⟨E, E.oex b1, no, _, fd, of_decide_eq_true b2, of_decide_eq_true b3, ok_BadEdges_init F (E.oex b1) no, FunD.bindsN (ps := ["self", "count"]) F fun _ _ _ _ _ _ us hl => match us, hl with | [_, _], _ => rfl⟩
theorem i_BadEdge (c : He.SaysD fas fns K) (e : exB K = true) (base : Heap) : ErrI P w K mg base (He.ga K "BadEdge") "index" := by
  obtain ⟨fd, F⟩ := c.def_ 22 (d := ⟨("BadEdge", some "__init__"), "__init__", "BadEdge.__init__", defArgs s_BadEdge_init, defBody s_BadEdge_init, defScope s_BadEdge_init, [], []⟩) rfl
  have E := errB_ok ((ex_of e).2.1 "BadEdge" (by decide +kernel))
  obtain ⟨b1, b⟩ := andB ((ex_of e).2.2.1 "BadEdge" (by decide +kernel))
  obtain ⟨b2, b3⟩ := andB b
  have no := He.noat_ok (c.fact 47 (f := .noat "BadEdge" "index") rfl)
  exact ⟨E, E.oex b1, no, _, fd, of_decide_eq_true b2, of_decide_eq_true b3, ok_BadEdge_init F (E.oex b1) no, FunD.bindsN (ps := ["self", "index"]) F fun _ _ _ _ _ _ us hl => match us, hl with | [_, _], _ => rfl⟩
theorem i_BadEntry (c : He.SaysD fas fns K) (e : exB K = true) (base : Heap) : ErrI P w K mg base (He.ga K "BadEntry") "place" := by
  obtain ⟨fd, F⟩ := c.def_ 23 (d := ⟨("BadEntry", some "__init__"), "__init__", "BadEntry.__init__", defArgs s_BadEntry_init, defBody s_BadEntry_init, defScope s_BadEntry_init, [], []⟩) rfl
  have E := errB_ok ((ex_of e).2.1 "BadEntry" (by decide +kernel))
  obtain ⟨b1, b⟩ := andB ((ex_of e).2.2.1 "BadEntry" (by decide +kernel))
  obtain ⟨b2, b3⟩ := andB b
  have no := He.noat_ok (c.fact 48 (f := .noat "BadEntry" "place") rfl)
  exact ⟨E, E.oex b1, no, _, fd, of_decide_eq_true b2, of_decide_eq_true b3, ok_BadEntry_init F (E.oex b1) no, FunD.bindsN (ps := ["self", "place"]) F fun _ _ _ _ _ _ us hl => match us, hl with | [_, _], _ => rfl⟩
theorem i_BadExit (c : He.SaysD fas fns K) (e : exB K = true) (base : Heap) : ErrI P w K mg base (He.ga K "BadExit") "place" := by
  obtain ⟨fd, F⟩ := c.def_ 24 (d := ⟨("BadExit", some "__init__"), "__init__", "BadExit.__init__", defArgs s_BadExit_init, defBody s_BadExit_init, defScope s_BadExit_init, [], []⟩) rfl
  have E := errB_ok ((ex_of e).2.1 "BadExit" (by decide +kernel))
  obtain ⟨b1, b⟩ := andB ((ex_of e).2.2.1 "BadExit" (by decide +kernel))
  obtain ⟨b2, b3⟩ := andB b
  have no := He.noat_ok (c.fact 49 (f := .noat "BadExit" "place") rfl)
  exact ⟨E, E.oex b1, no, _, fd, of_decide_eq_true b2, of_decide_eq_true b3, ok_BadExit_init F (E.oex b1) no, FunD.bindsN (ps := ["self", "place"]) F fun _ _ _ _ _ _ us hl => match us, hl with | [_, _], _ => rfl⟩
theorem i_Idle (c : He.SaysD fas fns K) (e : exB K = true) (base : Heap) : ErrI P w K mg base (He.ga K "Idle") "place" := by
  obtain ⟨fd, F⟩ := c.def_ 25 (d := ⟨("Idle", some "__init__"), "__init__", "Idle.__init__", defArgs s_Idle_init, defBody s_Idle_init, defScope s_Idle_init, [], []⟩) rfl
  have E := errB_ok ((ex_of e).2.1 "Idle" (by decide +kernel))
  obtain ⟨b1, b⟩ := andB ((ex_of e).2.2.1 "Idle" (by decide +kernel))
  obtain ⟨b2, b3⟩ := andB b
  have no := He.noat_ok (c.fact 50 (f := .noat "Idle" "place") rfl)
  exact ⟨E, E.oex b1, no, _, fd, of_decide_eq_true b2, of_decide_eq_true b3, ok_Idle_init F (E.oex b1) no, FunD.bindsN (ps := ["self", "place"]) F fun _ _ _ _ _ _ us hl => match us, hl with | [_, _], _ => rfl⟩
theorem facts {f : Addr} (X : K.In h) (G : h.Ns mainGlobals mg) (hfa : mg ("law" : Str) = some (.ref f)) (c : He.SaysD fas fns K) (e : exB K = true) :
    ∃ fd : FuncData, (∀ (s : Shared) (v : Value), BindsTo s fd ⟨[v], []⟩ [("_law_script", v)]) ∧ ∀ base : Heap, K.In base → base.Ns mainGlobals mg → FnOk P w K mg base CX0 9 f fd ["_law_script"] (spLaw K) := by
  obtain ⟨fd_is_number, F_is_number⟩ := c.def_ 0 (d := ⟨("is_number", none), "is_number", "is_number", defArgs s_is_number, defBody s_is_number, defScope s_is_number, [], []⟩) rfl
  obtain ⟨fd_is_below, F_is_below⟩ := c.def_ 1 (d := ⟨("is_below", none), "is_below", "is_below", defArgs s_is_below, defBody s_is_below, defScope s_is_below, [], []⟩) rfl
  obtain ⟨fd_check_places, F_check_places⟩ := c.def_ 2 (d := ⟨("check_places", none), "check_places", "check_places", defArgs s_check_places, defBody s_check_places, defScope s_check_places, [], []⟩) rfl
  obtain ⟨fd_check_edges, F_check_edges⟩ := c.def_ 3 (d := ⟨("check_edges", none), "check_edges", "check_edges", defArgs s_check_edges, defBody s_check_edges, defScope s_check_edges, [], []⟩) rfl
  obtain ⟨fd_is_pair, F_is_pair⟩ := c.def_ 4 (d := ⟨("is_pair", none), "is_pair", "is_pair", defArgs s_is_pair, defBody s_is_pair, defScope s_is_pair, [], []⟩) rfl
  obtain ⟨fd_check_entry, F_check_entry⟩ := c.def_ 5 (d := ⟨("check_entry", none), "check_entry", "check_entry", defArgs s_check_entry, defBody s_check_entry, defScope s_check_entry, [], []⟩) rfl
  obtain ⟨fd_check_exits, F_check_exits⟩ := c.def_ 6 (d := ⟨("check_exits", none), "check_exits", "check_exits", defArgs s_check_exits, defBody s_check_exits, defScope s_check_exits, [], []⟩) rfl
  obtain ⟨fd_check_idle, F_check_idle⟩ := c.def_ 7 (d := ⟨("check_idle", none), "check_idle", "check_idle", defArgs s_check_idle, defBody s_check_idle, defScope s_check_idle, [], []⟩) rfl
  obtain ⟨fd_reached, F_reached⟩ := c.def_ 8 (d := ⟨("reached", none), "reached", "reached", defArgs s_reached, defBody s_reached, defScope s_reached, [], []⟩) rfl
  obtain ⟨fd_pool, F_pool⟩ := c.def_ 9 (d := ⟨("_law_pool", none), "_law_pool", "_law_pool", defArgs s_pool, defBody s_pool, defScope s_pool, [], []⟩) rfl
  obtain ⟨fd_draw, F_draw⟩ := c.def_ 10 (d := ⟨("_law_draw", none), "_law_draw", "_law_draw", defArgs s_draw, defBody s_draw, defScope s_draw, [], []⟩) rfl
  obtain ⟨fd_ahead, F_ahead⟩ := c.def_ 11 (d := ⟨("_law_ahead", none), "_law_ahead", "_law_ahead", defArgs s_ahead, defBody s_ahead, defScope s_ahead, [], []⟩) rfl
  obtain ⟨fd_web, F_web⟩ := c.def_ 12 (d := ⟨("_law_web", none), "_law_web", "_law_web", defArgs s_web, defBody s_web, defScope s_web, [], []⟩) rfl
  obtain ⟨fd_bent, F_bent⟩ := c.def_ 13 (d := ⟨("_law_bent", none), "_law_bent", "_law_bent", defArgs s_bent, defBody s_bent, defScope s_bent, [], []⟩) rfl
  obtain ⟨fd_bad_edge, F_bad_edge⟩ := c.def_ 14 (d := ⟨("_law_bad_edge", none), "_law_bad_edge", "_law_bad_edge", defArgs s_bad_edge, defBody s_bad_edge, defScope s_bad_edge, [], []⟩) rfl
  obtain ⟨fd_idle, F_idle⟩ := c.def_ 15 (d := ⟨("_law_idle", none), "_law_idle", "_law_idle", defArgs s_idle, defBody s_idle, defScope s_idle, [], []⟩) rfl
  obtain ⟨fd_due, F_due⟩ := c.def_ 16 (d := ⟨("_law_due", none), "_law_due", "_law_due", defArgs s_due, defBody s_due, defScope s_due, [], []⟩) rfl
  obtain ⟨fd_built, F_built⟩ := c.def_ 17 (d := ⟨("_law_built", none), "_law_built", "_law_built", defArgs s_built, defBody s_built, defScope s_built, [], []⟩) rfl
  obtain ⟨fd_law, F_law⟩ := c.def_ 18 (d := ⟨("law", none), "law", "law", defArgs s_law, defBody s_law, defScope s_law, [], []⟩) rfl
  obtain ⟨fd_Web_init, F_Web_init⟩ := c.def_ 19 (d := ⟨("Web", some "__init__"), "__init__", "Web.__init__", defArgs s_Web_init, defBody s_Web_init, defScope s_Web_init, [], []⟩) rfl
  have T := txt_of X G c e
  have q := hfa.symm.trans T.g_law
  cases q
  have b := FunD.bindsA (ps := ["_law_script"]) F_law fun _ _ _ _ _ _ us hl => match us, hl with | [_], _ => rfl
  refine ⟨fd_law, fun s v => b s [v] rfl, fun base _ _ => ?_⟩
  have I_BadPlaces : ErrI P w K mg base (He.ga K "BadPlaces") "count" := i_BadPlaces c e base
  have I_BadEdges : ErrI P w K mg base (He.ga K "BadEdges") "count" := i_BadEdges c e base
  have I_BadEdge : ErrI P w K mg base (He.ga K "BadEdge") "index" := i_BadEdge c e base
  have I_BadEntry : ErrI P w K mg base (He.ga K "BadEntry") "place" := i_BadEntry c e base
  have I_BadExit : ErrI P w K mg base (He.ga K "BadExit") "place" := i_BadExit c e base
  have I_Idle : ErrI P w K mg base (He.ga K "Idle") "place" := i_Idle c e base
  have d_is_number : Okd P w K mg base CX0 1 (He.ga K "is_number") ["value"] spIsNum := ⟨_, ok_is_number F_is_number T , FunD.bindsN F_is_number fun _ _ _ _ _ _ us hl => match us, hl with | [_], _ => rfl⟩
  have d_is_below : Okd P w K mg base CX0 2 (He.ga K "is_below") ["value", "limit"] spBelow := ⟨_, ok_is_below F_is_below T d_is_number, FunD.bindsN F_is_below fun _ _ _ _ _ _ us hl => match us, hl with | [_, _], _ => rfl⟩
  have d_check_places : Okd P w K mg base (L2.CX P w) 3 (He.ga K "check_places") ["places"] (spChkPlacesX K) := ⟨_, ok_check_places F_check_places T I_BadPlaces d_is_number, FunD.bindsN F_check_places fun _ _ _ _ _ _ us hl => match us, hl with | [_], _ => rfl⟩
  have d_is_pair : Okd P w K mg base CX0 3 (He.ga K "is_pair") ["places", "edge"] spIsPairX := ⟨_, ok_is_pair F_is_pair T d_is_below, FunD.bindsN F_is_pair fun _ _ _ _ _ _ us hl => match us, hl with | [_, _], _ => rfl⟩
  have d_check_entry : Okd P w K mg base (L2.CX P w) 3 (He.ga K "check_entry") ["places", "entry"] (spChkEntryX K) := ⟨_, ok_check_entry F_check_entry T I_BadEntry d_is_below, FunD.bindsN F_check_entry fun _ _ _ _ _ _ us hl => match us, hl with | [_, _], _ => rfl⟩
  have d_check_exits : Okd P w K mg base (L2.CX P w) 3 (He.ga K "check_exits") ["places", "exits"] (spChkExitsX K) := ⟨_, ok_check_exits F_check_exits T I_BadExit d_is_below, FunD.bindsN F_check_exits fun _ _ _ _ _ _ us hl => match us, hl with | [_, _], _ => rfl⟩
  have d_check_edges : Okd P w K mg base (L2.CX P w) 4 (He.ga K "check_edges") ["places", "edges"] (spChkEdgesX K) := ⟨_, ok_check_edges F_check_edges T I_BadEdges I_BadEdge d_is_pair, FunD.bindsN F_check_edges fun _ _ _ _ _ _ us hl => match us, hl with | [_, _], _ => rfl⟩
  have d_reached : Okd P w K mg base CX0 1 (He.ga K "reached") ["edges", "starts"] spReached := ⟨_, ok_reached F_reached T , FunD.bindsN F_reached fun _ _ _ _ _ _ us hl => match us, hl with | [_, _], _ => rfl⟩
  have d_check_idle : Okd P w K mg base (L2.CX P w) 3 (He.ga K "check_idle") ["places", "edges", "entry", "exits"] (spChkIdleX K) := ⟨_, ok_check_idle F_check_idle T I_Idle d_reached, FunD.bindsN F_check_idle fun _ _ _ _ _ _ us hl => match us, hl with | [_, _, _, _], _ => rfl⟩
  have d_init : Okd P w K mg base (L2.CX P w) 5 (He.ma K (He.ga K "Web") "__init__") ["self", "places", "edges", "entry", "exits"] (spWebInitX K) := ⟨_, ok_Web_init F_Web_init T d_check_places d_check_edges d_check_entry d_check_exits d_check_idle, FunD.bindsN F_Web_init fun _ _ _ _ _ _ us hl => match us, hl with | [_, _, _, _, _], _ => rfl⟩
  have d_pool : Okd P w K mg base CX0 1 (He.ga K "_law_pool") ["_law_script"] (spPool K) := ⟨_, ok_pool F_pool, FunD.bindsN F_pool fun _ _ _ _ _ _ us hl => match us, hl with | [_], _ => rfl⟩
  have d_draw : Okd P w K mg base CX0 1 (He.ga K "_law_draw") ["_law_pool_here", "_law_limit"] (spDraw K) := ⟨_, ok_draw F_draw ⟨T.n_len, T.n_abs, T.n_int⟩, FunD.bindsN F_draw fun _ _ _ _ _ _ us hl => match us, hl with | [_, _], _ => rfl⟩
  have d_ahead : Okd P w K mg base CX0 1 (He.ga K "_law_ahead") ["_law_pairs", "_law_goals"] spAhead := ⟨_, ok_ahead F_ahead T, FunD.bindsN F_ahead fun _ _ _ _ _ _ us hl => match us, hl with | [_, _], _ => rfl⟩
  have d_web : Okd P w K mg base CX0 2 (He.ga K "_law_web") ["_law_pool_here", "_law_most", "_law_extra"] (spDrawWeb K) := ⟨_, ok_web F_web T d_draw d_ahead, FunD.bindsN F_web fun _ _ _ _ _ _ us hl => match us, hl with | [_, _, _], _ => rfl⟩
  have d_bent : Okd P w K mg base CX0 2 (He.ga K "_law_bent") ["_law_pool_here", "_law_told"] (spBent K) := ⟨_, ok_bent F_bent T d_draw, FunD.bindsN F_bent fun _ _ _ _ _ _ us hl => match us, hl with | [_, _], _ => rfl⟩
  have d_bad_edge : Okd P w K mg base CX0 1 (He.ga K "_law_bad_edge") ["_law_count", "_law_pairs"] spBadEdge := ⟨_, ok_bad_edge F_bad_edge T, FunD.bindsN F_bad_edge fun _ _ _ _ _ _ us hl => match us, hl with | [_, _], _ => rfl⟩
  have d_idle : Okd P w K mg base CX0 2 (He.ga K "_law_idle") ["_law_told"] spLawIdle := ⟨_, ok_idle F_idle T d_ahead, FunD.bindsN F_idle fun _ _ _ _ _ _ us hl => match us, hl with | [_], _ => rfl⟩
  have d_due : Okd P w K mg base CX0 3 (He.ga K "_law_due") ["_law_told"] spLawDue := ⟨_, ok_due F_due T d_bad_edge d_idle, FunD.bindsN F_due fun _ _ _ _ _ _ us hl => match us, hl with | [_], _ => rfl⟩
  have d_built : Okd P w K mg base CX0 8 (He.ga K "_law_built") ["_law_told"] (spBuilt K) := ⟨_, ok_built F_built T I_BadPlaces I_BadEdges I_BadEdge I_BadEntry I_BadExit I_Idle d_init, FunD.bindsN F_built fun _ _ _ _ _ _ us hl => match us, hl with | [_], _ => rfl⟩
  exact ok_law F_law T d_pool d_draw d_web d_bent d_due d_built
end
end Kx
open PySem PySem.W PyProof.Rows
set_option maxRecDepth 100000 in
set_option maxHeartbeats 0 in
theorem PySem.Challenge.cw_savedseats_k01_web_errors_holds : PySem.Challenge.rw_savedseats_k01_web_errors.Holds := by
  w_on; o_law
  refine HandSHeadRun.head_any (r := OpenLaw.row PySem.Challenge.rw_savedseats_k01_web_errors) (q := view (OpenLaw.row PySem.Challenge.rw_savedseats_k01_web_errors).prog [35]) (H := Kx.hkx) (ob := Kx.obx) (M := 100000) (loose := Kx.loose) (d := HandSHeadRun.topDef (OpenLaw.row PySem.Challenge.rw_savedseats_k01_web_errors).prog 35) (kwd := []) Kx.obx_eq
    (by kernel_rfl) (fun s => by kernel_rfl) Kx.runx (by kernel_rfl) (by kernel_rfl) (by kernel_rfl) (by rfl) (by first | assumption | decide +kernel) (by decide +kernel) ⟨rfl, rfl, rfl, rfl, rfl, by decide +kernel⟩ ?hw ?hc
  case hw => w_witness2
  case hc =>
    refine L2.walk_ofE (l := PySem.Challenge.rw_savedseats_k01_web_errors) (n := 63) (k := 9) (x := "_law_script") (CX := L2.CX0) rfl (by decide) (by kernel_rfl) ⟨rfl, by decide, by decide⟩ ?F (fun _ _ _ _ z => z)
    intro w mg fa h Y G hmg0
    obtain ⟨K, KX, c, ep⟩ := Y
    have hmg : mg ("law" : PySem.Str) = some (.ref fa) := by
      have e : (HandSHeadRun.topDef (OpenLaw.row PySem.Challenge.rw_savedseats_k01_web_errors).prog 35).name = ("law" : PySem.Str) := by kernel_rfl
      rw [← e]
      exact hmg0
    obtain ⟨fd, hb, hF⟩ := Kx.facts (P := (PySem.Challenge.rw_savedseats_k01_web_errors).prog) (w := w) KX G hmg c.t.d c.more
    exact ⟨K, fd, Kx.spLaw K, KX, hb, fun H a ns hl hO hS => ⟨a, ns, rfl, Kx.Scr.of hO hS, fun _ => rfl⟩, hF⟩
