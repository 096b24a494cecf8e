import PyProof.Rows.All
import Wide.All
import OpenK.AllK
import Wide.FinOn
import HandS.Deep
import HandS.TupAny
import HandS.Conv
import HandS.ForMost
import HandS.Defaults
import HandS.Codes
import HandS.Wide
import HandS.Exc
import HandS.ExcOwn
import HandS.ExcInit
import HandS.ExcValue
import HandS.IsInst
import KE.KExcIs
import HandS.HeadHook4
import PyProof.P3Eq
import HandS.Strs
import HandS.SetFor
import HandS.TupSets
import HandS.TryOnly
import HandS.DictComp
import HandS.Walk
import HandS.OwnEq
import HandS.SlotsOwn
import HandS.Property
import HandS.ExcField
import KE.KRevSl
import HandS.TryMany
import HandS.Small
import HandS.ExcIs
import HandS.Records
import HandS.IterVal
import KE.KOwnIter
import HandS.OwnIter
import KE.KStateDown
import HandS.Head0
import HandS.Head1
import HandS.Head2
import HandS.HeadEnd
import PySem.Challenge.RW_savedseats_k05_whole_sets_of_places
set_option Elab.async false
set_option linter.all false
set_option maxRecDepth 100000
set_option maxHeartbeats 4000000
namespace Kx
open PySem PySem.Spec PyProof.Rows L2
/-! ### an own error over ValueError: what the text says of its class, as one Bool -/
/-- the class of an error with an own __init__(self, f) that keeps f -/
def oexB (K : PySem.W.Frag) (C : Addr) : Bool := match K.lookup C with
  | some ⟨.type "type", _, .cls cd, sl⟩ => (match cd.mro, sl.toList with
    | .ref C' :: bm, [_, _, _, _, some (.builtin n), _] => C' == C && n == "ValueError.__new__" && !cd.hasDel && cd.hasDict && PySem.HandSPX.refsVE bm
    | _, _ => false)
  | _ => false
theorem oexB_ok {K : PySem.W.Frag} {C : Addr} (q : oexB K C = true) : ∃ nm q N bs bm sn sub ab col dd k0 k1 k2 k3 k5, K.lookup C = some (excClassObj nm q C N bs bm true sn sub ab col dd k0 k1 k2 k3 k5 "ValueError.__new__") ∧ PySem.HandSPX.refsVE bm = true := by
  unfold oexB at q
  split at q
  · rename_i dd cd sl ho
    split at q
    · rename_i C' bm k0 k1 k2 k3 n k5 hm hs
      simp only [Bool.and_eq_true, beq_iff_eq, Bool.not_eq_true'] at q
      obtain ⟨⟨⟨⟨rfl, rfl⟩, hdel⟩, hdct⟩, ht⟩ := q
      obtain ⟨nm, bs, mro, ns, qn, hd, sn, sub, ab, col, del⟩ := cd
      dsimp only at hm hdel hdct
      subst hm hdel hdct
      have hsl : sl = #[k0, k1, k2, k3, some (.builtin "ValueError.__new__"), k5] := by
        obtain ⟨l⟩ := sl
        simp only at hs
        rw [hs]
      subst hsl
      exact ⟨nm, qn, ns, bs, bm, sn, sub, ab, col, dd, k0, k1, k2, k3, k5, ho, ht⟩
    · cases q
  · cases q
def eqOB (a b : Option (Option Value)) : Bool := decide (a = b)
def eqVB (a b : Option Value) : Bool := decide (a = b)
def eqBB (a b : Option Bool) : Bool := decide (a = b)
/-- what is asked of each error's class -/
def errB (K : PySem.W.Frag) (C : Addr) : Bool :=
  eqOB (PySem.W.findIn K (.ref C) "__setattr__") (some (some (.builtin "object.__setattr__"))) && (eqBB (PySem.W.subIn K (.ref C) (.type "BaseException")) (some true) && (eqVB (PySem.W.typeIn K (.ref C)) (some (.type "type")) && (PySem.W.keepIn K (.ref C) &&
  (eqOB (PySem.W.findIn K (.ref C) "__getattribute__") (some (some (.builtin "BaseException.__getattribute__"))) && (eqOB (PySem.W.findIn K (.ref C) "__getattr__") (some none) && (PySem.W.hasDictIn K C && (eqOB (PySem.W.findIn K (.ref C) "__class__") (some (some (.builtin "object.__class__"))) &&
  (eqOB (PySem.W.specialIn K (.builtin "object.__class__") "__get__") (some (some (.builtin "getset_descriptor.__get__"))) && (eqBB (PySem.W.takesIn K (.builtin "object.__class__")) (some true) && (eqBB (PySem.W.mroIn K C (.type "object")) (some true) && (PySem.W.clsIn K C).isSome))))))))))
structure ErrC (K : PySem.W.Frag) (C : Addr) : Prop where
  sa : PySem.W.findIn K (.ref C) "__setattr__" = some (some (.builtin "object.__setattr__"))
  exC : PySem.W.subIn K (.ref C) (.type "BaseException") = some true
  tyC : PySem.W.typeIn K (.ref C) = some (.type "type")
  kC : PySem.W.keepIn K (.ref C) = true
  ga : PySem.W.findIn K (.ref C) "__getattribute__" = some (some (.builtin "BaseException.__getattribute__"))
  gg : PySem.W.findIn K (.ref C) "__getattr__" = some none
  hd : PySem.W.hasDictIn K C = true
  ca : PySem.W.findIn K (.ref C) "__class__" = some (some (.builtin "object.__class__"))
  cg : PySem.W.specialIn K (.builtin "object.__class__") "__get__" = some (some (.builtin "getset_descriptor.__get__"))
  ct : PySem.W.takesIn K (.builtin "object.__class__") = some true
  cm : PySem.W.mroIn K C (.type "object") = some true
  cl : (PySem.W.clsIn K C).isSome = true
theorem andB {a b : Bool} (h : (a && b) = true) : a = true ∧ b = true := Bool.and_eq_true_iff.mp h
theorem errB_ok {K : PySem.W.Frag} {C : Addr} (h : errB K C = true) : ErrC K C := by
  obtain ⟨h1, h⟩ := andB h
  obtain ⟨h2, h⟩ := andB h
  obtain ⟨h3, h⟩ := andB h
  obtain ⟨h4, h⟩ := andB h
  obtain ⟨h5, h⟩ := andB h
  obtain ⟨h6, h⟩ := andB h
  obtain ⟨h7, h⟩ := andB h
  obtain ⟨h8, h⟩ := andB h
  obtain ⟨h9, h⟩ := andB h
  obtain ⟨h10, h⟩ := andB h
  obtain ⟨h11, h12⟩ := andB h
  exact ⟨of_decide_eq_true h1, of_decide_eq_true h2, of_decide_eq_true h3, h4, of_decide_eq_true h5, of_decide_eq_true h6, h7, of_decide_eq_true h8, of_decide_eq_true h9, of_decide_eq_true h10, of_decide_eq_true h11, h12⟩
theorem ErrC.oex {K : PySem.W.Frag} {C : Addr} (E : ErrC K C) (h : oexB K C = true) : OexC K C := ⟨oexB_ok h, E.sa, E.exC, E.tyC, E.kC⟩

/-! ### __init__(self, f): self.f = f -/
def spInit (C : Addr) (f : Str) : Sp := fun vs H Q _ => ∃ (a : Addr) (v : V), vs = [.ref a, v] ∧ H a = some (exo a C none) ∧
  ∀ dx, H dx = none → dx ≠ a → Q .non (upd (upd H dx (exd dx [(f, v)])) a (exo a C (some dx)))
/-- an error's class with its __init__ -/
structure ErrI (P : Program) (w : World) (K : PySem.W.Frag) (mg : Str → Option Value) (base : Heap) (C : Addr) (f : Str) : Prop where
  e : ErrC K C
  o : OexC K C
  no : PySem.W.findIn K (.ref C) f = some none
  init : ∃ fI fd, PySem.W.findIn K (.ref C) "__init__" = some (some (.ref fI)) ∧ PySem.W.typeIn K (.ref fI) = some (.type "function") ∧ FnOk P w K mg base CX0 1 fI fd ["self", f] (spInit C f) ∧ Binds K fd ["self", f] []
section
variable {X : Cx} {C : Addr} {f x : Str} {e : Expr} {ta : TA} {te : TE} {p pos : Pos}
/-- C(e) as a value: a new exception at a, its dict at d -/
def tErr (C : Addr) (f : Str) (ta : TA) : TE := fun σ H Q => ta σ H fun vs H1 => ∃ v, vs = [v] ∧ ∀ (a d : Addr) (H2 : Hp), H1 a = none → H1 d = none → H2 a = some (exo a C (some d)) → H2 d = some (exd d [(f, v)]) → Same H1 H2 → Q (.ref a) H2
theorem pe_err (T : ErrI X.prog X.w X.K X.mg X.base C f) (hr : Room 2 X.A) (hg : Gl X x) (hm : X.mg x = some (.ref C)) (ha : PA X [e] ta)
    (hdb : (x == ("__debug__" : Str)) = false := by decide) (he : starEach [e] X.env = (false, eval e X.env) :: starEach [] X.env := by rfl) (hpl : (backTo pos (starEach [] X.env)).any (·.1) = false := by rfl) :
    PE X (.Call (.Name x p) [e] [] pos) (tErr C f ta) := by
  refine ⟨fun pins s σ H Q I h => ?_⟩
  obtain ⟨nm, q, N, bs, bm, sn, sub, ab, col, dd, k0, k1, k2, k3, k5, hC, hbm⟩ := T.o.cls
  obtain ⟨fI, fd, iC, tI, F1, hb⟩ := T.init
  refine wpAny_Call_Name_kw (ld_glob I hg hm ?_ hdb)
  refine PySem.W.callWith_K (h₀ := X.base) I.ok.mod.kin T.o.kC (thn (ha.run pos pins s σ H _ I h) fun us s1 ⟨vs, H1, I1, r1, v, ev, q1⟩ => ⟨I1.kIn, ?_⟩) he hpl
  subst ev
  show wpAny _ _ (call (.ref C) us) _ _ _
  obtain ⟨hp, g, dr, tk, os⟩ := s1
  have hsz : hp.objs.size ≤ hp.objs.size + 1 := Nat.le_succ _
  have hn : H1 (hp.objs.size + 1) = none := I1.hok.fresh hsz
  have kk : ∀ b o, hp.get? b = some o → ((hp.push (PySem.W.kdv_tup us)).push (PySem.HandSPX.excO C hp.objs.size)).get? b = some o := fun b o e => Heap.get?_push_of_some _ (Heap.get?_push_of_some _ e)
  have hget : ((hp.push (PySem.W.kdv_tup us)).push (PySem.HandSPX.excO C hp.objs.size)).get? (hp.objs.size + 1) = some (PySem.HandSPX.excO C hp.objs.size) := by heap_get
  have I2 : Inv X pins σ (upd H1 (hp.objs.size + 1) (exo (hp.objs.size + 1) C none)) ⟨(hp.push (PySem.W.kdv_tup us)).push (PySem.HandSPX.excO C hp.objs.size), g, dr, tk, os⟩ :=
    I1.laid (t' := tk) (a := hp.objs.size + 1) (o := exo (hp.objs.size + 1) C none) (h' := (hp.push (PySem.W.kdv_tup us)).push (PySem.HandSPX.excO C hp.objs.size)) kk hsz (exo_ok hget)
  have r2 : Vals [V.ref (hp.objs.size + 1), v] (Value.ref (hp.objs.size + 1) :: us) := .cons rfl r1
  have hq : spInit C f [V.ref (hp.objs.size + 1), v] (upd H1 (hp.objs.size + 1) (exo (hp.objs.size + 1) C none)) (fun u H2 => u = .non ∧ Q (.ref (hp.objs.size + 1)) H2) (fun _ _ _ => False) :=
    ⟨_, v, rfl, upd_same, fun dx ndx ne => ⟨rfl, by
      have nd1 : H1 dx = none := by rw [upd_ne ne] at ndx; exact ndx
      refine q1 _ dx _ hn nd1 upd_same (by rw [upd_ne ne, upd_same]) fun b o e => ?_
      rw [upd_ne (ne_of_none e hn), upd_ne (ne_of_none e nd1), upd_ne (ne_of_none e hn)]
      exact e⟩⟩
  have hl : ((Value.ref (hp.objs.size + 1) :: us) ++ []).length = (["self", f] : List Str).length := by
    rw [List.append_nil]
    exact r2.length.symm
  have hbb := hb _ (Value.ref (hp.objs.size + 1) :: us) I2.kIn hl
  rw [List.append_nil] at hbb
  have hus : us.length ≤ sizeLine := by
    rw [← Paired.length r1]
    show 1 ≤ sizeLine
    decide
  refine wpAny_call (PySem.HandSPX.call_own F.excBase_ValueError (fun Y => PySem.HandSPX.refsVE_contains Y bm hbm) (I1.kIn _ _ hC) (PySem.W.looks_findIn I1.kIn iC) (fun self => PySem.W.bind_fn I1.kIn self tI) hus
    (codeAny_mono (F1.run _ X.stack _ _ ⟨Value.ref (hp.objs.size + 1) :: us, []⟩ (Value.ref (hp.objs.size + 1) :: us) _ _ (fun _ _ _ => False) (hr.make C us []) (I2.env0.make C us []) hbb r2 hq) fun r s' hq' => ?_))
  cases r with
  | error er => exact False.elim hq'
  | ok fl =>
    cases fl with
    | ret u =>
      obtain ⟨v', H', I3, rv, ev, q3⟩ := I2.after hq'
      subst ev
      exact ⟨rv, ⟨V.ref (hp.objs.size + 1), H', I3, rfl, q3⟩⟩
    | next => exact False.elim hq'
    | brk => exact False.elim hq'
    | cont => exact False.elim hq'
/-- C(), an own error class without own __init__, as a value -/
def tErr0 (C : Addr) : TE := fun _ H Q => ∀ a, H a = none → Q (.ref a) (upd H a (ExO (.ref C) a))
theorem pe_err0 (q : PySem.W.excIn X.K C He.veBase "ValueError.__new__" = true) (kC : PySem.W.keepIn X.K (.ref C) = true) (hg : Gl X x) (hm : X.mg x = some (.ref C))
    (hdb : (x == ("__debug__" : Str)) = false := by decide) : PE X (.Call (.Name x p) [] [] pos) (tErr0 C) := by
  refine ⟨fun pins s σ H Q I h => ?_⟩
  refine wpAny_Call_Name_kw (ld_glob I hg hm ?_ hdb)
  refine PySem.W.callWith_K0 I.kIn kC ?_
  show wpAny _ _ (call (.ref C) []) _ _ _
  obtain ⟨bm, N, nm, qn, bs, hdct, sn, sub, ab, col, dd, k0, k1, k2, k3, k5, mN, hC, hN, hni, T⟩ := exc_obj I.kIn q
  refine wpAny_call_exc_subT F.excBase_ValueError T hC hN hni (fun h' a hm => ?_) (by show 0 ≤ sizeLine; exact Nat.zero_le _)
  have hn : H a = none := I.hok.gone hm.new
  obtain ⟨t, ht, _, _⟩ := hm.there
  exact ⟨.ref a, upd H a (ExO (.ref C) a), I.laidN hm.keeps hm.new hn (exO_ok ht ⟨rfl, rfl⟩ rfl rfl rfl (show 4 < 6 by decide)), rfl, h a hn⟩
/-- an exception of the class C stands at e, not raised -/
def XV (H : Hp) (C e : Addr) : Prop := (∃ d fs, H e = some (exo e C (some d)) ∧ H d = some (exd d fs)) ∨ H e = some (ExO (.ref C) e)
/-- a.f, a an exception -/
def tErrF (K : PySem.W.Frag) (f : Str) (te : TE) : TE := fun σ H Q => te σ H fun x H1 => ∃ (a C d : Addr) (fs : List (Str × V)) (v : V), x = .ref a ∧ ErrC K C ∧ PySem.W.findIn K (.ref C) f = some none ∧ H1 a = some (exo a C (some d)) ∧ H1 d = some (exd d fs) ∧ fs.lookup f = some v ∧ Q v H1
theorem pe_errF (he : PE X e te) (hb : attributeBase e f X.env (eval e X.env) = eval e X.env := by rfl) : PE X (.Attribute e f pos) (tErrF X.K f te) := by
  refine ⟨fun pins s σ H Q I h => ?_⟩
  refine attr_of hb (thn (he.run pins s σ H _ I h) fun u s1 hh => ?_)
  obtain ⟨x, H1, I1, rx, a, C, d, fs, v, ex, T, hno, ea, ed, l, q⟩ := hh
  subst ex
  obtain rfl : u = Value.ref a := rx
  obtain ⟨t1, ha⟩ := exo_at I1.hok ea
  obtain ⟨mA, hns, hr⟩ := exd_at I1.hok ed
  obtain ⟨od, ho, hl⟩ := lookIn_ns hns
  obtain ⟨u, hu, ru⟩ := RelO.some_of (v := v) (o := mA f) (by rw [← l]; exact hr f)
  have J : PySem.W.InstAt s1.heap a { cls := .ref C, dict := some d, data := .fields #[.ref t1, .none, .none, .none, .bool false, .none] } C (some od) := ⟨ha, rfl, rfl, ho⟩
  exact HandSPX.exc_get I1.kIn J T.ga T.gg T.exC (PySem.W.findObj_own T.hd hno rfl (by rw [hl, hu])) (handed_of ru) ⟨v, H1, I1.tok _, ru, q⟩
/-- isinstance(e, c), e an exception that is held -/
def rIsV (K : PySem.W.Frag) : List V → Hp → VK → Prop := fun xs H Q => ∃ (e C : Addr) (c : V) (u : Value) (b : Bool), xs = [.ref e, c] ∧ ClsV c u ∧ XV H C e ∧ ErrC K C ∧ PySem.W.kitOne K (.ref C) u = some b ∧ Q (.bl b) H
theorem call_isV : CallR X (.builtin "isinstance") (rIsV X.K) := by
  intro pins s σ H xs us Q I r h
  obtain ⟨a, C, c, u, b, rfl, k, xv, T, e, q⟩ := h
  obtain ⟨u1, u2, rfl, r1, r2⟩ := vals2 r
  have e2 := k.eq r2
  subst e2
  obtain rfl : u1 = Value.ref a := r1
  rcases xv with ⟨d, fs, ea, ed⟩ | ea
  · obtain ⟨t1, ha⟩ := exo_at I.hok ea
    obtain ⟨mA, hns, hr⟩ := exd_at I.hok ed
    obtain ⟨od, ho, hl⟩ := lookIn_ns hns
    have J : PySem.W.InstAt s.heap a { cls := .ref C, dict := some d, data := .fields #[.ref t1, .none, .none, .none, .bool false, .none] } C (some od) := ⟨ha, rfl, rfl, ho⟩
    exact PySem.W.kia_one (PySem.W.kitx_exc T.cl T.ga T.gg T.exC T.ca T.cg T.ct T.cm) I.kIn J e (fun z => nomatch z) fun tk => ⟨.bl b, H, I.kept (t' := tk) fun _ _ z => z, rfl, q⟩
  · obtain ⟨⟨oe, vs, ho, hz, hd, h1, _⟩, _, _⟩ := (show ObjOk X.prog X.w H s.heap a (ExO (.ref C) a) from I.hok a _ ea)
    have J : PySem.W.InstAt s.heap a oe C none := by
      obtain ⟨oc, od, oda, osl⟩ := oe
      obtain ⟨z1, z2⟩ := hz
      dsimp only at z1 z2 hd
      subst z1 z2 hd
      exact ⟨ho, rfl, rfl, trivial⟩
    exact PySem.W.kia_one (PySem.W.kitx_exc T.cl T.ga T.gg T.exC T.ca T.cg T.ct T.cm) I.kIn J e (fun z => nomatch z) fun tk => ⟨.bl b, H, I.kept (t' := tk) fun _ _ z => z, rfl, q⟩
end
/-- the __init__ of an error, as the text has it -/
theorem ok_init {P : Program} {w : World} {K : PySem.W.Frag} {mg : Str → Option Value} {base : Heap} {x qual f : Str} {params : Arguments} {body : List Stmt} {scope : Scope} {fI C : Addr} {fd : FuncData}
    (F : FunD K x qual params body scope [] [] fI fd) (sc : FnScope (["self", f] : List Str) ["self", f] scope) (T : OexC K C) (no : PySem.W.findIn K (.ref C) f = some none)
    (hb : ∀ X : Cx, X.N = (["self", f] : List Str) → X.env.scope = scope → PSs X body (tOst X.K f (tVar 0) (tVar 1))) : FnOk P w K mg base CX0 1 fI fd (["self", f] : List Str) (spInit C f) := by
  refine F.ok sc (fun vs H Q E h => ?_) (fun cdv A outer s H vs Q E hr h => ?_)
  · obtain ⟨a, v, rfl, _⟩ := h
    rfl
  · obtain ⟨a, v, rfl, ha, k⟩ := h
    refine ⟨_, hb _ rfl rfl, ?_⟩
    exact ⟨_, rfl, _, rfl, a, C, rfl, T, no, .inl ⟨ha, fun dx n ne => k dx n ne⟩⟩
end Kx

namespace Kx
open PySem PySem.Spec PyProof.Rows L2
/-! ### flat values as data -/
def dV : V → PyData
  | .non => .none
  | .bl b => .bool b
  | .int i => .int i
  | .str x => .str x
  | _ => .none
def okV : V → Bool
  | .non => true
  | .bl _ => true
  | .int _ => true
  | .str x => PyData.strOk x
  | _ => false
theorem dp_flat {K : PySem.W.Frag} {H : Hp} : ∀ {v : V}, okV v = true → Dp K H v (dV v)
  | .non, _ => .non
  | .bl b, _ => .bl b
  | .int i, _ => .int i
  | .str x, _ => .str x
theorem dp_all {K : PySem.W.Frag} {H : Hp} : ∀ {xs : List V}, xs.all okV = true → DpAll K H xs (xs.map dV)
  | [], _ => .nil
  | v :: r, h => by
    rw [List.all_cons, Bool.and_eq_true] at h
    exact .cons (dp_flat h.1) (dp_all h.2)
theorem lay_flat : ∀ {v : V}, okV v = true → (dV v).canLay0 = true
  | .non, _ => rfl
  | .bl b, _ => rfl
  | .int i, _ => rfl
  | .str x, h => h
theorem lay_all : ∀ {xs : List V}, xs.all okV = true → PyData.canLayAll0 (xs.map dV) = true
  | [], _ => rfl
  | v :: r, h => by
    rw [List.all_cons, Bool.and_eq_true] at h
    rw [List.map_cons, PyData.canLayAll0, lay_flat h.1, lay_all h.2]
    rfl
theorem depth_flat : ∀ v : V, (dV v).depth ≤ 1
  | .non => by simp [dV, PyData.depth]
  | .bl b => by simp [dV, PyData.depth]
  | .int i => by simp [dV, PyData.depth]
  | .str x => by simp [dV, PyData.depth]
  | .byt _ => by simp [dV, PyData.depth]
  | .flt _ => by simp [dV, PyData.depth]
  | .ref _ => by simp [dV, PyData.depth]
  | .ty _ => by simp [dV, PyData.depth]
theorem depth_all : ∀ xs : List V, PyData.depthAll (xs.map dV) ≤ 1
  | [] => by simp [PyData.depthAll]
  | v :: r => by
    have h1 := depth_flat v
    have h2 := depth_all r
    simp only [List.map_cons, PyData.depthAll]
    omega
theorem shaped_flat {v : V} (h : okV v = true) : SeqAt.shaped (dV v) = true := by
  unfold SeqAt.shaped
  rw [lay_flat h, decide_eq_true (Nat.le_trans (depth_flat v) (by decide))]
  rfl
theorem shaped_tup {xs : List V} (h : xs.all okV = true) : SeqAt.shaped (.tuple (xs.map dV)) = true := by
  unfold SeqAt.shaped
  have e : (PyData.tuple (xs.map dV)).canLay0 = true := lay_all h
  have d : (PyData.tuple (xs.map dV)).depth ≤ 64 := by
    have h2 := depth_all xs
    simp only [PyData.depth]
    omega
  rw [e, decide_eq_true d]
  rfl
theorem shaped_lst {xs : List V} (h : xs.all okV = true) : SeqAt.shaped (.list (xs.map dV)) = true := by
  unfold SeqAt.shaped
  have e : (PyData.list (xs.map dV)).canLay0 = true := lay_all h
  have d : (PyData.list (xs.map dV)).depth ≤ 64 := by
    have h2 := depth_all xs
    simp only [PyData.depth]
    omega
  rw [e, decide_eq_true d]
  rfl
theorem eqv_self {d : PyData} (h : SeqAt.shaped d = true) : PyData.eqv d d = true := PySem.SeqAt.eqv_refl d (SeqAt.canLay_of_shaped h)
end Kx

namespace Kx
open PySem PySem.Spec PyProof.Rows L2
/-! ### a set of tuples of ints that is asked (of a tuple that is not in it) and grows -/
section
variable {P : Program} {w : World} {A : Around} {E : Value → Shared → Prop} {s : Shared} {a x : Addr} {L : List (Addr × List Int)} {es : Array (Int × Value)} {ep : Nat} {t : SetTable} {k : List Int}
abbrev wayP (t : SetTable) (h : Int) (c : Nat) : SetTable.Probe := nth t.mask (runAt t.mask (SetTable.bits h % (t.mask + 1)) (SetTable.bits h)) c
theorem wayP_add (t : SetTable) (h : Int) (c q : Nat) : nth t.mask (wayP t h c) q = wayP t h (c + q) := (nth_add t.mask c _ q).symm
theorem nth_dummy (m : Nat) : ∀ (n : Nat) (p : SetTable.Probe), p.dummy = none → (nth m p n).dummy = none
  | 0, _, h => h
  | n + 1, p, h => nth_dummy m n _ (by unfold adv; split <;> exact h)
/-- a tuple that is not in: from the c-th step of its way on the search ends at the free place K -/
theorem seek_out (R : SetTR P w s.heap a L es ep t) (hx : IsT P w s.heap k x) (hu : A.units < cLine) (no : k ∉ L.map (·.2)) {K : Nat} (hKf : K < 10 * SetTable.turns t.mask) (hK : way t.mask (thash P w k) K ∉ t.place.toList)
    (hKb : ∀ c, c < K → way t.mask (thash P w k) c ∈ t.place.toList) {Q : SetFound → Shared → Prop} (out : Q (.free (way t.mask (thash P w k) K) false) s) :
    ∀ (f c : Nat) (stand : Option SetTable.Probe), stand.getD (t.probeStart (thash P w k)) = wayP t (thash P w k) c → c ≤ K → K - c < f → wpAny (model P w) A (setSearchFrom a (.ref x) (thash P w k) false f stand) Q E s := by
  obtain ⟨o, ho, hex, hd⟩ := R.ob
  intro f
  induction f with
  | zero => intro c stand _ _ hf; omega
  | succ f ih =>
    intro c stand hst hc hf
    have atJ : ∀ q, (nth t.mask (wayP t (thash P w k) c) q).j = way t.mask (thash P w k) (c + q) := fun q => congrArg (·.j) (wayP_add t _ c q)
    rw [setSearchFrom_succ]
    refine wpAny_bind (wpAny_setState_of ho hd R.fits (wp_if_neg R.gw (wpAny_bind (wpAny_pure ?_))))
    rcases go_spec t R.tab.ris R.tab.dm (fun i => (es[i]?.map (·.1)).getD 0) (thash P w k) (10 * SetTable.turns t.mask) (K - c) (wayP t (thash P w k) c) (nth_dummy _ c _ rfl) (by omega)
      (fun q hq => by rw [atJ]; exact hKb _ (by omega)) (by rw [atJ, Nat.add_sub_cancel' hc]; exact hK) with ⟨q, i, hq, hi, _, _, found⟩ | ⟨_, found⟩
    · have found' : t.probe (fun i => (es[i]?.map (·.1)).getD 0) (thash P w k) (stand.getD (t.probeStart (thash P w k))) = some (.candidate (way t.mask (thash P w k) (c + q)) i (wayP t (thash P w k) (c + (q + 1)))) := by
        rw [hst, ← atJ, ← wayP_add]
        exact found
      rw [found']
      rw [atJ] at hi
      have small : i < L.length := by
        have h1 := (List.getElem?_eq_some_iff.mp hi).1
        have h2 := R.tab.sz
        simp only [Array.length_toList, List.length_map] at h1 h2
        omega
      obtain ⟨p, hp⟩ : ∃ p, L[i]? = some p := ⟨_, List.getElem?_eq_getElem small⟩
      have inL : p ∈ L := List.mem_of_getElem? hp
      have unlike : ¬ p.2 = k := fun e => no (List.mem_map.mpr ⟨p, inL, e⟩)
      have live := slot_live R.tab.ris hi
      have tail : wpAny (model P w) A (searchRest a (.ref x) (thash P w k) false f es t (way t.mask (thash P w k) (c + q)) i (wayP t (thash P w k) (c + (q + 1)))) Q E s := by
        unfold searchRest
        rw [R.entry hp]
        refine wpAny_bind (wpAny_holding (wpAny_eqBool_tuple hu (R.tup p inL) hx (wpAny_bind (wpAny_setState_of ho hd R.fits ?_))))
        refine wp_if_neg (by simp) (wpAny_bind (wpAny_pure ?_))
        rw [sameMem]
        simp only [if_true, live, R.entry hp]
        refine wpAny_bind (wpAny_isSame_ref_self (wpAny_bind (wpAny_pure ?_)))
        simp only [if_true]
        exact wp_if_neg (by simp [unlike]) (ih _ _ rfl (by omega) (by omega))
      by_cases hl : t.led = true
      · exact wp_if_neg (by simp [hl]) (wpAny_bind (wpAny_pure tail))
      · refine wp_if_pos (by simp [hl]) (wpAny_bind (seen_tup hx (fun y hy => ?_) (wp_if_neg (by decide) (wpAny_bind (wpAny_pure tail)))))
        obtain ⟨e, he, rfl⟩ := List.mem_map.mp hy
        have he2 : e ∈ es.toList := by
          have := (show e ∈ es ∧ e.1 = thash P w k by simpa using he).1
          simpa using this
        rw [R.rows] at he2
        obtain ⟨p2, hp2, rfl⟩ := List.mem_map.mp he2
        exact ⟨p2.2, p2.1, rfl, R.tup p2 hp2⟩
    · have found' : t.probe (fun i => (es[i]?.map (·.1)).getD 0) (thash P w k) (stand.getD (t.probeStart (thash P w k))) = some (.empty (way t.mask (thash P w k) K) none) := by
        have e2 := atJ (K - c)
        rw [Nat.add_sub_cancel' hc] at e2
        rw [hst, ← e2]
        exact found
      rw [found']
      exact wpAny_pure out
theorem notin_setT (R : SetTR P w s.heap a L es ep t) (hx : IsT P w s.heap k x) (hu : A.units + 3 < cLine) (no : k ∉ L.map (·.2)) {Q : Bool → Shared → Prop} (h : ∀ tk, Q false { s with toks := tk }) :
    wpAny (model P w) A (setContains a (.ref x)) Q E s := by
  obtain ⟨o, ho, hex, hd⟩ := R.ob
  have room := R.room
  obtain ⟨K, hKf, hK, hKb⟩ := R.tab.first (by rw [List.length_map]; omega) (thash P w k)
  have big : K < 100000 := by
    have : 10 * SetTable.turns t.mask ≤ 1420 := by
      unfold SetTable.turns
      rcases R.tab.mok with e | e | e <;> omega
    omega
  unfold setContains
  refine wpAny_holding (wpAny_bind (wpAny_pyHash_tuple (by omega) hx (wpAny_bind ?_)))
  have R' : SetTR P w ({ s with toks := s.toks + (k.length + 1) } : Shared).heap a L es ep t := R
  show wpAny _ _ (setFind a (.ref x) (thash P w k)) _ _ _
  unfold setFind
  rw [show (100000 : Nat) = 99999 + 1 from rfl]
  unfold setFindIn
  refine wpAny_bind (wpAny_setState_of ho hd R.fits (wp_if_neg (by simp [byScan, Value.scannable]) (wpAny_bind ?_)))
  unfold setSearch
  refine seek_out (s := { s with toks := s.toks + (k.length + 1) }) R' hx (by omega) no hKf hK hKb ?_ 100000 0 none rfl (Nat.zero_le _) (by omega)
  exact wpAny_pure (wpAny_pure (h _))
/-- x in the set -/
theorem in_setT (R : SetTR P w s.heap a L es ep t) (hx : IsT P w s.heap k x) (hu : A.units + 8 < cLine) (no : k ∉ L.map (·.2)) {Q : Value → Shared → Prop} (h : ∀ tk, Q (.bool false) { s with toks := tk }) :
    wpAny (model P w) A (compareOp .In (.ref x) (.ref a)) Q E s := by
  obtain ⟨o, ho, hex, hd⟩ := R.ob
  have ty : s.TypeIs (.ref a) "set" := ⟨o, ho, hex.1⟩
  show wpAny _ _ (contains (.ref a) (.ref x) >>= fun b => pure (Value.bool b)) Q E s
  refine wpAny_bind ?_
  unfold contains
  try with_reducible refine wpAny_holding ?_
  refine wpAny_bind (wpAny_specialOf ty F.slot_set_contains.lookup (wp_if_neg (by rw [beq_builtin_none]; exact Bool.false_ne_true) ?_))
  refine wpAny_bind (wpAny_callSpecialUnlessNone?_slot (name := Str.ofString "__contains__") ty F.slot_set_contains (wpAny_call_entry F.slot_set_contains ty entry_set_contains ?_ (F.args_set_contains_2 _ _)))
  unfold Builtin.«frozenset.__contains__» Builtin.Frozenset.oneOther
  simp only [List.isEmpty_nil, bind_assoc]
  unfold Builtin.Frozenset.addrOf Builtin.Frozenset.withSetAsKey
  refine wpAny_bind (wpAny_pure (wpAny_bind (wpAny_pure (wpAny_bind (wpAny_tryCatch ?_)))))
  refine notin_setT R hx ?_ no fun tk => ?_
  · show A.units + 1 + 3 < cLine
    omega
  exact wpAny_pure ⟨_, rfl, wpAny_truthy_bool (wpAny_pure (h tk))⟩
end
section
variable {X : Cx}
def TupsT (K : PySem.W.Frag) (H : Hp) (L : List (Addr × List Int)) : Prop := ∀ p ∈ L, SqT K H p.1 (p.2.map V.int)
theorem full_of {pins : List (Addr × Obj)} {σ : L2.St} {H : Hp} {s : Shared} {a : Addr} {L : List (Addr × List Int)} (I : Inv X pins σ H s) (ha : H a = some (SetTO X.prog X.w a L)) (ht : TupsT X.K H L) : ∃ es ep t, SetTR X.prog X.w s.heap a L es ep t :=
  SetT0.full (I.hok a _ ha).1 fun p hp => I.isT (ht p hp)
/-- t in seen, t a tuple of ints that is not in it -/
def rInT0 (K : PySem.W.Frag) (P : Program) (w : World) : R2 := fun x y H Q => ∃ (b a : Addr) (k : List Int) (L : List (Addr × List Int)), x = .ref b ∧ y = .ref a ∧ SqT K H b (k.map V.int) ∧ H a = some (SetTO P w a L) ∧ TupsT K H L ∧ k ∉ L.map (·.2) ∧ Q (.bl false) H
theorem op_inT0 (hu : X.A.units + 64 < cLine) : OpR X (compareOp .In) (rInT0 X.K X.prog X.w) := by
  intro pins s σ H x y v u Q I rx ry h
  obtain ⟨b, a, k, L, rfl, rfl, hb, ha, ht, no, q⟩ := h
  cases rx
  cases ry
  obtain ⟨es, ep, t, R⟩ := full_of I ha ht
  exact in_setT R (I.isT hb) (by omega) no fun tk => ⟨.bl false, H, I.tok tk, rfl, q⟩
/-- set() of tuples to come -/
def rSet0T (P : Program) (w : World) : List V → Hp → VK → Prop := fun xs H Q => xs = [] ∧ ∀ p, H p = none → Q (.ref p) (upd H p (SetTO P w p []))
theorem cr_set0T : CallR X (.type "set") (rSet0T X.prog X.w) := by
  intro pins s σ H xs us Q I r h
  obtain ⟨rfl, q⟩ := h
  cases r
  refine setR_new fun _ => ?_
  have new := setTR_fresh (P := X.prog) (w := X.w) (h := s.heap.push { cls := .type "set", dict := none, data := .set #[] 0 (.fresh 0 0 (!X.w.params.followText "set-order")) }) (a := s.heap.objs.size) (Heap.get?_push_size _ rfl)
  exact ⟨.ref _, upd H s.heap.objs.size (SetTO X.prog X.w s.heap.objs.size []), I.laid (t' := s.toks) (fun b u e => Heap.get?_push_of_some _ e) (Nat.le_refl _) (setTO_new new.t0), rfl, q _ (I.hok.fresh (Nat.le_refl _))⟩
/-- seen.add(t), t not in it, fewer than 64 -/
def rAddT (K : PySem.W.Frag) (P : Program) (w : World) : V → List V → Hp → VK → Prop := fun x xs H Q => ∃ (a b : Addr) (k : List Int) (L : List (Addr × List Int)), x = V.ref a ∧ xs = [V.ref b] ∧ H a = some (SetTO P w a L) ∧ TupsT K H L ∧ SqT K H b (k.map V.int) ∧ k ∉ L.map (·.2) ∧ L.length + 1 < 64 ∧
  ∀ L', L'.Perm ((b, k) :: L) → Q .non (upd H a (SetTO P w a L'))
theorem mt_saddT (hu : X.A.units + 64 < cLine) : MtR X "set.add" (rAddT X.K X.prog X.w) := by
  intro pins s σ H x xs v us Q I rx rxs h
  obtain ⟨a, b, k, L, rfl, rfl, ha, ht, hb, no, few, q⟩ := h
  cases rx
  rw [Vals.ref1 rxs]
  obtain ⟨es, ep, t, R⟩ := full_of I ha ht
  obtain ⟨o, ho, hex, hd⟩ := R.ob
  refine wpAny_call_entry F.slot_set_add ⟨o, ho, hex.1⟩ F.entry_set_add ?_ (F.args_set_add_2 _ _)
  unfold Builtin.«set.add» Builtin.Frozenset.oneOther
  simp only [List.isEmpty_nil, bind_assoc]
  unfold Builtin.Frozenset.addrOf setAdd
  refine wpAny_bind (wpAny_pure (wpAny_bind (wpAny_pure (wpAny_bind (wpAny_holding (wpAny_bind (wpAny_pyHash_tuple (by show X.A.units + 1 < cLine; omega) (I.isT hb) ?_)))))))
  refine add_at (s := { s with toks := s.toks + (k.length + 1) }) R (I.isT hb) (by show X.A.units + 1 < cLine; omega) few fun c h' L' es' ep' t' sb R' _ more => ?_
  refine wpAny_pure ⟨_, rfl, ?_⟩
  have he : ∃ u, h'.get? a = some u := by
    obtain ⟨o', ho', _⟩ := R'.ob
    exact ⟨o', ho'⟩
  exact ⟨.non, upd H a (SetTO X.prog X.w a L'), I.write (e := a) (t' := s.toks + (k.length + 1)) (by rw [ha]; trivial) (.inl rfl) (fun b u hb hu => (sb.2 b hb).trans hu) he (setTO_new R'.t0), rfl, q L' (more no)⟩
def tAddT (K : PySem.W.Frag) (P : Program) (w : World) (to : TE) (t : TA) : TE := fun σ H Q => to σ H fun x H1 => (∃ a L, x = V.ref a ∧ H1 a = some (SetTO P w a L) ∧ TupsT K H1 L) ∧ t σ H1 fun xs H2 => rAddT K P w x xs H2 Q
variable {o e : Expr} {to : TE} {t : TA} {apos cpos : Pos}
theorem pe_saddT (hu : X.A.units + 64 < cLine) (ho : PE X o to) (ha : PA X [e] t)
    (hbase : attributeBase o "add" X.env (eval o X.env) = eval o X.env := by rfl)
    (hfew : ((backTo cpos (starEach [e] X.env)).all (fun x => !x.1) && (backToKw cpos (keywordEach [] X.env)).all (fun x => x.1.isSome)
      && decide ([e].length + ([] : List Keyword).length + (if ([] : List Keyword).isEmpty then 0 else 1) < 30)) = true := by rfl)
    (hline : (apos.endLine == cpos.line) = true := by rfl) (hs : starEach [e] X.env = (false, eval e X.env) :: starEach [] X.env := by rfl) (hplain : (backTo cpos (starEach [] X.env)).any (·.1) = false := by rfl) :
    PE X (.Call (.Attribute o "add" apos) [e] [] cpos) (tAddT X.K X.prog X.w to t) := by
  refine ⟨fun pins s σ H Q I h => wpAny_Call_method_late hbase hfew hline rfl (thn (ho.run pins s σ H _ I h) fun v s1 ⟨x, H1, I1, r1, ty, q1⟩ => ?_)⟩
  obtain ⟨a, L, rfl, hka, htt⟩ := ty
  obtain ⟨es, ep, tt, R⟩ := full_of I1 hka htt
  cases r1
  obtain ⟨ob, hob, hex, hd⟩ := R.ob
  refine ⟨"set", "set.add", F.plainAttrs_set, F.slot_set_add, F.type_set_add, ⟨ob, hob, hex.1⟩, fun b e => ?_, ?_⟩
  · cases e
    exact ⟨ob, hob, hex.2.1⟩
  have hA := ha.run cpos pins s1 σ H1 _ I1 q1
  rw [hs] at hA ⊢
  refine Calls.callWith_builtin (by show (false || (backTo cpos (starEach [] X.env)).any (·.1)) = false; rw [hplain] <;> rfl) (Calls.evalArgs_plain ?_)
  exact thn hA fun us s2 ⟨vs, H2, I2, r2, q2⟩ => mt_saddT hu pins s2 σ H2 (.ref a) vs (.ref a) us Q I2 rfl r2 q2
end
/-! ### set(l), l a list of ints: as the library has it of tuples -/
abbrev freshSet (w : World) : Obj := { cls := .type "set", dict := none, data := .set #[] 0 (.fresh 0 0 (!w.params.followText "set-order")) }
section
variable {P : Program} {w : World} {A : Around} {E : Value → Shared → Prop} {s : Shared}
theorem call_set_listI {l : Addr} {items : Array Value} (ns : List Int) {Q : Value → Shared → Prop} (hh : A.handled = none) (hl : s.heap.IsList l items) (hit : IntsAre items.toList ns) (hb : ns.length + 1 < scanBound)
    (h : ∀ (h' : Heap) (tk c : Nat), SetR w h' s.heap.objs.size (fun j => decide (j ∈ ns)) c → c ≤ ns.length → (∀ b o, s.heap.get? b = some o → h'.get? b = some o) → Q (.ref s.heap.objs.size) { s with heap := h', toks := tk }) :
    wpAny (model P w) A (call (.type "set") [.ref l]) Q E s := by
  have many : items.size = ns.length := by rw [← IntsAre.length hit, Array.length_toList]
  obtain ⟨c, tl, hmro⟩ := F.called_set.mro
  have m1 := F.called_set.made
  have m2 := F.called_set.sub
  have m3 := F.called_set.notType
  have m4 := F.called_set.canCreate
  have m5 := F.typeCall_set_1 (.ref l)
  refine wpAny_call (codeAny_of_tree (show wpAny _ _ (callAny (.type "set") _) _ _ _ from wpAny_pure ⟨Code.quiet_builtin _ (by decide +kernel), codeAny_builtin F.entry_type_call ?_⟩))
  rw [Around.under_plain (weight_type_call_type "set" [.ref l] []) rfl]
  repeat (any_goals (first | assumption | wp_step))
  refine codeAny_mono (code_set_led1 (.ref l) (E := E) (Q₁ := fun obj s₁ => obj = .ref s.heap.objs.size ∧ s₁ = { s with heap := s.heap.push (freshSet w) }) ⟨rfl, rfl⟩) fun r s₁ hr => ?_
  cases r with
  | error e => exact hr
  | ok fl =>
   cases fl with
   | ret obj =>
    obtain ⟨rfl, rfl⟩ := hr
    have at0 : (s.heap.push (freshSet w)).get? s.heap.objs.size = some (freshSet w) := Heap.get?_push_size _ rfl
    have ty : Shared.TypeIs { s with heap := s.heap.push (freshSet w) } (.ref s.heap.objs.size) "set" := ⟨_, at0, rfl⟩
    have i1 := F.called_set.init.lookup
    have i2 := F.called_set.init.bind (.ref s.heap.objs.size)
    repeat (any_goals (first | assumption | wp_step))
    refine codeAny_mono (codeAny_call_builtin (R := wants (fun r s₂ => r = .none ∧ ∃ h' tk c, s₂ = { s with heap := h', toks := tk } ∧ SetR w h' s.heap.objs.size (fun j => decide (j ∈ ns)) c ∧ c ≤ ns.length ∧
      (∀ b o, s.heap.get? b = some o → h'.get? b = some o)) E) F.called_set.init.plain F.entry_set_init (check_set_init_1 ty ?_)) fun r₂ s₂ hr₂ => ?_
    · have old : l < s.heap.objs.size := by obtain ⟨_, ho, _⟩ := hl; exact Heap.lt_size ho
      obtain ⟨⟨ocls, odict, odata, oslots⟩, hol, hcl, nl, hdl⟩ := hl
      simp only at hcl hdl
      subst hcl hdl
      have hol' : (s.heap.push (freshSet w)).get? l = some { cls := .type "list", dict := odict, data := .seq items nl, slots := oslots } := Heap.get?_push_of_some _ hol
      have s1 := F.sub_list_set
      have s2 := F.sub_list_frozenset
      have s3 : (Value.type "list" == Value.type "dict") = false := by decide
      have lst : (s.heap.push (freshSet w)).IsList l items := ⟨_, hol', rfl, nl, rfl⟩
      unfold Builtin.«set.__init__» noKeywords Builtin.Frozenset.updateFrom
      generalize hPI : pyIter = PI
      wp_walk
      subst hPI
      refine wpAny_pyIter_list lst (wpAny_bind (wpAny_runValue ?_))
      have quiet : A.in1.in1.in1.handled = none := by simp [hh]
      have size1 : (s.heap.push (freshSet w)).objs.size = s.heap.objs.size + 1 := Heap.size_push ..
      refine set_update_ints ((Walks.list quiet (s.heap.push (freshSet w)).objs.size l (by rw [size1]; exact Nat.ne_of_lt (Nat.lt_succ_of_lt old)) items).toS) s.heap.objs.size (by rw [size1]; simp only [List.mem_cons, List.not_mem_nil, or_false, not_or]; exact ⟨Nat.ne_of_lt (Nat.lt_succ_self _), Nat.ne_of_gt old⟩) ns many hb (fun i v hv => ?_) (items.size - 0) 0 _ (by omega) (Nat.zero_le _)
        ⟨⟨_, Heap.get?_push_size _ rfl, rfl, rfl⟩, lst.push _⟩ ⟨0, Nat.le_refl 0, setR_new_at (Heap.get?_push_of_some _ at0)⟩ fun s' c' hm hc' hS' => ?_
      · have hi : i < ns.length := by rw [← many]; exact (Array.getElem?_eq_some_iff.mp hv).1
        obtain ⟨t, e⟩ := PyProof.Rows.IntsAre.int_at hit i v (by rw [Array.getElem?_toList]; exact hv)
        exact ⟨ns[i], t, List.getElem?_eq_getElem hi, by rw [e, List.getD_eq_getElem?_getD, List.getElem?_eq_getElem hi] <;> rfl⟩
      · obtain ⟨h', g2, d', tk', os'⟩ := s'
        obtain rfl : g2 = s.gens := hm.gens
        obtain rfl : d' = s.drawn := hm.drawn
        obtain rfl : os' = s.os := hm.os
        rw [many] at hc'
        refine wpAny_pure (wpAny_pure ⟨rfl, h', tk', c', rfl, hS', hc', fun b o e => ?_⟩)
        have hb0 : b < s.heap.objs.size := Heap.lt_size e
        exact hm.heap b o (by rw [size1]; simp only [List.mem_cons, List.not_mem_nil, or_false, not_or]; exact ⟨Nat.ne_of_lt hb0, Nat.ne_of_lt (Nat.lt_succ_of_lt hb0)⟩) (Heap.get?_push_of_some _ (Heap.get?_push_of_some _ e))
    · cases r₂ with
      | error e => exact hr₂
      | ok fl₂ =>
        cases fl₂ with
        | ret v =>
          obtain ⟨rfl, h', tk, c', rfl, hS', hc', k⟩ := hr₂
          repeat (any_goals (first | assumption | wp_step))
          exact h _ _ _ hS' hc' k
        | _ => exact hr₂.elim
   | _ => exact hr.elim
end
section
variable {X : Cx}
/-- set(xs), xs a list or a tuple of ints -/
def rSetI (K : PySem.W.Frag) (w : World) : List V → Hp → VK → Prop := fun xs H Q => ∃ (l : Addr) (ns : List Int), xs = [V.ref l] ∧ (SqL K H l (ns.map V.int) ∨ SqT K H l (ns.map V.int)) ∧ ns.length < 60 ∧
  ∀ a c, H a = none → c ≤ ns.length → Q (.ref a) (upd H a (SetO w a (fun j => decide (j ∈ ns)) c))
theorem cr_setI (hc : X.calm = true) : CallR X (.type "set") (rSetI X.K X.w) := by
  intro pins s σ H xs us Q I r h
  obtain ⟨l, ns, rfl, hq, few, q⟩ := h
  rw [Vals.ref1 r]
  have fin : ∀ (h' : Heap) (tk c : Nat), SetR X.w h' s.heap.objs.size (fun j => decide (j ∈ ns)) c → c ≤ ns.length → (∀ b o, s.heap.get? b = some o → h'.get? b = some o) → EP X pins σ Q (.ref s.heap.objs.size) { s with heap := h', toks := tk } := fun h' tk c R hcn k =>
    ⟨.ref s.heap.objs.size, upd H s.heap.objs.size (SetO X.w s.heap.objs.size (fun j => decide (j ∈ ns)) c), I.laid (t' := tk) k (Nat.le_refl _) (setO_new R), rfl, q _ c (I.hok.fresh (Nat.le_refl _)) hcn⟩
  have small : ns.length + 1 < scanBound := Nat.lt_trans (Nat.succ_lt_succ few) (by decide)
  rcases hq with hq | hq
  · obtain ⟨its, rv, pl, hz⟩ := I.list hq
    exact call_set_listI (P := X.prog) (w := X.w) ns (I.ok.hd hc) pl.isList (by simpa using ints_of_vals rv) small fin
  · obtain ⟨its, rv, pl, hz⟩ := I.tuple hq
    exact call_set_tupI (P := X.prog) (w := X.w) ns (I.ok.hd hc) pl (by simpa using ints_of_vals rv) small fin
end
end Kx

namespace Kx
open PySem PySem.Spec PyProof.Rows L2
/-! ### a list or a tuple that is tracked -/
def Qa (H : Hp) (a : Addr) (xs : List V) : Prop := H a = some (.lst xs) ∨ H a = some (.tup xs)
theorem Qa.sq {K : PySem.W.Frag} {H : Hp} {a : Addr} {xs : List V} (h : Qa H a xs) : SqL K H a xs ∨ SqT K H a xs := by
  rcases h with h | h
  · exact .inl (SqL.of h)
  · exact .inr (SqT.of h)
theorem Qa.same {H H' : Hp} {a : Addr} {xs : List V} (h : Qa H a xs) (s : Same H H') : Qa H' a xs := by
  rcases h with h | h
  · exact .inl (s _ _ h)
  · exact .inr (s _ _ h)
theorem same_upd {H H' : Hp} {p : Addr} {o : HO} (s : Same H H') (n : H' p = none) : Same H (upd H' p o) := fun b u e => by
  rw [upd_ne (ne_of_none (s b u e) n)]
  exact s b u e
section
variable {X : Cx}
/-- what a for walks: the list or tuple that slot i holds -/
def iSeqV (K : PySem.W.Frag) (i : Nat) : TI := fun σ H R => ∃ a xs, σ[i]? = some (some (.ref a)) ∧ ((SqL K H a xs ∧ R (Itl K a) H) ∨ (SqT K H a xs ∧ R (Itt K a) H))
theorem pi_seqV (i : Nat) {tg : Expr} {x : Str} {pos : Pos} (hN : X.N[i]? = some x := by rfl) (hv : Vis X.env.scope x := by first | exact Or.inl rfl | exact Or.inr (Or.inl rfl) | exact Or.inr (Or.inr rfl)) (hd : (x == ("__debug__" : Str)) = false := by decide)
    (hcd : (x == ("__classdict__" : Str)) = false := by decide) : PI X tg (.Name x pos) (iSeqV X.K i) := by
  refine ⟨fun pins s σ H R I h => ?_⟩
  obtain ⟨a, xs, e, hq | hq⟩ := h
  · exact (pi_list (pe_var hN hv hd hcd)).run pins s σ H R I ⟨_, e, a, rfl, ⟨xs, hq.1⟩, hq.2⟩
  · exact (pi_tup (pe_var hN hv hd hcd)).run pins s σ H R I ⟨_, e, a, rfl, ⟨xs, hq.1⟩, hq.2⟩
theorem for_seqV {K : PySem.W.Frag} {i : Nat} {a : Addr} {xs : List V} {g : TG} {tb : TS} {D : Ends} {σ : L2.St} {H : Hp} (e : σ[i]? = some (some (.ref a))) (q : Qa H a xs) (Pv : Nat → L2.St → Hp → Prop) (h0 : Pv 0 σ H)
    (hl : ∀ j σ' H', j ≤ xs.length → Pv j σ' H' → ∀ o, H a = some o → H' a = some o)
    (hs : ∀ j x σ' H', xs[j]? = some x → Pv j σ' H' → g x σ' H' fun σ2 H2 => tb { D with nx := Pv (j + 1), ct := Pv (j + 1), bk := D.nx } σ2 H2) (hd : ∀ σ' H', Pv xs.length σ' H' → D.nx σ' H') : tFor (iSeqV K i) g tb D σ H := by
  rcases q with q | q
  · exact ⟨a, xs, e, .inl ⟨SqL.of q, for_list (K := K) (a := a) (xs := xs) Pv h0 (fun j σ' H' hj p => SqL.of (hl j σ' H' hj p _ q)) hs hd⟩⟩
  · exact ⟨a, xs, e, .inr ⟨SqT.of q, for_tup (K := K) (a := a) (xs := xs) Pv h0 (fun j σ' H' hj p => SqT.of (hl j σ' H' hj p _ q)) hs hd⟩⟩
/-- a, b, .. = a list or a tuple of that length -/
def gSeq (K : PySem.W.Frag) (n : Nat) (t : TGs) : TG := fun v σ H Q => ∃ a xs, v = .ref a ∧ (SqL K H a xs ∨ SqT K H a xs) ∧ xs.length = n ∧ t xs σ H Q
theorem pg_seq {es : List Expr} {k : Nat} {t : TGs} {n : Nat} {pos : Pos} (hc : X.calm = true) (h : PGs X es t) (hn : (assignEach es X.env).length = n := by rfl) (hst : (assignEach es X.env).findIdx? (·.1) = none := by rfl) : PG X (.Tuple es k pos) (gSeq X.K n t) := by
  refine ⟨fun pins s σ H v u Q I r hw => ?_⟩
  obtain ⟨a, xs, e, hq | hq, hl, hw⟩ := hw
  · exact (pg_lst hc h hn hst).run pins s σ H v u Q I r ⟨a, xs, e, hq, hl, hw⟩
  · exact (pg_tup hc h hn hst).run pins s σ H v u Q I r ⟨a, xs, e, hq, hl, hw⟩
end
/-- a dict comprehension over the list or tuple that slot i holds -/
theorem dc_seqV {K : PySem.W.Frag} {i : Nat} {a : Addr} {xs : List V} {g : TG} {tt : TT} {tk tv : TE} {vs : List Nat} {σ : L2.St} {H : Hp} {Q : VK} (e : σ[i]? = some (some (.ref a))) (q : Qa H a xs) (Pv : Addr → Nat → Hp → Prop) (h0 : ∀ D, H D = none → Pv D 0 (upd H D (.dK [])))
    (hl : ∀ D j H', H D = none → j ≤ xs.length → Pv D j H' → ∀ o, H a = some o → H' a = some o)
    (hs : ∀ D j x H', H D = none → xs[j]? = some x → Pv D j H' → g x (wipe σ vs) H' fun σ2 H2 => wipe σ2 vs = wipe σ vs ∧ tt σ2 H2 fun b H3 =>
      if b = true then tk σ2 H3 fun y H4 => tv σ2 H4 fun z H5 => ∃ kvs k, y = kV k ∧ H5 D = some (.dK kvs) ∧ kvs.length < sizeLine ∧ Pv D (j + 1) (upd H5 D (.dK (putK kvs k z))) else Pv D (j + 1) H3)
    (hd : ∀ D H', H D = none → Pv D xs.length H' → Q (.ref D) H') : tDc (iSeqV K i) g tt tk tv vs σ H Q := by
  have core : ∀ {J : It} (G : Hp → Prop), Walk J xs.length G (YAt xs) → (∀ D j H', H D = none → j ≤ xs.length → Pv D j H' → G H') → ∀ D, H D = none → ∃ W : Nat → Nat → Hp → Prop, (∃ m, W 0 m (upd H D (.dK []))) ∧ ∀ i m H, W i m H →
      (J.stop i H ∧ Q (.ref D) H) ∨ (J.go i H ∧ ∃ Nx : Hp → Prop, (∀ H', Nx H' → ∃ m', m' < m ∧ W (i + 1) m' H') ∧ ∀ x H', J.yld i H x H' → g x (wipe σ vs) H' fun σ2 H2 => wipe σ2 vs = wipe σ vs ∧ tt σ2 H2 fun b H3 =>
        if b = true then tk σ2 H3 fun y H4 => tv σ2 H4 fun z H5 => ∃ kvs k, y = kV k ∧ H5 D = some (.dK kvs) ∧ kvs.length < sizeLine ∧ Nx (upd H5 D (.dK (putK kvs k z))) else Nx H3) := by
    intro J G w hG D hD
    refine ⟨fun i m H' => m = xs.length - i ∧ i ≤ xs.length ∧ Pv D i H', ⟨xs.length, by simp, Nat.zero_le _, h0 D hD⟩, ?_⟩
    rintro i m H' ⟨rfl, hi, p⟩
    have q := hG D i H' hD hi p
    by_cases hlt : i < xs.length
    · refine .inr ⟨w.goes i H' hlt q, Pv D (i + 1), fun H2 p' => ⟨xs.length - (i + 1), by omega, rfl, hlt, p'⟩, fun x H2 y => ?_⟩
      obtain ⟨e1, e2⟩ := w.yields i H' x H2 hlt q y
      subst e1
      exact hs D i x _ hD e2 p
    · have e : i = xs.length := by omega
      subst e
      exact .inl ⟨w.stops H' q, hd D H' hD p⟩
  rcases q with q | q
  · exact ⟨a, xs, e, .inl ⟨SqL.of q, core _ walk_list fun D j H' hD hj p => SqL.of (hl D j H' hD hj p _ q)⟩⟩
  · exact ⟨a, xs, e, .inr ⟨SqT.of q, core _ walk_tup fun D j H' hD hj p => SqT.of (hl D j H' hD hj p _ q)⟩⟩
section
variable {X : Cx}
/-- name = {k: v for ..} on one line, the name a local -/
theorem ps_setDc {i : Nat} {y : Str} {py : Pos} {kx vx tg iter : Expr} {ifs : List Expr} {scope : Scope} {own : List (Str × Nat)} {pos spos : Pos} {wi : TI} {g : TG} {tt : TT} {tk tv : TE} (hc : X.calm = true) (hN : X.N.Nodup) (hy : X.N[i]? = some y) (hyl : X.env.scope.names.lookup y = some .local)
    (hsw : swapsWith (.DictComp kx vx [⟨tg, iter, ifs, 0⟩] scope pos) (some (.Name y py)) spos.line X.env = pure true) (hi : PI X tg iter wi) (ok : BlkOk X.N X.env.scope scope own)
    (hg : ∀ (s : Shared) (H : Hp) (C : Addr) (cl : List (Str × Addr)) (fp : List Addr), PG (X.blk s H scope (compEnvC scope cl C X.env) fp) tg g) (ht : ∀ (s : Shared) (H : Hp) (C : Addr) (cl : List (Str × Addr)) (fp : List Addr), PTs (X.blk s H scope (compEnvC scope cl C X.env) fp) ifs tt)
    (hk : ∀ (s : Shared) (H : Hp) (C : Addr) (cl : List (Str × Addr)) (fp : List Addr), PE (X.blk s H scope (compEnvC scope cl C X.env) fp) kx tk)
    (he : ∀ (s : Shared) (H : Hp) (C : Addr) (cl : List (Str × Addr)) (fp : List Addr), PE (X.blk s H scope (compEnvC scope cl C X.env) fp) vx tv) (hs : ∀ x, foldedSetIterable iter X.env x = pure x := by intro _; rfl) :
    PS X (.Assign [.Name y py] (.DictComp kx vx [⟨tg, iter, ifs, 0⟩] scope pos) spos) (tAsg (tDc wi g tt tk tv (own.map (·.2))) (gName i)) := by
  refine ⟨fun pins s σ H D I h => ?_⟩
  rw [exec_Assign_Name_used _ _ _ _ hsw]
  refine wpAny_bind (wpAny_standAt (wpAny_bind ?_))
  show wpAny _ X.A (do let _ ← comprehension (.DictComp kx vx [⟨tg, iter, ifs, 0⟩] scope pos) scope X.env (firstIterPos [⟨tg, iter, ifs, 0⟩] pos) newDict false (eval iter X.env) (some (assign (.Name y py) X.env))) _ _ s
  refine wpAny_bind (thn (dc_core (Qf := fun _ s' => SP X pins D .next s') hc hN I hi ok hg ht hk he hs (show tDc wi g tt tk tv (own.map (·.2)) σ H (fun x H1 => gName i x σ H1 D.nx) from h) fun L C s' m H' I' q hn f => ?_) fun _ s' hq => wpAny_pure (wpAny_pure hq))
  show wpAny _ _ (assign (.Name y py) X.env (.ref L)) _ _ _
  obtain ⟨f0, f1, f2, f3, f4, f5⟩ := f
  refine wpAny_assign_Name (store_ok2 (v := V.ref L) I' hN hy (.inl hyl) rfl (fun s2 I2 ⟨a, sb, ha⟩ => ?_) (.inr hyl))
  have apart : C ≠ a := by
    rcases ha with z | z
    · rw [z]; exact f1
    · exact fun e => f4 y a z e.symm
  exact ⟨m, hn.sameBut sb apart, fun h3 sb3 => ⟨_, H', I2.turned (t' := s2.toks) (fun b o hb e => (sb3.2 b hb).trans e) f0 f1 f3 f4 f5, q⟩⟩
theorem sw_dict {kx vx : Expr} {gs : List Comprehension} {scope : Scope} {pos py : Pos} {y : Str} {l : Nat} {env : Env} (hk : env.scope.kind = .function) (hy : env.scope.names.lookup y = some .local) (hl : (py.line == pos.line) = true)
    (ha : (scope.names.any fun (n, k) => n == y && (k == .local || k == .cell)) = false) : swapsWith (.DictComp kx vx gs scope pos) (some (.Name y py)) l env = pure true := by
  have ky : env.kindOf y = some .local := hy
  have hb : env.blockKind = .function := by unfold Env.blockKind; rw [hk]; rfl
  unfold swapsWith
  simp only [hb, ky, ha, Expr.pos, hl]
  rfl
end
/-- tuple(x) of a list or a tuple -/
theorem tuple_of {K : PySem.W.Frag} {H : Hp} {t : Addr} {xs : List V} {Q : VK} (h : Qa H t xs) (k : ∀ b H', Same H H' → H' b = some (.tup xs) → Q (.ref b) H') :
    ∃ p ys, [V.ref t] = [V.ref p] ∧ ((SqL K H p ys ∧ ∀ l, H l = none → Q (.ref l) (upd H l (.tup ys))) ∨ (SqT K H p ys ∧ Q (.ref p) H)) := by
  rcases h with h | h
  · exact ⟨t, xs, rfl, .inl ⟨SqL.of h, fun l hl => k l _ (same_upd (Same.refl H) hl) upd_same⟩⟩
  · exact ⟨t, xs, rfl, .inr ⟨SqT.of h, k t H (Same.refl H) h⟩⟩
section
variable {X : Cx}
/-- a call's rule by a weaker promise -/
theorem call_weak {f : Value} {r r' : List V → Hp → VK → Prop} (h : CallR X f r) (w : ∀ xs H Q, r' xs H Q → r xs H Q) : CallR X f r' := fun pins s σ H xs us Q I rv p => h pins s σ H xs us Q I rv (w xs H Q p)
/-- tuple(x), list(x) of a tracked list or tuple -/
theorem call_tupleQ : CallR X (.type "tuple") (fun xs H Q => ∃ p ys, xs = [.ref p] ∧ Qa H p ys ∧ ∀ b H', Same H H' → H' b = some (.tup ys) → Q (.ref b) H') :=
  call_weak call_tuple_of fun xs H Q ⟨p, ys, e, h, k⟩ => by
    subst e
    rcases h with h | h
    · exact ⟨p, ys, rfl, .inl ⟨SqL.of h, fun l hl => k l _ (same_upd (Same.refl H) hl) upd_same⟩⟩
    · exact ⟨p, ys, rfl, .inr ⟨SqT.of h, k p H (Same.refl H) h⟩⟩
theorem call_listQ : CallR X (.type "list") (fun xs H Q => ∃ p ys, xs = [.ref p] ∧ Qa H p ys ∧ ∀ l, H l = none → Q (.ref l) (upd H l (.lst ys))) :=
  call_weak call_list_of fun xs H Q ⟨p, ys, e, h, k⟩ => ⟨p, ys, e, h.sq, k⟩
end
theorem seq_setDc {wi : TI} {g : TG} {tt : TT} {tk tv : TE} {vs : List Nat} {i : Nat} {u : TS} {D : Ends} {σ : L2.St} {H : Hp} (h : tDc wi g tt tk tv vs σ H fun x H1 => gName i x σ H1 (u D)) : tSeq (tAsg (tDc wi g tt tk tv vs) (gName i)) u D σ H := h
theorem notin_take {α : Type} : ∀ {l : List α} {i : Nat} {x : α}, l.Nodup → l[i]? = some x → x ∉ l.take i
  | [], _, _, _, h => by simp at h
  | a :: r, 0, _, _, _ => by simp
  | a :: r, i + 1, x, nd, h => by
    obtain ⟨n1, n2⟩ := List.nodup_cons.mp nd
    have h' : r[i]? = some x := h
    rw [List.take_succ_cons, List.mem_cons, not_or]
    exact ⟨fun e => n1 (by rw [← e]; exact List.mem_of_getElem? h'), notin_take n2 h'⟩
end Kx

namespace Kx
open PySem PySem.Spec PyProof.Rows L2
/-! ### webs in plain Lean: what is reached -/
abbrev Edge := Int × Int
inductive Reach (es : List Edge) : Int → Int → Prop
  | refl (u : Int) : Reach es u u
  | step {u m v : Int} : (u, m) ∈ es → Reach es m v → Reach es u v
theorem Reach.trans {es : List Edge} {u m v : Int} (a : Reach es u m) (b : Reach es m v) : Reach es u v := by
  induction a with
  | refl => exact b
  | step e _ ih => exact .step e (ih b)
theorem Reach.one {es : List Edge} {u v : Int} (h : (u, v) ∈ es) : Reach es u v := .step h (.refl v)
theorem Reach.more {es es' : List Edge} {u v : Int} (s : ∀ e ∈ es, e ∈ es') (a : Reach es u v) : Reach es' u v := by
  induction a with
  | refl => exact .refl _
  | step e _ ih => exact .step (s _ e) ih
def turned (es : List Edge) : List Edge := es.map fun e => (e.2, e.1)
theorem mem_turned {es : List Edge} {u v : Int} : (u, v) ∈ turned es ↔ (v, u) ∈ es := by
  unfold turned
  rw [List.mem_map]
  constructor
  · rintro ⟨⟨a, b⟩, h, e⟩
    cases e
    exact h
  · intro h
    exact ⟨(v, u), h, rfl⟩
theorem Reach.back {es : List Edge} {u v : Int} (a : Reach es u v) : Reach (turned es) v u := by
  induction a with
  | refl => exact .refl _
  | step e _ ih => exact ih.trans (.one (mem_turned.mpr e))
theorem Reach.unturn {es : List Edge} {u v : Int} (a : Reach (turned es) u v) : Reach es v u := by
  induction a with
  | refl => exact .refl _
  | step e _ ih => exact ih.trans (.one (mem_turned.mp e))
theorem Reach.closed {es : List Edge} {S : List Int} (c : ∀ u ∈ S, ∀ v, (u, v) ∈ es → v ∈ S) {u v : Int} (a : Reach es u v) (h : u ∈ S) : v ∈ S := by
  induction a with
  | refl => exact h
  | step e _ ih => exact ih (c _ h _ e)
/-- a web whose parts are as the constructor asks -/
structure Good (n : Int) (es : List Edge) (e : Int) (xs : List Int) : Prop where
  n1 : 1 ≤ n
  n2 : n ≤ 24
  few : es.length < 60
  rng : ∀ p ∈ es, 0 ≤ p.1 ∧ p.1 < n ∧ 0 ≤ p.2 ∧ p.2 < n
  nd : es.Nodup
  e0 : 0 ≤ e
  e1 : e < n
  x0 : xs ≠ []
  xr : ∀ x ∈ xs, 0 ≤ x ∧ x < n
  xf : xs.length < 60
  fwd : ∀ v, 0 ≤ v → v < n → Reach es e v
  bwd : ∀ v, 0 ≤ v → v < n → ∃ x ∈ xs, Reach es v x
/-! ### the search -/
theorem len_le_of_sub {α : Type} [DecidableEq α] : ∀ (l m : List α), l.Nodup → (∀ x ∈ l, x ∈ m) → l.length ≤ m.length
  | [], m, _, _ => Nat.zero_le _
  | a :: r, m, nd, s => by
    obtain ⟨h1, h2⟩ := List.nodup_cons.mp nd
    have ha : a ∈ m := s a List.mem_cons_self
    have ih := len_le_of_sub r (m.erase a) h2 fun x hx => (List.mem_erase_of_ne (fun e => h1 (by rw [← e]; exact hx))).mpr (s x (List.mem_cons_of_mem _ hx))
    have e := List.length_erase_of_mem ha
    have p : 0 < m.length := List.length_pos_of_mem ha
    rw [List.length_cons]
    omega
/-- S found, W waiting -/
structure Seek (ss : List Int) (es : List Edge) (S W : List Int) : Prop where
  nd : S.Nodup
  sub : ∀ w ∈ W, w ∈ S
  st : ∀ s ∈ ss, s ∈ S
  sound : ∀ v ∈ S, ∃ s ∈ ss, Reach es s v
  bd : ∀ v ∈ S, v ∈ ss ++ es.map (·.2)
  closed : ∀ u ∈ S, u ∉ W → ∀ v, (u, v) ∈ es → v ∈ S
theorem Seek.len {ss : List Int} {es : List Edge} {S W : List Int} (k : Seek ss es S W) : S.length ≤ ss.length + es.length := by
  have := len_le_of_sub S (ss ++ es.map (·.2)) k.nd k.bd
  rw [List.length_append, List.length_map] at this
  exact this
/-- within a turn: p is taken off, j edges were looked at -/
structure Inn (es : List Edge) (p : Int) (S W : List Int) (j : Nat) (S' W' : List Int) : Prop where
  nd : S'.Nodup
  s1 : ∀ v ∈ S, v ∈ S'
  w1 : ∀ v ∈ W, v ∈ W'
  new : ∀ v ∈ S', v ∈ S ∨ (v ∈ W' ∧ (p, v) ∈ es)
  wn : ∀ v ∈ W', v ∈ W ∨ v ∈ S'
  got : ∀ v, (p, v) ∈ es.take j → v ∈ S'
  len : S'.length + W.length = W'.length + S.length
theorem Inn.start {es : List Edge} {p : Int} {S W : List Int} (h : S.Nodup) : Inn es p S W 0 S W :=
  ⟨h, fun _ h => h, fun _ h => h, fun _ h => .inl h, fun _ h => .inl h, fun v h => by simp at h, Nat.add_comm _ _ ▸ rfl⟩
theorem take_next {α : Type} {l : List α} {i : Nat} {x : α} (h : l[i]? = some x) : l.take (i + 1) = l.take i ++ [x] := by
  rw [List.take_add_one, h]
  rfl
theorem Inn.skip {es : List Edge} {p : Int} {S W S' W' : List Int} {j : Nat} {b e : Int} (k : Inn es p S W j S' W') (h : es[j]? = some (b, e)) (no : b ≠ p ∨ e ∈ S') : Inn es p S W (j + 1) S' W' :=
  ⟨k.nd, k.s1, k.w1, k.new, k.wn, fun v hv => by
      rw [take_next h, List.mem_append] at hv
      rcases hv with hv | hv
      · exact k.got v hv
      · have q := List.mem_singleton.mp hv
        injection q with q1 q2
        rcases no with no | no
        · exact absurd q1.symm no
        · rw [q2]; exact no, k.len⟩
theorem Inn.put {es : List Edge} {p : Int} {S W S' W' : List Int} {j : Nat} {e : Int} (k : Inn es p S W j S' W') (h : es[j]? = some (p, e)) (no : e ∉ S') : Inn es p S W (j + 1) (S' ++ [e]) (W' ++ [e]) where
  nd := nd_snoc k.nd no
  s1 := fun v h => List.mem_append_left _ (k.s1 v h)
  w1 := fun v h => List.mem_append_left _ (k.w1 v h)
  new := fun v hv => by
    rcases List.mem_append.mp hv with hv | hv
    · rcases k.new v hv with z | ⟨z1, z2⟩
      · exact .inl z
      · exact .inr ⟨List.mem_append_left _ z1, z2⟩
    · rw [List.mem_singleton.mp hv]
      exact .inr ⟨List.mem_append_right _ List.mem_cons_self, List.mem_of_getElem? h⟩
  wn := fun v hv => by
    rcases List.mem_append.mp hv with hv | hv
    · rcases k.wn v hv with z | z
      · exact .inl z
      · exact .inr (List.mem_append_left _ z)
    · exact .inr (List.mem_append_right _ hv)
  got := fun v hv => by
    rw [take_next h, List.mem_append] at hv
    rcases hv with hv | hv
    · exact List.mem_append_left _ (k.got v hv)
    · have q := List.mem_singleton.mp hv
      injection q with q1 q2
      rw [q2]
      exact List.mem_append_right _ List.mem_cons_self
  len := by
    have := k.len
    rw [List.length_append, List.length_append, List.length_singleton]
    omega
theorem Seek.turn {ss : List Int} {es : List Edge} {S W S' W' : List Int} {p : Int} (k : Seek ss es S (W ++ [p])) (i : Inn es p S W es.length S' W') : Seek ss es S' W' where
  nd := i.nd
  sub := fun v hv => by
    rcases i.wn v hv with z | z
    · exact i.s1 v (k.sub v (List.mem_append_left _ z))
    · exact z
  st := fun s h => i.s1 s (k.st s h)
  sound := fun v hv => by
    rcases i.new v hv with z | ⟨_, z⟩
    · exact k.sound v z
    · obtain ⟨s, hs, r⟩ := k.sound p (k.sub p (List.mem_append_right _ List.mem_cons_self))
      exact ⟨s, hs, r.trans (.one z)⟩
  bd := fun v hv => by
    rcases i.new v hv with z | ⟨_, z⟩
    · exact k.bd v z
    · exact List.mem_append_right _ (List.mem_map.mpr ⟨(p, v), z, rfl⟩)
  closed := fun u hu hw v he => by
    by_cases e : u = p
    · rw [e] at he
      exact i.got v (by rw [List.take_length]; exact he)
    · rcases i.new u hu with z | ⟨z, _⟩
      · refine i.s1 v (k.closed u z (fun m => ?_) v he)
        rcases List.mem_append.mp m with m | m
        · exact hw (i.w1 u m)
        · exact e (List.mem_singleton.mp m)
      · exact absurd z hw
theorem Seek.done {ss : List Int} {es : List Edge} {S : List Int} (k : Seek ss es S []) (v : Int) : v ∈ S ↔ ∃ s ∈ ss, Reach es s v :=
  ⟨k.sound v, fun ⟨s, hs, r⟩ => r.closed (fun u hu w he => k.closed u hu (by simp) w he) (k.st s hs)⟩
/-! ### a dict of True -/
def dS (S : List Int) : List (Key × V) := S.map fun i => ((Sum.inl i : Key), V.bl true)
theorem dS_val (S : List Int) (i : Int) : valV (dS S) (Sum.inl i) = if i ∈ S then some (V.bl true) else none := by
  induction S with
  | nil => simp [dS, valV]
  | cons a r ih =>
    show valV (((Sum.inl a : Key), V.bl true) :: dS r) (Sum.inl i) = _
    by_cases e : a = i
    · subst e
      rw [valV_pos rfl, if_pos List.mem_cons_self]
    · rw [valV_neg (fun z => e (Sum.inl.inj z)), ih]
      by_cases m : i ∈ r
      · rw [if_pos m, if_pos (List.mem_cons_of_mem _ m)]
      · rw [if_neg m, if_neg]
        intro z
        rcases List.mem_cons.mp z with z | z
        · exact e z.symm
        · exact m z
theorem dS_len (S : List Int) : (dS S).length = S.length := List.length_map ..
theorem dS_put_new {S : List Int} {i : Int} (h : i ∉ S) : putK (dS S) (Sum.inl i) (V.bl true) = dS (S ++ [i]) := by
  rw [putK_new _ (by rw [dS_val, if_neg h])]
  unfold dS
  rw [List.map_append]
  rfl
theorem dS_put_old {S : List Int} {i : Int} (h : i ∈ S) : putK (dS S) (Sum.inl i) (V.bl true) = dS S := by
  unfold putK
  rw [valV_any, dS_val, if_pos h, Option.isSome_some, if_pos rfl]
  unfold dS
  rw [List.map_map]
  refine List.map_congr_left fun j _ => ?_
  show (if (Sum.inl j : Key) = Sum.inl i then ((Sum.inl j : Key), V.bl true) else ((Sum.inl j : Key), V.bl true)) = _
  split <;> rfl
/-- what the comprehension has found behind the first of ss -/
structure Firsts (ss : List Int) (S : List Int) : Prop where
  nd : S.Nodup
  mem : ∀ v, v ∈ S ↔ v ∈ ss
theorem Firsts.next {ss S : List Int} {s : Int} (f : Firsts ss S) : Firsts (ss ++ [s]) (if s ∈ S then S else S ++ [s]) := by
  by_cases h : s ∈ S
  · rw [if_pos h]
    refine ⟨f.nd, fun v => ?_⟩
    rw [List.mem_append, List.mem_singleton, f.mem]
    constructor
    · exact .inl
    · rintro (z | z)
      · exact z
      · rw [z]; exact (f.mem s).mp h
  · rw [if_neg h]
    refine ⟨nd_snoc f.nd h, fun v => ?_⟩
    rw [List.mem_append, List.mem_append, f.mem]
theorem dS_put (S : List Int) (i : Int) : putK (dS S) (Sum.inl i) (V.bl true) = dS (if i ∈ S then S else S ++ [i]) := by
  by_cases h : i ∈ S
  · rw [if_pos h, dS_put_old h]
  · rw [if_neg h, dS_put_new h]
theorem Firsts.len {ss S : List Int} (f : Firsts ss S) : S.length ≤ ss.length := len_le_of_sub S ss f.nd fun v h => (f.mem v).mp h
theorem Firsts.seek {ss S : List Int} (f : Firsts ss S) (es : List Edge) : Seek ss es S ss where
  nd := f.nd
  sub := fun w h => (f.mem w).mpr h
  st := fun w h => (f.mem w).mpr h
  sound := fun v h => ⟨v, (f.mem v).mp h, .refl v⟩
  bd := fun v h => List.mem_append_left _ ((f.mem v).mp h)
  closed := fun u h n => absurd ((f.mem u).mp h) n
end Kx

namespace Kx
open PySem PySem.Spec PyProof.Rows L2
/-! ### == by an own __eq__, whatever it answers -/
section
variable {X : Cx}
def rEqOwn (C : Addr) (sp : Sp) (E : XK) : R2 := fun x y H Q => ∃ a b dx dy fs gs, x = .ref a ∧ y = .ref b ∧ H a = some (.ins C dx fs) ∧ H b = some (.ins C dy gs) ∧ sp [.ref a, .ref b] H Q E
theorem op_eqOwn {CX : CXT} {n : Nat} {C f : Addr} {fd : FuncData} {ps : List Str} {sp : Sp} {E : XK} (F : FnOk X.prog X.w X.K X.mg X.base CX n f fd ps sp) (hr : Room n X.A)
    (hs : PySem.W.findIn X.K (.ref C) "__eq__" = some (some (.ref f))) (hf : PySem.W.isFn X.K (.ref f) = true) (hb : Binds X.K fd ps []) (hx : Passes CX X E) : OpR X (compareOp .Eq) (rEqOwn C sp E) := by
  intro pins s σ H x y v u Q I rx ry d
  obtain ⟨a, b, dx, dy, fs, gs, rfl, rfl, ha, hb', q⟩ := d
  cases rx
  cases ry
  obtain ⟨mA, J, _⟩ := ins_get I.hok ha
  obtain ⟨mB, J', _⟩ := ins_get I.hok hb'
  obtain ⟨od, J, _⟩ := J.look
  obtain ⟨od', J', _⟩ := J'.look
  obtain ⟨m, hF⟩ := I.fr
  show wpAny (model X.prog X.w) X.A (richCompare .Eq (.ref a) (.ref b)) (EP X pins σ Q) X.xe s
  refine PySem.W.cmp_K (op := .Eq) (tb := .ref C) hr.units0 hF I.ok.mod.kin J J'.type (by simp [PySem.W.notFirst]) hs hf ?_
  have hl := F.len _ _ _ _ q
  have r2 : Vals [V.ref a, V.ref b] [Value.ref a, Value.ref b] := .cons rfl (.cons rfl .nil)
  refine wpAny_call (codeAny_mono (F.run X.A X.stack s H ⟨[.ref a, .ref b], []⟩ [.ref a, .ref b] [.ref a, .ref b] _ E hr I.env0 (by
    have := hb s [.ref a, .ref b] I.kIn (by simpa using hl)
    simpa using this) r2 q) fun r s' hq => ?_)
  cases r with
  | error e => exact hx pins σ H s e s' I hq
  | ok fl =>
    cases fl with
    | ret w =>
      obtain ⟨z, H', I', rz, qz⟩ := I.after hq
      exact SlX.cmpback rz ⟨z, H', I', rz, qz⟩
    | next => exact False.elim hq
    | brk => exact False.elim hq
    | cont => exact False.elim hq
end
/-! ### t.index(x), flat items -/
section
variable {X : Cx}
def rIndexT (K : PySem.W.Frag) : V → List V → Hp → VK → Prop := fun x xs H Q => ∃ (a : Addr) (ys : List Int) (y : Int) (j : Nat), x = V.ref a ∧ xs = [.int y] ∧ SqT K H a (ys.map V.int) ∧ ys[j]? = some y ∧ (∀ m, m < j → ys[m]? ≠ some y) ∧ Q (.int (j : Nat)) H
theorem mt_tup_indexI : MtR X "tuple.index" (rIndexT X.K) := by
  intro pins s σ H x xs v us Q I rx rxs h
  obtain ⟨a, ns, y, j, rfl, rfl, hs, hz, hno, q⟩ := h
  cases rx
  have fys : (ns.map V.int).all flatV = true := by
    rw [List.all_eq_true]
    intro v hv
    obtain ⟨_, _, rfl⟩ := List.mem_map.mp hv
    rfl
  obtain ⟨uy, rfl, ry⟩ := rxs.one
  obtain ⟨its, rv, pl, hlen⟩ := I.tuple hs
  obtain ⟨⟨cls, dd, dt, sl⟩, ho, hc, n, hd⟩ := pl
  simp only at hc hd
  subst hc
  subst hd
  have hz' : (ns.map V.int)[j]? = some (.int y) := by rw [List.getElem?_map, hz]; rfl
  obtain ⟨u, hu, ru⟩ := rv.get hz'
  obtain ⟨hjl, hje⟩ := List.getElem?_eq_some_iff.mp hu
  have hvl := rv.length
  have hj : j < its.toArray.size := by simpa using hjl
  refine call_meets PySem.F.slot_tuple_index ⟨_, ho, rfl⟩ PySem.F.entry_tuple_index (PySem.F.args_tuple_index_2 _ _)
    (TI.tuple_indexAt a its.toArray n dd sl uy (eqU (.int y)) j hj ?_ ?_) ⟨ho, fun u' hu' => mem_eqAt ry rfl rv fys u' (by simpa using hu'), ?_⟩
  · have e1 : its.toArray[j] = u := by simpa using hje
    rw [e1, eqU_of ru rfl]
    show (y == y) = true
    exact beq_self_eq_true y
  · intro m hm hmj
    have hml : m < its.length := by simpa using hm
    have hmy : m < (ns.map V.int).length := by omega
    have hmn : m < ns.length := by simpa using hmy
    have hy' : (ns.map V.int)[m]? = some (.int ns[m]) := by rw [List.getElem?_map, List.getElem?_eq_getElem hmn]; rfl
    obtain ⟨u2, hu2, ru2⟩ := rv.get hy'
    obtain ⟨_, hme⟩ := List.getElem?_eq_some_iff.mp hu2
    have e1 : its.toArray[m] = u2 := by simpa using hme
    rw [e1, eqU_of ru2 rfl]
    have ne : ns[m] ≠ y := fun e => hno m hmj (by rw [List.getElem?_eq_getElem hmn, e])
    show (ns[m] == y) = false
    exact beq_false_of_ne ne
  · exact ⟨.int (j : Nat), H, I.tok _, ⟨_, rfl⟩, q⟩
theorem inV_ints (y : Int) : ∀ ns : List Int, inV (.int y) (ns.map V.int) = decide (y ∈ ns)
  | [] => rfl
  | a :: r => by
    have ih := inV_ints y r
    unfold inV at ih ⊢
    rw [List.map_cons, List.any_cons, ih]
    show ((a == y) || decide (y ∈ r)) = _
    rw [Bool.eq_iff_iff, Bool.or_eq_true, beq_iff_eq, decide_eq_true_iff, decide_eq_true_iff, List.mem_cons]
    exact ⟨fun z => z.elim (fun z => .inl z.symm) .inr, fun z => z.elim (fun z => .inl z.symm) .inr⟩
theorem flat_ints (ns : List Int) : (ns.map V.int).all flatV = true := by
  rw [List.all_eq_true]
  intro v hv
  obtain ⟨_, _, rfl⟩ := List.mem_map.mp hv
  rfl
end
/-! ### a tuple whose object is known: its methods -/
theorem sqF {K : PySem.W.Frag} {H : Hp} {a : Addr} {o : Obj} {xs : List V} (h : H a = some (.frz o (.tup xs))) : SqT K H a xs := .inl (.inr ⟨o, h⟩)
section
variable {X : Cx}
theorem call_tupleF : CallR X (.type "tuple") (fun xs H Q => ∃ p ys, xs = [.ref p] ∧ SqL X.K H p ys ∧ ∀ l (o : Obj), H l = none → o.cls = .type "tuple" → o.dict = none → Q (.ref l) (upd H l (.frz o (.tup ys)))) := by
  intro pins s σ H xs us Q I r h
  obtain ⟨p, ys, rfl, hq, q⟩ := h
  obtain ⟨u, rfl, rx⟩ := vals1 r
  cases rx
  obtain ⟨its, r', pl, hz⟩ := I.list hq
  have hlen := r'.length
  refine call_tuple_list pl.isList (fun h' kp => ?_) (by simp only [List.size_toArray] <;> omega)
  have I1 : Inv X pins σ H { s with heap := h' } := I.kept (t' := s.toks) kp
  have I2 : Inv X pins σ (upd H h'.objs.size (.frz { cls := .type "tuple", data := .seq its.toArray } (.tup ys))) { s with heap := h'.push { cls := .type "tuple", data := .seq its.toArray } } :=
    I1.laid (t' := s.toks) (fun b o e => Heap.get?_push_of_some _ e) (Nat.le_refl _) (show ObjOk X.prog X.w _ _ _ (.frz _ (.tup ys)) from ⟨Heap.get?_push_size _ rfl, hz, its, r', IsTup.new _ _⟩)
  exact ⟨.ref h'.objs.size, _, I2, rfl, q _ _ (I1.hok.fresh (Nat.le_refl _)) rfl rfl⟩
def tBMT (r : V → List V → Hp → VK → Prop) (to : TE) (t : TA) : TE := fun σ H Q => to σ H fun x H1 => ∃ p o ys, x = .ref p ∧ H1 p = some (.frz o (.tup ys)) ∧ o.cls = .type "tuple" ∧ o.dict = none ∧ t σ H1 fun xs H2 => r x xs H2 Q
theorem pe_bmT {o e : Expr} {es : List Expr} {to : TE} {t : TA} {name : Str} {apos cpos : Pos} {id : String} {r : V → List V → Hp → VK → Prop} (pa : PlainAttrs "tuple") (slot : Slot "tuple" name id) (hty : typeOf (.builtin id) = pure (.type "method_descriptor")) (hm : MtR X id r) (ho : PE X o to) (ha : PA X (e :: es) t)
    (hbase : attributeBase o name X.env (eval o X.env) = eval o X.env := by rfl)
    (hfew : ((backTo cpos (starEach (e :: es) X.env)).all (fun x => !x.1) && (backToKw cpos (keywordEach [] X.env)).all (fun x => x.1.isSome)
      && decide ((e :: es).length + ([] : List Keyword).length + (if ([] : List Keyword).isEmpty then 0 else 1) < 30)) = true := by rfl)
    (hline : (apos.endLine == cpos.line) = true := by rfl) (hs : starEach (e :: es) X.env = (false, eval e X.env) :: starEach es X.env := by rfl) (hplain : (backTo cpos (starEach es X.env)).any (·.1) = false := by rfl) :
    PE X (.Call (.Attribute o name apos) (e :: es) [] cpos) (tBMT r to t) := by
  refine ⟨fun pins s σ H Q I h => ?_⟩
  refine wpAny_Call_method_late hbase hfew hline rfl (thn (ho.run pins s σ H _ I h) fun v s1 ⟨x, H1, I1, r1, p, ob, ys, ex, hp, hc, hd, q1⟩ => ?_)
  subst ex
  cases r1
  obtain ⟨ho1, _⟩ := I1.hok p _ hp
  refine ⟨"tuple", id, pa, slot, hty, ⟨ob, ho1, hc⟩, fun a ea => ?_, ?_⟩
  · cases ea
    exact ⟨ob, ho1, hd⟩
  have hA := ha.run cpos pins s1 σ H1 _ I1 q1
  rw [hs] at hA ⊢
  refine Calls.callWith_builtin (by show (false || (backTo cpos (starEach es X.env)).any (·.1)) = false; rw [hplain] <;> rfl) (Calls.evalArgs_plain ?_)
  exact thn hA fun us s2 ⟨vs, H2, I2, r2, q2⟩ => hm pins s2 σ H2 (.ref p) vs _ us Q I2 rfl r2 q2
end
/-! ### raise C(e), C an error with its __init__ -/
section
variable {X : Cx} {C : Addr} {f x : Str} {e : Expr} {es : List Expr} {ta : TA} {p pos : Pos}
def wkA (ta : TA) : TA := fun σ H Q => ∃ Q0, ta σ H Q0 ∧ ∀ vs H', Q0 vs H' → Q vs H'
theorem pa_wk (ha : PA X es ta) : PA X es (wkA ta) := ⟨fun pos pins s σ H Q I ⟨Q0, h, w⟩ => wpAny_mono (ha.run pos pins s σ H Q0 I h) (fun us s1 ⟨vs, H1, I1, r, q⟩ => ⟨vs, H1, I1, r, w vs H1 q⟩) fun _ _ x => x⟩
def tRs (C : Addr) (f : Str) (ta : TA) : L2.St → Hp → XK → Prop := fun σ H Q => ta σ H fun vs H1 => ∃ v, vs = [v] ∧ ∀ (d : Addr) (H2 : Hp), H1 d = none → H2 d = some (.xd [(f, v)]) → Same H1 H2 → Q (.ref C) (some d) H2
theorem pmk_errF (T : ErrI X.prog X.w X.K X.mg X.base C f) (hr : Room 2 X.A) (hg : Gl X x) (hm : X.mg x = some (.ref C)) (ha : PA X [e] ta)
    (hdb : (x == ("__debug__" : Str)) = false := by decide) (he : starEach [e] X.env = (false, eval e X.env) :: starEach [] X.env := by rfl) (hpl : (backTo pos (starEach [] X.env)).any (·.1) = false := by rfl) :
    PMk X (.Call (.Name x p) [e] [] pos) (tRs C f ta) := by
  obtain ⟨fI, fd, iC, tI, F1, hb⟩ := T.init
  intro pins s σ H Q I h
  refine pmk_oex (dvs := []) (ds := []) T.o iC tI F1 hr hb .nil pass0 hg hm (pa_wk ha) hdb he hpl pins s σ H Q I ⟨_, h, fun vs H1 q => ?_⟩
  obtain ⟨v, rfl, q⟩ := q
  refine ⟨(by decide : (1 : Nat) ≤ 1000), fun a hn => ⟨a, v, rfl, upd_same, fun dx hd ne => ⟨rfl, dx, [(f, v)], upd_same, by rw [upd_ne ne, upd_same], ?_, ?_⟩⟩⟩
  · rw [upd_ne ne] at hd
    exact hd
  · rw [upd_ne ne] at hd
    refine q dx _ hd upd_same fun b o e => ?_
    have n1 : b ≠ dx := ne_of_none e hd
    have n2 : b ≠ a := ne_of_none e hn
    rw [upd_ne n1, del_ne n2, upd_ne n2, upd_ne n1, upd_ne n2]
    exact e
end
/-! ### o.m(e, ..) in a try -/
section
variable {X : Cx} {CX : CXT} {k : Nat} {f C : Addr} {fd : FuncData} {ps : List Str} {sp : Sp} {E : L2.St → XK} {m : Str} {pos apos : Pos} {e o : Expr} {es : List Expr} {ta : TE} {t : TA}
def tMethE (C : Addr) (m : Str) (sp : Sp) (E : L2.St → XK) (ta : TE) (t : TA) : TE := fun σ H Q => ta σ H fun x H1 => ∃ a dx fs, x = .ref a ∧ H1 a = some (.ins C dx fs) ∧ fs.lookup m = none ∧ t σ H1 fun vs H2 => sp (x :: vs) H2 Q (E σ)
theorem pe_methE {pl : Sem Bool} (he : PE X o ta) (c : Cls X.K C) (hm : Meth X.K C m f) (F : FnOk X.prog X.w X.K X.mg X.base CX k f fd ps sp) (hr : Room k X.A) (hb : Binds X.K fd ps []) (hx : ∀ σ, PassesAt CX X σ (E σ)) (ha : PA X (e :: es) t)
    (hst : starEach (e :: es) X.env = (false, eval e X.env) :: starEach es X.env := by rfl) (hpl : (backTo pos (starEach es X.env)).any (·.1) = false := by rfl)
    (ht : eval (.Call (.Attribute o m apos) (e :: es) [] pos) X.env = (do
      let ov ← eval o X.env
      standAt apos.atName
      let (f, first) ← holding [ov] (getMethod ov m pl)
      callWith pos f first (backTo pos (starEach (e :: es) X.env)) (backToKw pos (keywordEach [] X.env))) := by rfl) :
    PE X (.Call (.Attribute o m apos) (e :: es) [] pos) (tMethE C m sp E ta t) := by
  refine ⟨fun pins s σ H Q I h => ?_⟩
  refine PySem.W.methodCall_KW (pl := pl) (thn (he.run pins s σ H _ I h) fun u s1 ⟨x, H1, I1, rx, a, dx, fs, ex, ea, l, q⟩ => ?_) ht
  subst ex
  obtain rfl : u = Value.ref a := rx
  refine getmeth_ok I1 ea c hm l ?_
  refine PySem.W.callWith_K (first := [.ref a]) (h₀ := X.base) I.ok.mod.kin hm.kp (thn (ha.run pos pins s1 σ H1 _ I1 q) fun us s2 ⟨vs, H2, I2, r, q2⟩ => ⟨I2.kIn, ?_⟩) hst hpl
  exact run_fnS (us := .ref a :: us) (vs := .ref a :: vs) F hr hb (hx σ) I2 (.cons rfl r) q2
end
/-! ### xs[::-1] -/
section
variable {X : Cx} {e st : Expr} {te : TE} {ts : TO} {pos p2 : Pos}
def tRevL (K : PySem.W.Frag) (te : TE) (ts : TO) : TE := fun σ H Q => te σ H fun x H1 => ts σ H1 fun l H2 => ∃ a xs, x = .ref a ∧ l = some (-1) ∧ SqL K H2 a xs ∧ ∀ p, H2 p = none → Q (.ref p) (upd H2 p (.lst xs.reverse))
theorem pe_sliceRev (he : PE X e te) (hs : PO X (some st) ts) (hsub : ∀ a b : Addr, subscripted (.Slice none none (some st) p2) false (.ref a) (.ref b) = operate [.ref a, .ref b] (getItem (.ref a) (.ref b)) := by intro _ _; with_unfolding_all rfl) : PE X (.Subscript e (.Slice none none (some st) p2) pos) (tRevL X.K te ts) := by
  refine ⟨fun pins s σ H Q I h => ?_⟩
  refine Subscript_ (thn (he.run pins s σ H _ I h) fun v s1 ⟨x, H1, I1, r1, q1⟩ => ?_)
  refine wpAny_Slice ?_
  rw [evalPart_none]
  refine wpAny_pure (wpAny_pure (thn (hs.run pins s1 σ H1 _ I1 q1) fun vs s3 ⟨u, H3, I3, pu, q3⟩ => ?_))
  obtain ⟨a, xs, ex, eu, hx, q⟩ := q3
  subst ex
  subst eu
  cases r1
  have I4 : Inv X pins σ H3 { s3 with heap := s3.heap.push { cls := .type "slice", data := .fields #[.none, .none, vs] } } := I3.kept (t' := s3.toks) fun b ob q => Heap.get?_push_of_some _ q
  obtain ⟨its, r, ht, hz⟩ := I4.list hx
  have hlen := r.length
  refine tail_any (ops := [.ref a, .ref s3.heap.objs.size]) (T := "list") ht.isList.typeIs slot_list_getitem.lookup ?_ (hsub _ _)
  refine wpAny_getItem_list_slice ht.isList (Heap.IsSliceOf.new ..) .none .none pu (by simp) ?_ (by rw [List.size_toArray] <;> omega)
  rw [PySem.W.krv_pick]
  refine ⟨.ref _, _, I4.laid (t' := s3.toks) (o := .lst xs.reverse) (fun b ob q => Heap.get?_push_of_some _ q) (Nat.le_refl _) ?_, rfl, q _ (I4.hok.fresh (Nat.le_refl _))⟩
  exact ⟨by rw [List.length_reverse]; exact hz, its.reverse, 0, r.reverse, Heap.get?_push_size _ rfl⟩
end
/-! ### slices of a tracked list -/
theorem cut_head (xs : List V) : cutV xs none (some 1) = xs.take 1 := by
  unfold cutV
  rw [HT.sIx_none, show (some (1 : Int)) = some ((1 : Nat) : Int) from rfl, HT.sIx_nat, List.drop_zero, Nat.sub_zero]
  rcases Nat.lt_or_ge xs.length 1 with h | h
  · rw [Nat.min_eq_right (by omega), List.take_of_length_le (by omega), List.take_of_length_le (by omega)]
  · rw [Nat.min_eq_left h]
theorem cut_tail (xs : List V) (k : Nat) : cutV xs (some (k : Int)) none = xs.drop k := by
  unfold cutV
  rw [HT.sIx_none, HT.sIx_nat]
  rcases Nat.lt_or_ge xs.length k with h | h
  · rw [Nat.min_eq_right (by omega), List.drop_of_length_le (Nat.le_refl _), List.drop_of_length_le (by omega)] <;> simp
  · rw [Nat.min_eq_left h, List.take_of_length_le (by rw [List.length_drop]; omega)]
/-! ### tuples of numbers and of pairs as data -/
theorem eqv_ints : ∀ (as bs : List Int), PyData.eqvAll (as.map PyData.int) (bs.map PyData.int) = decide (as = bs)
  | [], [] => rfl
  | [], _ :: _ => rfl
  | _ :: _, [] => rfl
  | a :: as, b :: bs => by
    show (PyData.eqv (.int a) (.int b) && PyData.eqvAll (as.map PyData.int) (bs.map PyData.int)) = _
    rw [eqv_ints as bs]
    show ((a == b) && decide (as = bs)) = _
    rw [Bool.eq_iff_iff]
    simp
def dP (p : Int × Int) : PyData := .tuple [.int p.1, .int p.2]
theorem eqv_pair (p q : Int × Int) : PyData.eqv (dP p) (dP q) = decide (p = q) := by
  obtain ⟨a, b⟩ := p
  obtain ⟨c, d⟩ := q
  show ((a == c) && ((b == d) && true)) = _
  rw [Bool.eq_iff_iff]
  simp
theorem eqv_pairs : ∀ (as bs : List (Int × Int)), PyData.eqvAll (as.map dP) (bs.map dP) = decide (as = bs)
  | [], [] => rfl
  | [], _ :: _ => rfl
  | _ :: _, [] => rfl
  | a :: as, b :: bs => by
    show (PyData.eqv (dP a) (dP b) && PyData.eqvAll (as.map dP) (bs.map dP)) = _
    rw [eqv_pairs as bs, eqv_pair, Bool.eq_iff_iff]
    simp
theorem dp_ints {K : PySem.W.Frag} {H : Hp} : ∀ (as : List Int), DpAll K H (as.map V.int) (as.map PyData.int)
  | [] => .nil
  | a :: r => .cons (.int a) (dp_ints r)
theorem dp_pair {K : PySem.W.Frag} {H : Hp} {a : Addr} {p : Int × Int} (h : H a = some (.tup [.int p.1, .int p.2])) : Dp K H (.ref a) (dP p) := .tup (SqT.of h) (.cons (.int _) (.cons (.int _) .nil))
theorem dp_pairs {K : PySem.W.Frag} {H : Hp} : ∀ (M : List (Addr × (Int × Int))), (∀ p ∈ M, H p.1 = some (.tup [.int p.2.1, .int p.2.2])) → DpAll K H (M.map fun p => V.ref p.1) ((M.map (·.2)).map dP)
  | [], _ => .nil
  | p :: r, h => .cons (dp_pair (h p List.mem_cons_self)) (dp_pairs r fun q hq => h q (List.mem_cons_of_mem _ hq))
theorem lay_ints : ∀ as : List Int, PyData.canLayAll0 (as.map PyData.int) = true
  | [] => rfl
  | a :: r => by
    show (true && PyData.canLayAll0 (r.map PyData.int)) = true
    rw [lay_ints r] <;> rfl
theorem lay_pairs : ∀ as : List (Int × Int), PyData.canLayAll0 (as.map dP) = true
  | [] => rfl
  | a :: r => by
    show (true && PyData.canLayAll0 (r.map dP)) = true
    rw [lay_pairs r] <;> rfl
theorem depth_ints : ∀ as : List Int, PyData.depthAll (as.map PyData.int) ≤ 1
  | [] => by simp [PyData.depthAll]
  | a :: r => by
    have h := depth_ints r
    simp only [List.map_cons, PyData.depthAll, PyData.depth]
    omega
theorem depth_pair (p : Int × Int) : (dP p).depth ≤ 4 := by
  unfold dP
  simp only [PyData.depth, PyData.depthAll]
  omega
theorem depth_pairs : ∀ as : List (Int × Int), PyData.depthAll (as.map dP) ≤ 4
  | [] => by simp [PyData.depthAll]
  | a :: r => by
    have h := depth_pairs r
    have h2 := depth_pair a
    simp only [List.map_cons, PyData.depthAll]
    omega
theorem shaped_ints (as : List Int) : SeqAt.shaped (.tuple (as.map PyData.int)) = true := by
  unfold SeqAt.shaped
  have e : (PyData.tuple (as.map PyData.int)).canLay0 = true := lay_ints as
  have d : (PyData.tuple (as.map PyData.int)).depth ≤ 64 := by
    have h2 := depth_ints as
    simp only [PyData.depth]
    omega
  rw [e, decide_eq_true d]
  rfl
theorem shaped_pair (p : Int × Int) : SeqAt.shaped (dP p) = true := by
  unfold SeqAt.shaped
  rw [show (dP p).canLay0 = true from rfl, decide_eq_true (Nat.le_trans (depth_pair p) (by decide))]
  rfl
theorem shaped_pairs (as : List (Int × Int)) : SeqAt.shaped (.tuple (as.map dP)) = true := by
  unfold SeqAt.shaped
  have e : (PyData.tuple (as.map dP)).canLay0 = true := lay_pairs as
  have d : (PyData.tuple (as.map dP)).depth ≤ 64 := by
    have h2 := depth_pairs as
    simp only [PyData.depth]
    omega
  rw [e, decide_eq_true d]
  rfl
theorem nil_ints {K : PySem.W.Frag} {H : Hp} {a : Addr} {as : List Int} (h : H a = some (.tup (as.map V.int))) : Dp K H (.ref a) (.tuple (as.map PyData.int)) := .tup (SqT.of h) (dp_ints as)
/-! ### a hook that reads the getters of properties too -/
structure PropD where
  cls : Str
  f : Str
  d : He.DefD
def PropD.p (K : PySem.W.Frag) (q : PropD) : Addr := He.ma K (He.ga K q.cls) q.f
def PropD.g (K : PySem.W.Frag) (q : PropD) : Addr := match PySem.W.recIn K (q.p K) "property" with
  | some (.ref g :: _) => g
  | _ => 0
def fnAt (K : PySem.W.Frag) (a : Addr) : He.FnW := match K.lookup a with
  | some ⟨_, _, .func fd, _⟩ => some (fd.name, fd.qualname, fd.params, fd.body, fd.scope, fd.globals, fd.closure, fd.builtins)
  | _ => none
def PropD.ok (K : PySem.W.Frag) (q : PropD) : Bool := PySem.W.keepIn K (.ref (q.g K)) && ((match K.lookup (q.g K) with
  | some ⟨_, _, .func fd, _⟩ => PySem.W.codeIn K fd.code q.d.qual && (He.dflB K fd.defaults [] && He.kwdB K fd.kwdefaults [])
  | _ => false) && (He.eqO (PySem.W.findIn K (.ref (He.ga K q.cls)) q.f) (some (some (.ref (q.p K)))) && (He.eqO (PySem.W.specialIn K (.ref (q.p K)) "__get__") (some (some (.builtin "property.__get__"))) &&
  (decide (PySem.W.takesIn K (.ref (q.p K)) = some true) && (match PySem.W.recIn K (q.p K) "property" with
    | some (.ref _ :: _) => true
    | _ => false)))))
theorem PropD.funD {K : PySem.W.Frag} {q : PropD} (e : fnAt K (q.g K) = q.d.val) (c : q.ok K = true) : (∃ fd, FunD K q.d.name q.d.qual q.d.params q.d.body q.d.scope [] [] (q.g K) fd) ∧ PropOf K (He.ga K q.cls) q.f (q.p K) (q.g K) := by
  obtain ⟨kp, c⟩ := Bool.and_eq_true_iff.mp c
  obtain ⟨c2, c⟩ := Bool.and_eq_true_iff.mp c
  obtain ⟨p1, c⟩ := Bool.and_eq_true_iff.mp c
  obtain ⟨p2, c⟩ := Bool.and_eq_true_iff.mp c
  obtain ⟨p3, p4⟩ := Bool.and_eq_true_iff.mp c
  refine ⟨?_, He.eqO_ok p1, He.eqO_ok p2, of_decide_eq_true p3, ?_⟩
  · unfold fnAt at e
    cases z : K.lookup (q.g K) with
    | none =>
      rw [z] at c2
      cases c2
    | some o =>
      obtain ⟨oc, od, dt, osl⟩ := o
      rw [z] at c2 e
      cases dt with
      | func fd =>
        obtain ⟨n1, n2, n3, n4, n5, n6, n7, n8, n9, n10, n11, n12, n13, n14, n15⟩ := fd
        have e2 : (some (n1, n2, n3, n4, n5, n6, n7, n15) : He.FnW) = some (q.d.name, q.d.qual, q.d.params, .stmts q.d.body, q.d.scope, mainGlobals, [], builtinsNs) := e
        simp only [Option.some.injEq, Prod.mk.injEq] at e2
        obtain ⟨h1, h2, h3, h4, h5, h6, h7, h8⟩ := e2
        subst h1 h2 h3 h4 h5 h6 h7 h8
        have c3 : (PySem.W.codeIn K n13 q.d.qual && (He.dflB K n8 [] && He.kwdB K n9 [])) = true := c2
        obtain ⟨k1, k2⟩ := Bool.and_eq_true_iff.mp c3
        obtain ⟨k3, k4⟩ := Bool.and_eq_true_iff.mp k2
        exact ⟨_, ⟨oc, od, n8, n9, n10, n11, n12, n13, n14, osl, rfl, z, k1, He.dflB_ok k3, He.kwdB_ok k4⟩, kp⟩
      | _ => cases c2
  · unfold PropD.g
    cases z : PySem.W.recIn K (q.p K) "property" with
    | none =>
      rw [z] at p4
      cases p4
    | some l =>
      rw [z] at p4
      cases l with
      | nil => cases p4
      | cons a r =>
        cases a with
        | ref g => exact ⟨r, rfl⟩
        | _ => cases p4
section
variable (n : Nat) (fa : List He.Fa) (fn : List He.DefD) (ps : List PropD) (ex : PySem.W.Frag → Bool)
abbrev AlP : Type := He.AlX × List He.FnW
def obsP (g : Addr → Option Obj) : AlP := (He.obsX n fa fn [] [] ex g, ps.map fun q => fnAt (He.frT g (He.asD g n)) (q.g (He.frT g (He.asD g n))))
def hookP : PySem.W.Hook where
  α := AlP
  obs := fun s => obsP n fa fn ps ex s.heap.get?
  val := fun w => (He.valX fn [] w, ps.map fun q => q.d.val)
  says := fun w h => ∃ K : PySem.W.Frag, K.In h ∧ He.SaysX fa fn [] [] ex w h K ∧ (ps.map fun q => fnAt K (q.g K)) = ps.map fun q => q.d.val
  of := fun _ _ e => ⟨_, He.frT_in, He.saysX_of (congrArg (fun z : AlP => z.1) e), by have h := congrArg (fun z : AlP => z.2) e; exact h⟩
  keeps := fun _ _ _ ⟨K, hK, c, e⟩ k => ⟨K, PySem.W.Frag.In.keeps hK k, ⟨c.t, c.more, c.hd, c.out, fun p hp => k _ _ (c.empty p hp)⟩, e⟩
theorem obsP_eq {g : Addr → Option Obj} {s : Shared} (h : ∀ a, g a = s.heap.get? a) : obsP n fa fn ps ex g = (hookP n fa fn ps ex).obs s := by
  have e : g = s.heap.get? := funext h
  rw [e] <;> rfl
end
end Kx

namespace Kx
open PySem PySem.Spec PyProof.Rows L2
/-! ### try: .. with several clauses, each with its name -/
abbrev Cl := Value × Nat × (Addr → Value → Option Addr → TS)
/-- behind a clause its name is gone -/
def goneAt (i : Nat) (D : Ends) : Ends := { nx := fun q G => D.nx (q.set i none) G, rt := D.rt, bk := fun q G => D.bk (q.set i none) G, ct := fun q G => D.ct (q.set i none) G }
/-- what the clauses wish, one after the other -/
def wCls (K : PySem.W.Frag) (Wo : WX) (D : Ends) : List Cl → WX
  | [] => Wo
  | (c, i, ts) :: more => fun cls d q G => ∃ b, PySem.W.exmOne K cls c = some b ∧ (b = true → ∀ a, G a = none → ts a cls d (goneAt i D) (q.set i (some (.ref a))) G) ∧ (b = false → wCls K Wo D more cls d q G)
inductive ClsOk (X : Cx) : List ExceptHandler → List Cl → Prop
  | nil : ClsOk X [] []
  | cons {x n : Str} {i : Nat} {c : Value} {ts : Addr → Value → Option Addr → TS} {s0 : Stmt} {ss : List Stmt} {p1 p2 : Pos} {hds : List ExceptHandler} {l : List Cl} (named : Names X x c) (at_ : X.N[i]? = some n) (loc : X.env.kindOf n = some .local)
      (suite : ∀ (a : Addr) (ob : Obj) (cls : Value) (d : Option Addr) (pn : List (Addr × Obj)), Zc cls d ob → (∃ vs, ob.data = .fields vs) → PSs (X.suite a ((a, ob) :: pn)) (s0 :: ss) (ts a cls d)) (rest : ClsOk X hds l) :
      ClsOk X (.ExceptHandler (some (.Name x p1)) (some n) (s0 :: ss) p2 :: hds) ((c, i, ts) :: l)
section
variable {X : Cx} {Wo : WX} {body : List Stmt} {h0 : ExceptHandler} {hds : List ExceptHandler} {l : List Cl} {pos : Pos} {tb : WX → TS}
/-- the end of a try's body, seen from outside -/
theorem body_end {pins : List (Addr × Obj)} {xe : Value → Shared → Prop} {D : Ends} {f : Flow} {t : Shared} (ok : X.Ok) (h : SP (X.tr (X.pn ++ pins) xe) [] D f t) : SP X pins D f t := by
  cases f with
  | next => exact h.elim fun q h => h.elim fun G h => ⟨q, G, h.1.ofTry ok, h.2⟩
  | brk => exact h.elim fun q h => h.elim fun G h => ⟨q, G, h.1.ofTry ok, h.2⟩
  | cont => exact h.elim fun q h => h.elim fun G h => ⟨q, G, h.1.ofTry ok, h.2⟩
  | ret u => exact h.elim fun v h => h.elim fun q h => h.elim fun G h => ⟨v, q, G, h.1.ofTry ok, h.2⟩
theorem ps_try_cls (tops : X.stack = X.env :: X.outer) (frame : X.env.frame = some X.env.locals) (nodup : X.N.Nodup) (tk : Takes X Wo)
    (bodyOk : ∀ (W : WX) (pn : List (Addr × Obj)) (xe : Value → Shared → Prop), Takes (X.tr pn xe) W → PassesOwn (model X.prog X.w) X.A X.env xe → PSs (X.tr pn xe) body (tb W)) (clauses : ClsOk X (h0 :: hds) l) :
    PS X (.Try body (h0 :: hds) [] [] pos) (fun D σ H => tb (wCls X.K Wo D l) D σ H) := by
  refine ⟨fun pins s σ H D I h => ?_⟩
  have ok := I.ok
  have live : X.A.frames = some (X.env :: X.outer) := ok.frames.trans (congrArg some tops)
  refine wpAny_Try_except ?_
  refine wpAny_mono ((bodyOk (wCls X.K Wo D l) (X.pn ++ pins) _ (fun u t air => ?_) PassesOwn.looking).run [] s σ H D (I.toTry _) h) (fun f t e => ?_) (fun e t z => z)
  case refine_2 =>
    have e' := body_end ok e
    cases f with
    | next => exact wpAny_execs_nil e'
    | brk => exact e'
    | cont => exact e'
    | ret _ => exact e'
  case refine_1 =>
    obtain ⟨a, B, sI, pins', q, G, cls, d, rfl, J', beside, same, sky, free, os, bare, wish⟩ := air
    have J : Inv X pins q G sI := J'.ofTry ok
    rw [show (X.tr (X.pn ++ pins) _).stack = X.env :: X.outer from tops] at sky
    show wpAny (model X.prog X.w) X.A (noteFrame (.ref a) X.env) _ _ _
    refine Sky.land Zc.steady live frame sky fun g fly turned => ?_
    have JG : Inv X pins q G { t with heap := g } := J.landed beside fly.1 (same.trans turned) os bare
    obtain ⟨ob, vs, there, kind, data⟩ := fly.there
    have noFrame : a ∉ frs (X.env :: X.outer) := fun hm => by
      obtain ⟨_, o', e', nf⟩ := fly.2.2.1.mem hm
      rw [there] at e'
      cases e'
      exact nf _ data
    have offL : a ≠ X.env.locals := fun z => noFrame (List.mem_filterMap.mpr ⟨X.env, List.mem_cons_self, by rw [frame, z]⟩)
    have offF : a ∉ X.fs := fun hm => by
      obtain ⟨w, hw, z⟩ := List.mem_filterMap.mp hm
      exact noFrame (List.mem_filterMap.mpr ⟨w, List.mem_cons_of_mem _ hw, z⟩)
    have inSuite := JG.suite there data free offL offF
    have walk : ∀ {hs : List ExceptHandler} {m : List Cl}, ClsOk X hs m → wCls X.K Wo D m cls d q G → wpAny (model X.prog X.w) X.A (handleBy (.ref a) X.env hs) (SP X pins D) X.xe { t with heap := g } := by
      intro hs m hm
      induction hm with
      | nil =>
        intro out
        refine wpAny_handleBy_nil ?_
        obtain ⟨_, _, _, ob2, vs2, T, _, _, e2, _, d2, f2, _⟩ := id fly
        unfold PySem.passOn
        refine wpAny_bind (wpAny_field e2 d2 f2 ?_)
        rw [if_neg (show ¬ ((Value.ref T == Value.none) = true) by simp)]
        have rise : wpAny (model X.prog X.w) X.A (setFlight (.ref a) X.env.frame) (fun _ t4 => wpAny (model X.prog X.w) X.A (throw (.ref a) : Sem Flow) (SP X pins D) X.xe t4) X.xe { t with heap := g } := by
          rw [frame]
          refine HandSPX.setFlight_upZ fly fun g4 held up4 => wpAny_throw (tk _ _ ⟨a, B, sI, pins, q, G, cls, d, rfl, J, beside, (same.trans turned).trans up4, .inr (.inr ?_), free, os, bare, out⟩)
          rw [tops]
          exact held
        first
          | exact wpAny_bind (wpAny_pure (wpAny_bind rise))
          | exact wpAny_bind rise
      | @cons x n i c ts s0 ss p1 p2 hs2 m2 named at_ loc suite rest ih =>
        intro wish
        obtain ⟨b, eb, yes, no⟩ := wish
        refine wpAny_handleBy_cons (codeAny_handlers_test ?_) (by intro z; cases z)
        have kindOf : PySem.W.Looks (model X.prog X.w) g (typeOf (.ref a)) cls := fun _ _ _ _ k z => wpAny_typeOf_ref (k _ _ there) (by rw [kind.1]; exact z)
        have matches_ := PySem.W.exm_one (M := model X.prog X.w) JG.kIn kindOf eb
        have name : ∀ {Q : Value → Shared → Prop} {E : Value → Shared → Prop}, Q c { t with heap := g } → wpAny (model X.prog X.w) (X.A.mark (some (.ref a))) (eval (.Name x p1) X.env) Q E { t with heap := g } := fun {Q E} z => by
          obtain ⟨gl, nd, own | ⟨fre, blt, nn⟩⟩ := named
          · exact ld_glob (X := X.suite a ((a, ob) :: (X.pn ++ pins))) inSuite gl own z nd
          · exact ld_blt (X := X.suite a ((a, ob) :: (X.pn ++ pins))) inSuite gl fre blt z nn nd
        refine name (matches_.here ?_)
        cases b with
        | false =>
          show wpAny _ X.A (handleBy (.ref a) X.env hs2) _ _ _
          exact ih (no rfl)
        | true =>
          refine codeAny_handlers_suite_as ?_
          refine HandSPX.lands_againZ fly fun g4 fly4 up4 => ?_
          have J4 : Inv X pins q G { t with heap := g4 } := J.landed beside fly4.1 ((same.trans turned).trans up4) os bare
          obtain ⟨ob4, vs4, there4, kind4, data4⟩ := fly4.there
          refine store_ok (X := X.suite a ((a, ob4) :: (X.pn ++ pins))) (v := .ref a) (J4.suite there4 data4 free offL offF) nodup at_ (.inl loc) rfl (fun t5 S5 => ?_) (.inr loc)
          refine wpAny_mono ((suite a ob4 cls d (X.pn ++ pins) kind4 ⟨_, data4⟩).run [] t5 _ G _ S5 (yes rfl a free)) (fun f t6 e => ?_) (fun _ _ z => False.elim z)
          have drop : ∀ {q6 : L2.St} {G6 : Hp} {R : Shared → Prop}, Inv (X.suite a ((a, ob4) :: (X.pn ++ pins))) [] q6 G6 t6 → (∀ t7, Inv X pins (q6.set i none) G6 t7 → R t7) →
              wpAny (model X.prog X.w) X.A (do bindName X.env n .none; unbindBehindTheSuite X.env n p2) (fun _ t7 => R t7) X.xe t6 := fun {q6 G6 R} S6 hr => gone_ok (S6.unsuite ok) nodup at_ loc hr
          cases f with
          | next =>
            obtain ⟨_, _, S6, z⟩ := e
            exact drop S6 fun _ J7 => ⟨_, _, J7, z⟩
          | brk =>
            obtain ⟨_, _, S6, z⟩ := e
            exact drop S6 fun _ J7 => ⟨_, _, J7, z⟩
          | cont =>
            obtain ⟨_, _, S6, z⟩ := e
            exact drop S6 fun _ J7 => ⟨_, _, J7, z⟩
          | ret _ =>
            obtain ⟨_, _, _, S6, r6, z⟩ := e
            exact drop S6 fun _ J7 => ⟨_, _, _, J7, r6, z⟩
    exact walk clauses wish
end
end Kx

namespace Kx
open PySem PySem.Spec PyProof.Rows L2
/-! ### drawn webs, in plain Lean -/
theorem perm_ins {α : Type} (l : List α) (i : Nat) (x : α) : (l.take i ++ [x] ++ l.drop i).Perm (x :: l) := by
  rw [List.append_assoc]
  have h : (l.take i ++ [x] ++ l.drop i).Perm (x :: (l.take i ++ l.drop i)) := by
    rw [List.append_assoc]
    exact List.perm_middle
  rw [List.take_append_drop, List.append_assoc] at h
  exact h
/-- an order of the first k places -/
structure Ord (k : Nat) (o : List Int) : Prop where
  len : o.length = k
  nd : o.Nodup
  mem : ∀ v, v ∈ o ↔ 0 ≤ v ∧ v < (k : Int)
theorem Ord.zero : Ord 0 [] := ⟨rfl, List.nodup_nil, fun v => by
  constructor
  · intro h; cases h
  · rintro ⟨h1, h2⟩; omega⟩
theorem Ord.next {k : Nat} {o o' : List Int} (h : Ord k o) (p : o'.Perm ((k : Int) :: o)) : Ord (k + 1) o' where
  len := by rw [p.length_eq, List.length_cons, h.len]
  nd := by
    rw [p.nodup_iff, List.nodup_cons]
    refine ⟨fun m => ?_, h.nd⟩
    have := ((h.mem _).mp m).2
    omega
  mem := fun v => by
    rw [p.mem_iff, List.mem_cons, h.mem]
    omega
theorem Ord.at_ {k : Nat} {o : List Int} (h : Ord k o) {i : Nat} {v : Int} (e : o[i]? = some v) : 0 ≤ v ∧ v < (k : Int) := (h.mem v).mp (List.mem_of_getElem? e)
theorem nd_index {α : Type} : ∀ {o : List α}, o.Nodup → ∀ {i j : Nat} {v : α}, o[i]? = some v → o[j]? = some v → i = j
  | [], _, _, _, _, h, _ => by simp at h
  | a :: r, nd, 0, 0, _, _, _ => rfl
  | a :: r, nd, 0, j + 1, v, h1, h2 => by
    have e : a = v := Option.some.inj h1
    exact absurd (List.mem_of_getElem? (show r[j]? = some a by rw [e]; exact h2)) (List.nodup_cons.mp nd).1
  | a :: r, nd, i + 1, 0, v, h1, h2 => by
    have e : a = v := Option.some.inj h2
    exact absurd (List.mem_of_getElem? (show r[i]? = some a by rw [e]; exact h1)) (List.nodup_cons.mp nd).1
  | a :: r, nd, i + 1, j + 1, v, h1, h2 => congrArg (· + 1) (nd_index (List.nodup_cons.mp nd).2 (show r[i]? = some v from h1) (show r[j]? = some v from h2))
/-- the first k of the order o hang together from its first one -/
structure Span (n k : Nat) (o : List Int) (e : Int) (es : List Edge) : Prop where
  len : es.length + 1 = k
  rng : ∀ p ∈ es, (0 ≤ p.1 ∧ p.1 < (n : Int)) ∧ 0 ≤ p.2 ∧ p.2 < (n : Int)
  nd : es.Nodup
  snd : ∀ p ∈ es, ∃ i, i < k ∧ o[i]? = some p.2
  fwd : ∀ (i : Nat) v, i < k → o[i]? = some v → Reach es e v
theorem Span.one {n : Nat} {o : List Int} {e : Int} (h : o[0]? = some e) : Span n 1 o e [] where
  len := rfl
  rng := fun _ h => by cases h
  nd := List.nodup_nil
  snd := fun _ h => by cases h
  fwd := fun i v hi hv => by
    have e0 : i = 0 := by omega
    rw [e0, h] at hv
    rw [Option.some.inj hv]
    exact .refl _
theorem Span.next {n k : Nat} {o : List Int} {e a c : Int} {es es' : List Edge} {d : Nat} (h : Span n k o e es) (O : Ord n o) (hd : d < k) (ha : o[d]? = some a) (hc : o[k]? = some c) (p : es'.Perm ((a, c) :: es)) : Span n (k + 1) o e es' where
  len := by rw [p.length_eq, List.length_cons, h.len]
  rng := fun q hq => by
    rcases List.mem_cons.mp (p.mem_iff.mp hq) with rfl | hq
    · exact ⟨O.at_ ha, O.at_ hc⟩
    · exact h.rng q hq
  nd := by
    rw [p.nodup_iff, List.nodup_cons]
    refine ⟨fun m => ?_, h.nd⟩
    obtain ⟨i, hi, e'⟩ := h.snd _ m
    have := nd_index O.nd e' hc
    omega
  snd := fun q hq => by
    rcases List.mem_cons.mp (p.mem_iff.mp hq) with rfl | hq
    · exact ⟨k, Nat.lt_succ_self k, hc⟩
    · obtain ⟨i, hi, e'⟩ := h.snd q hq
      exact ⟨i, by omega, e'⟩
  fwd := fun i v hi hv => by
    have sub : ∀ q ∈ es, q ∈ es' := fun q hq => p.mem_iff.mpr (List.mem_cons_of_mem _ hq)
    by_cases e0 : i = k
    · rw [e0, hc] at hv
      rw [← Option.some.inj hv]
      exact ((h.fwd d a hd ha).more sub).trans (.one (p.mem_iff.mpr List.mem_cons_self))
    · exact (h.fwd i v (by omega) hv).more sub
/-- all places are reached -/
structure Core (n : Nat) (e : Int) (es : List Edge) : Prop where
  rng : ∀ p ∈ es, (0 ≤ p.1 ∧ p.1 < (n : Int)) ∧ 0 ≤ p.2 ∧ p.2 < (n : Int)
  nd : es.Nodup
  e0 : 0 ≤ e ∧ e < (n : Int)
  fwd : ∀ v, 0 ≤ v → v < (n : Int) → Reach es e v
theorem Span.core {n : Nat} {o : List Int} {e : Int} {es : List Edge} (h : Span n n o e es) (O : Ord n o) (he : o[0]? = some e) : Core n e es where
  rng := h.rng
  nd := h.nd
  e0 := O.at_ he
  fwd := fun v h0 h1 => by
    obtain ⟨i, hi, q⟩ := List.mem_iff_getElem.mp ((O.mem v).mpr ⟨h0, h1⟩)
    exact h.fwd i v (by rw [← O.len]; exact hi) (by rw [List.getElem?_eq_getElem hi, q])
theorem Core.add {n : Nat} {e : Int} {es es' : List Edge} {q : Edge} (h : Core n e es) (hq : (0 ≤ q.1 ∧ q.1 < (n : Int)) ∧ 0 ≤ q.2 ∧ q.2 < (n : Int)) (no : q ∉ es) (p : es'.Perm (q :: es)) : Core n e es' where
  rng := fun r hr => by
    rcases List.mem_cons.mp (p.mem_iff.mp hr) with rfl | hr
    · exact hq
    · exact h.rng r hr
  nd := by rw [p.nodup_iff, List.nodup_cons]; exact ⟨no, h.nd⟩
  e0 := h.e0
  fwd := fun v h0 h1 => (h.fwd v h0 h1).more fun r hr => p.mem_iff.mpr (List.mem_cons_of_mem _ hr)
/-- the goals, for the first i places -/
structure Aims (n i : Nat) (es : List Edge) (gs : List Int) : Prop where
  nd : gs.Nodup
  rng : ∀ g ∈ gs, 0 ≤ g ∧ g < (n : Int)
  ne : gs ≠ []
  bwd : ∀ v, 0 ≤ v → v < (i : Int) → ∃ g ∈ gs, Reach es v g
theorem Aims.stay {n i : Nat} {es : List Edge} {gs : List Int} (h : Aims n i es gs) (r : ∃ g ∈ gs, Reach es (i : Int) g) : Aims n (i + 1) es gs :=
  ⟨h.nd, h.rng, h.ne, fun v h0 h1 => by
    by_cases e : v = (i : Int)
    · rw [e]; exact r
    · exact h.bwd v h0 (by omega)⟩
theorem Aims.edge {n i : Nat} {es es' : List Edge} {gs : List Int} {g : Int} (h : Aims n i es gs) (hg : g ∈ gs) (p : es'.Perm (((i : Int), g) :: es)) : Aims n (i + 1) es' gs :=
  ⟨h.nd, h.rng, h.ne, fun v h0 h1 => by
    by_cases e : v = (i : Int)
    · rw [e]
      exact ⟨g, hg, .one (p.mem_iff.mpr List.mem_cons_self)⟩
    · obtain ⟨g', hg', r⟩ := h.bwd v h0 (by omega)
      exact ⟨g', hg', r.more fun q hq => p.mem_iff.mpr (List.mem_cons_of_mem _ hq)⟩⟩
theorem Aims.goal {n i : Nat} {es : List Edge} {gs gs' : List Int} (h : Aims n i es gs) (hi : i < n) (no : (i : Int) ∉ gs) (p : gs'.Perm ((i : Int) :: gs)) : Aims n (i + 1) es gs' where
  nd := by rw [p.nodup_iff, List.nodup_cons]; exact ⟨no, h.nd⟩
  rng := fun g hg => by
    rcases List.mem_cons.mp (p.mem_iff.mp hg) with rfl | hg
    · omega
    · exact h.rng g hg
  ne := fun z => by
    rw [z] at p
    have := p.length_eq
    simp at this
  bwd := fun v h0 h1 => by
    by_cases e : v = (i : Int)
    · rw [e]
      exact ⟨_, p.mem_iff.mpr List.mem_cons_self, .refl _⟩
    · obtain ⟨g', hg', r⟩ := h.bwd v h0 (by omega)
      exact ⟨g', p.mem_iff.mpr (List.mem_cons_of_mem _ hg'), r⟩
theorem rng_len {n : Nat} {gs : List Int} (nd : gs.Nodup) (rng : ∀ g ∈ gs, 0 ≤ g ∧ g < (n : Int)) : gs.length ≤ n := by
  have h := len_le_of_sub gs ((List.range n).map Int.ofNat) nd fun g hg => by
    obtain ⟨h0, h1⟩ := rng g hg
    exact List.mem_map.mpr ⟨g.toNat, List.mem_range.mpr (by omega), by show ((g.toNat : Nat) : Int) = g; omega⟩
  rw [List.length_map, List.length_range] at h
  exact h
theorem Core.good {n : Nat} {e : Int} {es : List Edge} {gs : List Int} (h : Core n e es) (a : Aims n n es gs) (hn : n ≤ 24) (hf : es.length < 60) : Good n es e gs where
  n1 := by have := h.e0; omega
  n2 := by omega
  few := hf
  rng := fun p hp => by
    obtain ⟨⟨a1, a2⟩, a3, a4⟩ := h.rng p hp
    exact ⟨a1, a2, a3, a4⟩
  nd := h.nd
  e0 := h.e0.1
  e1 := h.e0.2
  x0 := a.ne
  xr := a.rng
  xf := by have := rng_len a.nd a.rng; omega
  fwd := h.fwd
  bwd := a.bwd
/-! ### what reaches a goal, found in turns -/
def Closed (es : List Edge) (ms : List Int) : Prop := ∀ u v, (u, v) ∈ es → v ∈ ms → u ∈ ms
structure Met (es : List Edge) (gs ad ms : List Int) : Prop where
  eq : ms = gs ++ ad
  nd : ad.Nodup
  src : ∀ v ∈ ad, v ∈ es.map (·.1)
  sound : ∀ v ∈ ms, ∃ g ∈ gs, Reach es v g
theorem Met.start (es : List Edge) (gs : List Int) : Met es gs [] gs := ⟨by simp, List.nodup_nil, (fun _ h => by cases h), fun v h => ⟨v, h, .refl v⟩⟩
theorem Met.len {es : List Edge} {gs ad ms : List Int} (m : Met es gs ad ms) : ad.length ≤ es.length := by
  have h := len_le_of_sub ad (es.map (·.1)) m.nd m.src
  rw [List.length_map] at h
  exact h
theorem Met.full {es : List Edge} {gs ad ms : List Int} (m : Met es gs ad ms) (h : es.length ≤ ad.length) : Closed es ms := fun u v he _ => by
  rw [m.eq]
  refine List.mem_append_right _ ?_
  by_cases hu : u ∈ ad
  · exact hu
  · have hs : u ∈ es.map (·.1) := List.mem_map.mpr ⟨(u, v), he, rfl⟩
    have q := len_le_of_sub ad ((es.map (·.1)).erase u) m.nd fun x hx => (List.mem_erase_of_ne (fun e => hu (by rw [← e]; exact hx))).mpr (m.src x hx)
    have l := List.length_erase_of_mem hs
    have pos : 0 < (es.map (·.1)).length := List.length_pos_of_mem hs
    rw [List.length_map] at l pos
    omega
theorem Met.all {es : List Edge} {gs ad ms : List Int} (m : Met es gs ad ms) (c : Closed es ms) (v : Int) : v ∈ ms ↔ ∃ g ∈ gs, Reach es v g := by
  constructor
  · exact m.sound v
  · rintro ⟨g, hg, r⟩
    have hgm : g ∈ ms := by rw [m.eq]; exact List.mem_append_left _ hg
    clear hg
    induction r with
    | refl => exact hgm
    | step e _ ih => exact c _ _ e (ih hgm)
/-- within a turn: j edges were looked at; ad0 was found before it -/
structure Turn (es : List Edge) (gs ad0 ms0 : List Int) (j : Nat) (ad ms : List Int) : Prop where
  met : Met es gs ad ms
  grow : ad0.length ≤ ad.length
  same : ad.length = ad0.length → ad = ad0
  none_ : ad.length = ad0.length → ∀ u v, (u, v) ∈ es.take j → v ∈ ms → u ∈ ms
  done : Closed es ms0 → ad = ad0
theorem Turn.start {es : List Edge} {gs ad ms : List Int} (m : Met es gs ad ms) : Turn es gs ad ms 0 ad ms := ⟨m, Nat.le_refl _, fun _ => rfl, fun _ u v h => by simp at h, fun _ => rfl⟩
theorem Turn.skip {es : List Edge} {gs ad0 ms0 ad ms : List Int} {j : Nat} {a b : Int} (t : Turn es gs ad0 ms0 j ad ms) (h : es[j]? = some (a, b)) (no : b ∉ ms ∨ a ∈ ms) : Turn es gs ad0 ms0 (j + 1) ad ms :=
  ⟨t.met, t.grow, t.same, fun e u v hu hv => by
    rw [take_next h, List.mem_append] at hu
    rcases hu with hu | hu
    · exact t.none_ e u v hu hv
    · have q := List.mem_singleton.mp hu
      injection q with q1 q2
      rcases no with no | no
      · exact absurd (q2 ▸ hv) no
      · rw [q1]; exact no, t.done⟩
theorem Turn.put {es : List Edge} {gs ad0 ms0 ad ms : List Int} {j : Nat} {a b : Int} (t : Turn es gs ad0 ms0 j ad ms) (m0 : ms0 = gs ++ ad0) (h : es[j]? = some (a, b)) (hb : b ∈ ms) (ha : a ∉ ms) : Turn es gs ad0 ms0 (j + 1) (ad ++ [a]) (ms ++ [a]) where
  met :=
    { eq := by rw [t.met.eq, List.append_assoc]
      nd := nd_snoc t.met.nd fun z => ha (by rw [t.met.eq]; exact List.mem_append_right _ z)
      src := fun v hv => by
        rcases List.mem_append.mp hv with hv | hv
        · exact t.met.src v hv
        · rw [List.mem_singleton.mp hv]
          exact List.mem_map.mpr ⟨(a, b), List.mem_of_getElem? h, rfl⟩
      sound := fun v hv => by
        rcases List.mem_append.mp hv with hv | hv
        · exact t.met.sound v hv
        · rw [List.mem_singleton.mp hv]
          obtain ⟨g, hg, r⟩ := t.met.sound b hb
          exact ⟨g, hg, .step (List.mem_of_getElem? h) r⟩ }
  grow := by have := t.grow; rw [List.length_append]; omega
  same := fun e => by
    have := t.grow
    rw [List.length_append, List.length_singleton] at e
    omega
  none_ := fun e => by
    have := t.grow
    rw [List.length_append, List.length_singleton] at e
    omega
  done := fun c => by
    have e := t.done c
    have em : ms = ms0 := by rw [t.met.eq, m0, e]
    rw [em] at ha hb
    exact absurd (c a b (List.mem_of_getElem? h) hb) ha
/-- behind i turns -/
structure Turns (es : List Edge) (gs : List Int) (i : Nat) (ad ms : List Int) : Prop where
  met : Met es gs ad ms
  on : Closed es ms ∨ i ≤ ad.length
theorem Turns.next {es : List Edge} {gs ad0 ms0 ad ms : List Int} {i : Nat} (T : Turns es gs i ad0 ms0) (t : Turn es gs ad0 ms0 es.length ad ms) : Turns es gs (i + 1) ad ms where
  met := t.met
  on := by
    by_cases e : ad.length = ad0.length
    · refine .inl fun u v he hv => t.none_ e u v ?_ hv
      rw [List.take_length]
      exact he
    · have g := t.grow
      rcases T.on with c | c
      · exact absurd (congrArg List.length (t.done c)) e
      · exact .inr (by omega)
theorem Turns.end_ {es : List Edge} {gs ad ms : List Int} (T : Turns es gs es.length ad ms) : Closed es ms := by
  rcases T.on with c | c
  · exact c
  · exact T.met.full c
/-! ### other webs of a web -/
theorem Good.more {n e : Int} {es : List Edge} {xs xs' : List Int} (g : Good n es e xs) (sub : ∀ x ∈ xs, x ∈ xs') (rng : ∀ x ∈ xs', 0 ≤ x ∧ x < n) (len : xs'.length < 60) : Good n es e xs' :=
  { g with
    x0 := fun z => by
      obtain ⟨x, hx⟩ := List.exists_mem_of_ne_nil _ g.x0
      have := sub x hx
      rw [z] at this
      cases this
    xr := rng
    xf := len
    bwd := fun v h0 h1 => by
      obtain ⟨x, hx, r⟩ := g.bwd v h0 h1
      exact ⟨x, sub x hx, r⟩ }
theorem Good.edge {n e : Int} {es es' : List Edge} {xs : List Int} {q : Edge} (g : Good n es e xs) (hq : (0 ≤ q.1 ∧ q.1 < n) ∧ 0 ≤ q.2 ∧ q.2 < n) (no : q ∉ es) (p : es'.Perm (q :: es)) (len : es'.length < 60) : Good n es' e xs :=
  { g with
    few := len
    rng := fun r hr => by
      rcases List.mem_cons.mp (p.mem_iff.mp hr) with rfl | hr
      · exact ⟨hq.1.1, hq.1.2, hq.2.1, hq.2.2⟩
      · exact g.rng r hr
    nd := by rw [p.nodup_iff, List.nodup_cons]; exact ⟨no, g.nd⟩
    fwd := fun v h0 h1 => (g.fwd v h0 h1).more fun r hr => p.mem_iff.mpr (List.mem_cons_of_mem _ hr)
    bwd := fun v h0 h1 => by
      obtain ⟨x, hx, r⟩ := g.bwd v h0 h1
      exact ⟨x, hx, r.more fun r hr => p.mem_iff.mpr (List.mem_cons_of_mem _ hr)⟩ }
theorem Good.perm {n e : Int} {es es' : List Edge} {xs : List Int} (g : Good n es e xs) (p : es'.Perm es) : Good n es' e xs :=
  { g with
    few := by rw [p.length_eq]; exact g.few
    rng := fun r hr => g.rng r (p.mem_iff.mp hr)
    nd := p.nodup_iff.mpr g.nd
    fwd := fun v h0 h1 => (g.fwd v h0 h1).more fun r hr => p.mem_iff.mpr hr
    bwd := fun v h0 h1 => by
      obtain ⟨x, hx, r⟩ := g.bwd v h0 h1
      exact ⟨x, hx, r.more fun r hr => p.mem_iff.mpr hr⟩ }
theorem Good.longer {n e : Int} {es : List Edge} {xs : List Int} (g : Good n es e xs) (hn : n ≤ 23) (hf : es.length < 59) (hx : xs.length < 59) : Good (n + 1) (es ++ [(e, n)]) e (xs ++ [n]) where
  n1 := by have := g.n1; omega
  n2 := by omega
  few := by rw [List.length_append, List.length_singleton]; omega
  rng := fun r hr => by
    have h1 := g.n1
    have h2 := g.e0
    have h3 := g.e1
    rcases List.mem_append.mp hr with hr | hr
    · have := g.rng r hr
      omega
    · rw [List.mem_singleton.mp hr]
      show 0 ≤ e ∧ e < n + 1 ∧ 0 ≤ n ∧ n < n + 1
      omega
  nd := nd_snoc g.nd fun m => by
    have := (g.rng _ m).2.2.2
    simp at this
  e0 := g.e0
  e1 := by have := g.e1; omega
  x0 := by simp
  xr := fun x hx => by
    have h1 := g.n1
    rcases List.mem_append.mp hx with hx | hx
    · have := g.xr x hx
      omega
    · rw [List.mem_singleton.mp hx]
      omega
  xf := by rw [List.length_append, List.length_singleton]; omega
  fwd := fun v h0 h1 => by
    by_cases ev : v = n
    · rw [ev]
      exact .one (List.mem_append_right _ List.mem_cons_self)
    · exact (g.fwd v h0 (by omega)).more fun r hr => List.mem_append_left _ hr
  bwd := fun v h0 h1 => by
    by_cases ev : v = n
    · exact ⟨n, List.mem_append_right _ List.mem_cons_self, by rw [ev]; exact .refl n⟩
    · obtain ⟨x, hx, r⟩ := g.bwd v h0 (by omega)
      exact ⟨x, List.mem_append_left _ hx, r.more fun r hr => List.mem_append_left _ hr⟩
/-! ### all edges from a place and to it -/
def outE (n : Nat) (e : Int) : List Edge := (List.range n).map fun i => (e, Int.ofNat i)
def backE (n : Nat) (e : Int) : List Edge := (((List.range n).map Int.ofNat).filter fun v => !decide (v = e)).map fun v => (v, e)
theorem outE_next (n : Nat) (e : Int) : outE (n + 1) e = outE n e ++ [(e, (n : Int))] := by
  unfold outE
  rw [List.range_succ, List.map_append]
  rfl
theorem backE_next (n : Nat) (e : Int) : backE (n + 1) e = backE n e ++ if (n : Int) = e then [] else [((n : Int), e)] := by
  unfold backE
  rw [List.range_succ, List.map_append, List.filter_append, List.map_append]
  congr 1
  show List.map _ (List.filter _ [Int.ofNat n]) = _
  by_cases h : (n : Int) = e
  · rw [if_pos h, List.filter_cons_of_neg]
    · rfl
    · show ¬ (!decide ((n : Int) = e)) = true
      rw [decide_eq_true h]
      simp
  · rw [if_neg h, List.filter_cons_of_pos]
    · rfl
    · show (!decide ((n : Int) = e)) = true
      rw [decide_eq_false h]
      rfl
theorem outE_mem {n : Nat} {e : Int} {q : Edge} : q ∈ outE n e ↔ q.1 = e ∧ 0 ≤ q.2 ∧ q.2 < (n : Int) := by
  unfold outE
  rw [List.mem_map]
  constructor
  · rintro ⟨i, hi, rfl⟩
    have := List.mem_range.mp hi
    refine ⟨rfl, ?_, ?_⟩
    · show (0 : Int) ≤ (i : Int)
      omega
    · show (i : Int) < (n : Int)
      omega
  · rintro ⟨h1, h2, h3⟩
    refine ⟨q.2.toNat, List.mem_range.mpr (by omega), ?_⟩
    obtain ⟨a, b⟩ := q
    have e1 : a = e := h1
    have e2 : ((b.toNat : Nat) : Int) = b := Int.toNat_of_nonneg h2
    show (e, ((b.toNat : Nat) : Int)) = (a, b)
    rw [e1, e2]
theorem backE_mem {n : Nat} {e : Int} {q : Edge} : q ∈ backE n e ↔ q.2 = e ∧ q.1 ≠ e ∧ 0 ≤ q.1 ∧ q.1 < (n : Int) := by
  unfold backE
  rw [List.mem_map]
  constructor
  · rintro ⟨v, hv, rfl⟩
    obtain ⟨h1, h2⟩ := List.mem_filter.mp hv
    obtain ⟨i, hi, rfl⟩ := List.mem_map.mp h1
    have := List.mem_range.mp hi
    refine ⟨rfl, fun z => ?_, ?_, ?_⟩
    · rw [decide_eq_true z] at h2
      cases h2
    · show (0 : Int) ≤ (i : Int)
      omega
    · show (i : Int) < (n : Int)
      omega
  · rintro ⟨h1, h0, h2, h3⟩
    obtain ⟨a, b⟩ := q
    have e1 : b = e := h1
    have e2 : ((a.toNat : Nat) : Int) = a := Int.toNat_of_nonneg h2
    refine ⟨a, List.mem_filter.mpr ⟨List.mem_map.mpr ⟨a.toNat, List.mem_range.mpr (by have : a < (n : Int) := h3; omega), e2⟩, ?_⟩, by rw [e1]⟩
    rw [decide_eq_false h0]
    rfl
theorem nd_map {α β : Type} {f : α → β} (inj : ∀ a b, f a = f b → a = b) : ∀ {l : List α}, l.Nodup → (l.map f).Nodup
  | [], _ => List.nodup_nil
  | a :: r, h => by
    obtain ⟨h1, h2⟩ := List.nodup_cons.mp h
    rw [List.map_cons, List.nodup_cons]
    refine ⟨fun m => ?_, nd_map inj h2⟩
    obtain ⟨b, hb, e⟩ := List.mem_map.mp m
    exact h1 (inj _ _ e ▸ hb)
theorem Good.star {n : Nat} {e o : Int} (hn : n ≤ 24) (h0 : 0 ≤ e) (h1 : e < (n : Int)) (o0 : 0 ≤ o) (o1 : o < (n : Int)) : Good n (outE n e ++ backE n e) o [e] where
  n1 := by omega
  n2 := by omega
  few := by
    have l1 : (outE n e).length = n := by unfold outE; rw [List.length_map, List.length_range]
    have l2 : (backE n e).length ≤ n := by
      unfold backE
      rw [List.length_map]
      have h2 := List.length_filter_le (fun v => !decide (v = e)) ((List.range n).map Int.ofNat)
      rw [List.length_map, List.length_range] at h2
      exact h2
    rw [List.length_append]
    omega
  rng := fun q hq => by
    rcases List.mem_append.mp hq with hq | hq
    · obtain ⟨a1, a2, a3⟩ := outE_mem.mp hq
      rw [a1]
      exact ⟨h0, h1, a2, a3⟩
    · obtain ⟨a1, _, a2, a3⟩ := backE_mem.mp hq
      rw [a1]
      exact ⟨a2, a3, h0, h1⟩
  nd := by
    rw [List.nodup_append]
    have ndr : ((List.range n).map Int.ofNat).Nodup := nd_map (fun a b h => Int.ofNat.inj h) List.nodup_range
    refine ⟨nd_map (fun a b h => ?_) List.nodup_range, nd_map (fun a b h => (Prod.mk.inj h).1) (ndr.sublist List.filter_sublist), fun a ha b hb hab => ?_⟩
    · exact Int.ofNat.inj (Prod.mk.inj h).2
    · obtain ⟨a1, _⟩ := outE_mem.mp ha
      obtain ⟨_, b2, _⟩ := backE_mem.mp hb
      rw [← hab] at b2
      exact b2 a1
  e0 := o0
  e1 := o1
  x0 := by simp
  xr := fun x hx => by rw [List.mem_singleton.mp hx]; exact ⟨h0, h1⟩
  xf := by rw [List.length_singleton]; decide
  fwd := fun v v0 v1 => by
    have r1 : Reach (outE n e ++ backE n e) e v := .one (List.mem_append_left _ (outE_mem.mpr ⟨rfl, v0, v1⟩))
    by_cases h : o = e
    · rw [h]; exact r1
    · exact .step (List.mem_append_right _ (backE_mem.mpr ⟨rfl, h, o0, o1⟩)) r1
  bwd := fun v v0 v1 => by
    refine ⟨e, List.mem_cons_self, ?_⟩
    by_cases h : v = e
    · rw [h]; exact .refl e
    · exact .one (List.mem_append_right _ (backE_mem.mpr ⟨rfl, h, v0, v1⟩))
end Kx

namespace Kx
open PySem PySem.Spec PyProof.Rows L2
/-! ### C(e, ..) in a try, where __init__ may raise; raise X() of an own class without __init__ -/
section
variable {X : Cx} {CX : CXT} {k : Nat} {f C : Addr} {fd : FuncData} {ps : List Str} {sp : Sp} {E : L2.St → XK} {x : Str} {p pos : Pos} {e : Expr} {es : List Expr} {t : TA}
def tMakeE (C : Addr) (sp : Sp) (E : L2.St → XK) (t : TA) : TE := fun σ H Q => t σ H fun vs H1 => ∀ x dx, H1 x = none → H1 dx = none → dx ≠ x → sp (.ref x :: vs) (upd (upd H1 dx (.own x)) x (.ins C dx [])) (fun v H2 => v = .non ∧ Q (.ref x) H2) (E σ)
theorem pe_makeE (M : Mk X.K C f) (F : FnOk X.prog X.w X.K X.mg X.base CX k f fd ps sp) (hr : Room (k + 1) X.A) (hg : Gl X x) (hm : X.mg x = some (.ref C)) (hb : Binds X.K fd ps []) (hx : ∀ σ, PassesAt CX X σ (E σ)) (ha : PA X (e :: es) t)
    (hdb : (x == ("__debug__" : Str)) = false := by decide) (he : starEach (e :: es) X.env = (false, eval e X.env) :: starEach es X.env := by rfl) (hpl : (backTo pos (starEach es X.env)).any (·.1) = false := by rfl) :
    PE X (.Call (.Name x p) (e :: es) [] pos) (tMakeE C sp E t) := by
  refine ⟨fun pins s0 σ H Q I h => wpAny_Call_Name_kw (ld_glob I hg hm (PySem.W.callWith_K (h₀ := X.base) I.ok.mod.kin M.kp (thn (ha.run pos pins s0 σ H _ I h) fun us s ⟨vs, H1, I1, r, q⟩ => ⟨I1.kIn, ?_⟩) he hpl) hdb)⟩
  have new := q (s.heap.objs.size + 1) s.heap.objs.size (I1.hok.fresh (Nat.le_succ _)) (I1.hok.fresh (Nat.le_refl _)) (Nat.ne_of_lt (Nat.lt_succ_self _))
  have J := Inv.made (C := C) I1
  have rel : Vals (V.ref (s.heap.objs.size + 1) :: vs) (Value.ref (s.heap.objs.size + 1) :: us) := .cons rfl r
  have bound := hb _ (Value.ref (s.heap.objs.size + 1) :: us) J.kIn (by rw [List.append_nil, ← rel.length, F.len _ _ _ _ new])
  rw [List.append_nil] at bound
  refine wpAny_call (make_map (f := f) I1.kIn M.makes M.init (beq_iff_eq.mp M.fn) (codeAny_mono (F.run _ X.stack _ _ ⟨Value.ref (s.heap.objs.size + 1) :: us, []⟩ _ _ _ _ (hr.make C us []) (J.env0.make C us []) bound rel new) fun r2 s2 back => ?_))
  rcases r2 with er | fl
  · exact hx σ pins _ _ er s2 J back
  rcases fl with _ | _ | _ | u
  · exact False.elim back
  · exact False.elim back
  · exact False.elim back
  obtain ⟨v, H2, I2, rv, ev, q2⟩ := J.after back
  subst ev
  exact ⟨rv, ⟨V.ref (s.heap.objs.size + 1), H2, I2, rfl, q2⟩⟩
theorem pmk_own0 {bmB : List Value} {B newId initId : String} (F : ExcBaseFacts B newId initId bmB) (q : PySem.W.excIn X.K C bmB newId = true) (gC : X.mg x = some (.ref C)) (kC : PySem.W.keepIn X.K (.ref C) = true) (r : Raises X (.ref C)) (hg : Gl X x)
    (hdb : (x == ("__debug__" : Str)) = false := by decide) : PMk X (.Call (.Name x p) [] [] pos) (fun _ H Q => Q (.ref C) none H) := by
  intro pins s σ H Q I h
  refine wpAny_Call_Name_kw (ld_glob I hg gC (PySem.W.callWith_K0 I.kIn kC ?_) hdb)
  obtain ⟨_, _, _, _, _, _, _, _, _, _, _, _, _, _, _, _, _, hC, hN, hni, T⟩ := exc_obj I.kIn q
  exact wpAny_call_exc_subT F T hC hN hni (fun h' e made => mk_of I made r h (I.hok.gone made.new)) (Nat.zero_le _)
end
end Kx

namespace Kx
open PySem PySem.Spec PyProof.Rows L2
/-! ### isinstance(e, C), e the exception that the suite holds, with or without fields -/
def rIsD (K : PySem.W.Frag) (a : Addr) (cls : Value) (d : Option Addr) (D : Addr) : List V → Hp → VK → Prop := fun xs H Q => ∃ (c : V) (cv : Value) (b : Bool), xs = [.ref a, c] ∧ cls = .ref D ∧ (d = none ∨ ∃ dd fs, d = some dd ∧ H dd = some (.xd fs)) ∧ (∀ u, RelV c u → u = cv) ∧ PySem.W.kitOne K (.ref D) cv = some b ∧ Q (.bl b) H
theorem call_isD {X : Cx} {a D : Addr} {cls : Value} {d : Option Addr} {oe : Obj} {pn : List (Addr × Obj)} (C : ExcC X.K D) (hz : Zc cls d oe) (hf : ∃ vs, oe.data = .fields vs) : CallR (X.suite a ((a, oe) :: pn)) (.builtin "isinstance") (rIsD X.K a cls d D) := by
  intro pins s σ H xs us Q I r h
  obtain ⟨c, cv, b, rfl, ec, hd, hcv, e, q⟩ := h
  cases r with
  | cons rx rr =>
    cases rr with
    | cons rt rr =>
      cases rr
      cases rx
      have ev := hcv _ rt
      subst ev
      subst ec
      obtain ⟨hget, _⟩ := I.pin (a, oe) (List.mem_append.mpr (.inl List.mem_cons_self))
      obtain ⟨vs, hv⟩ := hf
      have isC : (PySem.W.clsIn X.K D).isSome = true := by
        obtain ⟨cd, hc, _⟩ := PySem.W.any_some C.hd
        rw [hc]
        rfl
      rcases hd with dn | ⟨dd, fs, ed, ea⟩
      · subst dn
        have J : PySem.W.InstAt s.heap a oe D none := by
          obtain ⟨oc, od, oda, osl⟩ := oe
          obtain ⟨h1, h2⟩ := hz
          dsimp only at h1 h2 hv
          subst h1 h2 hv
          exact ⟨hget, rfl, rfl, trivial⟩
        exact PySem.W.kia_one (PySem.W.handS_kitx_exc C.hg C.hk C.hs C.hd C.ha C.hn C.ht C.hm) I.kIn J e (fun z => nomatch z) fun tk => ⟨.bl b, H, I.kept (t' := tk) fun _ _ z => z, rfl, q⟩
      · subst ed
        have hx : ObjOk X.prog X.w H s.heap dd (.xd fs) := I.hok dd _ ea
        obtain ⟨mA, hns, hr⟩ := hx
        obtain ⟨od, ho, hl⟩ := lookIn_ns hns
        have J : PySem.W.InstAt s.heap a oe D (some od) := ⟨hget, hz.1, by unfold PySem.W.notCls; rw [hv] <;> rfl, by rw [hz.2]; exact ho⟩
        exact PySem.W.kia_one (PySem.W.kitx_exc isC C.hg C.hk C.hs C.ha C.hn C.ht C.hm) I.kIn J e (fun z => nomatch z) fun tk => ⟨.bl b, H, I.kept (t' := tk) fun _ _ z => z, rfl, q⟩
end Kx

namespace Kx
open PySem PySem.Spec PyProof.Rows L2
/-! ### signs over objects of an own class: a <= b, a | b, x in a, len(a), a[i], if a -/
section
variable {X : Cx} {pins : List (Addr × Obj)} {σ : L2.St} {H : Hp} {s : Shared} {CX : CXT} {n : Nat} {C f : Addr} {fd : FuncData} {ps : List Str} {sp : Sp} {E : XK}
/-- a def is called by its address, where the code is as far away as A says -/
theorem own_callA (F : FnOk X.prog X.w X.K X.mg X.base CX n f fd ps sp) {A : Around} (hr : Room n A) (he : Env0 X.prog X.w X.K X.mg X.base A X.stack s H) (hb : Binds X.K fd ps []) (hx : Passes CX X E) {xs : List V} {us : List Value} {Q : VK}
    (I : Inv X pins σ H s) (rv : Vals xs us) (q : sp xs H Q E) : wpAny (model X.prog X.w) A (call (.ref f) us) (EP X pins σ Q) X.xe s := by
  have same := F.len _ _ _ _ q
  have bound := hb s us I.kIn (by rw [← same]; simpa using (rv.length).symm)
  rw [List.append_nil] at bound
  refine wpAny_call (codeAny_mono (F.run A X.stack s H ⟨us, []⟩ us xs _ E hr he (by simpa using bound) rv q) fun r s' back => ?_)
  rcases r with e | fl
  · exact hx pins σ H s e s' I back
  · rcases fl with _ | _ | _ | w
    all_goals first
      | exact False.elim back
      | exact I.after back
/-- an object of an own class, and how it looks in memory -/
theorem inst_look (I : Inv X pins σ H s) {a dx : Addr} {fs : List (Str × V)} (ha : H a = some (.ins C dx fs)) : ∃ ox od, PySem.W.InstAt s.heap a ox C od := by
  obtain ⟨_, J, _⟩ := ins_get I.hok ha
  obtain ⟨_, J, _⟩ := J.look
  exact ⟨_, _, J⟩
/-- a method of the class that the machine calls by itself -/
structure Own1 (K : PySem.W.Frag) (C f : Addr) (name : Str) : Prop where
  at_ : PySem.W.findIn K (.ref C) name = some (some (.ref f))
  fn : PySem.W.isFn K (.ref f) = true
/-- both sides are objects of C: what the method says -/
def rTwo (C : Addr) (sp : Sp) (E : XK) : R2 := fun x y H Q => ∃ a b dx dy fs gs, x = .ref a ∧ y = .ref b ∧ H a = some (.ins C dx fs) ∧ H b = some (.ins C dy gs) ∧ sp [.ref a, .ref b] H Q E
theorem op_cmpOwn {op : CmpOp} (F : FnOk X.prog X.w X.K X.mg X.base CX n f fd ps sp) (hr : Room n X.A) (m : Own1 X.K C f (cmpInfo op).2.1) (hb : Binds X.K fd ps []) (hx : Passes CX X E)
    (hop : ∀ u v, compareOp op u v = richCompare op u v := by intro _ _; rfl) : OpR X (compareOp op) (rTwo C sp E) := by
  intro pins s σ H x y v u Q I rx ry d
  obtain ⟨a, b, dx, dy, fs, gs, rfl, rfl, ha, hb', q⟩ := d
  cases rx
  cases ry
  obtain ⟨_, _, J⟩ := inst_look I ha
  obtain ⟨_, _, J'⟩ := inst_look I hb'
  obtain ⟨m0, hF⟩ := I.fr
  rw [hop]
  refine PySem.W.cmp_K (tb := .ref C) hr.units0 hF I.ok.mod.kin J J'.type (by simp [PySem.W.notFirst]) m.at_ m.fn ?_
  refine wpAny_mono (own_callA F hr I.env0 hb hx I (xs := [.ref a, .ref b]) (.cons rfl (.cons rfl .nil)) q) (fun r s' e => ?_) fun _ _ e => e
  obtain ⟨z, H', I', rz, qz⟩ := e
  exact SlX.cmpback rz ⟨z, H', I', rz, qz⟩
theorem op_binOwn {op : Operator} (F : FnOk X.prog X.w X.K X.mg X.base CX n f fd ps sp) (hr : Room n X.A) (hc : PySem.W.selfFirst X.K C = true) (m : Own1 X.K C f (PySem.dunder op.info.2)) (hb : Binds X.K fd ps []) (hx : Passes CX X E) :
    OpR X (binaryOp op) (rTwo C sp E) := by
  intro pins s σ H x y v u Q I rx ry d
  obtain ⟨a, b, dx, dy, fs, gs, rfl, rfl, ha, hb', q⟩ := d
  cases rx
  cases ry
  obtain ⟨_, _, J⟩ := inst_look I ha
  obtain ⟨_, _, J'⟩ := inst_look I hb'
  obtain ⟨m0, hF⟩ := I.fr
  refine PySem.W.binop_K hF I.ok.mod.kin J J'.type hc m.at_ m.fn ?_
  refine wpAny_mono (own_callA F hr I.env0 hb hx I (xs := [.ref a, .ref b]) (.cons rfl (.cons rfl .nil)) q) (fun r s' e => ?_) fun _ _ e => e
  obtain ⟨z, H', I', rz, qz⟩ := e
  exact SlX.cmpback rz ⟨z, H', I', rz, qz⟩
/-- x in o, x not in o: the method answers with a truth -/
def rInOwn (C : Addr) (sp : Sp) (E : XK) (neg : Bool) : R2 := fun x y H Q => ∃ b dy gs, y = .ref b ∧ H b = some (.ins C dy gs) ∧ sp [.ref b, x] H (fun r H' => ∃ k : Bool, r = .bl k ∧ Q (.bl (if neg = true then !k else k)) H') E
theorem op_inOwn (F : FnOk X.prog X.w X.K X.mg X.base CX n f fd ps sp) (hr : Room n X.A) (m : Own1 X.K C f "__contains__") (hb : Binds X.K fd ps []) (hx : Passes CX X E) : OpR X (compareOp .In) (rInOwn C sp E false) := by
  intro pins s σ H x y v u Q I rx ry d
  obtain ⟨b, dy, gs, rfl, hb', q⟩ := d
  cases ry
  obtain ⟨_, _, J⟩ := inst_look I hb'
  obtain ⟨m0, hF⟩ := I.fr
  refine PySem.W.in_K hF I.ok.mod.kin J m.at_ m.fn ?_
  refine wpAny_mono (own_callA F hr I.env0 hb hx I (xs := [.ref b, x]) (.cons rfl (.cons rx .nil)) q) (fun r s' e => ?_) fun _ _ e => e
  obtain ⟨z, H', I', rz, k, rfl, qz⟩ := e
  cases rz
  exact wpAny_truthy_bool ⟨.bl _, H', I', rfl, qz⟩
theorem op_notInOwn (F : FnOk X.prog X.w X.K X.mg X.base CX n f fd ps sp) (hr : Room n X.A) (m : Own1 X.K C f "__contains__") (hb : Binds X.K fd ps []) (hx : Passes CX X E) : OpR X (compareOp .NotIn) (rInOwn C sp E true) := by
  intro pins s σ H x y v u Q I rx ry d
  obtain ⟨b, dy, gs, rfl, hb', q⟩ := d
  cases ry
  obtain ⟨_, _, J⟩ := inst_look I hb'
  obtain ⟨m0, hF⟩ := I.fr
  refine PySem.W.notIn_K hF I.ok.mod.kin J m.at_ m.fn ?_
  refine wpAny_mono (own_callA F hr I.env0 hb hx I (xs := [.ref b, x]) (.cons rfl (.cons rx .nil)) q) (fun r s' e => ?_) fun _ _ e => e
  obtain ⟨z, H', I', rz, k, rfl, qz⟩ := e
  cases rz
  exact wpAny_truthy_bool ⟨.bl _, H', I', rfl, qz⟩
/-- len(o) -/
def rLenOwn (C : Addr) (sp : Sp) (E : XK) : List V → Hp → VK → Prop := fun xs H Q => ∃ a dx fs, xs = [.ref a] ∧ H a = some (.ins C dx fs) ∧ sp [.ref a] H (fun r H' => ∃ i : Int, r = .int i ∧ (0 ≤ i ∧ i < 2 ^ 63) ∧ Q (.int i) H') E
theorem call_lenOwn (F : FnOk X.prog X.w X.K X.mg X.base CX n f fd ps sp) (hr : Room (n + 1) X.A) (m : Own1 X.K C f "__len__") (hb : Binds X.K fd ps []) (hx : Passes CX X E) : CallR X (.builtin "len") (rLenOwn C sp E) := by
  intro pins s σ H xs us Q I rv h
  obtain ⟨a, dx, fs, rfl, ha, q⟩ := h
  obtain ⟨u, rfl, ru⟩ := rv.one
  cases ru
  obtain ⟨_, _, J⟩ := inst_look I ha
  obtain ⟨m0, hF⟩ := I.fr
  refine PySem.W.len_K hF I.ok.mod.kin J m.at_ m.fn ?_
  refine wpAny_mono (own_callA F hr.in1 I.env0.in1 hb hx I (xs := [.ref a]) (.cons rfl .nil) q) (fun r s' e => ?_) fun _ _ e => e
  obtain ⟨z, H', I', rz, i, rfl, hi, qz⟩ := e
  obtain ⟨t, rfl⟩ := rz
  exact ⟨hi, .int i, H', I'.tok _, ⟨_, rfl⟩, qz⟩
/-- if o -/
def rTruOwn (C : Addr) (sp : Sp) (E : XK) : V → Hp → (Bool → Hp → Prop) → Prop := fun x H Q => ∃ a dx fs, x = .ref a ∧ H a = some (.ins C dx fs) ∧ sp [.ref a] H (fun r H' => ∃ k : Bool, r = .bl k ∧ Q k H') E
theorem tru_own (F : FnOk X.prog X.w X.K X.mg X.base CX n f fd ps sp) (hr : Room n X.A) (m : Own1 X.K C f "__bool__") (hb : Binds X.K fd ps []) (hx : Passes CX X E) : TruR X (rTruOwn C sp E) := by
  intro pins s σ H x v Q I rx h
  obtain ⟨a, dx, fs, rfl, ha, q⟩ := h
  cases rx
  obtain ⟨_, _, J⟩ := inst_look I ha
  obtain ⟨m0, hF⟩ := I.fr
  refine PySem.W.truthy_K hF I.ok.mod.kin J m.at_ m.fn ?_
  refine wpAny_mono (own_callA F hr I.env0 hb hx I (xs := [.ref a]) (.cons rfl .nil) q) (fun r s' e => ?_) fun _ _ e => e
  obtain ⟨z, H', I', rz, k, rfl, qz⟩ := e
  cases rz
  exact ⟨H', I', qz⟩
/-- o[i] -/
def rIxOwn (C : Addr) (sp : Sp) (E : XK) : R2 := fun x y H Q => ∃ a dx fs, x = .ref a ∧ H a = some (.ins C dx fs) ∧ sp [.ref a, y] H Q E
theorem pe_ixOwn {a b : Expr} {ta tb : TE} {pos : Pos} (F : FnOk X.prog X.w X.K X.mg X.base CX n f fd ps sp) (hr : Room (n + 1) X.A) (m : Own1 X.K C f "__getitem__") (hf : PySem.W.fnIn X.K f = true) (hb : Binds X.K fd ps []) (hx : Passes CX X E)
    (ea : PE X a ta) (eb : PE X b tb) (hs : ∀ x i, subscripted b true (.ref x) i = runValue (.builtin "lifetime.subscript" ⟨[.ref x, i], []⟩) := by intro _ _; with_unfolding_all rfl) : PE X (.Subscript a b pos) (tOp (rIxOwn C sp E) ta tb) := by
  refine ⟨fun pins s σ H Q I h => Subscript_ (binT ea eb I h fun v u s2 x y H2 I2 rx ry d => ?_)⟩
  obtain ⟨c, dx, fs, rfl, ha, q⟩ := d
  cases rx
  obtain ⟨_, _, J⟩ := inst_look I2 ha
  obtain ⟨m0, hF⟩ := I2.fr
  refine PySem.W.sub_K hF I2.ok.mod.kin J m.at_ hf m.fn ?_ (hs _ _)
  exact own_callA F hr.in1 I2.env0.in1 hb hx I2 (xs := [.ref c, y]) (.cons rfl (.cons ry .nil)) q
end
end Kx

namespace Kx
open PySem PySem.Spec PyProof.Rows L2
/-! ### a def whose promise knows how large the memory was when it was called -/
abbrev SpN := Nat → Sp
structure FnN (P : Program) (w : World) (K : PySem.W.Frag) (mg : Str → Option Value) (base : Heap) (CX : CXT) (k : Nat) (f : Addr) (fd : FuncData) (ps : List Str) (sp : SpN) : Prop where
  len : ∀ n vs H Q E, sp n vs H Q E → vs.length = ps.length
  run : ∀ {A : Around} {outer : List Env} {s : Shared} {H : Hp} {args : Args} {us : List Value} {vs : List V} {Q : VK} {E : XK}, Room k A → Env0 P w K mg base A outer s H → BindsTo s fd args (ps.zip us) → Vals vs us →
    sp s.heap.objs.size vs H Q E → codeAny (model P w) A (.call (.ref f) args) (CR CX outer P w H s Q E) s
theorem FnN.of {P : Program} {w : World} {K : PySem.W.Frag} {mg : Str → Option Value} {base : Heap} {CX : CXT} {k : Nat} {f : Addr} {fd : FuncData} {ps N : List Str} {sp : SpN} {x qual : Str} {params : Arguments} {body : List Stmt} {scope : Scope}
    {dvs : List V} {kws : List (Str × V)} (F : FunD K x qual params body scope dvs kws f fd) (S : FnScope N ps scope) (len : ∀ n vs H Q E, sp n vs H Q E → vs.length = ps.length)
    (hbody : ∀ (cdv : Value) (A : Around) (outer : List Env) (s : Shared) (H : Hp) (vs : List V) (Q : VK) (E : XK), Room k (A.deeper (envOfC qual scope s.heap.objs.size f cdv)) → sp s.heap.objs.size vs H Q E →
      ∃ t, PSs (cxOf CX P w K mg base N qual scope f cdv A outer s H E) body t ∧ t { nx := fun _ H' => Q .non H', rt := Q } (start N vs) H) : FnN P w K mg base CX (k + 1) f fd ps sp := by
  obtain ⟨oc, od, dV, kV, doc, pm, an, cdv, ct, osl, hfd, here, code, _, _⟩ := F.ex
  subst hfd
  refine ⟨len, ?_⟩
  intro A outer s H args us vs Q E room env bound rel q
  have up : ∀ b o, base.get? b = some o → s.heap.get? b = some o := fun b o e => (env.bs b o e).1
  have inK : K.In s.heap := env.mod.kin.keeps up
  obtain ⟨t, ht, hq⟩ := hbody cdv A outer s H vs Q E (room.deeper _) q
  have pk : ∀ y ∈ ps.zip us, scope.names.lookup y.1 = some .local ∨ (scope.names.lookup y.1 = some .cell ∧ ((cellsFrom (s.heap.objs.size + 1) scope.names []).lookup y.1).isSome = true) := by
    intro y hy
    rcases S.par y.1 (List.of_mem_zip (a := y.1) (b := y.2) hy).1 with z | z
    · exact .inl z
    · exact .inr ⟨z, PySem.W.cellsFrom_some _ _ _ (.inl z)⟩
  refine codeAny_call_function room.depth (inK _ _ here) rfl S.co S.gen rfl (PySem.W.codeRec_of inK code) (bound _ _ _ _ (wpAny_newFunctionEnv_cells S.kind pk ?_))
  rintro _ rfl s1 newEnv
  refine ⟨(env.mod.nolimit.keeps up).keeps newEnv.toInCall.keep, codeAny_func (wpAny_mono (ht.run [] s1 (start N vs) H _ (inv_start S room.hd env (len _ _ _ _ _ q) rel newEnv) hq) ?_ fun _ _ z => z)⟩
  intro fl s' hs
  rcases fl with _ | _ | _ | u
  · obtain ⟨_, H', J, q'⟩ := hs
    exact ⟨V.non, H', J.os, J.bare, J.base, J.hok, rfl, q'⟩
  · exact hs.elim fun _ z => z.elim fun _ z => z.2.elim
  · exact hs.elim fun _ z => z.elim fun _ z => z.2.elim
  · obtain ⟨v, _, H', J, rv, q'⟩ := hs
    exact ⟨v, H', J.os, J.bare, J.base, J.hok, rv, q'⟩
/-! ### iter(t), t a tuple -/
def ItTO (l it : Addr) (i : Nat) : HO := .ext fun h => h.IsTupleIter it l i
theorem itTO_ok {P : Program} {w : World} {H : Hp} {h : Heap} {l it : Addr} {i : Nat} (e : h.IsTupleIter it l i) : ObjOk P w H h it (ItTO l it i) := by
  have ⟨o, ho, r⟩ := e
  exact ⟨e, ⟨o, ho⟩, fun h1 h2 p k => by
    obtain ⟨o', ho', r'⟩ := (show h1.IsTupleIter it l i from p)
    exact ⟨o', k o' ho', r'⟩⟩
def rIterT (K : PySem.W.Frag) (n : Nat) : List V → Hp → VK → Prop := fun xs H Q => ∃ (l : Addr) (zs : List V), xs = [.ref l] ∧ SqT K H l zs ∧ ∀ it, H it = none → n ≤ it → Q (.ref it) (upd H it (ItTO l it 0))
section
variable {X : Cx}
theorem call_iterT : CallR X (.builtin "iter") (rIterT X.K X.s_0.heap.objs.size) := by
  intro pins s σ H xs us Q I r h
  obtain ⟨l, zs, rfl, hq, q⟩ := h
  obtain ⟨u, rfl, ru⟩ := r.one
  cases ru
  obtain ⟨its, rv, pl, hz⟩ := I.tuple hq
  have iterArgs : someArgs "iter" 1 2 ⟨[Value.ref l], []⟩ = pure [Value.ref l] := by first | rfl | kernel_rfl!
  refine Calls.call_function_entry (by decide +kernel) (by decide +kernel) PySem.W.kdk_entry_iter (PySem.W.kdk_args_iter _) (show wpAny _ _ (Builtin.«iter» _) _ _ _ from ?_)
  unfold Builtin.«iter»
  refine wpAny_bind (wpAny_of_eq iterArgs (wpAny_bind (wpAny_pyIter_tuple (show s.heap.IsTuple l its.toArray from pl) (wpAny_pure ⟨_, rfl, ?_⟩))))
  exact ⟨.ref s.heap.objs.size, _, I.laid (t' := s.toks) (fun b u e => Heap.get?_push_of_some _ e) (Nat.le_refl _) (itTO_ok ⟨_, Heap.get?_push_size _ rfl, rfl, rfl⟩), rfl, q _ (I.hok.fresh (Nat.le_refl _)) I.sz⟩
end
/-! ### for x in o, where the class says `def __iter__(self): return iter(self.t)`, t a tuple -/
def spIterN (C : Addr) (fld : Str) (K : PySem.W.Frag) : SpN := fun n vs H Q _ => ∃ (a dx l : Addr) (fs : List (Str × V)) (zs : List V), vs = [.ref a] ∧ H a = some (.ins C dx fs) ∧ fs.lookup fld = some (.ref l) ∧ SqT K H l zs ∧ ∀ it, H it = none → n ≤ it → Q (.ref it) (upd H it (ItTO l it 0))
def iOwn (K : PySem.W.Frag) (C : Addr) (fld : Str) (tl : TE) : TI := fun σ H R => tl σ H fun x H1 => ∃ (a dx l : Addr) (fs : List (Str × V)) (zs : List V), x = .ref a ∧ H1 a = some (.ins C dx fs) ∧ fs.lookup fld = some (.ref l) ∧ SqT K H1 l zs ∧ R (Itt K l) H1
section
variable {X : Cx} {tg : Expr} {n : Nat} {C f : Addr} {fd : FuncData} {ps : List Str} {fld : Str}
theorem pi_own {e : Expr} {tl : TE} (he : PE X e tl) (F : FnN X.prog X.w X.K X.mg X.base CX0 n f fd ps (spIterN C fld X.K)) (hr : Room n X.A) (m : Own1 X.K C f "__iter__") (hb : Binds X.K fd ps []) : PI X tg e (iOwn X.K C fld tl) := by
  refine ⟨fun pins s σ H R I h => ?_⟩
  refine thn (he.run pins s σ H _ I h) fun v s1 ⟨x, H1, I1, r1, a, dx, l, fs, zs, e1, ha, hl, hz, q⟩ => ?_
  subst e1
  cases r1
  obtain ⟨_, _, J⟩ := inst_look I1 ha
  obtain ⟨m0, hF⟩ := I1.fr
  refine PySem.W.owit_iter hF I1.ok.mod.kin J m.at_ m.fn ?_
  have q0 : spIterN C fld X.K s1.heap.objs.size [.ref a] H1 (fun v H' => ∃ it, v = .ref it ∧ s1.heap.objs.size ≤ it ∧ H1 it = none ∧ H' = upd H1 it (ItTO l it 0)) (fun _ _ _ => False) := by
    refine ⟨a, dx, l, fs, zs, rfl, ha, hl, hz, fun it h0 hn => ⟨it, rfl, hn, h0, rfl⟩⟩
  have same := F.len _ _ _ _ _ q0
  have bound := hb s1 [.ref a] I1.kIn (by rw [← same]; rfl)
  rw [List.append_nil] at bound
  refine wpAny_call (codeAny_mono (F.run (vs := [.ref a]) (us := [.ref a]) (args := ⟨[.ref a], []⟩) hr I1.env0 bound (.cons rfl .nil) q0) fun r s2 back => ?_)
  rcases r with er | fl
  · exact False.elim back
  rcases fl with _ | _ | _ | u
  · exact False.elim back
  · exact False.elim back
  · exact False.elim back
  obtain ⟨v, H2, I2, rv, it, e2, hn, h0, e3⟩ := I1.after back
  subst e2
  cases rv
  rw [e3] at I2
  have there : (upd H1 it (ItTO l it 0)) it = some (ItTO l it 0) := upd_same
  have st : s2.heap.IsTupleIter it l 0 := (I2.hok it _ there).1
  have young : X.s_0.heap.objs.size ≤ it := Nat.le_trans I1.sz hn
  have there' := there
  unfold ItTO at there'
  have I3 := ItX.inv_drop I2 (a := it) (φ := fun h => h.IsTupleIter it l 0) there
  have fp := ItX.inv_fp I2 there young
  rw [ItX.dropH_upd h0] at I3 fp
  unfold PySem.W.OwitIt
  refine wpAny_specialOf (name := Str.ofString "__next__") st.typeIs slot_tupleiter_next.lookup ?_
  refine ⟨it, [it], _, _, H1, rfl, I3, turn_tuple l it, st, fun b hb => ?_, q⟩
  have e : b = it := by simpa using hb
  rw [e]
  exact fp
end
end Kx

namespace Kx
open PySem PySem.Spec PyProof.Rows L2
/-! ### list(o), where the class says `def __iter__(self): return iter(self.t)` and has __len__ -/
section
variable {X : Cx} {pins : List (Addr × Obj)} {σ : L2.St} {H : Hp} {s : Shared} {n : Nat} {C fi fl a q : Addr} {fdI fdL : FuncData} {psI psL : List Str} {fld : Str} {spL : Sp} {A1 : Around}
theorem sqt_set {K : PySem.W.Frag} {H : Hp} {a c : Addr} {xs ys : List V} {o : HO} (h : SqT K H a xs) (hc : H c = some (.lst ys)) : SqT K (upd H c o) a xs := by
  rcases h with (h | ⟨q, h⟩) | h
  · exact .inl (.inl (by rw [upd_ne (ne_of h hc (by intro z; cases z))]; exact h))
  · exact .inl (.inr ⟨q, by rw [upd_ne (ne_of h hc (by intro z; cases z))]; exact h⟩)
  · exact .inr h
/-- a def that lets nothing out is called -/
theorem own_call0 (F : FnOk X.prog X.w X.K X.mg X.base CX0 n fl fdL psL spL) {A : Around} {E : Value → Shared → Prop} (hr : Room n A) (he : Env0 X.prog X.w X.K X.mg X.base A X.stack s H) (hb : Binds X.K fdL psL []) {xs : List V} {us : List Value} {Q : VK}
    (I : Inv X pins σ H s) (rv : Vals xs us) (q : spL xs H Q (fun _ _ _ => False)) : wpAny (model X.prog X.w) A (call (.ref fl) us) (EP X pins σ Q) E s := by
  have same := F.len _ _ _ _ q
  have bound := hb s us I.kIn (by rw [← same]; simpa using (rv.length).symm)
  rw [List.append_nil] at bound
  refine wpAny_call (codeAny_mono (F.run A X.stack s H ⟨us, []⟩ us xs _ _ hr he (by simpa using bound) rv q) fun r s' back => ?_)
  rcases r with e | fl
  · exact False.elim back
  · rcases fl with _ | _ | _ | w
    all_goals first
      | exact False.elim back
      | exact I.after back
theorem env_sub (sb : Sub X n A1) (I : Inv X pins σ H s) : Env0 X.prog X.w X.K X.mg X.base A1 X.stack s H := by
  have e := I.env0
  exact ⟨by rw [sb.fr]; exact e.frames, e.mod, e.bs, e.bsz, e.funs, e.frf, e.hok, e.bare⟩
theorem tup_loop {l it q : Addr} {zs : List V} {Rs : Result → Shared → Prop} {Hd : Hp} (hA : A1.in1.handled = none) (hz : SqT X.K Hd l zs) (hq : Hd q = some (.lst [])) (few : zs.length ≤ sizeLine) (done : ∀ s', Inv X pins σ (upd Hd q (.lst zs)) s' → Rs (.ok (.ret .none)) s') (hni : it ≠ q) :
    ∀ (m i : Nat) (s : Shared), m = zs.length - i → i ≤ zs.length → Inv X pins σ (upd Hd q (.lst (zs.take i))) s → s.heap.IsTupleIter it l i → FpOk X pins Hd it →
    codeAny (model X.prog X.w) A1 (.builtin "list.extend.loop" ⟨[.ref q, .ref it, .none], []⟩) Rs s := by
  intro m
  induction m with
  | zero =>
    intro i s em hi I st fp
    have ei : i = zs.length := by omega
    subst ei
    rw [List.take_length] at I
    refine codeAny_builtin PySem.F.entry_extend_loop ?_
    rw [Around.under_plainId PySem.F.plain_extend_loop _]
    show wpAny _ A1.in1 (pyNext (.ref it) >>= _) _ _ s
    obtain ⟨its, rv, p, hzs⟩ := I.tuple (sqt_set hz hq)
    have hl := rv.length
    obtain ⟨f0, f1, f2, f3, f4, f5⟩ := fp
    have f0' : (upd Hd q (.lst zs)) it = none := by rw [upd_ne hni]; exact f0
    refine wpAny_bind (wpAny_pyNext_tuple_end hA st (show s.heap.IsTuple l its.toArray from p) (by simp; omega) fun h' eb => ?_)
    exact wpAny_pure (done _ (I.turned (t' := s.toks) (fun b o hb e => eb b o hb e) f0' f1 f3 f4 f5))
  | succ m ih =>
    intro i s em hi I st fp
    have lt : i < zs.length := by omega
    have ex : zs[i]? = some zs[i] := List.getElem?_eq_getElem lt
    refine codeAny_builtin PySem.F.entry_extend_loop ?_
    rw [Around.under_plainId PySem.F.plain_extend_loop _]
    show wpAny _ A1.in1 (pyNext (.ref it) >>= _) _ _ s
    obtain ⟨its, rv, p, hzs⟩ := I.tuple (sqt_set hz hq)
    obtain ⟨u, hu, ru⟩ := rv.get ex
    have fp' := fp
    obtain ⟨f0, f1, f2, f3, f4, f5⟩ := fp
    have f0' : (upd Hd q (.lst (zs.take i))) it = none := by rw [upd_ne hni]; exact f0
    refine wpAny_bind (wpAny_pyNext_tuple_item st (show s.heap.IsTuple l its.toArray from p) (x := u) (by simpa using hu) fun h' st' sb => ?_)
    have I1 : Inv X pins σ (upd Hd q (.lst (zs.take i))) { s with heap := h' } := I.turned (t' := s.toks) (fun b o hb e => (sb.2 b hb).trans e) f0' f1 f3 f4 f5
    show wpAny _ A1.in1 (updateSeq q (·.push u) >>= _) _ _ _
    obtain ⟨z, its2, k, r2, hl2, e2⟩ := I1.lstM upd_same
    have lt2 : its2.length = i := by
      have := r2.length
      rw [List.length_take] at this
      omega
    refine wpAny_bind (wpAny_updateSeq e2 rfl (wpAny_pure ⟨plainId_quiet PySem.F.plain_extend_loop _, ?_⟩) (by rw [List.size_toArray]; omega) (by show (its2.toArray.push u).size ≤ sizeLine + 1; rw [Array.size_push, List.size_toArray]; omega))
    have I2 := I1.lset (f := (·.push u)) (its' := its2 ++ [u]) (ys := zs.take i ++ [zs[i]]) (t' := s.toks) upd_same e2 (by simp) (r2.append (.cons ru .nil)) (by rw [List.length_append, List.length_singleton, List.length_take]; omega)
    rw [upd_upd, show zs.take i ++ [zs[i]] = zs.take (i + 1) by rw [List.take_succ, ex]; rfl] at I2
    refine ih (i + 1) _ (by omega) (by omega) I2 ?_ fp'
    exact st'.at fun o e => (Heap.get?_update_other h' (Obj.mapSeq _) (Ne.symm hni)).trans e
/-- the length that o tells -/
theorem own_hintL {Q : Bool → Shared → Prop} {E : Value → Shared → Prop} {dx : Addr} {fs : List (Str × V)} {k : Nat} (sb : Sub X n A1.in1) (m : Own1 X.K C fl "__len__") (FL : FnOk X.prog X.w X.K X.mg X.base CX0 n fl fdL psL spL) (bL : Binds X.K fdL psL [])
    (I : Inv X pins σ H s) (ha : H a = some (.ins C dx fs)) (hk : k ≤ sizeLine) (q : spL [.ref a] H (fun r H' => r = .int (k : Int) ∧ Same H H') (fun _ _ _ => False)) (h : ∀ H' s' b, Same H H' → Inv X pins σ H' s' → Q b s') :
    wpAny (model X.prog X.w) A1 (Builtin.List.listLengthHint (.ref a)) Q E s := by
  obtain ⟨_, _, J⟩ := inst_look I ha
  obtain ⟨m0, hF⟩ := I.fr
  unfold Builtin.List.listLengthHint
  refine wpAny_bind (wpAny_bind (J.type.here ((PySem.W.looks_findIn I.kIn m.at_).here ?_)))
  refine PySem.W.KFB.if_not rfl ?_
  refine PySem.W.KFB.if_so rfl ?_
  refine wpAny_bind (wpAny_rule ?_)
  refine wpAny_bind (wpAny_attempt ?_)
  refine PySem.W.len_K hF I.ok.mod.kin J m.at_ m.fn ?_
  refine wpAny_mono (own_call0 FL sb.room (env_sub sb I) bL I (xs := [.ref a]) (.cons rfl .nil) q) (fun r s' e => ?_) fun _ _ z => z
  · obtain ⟨z, H', I', rz, rfl, sm⟩ := e
    obtain ⟨t, rfl⟩ := rz
    refine ⟨⟨by omega, Int.lt_of_le_of_lt (show (k : Int) ≤ (sizeLine : Int) by omega) (by decide)⟩, ?_⟩
    refine wpAny_bind (m := asInt? _) (wpAny_pure ?_)
    refine PySem.W.KFB.if_not ?_ (wpAny_pure (h H' _ _ sm (I'.tok _)))
    show decide ((k : Int).toNat > sizeLine) = false
    rw [Int.toNat_natCast]
    exact decide_eq_false (by omega)
/-- list(o): the numbers of its tuple, in a new list -/
def rListIt (K : PySem.W.Frag) (C : Addr) (fld : Str) (spL : Sp) : List V → Hp → VK → Prop := fun xs H Q => ∃ (a dx l : Addr) (fs : List (Str × V)) (zs : List V), xs = [.ref a] ∧ H a = some (.ins C dx fs) ∧ fs.lookup fld = some (.ref l) ∧ SqT K H l zs ∧ zs.length ≤ sizeLine ∧
  (∀ H1, Same H H1 → spL [.ref a] H1 (fun r H' => r = .int (zs.length : Int) ∧ Same H1 H') (fun _ _ _ => False)) ∧ ∀ H' q, Same H H' → H' q = some (.lst zs) → Q (.ref q) H'
theorem call_listIt {ps : List Str} {fd : FuncData} (F : FnN X.prog X.w X.K X.mg X.base CX0 n fi fd ps (spIterN C fld X.K)) (mi : Own1 X.K C fi "__iter__") (hb : Binds X.K fd ps [])
    (m : Own1 X.K C fl "__len__") (FL : FnOk X.prog X.w X.K X.mg X.base CX0 n fl fdL psL spL) (bL : Binds X.K fdL psL []) (hr : Room (n + 3) X.A) (hc : X.calm = true) : CallR X (.type "list") (rListIt X.K C fld spL) := by
  intro pins s σ H xs us Q I rv h
  obtain ⟨a, dx, l, fs, zs, rfl, ha, hl, hz, few, hlen, q⟩ := h
  obtain ⟨u, rfl, ru⟩ := rv.one
  cases ru
  have sb : Sub X (n + 1) X.A.in1.in1 := (Sub.in1 (Sub.in1 (⟨hr, rfl⟩ : Sub X (n + 3) X.A)))
  refine callType_codes (Q₁ := fun obj s₁ => obj = .ref s.heap.objs.size ∧ s₁ = { s with heap := s.heap.push { cls := .type "list", data := .seq #[] } }) PySem.F.called_list (PySem.F.typeCall_list_1 _) PySem.F.entry_list_init
    (code_list_new _ ⟨rfl, rfl⟩) fun obj s₁ h₁ => ?_
  obtain ⟨rfl, rfl⟩ := h₁
  have hS : (s.heap.push { cls := .type "list", data := .seq #[] }).get? s.heap.objs.size = some { cls := .type "list", data := .seq #[] } := Heap.get?_push_size _ rfl
  refine ⟨⟨_, hS, rfl⟩, PySem.F.args_list_init_2 _ _, ?_⟩
  have fr : H s.heap.objs.size = none := I.hok.fresh (Nat.le_refl _)
  have I1 : Inv X pins σ (upd H s.heap.objs.size (.lst [])) { s with heap := s.heap.push { cls := .type "list", data := .seq #[] } } := I.lnew (its := []) (t' := s.toks) .nil (Nat.zero_le _)
  generalize hq : s.heap.objs.size = q0 at *
  show wpAny _ _ (do let old ← Builtin.List.listItems (.ref q0); Builtin.List.listUpdate (.ref q0) (fun _ => #[]); letGo old.toList.reverse; Builtin.List.listExtendWith (.ref q0) (.ref a) .none) _ _ _
  refine wpAny_bind ?_
  unfold Builtin.List.listItems
  refine wpAny_bind (wpAny_seqItems hS rfl (wpAny_pure ?_))
  show wpAny _ _ (updateSeq q0 (fun _ => #[]) >>= fun _ => letGo (#[] : Array Value).toList.reverse >>= fun _ => Builtin.List.listExtendWith (.ref q0) (.ref a) .none) _ _ _
  refine wpAny_bind (wpAny_updateSeq hS rfl ?_)
  have I2 := I1.lset (f := fun _ => #[]) (its := []) (its' := []) (ys := []) (t' := s.toks) upd_same hS rfl .nil (Nat.zero_le _)
  rw [upd_upd] at I2
  refine wpAny_bind (wpAny_letGo ?_)
  have s2 : Same H (upd H q0 (.lst [])) := same_upd (Same.refl H) fr
  have ha2 := s2 _ _ ha
  have hz2 := hz.ext s2
  have hq2 : (upd H q0 (.lst [])) q0 = some (.lst []) := upd_same
  revert I2 s2 ha2 hz2 hq2
  generalize upd H q0 (.lst []) = H2
  intro I2 s2 ha2 hz2 hq2
  have hne : q0 ≠ a := ne_of hq2 ha2 (fun z => nomatch z)
  obtain ⟨mA, J, _⟩ := ins_get I2.hok ha2
  obtain ⟨od, J, _⟩ := J.look
  obtain ⟨m0, hF⟩ := I2.fr
  unfold Builtin.List.listExtendWith
  refine wpAny_bind (J.type.here ?_)
  have h1 : Builtin.List.listSameRef (.ref q0) (.ref a) = false := by simp [Builtin.List.listSameRef, hne]
  have h2 : (Value.ref C == Value.type "list") = false := rfl
  have h3 : (Value.ref C == Value.type "tuple") = false := rfl
  simp only [h1, h2, h3, Bool.or_false, Bool.false_eq_true, if_false]
  refine wpAny_bind (PySem.W.owit_iter hF I2.ok.mod.kin J mi.at_ mi.fn ?_)
  generalize hs2 : ({ s with heap := (s.heap.push { cls := .type "list", data := .seq #[] }).update q0 (Obj.mapSeq fun _ => #[]), toks := s.toks } : Shared) = sx at *
  have qI : spIterN C fld X.K sx.heap.objs.size [.ref a] H2 (fun v H' => ∃ it, v = .ref it ∧ sx.heap.objs.size ≤ it ∧ H2 it = none ∧ H' = upd H2 it (ItTO l it 0)) (fun _ _ _ => False) := ⟨a, dx, l, fs, zs, rfl, ha2, hl, hz2, fun it h0 hn => ⟨it, rfl, hn, h0, rfl⟩⟩
  have same := F.len _ _ _ _ _ qI
  have bound := hb sx [.ref a] I2.kIn (by rw [← same]; rfl)
  rw [List.append_nil] at bound
  refine wpAny_call (codeAny_mono (F.run (vs := [.ref a]) (us := [.ref a]) (args := ⟨[.ref a], []⟩) (sb.mono (by omega)).room (env_sub sb I2) bound (.cons rfl .nil) qI) fun r s3 back => ?_)
  rcases r with er | flw
  · exact False.elim back
  rcases flw with _ | _ | _ | u
  · exact False.elim back
  · exact False.elim back
  · exact False.elim back
  obtain ⟨v, H3, I3, rv3, it, e2, hn, h0, e3⟩ := I2.after back
  subst e2
  cases rv3
  rw [e3] at I3
  have there : (upd H2 it (ItTO l it 0)) it = some (ItTO l it 0) := upd_same
  have st : s3.heap.IsTupleIter it l 0 := (I3.hok it _ there).1
  have young : X.s_0.heap.objs.size ≤ it := Nat.le_trans I2.sz hn
  unfold PySem.W.OwitIt
  refine wpAny_specialOf (name := "__next__") st.typeIs slot_tupleiter_next.lookup ?_
  have s3' : Same H2 (upd H2 it (ItTO l it 0)) := same_upd (Same.refl H2) h0
  refine wpAny_bind (wpAny_holding (own_hintL (A1 := X.A.in1.in1) sb.in1 m FL bL I3 (s3' _ _ ha2) few (hlen _ (s2.trans s3')) fun H4 s4 b sm4 I4 => ?_))
  have I5 := ItX.inv_drop I4 (a := it) (φ := fun h => h.IsTupleIter it l 0) (sm4 _ _ there)
  have fp := ItX.inv_fp I4 (sm4 _ _ there) young
  have st4 : s4.heap.IsTupleIter it l 0 := (I4.hok it _ (sm4 _ _ there)).1
  have s5 : Same H2 (ItX.dropH H4 it) := fun b o e => by
    rw [ItX.dropH_ne (ne_of_none e h0)]
    exact sm4 _ _ (s3' b o e)
  have hni : it ≠ q0 := fun e => by rw [e, hq2] at h0; cases h0
  have fin : ∀ s6, Inv X pins σ (ItX.dropH H4 it) s6 → s6.heap.IsTupleIter it l 0 → codeAny (model X.prog X.w) X.A.in1 (.builtin "list.extend.loop" ⟨[.ref q0, .ref it, .none], []⟩) (wants (fun r s₂ => r = .none ∧ EP X pins σ Q (.ref q0) s₂) X.xe) s6 := fun s6 I6 st6 => by
    have e0 : upd (ItX.dropH H4 it) q0 (.lst (zs.take 0)) = ItX.dropH H4 it := by
      funext b
      by_cases hb : b = q0
      · rw [hb, upd_same, s5 _ _ hq2]
        rfl
      · rw [upd_ne hb]
    refine tup_loop (A1 := X.A.in1) (Hd := ItX.dropH H4 it) (zs := zs) (I2.ok.hd hc) (hz2.ext s5) (s5 _ _ hq2) few (fun s' I' => ⟨rfl, .ref q0, _, I', rfl, q _ q0 (fun b o e => ?_) upd_same⟩) hni _ 0 s6 rfl (Nat.zero_le _) (by rw [e0]; exact I6) st6 fp
    rw [upd_ne (ne_of_none e fr)]
    exact s5 _ _ (s2 b o e)
  refine wpAny_ite_split (fun _ => ?_) (fun _ => wpAny_pure ⟨plainId_quiet PySem.F.plain_extend_loop _, fin s4 I5 st4⟩)
  obtain ⟨z, its, k, r3, hl3, e3'⟩ := I5.lstM (s5 _ _ hq2)
  cases r3
  refine wpAny_bind (wpAny_rule ?_)
  refine wpAny_bind ?_
  show wpAny _ _ (updateSeq q0 (·.push .none) >>= fun _ => updateSeq q0 (·.pop)) _ _ _
  refine wpAny_bind (wpAny_updateSeq e3' rfl ?_)
  have I6 := I5.lset (f := (·.push Value.none)) (its' := [Value.none]) (ys := [.non]) (t' := s4.toks) (s5 _ _ hq2) e3' (by simp) (.cons rfl .nil) (by rw [List.length_singleton, sizeLine_eq]; decide)
  obtain ⟨z4, its4, k4, r4, hl4, e4⟩ := I6.lstM upd_same
  obtain ⟨u4, rfl, ru4⟩ := r4.one
  refine wpAny_updateSeq e4 rfl ?_ (by show 1 ≤ sizeLine; rw [sizeLine_eq]; decide) (by show 0 ≤ sizeLine + 1; exact Nat.zero_le _)
  refine wpAny_pure ⟨plainId_quiet PySem.F.plain_extend_loop _, ?_⟩
  have I7 := I6.lset (f := (·.pop)) (its := [u4]) (its' := []) (ys := []) (t' := s4.toks) upd_same e4 (by rfl) .nil (Nat.zero_le _)
  rw [upd_upd] at I7
  have hH : upd (ItX.dropH H4 it) q0 (.lst []) = ItX.dropH H4 it := by
    funext b
    by_cases hb : b = q0
    · rw [hb, upd_same, s5 _ _ hq2]
    · rw [upd_ne hb]
  rw [hH] at I7
  refine fin _ I7 ?_
  exact (st4.at fun o e => (Heap.get?_update_other _ (Obj.mapSeq _) (Ne.symm hni)).trans e).at fun o e => (Heap.get?_update_other _ (Obj.mapSeq _) (Ne.symm hni)).trans e
end
end Kx

namespace Kx
open PySem PySem.Spec PyProof.Rows L2
section
variable {X : Cx}
/-- set(xs), xs a list or a tuple of ints -/
def rSetJ (K : PySem.W.Frag) (w : World) : List V → Hp → VK → Prop := fun xs H Q => ∃ (l : Addr) (ns : List Int), xs = [V.ref l] ∧ (SqL K H l (ns.map V.int) ∨ SqT K H l (ns.map V.int)) ∧ ns.length < 62 ∧
  ∀ a c, H a = none → c ≤ ns.length → Q (.ref a) (upd H a (SetO w a (fun j => decide (j ∈ ns)) c))
theorem cr_setJ (hc : X.calm = true) : CallR X (.type "set") (rSetJ X.K X.w) := by
  intro pins s σ H xs us Q I r h
  obtain ⟨l, ns, rfl, hq, few, q⟩ := h
  rw [Vals.ref1 r]
  have fin : ∀ (h' : Heap) (tk c : Nat), SetR X.w h' s.heap.objs.size (fun j => decide (j ∈ ns)) c → c ≤ ns.length → (∀ b o, s.heap.get? b = some o → h'.get? b = some o) → EP X pins σ Q (.ref s.heap.objs.size) { s with heap := h', toks := tk } := fun h' tk c R hcn k =>
    ⟨.ref s.heap.objs.size, upd H s.heap.objs.size (SetO X.w s.heap.objs.size (fun j => decide (j ∈ ns)) c), I.laid (t' := tk) k (Nat.le_refl _) (setO_new R), rfl, q _ c (I.hok.fresh (Nat.le_refl _)) hcn⟩
  have small : ns.length + 1 < scanBound := Nat.lt_trans (Nat.succ_lt_succ few) (by decide)
  rcases hq with hq | hq
  · obtain ⟨its, rv, pl, hz⟩ := I.list hq
    exact call_set_listI (P := X.prog) (w := X.w) ns (I.ok.hd hc) pl.isList (by simpa using ints_of_vals rv) small fin
  · obtain ⟨its, rv, pl, hz⟩ := I.tuple hq
    exact call_set_tupI (P := X.prog) (w := X.w) ns (I.ok.hd hc) pl (by simpa using ints_of_vals rv) small fin
end
end Kx

namespace Kx
open PySem PySem.Spec PyProof.Rows L2
def top (i : Nat) : Stmt := PySem.Challenge.pw_savedseats_k05_whole_sets_of_places.main.body.getD i (.Pass ⟨0, 0, 0, 0⟩)

/-- a def of the text, by its address: its promise and how its arguments bind -/
def Okd (P : Program) (w : World) (K : PySem.W.Frag) (mg : Str → Option Value) (base : Heap) (CX : CXT) (k : Nat) (f : Addr) (ps : List Str) (sp : Sp) : Prop := ∃ fd, FnOk P w K mg base CX k f fd ps sp ∧ Binds K fd ps []
/-- the script's list: read, never written -/
def Scr (K : PySem.W.Frag) (H : Hp) (a : Addr) (ns : List Int) : Prop := (∃ o, H a = some (.frz o (.lst (ns.map V.int)))) ∨
  ∃ (o : Obj) (its : Array Value) (n : Nat), K.lookup a = some o ∧ o.cls = .type "list" ∧ o.dict = none ∧ o.data = .seq its n ∧ its.size ≤ sizeLine ∧ Vals (ns.map V.int) its.toList
theorem Scr.sq {K : PySem.W.Frag} {H : Hp} {a : Addr} {ns : List Int} (h : Scr K H a ns) : SqL K H a (ns.map V.int) := by
  rcases h with ⟨o, h⟩ | h
  · exact .inl (.inr ⟨o, h⟩)
  · exact .inr h
theorem Scr.of {K : PySem.W.Frag} {H : Hp} {a : Addr} {ns : List Int} (hO : Only H) (h : SqL K H a (ns.map V.int)) : Scr K H a ns := by
  rcases h with (h | ⟨o, h⟩) | h
  · rcases hO a with e | ⟨o, xs, e⟩
    · rw [h] at e; cases e
    · rw [h] at e; cases e
  · exact .inl ⟨o, h⟩
  · exact .inr h
/-- what is read only stands -/
def Frz (H H' : Hp) : Prop := ∀ b o u, H b = some (.frz o u) → H' b = some (.frz o u)
theorem Frz.refl (H : Hp) : Frz H H := fun _ _ _ h => h
theorem Frz.trans {H H1 H2 : Hp} (a : Frz H H1) (b : Frz H1 H2) : Frz H H2 := fun c o u h => b c o u (a c o u h)
theorem Frz.same {H H' : Hp} (s : Same H H') : Frz H H' := fun b o u h => s b _ h
theorem Frz.upd {H : Hp} {p : Addr} {x : HO} (n : ∀ o u, H p ≠ some (.frz o u)) : Frz H (upd H p x) := fun b o u h => by
  rw [upd_ne (fun e => by subst e; exact n o u h)]
  exact h
theorem nfz_none {H : Hp} {p : Addr} (h : H p = none) : ∀ o u, H p ≠ some (.frz o u) := fun o u e => by rw [h] at e; cases e
theorem nfz_lst {H : Hp} {p : Addr} {xs : List V} (h : H p = some (.lst xs)) : ∀ o u, H p ≠ some (.frz o u) := fun o u e => by rw [h] at e; cases e
theorem Scr.keep {K : PySem.W.Frag} {H H' : Hp} {a : Addr} {ns : List Int} (h : Scr K H a ns) (f : Frz H H') : Scr K H' a ns := by
  rcases h with ⟨o, h⟩ | h
  · exact .inl ⟨o, f _ _ _ h⟩
  · exact .inr h
/-- the pool at p, with room for b draws more -/
def PoolAt (K : PySem.W.Frag) (H : Hp) (p : Addr) (b : Nat) : Prop := ∃ (a : Addr) (ns : List Int) (n i r m : Int), Scr K H a ns ∧ H p = some (.lst [.ref a, .int n, .int i, .int r, .int m]) ∧
  0 ≤ n ∧ n + (b : Int) ≤ 1000000000000 ∧ 0 ≤ i ∧ 0 ≤ r ∧ 0 ≤ m ∧ m < 2147483629
theorem PoolAt.less {K : PySem.W.Frag} {H : Hp} {p : Addr} {b c : Nat} (h : PoolAt K H p b) (l : c ≤ b) : PoolAt K H p c := by
  obtain ⟨a, ns, n, i, r, m, h1, h2, h3, h4, h6⟩ := h
  exact ⟨a, ns, n, i, r, m, h1, h2, h3, by omega, h6⟩
theorem PoolAt.keep {K : PySem.W.Frag} {H H' : Hp} {p : Addr} {b : Nat} (h : PoolAt K H p b) (hp : ∀ o, H p = some o → H' p = some o) (f : Frz H H') : PoolAt K H' p b := by
  obtain ⟨a, ns, n, i, r, m, h1, h2, h3⟩ := h
  exact ⟨a, ns, n, i, r, m, h1.keep f, hp _ h2, h3⟩
theorem PoolAt.same {K : PySem.W.Frag} {H H' : Hp} {p : Addr} {b : Nat} (h : PoolAt K H p b) (s : Same H H') : PoolAt K H' p b := h.keep (fun o e => s _ _ e) (.same s)
theorem PoolAt.new {K : PySem.W.Frag} {H : Hp} {p q : Addr} {b : Nat} {x : HO} (h : PoolAt K H p b) (n : H q = none) : PoolAt K (upd H q x) p b :=
  h.keep (fun o e => by rw [upd_ne (ne_of_none e n)]; exact e) (.upd (nfz_none n))
theorem PoolAt.set {K : PySem.W.Frag} {H : Hp} {p q : Addr} {b : Nat} {x : HO} {xs : List V} (h : PoolAt K H p b) (n : H q = some (.lst xs)) (ne : q ≠ p) : PoolAt K (upd H q x) p b :=
  h.keep (fun o e => by rw [upd_ne ne.symm]; exact e) (.upd (nfz_lst n))
theorem PoolAt.ne_new {K : PySem.W.Frag} {H : Hp} {p q : Addr} {b : Nat} (h : PoolAt K H p b) (n : H q = none) : q ≠ p := fun e => by
  obtain ⟨_, _, _, _, _, _, _, h2, _⟩ := h
  rw [e, h2] at n
  cases n
/-- what stood beside the pool stands -/
def But (p : Addr) (H H' : Hp) : Prop := (∀ b, b ≠ p → H' b = H b) ∧ (H' p).isSome = true
theorem But.trans {p : Addr} {H H1 H2 : Hp} (a : But p H H1) (b : But p H1 H2) : But p H H2 := ⟨fun c h => (b.1 c h).trans (a.1 c h), b.2⟩
theorem But.of {p : Addr} {H : Hp} {o : HO} : But p H (upd H p o) := ⟨fun _ h => upd_ne h, by rw [upd_same]; rfl⟩
def spPool (K : PySem.W.Frag) : Sp := fun vs H Q _ => ∃ (a : Addr) (ns : List Int), vs = [.ref a] ∧ Scr K H a ns ∧ ∀ (H' : Hp) (p : Addr), H p = none → PoolAt K H' p 1000000000000 → (∃ o, H' = upd H p o) → Q (.ref p) H'
/-- draw(pool, limit): a number from 0 to below the limit; one draw less -/
def spDraw (K : PySem.W.Frag) : Sp := fun vs H Q _ => ∃ (p : Addr) (b : Nat) (lim : Int), vs = [.ref p, .int lim] ∧ PoolAt K H p (b + 1) ∧ 0 < lim ∧ lim.natAbs < 2 ^ 200 ∧
  ∀ (H' : Hp) (d : Int), 0 ≤ d → d < lim → PoolAt K H' p b → But p H H' → Q (.int d) H'
structure TxDraw (mg : Str → Option Value) : Prop where
  n_len : mg "len" = none
  n_abs : mg "abs" = none
  n_int : mg "int" = none
theorem ix_there {xs : List V} {i : Int} (h0 : 0 ≤ i) (h1 : i < xs.length) : ∃ v, atI xs i = some v ∧ v ∈ xs := by
  obtain ⟨j, rfl⟩ : ∃ j : Nat, i = (j : Int) := ⟨i.toNat, by omega⟩
  have hj : j < xs.length := by omega
  exact ⟨xs[j], atI_nat (List.getElem?_eq_getElem hj), List.getElem_mem hj⟩
theorem int_at {xs : List Int} {i : Nat} {v : V} (e : (xs.map V.int)[i]? = some v) : ∃ z, xs[i]? = some z ∧ v = .int z := by
  rw [List.getElem?_map] at e
  cases q : xs[i]? with
  | none => rw [q] at e; cases e
  | some z =>
    rw [q] at e
    exact ⟨z, rfl, (Option.some.inj e).symm⟩
def But1 (w0 : Addr) (H H' : Hp) : Prop := ∀ b o, b ≠ w0 → H b = some o → H' b = some o
theorem But1.trans {w0 : Addr} {H H1 H2 : Hp} (a : But1 w0 H H1) (b : But1 w0 H1 H2) : But1 w0 H H2 := fun c o n e => b c o n (a c o n e)
theorem But1.of {w0 : Addr} {H H' : Hp} (s : Same H H') : But1 w0 H H' := fun b o _ e => s b o e
theorem But1.set {w0 : Addr} {H : Hp} {o : HO} : But1 w0 H (upd H w0 o) := fun b u n e => by rw [upd_ne n]; exact e
theorem iteB {c : Bool} {A B : Prop} (h1 : c = true → A) (h2 : c = false → B) : if c = true then A else B := by
  cases c with
  | true => exact h1 rfl
  | false => exact h2 rfl
theorem shaped_lints (as : List Int) : SeqAt.shaped (.list (as.map PyData.int)) = true := by
  unfold SeqAt.shaped
  have e : (PyData.list (as.map PyData.int)).canLay0 = true := lay_ints as
  have d : (PyData.list (as.map PyData.int)).depth ≤ 64 := by
    have h2 := depth_ints as
    simp only [PyData.depth]
    omega
  rw [e, decide_eq_true d]
  rfl

theorem But1.refl (p : Addr) (H : Hp) : But1 p H H := fun _ _ _ e => e
theorem But1.new {p q : Addr} {H H' : Hp} {x : HO} (b : But1 p H H') (n : H q = none) : But1 p H (upd H' q x) := fun c o nc e => by
  rw [upd_ne (ne_of_none e n)]
  exact b c o nc e
theorem But.one {p : Addr} {H H' : Hp} (b : But p H H') : But1 p H H' := fun c o n e => (b.1 c n).trans e
theorem atI_pos {α : Type} {xs : List α} {y : Int} {v : α} (h0 : 0 ≤ y) (h : xs[y.toNat]? = some v) : atI xs y = some v := by
  have z := atI_nat h
  rw [Int.toNat_of_nonneg h0] at z
  exact z
/-- a number put into an ascending list, if it is not there -/
def below (z : Int) (us : List Int) : Nat := (us.filter fun v => decide (v < z)).length
def insU (us : List Int) (z : Int) : List Int := if z ∈ us then us else us.take (below z us) ++ [z] ++ us.drop (below z us)
def setF (ns : List Int) : List Int := ns.foldl insU []
theorem split_up {z : Int} : ∀ {us : List Int}, us.Pairwise (· < ·) → z ∉ us → (∀ v ∈ us.take (below z us), v < z) ∧ ∀ v ∈ us.drop (below z us), z < v
  | [], _, _ => ⟨fun _ h => by simp [below] at h, fun _ h => by simp [below] at h⟩
  | a :: r, up, no => by
    obtain ⟨u1, u2⟩ := List.pairwise_cons.mp up
    have ih := split_up u2 fun m => no (List.mem_cons_of_mem _ m)
    have ne : z ≠ a := fun e => no (e ▸ List.mem_cons_self)
    by_cases h : a < z
    · have b : below z (a :: r) = below z r + 1 := by
        unfold below
        rw [List.filter_cons_of_pos (by exact decide_eq_true h), List.length_cons]
      rw [b, List.take_succ_cons, List.drop_succ_cons]
      refine ⟨fun v hv => ?_, ih.2⟩
      rcases List.mem_cons.mp hv with e | hv
      · rw [e]
        exact h
      · exact ih.1 v hv
    · have b : below z (a :: r) = 0 := by
        unfold below
        rw [List.filter_cons_of_neg (by exact fun y => h (of_decide_eq_true y)), List.length_eq_zero_iff, List.filter_eq_nil_iff]
        intro v hv y
        have := u1 v hv
        have := of_decide_eq_true y
        omega
      rw [b]
      refine ⟨fun v hv => by simp at hv, fun v hv => ?_⟩
      rw [List.drop_zero] at hv
      rcases List.mem_cons.mp hv with e | hv
      · rw [e]
        omega
      · have := u1 v hv
        omega
theorem insU_up {us : List Int} {z : Int} (up : us.Pairwise (· < ·)) : (insU us z).Pairwise (· < ·) := by
  unfold insU
  by_cases m : z ∈ us
  · rw [if_pos m]
    exact up
  rw [if_neg m]
  obtain ⟨h1, h2⟩ := split_up up m
  rw [List.pairwise_append, List.pairwise_append]
  refine ⟨⟨up.sublist (List.take_sublist ..), by simp, fun a ha b hb => ?_⟩, up.sublist (List.drop_sublist ..), fun a ha b hb => ?_⟩
  · rw [List.mem_singleton.mp hb]
    exact h1 a ha
  · rcases List.mem_append.mp ha with ha | ha
    · have := h1 a ha
      have := h2 b hb
      omega
    · rw [List.mem_singleton.mp ha]
      exact h2 b hb
theorem insU_mem {us : List Int} {z v : Int} : v ∈ insU us z ↔ v = z ∨ v ∈ us := by
  unfold insU
  by_cases m : z ∈ us
  · rw [if_pos m]
    exact ⟨.inr, fun h => h.elim (fun e => e ▸ m) id⟩
  · rw [if_neg m, (perm_ins us (below z us) z).mem_iff, List.mem_cons]
theorem insU_len {us : List Int} {z : Int} : (insU us z).length ≤ us.length + 1 := by
  unfold insU
  by_cases m : z ∈ us
  · rw [if_pos m]
    omega
  · rw [if_neg m, (perm_ins us (below z us) z).length_eq, List.length_cons]
    omega
theorem setF_snoc (ns : List Int) (z : Int) : setF (ns ++ [z]) = insU (setF ns) z := by
  unfold setF
  rw [List.foldl_append]
  rfl
theorem setF_all : ∀ {ns us : List Int}, us.Pairwise (· < ·) → (ns.foldl insU us).Pairwise (· < ·) ∧ (∀ v, v ∈ ns.foldl insU us ↔ v ∈ us ∨ v ∈ ns) ∧ (ns.foldl insU us).length ≤ us.length + ns.length
  | [], us, up => ⟨up, fun v => by simp, by simp⟩
  | z :: r, us, up => by
    obtain ⟨i1, i2, i3⟩ := setF_all (ns := r) (insU_up (z := z) up)
    refine ⟨i1, fun v => ?_, ?_⟩
    · rw [List.foldl_cons, i2 v, insU_mem, List.mem_cons]
      exact ⟨fun h => h.elim (fun h => h.elim (fun h => .inr (.inl h)) .inl) fun h => .inr (.inr h), fun h => h.elim (fun h => .inl (.inr h)) fun h => h.elim (fun h => .inl (.inl h)) .inr⟩
    · rw [List.foldl_cons]
      have := insU_len (us := us) (z := z)
      rw [List.length_cons]
      omega
theorem setF_up (ns : List Int) : (setF ns).Pairwise (· < ·) := (setF_all (ns := ns) List.Pairwise.nil).1
theorem setF_mem (ns : List Int) (v : Int) : v ∈ setF ns ↔ v ∈ ns := by
  rw [show setF ns = ns.foldl insU [] from rfl, (setF_all (ns := ns) List.Pairwise.nil).2.1 v]
  simp
theorem setF_len (ns : List Int) : (setF ns).length ≤ ns.length := by
  have h := (setF_all (ns := ns) List.Pairwise.nil).2.2
  rw [List.length_nil, Nat.zero_add] at h
  exact h
def spNums (K : PySem.W.Frag) (c : Nat) : Sp := fun vs H Q _ => ∃ (p : Addr) (b : Nat) (sp : Bool), vs = [.ref p, .bl sp] ∧ PoolAt K H p b ∧ 200 ≤ b ∧
  ∀ (H' : Hp) (l : Addr) (ns : List Int), But1 p H H' → PoolAt K H' p (b - 200) → H' l = some (.lst (ns.map V.int)) → ns.length < c → (sp = false → ∀ v ∈ ns, 0 ≤ v) → l ≠ p → H l = none → Q (.ref l) H'
/-- the numbers as a set: a new list or tuple (o) -/
def spSet (o : List V → HO) : Sp := fun vs H Q _ => ∃ (l : Addr) (ns : List Int), vs = [.ref l] ∧ H l = some (.lst (ns.map V.int)) ∧ ns.length ≤ 200 ∧ ∀ (H' : Hp) (r : Addr), Same H H' → H' r = some (o ((setF ns).map V.int)) → Q (.ref r) H'
theorem eqv_nil (ns : List Int) : PyData.eqv (.list (ns.map PyData.int)) (.list []) = decide (ns = []) := by
  cases ns with
  | nil => rfl
  | cons a r => rfl
/-- a lot with these places -/
structure LotAt (K : PySem.W.Frag) (H : Hp) (a : Addr) (us : List Int) : Prop where
  at_ : ∃ dx tx : Addr, H a = some (.ins (He.ga K "Lot") dx [("places", .ref tx)]) ∧ SqT K H tx (us.map V.int)
theorem LotAt.same {K : PySem.W.Frag} {H H' : Hp} {a : Addr} {us : List Int} (h : LotAt K H a us) (s : Same H H') : LotAt K H' a us := by
  obtain ⟨dx, tx, h1, h2⟩ := h.at_
  exact ⟨dx, tx, s _ _ h1, h2.ext s⟩
def spLotLen (K : PySem.W.Frag) : Sp := fun vs H Q _ => ∃ (a : Addr) (us : List Int), vs = [.ref a] ∧ LotAt K H a us ∧ us.length < 1000 ∧ ∀ H', Same H H' → Q (.int (us.length : Nat)) H'
def spLotIn (K : PySem.W.Frag) : Sp := fun vs H Q _ => ∃ (a : Addr) (v : Int) (us : List Int), vs = [.ref a, .int v] ∧ LotAt K H a us ∧ us.length < 1000 ∧ ∀ H', Same H H' → Q (.bl (decide (v ∈ us))) H'

section
variable {P : Program} {w : World} {K : PySem.W.Frag} {mg : Str → Option Value} {base : Heap}
abbrev s_pool : Stmt := top 8
theorem sc_pool : FnScope ["_law_script"] ["_law_script"] (defScope s_pool) := ⟨rfl, rfl, rfl, by decide +kernel, rfl, by decide +kernel, by decide +kernel⟩
theorem ok_pool {f : Addr} {fd : FuncData} (F : FunD K "_law_pool" "_law_pool" (defArgs s_pool) (defBody s_pool) (defScope s_pool) [] [] f fd) : FnOk P w K mg base CX0 1 f fd ["_law_script"] (spPool K) := by
  refine F.ok sc_pool (fun vs H Q E h => ?_) (fun cdv A outer s H vs Q E hr h => ?_)
  · obtain ⟨a, ns, rfl, _⟩ := h
    rfl
  · obtain ⟨a, ns, rfl, hS, k⟩ := h
    refine ⟨_, PSs.nox (pss_one (ps_ret (pe_lst (pa_cons (pv 0) (pa_cons pe_int (pa_cons pe_int (pa_cons pe_int (pa_cons pe_int pa_nil)))))))), ?_⟩
    refine ⟨_, rfl, (by show 5 ≤ sizeLine; decide), fun p hp => ?_⟩
    exact k _ p hp ⟨a, ns, 0, 0, 0, 7, hS.keep (.upd (nfz_none hp)), upd_same, by omega, by omega, by omega, by omega, by omega, by omega⟩ ⟨_, rfl⟩
abbrev s_draw : Stmt := top 9
theorem sc_draw : FnScope ["_law_pool_here", "_law_limit", "_law_cell", "_law_digit", "_law_mixed"] ["_law_pool_here", "_law_limit"] (defScope s_draw) := ⟨rfl, rfl, rfl, by decide +kernel, rfl, by decide +kernel, by decide +kernel⟩
theorem ok_draw {f : Addr} {fd : FuncData} (F : FunD K "_law_draw" "_law_draw" (defArgs s_draw) (defBody s_draw) (defScope s_draw) [] [] f fd) (T : TxDraw mg) : FnOk P w K mg base CX0 1 f fd ["_law_pool_here", "_law_limit"] (spDraw K) := by
  refine F.ok sc_draw (fun vs H Q E h => ?_) (fun cdv A outer s H vs Q E hr h => ?_)
  · obtain ⟨p, b, lim, rfl, _⟩ := h
    rfl
  · obtain ⟨p, b, lim, rfl, ⟨a, ns, n, i, r, m, hS, hp, n0, nb, i0, r0, m0, m1⟩, l0, l1, k⟩ := h
    refine ⟨_, PSs.nox (pss_cons (ps_asg (pe_op op_add (pe_ix ix_list (pv 0) pe_int (fun _ _ => rfl)) pe_int) (pg_sub (pv 0) pe_int set_list))
    (C8.pss_cut (ps_if (PW.pt (pw_and (pt_cmpR op_eq (pe_ix ix_list (pv 0) pe_int (fun _ _ => rfl)) pe_int (nomark _)) (pw_and1 (pt_cmpR op_lt (pe_ix ix_list (pv 0) pe_int (fun _ _ => rfl)) (pe_callB call_len_seq (by rfl) T.n_len PySem.boot_len (pa_cons (pe_ix ix_list (pv 0) pe_int (fun _ _ => rfl)) pa_nil)) (nomark _))))) (pss_cons (ps_set (i := 2) sc_draw.nd rfl (Or.inl rfl) (pe_callB call_abs (by rfl) T.n_abs (by decide +kernel) (pa_cons (pe_ix ix_list (pe_ix ix_list (pv 0) pe_int (fun _ _ => rfl)) (pe_ix ix_list (pv 0) pe_int (fun _ _ => rfl)) (fun _ _ => rfl)) pa_nil)))
    (pss_cons (ps_asg (pe_op op_add (pe_ix ix_list (pv 0) pe_int (fun _ _ => rfl)) pe_int) (pg_sub (pv 0) pe_int set_list))
    (pss_one (ps_if (pt_cmpR op_ge (pv 2) (pe_op op_pow pe_int pe_int) (nomark _)) (pss_one (ps_asg (pv 2) (pg_sub (pv 0) pe_int set_list))) (pss_one (ps_asg (pe_op op_mod (pe_callTy call_int1 (by rfl) T.n_int (by decide +kernel) (pa_cons (pe_op op_mul (pe_op op_add (pe_op op_add (pe_ix ix_list (pv 0) pe_int (fun _ _ => rfl)) (pv 2)) pe_int) pe_int) pa_nil)) pe_int) (pg_sub (pv 0) pe_int set_list))))))) pss_nil)
    (pss_cons (ps_if (pt_cmpR op_gt (pe_ix ix_list (pv 0) pe_int (fun _ _ => rfl)) pe_int (nomark _)) (pss_cons (ps_set (i := 3) sc_draw.nd rfl (Or.inl rfl) (pe_op op_mod (pe_callTy call_int1 (by rfl) T.n_int (by decide +kernel) (pa_cons (pe_ix ix_list (pv 0) pe_int (fun _ _ => rfl)) pa_nil)) (pv 1)))
    (pss_cons (ps_asg (pe_op op_fdivW (pe_ix ix_list (pv 0) pe_int (fun _ _ => rfl)) (pv 1)) (pg_sub (pv 0) pe_int set_list))
    (pss_one (ps_ret (pv 3))))) pss_nil)
    (pss_cons (ps_set (i := 4) sc_draw.nd rfl (Or.inl rfl) (pe_op op_mod (pe_callTy call_int1 (by rfl) T.n_int (by decide +kernel) (pa_cons (pe_op op_pow (pe_op op_add (pe_ix ix_list (pv 0) pe_int (fun _ _ => rfl)) (pe_op op_mul (pe_ix ix_list (pv 0) pe_int (fun _ _ => rfl)) pe_int)) pe_int) pa_nil)) pe_int))
    (pss_one (ps_ret (pe_op op_mod (pe_callTy call_int1 (by rfl) T.n_int (by decide +kernel) (pa_cons (pe_op op_fdiv (pv 4) pe_int) pa_nil)) (pv 1)))))))), ?_⟩
    -- pool[1] = pool[1] + 1
    refine ⟨_, rfl, p, _, _, _, rfl, rfl, SqL.of hp, rfl, _, _, rfl, rfl, _, rfl, p, _, _, 1, rfl, rfl, hp, rfl, ?_⟩
    have fz : ∀ x, Frz H (upd H p x) := fun x => .upd (nfz_lst hp)
    have hS1 : Scr K (upd H p (.lst ([.ref a, .int n, .int i, .int r, .int m].set 1 (.int (n + 1))))) a ns := hS.keep (fz _)
    -- the test and the draw of a cell: what holds behind it
    refine ⟨fun σ H' => ∃ (c : Option V) (i r m : Int), σ = [some (.ref p), some (.int lim), c, none, none] ∧ Scr K H' a ns ∧ H' p = some (.lst [.ref a, .int (n + 1), .int i, .int r, .int m]) ∧ But p H H' ∧ 0 ≤ i ∧ 0 ≤ r ∧ 0 ≤ m ∧ m < 2147483629, ?_, ?_⟩
    · refine ⟨_, rfl, p, _, _, _, rfl, rfl, SqL.of upd_same, rfl, rfl, _, rfl, ?_⟩
      have keep0 : ∃ (c : Option V) (i' r' m' : Int), (start ["_law_pool_here", "_law_limit", "_law_cell", "_law_digit", "_law_mixed"] [V.ref p, V.int lim]) = [some (.ref p), some (.int lim), c, none, none] ∧ Scr K (upd H p (.lst ([.ref a, .int n, .int i, .int r, .int m].set 1 (.int (n + 1))))) a ns ∧
          (upd H p (.lst ([.ref a, .int n, .int i, .int r, .int m].set 1 (.int (n + 1))))) p = some (.lst [.ref a, .int (n + 1), .int i', .int r', .int m']) ∧ But p H (upd H p (.lst ([.ref a, .int n, .int i, .int r, .int m].set 1 (.int (n + 1))))) ∧ 0 ≤ i' ∧ 0 ≤ r' ∧ 0 ≤ m' ∧ m' < 2147483629 :=
        ⟨none, i, r, m, rfl, hS1, upd_same, But.of, i0, r0, m0, m1⟩
      refine ite2 (fun hr0 => ?_) (fun _ => iteF keep0)
      refine ⟨_, rfl, p, _, _, _, rfl, rfl, SqL.of upd_same, rfl, _, rfl, p, _, _, _, rfl, rfl, SqL.of upd_same, rfl, a, _, rfl, .inl hS1.sq, _, _, rfl, rfl, _, rfl, ?_⟩
      refine ite2 (fun hi => ?_) (fun _ => keep0)
      have hi' : i < ((ns.map V.int).length : Int) := of_decide_eq_true hi
      obtain ⟨v, hv, hm⟩ := ix_there i0 hi'
      obtain ⟨c, hc, rfl⟩ := List.mem_map.mp hm
      -- cell = abs(pool[0][pool[2]])
      refine ⟨_, rfl, p, _, _, _, rfl, rfl, SqL.of upd_same, rfl, _, rfl, p, _, _, _, rfl, rfl, SqL.of upd_same, rfl, a, _, _, _, rfl, rfl, hS1.sq, hv, _, rfl, ?_⟩
      -- pool[2] = pool[2] + 1
      refine ⟨_, rfl, p, _, _, _, rfl, rfl, SqL.of upd_same, rfl, _, _, rfl, rfl, _, rfl, p, _, _, 2, rfl, rfl, upd_same, rfl, ?_⟩
      rw [upd_upd]
      have c0 : 0 ≤ (if c < 0 then -c else c) := by split <;> omega
      generalize (if c < 0 then -c else c) = z at c0 ⊢
      -- if cell >= 10 ** 18
      refine ⟨_, rfl, _, _, rfl, rfl, ⟨by decide, by decide, by decide⟩, _, _, rfl, rfl, _, rfl, ?_⟩
      refine ite2 (fun hz => ?_) (fun hz => ?_)
      · refine ⟨_, rfl, _, rfl, p, _, _, 3, rfl, rfl, upd_same, rfl, ?_⟩
        rw [upd_upd]
        exact ⟨_, i + 1, z, m, rfl, hS.keep (fz _), upd_same, But.of, by omega, by omega, m0, m1⟩
      · have hz' : z < 1000000000000000000 := by
          have q : ¬ ((10 : Int) ^ (18 : Int).toNat ≤ z) := fun y => hz (decide_eq_true y)
          have e : (10 : Int) ^ (18 : Int).toNat = 1000000000000000000 := by decide
          rw [e] at q
          omega
        refine ⟨_, rfl, p, _, _, _, rfl, rfl, SqL.of upd_same, rfl, _, rfl, _, _, rfl, rfl, _, _, rfl, rfl, _, _, rfl, rfl, .inl ⟨by omega, by omega⟩, .inl ⟨_, rfl, ?_⟩⟩
        refine ⟨_, _, rfl, rfl, (by show (0 : Int) < 2147483629; decide), _, rfl, p, _, _, 4, rfl, rfl, upd_same, rfl, ?_⟩
        rw [upd_upd]
        exact ⟨_, i + 1, r, _, rfl, hS.keep (fz _), upd_same, But.of, by omega, r0, Int.emod_nonneg _ (by decide), Int.emod_lt_of_pos _ (by decide)⟩
    · rintro σ H2 ⟨c, i, r, m, rfl, hS2, hp2, bt, i0, r0, m0, m1⟩
      -- if pool[3] > 0
      refine ⟨_, rfl, p, _, _, _, rfl, rfl, SqL.of hp2, rfl, _, _, rfl, rfl, _, rfl, ?_⟩
      refine ite2 (fun hg => ?_) (fun _ => ?_)
      · refine ⟨_, rfl, p, _, _, _, rfl, rfl, SqL.of hp2, rfl, .inl ⟨_, rfl, ?_⟩⟩
        refine ⟨_, rfl, _, _, rfl, rfl, l0, ?_⟩
        refine ⟨_, rfl, p, _, _, _, rfl, rfl, SqL.of hp2, rfl, _, rfl, _, _, rfl, rfl, wide_div l0 l1 (by decide) (by decide), _, rfl, p, _, _, 3, rfl, rfl, hp2, rfl, ?_⟩
        refine ⟨_, rfl, ?_⟩
        exact k _ _ (Int.emod_nonneg _ (by omega)) (Int.emod_lt_of_pos _ l0) ⟨a, ns, n + 1, i, r / lim, m, hS2.keep (.upd (nfz_lst hp2)), upd_same, by omega, by omega, i0, Int.ediv_nonneg r0 (by omega), m0, m1⟩ (bt.trans But.of)
      · -- mixed = int((pool[4] + pool[1] * 7919) ** 3) mod 2147483647
        refine ⟨_, rfl, p, _, _, _, rfl, rfl, SqL.of hp2, rfl, _, rfl, p, _, _, _, rfl, rfl, SqL.of hp2, rfl, _, _, rfl, rfl, .inl ⟨by omega, by omega⟩, _, _, rfl, rfl, _, _, rfl, rfl, ⟨by decide, by decide, by omega⟩, .inl ⟨_, rfl, ?_⟩⟩
        refine ⟨_, _, rfl, rfl, (by show (0 : Int) < 2147483647; decide), ?_⟩
        refine ⟨_, rfl, _, _, rfl, rfl, ⟨by decide, by decide⟩, .inl ⟨_, rfl, ?_⟩⟩
        refine ⟨_, rfl, _, _, rfl, rfl, l0, ?_⟩
        exact k _ _ (Int.emod_nonneg _ (by omega)) (Int.emod_lt_of_pos _ l0) ⟨a, ns, n + 1, i, r, m, hS2, hp2, by omega, by omega, i0, r0, m0, m1⟩ bt
end
theorem takesN {X : Cx} : Takes X (fun _ _ _ _ => False) := fun _ _ x => by
  obtain ⟨_, _, _, _, _, _, _, _, _, _, _, _, _, _, _, _, z⟩ := x
  exact z.elim
theorem passF {P : Program} {w : World} {X : Cx} : Passes (L2.CX P w) X (fun _ _ _ => False) := fun _ _ _ _ _ _ _ c => by
  obtain ⟨_, _, _, _, _, _, _, _, _, _, _, _, z⟩ := c
  exact z.elim
structure TxC (K : PySem.W.Frag) (mg : Str → Option Value) : Prop where
  g_is_number : mg "is_number" = some (.ref (He.ga K "is_number"))
  k_is_number : PySem.W.keepIn K (.ref (He.ga K "is_number")) = true
  n_isinstance : mg "isinstance" = none
  n_int : mg "int" = none
  n_bool : mg "bool" = none
  n_list : mg "list" = none
  n_tuple : mg "tuple" = none
  n_set : mg "set" = none
  n_sorted : mg "sorted" = none
  n_len : mg "len" = none
  n_iter : mg "iter" = none
  n_all : mg "all" = none
  g_BadPlace : mg "BadPlace" = some (.ref (He.ga K "BadPlace"))
  g_Lot : mg "Lot" = some (.ref (He.ga K "Lot"))
  cl_Lot : Cls K (He.ga K "Lot")
  ins_Lot : C8.InsC K (He.ga K "Lot")
  mk_Lot : Mk K (He.ga K "Lot") (He.ma K (He.ga K "Lot") "__init__")
  na_places : NoAttr K (He.ga K "Lot") "places"
section
variable {P : Program} {w : World} {K : PySem.W.Frag} {mg : Str → Option Value} {base : Heap}
def spIsNum : Sp := fun vs H Q _ => ∃ i : Int, vs = [.int i] ∧ Q (.bl true) H
abbrev s_is_number : Stmt := top 4
theorem sc_is_number : FnScope ["value"] ["value"] (defScope s_is_number) := ⟨rfl, rfl, rfl, by decide +kernel, rfl, by decide +kernel, by decide +kernel⟩
theorem ok_is_number {fd : FuncData} (F : FunD K "is_number" "is_number" (defArgs s_is_number) (defBody s_is_number) (defScope s_is_number) [] [] (He.ga K "is_number") fd) (T : TxC K mg) : FnOk P w K mg base CX0 1 (He.ga K "is_number") fd ["value"] spIsNum := by
  refine F.ok sc_is_number (fun vs H Q E h => by obtain ⟨i, rfl, _⟩ := h; rfl) (fun cdv A outer s H vs Q E hr h => ?_)
  obtain ⟨i, rfl, q⟩ := h
  refine ⟨_, PSs.nox (pss_one (ps_ret (pe_and (pe_callB call_isi (by rfl) T.n_isinstance (by decide +kernel) (pa_cons (pv 0) (pa_cons (pe_bltn (v := .ty "int") (by rfl) T.n_int (by decide +kernel) rfl) pa_nil))) (pe_one (pe_not (pe_callB call_isi (by rfl) T.n_isinstance (by decide +kernel) (pa_cons (pv 0) (pa_cons (pe_bltn (v := .ty "bool") (by rfl) T.n_bool (by decide +kernel) rfl) pa_nil)))))))), ?_⟩
  refine ⟨_, rfl, .int i, .ty "int", _, _, true, rfl, .ty _, .base (.int i), kit_ty (by decide +kernel), true, rfl, ?_⟩
  refine iteT ?_
  exact ⟨_, rfl, .int i, .ty "bool", _, _, false, rfl, .ty _, .base (.int i), kit_ty (by decide +kernel), false, rfl, q⟩
theorem up_eq : ∀ {a b : List Int}, a.Pairwise (· < ·) → b.Pairwise (· < ·) → (∀ v, v ∈ a ↔ v ∈ b) → a = b
  | [], [], _, _, _ => rfl
  | [], y :: b, _, _, h => absurd ((h y).mpr List.mem_cons_self) (by simp)
  | x :: a, [], _, _, h => absurd ((h x).mp List.mem_cons_self) (by simp)
  | x :: a, y :: b, ha, hb, h => by
    obtain ⟨a1, a2⟩ := List.pairwise_cons.mp ha
    obtain ⟨b1, b2⟩ := List.pairwise_cons.mp hb
    have e : x = y := by
      rcases List.mem_cons.mp ((h x).mp List.mem_cons_self) with e | m1
      · exact e
      · rcases List.mem_cons.mp ((h y).mpr List.mem_cons_self) with e | m2
        · exact e.symm
        · have := b1 x m1
          have := a1 y m2
          omega
    subst e
    rw [up_eq a2 b2 fun v => ?_]
    constructor
    · intro hv
      rcases List.mem_cons.mp ((h v).mp (List.mem_cons_of_mem _ hv)) with e | m
      · have := a1 v hv
        omega
      · exact m
    · intro hv
      rcases List.mem_cons.mp ((h v).mpr (List.mem_cons_of_mem _ hv)) with e | m
      · have := b1 v hv
        omega
      · exact m
theorem setF_eq {a b : List Int} (h : ∀ v, v ∈ a ↔ v ∈ b) : setF a = setF b := up_eq (setF_up a) (setF_up b) fun v => (setF_mem a v).trans ((h v).trans (setF_mem b v).symm)
theorem catA_s {K : PySem.W.Frag} {H : Hp} {a b : Addr} {xs ys : List V} {Q : VK} (ha : SqT K H a xs) (hb : SqT K H b ys) (l : xs.length + ys.length ≤ sizeLine) (k : ∀ (H' : Hp) (c : Addr), Same H H' → SqT K H' c (xs ++ ys) → Q (.ref c) H') : rCatA K (.ref a) (.ref b) H Q :=
  ⟨a, b, xs, ys, rfl, rfl, ha, hb, l, fun e => k H b (Same.refl H) (by rw [e]; exact hb), fun _ e => k H a (Same.refl H) (by rw [e, List.append_nil]; exact ha), fun _ _ p hp => k _ p (same_upd (Same.refl H) hp) (SqT.of upd_same)⟩
/-- the first of a list that fits, ahead of it none -/
theorem filter_first {α : Type} {q : α → Bool} {xs : List α} {j : Nat} {z : α} (hz : xs[j]? = some z) (y : q z = true) (before : ∀ v ∈ xs.take j, q v = false) : xs.filter q = z :: (xs.drop (j + 1)).filter q := by
  have lt := (List.getElem?_eq_some_iff.mp hz).1
  have e : xs = xs.take j ++ z :: xs.drop (j + 1) := by
    conv => lhs; rw [← List.take_append_drop j xs]
    rw [List.drop_eq_getElem_cons lt, (List.getElem?_eq_some_iff.mp hz).2]
  conv => lhs; rw [e]
  rw [List.filter_append, List.filter_cons_of_pos y, List.filter_eq_nil_iff.mpr (fun v hv z => by rw [before v hv] at z; cases z), List.nil_append]
theorem filter_none {α : Type} {q : α → Bool} {xs : List α} (before : ∀ v ∈ xs, q v = false) : xs.filter q = [] := List.filter_eq_nil_iff.mpr fun v hv z => by rw [before v hv] at z; cases z
theorem putF0 (f : Str) (v : V) : putF f v [] = [(f, v)] := rfl
def negs (ns : List Int) : List Int := ns.filter fun v => decide (v < 0)
theorem ints_app (a b : List Int) : a.map V.int ++ b.map V.int = (a ++ b).map V.int := (List.map_append ..).symm
/-- an error of the class C goes out, with v under f -/
def Rz (K : PySem.W.Frag) (E : XK) (C f : Str) (v : V) (H : Hp) : Prop := ∀ (H' : Hp) (d : Addr), H' d = some (.xd [(f, v)]) → Same H H' → E (.ref (He.ga K C)) (some d) H'
theorem SqT.set {K : PySem.W.Frag} {H : Hp} {a c : Addr} {xs ys : List V} {o : HO} (h : SqT K H a xs) (hc : H c = some (.lst ys)) : SqT K (upd H c o) a xs := by
  rcases h with (h | ⟨q, h⟩) | h
  · exact .inl (.inl (by rw [upd_ne (ne_of h hc (by intro z; cases z))]; exact h))
  · exact .inl (.inr ⟨q, by rw [upd_ne (ne_of h hc (by intro z; cases z))]; exact h⟩)
  · exact .inr h
theorem negs_nil {ns : List Int} (h : ∀ v ∈ ns, 0 ≤ v) : negs ns = [] := filter_none fun v hv => decide_eq_false (by have := h v hv; omega)
theorem negs_pos {ns : List Int} (h : negs ns = []) : ∀ v ∈ ns, 0 ≤ v := fun v hv => by
  have := List.filter_eq_nil_iff.mp h v hv
  have h2 : ¬ v < 0 := fun z => this (decide_eq_true z)
  omega
theorem setF_asc {us : List Int} (up : us.Pairwise (· < ·)) : setF us = us := up_eq (setF_up _) up fun v => setF_mem _ v

theorem LotAt.set {K : PySem.W.Frag} {H : Hp} {a c : Addr} {us : List Int} {ys : List V} {o : HO} (h : LotAt K H a us) (hc : H c = some (.lst ys)) : LotAt K (upd H c o) a us := by
  obtain ⟨dx, tx, h1, h2⟩ := h.at_
  exact ⟨dx, tx, by rw [upd_ne (ne_of h1 hc (by intro z; cases z))]; exact h1, SqT.set h2 hc⟩
def spLotInit (K : PySem.W.Frag) : Sp := fun vs H Q E => ∃ (a dx l : Addr) (ns : List Int), vs = [.ref a, .ref l] ∧ H a = some (.ins (He.ga K "Lot") dx []) ∧ (SqL K H l (ns.map V.int) ∨ SqT K H l (ns.map V.int)) ∧ ns.length < 62 ∧
  (∀ z r, negs ns = z :: r → Rz K E "BadPlace" "number" (.int z) H) ∧ (negs ns = [] → ∀ H', But1 a H H' → LotAt K H' a (setF ns) → Q .non H')
def spLotEq (K : PySem.W.Frag) : Sp := fun vs H Q _ => ∃ (a b : Addr) (us us' : List Int), vs = [.ref a, .ref b] ∧ LotAt K H a us ∧ LotAt K H b us' ∧ ∀ H', Same H H' → Q (.bl (decide (us = us'))) H'
theorem sq_same {K : PySem.W.Frag} {H H' : Hp} {l : Addr} {xs : List V} (h : SqL K H l xs ∨ SqT K H l xs) (s : Same H H') : SqL K H' l xs ∨ SqT K H' l xs := h.imp (fun h => Same.seq s h) fun h => h.ext s
theorem make_lot {K : PySem.W.Frag} {H : Hp} {x dx l : Addr} {ns : List Int} {R : VK} {E : XK} (hx : H x = none) (hdx : H dx = none) (h1 : SqL K H l (ns.map V.int) ∨ SqT K H l (ns.map V.int)) (l1 : ns.length < 62)
    (r1 : ∀ z r, negs ns = z :: r → Rz K E "BadPlace" "number" (.int z) H) (k : negs ns = [] → ∀ H', Same H H' → LotAt K H' x (setF ns) → R .non H') :
    spLotInit K [.ref x, .ref l] (upd (upd H dx (.own x)) x (.ins (He.ga K "Lot") dx [])) R E := by
  have s0 : Same H (upd (upd H dx (.own x)) x (.ins (He.ga K "Lot") dx [])) := fun b o h => by
    rw [upd_ne (ne_of_none h hx), upd_ne (ne_of_none h hdx)]
    exact h
  exact ⟨x, dx, l, ns, rfl, upd_same, sq_same h1 s0, l1, fun z r e H' d hd s => r1 z r e H' d hd (s0.trans s), fun e H' b W => k e H' (fun c o h => b c o (ne_of_none h hx) (s0 c o h)) W⟩
abbrev s_Lot_init : Stmt := inClass (top 6) 0
theorem sc_Lot_init : FnScope ["self", "places", "numbers", "number"] ["self", "places"] (defScope s_Lot_init) := ⟨rfl, rfl, rfl, by decide +kernel, rfl, by decide +kernel, by decide +kernel⟩
theorem ok_Lot_init {fd : FuncData} (F : FunD K "__init__" "Lot.__init__" (defArgs s_Lot_init) (defBody s_Lot_init) (defScope s_Lot_init) [] [] (He.ma K (He.ga K "Lot") "__init__") fd) (T : TxC K mg) (I_BadPlace : ErrI P w K mg base (He.ga K "BadPlace") "number") (d_is_number : Okd P w K mg base CX0 1 (He.ga K "is_number") ["value"] spIsNum) : FnOk P w K mg base (L2.CX P w) 3 (He.ma K (He.ga K "Lot") "__init__") fd ["self", "places"] (spLotInit K) := by
  obtain ⟨fd_is_number, G_is_number, b_is_number⟩ := d_is_number
  refine F.ok sc_Lot_init (fun vs H Q E h => by obtain ⟨a, dx, l, ns, rfl, _⟩ := h; rfl) (fun cdv A outer s H vs Q E hr h => ?_)
  obtain ⟨a, dx, l, ns, rfl, hA, h1, f1, r1, r2⟩ := h
  refine ⟨_,  (pss_cons (ps_set (i := 2) sc_Lot_init.nd rfl (Or.inl rfl) (pe_callTy call_list_of (by rfl) T.n_list (by decide +kernel) (pa_cons (pv 1) pa_nil)))
    (pss_cons (ps_for (passes_of rfl) rfl (pi_list (pv 2)) (pg_name (i := 3) sc_Lot_init.nd rfl (Or.inl rfl))
      (pss_one (ps_if (PW.pt (pw_or (pt_not (pt_val (pe_call G_is_number (hr.mono (by decide)) (by rfl) T.g_is_number T.k_is_number b_is_number .nil pass0 (pa_cons (pv 3) pa_nil)))) (pw_or1 (pt_cmpR op_lt (pv 3) pe_int (nomark _))))) (pss_one (ps_raise rfl (takes_of rfl rfl rfl rfl) (pmk_errF I_BadPlace (hr.mono (by decide)) (by rfl) T.g_BadPlace (pa_cons (pv 3) pa_nil)))) pss_nil)))
    (pss_one (ps_fld (pv 0) (pe_callTy call_tupleQ (by rfl) T.n_tuple (by decide +kernel) (pa_cons (pe_callB (cr_sortedSet rfl) (by rfl) T.n_sorted (by decide +kernel) (pa_cons (pe_callTy (cr_setJ rfl) (by rfl) T.n_set (by decide +kernel) (pa_cons (pv 2) pa_nil)) pa_nil)) pa_nil)) rfl)))), ?_⟩
  refine ⟨_, rfl, l, _, rfl, h1, fun f hf => ?_⟩
  have s03 := same_upd (o := .lst (ns.map V.int)) (Same.refl H) hf
  have hf3 : (upd H f (.lst (ns.map V.int))) f = some (.lst (ns.map V.int)) := upd_same
  revert s03 hf3
  generalize upd H f (.lst (ns.map V.int)) = H3
  intro s03 hf3
  refine ⟨_, rfl, f, rfl, ⟨_, SqL.of hf3⟩, for_list (K := K) (a := f) (xs := ns.map V.int) (fun j σ' H' => ∃ v3 : Option V, σ' = [some (.ref a), some (.ref l), some (.ref f), v3] ∧ H' = H3 ∧ ∀ v ∈ ns.take j, decide (v < 0) = false)
    ⟨none, rfl, rfl, fun v hv => by simp at hv⟩ (fun j σ' H' _ h => by obtain ⟨_, _, rfl, _⟩ := h; exact SqL.of hf3) ?_ ?_⟩
  · rintro j x σ' H' hj ⟨v5, rfl, rfl, before⟩
    obtain ⟨z, hz, rfl⟩ := int_at hj
    refine ⟨_, rfl, z, rfl, _, rfl, ?_⟩
    refine iteF ?_
    refine ⟨_, rfl, _, _, rfl, rfl, _, rfl, ?_⟩
    by_cases neg : z < 0
    · rw [decide_eq_true neg]
      exact iteT ⟨_, rfl, _, rfl, fun d H2' _ hx s => r1 z _ (filter_first hz (decide_eq_true neg) before) H2' d hx (s03.trans s)⟩
    · rw [decide_eq_false neg]
      refine iteF ⟨_, rfl, rfl, fun v hv => ?_⟩
      rw [take_next hz] at hv
      rcases List.mem_append.mp hv with hv | hv
      · exact before v hv
      · rw [List.mem_singleton.mp hv]
        exact decide_eq_false neg
  rintro σ' H' ⟨v5, rfl, rfl, before⟩
  rw [List.length_map, List.take_length] at before
  have nn : negs ns = [] := filter_none before
  clear before
  have hA3 := s03 _ _ hA
  have b3 := But1.of (w0 := a) s03
  refine ⟨_, rfl, f, ns, rfl, .inl (SqL.of hf3), by omega, fun sa k hsa hk => ?_⟩
  refine ⟨sa, _, k, rfl, upd_same, by omega, fun ys q1 pw mem len hq1 => ?_⟩
  have e1 : ys = setF ns := up_eq pw (setF_up ns) fun v => ((mem v).trans decide_eq_true_iff).trans (setF_mem ns v).symm
  subst e1
  refine ⟨q1, _, rfl, .inl upd_same, fun ts H4 s4 hts => ?_⟩
  have s34 := (same_upd (same_upd (Same.refl _) hsa) hq1).trans s4
  have hA4 := s34 _ _ hA3
  refine ⟨_, rfl, a, _, dx, _, rfl, hA4, T.cl_Lot, T.na_places, by decide, ?_⟩
  have b4 := (b3.trans (But1.of s34)).trans (But1.set (o := .ins (He.ga K "Lot") dx (putF "places" (.ref ts) [])))
  have c4 := But1.set (w0 := a) (H := H4) (o := .ins (He.ga K "Lot") dx (putF "places" (.ref ts) []))
  have hts5 := c4 _ _ (ne_of hts hA4 (by intro z; cases z)) hts
  exact r2 nn _ b4 ⟨dx, ts, upd_same, SqT.of hts5⟩
abbrev s_Lot_eq : Stmt := inClass (top 6) 1
theorem sc_Lot_eq : FnScope ["self", "other"] ["self", "other"] (defScope s_Lot_eq) := ⟨rfl, rfl, rfl, by decide +kernel, rfl, by decide +kernel, by decide +kernel⟩
theorem ok_Lot_eq {fd : FuncData} (F : FunD K "__eq__" "Lot.__eq__" (defArgs s_Lot_eq) (defBody s_Lot_eq) (defScope s_Lot_eq) [] [] (He.ma K (He.ga K "Lot") "__eq__") fd) (T : TxC K mg) : FnOk P w K mg base CX0 1 (He.ma K (He.ga K "Lot") "__eq__") fd ["self", "other"] (spLotEq K) := by
  refine F.ok sc_Lot_eq (fun vs H Q E h => by obtain ⟨a, b, us, us', rfl, _⟩ := h; rfl) (fun cdv A outer s H vs Q E hr h => ?_)
  obtain ⟨a, b, us, us', rfl, hA, hB, q⟩ := h
  refine ⟨_, PSs.nox (pss_one (ps_ret (pe_and (pe_callB (C8.call_isC T.ins_Lot) (by rfl) T.n_isinstance (by decide +kernel) (pa_cons (pv 1) (pa_cons (pe_glob (v := .ref (He.ga K "Lot")) rfl T.g_Lot rfl) pa_nil))) (pe_one (pe_cmpR (op_eqD hr.units) (pe_fld (pv 0) rfl) (pe_fld (pv 1) rfl) (nomark _)))))), ?_⟩
  obtain ⟨dx, ts, h1, h2⟩ := hA.at_
  obtain ⟨dy, ts', i1, i2⟩ := hB.at_
  have q := q H (Same.refl H)
  refine ⟨_, rfl, b, dy, _, rfl, i1, _, rfl, ?_⟩
  refine iteT ?_
  refine ⟨_, rfl, a, _, dx, _, _, rfl, h1, T.cl_Lot, T.na_places, rfl, _, rfl, b, _, dy, _, _, rfl, i1, T.cl_Lot, T.na_places, rfl, _, _, .tup h2 (dp_ints us), .tup i2 (dp_ints us'), shaped_ints _, shaped_ints _, ?_⟩
  rw [show PyData.eqv (.tuple (us.map PyData.int)) (.tuple (us'.map PyData.int)) = decide (us = us') from eqv_ints _ _]
  exact q
abbrev s_Lot_len : Stmt := inClass (top 6) 7
theorem sc_Lot_len : FnScope ["self"] ["self"] (defScope s_Lot_len) := ⟨rfl, rfl, rfl, by decide +kernel, rfl, by decide +kernel, by decide +kernel⟩
theorem ok_Lot_len {fd : FuncData} (F : FunD K "__len__" "Lot.__len__" (defArgs s_Lot_len) (defBody s_Lot_len) (defScope s_Lot_len) [] [] (He.ma K (He.ga K "Lot") "__len__") fd) (T : TxC K mg) : FnOk P w K mg base CX0 1 (He.ma K (He.ga K "Lot") "__len__") fd ["self"] (spLotLen K) := by
  refine F.ok sc_Lot_len (fun vs H Q E h => by obtain ⟨a, us, rfl, _⟩ := h; rfl) (fun cdv A outer s H vs Q E hr h => ?_)
  obtain ⟨a, us, rfl, hA, few, q⟩ := h
  refine ⟨_, PSs.nox (pss_one (ps_ret (pe_callB call_len_seq (by rfl) T.n_len PySem.boot_len (pa_cons (pe_fld (pv 0) rfl) pa_nil)))), ?_⟩
  obtain ⟨dx, ts, h1, h2⟩ := hA.at_
  refine ⟨_, rfl, a, _, dx, _, _, rfl, h1, T.cl_Lot, T.na_places, rfl, ts, _, rfl, .inr h2, ?_⟩
  rw [List.length_map]
  exact q H (Same.refl H)
abbrev s_Lot_contains : Stmt := inClass (top 6) 6
theorem sc_Lot_contains : FnScope ["self", "place"] ["self", "place"] (defScope s_Lot_contains) := ⟨rfl, rfl, rfl, by decide +kernel, rfl, by decide +kernel, by decide +kernel⟩
theorem ok_Lot_contains {fd : FuncData} (F : FunD K "__contains__" "Lot.__contains__" (defArgs s_Lot_contains) (defBody s_Lot_contains) (defScope s_Lot_contains) [] [] (He.ma K (He.ga K "Lot") "__contains__") fd) (T : TxC K mg) : FnOk P w K mg base CX0 1 (He.ma K (He.ga K "Lot") "__contains__") fd ["self", "place"] (spLotIn K) := by
  refine F.ok sc_Lot_contains (fun vs H Q E h => by obtain ⟨a, v, us, rfl, _⟩ := h; rfl) (fun cdv A outer s H vs Q E hr h => ?_)
  obtain ⟨a, v, us, rfl, hA, few, q⟩ := h
  refine ⟨_, PSs.nox (pss_one (ps_ret (pe_cmpR op_in_seq (pv 1) (pe_fld (pv 0) rfl) (by first | exact nomark _ | rfl)))), ?_⟩
  obtain ⟨dx, ts, h1, h2⟩ := hA.at_
  refine ⟨_, rfl, _, rfl, a, _, dx, _, _, rfl, h1, T.cl_Lot, T.na_places, rfl, ts, _, rfl, .inr h2, rfl, flat_ints us, ?_⟩
  rw [inV_ints]
  exact q H (Same.refl H)
abbrev s_Lot_iter : Stmt := inClass (top 6) 8
theorem sc_Lot_iter : FnScope ["self"] ["self"] (defScope s_Lot_iter) := ⟨rfl, rfl, rfl, by decide +kernel, rfl, by decide +kernel, by decide +kernel⟩
theorem okn_Lot_iter {fd : FuncData} (F : FunD K "__iter__" "Lot.__iter__" (defArgs s_Lot_iter) (defBody s_Lot_iter) (defScope s_Lot_iter) [] [] (He.ma K (He.ga K "Lot") "__iter__") fd) (T : TxC K mg) : FnN P w K mg base CX0 1 (He.ma K (He.ga K "Lot") "__iter__") fd ["self"] (spIterN (He.ga K "Lot") "places" K) := by
  refine FnN.of F sc_Lot_iter (fun n vs H Q E h => by obtain ⟨a, dx, l, fs, zs, rfl, _⟩ := h; rfl) (fun cdv A outer s H vs Q E hr h => ?_)
  obtain ⟨a, dx, l, fs, zs, rfl, ha, hl, hz, q⟩ := h
  refine ⟨_, PSs.nox (pss_one (ps_ret (pe_callB call_iterT (by rfl) T.n_iter (by decide +kernel) (pa_cons (pe_fld (pv 0) rfl) pa_nil)))), ?_⟩
  exact ⟨_, rfl, a, _, dx, _, _, rfl, ha, T.cl_Lot, T.na_places, hl, l, zs, rfl, hz, fun it h0 hn => q it h0 hn⟩

def spLotLe (K : PySem.W.Frag) : Sp := fun vs H Q _ => ∃ (a b : Addr) (us us' : List Int), vs = [.ref a, .ref b] ∧ LotAt K H a us ∧ LotAt K H b us' ∧ us.length < 62 ∧ ∀ H', Same H H' → Q (.bl (us.all fun v => decide (v ∈ us'))) H'
/-- a new lot of the places that two lots give -/
def spLot2 (K : PySem.W.Frag) (f : List Int → List Int → List Int) : Sp := fun vs H Q _ => ∃ (a b : Addr) (us us' : List Int), vs = [.ref a, .ref b] ∧ LotAt K H a us ∧ LotAt K H b us' ∧ us.length + us'.length < 62 ∧ (∀ v ∈ us, 0 ≤ v) ∧ (∀ v ∈ us', 0 ≤ v) ∧ ∀ H' x, Same H H' → LotAt K H' x (setF (f us us')) → H x = none → Q (.ref x) H'
def orF (us us' : List Int) : List Int := us ++ us'
def andF (us us' : List Int) : List Int := us.filter fun v => decide (v ∈ us')
def subF (us us' : List Int) : List Int := us.filter fun v => !decide (v ∈ us')
abbrev s_Lot_le : Stmt := inClass (top 6) 2
theorem sc_Lot_le : FnScope ["self", "other", "place"] ["self", "other"] (defScope s_Lot_le) := ⟨rfl, rfl, rfl, by decide +kernel, rfl, by decide +kernel, by decide +kernel⟩
theorem ok_Lot_le {fd : FuncData} (F : FunD K "__le__" "Lot.__le__" (defArgs s_Lot_le) (defBody s_Lot_le) (defScope s_Lot_le) [] [] (He.ma K (He.ga K "Lot") "__le__") fd) (T : TxC K mg) : FnOk P w K mg base CX0 1 (He.ma K (He.ga K "Lot") "__le__") fd ["self", "other"] (spLotLe K) := by
  refine F.ok sc_Lot_le (fun vs H Q E h => by obtain ⟨a, b, us, us', rfl, _⟩ := h; rfl) (fun cdv A outer s H vs Q E hr h => ?_)
  obtain ⟨a, b, us, us', rfl, hA, hB, few, q⟩ := h
  refine ⟨_, PSs.nox (pss_cons (ps_if (pt_not (pt_val (pe_callB (C8.call_isC T.ins_Lot) (by rfl) T.n_isinstance (by decide +kernel) (pa_cons (pv 1) (pa_cons (pe_glob (v := .ref (He.ga K "Lot")) rfl T.g_Lot rfl) pa_nil))))) (pss_one ps_never) pss_nil)
    (pss_one (ps_ret (pe_callB (cr_all rfl) (by rfl) T.n_all (by decide +kernel) (pa_cons (pe_lc (own := [("place", 2)]) (g := gName 2) (tt := tYes) rfl sc_Lot_le.nd (pi_tup (pe_fld (pv 0) rfl)) (blkOk_by (own := [("place", 2)]) (N := ["self", "other", "place"]) (sc := defScope s_Lot_le) (by decide +kernel)) (fun _ _ _ _ _ => (pg_name (i := 2) sc_Lot_le.nd rfl (Or.inl rfl))) (fun _ _ _ _ _ => pts_nil) (fun _ _ _ _ _ => (pe_cmpR (r := rIn K false) (tb := tFld K (tVar 1) "places") op_in_seq (pv 2) (pe_fld (pv 1) rfl) (by first | exact nomark _ | rfl)))) pa_nil))))), ?_⟩
  obtain ⟨dx, ts, h1, h2⟩ := hA.at_
  obtain ⟨dy, ts', i1, i2⟩ := hB.at_
  refine ⟨_, rfl, b, dy, _, rfl, i1, _, rfl, ?_⟩
  refine iteF ?_
  refine ⟨_, rfl, a, _, dx, _, _, rfl, h1, T.cl_Lot, T.na_places, rfl, ts, rfl, ⟨_, h2⟩, fun D hD => lc_tup (K := K) (a := ts) (xs := us.map V.int) (fun j H' => Same H H' ∧ H' D = some (.lst (((us.take j).map fun v => decide (v ∈ us')).map V.bl)))
    ⟨same_upd (Same.refl H) hD, upd_same⟩ (fun j H' _ h => h2.ext h.1) ?_ ?_⟩
  · rintro j x H1 hj ⟨s1, hd⟩
    obtain ⟨z, hz, rfl⟩ := int_at hj
    have lt := (List.getElem?_eq_some_iff.mp hz).1
    refine ⟨rfl, _, rfl, _, rfl, b, _, dy, _, _, rfl, s1 _ _ i1, T.cl_Lot, T.na_places, rfl, ts', _, rfl, .inr (i2.ext s1), rfl, flat_ints _, ?_⟩
    rw [inV_ints]
    refine ⟨_, hd, ?_, fun b o h => ?_, ?_⟩
    · rw [List.length_map, List.length_map, List.length_take]
      exact Nat.lt_of_le_of_lt (show min j us.length ≤ 64 by omega) (by decide)
    · rw [upd_ne (ne_of_none h hD)]
      exact s1 b o h
    · rw [upd_same, take_next hz, List.map_append, List.map_append]
      rfl
  rintro H1 ⟨s1, hd⟩
  rw [List.length_map, List.take_length] at hd
  refine ⟨D, _, rfl, SqL.of hd, ?_⟩
  have e : (us.map fun v => decide (v ∈ us')).all id = us.all fun v => decide (v ∈ us') := by rw [List.all_map]; rfl
  rw [e]
  exact q H1 s1
abbrev s_Lot_or : Stmt := inClass (top 6) 3
theorem sc_Lot_or : FnScope ["self", "other"] ["self", "other"] (defScope s_Lot_or) := ⟨rfl, rfl, rfl, by decide +kernel, rfl, by decide +kernel, by decide +kernel⟩
theorem ok_Lot_or {fd : FuncData} (F : FunD K "__or__" "Lot.__or__" (defArgs s_Lot_or) (defBody s_Lot_or) (defScope s_Lot_or) [] [] (He.ma K (He.ga K "Lot") "__or__") fd) (T : TxC K mg) (d_init : Okd P w K mg base (L2.CX P w) 3 (He.ma K (He.ga K "Lot") "__init__") ["self", "places"] (spLotInit K)) : FnOk P w K mg base CX0 5 (He.ma K (He.ga K "Lot") "__or__") fd ["self", "other"] (spLot2 K orF) := by
  obtain ⟨fd_init, G_init, b_init⟩ := d_init
  refine F.ok sc_Lot_or (fun vs H Q E h => by obtain ⟨a, b, us, us', rfl, _⟩ := h; rfl) (fun cdv A outer s H vs Q E hr h => ?_)
  obtain ⟨a, b, us, us', rfl, hA, hB, few, p1, p2, q⟩ := h
  refine ⟨_, PSs.nox (pss_cons (ps_if (pt_not (pt_val (pe_callB (C8.call_isC T.ins_Lot) (by rfl) T.n_isinstance (by decide +kernel) (pa_cons (pv 1) (pa_cons (pe_glob (v := .ref (He.ga K "Lot")) rfl T.g_Lot rfl) pa_nil))))) (pss_one ps_never) pss_nil)
    (pss_one (ps_ret (pe_make T.mk_Lot G_init (hr.mono (by decide)) (by rfl) T.g_Lot b_init .nil passF (pa_cons (pe_op op_catA (pe_fld (pv 0) rfl) (pe_fld (pv 1) rfl)) pa_nil))))), ?_⟩
  obtain ⟨dx, ts, h1, h2⟩ := hA.at_
  obtain ⟨dy, ts', i1, i2⟩ := hB.at_
  refine ⟨_, rfl, b, dy, _, rfl, i1, _, rfl, ?_⟩
  refine iteF ?_
  refine ⟨_, rfl, a, _, dx, _, _, rfl, h1, T.cl_Lot, T.na_places, rfl, _, rfl, b, _, dy, _, _, rfl, i1, T.cl_Lot, T.na_places, rfl, ?_⟩
  refine catA_s h2 i2 (by rw [List.length_map, List.length_map]; exact Nat.le_trans (show us.length + us'.length ≤ 64 by omega) (by decide)) fun H1 c s1 hc => ?_
  rw [ints_app] at hc
  refine fun x dx' hx hdx ne => ?_
  refine make_lot hx hdx (.inr hc) (by rw [List.length_append]; omega) (fun z r e => by rw [negs_nil (fun v hv => (List.mem_append.mp hv).elim (p1 v) (p2 v))] at e; cases e) fun _ H2 s2 W => ⟨rfl, q H2 x (s1.trans s2) W (s1.free hx)⟩
abbrev s_Lot_and : Stmt := inClass (top 6) 4
theorem sc_Lot_and : FnScope ["self", "other", "place"] ["self", "other"] (defScope s_Lot_and) := ⟨rfl, rfl, rfl, by decide +kernel, rfl, by decide +kernel, by decide +kernel⟩
theorem ok_Lot_and {fd : FuncData} (F : FunD K "__and__" "Lot.__and__" (defArgs s_Lot_and) (defBody s_Lot_and) (defScope s_Lot_and) [] [] (He.ma K (He.ga K "Lot") "__and__") fd) (T : TxC K mg) (d_init : Okd P w K mg base (L2.CX P w) 3 (He.ma K (He.ga K "Lot") "__init__") ["self", "places"] (spLotInit K)) : FnOk P w K mg base CX0 5 (He.ma K (He.ga K "Lot") "__and__") fd ["self", "other"] (spLot2 K andF) := by
  obtain ⟨fd_init, G_init, b_init⟩ := d_init
  refine F.ok sc_Lot_and (fun vs H Q E h => by obtain ⟨a, b, us, us', rfl, _⟩ := h; rfl) (fun cdv A outer s H vs Q E hr h => ?_)
  obtain ⟨a, b, us, us', rfl, hA, hB, few, p1, p2, q⟩ := h
  refine ⟨_, PSs.nox (pss_cons (ps_if (pt_not (pt_val (pe_callB (C8.call_isC T.ins_Lot) (by rfl) T.n_isinstance (by decide +kernel) (pa_cons (pv 1) (pa_cons (pe_glob (v := .ref (He.ga K "Lot")) rfl T.g_Lot rfl) pa_nil))))) (pss_one ps_never) pss_nil)
    (pss_one (ps_ret (pe_make T.mk_Lot G_init (hr.mono (by decide)) (by rfl) T.g_Lot b_init .nil passF (pa_cons (pe_lc (own := [("place", 2)]) (g := gName 2)  rfl sc_Lot_and.nd (pi_tup (pe_fld (pv 0) rfl)) (blkOk_by (own := [("place", 2)]) (N := ["self", "other", "place"]) (sc := defScope s_Lot_and) (by decide +kernel)) (fun _ _ _ _ _ => (pg_name (i := 2) sc_Lot_and.nd rfl (Or.inl rfl))) (fun _ _ _ _ _ => (pts_one (pt_cmpR (r := rIn K false) (tb := tFld K (tVar 1) "places") op_in_seq (pv 2) (pe_fld (pv 1) rfl) (by first | exact nomark _ | rfl)))) (fun _ _ _ _ _ => (pv 2))) pa_nil))))), ?_⟩
  obtain ⟨dx, ts, h1, h2⟩ := hA.at_
  obtain ⟨dy, ts', i1, i2⟩ := hB.at_
  refine ⟨_, rfl, b, dy, _, rfl, i1, _, rfl, ?_⟩
  refine iteF ?_
  refine ⟨_, rfl, a, _, dx, _, _, rfl, h1, T.cl_Lot, T.na_places, rfl, ts, rfl, ⟨_, h2⟩, fun D hD => lc_tup (K := K) (a := ts) (xs := us.map V.int) (fun j H' => ∃ cs : List Int, Same H H' ∧ H' D = some (.lst (cs.map V.int)) ∧ cs = (us.take j).filter fun v => decide (v ∈ us'))
    ⟨[], same_upd (Same.refl H) hD, upd_same, rfl⟩ (fun j H' _ h => by obtain ⟨_, s, _⟩ := h; exact h2.ext s) ?_ ?_⟩
  · rintro j x H1 hj ⟨cs, s1, hd, ec⟩
    obtain ⟨z, hz, rfl⟩ := int_at hj
    have lc : cs.length ≤ 64 := by
      have := List.length_filter_le (fun v => decide (v ∈ us')) (us.take j)
      rw [← ec, List.length_take] at this
      omega
    refine ⟨rfl, _, rfl, _, rfl, b, _, dy, _, _, rfl, s1 _ _ i1, T.cl_Lot, T.na_places, rfl, ts', _, rfl, .inr (i2.ext s1), rfl, flat_ints _, _, rfl, ?_⟩
    rw [inV_ints]
    refine iteB (fun yes => ⟨_, rfl, _, hd, ?_, cs ++ [z], fun b o h => ?_, ?_, ?_⟩) (fun no => ⟨cs, s1, hd, ?_⟩)
    · rw [List.length_map]
      exact Nat.lt_of_le_of_lt lc (by decide)
    · rw [upd_ne (ne_of_none h hD)]
      exact s1 b o h
    · rw [upd_same, List.map_append]
      rfl
    · rw [take_next hz, List.filter_append, ← ec, List.filter_cons_of_pos (by exact yes)]
      rfl
    · rw [take_next hz, List.filter_append, ← ec, List.filter_cons_of_neg (by rw [show (decide (z ∈ us')) = false from no]; exact Bool.false_ne_true)]
      simp
  rintro H1 ⟨cs, s1, hd, ec⟩
  rw [List.length_map, List.take_length] at ec
  refine fun x dx' hx hdx ne => ?_
  have lc : cs.length ≤ us.length := by rw [ec]; exact List.length_filter_le _ us
  have pc : ∀ v ∈ cs, 0 ≤ v := fun v hv => p1 v (List.mem_filter.mp (ec ▸ hv)).1
  refine make_lot hx hdx (.inl (SqL.of hd)) (by omega) (fun z r e => by rw [negs_nil pc] at e; cases e) fun _ H2 s2 W => ⟨rfl, q H2 x (s1.trans s2) (by rw [show andF us us' = cs from ec.symm]; exact W) (s1.free hx)⟩
abbrev s_Lot_sub : Stmt := inClass (top 6) 5
theorem sc_Lot_sub : FnScope ["self", "other", "place"] ["self", "other"] (defScope s_Lot_sub) := ⟨rfl, rfl, rfl, by decide +kernel, rfl, by decide +kernel, by decide +kernel⟩
theorem ok_Lot_sub {fd : FuncData} (F : FunD K "__sub__" "Lot.__sub__" (defArgs s_Lot_sub) (defBody s_Lot_sub) (defScope s_Lot_sub) [] [] (He.ma K (He.ga K "Lot") "__sub__") fd) (T : TxC K mg) (d_init : Okd P w K mg base (L2.CX P w) 3 (He.ma K (He.ga K "Lot") "__init__") ["self", "places"] (spLotInit K)) : FnOk P w K mg base CX0 5 (He.ma K (He.ga K "Lot") "__sub__") fd ["self", "other"] (spLot2 K subF) := by
  obtain ⟨fd_init, G_init, b_init⟩ := d_init
  refine F.ok sc_Lot_sub (fun vs H Q E h => by obtain ⟨a, b, us, us', rfl, _⟩ := h; rfl) (fun cdv A outer s H vs Q E hr h => ?_)
  obtain ⟨a, b, us, us', rfl, hA, hB, few, p1, p2, q⟩ := h
  refine ⟨_, PSs.nox (pss_cons (ps_if (pt_not (pt_val (pe_callB (C8.call_isC T.ins_Lot) (by rfl) T.n_isinstance (by decide +kernel) (pa_cons (pv 1) (pa_cons (pe_glob (v := .ref (He.ga K "Lot")) rfl T.g_Lot rfl) pa_nil))))) (pss_one ps_never) pss_nil)
    (pss_one (ps_ret (pe_make T.mk_Lot G_init (hr.mono (by decide)) (by rfl) T.g_Lot b_init .nil passF (pa_cons (pe_lc (own := [("place", 2)]) (g := gName 2)  rfl sc_Lot_sub.nd (pi_tup (pe_fld (pv 0) rfl)) (blkOk_by (own := [("place", 2)]) (N := ["self", "other", "place"]) (sc := defScope s_Lot_sub) (by decide +kernel)) (fun _ _ _ _ _ => (pg_name (i := 2) sc_Lot_sub.nd rfl (Or.inl rfl))) (fun _ _ _ _ _ => (pts_one (pt_cmpR (r := rIn K true) (tb := tFld K (tVar 1) "places") op_notIn_seq (pv 2) (pe_fld (pv 1) rfl) (by first | exact nomark _ | rfl)))) (fun _ _ _ _ _ => (pv 2))) pa_nil))))), ?_⟩
  obtain ⟨dx, ts, h1, h2⟩ := hA.at_
  obtain ⟨dy, ts', i1, i2⟩ := hB.at_
  refine ⟨_, rfl, b, dy, _, rfl, i1, _, rfl, ?_⟩
  refine iteF ?_
  refine ⟨_, rfl, a, _, dx, _, _, rfl, h1, T.cl_Lot, T.na_places, rfl, ts, rfl, ⟨_, h2⟩, fun D hD => lc_tup (K := K) (a := ts) (xs := us.map V.int) (fun j H' => ∃ cs : List Int, Same H H' ∧ H' D = some (.lst (cs.map V.int)) ∧ cs = (us.take j).filter fun v => !decide (v ∈ us'))
    ⟨[], same_upd (Same.refl H) hD, upd_same, rfl⟩ (fun j H' _ h => by obtain ⟨_, s, _⟩ := h; exact h2.ext s) ?_ ?_⟩
  · rintro j x H1 hj ⟨cs, s1, hd, ec⟩
    obtain ⟨z, hz, rfl⟩ := int_at hj
    have lc : cs.length ≤ 64 := by
      have := List.length_filter_le (fun v => !decide (v ∈ us')) (us.take j)
      rw [← ec, List.length_take] at this
      omega
    refine ⟨rfl, _, rfl, _, rfl, b, _, dy, _, _, rfl, s1 _ _ i1, T.cl_Lot, T.na_places, rfl, ts', _, rfl, .inr (i2.ext s1), rfl, flat_ints _, _, rfl, ?_⟩
    rw [inV_ints]
    refine iteB (fun yes => ⟨_, rfl, _, hd, ?_, cs ++ [z], fun b o h => ?_, ?_, ?_⟩) (fun no => ⟨cs, s1, hd, ?_⟩)
    · rw [List.length_map]
      exact Nat.lt_of_le_of_lt lc (by decide)
    · rw [upd_ne (ne_of_none h hD)]
      exact s1 b o h
    · rw [upd_same, List.map_append]
      rfl
    · rw [take_next hz, List.filter_append, ← ec, List.filter_cons_of_pos (by exact yes)]
      rfl
    · rw [take_next hz, List.filter_append, ← ec, List.filter_cons_of_neg (by rw [show (!decide (z ∈ us')) = false from no]; exact Bool.false_ne_true)]
      simp
  rintro H1 ⟨cs, s1, hd, ec⟩
  rw [List.length_map, List.take_length] at ec
  refine fun x dx' hx hdx ne => ?_
  have lc : cs.length ≤ us.length := by rw [ec]; exact List.length_filter_le _ us
  have pc : ∀ v ∈ cs, 0 ≤ v := fun v hv => p1 v (List.mem_filter.mp (ec ▸ hv)).1
  refine make_lot hx hdx (.inl (SqL.of hd)) (by omega) (fun z r e => by rw [negs_nil pc] at e; cases e) fun _ H2 s2 W => ⟨rfl, q H2 x (s1.trans s2) (by rw [show subF us us' = cs from ec.symm]; exact W) (s1.free hx)⟩
end
structure TxP (K : PySem.W.Frag) (mg : Str → Option Value) : Prop where
  g__law_pool : mg "_law_pool" = some (.ref (He.ga K "_law_pool"))
  k__law_pool : PySem.W.keepIn K (.ref (He.ga K "_law_pool")) = true
  g__law_draw : mg "_law_draw" = some (.ref (He.ga K "_law_draw"))
  k__law_draw : PySem.W.keepIn K (.ref (He.ga K "_law_draw")) = true
  g__law_after : mg "_law_after" = some (.ref (He.ga K "_law_after"))
  k__law_after : PySem.W.keepIn K (.ref (He.ga K "_law_after")) = true
  g__law_right : mg "_law_right" = some (.ref (He.ga K "_law_right"))
  k__law_right : PySem.W.keepIn K (.ref (He.ga K "_law_right")) = true
  g_law : mg "law" = some (.ref (He.ga K "law"))
  k_law : PySem.W.keepIn K (.ref (He.ga K "law")) = true
  n_len : mg "len" = none
  n_range : mg "range" = none
  n_abs : mg "abs" = none
  n_int : mg "int" = none
  n_list : mg "list" = none
  n_tuple : mg "tuple" = none
  n_isinstance : mg "isinstance" = none
  n_bool : mg "bool" = none
  g_Lot : mg "Lot" = some (.ref (He.ga K "Lot"))
  cl_Lot : Cls K (He.ga K "Lot")
  mk_Lot : Mk K (He.ga K "Lot") (He.ma K (He.ga K "Lot") "__init__")
  na_places : NoAttr K (He.ga K "Lot") "places"
  sf_Lot : PySem.W.selfFirst K (He.ga K "Lot") = true
  o_len : Own1 K (He.ga K "Lot") (He.ma K (He.ga K "Lot") "__len__") "__len__"
  o_eq : Own1 K (He.ga K "Lot") (He.ma K (He.ga K "Lot") "__eq__") "__eq__"
  o_contains : Own1 K (He.ga K "Lot") (He.ma K (He.ga K "Lot") "__contains__") "__contains__"
  o_iter : Own1 K (He.ga K "Lot") (He.ma K (He.ga K "Lot") "__iter__") "__iter__"
  o_le : Own1 K (He.ga K "Lot") (He.ma K (He.ga K "Lot") "__le__") "__le__"
  o_or : Own1 K (He.ga K "Lot") (He.ma K (He.ga K "Lot") "__or__") "__or__"
  o_and : Own1 K (He.ga K "Lot") (He.ma K (He.ga K "Lot") "__and__") "__and__"
  o_sub : Own1 K (He.ga K "Lot") (He.ma K (He.ga K "Lot") "__sub__") "__sub__"
section
variable {P : Program} {w : World} {K : PySem.W.Frag} {mg : Str → Option Value} {base : Heap}

theorem But1.none {p q : Addr} {H H' : Hp} (b : But1 p H H') (n : H' q = none) (ne : q ≠ p) : H q = none := by
  cases h : H q with
  | none => rfl
  | some o =>
    have := b q o ne h
    rw [n] at this
    cases this
theorem LotAt.but {K : PySem.W.Frag} {H H' : Hp} {p a : Addr} {b : Nat} {us : List Int} (h : LotAt K H a us) (P : PoolAt K H p b) (s : But1 p H H') : LotAt K H' a us := by
  obtain ⟨dx, tx, h1, h2⟩ := h.at_
  obtain ⟨_, _, _, _, _, _, _, hp, _⟩ := P
  refine ⟨dx, tx, s _ _ (ne_of h1 hp (by intro z; cases z)) h1, ?_⟩
  rcases h2 with (h | ⟨q, h⟩) | h
  · exact .inl (.inl (s _ _ (ne_of h hp (by intro z; cases z)) h))
  · exact .inl (.inr ⟨q, s _ _ (ne_of h hp (by intro z; cases z)) h⟩)
  · exact .inr h
/-- numbers below 30, ascending -/
structure Fine (u : List Int) : Prop where
  up : u.Pairwise (· < ·)
  rg : ∀ v ∈ u, 0 ≤ v ∧ v < 30
theorem asc_len : ∀ {u : List Int} {lo : Int}, u.Pairwise (· < ·) → (∀ v ∈ u, lo ≤ v ∧ v < 30) → (u.length : Int) ≤ max (30 - lo) 0
  | [], lo, _, _ => by simp; omega
  | a :: r, lo, up, rg => by
    obtain ⟨u1, u2⟩ := List.pairwise_cons.mp up
    have h := asc_len (lo := a + 1) u2 fun v hv => ⟨by have := u1 v hv; omega, (rg v (List.mem_cons_of_mem _ hv)).2⟩
    have h0 := rg a List.mem_cons_self
    rw [List.length_cons]
    omega
theorem Fine.len {u : List Int} (f : Fine u) : u.length ≤ 30 := by
  have := asc_len f.up f.rg
  omega
theorem Fine.filter {u : List Int} (f : Fine u) (q : Int → Bool) : Fine (u.filter q) := ⟨f.up.sublist List.filter_sublist, fun v hv => f.rg v (List.mem_filter.mp hv).1⟩
theorem Fine.nil : Fine [] := ⟨List.Pairwise.nil, fun _ h => nomatch h⟩
/-- three lots and their places -/
structure Tri (K : PySem.W.Frag) (H : Hp) (ll ls : Addr) (xs ys : List Addr) (us : List (List Int)) : Prop where
  l1 : xs.length = 3
  l2 : ys.length = 3
  l3 : us.length = 3
  hl : H ll = some (.lst (xs.map V.ref))
  hs : H ls = some (.lst (ys.map V.ref))
  at_ : ∀ (i : Nat) x y u, xs[i]? = some x → ys[i]? = some y → us[i]? = some u → LotAt K H x u ∧ H y = some (.lst (u.map V.int)) ∧ Fine u
theorem Tri.same {K : PySem.W.Frag} {H H' : Hp} {ll ls : Addr} {xs ys : List Addr} {us : List (List Int)} (h : Tri K H ll ls xs ys us) (s : Same H H') : Tri K H' ll ls xs ys us :=
  ⟨h.l1, h.l2, h.l3, s _ _ h.hl, s _ _ h.hs, fun i x y u a b c => by obtain ⟨q1, q2, q3⟩ := h.at_ i x y u a b c; exact ⟨q1.same s, s _ _ q2, q3⟩⟩
/-- the one at k -/
theorem Tri.get {K : PySem.W.Frag} {H : Hp} {ll ls : Addr} {xs ys : List Addr} {us : List (List Int)} (h : Tri K H ll ls xs ys us) {k : Int} (k0 : 0 ≤ k) (k1 : k < 3) : ∃ x y u, atI (xs.map V.ref) k = some (.ref x) ∧ atI (ys.map V.ref) k = some (.ref y) ∧ us[k.toNat]? = some u ∧ LotAt K H x u ∧ H y = some (.lst (u.map V.int)) ∧ Fine u ∧ y ∈ ys := by
  have a1 : k.toNat < xs.length := by rw [h.l1]; omega
  have a2 : k.toNat < ys.length := by rw [h.l2]; omega
  have a3 : k.toNat < us.length := by rw [h.l3]; omega
  have e1 := List.getElem?_eq_getElem a1
  have e2 := List.getElem?_eq_getElem a2
  have e3 := List.getElem?_eq_getElem a3
  obtain ⟨q1, q2, q3⟩ := h.at_ _ _ _ _ e1 e2 e3
  refine ⟨_, _, _, atI_pos k0 ?_, atI_pos k0 ?_, e3, q1, q2, q3, List.getElem_mem a2⟩
  · rw [List.getElem?_map, e1]
    rfl
  · rw [List.getElem?_map, e2]
    rfl
theorem Tri.but {K : PySem.W.Frag} {H H' : Hp} {p ll ls : Addr} {b : Nat} {xs ys : List Addr} {us : List (List Int)} (h : Tri K H ll ls xs ys us) (P : PoolAt K H p b) (s : But1 p H H') (n1 : ll ≠ p) (n2 : ls ≠ p) (n3 : ∀ y ∈ ys, y ≠ p) : Tri K H' ll ls xs ys us :=
  ⟨h.l1, h.l2, h.l3, s _ _ n1 h.hl, s _ _ n2 h.hs, fun i x y u a b c => by obtain ⟨q1, q2, q3⟩ := h.at_ i x y u a b c; exact ⟨q1.but P s, s _ _ (n3 y (List.mem_of_getElem? b)) q2, q3⟩⟩
/-- the numbers below i that fit -/
structure Rg (q : Int → Bool) (i : Nat) (cs : List Int) : Prop where
  up : cs.Pairwise (· < ·)
  mem : ∀ v, v ∈ cs ↔ 0 ≤ v ∧ v < (i : Int) ∧ q v = true
  len : cs.length ≤ i
theorem Rg.zero (q : Int → Bool) : Rg q 0 [] := ⟨List.Pairwise.nil, fun v => ⟨(fun h => nomatch h), fun h => by omega⟩, Nat.le_refl _⟩
theorem Rg.yes {q : Int → Bool} {i : Nat} {cs : List Int} (h : Rg q i cs) (y : q (i : Int) = true) : Rg q (i + 1) (cs ++ [(i : Int)]) := by
  refine ⟨?_, fun v => ?_, by rw [List.length_append, List.length_singleton]; have := h.len; omega⟩
  · rw [List.pairwise_append]
    exact ⟨h.up, by simp, fun a ha b hb => by rw [List.mem_singleton.mp hb]; exact ((h.mem a).mp ha).2.1⟩
  · rw [List.mem_append, List.mem_singleton, h.mem]
    constructor
    · rintro (⟨a, b, c⟩ | e)
      · exact ⟨a, by omega, c⟩
      · subst e
        exact ⟨by omega, by omega, y⟩
    · rintro ⟨a, b, c⟩
      by_cases e : v = i
      · exact .inr e
      · exact .inl ⟨a, by omega, c⟩
theorem Rg.no {q : Int → Bool} {i : Nat} {cs : List Int} (h : Rg q i cs) (n : q (i : Int) = false) : Rg q (i + 1) cs := by
  refine ⟨h.up, fun v => ?_, by have := h.len; omega⟩
  rw [h.mem]
  constructor
  · rintro ⟨a, b, c⟩
    exact ⟨a, by omega, c⟩
  · rintro ⟨a, b, c⟩
    refine ⟨a, ?_, c⟩
    by_cases e : v = i
    · subst e
      rw [n] at c
      cases c
    · omega
theorem Rg.fine {q : Int → Bool} {cs : List Int} (h : Rg q 30 cs) : Fine cs := ⟨h.up, fun v hv => by have := (h.mem v).mp hv; exact ⟨this.1, this.2.1⟩⟩
theorem Rg.eq {q : Int → Bool} {cs ns : List Int} (h : Rg q 30 cs) (r : ∀ v ∈ ns, 0 ≤ v ∧ v < 30) (m : ∀ v, 0 ≤ v → v < 30 → (q v = true ↔ v ∈ ns)) : setF ns = cs := by
  refine up_eq (setF_up _) h.up fun v => ?_
  rw [setF_mem, h.mem]
  constructor
  · intro hv
    exact ⟨(r v hv).1, (r v hv).2, (m v (r v hv).1 (r v hv).2).mpr hv⟩
  · rintro ⟨a, b, c⟩
    exact (m v a b).mp c
def spAfter (K : PySem.W.Frag) : Sp := fun vs H Q _ => ∃ (p ll ls : Addr) (b : Nat) (xs ys : List Addr) (us : List (List Int)), vs = [.ref p, .ref ll, .ref ls] ∧ PoolAt K H p b ∧ 200 ≤ b ∧ Tri K H ll ls xs ys us ∧ ll ≠ p ∧ ls ≠ p ∧ (∀ y ∈ ys, y ≠ p) ∧
  ∀ (H' : Hp) (t x y : Addr) (u : List Int), But1 p H H' → PoolAt K H' p (b - 200) → H' t = some (.tup [.ref x, .ref y]) → LotAt K H' x u → H' y = some (.lst (u.map V.int)) → Fine u → y ≠ p → H y = none → Q (.ref t) H'
def spRight (K : PySem.W.Frag) : Sp := fun vs H Q _ => ∃ (ll ls : Addr) (xs ys : List Addr) (us : List (List Int)), vs = [.ref ll, .ref ls] ∧ Tri K H ll ls xs ys us ∧ ∀ H', Same H H' → Q (.bl true) H'
abbrev s_after : Stmt := top 10
theorem sc_after : FnScope ["_law_pool_here", "_law_lots", "_law_sets", "_law_first", "_law_second", "_law_way", "_law_one", "_law_two", "_law_mine", "_law_theirs", "_law_drawn", "_law_k", "_law_place"] ["_law_pool_here", "_law_lots", "_law_sets"] (defScope s_after) := ⟨rfl, rfl, rfl, by decide +kernel, rfl, by decide +kernel, by decide +kernel⟩
theorem ok_after {fd : FuncData} (F : FunD K "_law_after" "_law_after" (defArgs s_after) (defBody s_after) (defScope s_after) [] [] (He.ga K "_law_after") fd) (Y : TxP K mg) (d_draw : Okd P w K mg base CX0 1 (He.ga K "_law_draw") ["_law_pool_here", "_law_limit"] (spDraw K)) (d_init : Okd P w K mg base (L2.CX P w) 3 (He.ma K (He.ga K "Lot") "__init__") ["self", "places"] (spLotInit K)) (d_or : Okd P w K mg base CX0 5 (He.ma K (He.ga K "Lot") "__or__") ["self", "other"] (spLot2 K orF)) (d_and : Okd P w K mg base CX0 5 (He.ma K (He.ga K "Lot") "__and__") ["self", "other"] (spLot2 K andF)) (d_sub : Okd P w K mg base CX0 5 (He.ma K (He.ga K "Lot") "__sub__") ["self", "other"] (spLot2 K subF)) : FnOk P w K mg base CX0 6 (He.ga K "_law_after") fd ["_law_pool_here", "_law_lots", "_law_sets"] (spAfter K) := by
  obtain ⟨fd_draw, G_draw, b_draw⟩ := d_draw
  obtain ⟨fd_init, G_init, b_init⟩ := d_init
  obtain ⟨fd_or, G_or, b_or⟩ := d_or
  obtain ⟨fd_and, G_and, b_and⟩ := d_and
  obtain ⟨fd_sub, G_sub, b_sub⟩ := d_sub
  refine F.ok sc_after (fun vs H Q E h => by obtain ⟨p, ll, ls, b, xs, ys, us, rfl, _⟩ := h; rfl) (fun cdv A outer s H vs Q E hr h => ?_)
  obtain ⟨p, ll, ls, b, xs, ys, us, rfl, P, hb, hT, nl, ns, ny, q⟩ := h
  refine ⟨_, PSs.nox (pss_cons (ps_set (i := 3) sc_after.nd rfl (Or.inl rfl) (pe_call G_draw (hr.mono (by decide)) (by rfl) Y.g__law_draw Y.k__law_draw b_draw .nil pass0 (pa_cons (pv 0) (pa_cons pe_int pa_nil))))
    (pss_cons (ps_set (i := 4) sc_after.nd rfl (Or.inl rfl) (pe_call G_draw (hr.mono (by decide)) (by rfl) Y.g__law_draw Y.k__law_draw b_draw .nil pass0 (pa_cons (pv 0) (pa_cons pe_int pa_nil))))
    (pss_cons (ps_set (i := 5) sc_after.nd rfl (Or.inl rfl) (pe_call G_draw (hr.mono (by decide)) (by rfl) Y.g__law_draw Y.k__law_draw b_draw .nil pass0 (pa_cons (pv 0) (pa_cons pe_int pa_nil))))
    (pss_cons (ps_set (i := 6) sc_after.nd rfl (Or.inl rfl) (pe_ix ix_list (pv 1) (pv 3) (fun _ _ => rfl)))
    (pss_cons (ps_set (i := 7) sc_after.nd rfl (Or.inl rfl) (pe_ix ix_list (pv 1) (pv 4) (fun _ _ => rfl)))
    (pss_cons (ps_set (i := 8) sc_after.nd rfl (Or.inr rfl) (pe_ix ix_list (pv 2) (pv 3) (fun _ _ => rfl)))
    (pss_cons (ps_set (i := 9) sc_after.nd rfl (Or.inr rfl) (pe_ix ix_list (pv 2) (pv 4) (fun _ _ => rfl)))
    (pss_cons (ps_if (pt_cmpR op_eq (pv 5) pe_int (nomark _)) (pss_one (ps_ret (pe_tup (pa_cons (pe_op (op_binOwn G_or (hr.mono (by decide)) Y.sf_Lot Y.o_or b_or pass0) (pv 6) (pv 7)) (pa_cons (pe_lc (own := [("_law_place", 12)]) (g := gName 12)  rfl sc_after.nd (pi_range1 rfl Y.n_range (pa_cons pe_int pa_nil)) (blkOk_by (own := [("_law_place", 12)]) (N := ["_law_pool_here", "_law_lots", "_law_sets", "_law_first", "_law_second", "_law_way", "_law_one", "_law_two", "_law_mine", "_law_theirs", "_law_drawn", "_law_k", "_law_place"]) (sc := defScope s_after) (by decide +kernel)) (fun _ _ _ _ _ => (pg_name (i := 12) sc_after.nd rfl (Or.inl rfl))) (fun _ _ _ _ _ => (pts_one (PW.pt (pw_or (pt_cmpR (r := rIn K false) op_in_seq (pv 12) (pv 8) (by first | exact nomark _ | rfl)) (pw_or1 (pt_cmpR (r := rIn K false) op_in_seq (pv 12) (pv 9) (by first | exact nomark _ | rfl))))))) (fun _ _ _ _ _ => (pv 12))) pa_nil))))) pss_nil)
    (pss_cons (ps_if (pt_cmpR op_eq (pv 5) pe_int (nomark _)) (pss_one (ps_ret (pe_tup (pa_cons (pe_op (op_binOwn G_and (hr.mono (by decide)) Y.sf_Lot Y.o_and b_and pass0) (pv 6) (pv 7)) (pa_cons (pe_lc (own := [("_law_place", 12)]) (g := gName 12)  rfl sc_after.nd (pi_list (pv 8)) (blkOk_by (own := [("_law_place", 12)]) (N := ["_law_pool_here", "_law_lots", "_law_sets", "_law_first", "_law_second", "_law_way", "_law_one", "_law_two", "_law_mine", "_law_theirs", "_law_drawn", "_law_k", "_law_place"]) (sc := defScope s_after) (by decide +kernel)) (fun _ _ _ _ _ => (pg_name (i := 12) sc_after.nd rfl (Or.inl rfl))) (fun _ _ _ _ _ => (pts_one (pt_cmpR (r := rIn K false) op_in_seq (pv 12) (pv 9) (by first | exact nomark _ | rfl)))) (fun _ _ _ _ _ => (pv 12))) pa_nil))))) pss_nil)
    (pss_cons (ps_if (pt_cmpR op_eq (pv 5) pe_int (nomark _)) (pss_one (ps_ret (pe_tup (pa_cons (pe_op (op_binOwn G_sub (hr.mono (by decide)) Y.sf_Lot Y.o_sub b_sub pass0) (pv 6) (pv 7)) (pa_cons (pe_lc (own := [("_law_place", 12)]) (g := gName 12)  rfl sc_after.nd (pi_list (pv 8)) (blkOk_by (own := [("_law_place", 12)]) (N := ["_law_pool_here", "_law_lots", "_law_sets", "_law_first", "_law_second", "_law_way", "_law_one", "_law_two", "_law_mine", "_law_theirs", "_law_drawn", "_law_k", "_law_place"]) (sc := defScope s_after) (by decide +kernel)) (fun _ _ _ _ _ => (pg_name (i := 12) sc_after.nd rfl (Or.inl rfl))) (fun _ _ _ _ _ => (pts_one (pt_cmpR (r := rIn K true) op_notIn_seq (pv 12) (pv 9) (by first | exact nomark _ | rfl)))) (fun _ _ _ _ _ => (pv 12))) pa_nil))))) pss_nil)
    (pss_cons (ps_set (i := 10) sc_after.nd rfl (Or.inr rfl) (pe_lc (own := [("_law_k", 11)]) (g := gName 11) (tt := tYes) rfl sc_after.nd (pi_range1 rfl Y.n_range (pa_cons (pe_call G_draw (hr.mono (by decide)) (by rfl) Y.g__law_draw Y.k__law_draw b_draw .nil pass0 (pa_cons (pv 0) (pa_cons (pe_ix ix_list (pe_lst (pa_cons pe_int (pa_cons pe_int pa_nil))) (pe_op op_sub (pv 5) pe_int) (fun _ _ => rfl)) pa_nil))) pa_nil)) (blkOk_by (own := [("_law_k", 11)]) (N := ["_law_pool_here", "_law_lots", "_law_sets", "_law_first", "_law_second", "_law_way", "_law_one", "_law_two", "_law_mine", "_law_theirs", "_law_drawn", "_law_k", "_law_place"]) (sc := defScope s_after) (by decide +kernel)) (fun _ _ _ _ _ => (pg_name (i := 11) sc_after.nd rfl (Or.inl rfl))) (fun _ _ _ _ _ => pts_nil) (fun _ _ _ _ _ => (pe_call G_draw (hr.mono (by decide)) (by rfl) Y.g__law_draw Y.k__law_draw b_draw .nil pass0 (pa_cons (pv 0) (pa_cons pe_int pa_nil))))))
    (pss_one (ps_ret (pe_tup (pa_cons (pe_make Y.mk_Lot G_init (hr.mono (by decide)) (by rfl) Y.g_Lot b_init .nil passF (pa_cons (pv 10) pa_nil)) (pa_cons (pe_lc (own := [("_law_place", 12)]) (g := gName 12)  rfl sc_after.nd (pi_range1 rfl Y.n_range (pa_cons pe_int pa_nil)) (blkOk_by (own := [("_law_place", 12)]) (N := ["_law_pool_here", "_law_lots", "_law_sets", "_law_first", "_law_second", "_law_way", "_law_one", "_law_two", "_law_mine", "_law_theirs", "_law_drawn", "_law_k", "_law_place"]) (sc := defScope s_after) (by decide +kernel)) (fun _ _ _ _ _ => (pg_name (i := 12) sc_after.nd rfl (Or.inl rfl))) (fun _ _ _ _ _ => (pts_one (pt_cmpR (r := rIn K false) op_in_seq (pv 12) (pv 10) (by first | exact nomark _ | rfl)))) (fun _ _ _ _ _ => (pv 12))) pa_nil)))))))))))))))), ?_⟩
  have big : ∀ {k : Nat}, k ≤ 1000 → k ≤ sizeLine := fun {k} h => Nat.le_trans h (by decide)
  refine ⟨_, rfl, p, b - 1, 3, rfl, P.less (by omega), by decide, by decide, fun H1 d1 d10 d11 P1 B1 => ?_⟩
  have T1 := hT.but P B1.one nl ns ny
  refine ⟨_, rfl, p, b - 2, 3, rfl, P1.less (by omega), by decide, by decide, fun H2 d2 d20 d21 P2 B2 => ?_⟩
  have T2 := T1.but P1 B2.one nl ns ny
  refine ⟨_, rfl, p, b - 3, 5, rfl, P2.less (by omega), by decide, by decide, fun H3 d3 d30 d31 P3 B3 => ?_⟩
  have T3 := T2.but P2 B3.one nl ns ny
  have b3 : But1 p H H3 := (B1.one.trans B2.one).trans B3.one
  clear T1 T2 B1 B2 B3 P1 P2
  obtain ⟨x1, y1, u1, e1, f1, _, L1, M1, F1, _⟩ := T3.get d10 d11
  obtain ⟨x2, y2, u2, e2, f2, _, L2', M2, F2, _⟩ := T3.get d20 d21
  refine ⟨_, rfl, _, rfl, ll, _, d1, .ref x1, rfl, rfl, SqL.of T3.hl, e1, ?_⟩
  refine ⟨_, rfl, _, rfl, ll, _, d2, .ref x2, rfl, rfl, SqL.of T3.hl, e2, ?_⟩
  refine ⟨_, rfl, _, rfl, ls, _, d1, .ref y1, rfl, rfl, SqL.of T3.hs, f1, ?_⟩
  refine ⟨_, rfl, _, rfl, ls, _, d2, .ref y2, rfl, rfl, SqL.of T3.hs, f2, ?_⟩
  have l1 := F1.len
  have l2 := F2.len
  have p1 : ∀ v ∈ u1, 0 ≤ v := fun v hv => (F1.rg v hv).1
  have p2 : ∀ v ∈ u2, 0 ≤ v := fun v hv => (F2.rg v hv).1
  have end_ : ∀ (H6 H7 : Hp) (D t x : Addr) (u : List Int), Same H3 H6 → H6 D = none → Same H6 H7 → LotAt K H7 x u → H7 D = some (.lst (u.map V.int)) → Fine u → H7 t = none → Q (.ref t) (upd H7 t (.tup [.ref x, .ref D])) := fun H6 H7 D t x u s6 hD s7 LX hD7 FU ht => by
    have s8 := same_upd (o := .tup [.ref x, .ref D]) (Same.refl H7) ht
    have s38 := (s6.trans s7).trans s8
    have hD3 : H3 D = none := s6.free hD
    have nD : D ≠ p := P3.ne_new hD3
    exact q _ t x D u (b3.trans (But1.of s38)) ((P3.same s38).less (by omega)) upd_same (LX.same s8) (s8 _ _ hD7) FU nD (b3.none hD3 nD)
  refine ⟨_, rfl, rfl, _, rfl, ?_⟩
  refine iteB (fun _ => ?_) (fun n0 => ?_)
  · -- both
    obtain ⟨dx, _, h1, _⟩ := L1.at_
    obtain ⟨dy, _, h2, _⟩ := L2'.at_
    refine ⟨_, rfl, _, rfl, x1, x2, dx, dy, _, _, rfl, rfl, h1, h2, x1, x2, u1, u2, rfl, L1, L2', by omega, p1, p2, fun H6 x s6 LX hx3 => ?_⟩
    refine ⟨30, rfl, by decide, by decide, fun D hD => lc_range (n := 30) (fun i H' => ∃ cs : List Int, Same H6 H' ∧ H' D = some (.lst (cs.map V.int)) ∧ Rg (fun v => decide (v ∈ u1) || decide (v ∈ u2)) i cs) ?_ ?_ ?_⟩
    · exact ⟨[], same_upd (Same.refl _) hD, upd_same, Rg.zero _⟩
    · rintro i H9 hi ⟨cs, s9, h9, R9⟩
      have e0 : (0 + (i : Int)) = (i : Int) := by omega
      have lc := R9.len
      refine ⟨rfl, _, rfl, _, rfl, y1, _, rfl, .inl (SqL.of (s9 _ _ (s6 _ _ M1))), rfl, flat_ints _, _, rfl, ?_⟩
      rw [inV_ints, e0]
      have yes : (decide ((i : Int) ∈ u1) || decide ((i : Int) ∈ u2)) = true → ∃ cs', Same H6 (upd H9 D (.lst (cs.map V.int ++ [.int (i : Int)]))) ∧ (upd H9 D (.lst (cs.map V.int ++ [.int (i : Int)]))) D = some (.lst (cs'.map V.int)) ∧ Rg (fun v => decide (v ∈ u1) || decide (v ∈ u2)) (i + 1) cs' := fun y => ⟨cs ++ [(i : Int)], fun b o h => by rw [upd_ne (ne_of_none h hD)]; exact s9 b o h, by rw [upd_same, List.map_append]; rfl, R9.yes y⟩
      have room : (cs.map V.int).length < sizeLine := by
        rw [List.length_map]
        exact Nat.lt_of_le_of_lt (show cs.length ≤ 64 by omega) (by decide)
      by_cases m1 : (i : Int) ∈ u1
      · rw [decide_eq_true m1]
        refine iteT ?_
        refine iteT ⟨_, rfl, _, h9, room, ?_⟩
        exact yes (by rw [decide_eq_true m1]; rfl)
      rw [decide_eq_false m1]
      refine iteF ?_
      refine ⟨_, rfl, _, rfl, y2, _, rfl, .inl (SqL.of (s9 _ _ (s6 _ _ M2))), rfl, flat_ints _, _, rfl, ?_⟩
      rw [inV_ints]
      by_cases m2 : (i : Int) ∈ u2
      · rw [decide_eq_true m2]
        refine iteT ⟨_, rfl, _, h9, room, ?_⟩
        exact yes (by rw [decide_eq_true m2, Bool.or_true])
      · rw [decide_eq_false m2]
        exact iteF ⟨cs, s9, h9, R9.no (by rw [decide_eq_false m1, decide_eq_false m2]; rfl)⟩
    rintro H7 ⟨cs, s7, h7, R7⟩
    have eu : setF (u1 ++ u2) = cs := R7.eq (fun v hv => (List.mem_append.mp hv).elim (F1.rg v) (F2.rg v)) fun v _ _ => by
      rw [Bool.or_eq_true, decide_eq_true_iff, decide_eq_true_iff, List.mem_append]
    have LX' : LotAt K H6 x cs := by rw [← eu]; exact LX
    exact ⟨(by show 2 ≤ sizeLine; decide), fun t ht => end_ H6 H7 D t x cs s6 hD s7 (LX'.same s7) h7 R7.fine ht⟩
  refine ⟨_, rfl, rfl, _, rfl, ?_⟩
  refine iteB (fun _ => ?_) (fun n1 => ?_)
  · -- the common ones
    obtain ⟨dx, _, h1, _⟩ := L1.at_
    obtain ⟨dy, _, h2, _⟩ := L2'.at_
    refine ⟨_, rfl, _, rfl, x1, x2, dx, dy, _, _, rfl, rfl, h1, h2, x1, x2, u1, u2, rfl, L1, L2', by omega, p1, p2, fun H6 x s6 LX hx3 => ?_⟩
    refine ⟨_, rfl, y1, rfl, ⟨_, SqL.of (s6 _ _ M1)⟩, fun D hD => lc_list (K := K) (a := y1) (xs := u1.map V.int) (fun j H' => ∃ cs : List Int, Same H6 H' ∧ H' D = some (.lst (cs.map V.int)) ∧ cs = (u1.take j).filter fun v => decide (v ∈ u2))
      ⟨[], same_upd (Same.refl _) hD, upd_same, rfl⟩ (fun j H' _ h => by obtain ⟨_, s, _⟩ := h; exact SqL.of (s _ _ (s6 _ _ M1))) ?_ ?_⟩
    · rintro j z H9 hj ⟨cs, s9, h9, ec⟩
      obtain ⟨v, hv, rfl⟩ := int_at hj
      have lc : cs.length ≤ 64 := by
        have := List.length_filter_le (fun v => decide (v ∈ u2)) (u1.take j)
        rw [← ec, List.length_take] at this
        omega
      refine ⟨rfl, _, rfl, _, rfl, y2, _, rfl, .inl (SqL.of (s9 _ _ (s6 _ _ M2))), rfl, flat_ints _, _, rfl, ?_⟩
      rw [inV_ints]
      refine iteB (fun yes => ⟨_, rfl, _, h9, ?_, cs ++ [v], fun b o h => ?_, ?_, ?_⟩) (fun no => ⟨cs, s9, h9, ?_⟩)
      · rw [List.length_map]
        exact Nat.lt_of_le_of_lt lc (by decide)
      · rw [upd_ne (ne_of_none h hD)]
        exact s9 b o h
      · rw [upd_same, List.map_append]
        rfl
      · rw [take_next hv, List.filter_append, ← ec, List.filter_cons_of_pos (by exact yes)]
        rfl
      · rw [take_next hv, List.filter_append, ← ec, List.filter_cons_of_neg (by rw [show decide (v ∈ u2) = false from no]; exact Bool.false_ne_true)]
        simp
    rintro H7 ⟨cs, s7, h7, ec⟩
    rw [List.length_map, List.take_length] at ec
    have FC : Fine cs := by rw [ec]; exact F1.filter _
    have LX' : LotAt K H6 x cs := by rw [show andF u1 u2 = cs from ec.symm, setF_asc FC.up] at LX; exact LX
    exact ⟨(by show 2 ≤ sizeLine; decide), fun t ht => end_ H6 H7 D t x cs s6 hD s7 (LX'.same s7) h7 FC ht⟩
  refine ⟨_, rfl, rfl, _, rfl, ?_⟩
  refine iteB (fun _ => ?_) (fun n2 => ?_)
  · -- the others
    obtain ⟨dx, _, h1, _⟩ := L1.at_
    obtain ⟨dy, _, h2, _⟩ := L2'.at_
    refine ⟨_, rfl, _, rfl, x1, x2, dx, dy, _, _, rfl, rfl, h1, h2, x1, x2, u1, u2, rfl, L1, L2', by omega, p1, p2, fun H6 x s6 LX hx3 => ?_⟩
    refine ⟨_, rfl, y1, rfl, ⟨_, SqL.of (s6 _ _ M1)⟩, fun D hD => lc_list (K := K) (a := y1) (xs := u1.map V.int) (fun j H' => ∃ cs : List Int, Same H6 H' ∧ H' D = some (.lst (cs.map V.int)) ∧ cs = (u1.take j).filter fun v => !decide (v ∈ u2))
      ⟨[], same_upd (Same.refl _) hD, upd_same, rfl⟩ (fun j H' _ h => by obtain ⟨_, s, _⟩ := h; exact SqL.of (s _ _ (s6 _ _ M1))) ?_ ?_⟩
    · rintro j z H9 hj ⟨cs, s9, h9, ec⟩
      obtain ⟨v, hv, rfl⟩ := int_at hj
      have lc : cs.length ≤ 64 := by
        have := List.length_filter_le (fun v => !decide (v ∈ u2)) (u1.take j)
        rw [← ec, List.length_take] at this
        omega
      refine ⟨rfl, _, rfl, _, rfl, y2, _, rfl, .inl (SqL.of (s9 _ _ (s6 _ _ M2))), rfl, flat_ints _, _, rfl, ?_⟩
      rw [inV_ints]
      refine iteB (fun yes => ⟨_, rfl, _, h9, ?_, cs ++ [v], fun b o h => ?_, ?_, ?_⟩) (fun no => ⟨cs, s9, h9, ?_⟩)
      · rw [List.length_map]
        exact Nat.lt_of_le_of_lt lc (by decide)
      · rw [upd_ne (ne_of_none h hD)]
        exact s9 b o h
      · rw [upd_same, List.map_append]
        rfl
      · rw [take_next hv, List.filter_append, ← ec, List.filter_cons_of_pos (by exact yes)]
        rfl
      · rw [take_next hv, List.filter_append, ← ec, List.filter_cons_of_neg (by rw [show (!decide (v ∈ u2)) = false from no]; exact Bool.false_ne_true)]
        simp
    rintro H7 ⟨cs, s7, h7, ec⟩
    rw [List.length_map, List.take_length] at ec
    have FC : Fine cs := by rw [ec]; exact F1.filter _
    have LX' : LotAt K H6 x cs := by rw [show subF u1 u2 = cs from ec.symm, setF_asc FC.up] at LX; exact LX
    exact ⟨(by show 2 ≤ sizeLine; decide), fun t ht => end_ H6 H7 D t x cs s6 hD s7 (LX'.same s7) h7 FC ht⟩
  -- drawn ones
  have way : d3 = 3 ∨ d3 = 4 := by
    have a0 : ¬ d3 = 0 := fun z => by rw [z] at n0; exact absurd n0 (by decide)
    have a1 : ¬ d3 = 1 := fun z => by rw [z] at n1; exact absurd n1 (by decide)
    have a2 : ¬ d3 = 2 := fun z => by rw [z] at n2; exact absurd n2 (by decide)
    omega
  refine ⟨_, rfl, (by show 2 ≤ sizeLine; decide), fun l2 hl2 => ?_⟩
  have s4 := same_upd (o := .lst ([(5 : Int), 40].map V.int)) (Same.refl H3) hl2
  have hl4 : (upd H3 l2 (.lst ([(5 : Int), 40].map V.int))) l2 = some (.lst ([(5 : Int), 40].map V.int)) := upd_same
  obtain ⟨lim, hlim, lb, lc⟩ : ∃ lim : Int, atI ([(5 : Int), 40].map V.int) (d3 - 3) = some (.int lim) ∧ 1 ≤ lim ∧ lim ≤ 40 := by
    rcases way with rfl | rfl
    · exact ⟨5, rfl, by decide, by decide⟩
    · exact ⟨40, rfl, by decide, by decide⟩
  refine ⟨_, rfl, _, _, rfl, rfl, l2, _, d3 - 3, .int lim, rfl, rfl, SqL.of hl4, hlim, p, b - 4, lim, rfl, (P3.same s4).less (by omega), by omega, Nat.lt_of_le_of_lt (show lim.natAbs ≤ 1000 by omega) (by decide), fun H5 d d0 d9 P5 B5 => ?_⟩
  have b5 : But1 p H H5 := (b3.trans (But1.of s4)).trans B5.one
  refine ⟨d, rfl, by omega, by omega, fun D hD => lc_range (n := d.toNat) (fun i H' => ∃ cs : List Int, But1 p H H' ∧ PoolAt K H' p (b - 5 - i) ∧ H' D = some (.lst (cs.map V.int)) ∧ cs.length = i ∧ ∀ v ∈ cs, 0 ≤ v ∧ v < 30) ?_ ?_ ?_⟩
  · exact ⟨[], b5.new (b5.none hD (P5.ne_new hD)), (P5.less (by omega)).new hD, upd_same, rfl, fun _ h => nomatch h⟩
  · rintro i H6 hi ⟨cs, b6, P6, h6, lc6, rc⟩
    have nD : D ≠ p := P5.ne_new hD
    have hD0 : H D = none := b5.none hD nD
    refine ⟨rfl, _, rfl, p, b - 6 - i, 30, rfl, P6.less (by omega), by decide, by decide, fun H7 z z0 z1 P7 B7 => ?_⟩
    have h7 := B7.one D _ nD h6
    refine ⟨_, h7, ?_, cs ++ [z], (b6.trans B7.one).new hD0, (P7.less (by omega)).set h7 nD, ?_, ?_, fun v hv => ?_⟩
    · rw [List.length_map]
      exact Nat.lt_of_le_of_lt (show cs.length ≤ 100 by omega) (by decide)
    · rw [upd_same, List.map_append]
      rfl
    · rw [List.length_append, List.length_singleton]
      omega
    · rcases List.mem_append.mp hv with hv | hv
      · exact rc v hv
      · rw [List.mem_singleton.mp hv]
        exact ⟨z0, z1⟩
  rintro H6 ⟨cs, b6, P6, h6, lc6, rc⟩
  refine ⟨_, rfl, fun x dx hx hdx ne => ?_⟩
  refine make_lot hx hdx (.inl (SqL.of h6)) (by omega) (fun z r e => by rw [negs_nil (fun v hv => (rc v hv).1)] at e; cases e) fun _ H7 s7 LX => ⟨rfl, ?_⟩
  have h7 := s7 _ _ h6
  refine ⟨30, rfl, by decide, by decide, fun D2 hD2 => lc_range (n := 30) (fun i H' => ∃ ds : List Int, Same H7 H' ∧ H' D2 = some (.lst (ds.map V.int)) ∧ Rg (fun v => decide (v ∈ cs)) i ds) ?_ ?_ ?_⟩
  · exact ⟨[], same_upd (Same.refl _) hD2, upd_same, Rg.zero _⟩
  · rintro i H9 hi ⟨ds, s9, h9, R9⟩
    have e0 : (0 + (i : Int)) = (i : Int) := by omega
    have lc := R9.len
    refine ⟨rfl, _, rfl, _, rfl, D, _, rfl, .inl (SqL.of (s9 _ _ h7)), rfl, flat_ints _, _, rfl, ?_⟩
    rw [inV_ints, e0]
    by_cases m1 : (i : Int) ∈ cs
    · rw [decide_eq_true m1]
      refine iteT ⟨_, rfl, _, h9, ?_, ?_⟩
      · rw [List.length_map]
        exact Nat.lt_of_le_of_lt (show ds.length ≤ 64 by omega) (by decide)
      exact ⟨ds ++ [(i : Int)], fun b o h => by rw [upd_ne (ne_of_none h hD2)]; exact s9 b o h, by rw [upd_same, List.map_append]; rfl, R9.yes (decide_eq_true m1)⟩
    · rw [decide_eq_false m1]
      exact iteF ⟨ds, s9, h9, R9.no (decide_eq_false m1)⟩
  rintro H8 ⟨ds, s8, h8, R8⟩
  have eu : setF cs = ds := R8.eq rc fun v _ _ => decide_eq_true_iff
  rw [eu] at LX
  have P8 := (P6.same s7).same s8
  refine ⟨(by show 2 ≤ sizeLine; decide), fun t ht => ?_⟩
  have s9 := same_upd (o := .tup [.ref x, .ref D2]) (Same.refl H8) ht
  have nD2 : D2 ≠ p := (P6.same s7).ne_new hD2
  exact q _ t x D2 ds (((b6.trans (But1.of s7)).trans (But1.of s8)).trans (But1.of s9)) ((P8.same s9).less (by omega)) upd_same ((LX.same s8).same s9) (s9 _ _ h8) R8.fine nD2 (b6.none (s7.free hD2) nD2)
end
section
variable {P : Program} {w : World} {K : PySem.W.Frag} {mg : Str → Option Value} {base : Heap}

theorem within_eq {u u' : List Int} : decide ((u.filter fun v => !decide (v ∈ u')) = []) = u.all fun v => decide (v ∈ u') := by
  rw [Bool.eq_iff_iff, decide_eq_true_iff, List.filter_eq_nil_iff, List.all_eq_true]
  constructor
  · intro h v hv
    have := h v hv
    cases e : decide (v ∈ u') with
    | true => rfl
    | false => rw [e] at this; exact absurd rfl this
  · intro h v hv
    rw [h v hv]
    exact Bool.false_ne_true
theorem dp_bools {K : PySem.W.Frag} {H : Hp} : ∀ (as : List Bool), DpAll K H (as.map V.bl) (as.map PyData.bool)
  | [] => .nil
  | a :: r => .cons (.bl a) (dp_bools r)
theorem lay_bools : ∀ as : List Bool, PyData.canLayAll0 (as.map PyData.bool) = true
  | [] => rfl
  | a :: r => by
    show (true && PyData.canLayAll0 (r.map PyData.bool)) = true
    rw [lay_bools r] <;> rfl
theorem depth_bools : ∀ as : List Bool, PyData.depthAll (as.map PyData.bool) ≤ 1
  | [] => by simp [PyData.depthAll]
  | a :: r => by
    have h := depth_bools r
    simp only [List.map_cons, PyData.depthAll, PyData.depth]
    omega
theorem shaped_lbools (as : List Bool) : SeqAt.shaped (.list (as.map PyData.bool)) = true := by
  unfold SeqAt.shaped
  have e : (PyData.list (as.map PyData.bool)).canLay0 = true := lay_bools as
  have d : (PyData.list (as.map PyData.bool)).depth ≤ 64 := by
    have h2 := depth_bools as
    simp only [PyData.depth]
    omega
  rw [e, decide_eq_true d]
  rfl
abbrev s_right : Stmt := top 11
theorem sc_right : FnScope ["_law_lots", "_law_sets", "_law_k", "_law_other", "_law_within", "_law_place"] ["_law_lots", "_law_sets"] (defScope s_right) := ⟨rfl, rfl, rfl, by decide +kernel, rfl, by decide +kernel, by decide +kernel⟩
theorem ok_right {fd : FuncData} (F : FunD K "_law_right" "_law_right" (defArgs s_right) (defBody s_right) (defScope s_right) [] [] (He.ga K "_law_right") fd) (Y : TxP K mg) (d_len : Okd P w K mg base CX0 1 (He.ma K (He.ga K "Lot") "__len__") ["self"] (spLotLen K)) (d_eq : Okd P w K mg base CX0 1 (He.ma K (He.ga K "Lot") "__eq__") ["self", "other"] (spLotEq K)) (d_le : Okd P w K mg base CX0 1 (He.ma K (He.ga K "Lot") "__le__") ["self", "other"] (spLotLe K)) {fd_it : FuncData} (G_it : FnN P w K mg base CX0 1 (He.ma K (He.ga K "Lot") "__iter__") fd_it ["self"] (spIterN (He.ga K "Lot") "places" K)) (b_it : L2.Binds K fd_it ["self"] []) : FnOk P w K mg base CX0 6 (He.ga K "_law_right") fd ["_law_lots", "_law_sets"] (spRight K) := by
  obtain ⟨fd_len, G_len, b_len⟩ := d_len
  obtain ⟨fd_eq, G_eq, b_eq⟩ := d_eq
  obtain ⟨fd_le, G_le, b_le⟩ := d_le
  refine F.ok sc_right (fun vs H Q E h => by obtain ⟨ll, ls, xs, ys, us, rfl, _⟩ := h; rfl) (fun cdv A outer s H vs Q E hr h => ?_)
  obtain ⟨ll, ls, xs, ys, us, rfl, hT, q⟩ := h
  refine ⟨_, PSs.nox (pss_cons (ps_for PassesOwn.never rfl (pi_range1 rfl Y.n_range (pa_cons pe_int pa_nil)) (pg_name (i := 2) sc_right.nd rfl (Or.inl rfl))
      (pss_cons (ps_if (PW.pt (pw_or (pt_cmpR (op_neD hr.units) (pe_fld (pe_ix ix_list (pv 0) (pv 2) (fun _ _ => rfl)) rfl) (pe_callTy call_tupleQ (by rfl) Y.n_tuple (by decide +kernel) (pa_cons (pe_ix ix_list (pv 1) (pv 2) (fun _ _ => rfl)) pa_nil)) (nomark _)) (pw_or (pt_cmpR op_ne (pe_callB (call_lenOwn G_len (hr.mono (by decide)) Y.o_len b_len pass0) (by rfl) Y.n_len PySem.boot_len (pa_cons (pe_ix ix_list (pv 0) (pv 2) (fun _ _ => rfl)) pa_nil)) (pe_callB call_len_seq (by rfl) Y.n_len PySem.boot_len (pa_cons (pe_ix ix_list (pv 1) (pv 2) (fun _ _ => rfl)) pa_nil)) (nomark _)) (pw_or1 (pt_cmpR (op_neD hr.units) (pe_callTy (call_listIt G_it Y.o_iter b_it Y.o_len G_len b_len (hr.mono (by decide)) rfl) (by rfl) Y.n_list (by decide +kernel) (pa_cons (pe_ix ix_list (pv 0) (pv 2) (fun _ _ => rfl)) pa_nil)) (pe_ix ix_list (pv 1) (pv 2) (fun _ _ => rfl)) (nomark _)))))) (pss_one (ps_ret pe_bl)) pss_nil)
    (pss_one (ps_for PassesOwn.never rfl (pi_range1 rfl Y.n_range (pa_cons pe_int pa_nil)) (pg_name (i := 3) sc_right.nd rfl (Or.inr rfl))
      (pss_cons (ps_set (i := 4) sc_right.nd rfl (Or.inl rfl) (pe_cmpR (op_eqD hr.units) (pe_lc (own := [("_law_place", 5)]) (g := gName 5)  rfl sc_right.nd (pi_list (pe_ix ix_list (pv 1) (pv 2) (fun _ _ => rfl))) (blkOk_by (own := [("_law_place", 5)]) (N := ["_law_lots", "_law_sets", "_law_k", "_law_other", "_law_within", "_law_place"]) (sc := defScope s_right) (by decide +kernel)) (fun _ _ _ _ _ => (pg_name (i := 5) sc_right.nd rfl (Or.inl rfl))) (fun _ _ _ _ _ => (pts_one (pt_cmpR (r := rIn K true) op_notIn_seq (pv 5) (pe_ix (r := rIxL K) ix_list (pv 1) (pv 3) (fun _ _ => rfl)) (by first | exact nomark _ | rfl)))) (fun _ _ _ _ _ => (pv 5))) (pe_lst pa_nil) (nomark _)))
    (pss_cons (ps_if (PW.pt (pw_or (pt_not (pt_val (pe_callB call_isi (by rfl) Y.n_isinstance (by decide +kernel) (pa_cons (pe_cmpR (op_cmpOwn G_le (hr.mono (by decide)) Y.o_le b_le pass0) (pe_ix ix_list (pv 0) (pv 2) (fun _ _ => rfl)) (pe_ix ix_list (pv 0) (pv 3) (fun _ _ => rfl)) (nomark _)) (pa_cons (pe_bltn (v := .ty "bool") (by rfl) Y.n_bool (by decide +kernel) rfl) pa_nil))))) (pw_or1 (pt_cmpR op_ne (pe_cmpR (op_cmpOwn G_le (hr.mono (by decide)) Y.o_le b_le pass0) (pe_ix ix_list (pv 0) (pv 2) (fun _ _ => rfl)) (pe_ix ix_list (pv 0) (pv 3) (fun _ _ => rfl)) (nomark _)) (pv 4) (nomark _))))) (pss_one (ps_ret pe_bl)) pss_nil)
    (pss_one (ps_if (pt_cmpR op_ne (pe_cmpR (op_eqOwn G_eq (hr.mono (by decide)) Y.o_eq.at_ Y.o_eq.fn b_eq pass0) (pe_ix ix_list (pv 0) (pv 2) (fun _ _ => rfl)) (pe_ix ix_list (pv 0) (pv 3) (fun _ _ => rfl)) (nomark _)) (pe_cmpR (op_eqD hr.units) (pe_ix ix_list (pv 1) (pv 2) (fun _ _ => rfl)) (pe_ix ix_list (pv 1) (pv 3) (fun _ _ => rfl)) (nomark _)) (nomark _)) (pss_one (ps_ret pe_bl)) pss_nil))))))))
    (pss_one (ps_ret pe_bl))), ?_⟩
  have big : ∀ {k : Nat}, k ≤ 1000 → k ≤ sizeLine := fun {k} h => Nat.le_trans h (by decide)
  refine ⟨3, rfl, by decide, by decide, for_range (lo := 0) (n := 3) (fun i σ' H' => ∃ v2 v3 v4 : Option V, σ' = [some (.ref ll), some (.ref ls), v2, v3, v4, none] ∧ Same H H')
    ⟨none, none, none, rfl, Same.refl H⟩ ?_ ?_⟩
  · rintro i σ1 H1 hi ⟨v2, v3, v4, rfl, s1⟩
    have T1 := hT.same s1
    have k0 : (0 : Int) ≤ 0 + (i : Int) := by omega
    have k1 : 0 + (i : Int) < 3 := by omega
    obtain ⟨x, y, u, e, f, _, L, M, F, _⟩ := T1.get k0 k1
    obtain ⟨dx, tx, w1, w2⟩ := L.at_
    have few := F.len
    refine ⟨_, rfl, _, rfl, ll, _, 0 + (i : Int), .ref x, rfl, rfl, SqL.of T1.hl, e, x, _, dx, _, _, rfl, w1, Y.cl_Lot, Y.na_places, rfl, _, rfl, _, rfl, ls, _, 0 + (i : Int), .ref y, rfl, rfl, SqL.of T1.hs, f, y, _, rfl, .inl M, fun tu H2 s2 htu => ?_⟩
    refine ⟨.tuple (u.map PyData.int), .tuple (u.map PyData.int), .tup (w2.ext s2) (dp_ints u), .tup (SqT.of htu) (dp_ints u), shaped_ints u, shaped_ints u, _, rfl, ?_⟩
    rw [eqv_self (shaped_ints u)]
    refine iteF ?_
    refine ⟨_, rfl, _, rfl, ll, _, 0 + (i : Int), .ref x, rfl, rfl, SqL.of (s2 _ _ T1.hl), e, x, dx, _, rfl, s2 _ _ w1, x, u, rfl, L.same s2, by omega, fun H3 s3 => ⟨_, rfl, ⟨by omega, by omega⟩, ?_⟩⟩
    have s13 := s2.trans s3
    refine ⟨_, rfl, _, rfl, ls, _, 0 + (i : Int), .ref y, rfl, rfl, SqL.of (s13 _ _ T1.hs), f, y, _, rfl, .inl (SqL.of (s13 _ _ M)), ?_⟩
    rw [List.length_map]
    refine ⟨rfl, _, rfl, ?_⟩
    rw [decide_eq_true (rfl : V.int (u.length : Nat) = V.int (u.length : Nat))]
    refine iteF ?_
    refine ⟨_, rfl, _, rfl, ll, _, 0 + (i : Int), .ref x, rfl, rfl, SqL.of (s13 _ _ T1.hl), e, x, dx, tx, _, _, rfl, s13 _ _ w1, rfl, w2.ext s13, by rw [List.length_map]; exact big (by omega), fun H4 s4 => ⟨x, u, rfl, (L.same s13).same s4, by omega, fun H5 s5 => ⟨by rw [List.length_map], s5⟩⟩, fun H4 q4 s4 hq4 => ?_⟩
    have s14 := s13.trans s4
    refine ⟨_, rfl, _, rfl, ls, _, 0 + (i : Int), .ref y, rfl, rfl, SqL.of (s14 _ _ T1.hs), f, ?_⟩
    refine ⟨.list (u.map PyData.int), .list (u.map PyData.int), .lst (SqL.of hq4) (dp_ints u), .lst (SqL.of (s14 _ _ M)) (dp_ints u), shaped_lints u, shaped_lints u, _, rfl, ?_⟩
    rw [eqv_self (shaped_lints u)]
    refine iteF ?_
    refine ⟨3, rfl, by decide, by decide, for_range (lo := 0) (n := 3) (fun j σ' H' => ∃ v3 v4 : Option V, σ' = [some (.ref ll), some (.ref ls), some (.int (0 + (i : Int))), v3, v4, none] ∧ Same H H') ⟨v3, v4, rfl, s1.trans s14⟩ ?_ ?_⟩
    · rintro j σ2 H5 hj ⟨v3, v4, rfl, s5⟩
      clear L M F w1 w2 e f few s14 s13 hq4
      have T5 := hT.same s5
      obtain ⟨x, y, u, e, f, _, L, M, F, _⟩ := T5.get k0 k1
      obtain ⟨x', y', u', e', f', _, L', M', F', _⟩ := T5.get (k := 0 + (j : Int)) (by omega) (by omega)
      have few := F.len
      have few' := F'.len
      refine ⟨_, rfl, _, rfl, ls, _, 0 + (i : Int), .ref y, rfl, rfl, SqL.of T5.hs, f, y, rfl, ⟨_, SqL.of M⟩, fun D hD => lc_list (K := K) (a := y) (xs := u.map V.int) (fun m H' => ∃ cs : List Int, Same H5 H' ∧ H' D = some (.lst (cs.map V.int)) ∧ cs = (u.take m).filter fun v => !decide (v ∈ u'))
        ⟨[], same_upd (Same.refl H5) hD, upd_same, rfl⟩ (fun m H' _ h => by obtain ⟨_, s, _⟩ := h; exact SqL.of (s _ _ M)) ?_ ?_⟩
      · rintro m z H6 hm ⟨cs, s6, h6, ec⟩
        obtain ⟨v, hv, rfl⟩ := int_at hm
        have lc : cs.length ≤ 64 := by
          have := List.length_filter_le (fun v => !decide (v ∈ u')) (u.take m)
          rw [← ec, List.length_take] at this
          omega
        refine ⟨rfl, _, rfl, _, rfl, _, rfl, ls, _, 0 + (j : Int), .ref y', rfl, rfl, SqL.of (s6 _ _ T5.hs), f', y', _, rfl, .inl (SqL.of (s6 _ _ M')), rfl, flat_ints _, _, rfl, ?_⟩
        rw [inV_ints]
        refine iteB (fun yes => ⟨_, rfl, _, h6, ?_, cs ++ [v], fun b o h => ?_, ?_, ?_⟩) (fun no => ⟨cs, s6, h6, ?_⟩)
        · rw [List.length_map]
          exact Nat.lt_of_le_of_lt lc (by decide)
        · rw [upd_ne (ne_of_none h hD)]
          exact s6 b o h
        · rw [upd_same, List.map_append]
          rfl
        · rw [take_next hv, List.filter_append, ← ec, List.filter_cons_of_pos (by exact yes)]
          rfl
        · rw [take_next hv, List.filter_append, ← ec, List.filter_cons_of_neg (by rw [show (!decide (v ∈ u')) = false from no]; exact Bool.false_ne_true)]
          simp
      rintro H6 ⟨cs, s6, h6, ec⟩
      rw [List.length_map, List.take_length] at ec
      refine ⟨(by show 0 ≤ sizeLine; decide), fun na hna => ?_⟩
      have s7 := same_upd (o := .lst []) s6 hna
      have h7 := (same_upd (o := .lst []) (Same.refl H6) hna) _ _ h6
      refine ⟨.list (cs.map PyData.int), .list [], .lst (SqL.of h7) (dp_ints cs), .lst (SqL.of upd_same) .nil, shaped_lints cs, rfl, ?_⟩
      rw [eqv_nil, ec, within_eq]
      revert s7
      generalize upd H6 na (.lst []) = H7
      intro s7
      have T7 := T5.same s7
      obtain ⟨dx, tx, w1, w2⟩ := (L.same s7).at_
      obtain ⟨dy, ty, z1, z2⟩ := (L'.same s7).at_
      refine ⟨_, rfl, _, rfl, ll, _, 0 + (i : Int), .ref x, rfl, rfl, SqL.of T7.hl, e, _, rfl, _, rfl, ll, _, 0 + (j : Int), .ref x', rfl, rfl, SqL.of T7.hl, e', x, x', dx, dy, _, _, rfl, rfl, w1, z1, x, x', u, u', rfl, L.same s7, L'.same s7, by omega, fun H8 s8 => ?_⟩
      refine ⟨.bl _, .ty "bool", _, _, true, rfl, .ty _, .base (.bl _), kit_ty (by decide +kernel), true, rfl, ?_⟩
      refine iteF ?_
      have s78 := s7.trans s8
      refine ⟨_, rfl, _, rfl, ll, _, 0 + (i : Int), .ref x, rfl, rfl, SqL.of (s78 _ _ T5.hl), e, _, rfl, _, rfl, ll, _, 0 + (j : Int), .ref x', rfl, rfl, SqL.of (s78 _ _ T5.hl), e', x, x', dx, dy, _, _, rfl, rfl, s8 _ _ w1, s8 _ _ z1, x, x', u, u', rfl, L.same s78, L'.same s78, by omega, fun H9 s9 => ?_⟩
      refine ⟨_, rfl, rfl, _, rfl, ?_⟩
      rw [decide_eq_true (rfl : V.bl (u.all fun v => decide (v ∈ u')) = V.bl (u.all fun v => decide (v ∈ u')))]
      refine iteF ?_
      have s79 := s78.trans s9
      refine ⟨_, rfl, _, rfl, ll, _, 0 + (i : Int), .ref x, rfl, rfl, SqL.of (s79 _ _ T5.hl), e, _, rfl, _, rfl, ll, _, 0 + (j : Int), .ref x', rfl, rfl, SqL.of (s79 _ _ T5.hl), e', x, x', dx, dy, _, _, rfl, rfl, s9 _ _ (s8 _ _ w1), s9 _ _ (s8 _ _ z1), x, x', u, u', rfl, L.same s79, L'.same s79, fun H10 s10 => ?_⟩
      have s710 := s79.trans s10
      refine ⟨_, rfl, _, rfl, ls, _, 0 + (i : Int), .ref y, rfl, rfl, SqL.of (s710 _ _ T5.hs), f, _, rfl, _, rfl, ls, _, 0 + (j : Int), .ref y', rfl, rfl, SqL.of (s710 _ _ T5.hs), f', .list (u.map PyData.int), .list (u'.map PyData.int), .lst (SqL.of (s710 _ _ M)) (dp_ints u), .lst (SqL.of (s710 _ _ M')) (dp_ints u'), shaped_lints u, shaped_lints u', ?_⟩
      rw [show PyData.eqv (.list (u.map PyData.int)) (.list (u'.map PyData.int)) = decide (u = u') from eqv_ints _ _]
      refine ⟨rfl, _, rfl, ?_⟩
      rw [decide_eq_true (rfl : V.bl (decide (u = u')) = V.bl (decide (u = u')))]
      exact iteF ⟨_, _, rfl, s5.trans s710⟩
    · rintro σ2 H5 ⟨v3, v4, rfl, s5⟩
      exact ⟨_, _, _, rfl, s5⟩
  · rintro σ1 H1 ⟨v2, v3, v4, rfl, s1⟩
    exact q H1 s1
end
section
variable {P : Program} {w : World} {K : PySem.W.Frag} {mg : Str → Option Value} {base : Heap}

/-- lots of before, each with its places -/
def Bef (K : PySem.W.Frag) (H : Hp) (N ts : List Addr) : Prop := ∀ t ∈ ts, ∃ (x y : Addr) (u : List Int), H t = some (.tup [.ref x, .ref y]) ∧ LotAt K H x u ∧ H y = some (.lst (u.map V.int)) ∧ u.length ≤ 30 ∧ y ∉ N
theorem Bef.same {K : PySem.W.Frag} {H H' : Hp} {N ts : List Addr} (h : Bef K H N ts) (s : Same H H') : Bef K H' N ts := fun t ht => by
  obtain ⟨x, y, u, h1, h2, h3, h4, h5⟩ := h t ht
  exact ⟨x, y, u, s _ _ h1, h2.same s, s _ _ h3, h4, h5⟩
theorem Bef.set {K : PySem.W.Frag} {H : Hp} {N ts : List Addr} {c : Addr} {o : HO} {zs : List V} (h : Bef K H N ts) (hc : H c = some (.lst zs)) (m : c ∈ N) : Bef K (upd H c o) N ts := fun t ht => by
  obtain ⟨x, y, u, h1, h2, h3, h4, h5⟩ := h t ht
  exact ⟨x, y, u, by rw [upd_ne (ne_of h1 hc (by intro z; cases z))]; exact h1, h2.set hc, by rw [upd_ne (fun e => h5 (by rw [e]; exact m))]; exact h3, h4, h5⟩
theorem Bef.but {K : PySem.W.Frag} {H H' : Hp} {N ts : List Addr} {p : Addr} {b : Nat} (h : Bef K H N ts) (P : PoolAt K H p b) (s : But1 p H H') (m : p ∈ N) : Bef K H' N ts := fun t ht => by
  obtain ⟨x, y, u, h1, h2, h3, h4, h5⟩ := h t ht
  have P' := P
  obtain ⟨_, _, _, _, _, _, _, hp, _⟩ := P'
  exact ⟨x, y, u, s _ _ (ne_of h1 hp (by intro z; cases z)) h1, h2.but P s, s _ _ (fun e => h5 (by rw [e]; exact m)) h3, h4, h5⟩
theorem Bef.snoc {K : PySem.W.Frag} {H : Hp} {N ts : List Addr} {t x y : Addr} {u : List Int} (h : Bef K H N ts) (h1 : H t = some (.tup [.ref x, .ref y])) (h2 : LotAt K H x u) (h3 : H y = some (.lst (u.map V.int))) (h4 : u.length ≤ 30) (h5 : y ∉ N) : Bef K H N (ts ++ [t]) := fun z hz => (List.mem_append.mp hz).elim (h z) fun e => by
  rw [List.mem_singleton.mp e]
  exact ⟨x, y, u, h1, h2, h3, h4, h5⟩
/-- another one at j -/
theorem Tri.put {K : PySem.W.Frag} {H : Hp} {ll ls x y : Addr} {xs ys : List Addr} {us : List (List Int)} {u : List Int} (h : Tri K H ll ls xs ys us) (j : Nat) (hx : LotAt K H x u) (hy : H y = some (.lst (u.map V.int))) (F : Fine u) (n1 : ll ≠ ls) (n2 : y ≠ ll) (n3 : y ≠ ls) (n4 : ∀ z ∈ ys, z ≠ ll ∧ z ≠ ls) :
    Tri K (upd (upd H ll (.lst ((xs.map V.ref).set j (.ref x)))) ls (.lst ((ys.map V.ref).set j (.ref y)))) ll ls (xs.set j x) (ys.set j y) (us.set j u) := by
  have hl2 : (upd H ll (.lst ((xs.map V.ref).set j (.ref x)))) ls = some (.lst (ys.map V.ref)) := by rw [upd_ne n1.symm]; exact h.hs
  refine ⟨by rw [List.length_set]; exact h.l1, by rw [List.length_set]; exact h.l2, by rw [List.length_set]; exact h.l3, ?_, ?_, fun i a b c ha hb hc => ?_⟩
  · rw [upd_ne n1, upd_same, List.map_set]
  · rw [upd_same, List.map_set]
  have keep : ∀ (b : Addr) (w : List Int), LotAt K H b w → LotAt K (upd (upd H ll (.lst ((xs.map V.ref).set j (.ref x)))) ls (.lst ((ys.map V.ref).set j (.ref y)))) b w := fun b w hb => (hb.set h.hl).set hl2
  rw [List.getElem?_set] at ha hb hc
  by_cases e : j = i
  · subst e
    rw [if_pos rfl] at ha hb hc
    split at ha
    · split at hb
      · split at hc
        · cases ha
          cases hb
          cases hc
          exact ⟨keep _ _ hx, by rw [upd_ne n3, upd_ne n2]; exact hy, F⟩
        · cases hc
      · cases hb
    · cases ha
  · rw [if_neg e] at ha hb hc
    obtain ⟨q1, q2, q3⟩ := h.at_ i a b c ha hb hc
    obtain ⟨m1, m2⟩ := n4 b (List.mem_of_getElem? hb)
    exact ⟨keep _ _ q1, by rw [upd_ne m2, upd_ne m1]; exact q2, q3⟩
theorem ixN_in {n : Nat} {i : Int} (h0 : 0 ≤ i) (h1 : i < n) : ixN n i = some i.toNat := by
  unfold ixN
  rw [if_pos h0, if_pos h1]
theorem Tri.bools {K : PySem.W.Frag} {H : Hp} {ll ls : Addr} {xs ys : List Addr} {us : List (List Int)} (h : Tri K H ll ls xs ys us) {j : Nat} {v : V} (e : (xs.map V.ref)[j]? = some v) : ∃ x u, v = .ref x ∧ us[j]? = some u ∧ LotAt K H x u ∧ Fine u := by
  rw [List.getElem?_map] at e
  cases q : xs[j]? with
  | none => rw [q] at e; cases e
  | some x =>
    rw [q] at e
    have lt := (List.getElem?_eq_some_iff.mp q).1
    have a2 : j < ys.length := by rw [h.l2]; rw [h.l1] at lt; exact lt
    have a3 : j < us.length := by rw [h.l3]; rw [h.l1] at lt; exact lt
    obtain ⟨q1, q2, q3⟩ := h.at_ j _ _ _ q (List.getElem?_eq_getElem a2) (List.getElem?_eq_getElem a3)
    exact ⟨x, _, (Option.some.inj e).symm, List.getElem?_eq_getElem a3, q1, q3⟩
theorem Tri.lists {K : PySem.W.Frag} {H : Hp} {ll ls : Addr} {xs ys : List Addr} {us : List (List Int)} (h : Tri K H ll ls xs ys us) {j : Nat} {v : V} (e : (ys.map V.ref)[j]? = some v) : ∃ y u, v = .ref y ∧ us[j]? = some u ∧ H y = some (.lst (u.map V.int)) ∧ Fine u := by
  rw [List.getElem?_map] at e
  cases q : ys[j]? with
  | none => rw [q] at e; cases e
  | some y =>
    rw [q] at e
    have lt := (List.getElem?_eq_some_iff.mp q).1
    have a2 : j < xs.length := by rw [h.l1]; rw [h.l2] at lt; exact lt
    have a3 : j < us.length := by rw [h.l3]; rw [h.l2] at lt; exact lt
    obtain ⟨q1, q2, q3⟩ := h.at_ j _ _ _ (List.getElem?_eq_getElem a2) q (List.getElem?_eq_getElem a3)
    exact ⟨y, _, (Option.some.inj e).symm, List.getElem?_eq_getElem a3, q2, q3⟩
def r24 : List Int := [0, 1, 2, 3, 4, 5, 6, 7, 8, 9, 10, 11, 12, 13, 14, 15, 16, 17, 18, 19, 20, 21, 22, 23]
theorem fine24 : Fine r24 := ⟨by decide, by decide⟩
def spLaw (K : PySem.W.Frag) : Sp := fun vs H Q _ => ∃ (a : Addr) (ns : List Int), vs = [.ref a] ∧ Scr K H a ns ∧ ∀ H', Q (.bl true) H'
theorem ne_of_none' {H : Hp} {a b : Addr} {o : HO} (h : H a = none) (k : H b = some o) : a ≠ b := fun e => by rw [e, k] at h; cases h
abbrev s_law : Stmt := top 12
theorem sc_law : FnScope ["_law_script", "_law_pool_here", "_law_lots", "_law_sets", "_law_before", "_law_k", "_law_at", "_law_lot", "_law_told", "_law_place", "_law_one"] ["_law_script"] (defScope s_law) := ⟨rfl, rfl, rfl, by decide +kernel, rfl, by decide +kernel, by decide +kernel⟩
theorem ok_law {fd : FuncData} (F : FunD K "law" "law" (defArgs s_law) (defBody s_law) (defScope s_law) [] [] (He.ga K "law") fd) (Y : TxP K mg) (d_pool : Okd P w K mg base CX0 1 (He.ga K "_law_pool") ["_law_script"] (spPool K)) (d_draw : Okd P w K mg base CX0 1 (He.ga K "_law_draw") ["_law_pool_here", "_law_limit"] (spDraw K)) (d_after : Okd P w K mg base CX0 6 (He.ga K "_law_after") ["_law_pool_here", "_law_lots", "_law_sets"] (spAfter K)) (d_right : Okd P w K mg base CX0 6 (He.ga K "_law_right") ["_law_lots", "_law_sets"] (spRight K)) (d_init : Okd P w K mg base (L2.CX P w) 3 (He.ma K (He.ga K "Lot") "__init__") ["self", "places"] (spLotInit K)) (d_len : Okd P w K mg base CX0 1 (He.ma K (He.ga K "Lot") "__len__") ["self"] (spLotLen K)) (d_in : Okd P w K mg base CX0 1 (He.ma K (He.ga K "Lot") "__contains__") ["self", "place"] (spLotIn K)) : FnOk P w K mg base CX0 8 (He.ga K "law") fd ["_law_script"] (spLaw K) := by
  obtain ⟨fd_pool, G_pool, b_pool⟩ := d_pool
  obtain ⟨fd_draw, G_draw, b_draw⟩ := d_draw
  obtain ⟨fd_after, G_after, b_after⟩ := d_after
  obtain ⟨fd_right, G_right, b_right⟩ := d_right
  obtain ⟨fd_init, G_init, b_init⟩ := d_init
  obtain ⟨fd_len, G_len, b_len⟩ := d_len
  obtain ⟨fd_in, G_in, b_in⟩ := d_in
  refine F.ok sc_law (fun vs H Q E h => by obtain ⟨a, ns, rfl, _⟩ := h; rfl) (fun cdv A outer s H vs Q E hr h => ?_)
  obtain ⟨a, ns, rfl, hS, kk⟩ := h
  refine ⟨_, PSs.nox (pss_cons (ps_set (i := 1) sc_law.nd rfl (Or.inl rfl) (pe_call G_pool (hr.mono (by decide)) (by rfl) Y.g__law_pool Y.k__law_pool b_pool .nil pass0 (pa_cons (pv 0) pa_nil)))
    (pss_cons (ps_set (i := 2) sc_law.nd rfl (Or.inl rfl) (pe_lst (pa_cons (pe_make Y.mk_Lot G_init (hr.mono (by decide)) (by rfl) Y.g_Lot b_init .nil passF (pa_cons (pe_lst pa_nil) pa_nil)) (pa_cons (pe_make Y.mk_Lot G_init (hr.mono (by decide)) (by rfl) Y.g_Lot b_init .nil passF (pa_cons (pe_tup pa_nil) pa_nil)) (pa_cons (pe_make Y.mk_Lot G_init (hr.mono (by decide)) (by rfl) Y.g_Lot b_init .nil passF (pa_cons (pe_listRg rfl rfl Y.n_list (prg_1 rfl Y.n_range pe_int)) pa_nil)) pa_nil)))))
    (pss_cons (ps_set (i := 3) sc_law.nd rfl (Or.inl rfl) (pe_lst (pa_cons (pe_lst pa_nil) (pa_cons (pe_lst pa_nil) (pa_cons (pe_listRg rfl rfl Y.n_list (prg_1 rfl Y.n_range pe_int)) pa_nil)))))
    (pss_cons (ps_set (i := 4) sc_law.nd rfl (Or.inl rfl) (pe_lst pa_nil))
    (pss_cons (ps_if (pt_not (pt_val (pe_call G_right (hr.mono (by decide)) (by rfl) Y.g__law_right Y.k__law_right b_right .nil pass0 (pa_cons (pv 2) (pa_cons (pv 3) pa_nil))))) (pss_one (ps_ret pe_bl)) pss_nil)
    (pss_cons (ps_for PassesOwn.never rfl (pi_range1 rfl Y.n_range (pa_cons (pe_call G_draw (hr.mono (by decide)) (by rfl) Y.g__law_draw Y.k__law_draw b_draw .nil pass0 (pa_cons (pv 1) (pa_cons pe_int pa_nil))) pa_nil)) (pg_name (i := 5) sc_law.nd rfl (Or.inl rfl))
      (pss_cons (ps_set (i := 6) sc_law.nd rfl (Or.inl rfl) (pe_call G_draw (hr.mono (by decide)) (by rfl) Y.g__law_draw Y.k__law_draw b_draw .nil pass0 (pa_cons (pv 1) (pa_cons pe_int pa_nil))))
    (pss_cons (ps_asg (pe_call G_after (hr.mono (by decide)) (by rfl) Y.g__law_after Y.k__law_after b_after .nil pass0 (pa_cons (pv 1) (pa_cons (pv 2) (pa_cons (pv 3) pa_nil)))) (pg_tup rfl (pgs_cons (pg_name (i := 7) sc_law.nd rfl (Or.inl rfl)) (pgs_cons (pg_name (i := 8) sc_law.nd rfl (Or.inl rfl)) pgs_nil))))
    (pss_cons (ps_expr (pe_bm PySem.F.plainAttrs_list PySem.F.slot_list_append PySem.F.type_list_append mt_append (pv 4) (pa_cons (pe_tup (pa_cons (pe_ix ix_list (pv 2) (pv 6) (fun _ _ => rfl)) (pa_cons (pe_ix ix_list (pv 3) (pv 6) (fun _ _ => rfl)) pa_nil))) pa_nil)))
    (pss_cons (ps_asg (pv 7) (pg_sub (pv 2) (pv 6) set_list))
    (pss_cons (ps_asg (pv 8) (pg_sub (pv 3) (pv 6) set_list))
    (pss_cons (ps_set (i := 9) sc_law.nd rfl (Or.inr rfl) (pe_call G_draw (hr.mono (by decide)) (by rfl) Y.g__law_draw Y.k__law_draw b_draw .nil pass0 (pa_cons (pv 1) (pa_cons pe_int pa_nil))))
    (pss_cons (ps_if (pt_not (pt_val (pe_call G_right (hr.mono (by decide)) (by rfl) Y.g__law_right Y.k__law_right b_right .nil pass0 (pa_cons (pv 2) (pa_cons (pv 3) pa_nil))))) (pss_one (ps_ret pe_bl)) pss_nil)
    (pss_one (ps_if (pt_cmpR (op_neD hr.units) (pe_lc (own := [("_law_one", 10)]) (g := gName 10) (tt := tYes) rfl sc_law.nd (pi_list (pv 2)) (blkOk_by (own := [("_law_one", 10)]) (N := ["_law_script", "_law_pool_here", "_law_lots", "_law_sets", "_law_before", "_law_k", "_law_at", "_law_lot", "_law_told", "_law_place", "_law_one"]) (sc := defScope s_law) (by decide +kernel)) (fun _ _ _ _ _ => (pg_name (i := 10) sc_law.nd rfl (Or.inl rfl))) (fun _ _ _ _ _ => pts_nil) (fun _ _ _ _ _ => (pe_cmpR (op_inOwn G_in (hr.mono (by decide)) Y.o_contains b_in pass0) (pv 9) (pv 10) (by first | exact nomark _ | rfl)))) (pe_lc (own := [("_law_one", 10)]) (g := gName 10) (tt := tYes) rfl sc_law.nd (pi_list (pv 3)) (blkOk_by (own := [("_law_one", 10)]) (N := ["_law_script", "_law_pool_here", "_law_lots", "_law_sets", "_law_before", "_law_k", "_law_at", "_law_lot", "_law_told", "_law_place", "_law_one"]) (sc := defScope s_law) (by decide +kernel)) (fun _ _ _ _ _ => (pg_name (i := 10) sc_law.nd rfl (Or.inl rfl))) (fun _ _ _ _ _ => pts_nil) (fun _ _ _ _ _ => (pe_cmpR (r := rIn K false) op_in_seq (pv 9) (pv 10) (by first | exact nomark _ | rfl)))) (nomark _)) (pss_one (ps_ret pe_bl)) pss_nil))))))))))
    (pss_cons (ps_for PassesOwn.never rfl (pi_list (pv 4)) (pg_tup rfl (pgs_cons (pg_name (i := 7) sc_law.nd rfl (Or.inl rfl)) (pgs_cons (pg_name (i := 8) sc_law.nd rfl (Or.inl rfl)) pgs_nil)))
      (pss_one (ps_if (PW.pt (pw_or (pt_cmpR (op_neD hr.units) (pe_fld (pv 7) rfl) (pe_callTy call_tupleQ (by rfl) Y.n_tuple (by decide +kernel) (pa_cons (pv 8) pa_nil)) (nomark _)) (pw_or1 (pt_cmpR op_ne (pe_callB (call_lenOwn G_len (hr.mono (by decide)) Y.o_len b_len pass0) (by rfl) Y.n_len PySem.boot_len (pa_cons (pv 7) pa_nil)) (pe_callB call_len_seq (by rfl) Y.n_len PySem.boot_len (pa_cons (pv 8) pa_nil)) (nomark _))))) (pss_one (ps_ret pe_bl)) pss_nil)))
    (pss_one (ps_ret pe_bl))))))))), ?_⟩
  have big : ∀ {k : Nat}, k ≤ 1000 → k ≤ sizeLine := fun {k} h => Nat.le_trans h (by decide)
  refine ⟨_, rfl, a, ns, rfl, hS, fun H1 p hp P1 hH1 => ?_⟩
  -- the three lots
  refine ⟨(by show 0 ≤ sizeLine; decide), fun e1 he1 => ?_⟩
  intro x1 dx1 hx1 hdx1 ne1
  refine make_lot (ns := []) hx1 hdx1 (.inl (SqL.of upd_same)) (by decide) (fun z r e => nomatch e) fun _ H2 s2 X1 => ⟨rfl, ?_⟩
  have s12 := (same_upd (o := .lst []) (Same.refl H1) he1).trans s2
  refine ⟨(by show 0 ≤ sizeLine; decide), fun e2 he2 => ?_⟩
  intro x2 dx2 hx2 hdx2 ne2
  refine make_lot (ns := []) hx2 hdx2 (.inr (SqT.of upd_same)) (by decide) (fun z r e => nomatch e) fun _ H3 s3 X2 => ⟨rfl, ?_⟩
  have s23 := (same_upd (o := .tup []) (Same.refl H2) he2).trans s3
  refine ⟨24, rfl, ⟨by decide, by decide, by decide, by decide, by decide⟩, fun e3 he3 => ?_⟩
  have er : rgV 0 24 = r24.map V.int := by rfl
  rw [er]
  intro x3 dx3 hx3 hdx3 ne3
  refine make_lot (ns := r24) hx3 hdx3 (.inl (SqL.of upd_same)) (by decide) (fun z r e => nomatch e) fun _ H4 s4 X3 => ⟨rfl, ?_⟩
  have s34 := (same_upd (o := .lst (r24.map V.int)) (Same.refl H3) he3).trans s4
  refine ⟨(by show 3 ≤ sizeLine; decide), fun ll hll => ?_⟩
  have s45 := same_upd (o := .lst [.ref x1, .ref x2, .ref x3]) (Same.refl H4) hll
  have hll5 : (upd H4 ll (.lst [.ref x1, .ref x2, .ref x3])) ll = some (.lst (([x1, x2, x3] : List Addr).map V.ref)) := upd_same
  have X1' := ((X1.same s23).same s34).same s45
  have X2' := (X2.same s34).same s45
  have X3' := X3.same s45
  rw [show setF ([] : List Int) = [] from rfl] at X1' X2'
  rw [setF_asc fine24.up] at X3'
  have P5 := ((((P1.same s12).same s23).same s34).same s45)
  have nlp : ll ≠ p := (((P1.same s12).same s23).same s34).ne_new hll
  revert hll5 X1' X2' X3' P5
  generalize upd H4 ll (.lst [.ref x1, .ref x2, .ref x3]) = H5
  intro hll5 X1' X2' X3' P5
  clear s45 s34 s23 s12 X1 X2 X3
  -- their places
  refine ⟨(by show 0 ≤ sizeLine; decide), fun y1 hy1 => ⟨(by show 0 ≤ sizeLine; decide), fun y2 hy2 => ?_⟩⟩
  refine ⟨24, rfl, ⟨by decide, by decide, by decide, by decide, by decide⟩, fun y3 hy3 => ?_⟩
  rw [er]
  have sA := same_upd (o := .lst []) (Same.refl H5) hy1
  have sB := same_upd (o := .lst []) (Same.refl _) hy2
  have sC := same_upd (o := .lst (r24.map V.int)) (Same.refl _) hy3
  have sAC := (sA.trans sB).trans sC
  have hy1' := (sB.trans sC) _ _ upd_same
  have hy2' := sC _ _ upd_same
  have hy3' : (upd (upd (upd H5 y1 (.lst [])) y2 (.lst [])) y3 (.lst (r24.map V.int))) y3 = some (.lst (r24.map V.int)) := upd_same
  have q1 := P5.ne_new hy1
  have q2 := (P5.same sA).ne_new hy2
  have q3 := ((P5.same sA).same sB).ne_new hy3
  have m1 : y1 ≠ ll := ne_of_none' hy1 hll5
  have m2 : y2 ≠ ll := ne_of_none' hy2 (sA _ _ hll5)
  have m3 : y3 ≠ ll := ne_of_none' hy3 ((sA.trans sB) _ _ hll5)
  revert sAC hy1' hy2' hy3'
  generalize upd (upd (upd H5 y1 (.lst [])) y2 (.lst [])) y3 (.lst (r24.map V.int)) = H6
  intro sAC hy1' hy2' hy3'
  refine ⟨(by show 3 ≤ sizeLine; decide), fun ls hls => ?_⟩
  have s67 := same_upd (o := .lst [.ref y1, .ref y2, .ref y3]) (Same.refl H6) hls
  have hls7 : (upd H6 ls (.lst [.ref y1, .ref y2, .ref y3])) ls = some (.lst (([y1, y2, y3] : List Addr).map V.ref)) := upd_same
  have nsp : ls ≠ p := (P5.same sAC).ne_new hls
  have nsl : ll ≠ ls := fun e => ne_of_none' hls (sAC _ _ hll5) e.symm
  have w1 : y1 ≠ ls := fun e => ne_of_none' hls hy1' e.symm
  have w2 : y2 ≠ ls := fun e => ne_of_none' hls hy2' e.symm
  have w3 : y3 ≠ ls := fun e => ne_of_none' hls hy3' e.symm
  refine ⟨(by show 0 ≤ sizeLine; decide), fun be hbe => ?_⟩
  have s78 := same_upd (o := .lst []) s67 hbe
  have s58 := sAC.trans s78
  have hbe8 : (upd (upd H6 ls (.lst [.ref y1, .ref y2, .ref y3])) be (.lst [])) be = some (.lst (([] : List Addr).map V.ref)) := upd_same
  have hls8 := (same_upd (o := .lst []) (Same.refl _) hbe) _ _ hls7
  have nbp : be ≠ p := ((P5.same sAC).same s67).ne_new hbe
  have nbl : be ≠ ll := ne_of_none' hbe (s67 _ _ (sAC _ _ hll5))
  have nbs : be ≠ ls := ne_of_none' hbe hls7
  have v1 : y1 ≠ be := fun e => ne_of_none' hbe (s67 _ _ hy1') e.symm
  have v2 : y2 ≠ be := fun e => ne_of_none' hbe (s67 _ _ hy2') e.symm
  have v3 : y3 ≠ be := fun e => ne_of_none' hbe (s67 _ _ hy3') e.symm
  have hy1'' := s78 _ _ hy1'
  have hy2'' := s78 _ _ hy2'
  have hy3'' := s78 _ _ hy3'
  revert s58 hbe8 hls8 hy1'' hy2'' hy3''
  generalize upd (upd H6 ls (.lst [.ref y1, .ref y2, .ref y3])) be (.lst []) = H8
  intro s58 hbe8 hls8 hy1'' hy2'' hy3''
  have T8 : Tri K H8 ll ls [x1, x2, x3] [y1, y2, y3] [[], [], r24] := by
    refine ⟨rfl, rfl, rfl, s58 _ _ hll5, hls8, fun i x y u hx hy hu => ?_⟩
    match i, hx, hy, hu with
    | 0, hx, hy, hu => cases hx; cases hy; cases hu; exact ⟨X1'.same s58, hy1'', Fine.nil⟩
    | 1, hx, hy, hu => cases hx; cases hy; cases hu; exact ⟨X2'.same s58, hy2'', Fine.nil⟩
    | 2, hx, hy, hu => cases hx; cases hy; cases hu; exact ⟨X3'.same s58, hy3'', fine24⟩
    | n + 3, hx, hy, hu => cases hx
  have ny8 : ∀ y ∈ ([y1, y2, y3] : List Addr), y ∉ ([p, ll, ls, be] : List Addr) := by
    intro y hy
    rcases List.mem_cons.mp hy with rfl | hy
    · simp [q1, m1, w1, v1]
    rcases List.mem_cons.mp hy with rfl | hy
    · simp [q2, m2, w2, v2]
    rw [List.mem_singleton.mp hy]
    simp [q3, m3, w3, v3]
  have P8 := P5.same s58
  clear X1' X2' X3' hy1' hy2' hy3' hy1'' hy2'' hy3'' sA sB sC sAC s67 s78 hls7 q1 q2 q3 m1 m2 m3 w1 w2 w3 v1 v2 v3
  refine ⟨_, rfl, _, rfl, ll, ls, _, _, _, rfl, T8, fun H9 s9 => ⟨_, rfl, iteF ?_⟩⟩
  -- the deeds
  refine ⟨_, rfl, p, 999999000000, 41, rfl, (P8.same s9).less (by decide), by decide, by decide, fun H10 d d0 d1 P10 B10 => ?_⟩
  have T10 := (T8.same s9).but (P8.same s9) B10.one nlp nsp fun y hy e => ny8 y hy (by rw [e]; exact List.mem_cons_self)
  have hbe10 := B10.one be _ nbp (s9 _ _ hbe8)
  refine ⟨d, rfl, by omega, by omega, for_range (lo := 0) (n := d.toNat) (fun i σ' H' => ∃ (v5 v6 v7 v8 v9 : Option V) (xs ys : List Addr) (us : List (List Int)) (ts : List Addr), σ' = [some (.ref a), some (.ref p), some (.ref ll), some (.ref ls), some (.ref be), v5, v6, v7, v8, v9, none] ∧ PoolAt K H' p (999999000000 - 1000 * i) ∧ Tri K H' ll ls xs ys us ∧ H' be = some (.lst (ts.map V.ref)) ∧ Bef K H' [p, ll, ls, be] ts ∧ ts.length = i ∧ ∀ y ∈ ys, y ∉ ([p, ll, ls, be] : List Addr))
    ⟨none, none, none, none, none, _, _, _, [], rfl, P10, T10, hbe10, (fun _ z => nomatch z), rfl, ny8⟩ ?_ ?_⟩
  · rintro i σ1 H11 hi ⟨v5, v6, v7, v8, v9, xs, ys, us, ts, rfl, P11, T11, hbe11, BF11, lts, ny⟩
    have nyp : ∀ y ∈ ys, y ≠ p := fun y hy e => ny y hy (by rw [e]; exact List.mem_cons_self)
    refine ⟨_, rfl, p, 999999000000 - 1000 * i - 1, 3, rfl, P11.less (by omega), by decide, by decide, fun H12 at_ a0 a1 P12 B12 => ?_⟩
    have T12 := T11.but P11 B12.one nlp nsp nyp
    have hbe12 := B12.one be _ nbp hbe11
    have BF12 := BF11.but P11 B12.one List.mem_cons_self
    refine ⟨_, rfl, _, rfl, _, rfl, p, ll, ls, 999999000000 - 1000 * i - 2, xs, ys, us, rfl, P12.less (by omega), by omega, T12, nlp, nsp, nyp, fun H13 t x y u b13 P13 ht X13 Y13 F13 nyp' hy0 => ?_⟩
    have T13 := T12.but P12 b13 nlp nsp nyp
    have hbe13 := b13 be _ nbp hbe12
    have BF13 := BF12.but P12 b13 List.mem_cons_self
    have yl : y ≠ ll := ne_of_none' hy0 T12.hl
    have yS : y ≠ ls := ne_of_none' hy0 T12.hs
    have yb : y ≠ be := ne_of_none' hy0 hbe12
    refine ⟨t, _, rfl, SqT.of ht, rfl, _, _, rfl, _, _, rfl, rfl, ?_⟩
    obtain ⟨xo, yo, uo, eo, fo, _, Lo, Mo, Fo, myo⟩ := T13.get a0 a1
    -- what was is kept
    refine ⟨_, rfl, .inl ⟨rfl, _, SqL.of hbe13⟩, _, rfl, _, rfl, ll, _, at_, .ref xo, rfl, rfl, SqL.of T13.hl, eo, _, rfl, _, rfl, ls, _, at_, .ref yo, rfl, rfl, SqL.of T13.hs, fo, (by show 2 ≤ sizeLine; decide), fun tt htt => ?_⟩
    have s14 := same_upd (o := .tup [.ref xo, .ref yo]) (Same.refl H13) htt
    have T14 := T13.same s14
    have hbe14 := s14 _ _ hbe13
    have BF14 := (BF13.same s14).snoc (t := tt) upd_same (Lo.same s14) (s14 _ _ Mo) Fo.len (ny yo myo)
    have X14 := X13.same s14
    have Y14 := s14 _ _ Y13
    have P14 := P13.same s14
    revert T14 hbe14 BF14 X14 Y14 P14
    generalize upd H13 tt (.tup [.ref xo, .ref yo]) = H14
    intro T14 hbe14 BF14 X14 Y14 P14
    refine ⟨be, _, _, rfl, rfl, hbe14, ?_, ?_⟩
    · rw [List.length_map, lts]
      exact Nat.lt_of_le_of_lt (show i ≤ 100 by omega) (by decide)
    have eT : ts.map V.ref ++ [V.ref tt] = (ts ++ [tt]).map V.ref := by rw [List.map_append]; rfl
    rw [eT]
    have nys : ∀ z ∈ ys, z ≠ ll ∧ z ≠ ls ∧ z ≠ be := fun z hz => by
      have := ny z hz
      simp only [List.mem_cons, List.not_mem_nil, or_false, not_or] at this
      exact ⟨this.2.1, this.2.2.1, this.2.2.2⟩
    have T15 : Tri K (upd H14 be (.lst ((ts ++ [tt]).map V.ref))) ll ls xs ys us := ⟨T14.l1, T14.l2, T14.l3, by rw [upd_ne nbl.symm]; exact T14.hl, by rw [upd_ne nbs.symm]; exact T14.hs, fun k b c e h1 h2 h3 => by
      obtain ⟨z1, z2, z3⟩ := T14.at_ k b c e h1 h2 h3
      exact ⟨z1.set hbe14, by rw [upd_ne (nys c (List.mem_of_getElem? h2)).2.2]; exact z2, z3⟩⟩
    have BF15 := BF14.set (o := .lst ((ts ++ [tt]).map V.ref)) hbe14 (by simp)
    have X15 := X14.set (o := .lst ((ts ++ [tt]).map V.ref)) hbe14
    have Y15 : (upd H14 be (.lst ((ts ++ [tt]).map V.ref))) y = some (.lst (u.map V.int)) := by rw [upd_ne yb]; exact Y14
    have P15 := P14.set (x := .lst ((ts ++ [tt]).map V.ref)) hbe14 nbp
    have hbe15 : (upd H14 be (.lst ((ts ++ [tt]).map V.ref))) be = some (.lst ((ts ++ [tt]).map V.ref)) := upd_same
    revert T15 BF15 X15 Y15 P15 hbe15
    generalize upd H14 be (.lst ((ts ++ [tt]).map V.ref)) = H15
    intro T15 BF15 X15 Y15 P15 hbe15
    -- the new one
    have j1 : ixN (xs.map V.ref).length at_ = some at_.toNat := ixN_in a0 (by rw [List.length_map, T15.l1]; exact a1)
    have j2 : ixN (ys.map V.ref).length at_ = some at_.toNat := ixN_in a0 (by rw [List.length_map, T15.l2]; exact a1)
    refine ⟨_, rfl, _, rfl, _, rfl, ll, _, at_, at_.toNat, rfl, rfl, T15.hl, j1, ?_⟩
    have T16 := T15.put at_.toNat X15 Y15 F13 nsl yl yS fun z hz => ⟨(nys z hz).1, (nys z hz).2.1⟩
    have hs16 : (upd H15 ll (.lst ((xs.map V.ref).set at_.toNat (.ref x)))) ls = some (.lst (ys.map V.ref)) := by rw [upd_ne nsl.symm]; exact T15.hs
    refine ⟨_, rfl, _, rfl, _, rfl, ls, _, at_, at_.toNat, rfl, rfl, hs16, j2, ?_⟩
    have BF16 := (BF15.set (o := .lst ((xs.map V.ref).set at_.toNat (.ref x))) T15.hl (by simp)).set (o := .lst ((ys.map V.ref).set at_.toNat (.ref y))) hs16 (by simp)
    have P16 := (P15.set (x := .lst ((xs.map V.ref).set at_.toNat (.ref x))) T15.hl nlp).set (x := .lst ((ys.map V.ref).set at_.toNat (.ref y))) hs16 nsp
    have hbe16 : (upd (upd H15 ll (.lst ((xs.map V.ref).set at_.toNat (.ref x)))) ls (.lst ((ys.map V.ref).set at_.toNat (.ref y)))) be = some (.lst ((ts ++ [tt]).map V.ref)) := by rw [upd_ne nbs, upd_ne nbl]; exact hbe15
    have ny16 : ∀ z ∈ ys.set at_.toNat y, z ∉ ([p, ll, ls, be] : List Addr) := fun z hz => by
      rcases List.mem_or_eq_of_mem_set hz with h | h
      · exact ny z h
      · rw [h]
        simp [nyp', yl, yS, yb]
    revert T16 BF16 P16 hbe16
    generalize upd (upd H15 ll (.lst ((xs.map V.ref).set at_.toNat (.ref x)))) ls (.lst ((ys.map V.ref).set at_.toNat (.ref y))) = H16
    generalize xs.set at_.toNat x = xs'
    generalize us.set at_.toNat u = us'
    revert ny16
    generalize ys.set at_.toNat y = ys'
    intro ny16 T16 BF16 P16 hbe16
    have nyp16 : ∀ y ∈ ys', y ≠ p := fun y hy e => ny16 y hy (by rw [e]; exact List.mem_cons_self)
    refine ⟨_, rfl, p, 999999000000 - 1000 * i - 300, 30, rfl, P16.less (by omega), by decide, by decide, fun H17 pl pl0 pl1 P17 B17 => ?_⟩
    have T17 := T16.but P16 B17.one nlp nsp nyp16
    have hbe17 := B17.one be _ nbp hbe16
    have BF17 := BF16.but P16 B17.one List.mem_cons_self
    refine ⟨_, rfl, _, rfl, ll, ls, _, _, _, rfl, T17, fun H18 s18 => ⟨_, rfl, iteF ?_⟩⟩
    have T18 := T17.same s18
    -- in
    have lus : (us'.map fun u => decide (pl ∈ u)).length = 3 := by rw [List.length_map]; exact T18.l3
    refine ⟨_, rfl, ll, rfl, ⟨_, SqL.of T18.hl⟩, fun D hD => lc_list (K := K) (a := ll) (xs := xs'.map V.ref) (fun j H' => Same H18 H' ∧ H' D = some (.lst (((us'.map fun u => decide (pl ∈ u)).take j).map V.bl)))
      ⟨same_upd (Same.refl H18) hD, upd_same⟩ (fun j H' _ h => SqL.of (h.1 _ _ T18.hl)) ?_ ?_⟩
    · rintro j v H19 hj ⟨s19, h19⟩
      obtain ⟨x9, u9, rfl, e9, L9, F9⟩ := T18.bools hj
      obtain ⟨d9, _, o9, _⟩ := (L9.same s19).at_
      have lt9 := F9.len
      have le9 : (us'.map fun u => decide (pl ∈ u))[j]? = some (decide (pl ∈ u9)) := by rw [List.getElem?_map, e9]; rfl
      refine ⟨rfl, _, rfl, _, rfl, x9, d9, _, rfl, o9, x9, pl, u9, rfl, L9.same s19, by omega, fun H20 s20 => ⟨_, rfl, ?_⟩⟩
      refine ⟨_, s20 _ _ h19, ?_, fun b o h => ?_, ?_⟩
      · rw [List.length_map, List.length_take]
        exact Nat.lt_of_le_of_lt (show min j _ ≤ 100 by rw [lus]; omega) (by decide)
      · rw [upd_ne (ne_of_none h hD)]
        exact s20 _ _ (s19 b o h)
      · rw [upd_same, take_next le9, List.map_append]
        rfl
    rintro H19 ⟨s19, h19⟩
    rw [show (xs'.map V.ref).length = (us'.map fun u => decide (pl ∈ u)).length by rw [List.length_map, lus]; exact T18.l1, List.take_length] at h19
    have T19 := T18.same s19
    refine ⟨_, rfl, ls, rfl, ⟨_, SqL.of T19.hs⟩, fun D2 hD2 => lc_list (K := K) (a := ls) (xs := ys'.map V.ref) (fun j H' => Same H19 H' ∧ H' D2 = some (.lst (((us'.map fun u => decide (pl ∈ u)).take j).map V.bl)))
      ⟨same_upd (Same.refl H19) hD2, upd_same⟩ (fun j H' _ h => SqL.of (h.1 _ _ T19.hs)) ?_ ?_⟩
    · rintro j v H20 hj ⟨s20, h20⟩
      obtain ⟨y9, u9, rfl, e9, M9, F9⟩ := T19.lists hj
      have le9 : (us'.map fun u => decide (pl ∈ u))[j]? = some (decide (pl ∈ u9)) := by rw [List.getElem?_map, e9]; rfl
      refine ⟨rfl, _, rfl, _, rfl, y9, _, rfl, .inl (SqL.of (s20 _ _ M9)), rfl, flat_ints u9, ?_⟩
      rw [inV_ints]
      refine ⟨_, h20, ?_, fun b o h => ?_, ?_⟩
      · rw [List.length_map, List.length_take]
        exact Nat.lt_of_le_of_lt (show min j _ ≤ 100 by rw [lus]; omega) (by decide)
      · rw [upd_ne (ne_of_none h hD2)]
        exact s20 b o h
      · rw [upd_same, take_next le9, List.map_append]
        rfl
    rintro H20 ⟨s20, h20⟩
    rw [show (ys'.map V.ref).length = (us'.map fun u => decide (pl ∈ u)).length by rw [List.length_map, lus]; exact T18.l2, List.take_length] at h20
    refine ⟨.list (((us'.map fun u => decide (pl ∈ u))).map PyData.bool), .list (((us'.map fun u => decide (pl ∈ u))).map PyData.bool), .lst (SqL.of (s20 _ _ h19)) (dp_bools _), .lst (SqL.of h20) (dp_bools _), shaped_lbools _, shaped_lbools _, _, rfl, ?_⟩
    rw [eqv_self (shaped_lbools _)]
    have s1820 := s18.trans (s19.trans s20)
    refine iteF ⟨_, _, _, _, _, xs', ys', us', ts ++ [tt], rfl, ((P17.same s1820).less (by omega)), T17.same s1820, s1820 _ _ hbe17, BF17.same s1820, by rw [List.length_append, List.length_singleton, lts], ny16⟩
  rintro σ1 H11 ⟨v5, v6, v7, v8, v9, xs, ys, us, ts, rfl, P11, T11, hbe11, BF11, lts, ny⟩
  refine ⟨_, rfl, be, rfl, ⟨_, SqL.of hbe11⟩, for_list (K := K) (a := be) (xs := ts.map V.ref) (fun j σ' H' => ∃ v7 v8 : Option V, σ' = [some (.ref a), some (.ref p), some (.ref ll), some (.ref ls), some (.ref be), v5, v6, v7, v8, v9, none] ∧ Same H11 H')
    ⟨v7, v8, rfl, Same.refl H11⟩ (fun j σ' H' _ h => by obtain ⟨_, _, _, s⟩ := h; exact SqL.of (s _ _ hbe11)) ?_ ?_⟩
  · rintro j z σ' H12 hj ⟨v7, v8, rfl, s12⟩
    obtain ⟨t, ht, rfl⟩ : ∃ t, ts[j]? = some t ∧ z = .ref t := by
      rw [List.getElem?_map] at hj
      cases h : ts[j]? with
      | none => rw [h] at hj; cases hj
      | some t => rw [h] at hj; exact ⟨t, rfl, (Option.some.inj hj).symm⟩
    obtain ⟨x, y, u, h1, h2, h3, h4, _⟩ := (BF11.same s12) t (List.mem_of_getElem? ht)
    obtain ⟨dx, tx, w1, w2⟩ := h2.at_
    refine ⟨t, _, rfl, SqT.of h1, rfl, _, _, rfl, _, _, rfl, rfl, ?_⟩
    refine ⟨_, rfl, x, _, dx, _, _, rfl, w1, Y.cl_Lot, Y.na_places, rfl, _, rfl, y, _, rfl, .inl h3, fun tu H13 s13 htu => ?_⟩
    refine ⟨.tuple (u.map PyData.int), .tuple (u.map PyData.int), .tup (w2.ext s13) (dp_ints u), .tup (SqT.of htu) (dp_ints u), shaped_ints u, shaped_ints u, _, rfl, ?_⟩
    rw [eqv_self (shaped_ints u)]
    refine iteF ?_
    refine ⟨_, rfl, x, dx, _, rfl, s13 _ _ w1, x, u, rfl, h2.same s13, by omega, fun H14 s14 => ⟨_, rfl, ⟨by omega, by omega⟩, ?_⟩⟩
    refine ⟨_, rfl, y, _, rfl, .inl (SqL.of (s14 _ _ (s13 _ _ h3))), ?_⟩
    rw [List.length_map]
    refine ⟨rfl, _, rfl, ?_⟩
    rw [decide_eq_true (rfl : V.int (u.length : Nat) = V.int (u.length : Nat))]
    exact iteF ⟨_, _, rfl, s12.trans (s13.trans s14)⟩
  rintro σ' H12 ⟨v7, v8, rfl, s12⟩
  exact kk _
end
section
variable {P : Program} {w : World} {K : PySem.W.Frag} {mg : Str → Option Value} {base : Heap}
abbrev s_BadPlace_init : Stmt := inClass (top 2) 0
theorem sc_BadPlace_init : FnScope ["self", "number"] ["self", "number"] (defScope s_BadPlace_init) := ⟨rfl, rfl, rfl, by decide +kernel, rfl, by decide +kernel, by decide +kernel⟩
theorem oki_BadPlace_init {fd : FuncData} (F : FunD K "__init__" "BadPlace.__init__" (defArgs s_BadPlace_init) (defBody s_BadPlace_init) (defScope s_BadPlace_init) [] [] (He.ma K (He.ga K "BadPlace") "__init__") fd) (T : OexC K (He.ga K "BadPlace")) (no : PySem.W.findIn K (.ref (He.ga K "BadPlace")) "number" = some none) :
    FnOk P w K mg base CX0 1 (He.ma K (He.ga K "BadPlace") "__init__") fd (["self", "number"] : List Str) (spInit (He.ga K "BadPlace") "number") := by
  refine F.ok sc_BadPlace_init (fun vs H Q E h => ?_) (fun cdv A outer s H vs Q E hr h => ?_)
  · obtain ⟨a, v, rfl, _⟩ := h
    rfl
  · obtain ⟨a, v, rfl, ha, k⟩ := h
    refine ⟨_, pss_one (ps_ost (pv 0) (pv 1)), ?_⟩
    exact ⟨_, rfl, _, rfl, a, He.ga K "BadPlace", rfl, T, no, .inl ⟨ha, fun dx n ne => k dx n ne⟩⟩
end
def fns : List He.DefD := [
  ⟨("_law_pool", none), "_law_pool", "_law_pool", defArgs s_pool, defBody s_pool, defScope s_pool, [], []⟩,
  ⟨("_law_draw", none), "_law_draw", "_law_draw", defArgs s_draw, defBody s_draw, defScope s_draw, [], []⟩,
  ⟨("is_number", none), "is_number", "is_number", defArgs s_is_number, defBody s_is_number, defScope s_is_number, [], []⟩,
  ⟨("Lot", some "__init__"), "__init__", "Lot.__init__", defArgs s_Lot_init, defBody s_Lot_init, defScope s_Lot_init, [], []⟩,
  ⟨("Lot", some "__eq__"), "__eq__", "Lot.__eq__", defArgs s_Lot_eq, defBody s_Lot_eq, defScope s_Lot_eq, [], []⟩,
  ⟨("Lot", some "__len__"), "__len__", "Lot.__len__", defArgs s_Lot_len, defBody s_Lot_len, defScope s_Lot_len, [], []⟩,
  ⟨("Lot", some "__contains__"), "__contains__", "Lot.__contains__", defArgs s_Lot_contains, defBody s_Lot_contains, defScope s_Lot_contains, [], []⟩,
  ⟨("Lot", some "__le__"), "__le__", "Lot.__le__", defArgs s_Lot_le, defBody s_Lot_le, defScope s_Lot_le, [], []⟩,
  ⟨("Lot", some "__or__"), "__or__", "Lot.__or__", defArgs s_Lot_or, defBody s_Lot_or, defScope s_Lot_or, [], []⟩,
  ⟨("Lot", some "__and__"), "__and__", "Lot.__and__", defArgs s_Lot_and, defBody s_Lot_and, defScope s_Lot_and, [], []⟩,
  ⟨("Lot", some "__sub__"), "__sub__", "Lot.__sub__", defArgs s_Lot_sub, defBody s_Lot_sub, defScope s_Lot_sub, [], []⟩,
  ⟨("_law_after", none), "_law_after", "_law_after", defArgs s_after, defBody s_after, defScope s_after, [], []⟩,
  ⟨("_law_right", none), "_law_right", "_law_right", defArgs s_right, defBody s_right, defScope s_right, [], []⟩,
  ⟨("law", none), "law", "law", defArgs s_law, defBody s_law, defScope s_law, [], []⟩,
  ⟨("Lot", some "__iter__"), "__iter__", "Lot.__iter__", defArgs s_Lot_iter, defBody s_Lot_iter, defScope s_Lot_iter, [], []⟩,
  ⟨("BadPlace", some "__init__"), "__init__", "BadPlace.__init__", defArgs s_BadPlace_init, defBody s_BadPlace_init, defScope s_BadPlace_init, [], []⟩]
def pqs : List PropD := []
def fas : List He.Fa := [.glo "is_number", .free "isinstance", .free "int", .free "bool", .free "list", .free "tuple", .free "set", .free "sorted", .free "len", .free "iter", .free "all", .glo "BadPlace", .glo "Lot", .cls "Lot", .mkr "Lot", .noat "Lot" "places", .glo "_law_pool", .glo "_law_draw", .glo "_law_after", .glo "_law_right", .glo "law", .free "range", .free "abs", .meth "Lot" "__len__", .meth "Lot" "__eq__", .meth "Lot" "__contains__", .meth "Lot" "__iter__", .meth "Lot" "__le__", .meth "Lot" "__or__", .meth "Lot" "__and__", .meth "Lot" "__sub__", .noat "BadPlace" "number"]
def initB (K : PySem.W.Frag) (C : Addr) : Bool := oexB K C && (eqOB (PySem.W.findIn K (.ref C) "__init__") (some (some (.ref (He.ma K C "__init__")))) && eqVB (PySem.W.typeIn K (.ref (He.ma K C "__init__"))) (some (.type "function")))
def excB (K : PySem.W.Frag) (C : Addr) : Bool := eqOB (PySem.W.findIn K (.ref C) "__getattribute__") (some (some (.builtin "BaseException.__getattribute__"))) && (eqOB (PySem.W.findIn K (.ref C) "__getattr__") (some none) && (eqBB (PySem.W.subIn K (.ref C) (.type "BaseException")) (some true) && (PySem.W.hasDictIn K C &&
  (eqOB (PySem.W.findIn K (.ref C) "__class__") (some (some (.builtin "object.__class__"))) && (eqOB (PySem.W.specialIn K (.builtin "object.__class__") "__get__") (some (some (.builtin "getset_descriptor.__get__"))) && (eqBB (PySem.W.takesIn K (.builtin "object.__class__")) (some true) && eqBB (PySem.W.mroIn K C (.type "object")) (some true)))))))
def noB (K : PySem.W.Frag) (C : Addr) : Bool := PySem.W.excIn K C He.veBase "ValueError.__new__" && (PySem.W.keepIn K (.ref C) && (eqBB (PySem.W.subIn K (.ref C) (.type "BaseException")) (some true) && eqVB (PySem.W.typeIn K (.ref C)) (some (.type "type"))))
def insB (K : PySem.W.Frag) (C : Addr) : Bool := eqOB (PySem.W.findIn K (.ref C) "__class__") (some (some (.builtin "object.__class__"))) && (eqOB (PySem.W.specialIn K (.builtin "object.__class__") "__get__") (some (some (.builtin "getset_descriptor.__get__"))) &&
  (eqBB (PySem.W.takesIn K (.builtin "object.__class__")) (some true) && (eqBB (PySem.W.mroIn K C (.type "object")) (some true) && eqBB (PySem.W.kitOne K (.ref C) (.ref C)) (some true))))
def kindB (K : PySem.W.Frag) (x : Str) : Bool := excB K (He.ga K x) && eqBB (PySem.W.kitOne K (.ref (He.ga K x)) (.ref (He.ga K "SeatError"))) (some true)
def errs : List Str := ["BadPlace"]
def kinds : List Str := []
def nos : List Str := []
def inss : List Str := ["Lot"]
def firsts : List Str := ["Lot"]
def exB (K : PySem.W.Frag) : Bool := (nos.all fun x => noB K (He.ga K x)) && ((errs.all fun x => errB K (He.ga K x)) && ((errs.all fun x => initB K (He.ga K x)) && ((kinds.all fun x => kindB K x) && ((inss.all fun x => insB K (He.ga K x)) && ((firsts.all fun x => PySem.W.selfFirst K (He.ga K x)) && pqs.all fun q => q.ok K)))))
abbrev RR : PySem.W.OpenRow := PySem.W.OpenLaw.row PySem.Challenge.rw_savedseats_k05_whole_sets_of_places
abbrev hkx : PySem.W.Hook := hookP 5 fas fns pqs exB
def obx (s : PySem.W.SharedT) : AlP := obsP 5 fas fns pqs exB (HandSHeadRun.getT s)
theorem obx_eq (s : PySem.W.SharedT) : obx s = hkx.obs s.abs := obsP_eq 5 fas fns pqs exB (HandSHeadRun.getT_eq s)
def loose : List Str := (["BadPlace", "Lot", "SeatError", "__name__", "_law_after", "_law_draw", "_law_pool", "_law_right", "is_number"] : List Str)
theorem runx (w : World) : HandSHeadRun.RunEq RR (PySem.W.view RR.prog [12]) hkx obx 100000 loose w := by
  intro os
  kernel_rfl
section
variable {P : Program} {w : World} {K : PySem.W.Frag} {mg : Str → Option Value} {h : Heap}
theorem excB_ok {C : Addr} (e : excB K C = true) : ExcC K C := by
  obtain ⟨b1, b⟩ := andB e
  obtain ⟨b2, b⟩ := andB b
  obtain ⟨b3, b⟩ := andB b
  obtain ⟨b4, b⟩ := andB b
  obtain ⟨b5, b⟩ := andB b
  obtain ⟨b6, b⟩ := andB b
  obtain ⟨b7, b8⟩ := andB b
  exact ⟨of_decide_eq_true b1, of_decide_eq_true b2, of_decide_eq_true b3, b4, of_decide_eq_true b5, of_decide_eq_true b6, of_decide_eq_true b7, of_decide_eq_true b8⟩
structure Ex (K : PySem.W.Frag) : Prop where
  no : ∀ x ∈ nos, PySem.W.excIn K (He.ga K x) He.veBase "ValueError.__new__" = true ∧ PySem.W.keepIn K (.ref (He.ga K x)) = true ∧ PySem.W.subIn K (.ref (He.ga K x)) (.type "BaseException") = some true ∧ PySem.W.typeIn K (.ref (He.ga K x)) = some (.type "type")
  err : ∀ x ∈ errs, errB K (He.ga K x) = true
  init : ∀ x ∈ errs, initB K (He.ga K x) = true
  kinds : ∀ x ∈ kinds, ExcC K (He.ga K x) ∧ PySem.W.kitOne K (.ref (He.ga K x)) (.ref (He.ga K "SeatError")) = some true
  ins : ∀ x ∈ inss, insB K (He.ga K x) = true
  first : ∀ x ∈ firsts, PySem.W.selfFirst K (He.ga K x) = true
  pq : ∀ q ∈ pqs, q.ok K = true
theorem ex_of (c : exB K = true) : Ex K := by
  obtain ⟨c0, c⟩ := andB c
  obtain ⟨c1, c⟩ := andB c
  obtain ⟨c2, c⟩ := andB c
  obtain ⟨c3, c⟩ := andB c
  obtain ⟨c4, c⟩ := andB c
  obtain ⟨c5, c6⟩ := andB c
  refine ⟨fun x hx => ?_, List.all_eq_true.mp c1, List.all_eq_true.mp c2, fun x hx => ?_, List.all_eq_true.mp c4, List.all_eq_true.mp c5, List.all_eq_true.mp c6⟩
  · obtain ⟨b1, b⟩ := andB (List.all_eq_true.mp c0 x hx)
    obtain ⟨b2, b⟩ := andB b
    obtain ⟨b3, b4⟩ := andB b
    exact ⟨b1, b2, of_decide_eq_true b3, of_decide_eq_true b4⟩
  · obtain ⟨k1, k2⟩ := andB (List.all_eq_true.mp c3 x hx)
    exact ⟨excB_ok k1, of_decide_eq_true k2⟩
theorem ins_of {C : Addr} (L : Cls K C) (e : insB K C = true) : C8.InsC K C := by
  obtain ⟨b1, b⟩ := andB e
  obtain ⟨b2, b⟩ := andB b
  obtain ⟨b3, b⟩ := andB b
  obtain ⟨b4, b5⟩ := andB b
  exact ⟨L, of_decide_eq_true b1, of_decide_eq_true b2, of_decide_eq_true b3, of_decide_eq_true b4, of_decide_eq_true b5⟩
theorem of_TxC (X : K.In h) (G : h.Ns mainGlobals mg) (c : He.SaysD fas fns K) (e : exB K = true) (ep : (pqs.map fun q => fnAt K (q.g K)) = pqs.map fun q => q.d.val) : TxC K mg where
  g_is_number := He.glo_ok X G (c.fact 0 (f := .glo "is_number") rfl)
  k_is_number := (c.def_ 2 rfl).elim fun _ F => F.kp
  n_isinstance := He.free_ok X G (c.fact 1 (f := .free "isinstance") rfl)
  n_int := He.free_ok X G (c.fact 2 (f := .free "int") rfl)
  n_bool := He.free_ok X G (c.fact 3 (f := .free "bool") rfl)
  n_list := He.free_ok X G (c.fact 4 (f := .free "list") rfl)
  n_tuple := He.free_ok X G (c.fact 5 (f := .free "tuple") rfl)
  n_set := He.free_ok X G (c.fact 6 (f := .free "set") rfl)
  n_sorted := He.free_ok X G (c.fact 7 (f := .free "sorted") rfl)
  n_len := He.free_ok X G (c.fact 8 (f := .free "len") rfl)
  n_iter := He.free_ok X G (c.fact 9 (f := .free "iter") rfl)
  n_all := He.free_ok X G (c.fact 10 (f := .free "all") rfl)
  g_BadPlace := He.glo_ok X G (c.fact 11 (f := .glo "BadPlace") rfl)
  g_Lot := He.glo_ok X G (c.fact 12 (f := .glo "Lot") rfl)
  cl_Lot := He.cls_ok (c.fact 13 (f := .cls "Lot") rfl)
  ins_Lot := ins_of (He.cls_ok (c.fact 13 (f := .cls "Lot") rfl)) ((ex_of e).ins "Lot" (by decide +kernel))
  mk_Lot := He.mkr_ok (c.fact 14 (f := .mkr "Lot") rfl)
  na_places := He.noat_ok (c.fact 15 (f := .noat "Lot" "places") rfl)
theorem of_TxP (X : K.In h) (G : h.Ns mainGlobals mg) (c : He.SaysD fas fns K) (e : exB K = true) (ep : (pqs.map fun q => fnAt K (q.g K)) = pqs.map fun q => q.d.val) : TxP K mg where
  g__law_pool := He.glo_ok X G (c.fact 16 (f := .glo "_law_pool") rfl)
  k__law_pool := (c.def_ 0 rfl).elim fun _ F => F.kp
  g__law_draw := He.glo_ok X G (c.fact 17 (f := .glo "_law_draw") rfl)
  k__law_draw := (c.def_ 1 rfl).elim fun _ F => F.kp
  g__law_after := He.glo_ok X G (c.fact 18 (f := .glo "_law_after") rfl)
  k__law_after := (c.def_ 11 rfl).elim fun _ F => F.kp
  g__law_right := He.glo_ok X G (c.fact 19 (f := .glo "_law_right") rfl)
  k__law_right := (c.def_ 12 rfl).elim fun _ F => F.kp
  g_law := He.glo_ok X G (c.fact 20 (f := .glo "law") rfl)
  k_law := (c.def_ 13 rfl).elim fun _ F => F.kp
  n_len := He.free_ok X G (c.fact 8 (f := .free "len") rfl)
  n_range := He.free_ok X G (c.fact 21 (f := .free "range") rfl)
  n_abs := He.free_ok X G (c.fact 22 (f := .free "abs") rfl)
  n_int := He.free_ok X G (c.fact 2 (f := .free "int") rfl)
  n_list := He.free_ok X G (c.fact 4 (f := .free "list") rfl)
  n_tuple := He.free_ok X G (c.fact 5 (f := .free "tuple") rfl)
  n_isinstance := He.free_ok X G (c.fact 1 (f := .free "isinstance") rfl)
  n_bool := He.free_ok X G (c.fact 3 (f := .free "bool") rfl)
  g_Lot := He.glo_ok X G (c.fact 12 (f := .glo "Lot") rfl)
  cl_Lot := He.cls_ok (c.fact 13 (f := .cls "Lot") rfl)
  mk_Lot := He.mkr_ok (c.fact 14 (f := .mkr "Lot") rfl)
  na_places := He.noat_ok (c.fact 15 (f := .noat "Lot" "places") rfl)
  sf_Lot := (ex_of e).first "Lot" (by decide +kernel)
  o_len := ⟨(He.meth_ok (c.fact 23 (f := .meth "Lot" "__len__") rfl)).at_, (He.meth_ok (c.fact 23 (f := .meth "Lot" "__len__") rfl)).fn⟩
  o_eq := ⟨(He.meth_ok (c.fact 24 (f := .meth "Lot" "__eq__") rfl)).at_, (He.meth_ok (c.fact 24 (f := .meth "Lot" "__eq__") rfl)).fn⟩
  o_contains := ⟨(He.meth_ok (c.fact 25 (f := .meth "Lot" "__contains__") rfl)).at_, (He.meth_ok (c.fact 25 (f := .meth "Lot" "__contains__") rfl)).fn⟩
  o_iter := ⟨(He.meth_ok (c.fact 26 (f := .meth "Lot" "__iter__") rfl)).at_, (He.meth_ok (c.fact 26 (f := .meth "Lot" "__iter__") rfl)).fn⟩
  o_le := ⟨(He.meth_ok (c.fact 27 (f := .meth "Lot" "__le__") rfl)).at_, (He.meth_ok (c.fact 27 (f := .meth "Lot" "__le__") rfl)).fn⟩
  o_or := ⟨(He.meth_ok (c.fact 28 (f := .meth "Lot" "__or__") rfl)).at_, (He.meth_ok (c.fact 28 (f := .meth "Lot" "__or__") rfl)).fn⟩
  o_and := ⟨(He.meth_ok (c.fact 29 (f := .meth "Lot" "__and__") rfl)).at_, (He.meth_ok (c.fact 29 (f := .meth "Lot" "__and__") rfl)).fn⟩
  o_sub := ⟨(He.meth_ok (c.fact 30 (f := .meth "Lot" "__sub__") rfl)).at_, (He.meth_ok (c.fact 30 (f := .meth "Lot" "__sub__") rfl)).fn⟩
theorem i_BadPlace (c : He.SaysD fas fns K) (e : exB K = true) (base : Heap) : ErrI P w K mg base (He.ga K "BadPlace") "number" := by
  obtain ⟨fd, F⟩ := c.def_ 15 (d := ⟨("BadPlace", some "__init__"), "__init__", "BadPlace.__init__", defArgs s_BadPlace_init, defBody s_BadPlace_init, defScope s_BadPlace_init, [], []⟩) rfl
  have E := errB_ok ((ex_of e).err "BadPlace" (by decide +kernel))
  obtain ⟨b1, b⟩ := andB ((ex_of e).init "BadPlace" (by decide +kernel))
  obtain ⟨b2, b3⟩ := andB b
  have no := He.noat_ok (c.fact 31 (f := .noat "BadPlace" "number") rfl)
  exact ⟨E, E.oex b1, no, _, fd, of_decide_eq_true b2, of_decide_eq_true b3, oki_BadPlace_init F (E.oex b1) no, FunD.bindsN (ps := ["self", "number"]) F fun _ _ _ _ _ _ us hl => match us, hl with | [_, _], _ => rfl⟩
theorem facts {f : Addr} (X : K.In h) (G : h.Ns mainGlobals mg) (hfa : mg ("law" : Str) = some (.ref f)) (c : He.SaysD fas fns K) (e : exB K = true) (ep : (pqs.map fun q => fnAt K (q.g K)) = pqs.map fun q => q.d.val) :
    ∃ fd : FuncData, (∀ (s : Shared) (v : Value), BindsTo s fd ⟨[v], []⟩ [("_law_script", v)]) ∧ ∀ base : Heap, K.In base → base.Ns mainGlobals mg → FnOk P w K mg base CX0 8 f fd ["_law_script"] (spLaw K) := by
  obtain ⟨fd_pool, F_pool⟩ := c.def_ 0 (d := ⟨("_law_pool", none), "_law_pool", "_law_pool", defArgs s_pool, defBody s_pool, defScope s_pool, [], []⟩) rfl
  obtain ⟨fd_draw, F_draw⟩ := c.def_ 1 (d := ⟨("_law_draw", none), "_law_draw", "_law_draw", defArgs s_draw, defBody s_draw, defScope s_draw, [], []⟩) rfl
  obtain ⟨fd_is_number, F_is_number⟩ := c.def_ 2 (d := ⟨("is_number", none), "is_number", "is_number", defArgs s_is_number, defBody s_is_number, defScope s_is_number, [], []⟩) rfl
  obtain ⟨fd_Lot_init, F_Lot_init⟩ := c.def_ 3 (d := ⟨("Lot", some "__init__"), "__init__", "Lot.__init__", defArgs s_Lot_init, defBody s_Lot_init, defScope s_Lot_init, [], []⟩) rfl
  obtain ⟨fd_Lot_eq, F_Lot_eq⟩ := c.def_ 4 (d := ⟨("Lot", some "__eq__"), "__eq__", "Lot.__eq__", defArgs s_Lot_eq, defBody s_Lot_eq, defScope s_Lot_eq, [], []⟩) rfl
  obtain ⟨fd_Lot_len, F_Lot_len⟩ := c.def_ 5 (d := ⟨("Lot", some "__len__"), "__len__", "Lot.__len__", defArgs s_Lot_len, defBody s_Lot_len, defScope s_Lot_len, [], []⟩) rfl
  obtain ⟨fd_Lot_contains, F_Lot_contains⟩ := c.def_ 6 (d := ⟨("Lot", some "__contains__"), "__contains__", "Lot.__contains__", defArgs s_Lot_contains, defBody s_Lot_contains, defScope s_Lot_contains, [], []⟩) rfl
  obtain ⟨fd_Lot_le, F_Lot_le⟩ := c.def_ 7 (d := ⟨("Lot", some "__le__"), "__le__", "Lot.__le__", defArgs s_Lot_le, defBody s_Lot_le, defScope s_Lot_le, [], []⟩) rfl
  obtain ⟨fd_Lot_or, F_Lot_or⟩ := c.def_ 8 (d := ⟨("Lot", some "__or__"), "__or__", "Lot.__or__", defArgs s_Lot_or, defBody s_Lot_or, defScope s_Lot_or, [], []⟩) rfl
  obtain ⟨fd_Lot_and, F_Lot_and⟩ := c.def_ 9 (d := ⟨("Lot", some "__and__"), "__and__", "Lot.__and__", defArgs s_Lot_and, defBody s_Lot_and, defScope s_Lot_and, [], []⟩) rfl
  obtain ⟨fd_Lot_sub, F_Lot_sub⟩ := c.def_ 10 (d := ⟨("Lot", some "__sub__"), "__sub__", "Lot.__sub__", defArgs s_Lot_sub, defBody s_Lot_sub, defScope s_Lot_sub, [], []⟩) rfl
  obtain ⟨fd_after, F_after⟩ := c.def_ 11 (d := ⟨("_law_after", none), "_law_after", "_law_after", defArgs s_after, defBody s_after, defScope s_after, [], []⟩) rfl
  obtain ⟨fd_right, F_right⟩ := c.def_ 12 (d := ⟨("_law_right", none), "_law_right", "_law_right", defArgs s_right, defBody s_right, defScope s_right, [], []⟩) rfl
  obtain ⟨fd_law, F_law⟩ := c.def_ 13 (d := ⟨("law", none), "law", "law", defArgs s_law, defBody s_law, defScope s_law, [], []⟩) rfl
  have T0 := of_TxC X G c e ep
  have T1 := of_TxP X G c e ep
  have hlaw := He.glo_ok X G (c.fact 20 (f := .glo "law") rfl)
  have q := hfa.symm.trans hlaw
  cases q
  have b := FunD.bindsA (ps := ["_law_script"]) F_law fun _ _ _ _ _ _ us hl => match us, hl with | [_], _ => rfl
  refine ⟨fd_law, fun s v => b s [v] rfl, fun base _ _ => ?_⟩
  have I_BadPlace : ErrI P w K mg base (He.ga K "BadPlace") "number" := i_BadPlace c e base
  obtain ⟨fd_iter_Lot, F_iter_Lot⟩ := c.def_ 14 (d := ⟨("Lot", some "__iter__"), "__iter__", "Lot.__iter__", defArgs s_Lot_iter, defBody s_Lot_iter, defScope s_Lot_iter, [], []⟩) rfl
  have G_iter_Lot := okn_Lot_iter (P := P) (w := w) (mg := mg) (base := base) F_iter_Lot T0
  have b_iter_Lot := FunD.bindsN (ps := ["self"]) F_iter_Lot fun _ _ _ _ _ _ us hl => match us, hl with | [_], _ => rfl
  have d_pool : Okd P w K mg base CX0 1 (He.ga K "_law_pool") ["_law_script"] (spPool K) := ⟨_, ok_pool F_pool , FunD.bindsN F_pool fun _ _ _ _ _ _ us hl => match us, hl with | [_], _ => rfl⟩
  have d_draw : Okd P w K mg base CX0 1 (He.ga K "_law_draw") ["_law_pool_here", "_law_limit"] (spDraw K) := ⟨_, ok_draw F_draw ⟨He.free_ok X G (c.fact 8 (f := .free "len") rfl), He.free_ok X G (c.fact 22 (f := .free "abs") rfl), He.free_ok X G (c.fact 2 (f := .free "int") rfl)⟩, FunD.bindsN F_draw fun _ _ _ _ _ _ us hl => match us, hl with | [_, _], _ => rfl⟩
  have d_is_number : Okd P w K mg base CX0 1 (He.ga K "is_number") ["value"] spIsNum := ⟨_, ok_is_number F_is_number T0, FunD.bindsN F_is_number fun _ _ _ _ _ _ us hl => match us, hl with | [_], _ => rfl⟩
  have d_Lot_eq : Okd P w K mg base CX0 1 (He.ma K (He.ga K "Lot") "__eq__") ["self", "other"] (spLotEq K) := ⟨_, ok_Lot_eq F_Lot_eq T0, FunD.bindsN F_Lot_eq fun _ _ _ _ _ _ us hl => match us, hl with | [_, _], _ => rfl⟩
  have d_Lot_len : Okd P w K mg base CX0 1 (He.ma K (He.ga K "Lot") "__len__") ["self"] (spLotLen K) := ⟨_, ok_Lot_len F_Lot_len T0, FunD.bindsN F_Lot_len fun _ _ _ _ _ _ us hl => match us, hl with | [_], _ => rfl⟩
  have d_Lot_contains : Okd P w K mg base CX0 1 (He.ma K (He.ga K "Lot") "__contains__") ["self", "place"] (spLotIn K) := ⟨_, ok_Lot_contains F_Lot_contains T0, FunD.bindsN F_Lot_contains fun _ _ _ _ _ _ us hl => match us, hl with | [_, _], _ => rfl⟩
  have d_Lot_le : Okd P w K mg base CX0 1 (He.ma K (He.ga K "Lot") "__le__") ["self", "other"] (spLotLe K) := ⟨_, ok_Lot_le F_Lot_le T0, FunD.bindsN F_Lot_le fun _ _ _ _ _ _ us hl => match us, hl with | [_, _], _ => rfl⟩
  have d_Lot_init : Okd P w K mg base (L2.CX P w) 3 (He.ma K (He.ga K "Lot") "__init__") ["self", "places"] (spLotInit K) := ⟨_, ok_Lot_init F_Lot_init T0 I_BadPlace d_is_number, FunD.bindsN F_Lot_init fun _ _ _ _ _ _ us hl => match us, hl with | [_, _], _ => rfl⟩
  have d_right : Okd P w K mg base CX0 6 (He.ga K "_law_right") ["_law_lots", "_law_sets"] (spRight K) := ⟨_, ok_right F_right T1 d_Lot_len d_Lot_eq d_Lot_le G_iter_Lot b_iter_Lot, FunD.bindsN F_right fun _ _ _ _ _ _ us hl => match us, hl with | [_, _], _ => rfl⟩
  have d_Lot_or : Okd P w K mg base CX0 5 (He.ma K (He.ga K "Lot") "__or__") ["self", "other"] (spLot2 K orF) := ⟨_, ok_Lot_or F_Lot_or T0 d_Lot_init, FunD.bindsN F_Lot_or fun _ _ _ _ _ _ us hl => match us, hl with | [_, _], _ => rfl⟩
  have d_Lot_and : Okd P w K mg base CX0 5 (He.ma K (He.ga K "Lot") "__and__") ["self", "other"] (spLot2 K andF) := ⟨_, ok_Lot_and F_Lot_and T0 d_Lot_init, FunD.bindsN F_Lot_and fun _ _ _ _ _ _ us hl => match us, hl with | [_, _], _ => rfl⟩
  have d_Lot_sub : Okd P w K mg base CX0 5 (He.ma K (He.ga K "Lot") "__sub__") ["self", "other"] (spLot2 K subF) := ⟨_, ok_Lot_sub F_Lot_sub T0 d_Lot_init, FunD.bindsN F_Lot_sub fun _ _ _ _ _ _ us hl => match us, hl with | [_, _], _ => rfl⟩
  have d_after : Okd P w K mg base CX0 6 (He.ga K "_law_after") ["_law_pool_here", "_law_lots", "_law_sets"] (spAfter K) := ⟨_, ok_after F_after T1 d_draw d_Lot_init d_Lot_or d_Lot_and d_Lot_sub, FunD.bindsN F_after fun _ _ _ _ _ _ us hl => match us, hl with | [_, _, _], _ => rfl⟩
  exact ok_law F_law T1 d_pool d_draw d_after d_right d_Lot_init d_Lot_len d_Lot_contains
end
end Kx
open PySem PySem.W PyProof.Rows
set_option maxRecDepth 100000 in
set_option maxHeartbeats 0 in
theorem PySem.Challenge.cw_savedseats_k05_whole_sets_of_places_holds : PySem.Challenge.rw_savedseats_k05_whole_sets_of_places.Holds := by
  w_on; o_law
  refine HandSHeadRun.head_any (r := OpenLaw.row PySem.Challenge.rw_savedseats_k05_whole_sets_of_places) (q := view (OpenLaw.row PySem.Challenge.rw_savedseats_k05_whole_sets_of_places).prog [12]) (H := Kx.hkx) (ob := Kx.obx) (M := 100000) (loose := Kx.loose) (d := HandSHeadRun.topDef (OpenLaw.row PySem.Challenge.rw_savedseats_k05_whole_sets_of_places).prog 12) (kwd := []) Kx.obx_eq
    (by kernel_rfl) (fun s => by kernel_rfl) Kx.runx (by kernel_rfl) (by kernel_rfl) (by kernel_rfl) (by rfl) (by first | assumption | decide +kernel) (by decide +kernel) ⟨rfl, rfl, rfl, rfl, rfl, by decide +kernel⟩ ?hw ?hc
  case hw => w_witness2
  case hc =>
    refine L2.walk_ofE (l := PySem.Challenge.rw_savedseats_k05_whole_sets_of_places) (n := 63) (k := 8) (x := "_law_script") (CX := L2.CX0) rfl (by decide) (by kernel_rfl) ⟨rfl, by decide, by decide⟩ ?F (fun _ _ _ _ z => z)
    intro w mg fa h Y G hmg0
    obtain ⟨K, KX, c, ep⟩ := Y
    have hmg : mg ("law" : PySem.Str) = some (.ref fa) := by
      have e : (HandSHeadRun.topDef (OpenLaw.row PySem.Challenge.rw_savedseats_k05_whole_sets_of_places).prog 12).name = ("law" : PySem.Str) := by kernel_rfl
      rw [← e]
      exact hmg0
    obtain ⟨fd, hb, hF⟩ := Kx.facts (P := (PySem.Challenge.rw_savedseats_k05_whole_sets_of_places).prog) (w := w) KX G hmg c.t.d c.more ep
    exact ⟨K, fd, Kx.spLaw K, KX, hb, fun H a ns hl hO hS => ⟨a, ns, rfl, Kx.Scr.of hO hS, fun _ => rfl⟩, hF⟩
