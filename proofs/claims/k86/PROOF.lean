import PyProof.Rows.All
import Wide.All
import OpenK.AllK
import Wide.FinOn
import HandS.ForMost
import HandS.Defaults
import HandS.Codes
import HandS.Wide
import HandS.Exc
import HandS.ExcOwn
import HandS.ExcInit
import HandS.ExcValue
import HandS.IsInst
import KE.KExcIs
import HandS.HeadHook4
import PyProof.P3Eq
import KE.KStateDown
import HandS.Head0
import HandS.Head1
import HandS.Head2
import HandS.HeadEnd
import PySem.Challenge.RW_savedseats_k86_each_error
set_option Elab.async false
set_option linter.all false
set_option maxRecDepth 100000
set_option maxHeartbeats 4000000
namespace Kx
open PySem PySem.Spec PyProof.Rows L2
/-! ### an own error over ValueError: what the text says of its class, as one Bool -/
/-- the class of an error with an own __init__(self, f) that keeps f -/
def oexB (K : PySem.W.Frag) (C : Addr) : Bool := match K.lookup C with
  | some ⟨.type "type", _, .cls cd, sl⟩ => (match cd.mro, sl.toList with
    | .ref C' :: bm, [_, _, _, _, some (.builtin n), _] => C' == C && n == "ValueError.__new__" && !cd.hasDel && cd.hasDict && PySem.HandSPX.refsVE bm
    | _, _ => false)
  | _ => false
theorem oexB_ok {K : PySem.W.Frag} {C : Addr} (q : oexB K C = true) : ∃ nm q N bs bm sn sub ab col dd k0 k1 k2 k3 k5, K.lookup C = some (excClassObj nm q C N bs bm true sn sub ab col dd k0 k1 k2 k3 k5 "ValueError.__new__") ∧ PySem.HandSPX.refsVE bm = true := by
  unfold oexB at q
  split at q
  · rename_i dd cd sl ho
    split at q
    · rename_i C' bm k0 k1 k2 k3 n k5 hm hs
      simp only [Bool.and_eq_true, beq_iff_eq, Bool.not_eq_true'] at q
      obtain ⟨⟨⟨⟨rfl, rfl⟩, hdel⟩, hdct⟩, ht⟩ := q
      obtain ⟨nm, bs, mro, ns, qn, hd, sn, sub, ab, col, del⟩ := cd
      dsimp only at hm hdel hdct
      subst hm hdel hdct
      have hsl : sl = #[k0, k1, k2, k3, some (.builtin "ValueError.__new__"), k5] := by
        obtain ⟨l⟩ := sl
        simp only at hs
        rw [hs]
      subst hsl
      exact ⟨nm, qn, ns, bs, bm, sn, sub, ab, col, dd, k0, k1, k2, k3, k5, ho, ht⟩
    · cases q
  · cases q
def eqOB (a b : Option (Option Value)) : Bool := decide (a = b)
def eqVB (a b : Option Value) : Bool := decide (a = b)
def eqBB (a b : Option Bool) : Bool := decide (a = b)
/-- what is asked of each error's class -/
def errB (K : PySem.W.Frag) (C : Addr) : Bool :=
  eqOB (PySem.W.findIn K (.ref C) "__setattr__") (some (some (.builtin "object.__setattr__"))) && (eqBB (PySem.W.subIn K (.ref C) (.type "BaseException")) (some true) && (eqVB (PySem.W.typeIn K (.ref C)) (some (.type "type")) && (PySem.W.keepIn K (.ref C) &&
  (eqOB (PySem.W.findIn K (.ref C) "__getattribute__") (some (some (.builtin "BaseException.__getattribute__"))) && (eqOB (PySem.W.findIn K (.ref C) "__getattr__") (some none) && (PySem.W.hasDictIn K C && (eqOB (PySem.W.findIn K (.ref C) "__class__") (some (some (.builtin "object.__class__"))) &&
  (eqOB (PySem.W.specialIn K (.builtin "object.__class__") "__get__") (some (some (.builtin "getset_descriptor.__get__"))) && (eqBB (PySem.W.takesIn K (.builtin "object.__class__")) (some true) && (eqBB (PySem.W.mroIn K C (.type "object")) (some true) && (PySem.W.clsIn K C).isSome))))))))))
structure ErrC (K : PySem.W.Frag) (C : Addr) : Prop where
  sa : PySem.W.findIn K (.ref C) "__setattr__" = some (some (.builtin "object.__setattr__"))
  exC : PySem.W.subIn K (.ref C) (.type "BaseException") = some true
  tyC : PySem.W.typeIn K (.ref C) = some (.type "type")
  kC : PySem.W.keepIn K (.ref C) = true
  ga : PySem.W.findIn K (.ref C) "__getattribute__" = some (some (.builtin "BaseException.__getattribute__"))
  gg : PySem.W.findIn K (.ref C) "__getattr__" = some none
  hd : PySem.W.hasDictIn K C = true
  ca : PySem.W.findIn K (.ref C) "__class__" = some (some (.builtin "object.__class__"))
  cg : PySem.W.specialIn K (.builtin "object.__class__") "__get__" = some (some (.builtin "getset_descriptor.__get__"))
  ct : PySem.W.takesIn K (.builtin "object.__class__") = some true
  cm : PySem.W.mroIn K C (.type "object") = some true
  cl : (PySem.W.clsIn K C).isSome = true
theorem andB {a b : Bool} (h : (a && b) = true) : a = true ∧ b = true := Bool.and_eq_true_iff.mp h
theorem errB_ok {K : PySem.W.Frag} {C : Addr} (h : errB K C = true) : ErrC K C := by
  obtain ⟨h1, h⟩ := andB h
  obtain ⟨h2, h⟩ := andB h
  obtain ⟨h3, h⟩ := andB h
  obtain ⟨h4, h⟩ := andB h
  obtain ⟨h5, h⟩ := andB h
  obtain ⟨h6, h⟩ := andB h
  obtain ⟨h7, h⟩ := andB h
  obtain ⟨h8, h⟩ := andB h
  obtain ⟨h9, h⟩ := andB h
  obtain ⟨h10, h⟩ := andB h
  obtain ⟨h11, h12⟩ := andB h
  exact ⟨of_decide_eq_true h1, of_decide_eq_true h2, of_decide_eq_true h3, h4, of_decide_eq_true h5, of_decide_eq_true h6, h7, of_decide_eq_true h8, of_decide_eq_true h9, of_decide_eq_true h10, of_decide_eq_true h11, h12⟩
theorem ErrC.oex {K : PySem.W.Frag} {C : Addr} (E : ErrC K C) (h : oexB K C = true) : OexC K C := ⟨oexB_ok h, E.sa, E.exC, E.tyC, E.kC⟩

/-! ### __init__(self, f): self.f = f -/
def spInit (C : Addr) (f : Str) : Sp := fun vs H Q _ => ∃ (a : Addr) (v : V), vs = [.ref a, v] ∧ H a = some (exo a C none) ∧
  ∀ dx, H dx = none → dx ≠ a → Q .non (upd (upd H dx (exd dx [(f, v)])) a (exo a C (some dx)))
/-- an error's class with its __init__ -/
structure ErrI (P : Program) (w : World) (K : PySem.W.Frag) (mg : Str → Option Value) (base : Heap) (C : Addr) (f : Str) : Prop where
  e : ErrC K C
  o : OexC K C
  no : PySem.W.findIn K (.ref C) f = some none
  init : ∃ fI fd, PySem.W.findIn K (.ref C) "__init__" = some (some (.ref fI)) ∧ PySem.W.typeIn K (.ref fI) = some (.type "function") ∧ FnOk P w K mg base CX0 1 fI fd ["self", f] (spInit C f) ∧ Binds K fd ["self", f] []
section
variable {X : Cx} {C : Addr} {f x : Str} {e : Expr} {ta : TA} {te : TE} {p pos : Pos}
/-- C(e) as a value: a new exception at a, its dict at d -/
def tErr (C : Addr) (f : Str) (ta : TA) : TE := fun σ H Q => ta σ H fun vs H1 => ∃ v, vs = [v] ∧ ∀ (a d : Addr) (H2 : Hp), H1 a = none → H1 d = none → H2 a = some (exo a C (some d)) → H2 d = some (exd d [(f, v)]) → Same H1 H2 → Q (.ref a) H2
theorem pe_err (T : ErrI X.prog X.w X.K X.mg X.base C f) (hr : Room 2 X.A) (hg : Gl X x) (hm : X.mg x = some (.ref C)) (ha : PA X [e] ta)
    (hdb : (x == ("__debug__" : Str)) = false := by decide) (he : starEach [e] X.env = (false, eval e X.env) :: starEach [] X.env := by rfl) (hpl : (backTo pos (starEach [] X.env)).any (·.1) = false := by rfl) :
    PE X (.Call (.Name x p) [e] [] pos) (tErr C f ta) := by
  refine ⟨fun pins s σ H Q I h => ?_⟩
  obtain ⟨nm, q, N, bs, bm, sn, sub, ab, col, dd, k0, k1, k2, k3, k5, hC, hbm⟩ := T.o.cls
  obtain ⟨fI, fd, iC, tI, F1, hb⟩ := T.init
  refine wpAny_Call_Name_kw (ld_glob I hg hm ?_ hdb)
  refine PySem.W.callWith_K (h₀ := X.base) I.ok.mod.kin T.o.kC (thn (ha.run pos pins s σ H _ I h) fun us s1 ⟨vs, H1, I1, r1, v, ev, q1⟩ => ⟨I1.kIn, ?_⟩) he hpl
  subst ev
  show wpAny _ _ (call (.ref C) us) _ _ _
  obtain ⟨hp, g, dr, tk, os⟩ := s1
  have hsz : hp.objs.size ≤ hp.objs.size + 1 := Nat.le_succ _
  have hn : H1 (hp.objs.size + 1) = none := I1.hok.fresh hsz
  have kk : ∀ b o, hp.get? b = some o → ((hp.push (PySem.W.kdv_tup us)).push (PySem.HandSPX.excO C hp.objs.size)).get? b = some o := fun b o e => Heap.get?_push_of_some _ (Heap.get?_push_of_some _ e)
  have hget : ((hp.push (PySem.W.kdv_tup us)).push (PySem.HandSPX.excO C hp.objs.size)).get? (hp.objs.size + 1) = some (PySem.HandSPX.excO C hp.objs.size) := by heap_get
  have I2 : Inv X pins σ (upd H1 (hp.objs.size + 1) (exo (hp.objs.size + 1) C none)) ⟨(hp.push (PySem.W.kdv_tup us)).push (PySem.HandSPX.excO C hp.objs.size), g, dr, tk, os⟩ :=
    I1.laid (t' := tk) (a := hp.objs.size + 1) (o := exo (hp.objs.size + 1) C none) (h' := (hp.push (PySem.W.kdv_tup us)).push (PySem.HandSPX.excO C hp.objs.size)) kk hsz (exo_ok hget)
  have r2 : Vals [V.ref (hp.objs.size + 1), v] (Value.ref (hp.objs.size + 1) :: us) := .cons rfl r1
  have hq : spInit C f [V.ref (hp.objs.size + 1), v] (upd H1 (hp.objs.size + 1) (exo (hp.objs.size + 1) C none)) (fun u H2 => u = .non ∧ Q (.ref (hp.objs.size + 1)) H2) (fun _ _ _ => False) :=
    ⟨_, v, rfl, upd_same, fun dx ndx ne => ⟨rfl, by
      have nd1 : H1 dx = none := by rw [upd_ne ne] at ndx; exact ndx
      refine q1 _ dx _ hn nd1 upd_same (by rw [upd_ne ne, upd_same]) fun b o e => ?_
      rw [upd_ne (ne_of_none e hn), upd_ne (ne_of_none e nd1), upd_ne (ne_of_none e hn)]
      exact e⟩⟩
  have hl : ((Value.ref (hp.objs.size + 1) :: us) ++ []).length = (["self", f] : List Str).length := by
    rw [List.append_nil]
    exact r2.length.symm
  have hbb := hb _ (Value.ref (hp.objs.size + 1) :: us) I2.kIn hl
  rw [List.append_nil] at hbb
  have hus : us.length ≤ sizeLine := by
    rw [← Paired.length r1]
    show 1 ≤ sizeLine
    decide
  refine wpAny_call (PySem.HandSPX.call_own F.excBase_ValueError (fun Y => PySem.HandSPX.refsVE_contains Y bm hbm) (I1.kIn _ _ hC) (PySem.W.looks_findIn I1.kIn iC) (fun self => PySem.W.bind_fn I1.kIn self tI) hus
    (codeAny_mono (F1.run _ X.stack _ _ ⟨Value.ref (hp.objs.size + 1) :: us, []⟩ (Value.ref (hp.objs.size + 1) :: us) _ _ (fun _ _ _ => False) (hr.make C us []) (I2.env0.make C us []) hbb r2 hq) fun r s' hq' => ?_))
  cases r with
  | error er => exact False.elim hq'
  | ok fl =>
    cases fl with
    | ret u =>
      obtain ⟨v', H', I3, rv, ev, q3⟩ := I2.after hq'
      subst ev
      exact ⟨rv, ⟨V.ref (hp.objs.size + 1), H', I3, rfl, q3⟩⟩
    | next => exact False.elim hq'
    | brk => exact False.elim hq'
    | cont => exact False.elim hq'
/-- C(), an own error class without own __init__, as a value -/
def tErr0 (C : Addr) : TE := fun _ H Q => ∀ a, H a = none → Q (.ref a) (upd H a (ExO (.ref C) a))
theorem pe_err0 (q : PySem.W.excIn X.K C He.veBase "ValueError.__new__" = true) (kC : PySem.W.keepIn X.K (.ref C) = true) (hg : Gl X x) (hm : X.mg x = some (.ref C))
    (hdb : (x == ("__debug__" : Str)) = false := by decide) : PE X (.Call (.Name x p) [] [] pos) (tErr0 C) := by
  refine ⟨fun pins s σ H Q I h => ?_⟩
  refine wpAny_Call_Name_kw (ld_glob I hg hm ?_ hdb)
  refine PySem.W.callWith_K0 I.kIn kC ?_
  show wpAny _ _ (call (.ref C) []) _ _ _
  obtain ⟨bm, N, nm, qn, bs, hdct, sn, sub, ab, col, dd, k0, k1, k2, k3, k5, mN, hC, hN, hni, T⟩ := exc_obj I.kIn q
  refine wpAny_call_exc_subT F.excBase_ValueError T hC hN hni (fun h' a hm => ?_) (by show 0 ≤ sizeLine; exact Nat.zero_le _)
  have hn : H a = none := I.hok.gone hm.new
  obtain ⟨t, ht, _, _⟩ := hm.there
  exact ⟨.ref a, upd H a (ExO (.ref C) a), I.laidN hm.keeps hm.new hn (exO_ok ht ⟨rfl, rfl⟩ rfl rfl rfl (show 4 < 6 by decide)), rfl, h a hn⟩
/-- an exception of the class C stands at e, not raised -/
def XV (H : Hp) (C e : Addr) : Prop := (∃ d fs, H e = some (exo e C (some d)) ∧ H d = some (exd d fs)) ∨ H e = some (ExO (.ref C) e)
/-- a.f, a an exception -/
def tErrF (K : PySem.W.Frag) (f : Str) (te : TE) : TE := fun σ H Q => te σ H fun x H1 => ∃ (a C d : Addr) (fs : List (Str × V)) (v : V), x = .ref a ∧ ErrC K C ∧ PySem.W.findIn K (.ref C) f = some none ∧ H1 a = some (exo a C (some d)) ∧ H1 d = some (exd d fs) ∧ fs.lookup f = some v ∧ Q v H1
theorem pe_errF (he : PE X e te) (hb : attributeBase e f X.env (eval e X.env) = eval e X.env := by rfl) : PE X (.Attribute e f pos) (tErrF X.K f te) := by
  refine ⟨fun pins s σ H Q I h => ?_⟩
  refine attr_of hb (thn (he.run pins s σ H _ I h) fun u s1 hh => ?_)
  obtain ⟨x, H1, I1, rx, a, C, d, fs, v, ex, T, hno, ea, ed, l, q⟩ := hh
  subst ex
  obtain rfl : u = Value.ref a := rx
  obtain ⟨t1, ha⟩ := exo_at I1.hok ea
  obtain ⟨mA, hns, hr⟩ := exd_at I1.hok ed
  obtain ⟨od, ho, hl⟩ := lookIn_ns hns
  obtain ⟨u, hu, ru⟩ := RelO.some_of (v := v) (o := mA f) (by rw [← l]; exact hr f)
  have J : PySem.W.InstAt s1.heap a { cls := .ref C, dict := some d, data := .fields #[.ref t1, .none, .none, .none, .bool false, .none] } C (some od) := ⟨ha, rfl, rfl, ho⟩
  exact HandSPX.exc_get I1.kIn J T.ga T.gg T.exC (PySem.W.findObj_own T.hd hno rfl (by rw [hl, hu])) (handed_of ru) ⟨v, H1, I1.tok _, ru, q⟩
/-- isinstance(e, c), e an exception that is held -/
def rIsV (K : PySem.W.Frag) : List V → Hp → VK → Prop := fun xs H Q => ∃ (e C : Addr) (c : V) (u : Value) (b : Bool), xs = [.ref e, c] ∧ ClsV c u ∧ XV H C e ∧ ErrC K C ∧ PySem.W.kitOne K (.ref C) u = some b ∧ Q (.bl b) H
theorem call_isV : CallR X (.builtin "isinstance") (rIsV X.K) := by
  intro pins s σ H xs us Q I r h
  obtain ⟨a, C, c, u, b, rfl, k, xv, T, e, q⟩ := h
  obtain ⟨u1, u2, rfl, r1, r2⟩ := vals2 r
  have e2 := k.eq r2
  subst e2
  obtain rfl : u1 = Value.ref a := r1
  rcases xv with ⟨d, fs, ea, ed⟩ | ea
  · obtain ⟨t1, ha⟩ := exo_at I.hok ea
    obtain ⟨mA, hns, hr⟩ := exd_at I.hok ed
    obtain ⟨od, ho, hl⟩ := lookIn_ns hns
    have J : PySem.W.InstAt s.heap a { cls := .ref C, dict := some d, data := .fields #[.ref t1, .none, .none, .none, .bool false, .none] } C (some od) := ⟨ha, rfl, rfl, ho⟩
    exact PySem.W.kia_one (PySem.W.kitx_exc T.cl T.ga T.gg T.exC T.ca T.cg T.ct T.cm) I.kIn J e (fun z => nomatch z) fun tk => ⟨.bl b, H, I.kept (t' := tk) fun _ _ z => z, rfl, q⟩
  · obtain ⟨⟨oe, vs, ho, hz, hd, h1, _⟩, _, _⟩ := (show ObjOk X.prog X.w H s.heap a (ExO (.ref C) a) from I.hok a _ ea)
    have J : PySem.W.InstAt s.heap a oe C none := by
      obtain ⟨oc, od, oda, osl⟩ := oe
      obtain ⟨z1, z2⟩ := hz
      dsimp only at z1 z2 hd
      subst z1 z2 hd
      exact ⟨ho, rfl, rfl, trivial⟩
    exact PySem.W.kia_one (PySem.W.kitx_exc T.cl T.ga T.gg T.exC T.ca T.cg T.ct T.cm) I.kIn J e (fun z => nomatch z) fun tk => ⟨.bl b, H, I.kept (t' := tk) fun _ _ z => z, rfl, q⟩
end
/-- the __init__ of an error, as the text has it -/
theorem ok_init {P : Program} {w : World} {K : PySem.W.Frag} {mg : Str → Option Value} {base : Heap} {x qual f : Str} {params : Arguments} {body : List Stmt} {scope : Scope} {fI C : Addr} {fd : FuncData}
    (F : FunD K x qual params body scope [] [] fI fd) (sc : FnScope (["self", f] : List Str) ["self", f] scope) (T : OexC K C) (no : PySem.W.findIn K (.ref C) f = some none)
    (hb : ∀ X : Cx, X.N = (["self", f] : List Str) → X.env.scope = scope → PSs X body (tOst X.K f (tVar 0) (tVar 1))) : FnOk P w K mg base CX0 1 fI fd (["self", f] : List Str) (spInit C f) := by
  refine F.ok sc (fun vs H Q E h => ?_) (fun cdv A outer s H vs Q E hr h => ?_)
  · obtain ⟨a, v, rfl, _⟩ := h
    rfl
  · obtain ⟨a, v, rfl, ha, k⟩ := h
    refine ⟨_, hb _ rfl rfl, ?_⟩
    exact ⟨_, rfl, _, rfl, a, C, rfl, T, no, .inl ⟨ha, fun dx n ne => k dx n ne⟩⟩
end Kx
namespace Kx
open PySem PySem.Spec PyProof.Rows L2
/-! ### flat values as data -/
def dV : V → PyData
  | .non => .none
  | .bl b => .bool b
  | .int i => .int i
  | .str x => .str x
  | _ => .none
def okV : V → Bool
  | .non => true
  | .bl _ => true
  | .int _ => true
  | .str x => PyData.strOk x
  | _ => false
theorem dp_flat {K : PySem.W.Frag} {H : Hp} : ∀ {v : V}, okV v = true → Dp K H v (dV v)
  | .non, _ => .non
  | .bl b, _ => .bl b
  | .int i, _ => .int i
  | .str x, _ => .str x
theorem dp_all {K : PySem.W.Frag} {H : Hp} : ∀ {xs : List V}, xs.all okV = true → DpAll K H xs (xs.map dV)
  | [], _ => .nil
  | v :: r, h => by
    rw [List.all_cons, Bool.and_eq_true] at h
    exact .cons (dp_flat h.1) (dp_all h.2)
theorem lay_flat : ∀ {v : V}, okV v = true → (dV v).canLay0 = true
  | .non, _ => rfl
  | .bl b, _ => rfl
  | .int i, _ => rfl
  | .str x, h => h
theorem lay_all : ∀ {xs : List V}, xs.all okV = true → PyData.canLayAll0 (xs.map dV) = true
  | [], _ => rfl
  | v :: r, h => by
    rw [List.all_cons, Bool.and_eq_true] at h
    rw [List.map_cons, PyData.canLayAll0, lay_flat h.1, lay_all h.2]
    rfl
theorem depth_flat : ∀ v : V, (dV v).depth ≤ 1
  | .non => by simp [dV, PyData.depth]
  | .bl b => by simp [dV, PyData.depth]
  | .int i => by simp [dV, PyData.depth]
  | .str x => by simp [dV, PyData.depth]
  | .byt _ => by simp [dV, PyData.depth]
  | .flt _ => by simp [dV, PyData.depth]
  | .ref _ => by simp [dV, PyData.depth]
  | .ty _ => by simp [dV, PyData.depth]
theorem depth_all : ∀ xs : List V, PyData.depthAll (xs.map dV) ≤ 1
  | [] => by simp [PyData.depthAll]
  | v :: r => by
    have h1 := depth_flat v
    have h2 := depth_all r
    simp only [List.map_cons, PyData.depthAll]
    omega
theorem shaped_flat {v : V} (h : okV v = true) : SeqAt.shaped (dV v) = true := by
  unfold SeqAt.shaped
  rw [lay_flat h, decide_eq_true (Nat.le_trans (depth_flat v) (by decide))]
  rfl
theorem shaped_tup {xs : List V} (h : xs.all okV = true) : SeqAt.shaped (.tuple (xs.map dV)) = true := by
  unfold SeqAt.shaped
  have e : (PyData.tuple (xs.map dV)).canLay0 = true := lay_all h
  have d : (PyData.tuple (xs.map dV)).depth ≤ 64 := by
    have h2 := depth_all xs
    simp only [PyData.depth]
    omega
  rw [e, decide_eq_true d]
  rfl
theorem shaped_lst {xs : List V} (h : xs.all okV = true) : SeqAt.shaped (.list (xs.map dV)) = true := by
  unfold SeqAt.shaped
  have e : (PyData.list (xs.map dV)).canLay0 = true := lay_all h
  have d : (PyData.list (xs.map dV)).depth ≤ 64 := by
    have h2 := depth_all xs
    simp only [PyData.depth]
    omega
  rw [e, decide_eq_true d]
  rfl
theorem eqv_self {d : PyData} (h : SeqAt.shaped d = true) : PyData.eqv d d = true := PySem.SeqAt.eqv_refl d (SeqAt.canLay_of_shaped h)
end Kx
namespace Kx
open PySem PySem.Spec PyProof.Rows L2
def top (i : Nat) : Stmt := PySem.Challenge.pw_savedseats_k86_each_error.main.body.getD i (.Pass ⟨0, 0, 0, 0⟩)

/-- a def of the text, by its address: its promise and how its arguments bind -/
def Okd (P : Program) (w : World) (K : PySem.W.Frag) (mg : Str → Option Value) (base : Heap) (CX : CXT) (k : Nat) (f : Addr) (ps : List Str) (sp : Sp) : Prop := ∃ fd, FnOk P w K mg base CX k f fd ps sp ∧ Binds K fd ps []
/-- the script's list: read, never written -/
def Scr (K : PySem.W.Frag) (H : Hp) (a : Addr) (ns : List Int) : Prop := (∃ o, H a = some (.frz o (.lst (ns.map V.int)))) ∨
  ∃ (o : Obj) (its : Array Value) (n : Nat), K.lookup a = some o ∧ o.cls = .type "list" ∧ o.dict = none ∧ o.data = .seq its n ∧ its.size ≤ sizeLine ∧ Vals (ns.map V.int) its.toList
theorem Scr.sq {K : PySem.W.Frag} {H : Hp} {a : Addr} {ns : List Int} (h : Scr K H a ns) : SqL K H a (ns.map V.int) := by
  rcases h with ⟨o, h⟩ | h
  · exact .inl (.inr ⟨o, h⟩)
  · exact .inr h
theorem Scr.of {K : PySem.W.Frag} {H : Hp} {a : Addr} {ns : List Int} (hO : Only H) (h : SqL K H a (ns.map V.int)) : Scr K H a ns := by
  rcases h with (h | ⟨o, h⟩) | h
  · rcases hO a with e | ⟨o, xs, e⟩
    · rw [h] at e; cases e
    · rw [h] at e; cases e
  · exact .inl ⟨o, h⟩
  · exact .inr h
/-- what is read only stands -/
def Frz (H H' : Hp) : Prop := ∀ b o u, H b = some (.frz o u) → H' b = some (.frz o u)
theorem Frz.refl (H : Hp) : Frz H H := fun _ _ _ h => h
theorem Frz.trans {H H1 H2 : Hp} (a : Frz H H1) (b : Frz H1 H2) : Frz H H2 := fun c o u h => b c o u (a c o u h)
theorem Frz.same {H H' : Hp} (s : Same H H') : Frz H H' := fun b o u h => s b _ h
theorem Frz.upd {H : Hp} {p : Addr} {x : HO} (n : ∀ o u, H p ≠ some (.frz o u)) : Frz H (upd H p x) := fun b o u h => by
  rw [upd_ne (fun e => by subst e; exact n o u h)]
  exact h
theorem nfz_none {H : Hp} {p : Addr} (h : H p = none) : ∀ o u, H p ≠ some (.frz o u) := fun o u e => by rw [h] at e; cases e
theorem nfz_lst {H : Hp} {p : Addr} {xs : List V} (h : H p = some (.lst xs)) : ∀ o u, H p ≠ some (.frz o u) := fun o u e => by rw [h] at e; cases e
theorem Scr.keep {K : PySem.W.Frag} {H H' : Hp} {a : Addr} {ns : List Int} (h : Scr K H a ns) (f : Frz H H') : Scr K H' a ns := by
  rcases h with ⟨o, h⟩ | h
  · exact .inl ⟨o, f _ _ _ h⟩
  · exact .inr h
/-- the pool at p, with room for b draws more -/
def PoolAt (K : PySem.W.Frag) (H : Hp) (p : Addr) (b : Nat) : Prop := ∃ (a : Addr) (ns : List Int) (n i r m : Int), Scr K H a ns ∧ H p = some (.lst [.ref a, .int n, .int i, .int r, .int m]) ∧
  0 ≤ n ∧ n + (b : Int) ≤ 1000000000000 ∧ 0 ≤ i ∧ 0 ≤ r ∧ 0 ≤ m ∧ m < 2147483629
theorem PoolAt.less {K : PySem.W.Frag} {H : Hp} {p : Addr} {b c : Nat} (h : PoolAt K H p b) (l : c ≤ b) : PoolAt K H p c := by
  obtain ⟨a, ns, n, i, r, m, h1, h2, h3, h4, h6⟩ := h
  exact ⟨a, ns, n, i, r, m, h1, h2, h3, by omega, h6⟩
theorem PoolAt.keep {K : PySem.W.Frag} {H H' : Hp} {p : Addr} {b : Nat} (h : PoolAt K H p b) (hp : ∀ o, H p = some o → H' p = some o) (f : Frz H H') : PoolAt K H' p b := by
  obtain ⟨a, ns, n, i, r, m, h1, h2, h3⟩ := h
  exact ⟨a, ns, n, i, r, m, h1.keep f, hp _ h2, h3⟩
theorem PoolAt.same {K : PySem.W.Frag} {H H' : Hp} {p : Addr} {b : Nat} (h : PoolAt K H p b) (s : Same H H') : PoolAt K H' p b := h.keep (fun o e => s _ _ e) (.same s)
theorem PoolAt.new {K : PySem.W.Frag} {H : Hp} {p q : Addr} {b : Nat} {x : HO} (h : PoolAt K H p b) (n : H q = none) : PoolAt K (upd H q x) p b :=
  h.keep (fun o e => by rw [upd_ne (ne_of_none e n)]; exact e) (.upd (nfz_none n))
theorem PoolAt.set {K : PySem.W.Frag} {H : Hp} {p q : Addr} {b : Nat} {x : HO} {xs : List V} (h : PoolAt K H p b) (n : H q = some (.lst xs)) (ne : q ≠ p) : PoolAt K (upd H q x) p b :=
  h.keep (fun o e => by rw [upd_ne ne.symm]; exact e) (.upd (nfz_lst n))
theorem PoolAt.ne_new {K : PySem.W.Frag} {H : Hp} {p q : Addr} {b : Nat} (h : PoolAt K H p b) (n : H q = none) : q ≠ p := fun e => by
  obtain ⟨_, _, _, _, _, _, _, h2, _⟩ := h
  rw [e, h2] at n
  cases n
/-- what stood beside the pool stands -/
def But (p : Addr) (H H' : Hp) : Prop := (∀ b, b ≠ p → H' b = H b) ∧ (H' p).isSome = true
theorem But.trans {p : Addr} {H H1 H2 : Hp} (a : But p H H1) (b : But p H1 H2) : But p H H2 := ⟨fun c h => (b.1 c h).trans (a.1 c h), b.2⟩
theorem But.of {p : Addr} {H : Hp} {o : HO} : But p H (upd H p o) := ⟨fun _ h => upd_ne h, by rw [upd_same]; rfl⟩
def spPool (K : PySem.W.Frag) : Sp := fun vs H Q _ => ∃ (a : Addr) (ns : List Int), vs = [.ref a] ∧ Scr K H a ns ∧ ∀ (H' : Hp) (p : Addr), H p = none → PoolAt K H' p 1000000000000 → (∃ o, H' = upd H p o) → Q (.ref p) H'
/-- draw(pool, limit): a number from 0 to below the limit; one draw less -/
def spDraw (K : PySem.W.Frag) : Sp := fun vs H Q _ => ∃ (p : Addr) (b : Nat) (lim : Int), vs = [.ref p, .int lim] ∧ PoolAt K H p (b + 1) ∧ 0 < lim ∧ lim.natAbs < 2 ^ 200 ∧
  ∀ (H' : Hp) (d : Int), 0 ≤ d → d < lim → PoolAt K H' p b → But p H H' → Q (.int d) H'
structure TxDraw (mg : Str → Option Value) : Prop where
  n_len : mg "len" = none
  n_abs : mg "abs" = none
  n_int : mg "int" = none
theorem ix_there {xs : List V} {i : Int} (h0 : 0 ≤ i) (h1 : i < xs.length) : ∃ v, atI xs i = some v ∧ v ∈ xs := by
  obtain ⟨j, rfl⟩ : ∃ j : Nat, i = (j : Int) := ⟨i.toNat, by omega⟩
  have hj : j < xs.length := by omega
  exact ⟨xs[j], atI_nat (List.getElem?_eq_getElem hj), List.getElem_mem hj⟩

section
variable {P : Program} {w : World} {K : PySem.W.Frag} {mg : Str → Option Value} {base : Heap}
abbrev s_pool : Stmt := top 30
theorem sc_pool : FnScope ["_law_script"] ["_law_script"] (defScope s_pool) := ⟨rfl, rfl, rfl, by decide +kernel, rfl, by decide +kernel, by decide +kernel⟩
theorem ok_pool {f : Addr} {fd : FuncData} (F : FunD K "_law_pool" "_law_pool" (defArgs s_pool) (defBody s_pool) (defScope s_pool) [] [] f fd) : FnOk P w K mg base CX0 1 f fd ["_law_script"] (spPool K) := by
  refine F.ok sc_pool (fun vs H Q E h => ?_) (fun cdv A outer s H vs Q E hr h => ?_)
  · obtain ⟨a, ns, rfl, _⟩ := h
    rfl
  · obtain ⟨a, ns, rfl, hS, k⟩ := h
    refine ⟨_, PSs.nox (pss_one (ps_ret (pe_lst (pa_cons (pv 0) (pa_cons pe_int (pa_cons pe_int (pa_cons pe_int (pa_cons pe_int pa_nil)))))))), ?_⟩
    refine ⟨_, rfl, (by show 5 ≤ sizeLine; decide), fun p hp => ?_⟩
    exact k _ p hp ⟨a, ns, 0, 0, 0, 7, hS.keep (.upd (nfz_none hp)), upd_same, by omega, by omega, by omega, by omega, by omega, by omega⟩ ⟨_, rfl⟩
abbrev s_draw : Stmt := top 31
theorem sc_draw : FnScope ["_law_pool_here", "_law_limit", "_law_cell", "_law_digit", "_law_mixed"] ["_law_pool_here", "_law_limit"] (defScope s_draw) := ⟨rfl, rfl, rfl, by decide +kernel, rfl, by decide +kernel, by decide +kernel⟩
theorem ok_draw {f : Addr} {fd : FuncData} (F : FunD K "_law_draw" "_law_draw" (defArgs s_draw) (defBody s_draw) (defScope s_draw) [] [] f fd) (T : TxDraw mg) : FnOk P w K mg base CX0 1 f fd ["_law_pool_here", "_law_limit"] (spDraw K) := by
  refine F.ok sc_draw (fun vs H Q E h => ?_) (fun cdv A outer s H vs Q E hr h => ?_)
  · obtain ⟨p, b, lim, rfl, _⟩ := h
    rfl
  · obtain ⟨p, b, lim, rfl, ⟨a, ns, n, i, r, m, hS, hp, n0, nb, i0, r0, m0, m1⟩, l0, l1, k⟩ := h
    refine ⟨_, PSs.nox (pss_cons (ps_asg (pe_op op_add (pe_ix ix_list (pv 0) pe_int (fun _ _ => rfl)) pe_int) (pg_sub (pv 0) pe_int set_list))
    (C8.pss_cut (ps_if (PW.pt (pw_and (pt_cmpR op_eq (pe_ix ix_list (pv 0) pe_int (fun _ _ => rfl)) pe_int (nomark _)) (pw_and1 (pt_cmpR op_lt (pe_ix ix_list (pv 0) pe_int (fun _ _ => rfl)) (pe_callB call_len_seq (by rfl) T.n_len PySem.boot_len (pa_cons (pe_ix ix_list (pv 0) pe_int (fun _ _ => rfl)) pa_nil)) (nomark _))))) (pss_cons (ps_set (i := 2) sc_draw.nd rfl (Or.inl rfl) (pe_callB call_abs (by rfl) T.n_abs (by decide +kernel) (pa_cons (pe_ix ix_list (pe_ix ix_list (pv 0) pe_int (fun _ _ => rfl)) (pe_ix ix_list (pv 0) pe_int (fun _ _ => rfl)) (fun _ _ => rfl)) pa_nil)))
    (pss_cons (ps_asg (pe_op op_add (pe_ix ix_list (pv 0) pe_int (fun _ _ => rfl)) pe_int) (pg_sub (pv 0) pe_int set_list))
    (pss_one (ps_if (pt_cmpR op_ge (pv 2) (pe_op op_pow pe_int pe_int) (nomark _)) (pss_one (ps_asg (pv 2) (pg_sub (pv 0) pe_int set_list))) (pss_one (ps_asg (pe_op op_mod (pe_callTy call_int1 (by rfl) T.n_int (by decide +kernel) (pa_cons (pe_op op_mul (pe_op op_add (pe_op op_add (pe_ix ix_list (pv 0) pe_int (fun _ _ => rfl)) (pv 2)) pe_int) pe_int) pa_nil)) pe_int) (pg_sub (pv 0) pe_int set_list))))))) pss_nil)
    (pss_cons (ps_if (pt_cmpR op_gt (pe_ix ix_list (pv 0) pe_int (fun _ _ => rfl)) pe_int (nomark _)) (pss_cons (ps_set (i := 3) sc_draw.nd rfl (Or.inl rfl) (pe_op op_mod (pe_callTy call_int1 (by rfl) T.n_int (by decide +kernel) (pa_cons (pe_ix ix_list (pv 0) pe_int (fun _ _ => rfl)) pa_nil)) (pv 1)))
    (pss_cons (ps_asg (pe_op op_fdivW (pe_ix ix_list (pv 0) pe_int (fun _ _ => rfl)) (pv 1)) (pg_sub (pv 0) pe_int set_list))
    (pss_one (ps_ret (pv 3))))) pss_nil)
    (pss_cons (ps_set (i := 4) sc_draw.nd rfl (Or.inl rfl) (pe_op op_mod (pe_callTy call_int1 (by rfl) T.n_int (by decide +kernel) (pa_cons (pe_op op_pow (pe_op op_add (pe_ix ix_list (pv 0) pe_int (fun _ _ => rfl)) (pe_op op_mul (pe_ix ix_list (pv 0) pe_int (fun _ _ => rfl)) pe_int)) pe_int) pa_nil)) pe_int))
    (pss_one (ps_ret (pe_op op_mod (pe_callTy call_int1 (by rfl) T.n_int (by decide +kernel) (pa_cons (pe_op op_fdiv (pv 4) pe_int) pa_nil)) (pv 1)))))))), ?_⟩
    -- pool[1] = pool[1] + 1
    refine ⟨_, rfl, p, _, _, _, rfl, rfl, SqL.of hp, rfl, _, _, rfl, rfl, _, rfl, p, _, _, 1, rfl, rfl, hp, rfl, ?_⟩
    have fz : ∀ x, Frz H (upd H p x) := fun x => .upd (nfz_lst hp)
    have hS1 : Scr K (upd H p (.lst ([.ref a, .int n, .int i, .int r, .int m].set 1 (.int (n + 1))))) a ns := hS.keep (fz _)
    -- the test and the draw of a cell: what holds behind it
    refine ⟨fun σ H' => ∃ (c : Option V) (i r m : Int), σ = [some (.ref p), some (.int lim), c, none, none] ∧ Scr K H' a ns ∧ H' p = some (.lst [.ref a, .int (n + 1), .int i, .int r, .int m]) ∧ But p H H' ∧ 0 ≤ i ∧ 0 ≤ r ∧ 0 ≤ m ∧ m < 2147483629, ?_, ?_⟩
    · refine ⟨_, rfl, p, _, _, _, rfl, rfl, SqL.of upd_same, rfl, rfl, _, rfl, ?_⟩
      have keep0 : ∃ (c : Option V) (i' r' m' : Int), (start ["_law_pool_here", "_law_limit", "_law_cell", "_law_digit", "_law_mixed"] [V.ref p, V.int lim]) = [some (.ref p), some (.int lim), c, none, none] ∧ Scr K (upd H p (.lst ([.ref a, .int n, .int i, .int r, .int m].set 1 (.int (n + 1))))) a ns ∧
          (upd H p (.lst ([.ref a, .int n, .int i, .int r, .int m].set 1 (.int (n + 1))))) p = some (.lst [.ref a, .int (n + 1), .int i', .int r', .int m']) ∧ But p H (upd H p (.lst ([.ref a, .int n, .int i, .int r, .int m].set 1 (.int (n + 1))))) ∧ 0 ≤ i' ∧ 0 ≤ r' ∧ 0 ≤ m' ∧ m' < 2147483629 :=
        ⟨none, i, r, m, rfl, hS1, upd_same, But.of, i0, r0, m0, m1⟩
      refine ite2 (fun hr0 => ?_) (fun _ => iteF keep0)
      refine ⟨_, rfl, p, _, _, _, rfl, rfl, SqL.of upd_same, rfl, _, rfl, p, _, _, _, rfl, rfl, SqL.of upd_same, rfl, a, _, rfl, .inl hS1.sq, _, _, rfl, rfl, _, rfl, ?_⟩
      refine ite2 (fun hi => ?_) (fun _ => keep0)
      have hi' : i < ((ns.map V.int).length : Int) := of_decide_eq_true hi
      obtain ⟨v, hv, hm⟩ := ix_there i0 hi'
      obtain ⟨c, hc, rfl⟩ := List.mem_map.mp hm
      -- cell = abs(pool[0][pool[2]])
      refine ⟨_, rfl, p, _, _, _, rfl, rfl, SqL.of upd_same, rfl, _, rfl, p, _, _, _, rfl, rfl, SqL.of upd_same, rfl, a, _, _, _, rfl, rfl, hS1.sq, hv, _, rfl, ?_⟩
      -- pool[2] = pool[2] + 1
      refine ⟨_, rfl, p, _, _, _, rfl, rfl, SqL.of upd_same, rfl, _, _, rfl, rfl, _, rfl, p, _, _, 2, rfl, rfl, upd_same, rfl, ?_⟩
      rw [upd_upd]
      have c0 : 0 ≤ (if c < 0 then -c else c) := by split <;> omega
      generalize (if c < 0 then -c else c) = z at c0 ⊢
      -- if cell >= 10 ** 18
      refine ⟨_, rfl, _, _, rfl, rfl, ⟨by decide, by decide, by decide⟩, _, _, rfl, rfl, _, rfl, ?_⟩
      refine ite2 (fun hz => ?_) (fun hz => ?_)
      · refine ⟨_, rfl, _, rfl, p, _, _, 3, rfl, rfl, upd_same, rfl, ?_⟩
        rw [upd_upd]
        exact ⟨_, i + 1, z, m, rfl, hS.keep (fz _), upd_same, But.of, by omega, by omega, m0, m1⟩
      · have hz' : z < 1000000000000000000 := by
          have q : ¬ ((10 : Int) ^ (18 : Int).toNat ≤ z) := fun y => hz (decide_eq_true y)
          have e : (10 : Int) ^ (18 : Int).toNat = 1000000000000000000 := by decide
          rw [e] at q
          omega
        refine ⟨_, rfl, p, _, _, _, rfl, rfl, SqL.of upd_same, rfl, _, rfl, _, _, rfl, rfl, _, _, rfl, rfl, _, _, rfl, rfl, .inl ⟨by omega, by omega⟩, .inl ⟨_, rfl, ?_⟩⟩
        refine ⟨_, _, rfl, rfl, (by show (0 : Int) < 2147483629; decide), _, rfl, p, _, _, 4, rfl, rfl, upd_same, rfl, ?_⟩
        rw [upd_upd]
        exact ⟨_, i + 1, r, _, rfl, hS.keep (fz _), upd_same, But.of, by omega, r0, Int.emod_nonneg _ (by decide), Int.emod_lt_of_pos _ (by decide)⟩
    · rintro σ H2 ⟨c, i, r, m, rfl, hS2, hp2, bt, i0, r0, m0, m1⟩
      -- if pool[3] > 0
      refine ⟨_, rfl, p, _, _, _, rfl, rfl, SqL.of hp2, rfl, _, _, rfl, rfl, _, rfl, ?_⟩
      refine ite2 (fun hg => ?_) (fun _ => ?_)
      · refine ⟨_, rfl, p, _, _, _, rfl, rfl, SqL.of hp2, rfl, .inl ⟨_, rfl, ?_⟩⟩
        refine ⟨_, rfl, _, _, rfl, rfl, l0, ?_⟩
        refine ⟨_, rfl, p, _, _, _, rfl, rfl, SqL.of hp2, rfl, _, rfl, _, _, rfl, rfl, wide_div l0 l1 (by decide) (by decide), _, rfl, p, _, _, 3, rfl, rfl, hp2, rfl, ?_⟩
        refine ⟨_, rfl, ?_⟩
        exact k _ _ (Int.emod_nonneg _ (by omega)) (Int.emod_lt_of_pos _ l0) ⟨a, ns, n + 1, i, r / lim, m, hS2.keep (.upd (nfz_lst hp2)), upd_same, by omega, by omega, i0, Int.ediv_nonneg r0 (by omega), m0, m1⟩ (bt.trans But.of)
      · -- mixed = int((pool[4] + pool[1] * 7919) ** 3) mod 2147483647
        refine ⟨_, rfl, p, _, _, _, rfl, rfl, SqL.of hp2, rfl, _, rfl, p, _, _, _, rfl, rfl, SqL.of hp2, rfl, _, _, rfl, rfl, .inl ⟨by omega, by omega⟩, _, _, rfl, rfl, _, _, rfl, rfl, ⟨by decide, by decide, by omega⟩, .inl ⟨_, rfl, ?_⟩⟩
        refine ⟨_, _, rfl, rfl, (by show (0 : Int) < 2147483647; decide), ?_⟩
        refine ⟨_, rfl, _, _, rfl, rfl, ⟨by decide, by decide⟩, .inl ⟨_, rfl, ?_⟩⟩
        refine ⟨_, rfl, _, _, rfl, rfl, l0, ?_⟩
        exact k _ _ (Int.emod_nonneg _ (by omega)) (Int.emod_lt_of_pos _ l0) ⟨a, ns, n + 1, i, r, m, hS2, hp2, by omega, by omega, i0, r0, m0, m1⟩ bt
end

/-! ### the errors, by number -/
def nm : List Str := (["BadPlaces", "BadEdges", "BadEdge", "BadEntry", "NoExits", "BadExit", "Idle", "NoGate", "BadWay", "NotWhole", "BadPlace", "BadMark", "TwoMarks", "BadLength", "BadPrice", "BadWord", "OtherWeb", "TooMany", "Barred", "BadSeats"] : List Str) ++ (["BadName", "NoSeat", "BadEdit", "BadMenu", "TwiceInMenu", "BadDeed", "BadLine"] : List Str)
abbrev cl (K : PySem.W.Frag) (i : Nat) : Addr := He.ga K (nm.getD i "")
structure Txt (K : PySem.W.Frag) (mg : Str → Option Value) : Prop where
  g__law_pool : mg "_law_pool" = some (.ref (He.ga K "_law_pool"))
  k__law_pool : PySem.W.keepIn K (.ref (He.ga K "_law_pool")) = true
  g__law_draw : mg "_law_draw" = some (.ref (He.ga K "_law_draw"))
  k__law_draw : PySem.W.keepIn K (.ref (He.ga K "_law_draw")) = true
  g__law_first : mg "_law_first" = some (.ref (He.ga K "_law_first"))
  k__law_first : PySem.W.keepIn K (.ref (He.ga K "_law_first")) = true
  g__law_second : mg "_law_second" = some (.ref (He.ga K "_law_second"))
  k__law_second : PySem.W.keepIn K (.ref (He.ga K "_law_second")) = true
  g__law_third : mg "_law_third" = some (.ref (He.ga K "_law_third"))
  k__law_third : PySem.W.keepIn K (.ref (He.ga K "_law_third")) = true
  g__law_kinds : mg "_law_kinds" = some (.ref (He.ga K "_law_kinds"))
  k__law_kinds : PySem.W.keepIn K (.ref (He.ga K "_law_kinds")) = true
  g__law_made : mg "_law_made" = some (.ref (He.ga K "_law_made"))
  k__law_made : PySem.W.keepIn K (.ref (He.ga K "_law_made")) = true
  g_law : mg "law" = some (.ref (He.ga K "law"))
  k_law : PySem.W.keepIn K (.ref (He.ga K "law")) = true
  g_SeatError : mg "SeatError" = some (.ref (He.ga K "SeatError"))
  g_BadPlaces : mg "BadPlaces" = some (.ref (He.ga K "BadPlaces"))
  g_BadEdges : mg "BadEdges" = some (.ref (He.ga K "BadEdges"))
  g_BadEdge : mg "BadEdge" = some (.ref (He.ga K "BadEdge"))
  g_BadEntry : mg "BadEntry" = some (.ref (He.ga K "BadEntry"))
  g_NoExits : mg "NoExits" = some (.ref (He.ga K "NoExits"))
  g_BadExit : mg "BadExit" = some (.ref (He.ga K "BadExit"))
  g_Idle : mg "Idle" = some (.ref (He.ga K "Idle"))
  g_NoGate : mg "NoGate" = some (.ref (He.ga K "NoGate"))
  g_BadWay : mg "BadWay" = some (.ref (He.ga K "BadWay"))
  g_NotWhole : mg "NotWhole" = some (.ref (He.ga K "NotWhole"))
  g_BadPlace : mg "BadPlace" = some (.ref (He.ga K "BadPlace"))
  g_BadMark : mg "BadMark" = some (.ref (He.ga K "BadMark"))
  g_TwoMarks : mg "TwoMarks" = some (.ref (He.ga K "TwoMarks"))
  g_BadLength : mg "BadLength" = some (.ref (He.ga K "BadLength"))
  g_BadPrice : mg "BadPrice" = some (.ref (He.ga K "BadPrice"))
  g_BadWord : mg "BadWord" = some (.ref (He.ga K "BadWord"))
  g_OtherWeb : mg "OtherWeb" = some (.ref (He.ga K "OtherWeb"))
  g_TooMany : mg "TooMany" = some (.ref (He.ga K "TooMany"))
  g_Barred : mg "Barred" = some (.ref (He.ga K "Barred"))
  g_BadSeats : mg "BadSeats" = some (.ref (He.ga K "BadSeats"))
  g_BadName : mg "BadName" = some (.ref (He.ga K "BadName"))
  g_NoSeat : mg "NoSeat" = some (.ref (He.ga K "NoSeat"))
  g_BadEdit : mg "BadEdit" = some (.ref (He.ga K "BadEdit"))
  g_BadMenu : mg "BadMenu" = some (.ref (He.ga K "BadMenu"))
  g_TwiceInMenu : mg "TwiceInMenu" = some (.ref (He.ga K "TwiceInMenu"))
  g_BadDeed : mg "BadDeed" = some (.ref (He.ga K "BadDeed"))
  g_BadLine : mg "BadLine" = some (.ref (He.ga K "BadLine"))
  n_len : mg "len" = none
  n_abs : mg "abs" = none
  n_int : mg "int" = none
  n_tuple : mg "tuple" = none
  n_range : mg "range" = none
  n_isinstance : mg "isinstance" = none
  n_ValueError : mg "ValueError" = none
  x_NoExits : PySem.W.excIn K (He.ga K "NoExits") He.veBase "ValueError.__new__" = true
  x_OtherWeb : PySem.W.excIn K (He.ga K "OtherWeb") He.veBase "ValueError.__new__" = true
  no_BadPlaces : PySem.W.findIn K (.ref (He.ga K "BadPlaces")) "count" = some none
  no_BadEdges : PySem.W.findIn K (.ref (He.ga K "BadEdges")) "count" = some none
  no_BadEdge : PySem.W.findIn K (.ref (He.ga K "BadEdge")) "index" = some none
  no_BadEntry : PySem.W.findIn K (.ref (He.ga K "BadEntry")) "place" = some none
  no_BadExit : PySem.W.findIn K (.ref (He.ga K "BadExit")) "place" = some none
  no_Idle : PySem.W.findIn K (.ref (He.ga K "Idle")) "place" = some none
  no_NoGate : PySem.W.findIn K (.ref (He.ga K "NoGate")) "number" = some none
  no_BadWay : PySem.W.findIn K (.ref (He.ga K "BadWay")) "index" = some none
  no_NotWhole : PySem.W.findIn K (.ref (He.ga K "NotWhole")) "place" = some none
  no_BadPlace : PySem.W.findIn K (.ref (He.ga K "BadPlace")) "number" = some none
  no_BadMark : PySem.W.findIn K (.ref (He.ga K "BadMark")) "number" = some none
  no_TwoMarks : PySem.W.findIn K (.ref (He.ga K "TwoMarks")) "number" = some none
  no_BadLength : PySem.W.findIn K (.ref (He.ga K "BadLength")) "count" = some none
  no_BadPrice : PySem.W.findIn K (.ref (He.ga K "BadPrice")) "gate" = some none
  no_BadWord : PySem.W.findIn K (.ref (He.ga K "BadWord")) "word" = some none
  no_TooMany : PySem.W.findIn K (.ref (He.ga K "TooMany")) "count" = some none
  no_Barred : PySem.W.findIn K (.ref (He.ga K "Barred")) "index" = some none
  no_BadSeats : PySem.W.findIn K (.ref (He.ga K "BadSeats")) "count" = some none
  no_BadName : PySem.W.findIn K (.ref (He.ga K "BadName")) "name" = some none
  no_NoSeat : PySem.W.findIn K (.ref (He.ga K "NoSeat")) "name" = some none
  no_BadEdit : PySem.W.findIn K (.ref (He.ga K "BadEdit")) "change" = some none
  no_BadMenu : PySem.W.findIn K (.ref (He.ga K "BadMenu")) "count" = some none
  no_TwiceInMenu : PySem.W.findIn K (.ref (He.ga K "TwiceInMenu")) "index" = some none
  no_BadDeed : PySem.W.findIn K (.ref (He.ga K "BadDeed")) "index" = some none
  no_BadLine : PySem.W.findIn K (.ref (He.ga K "BadLine")) "line" = some none
  err : ∀ i, i < 27 → ErrC K (cl K i)
  kit : ∀ i j, i < 27 → j < 27 → PySem.W.kitOne K (.ref (cl K i)) (.ref (cl K j)) = some (decide (i = j))
  kitS : ∀ i, i < 27 → PySem.W.kitOne K (.ref (cl K i)) (.ref (He.ga K "SeatError")) = some true
  kitV : ∀ i, i < 27 → PySem.W.kitOne K (.ref (cl K i)) (.type "ValueError") = some true
structure Inits (P : Program) (w : World) (K : PySem.W.Frag) (mg : Str → Option Value) (base : Heap) : Prop where
  i_BadPlaces : ErrI P w K mg base (He.ga K "BadPlaces") "count"
  i_BadEdges : ErrI P w K mg base (He.ga K "BadEdges") "count"
  i_BadEdge : ErrI P w K mg base (He.ga K "BadEdge") "index"
  i_BadEntry : ErrI P w K mg base (He.ga K "BadEntry") "place"
  i_BadExit : ErrI P w K mg base (He.ga K "BadExit") "place"
  i_Idle : ErrI P w K mg base (He.ga K "Idle") "place"
  i_NoGate : ErrI P w K mg base (He.ga K "NoGate") "number"
  i_BadWay : ErrI P w K mg base (He.ga K "BadWay") "index"
  i_NotWhole : ErrI P w K mg base (He.ga K "NotWhole") "place"
  i_BadPlace : ErrI P w K mg base (He.ga K "BadPlace") "number"
  i_BadMark : ErrI P w K mg base (He.ga K "BadMark") "number"
  i_TwoMarks : ErrI P w K mg base (He.ga K "TwoMarks") "number"
  i_BadLength : ErrI P w K mg base (He.ga K "BadLength") "count"
  i_BadPrice : ErrI P w K mg base (He.ga K "BadPrice") "gate"
  i_BadWord : ErrI P w K mg base (He.ga K "BadWord") "word"
  i_TooMany : ErrI P w K mg base (He.ga K "TooMany") "count"
  i_Barred : ErrI P w K mg base (He.ga K "Barred") "index"
  i_BadSeats : ErrI P w K mg base (He.ga K "BadSeats") "count"
  i_BadName : ErrI P w K mg base (He.ga K "BadName") "name"
  i_NoSeat : ErrI P w K mg base (He.ga K "NoSeat") "name"
  i_BadEdit : ErrI P w K mg base (He.ga K "BadEdit") "change"
  i_BadMenu : ErrI P w K mg base (He.ga K "BadMenu") "count"
  i_TwiceInMenu : ErrI P w K mg base (He.ga K "TwiceInMenu") "index"
  i_BadDeed : ErrI P w K mg base (He.ga K "BadDeed") "index"
  i_BadLine : ErrI P w K mg base (He.ga K "BadLine") "line"

/-- the three together: of the kind k (a number), the number n, the tuple t, the word z: the error, its attribute, what is due -/
def spMade (K : PySem.W.Frag) (lo hi : Int) : Sp := fun vs H Q _ => ∃ (k : Nat) (n : Int) (t : Addr) (ds : List Int) (z : Str), vs = [.int (k : Int), .int n, .ref t, .str z] ∧ lo ≤ (k : Int) ∧ (k : Int) < hi ∧
  ∀ (H' : Hp) (q e : Addr) (v : V), Same H H' → H q = none → XV H' (cl K k) e → H' q = some (.tup [.ref e, v, v]) → (v = .int 0 ∨ v = .int n ∨ v = .str z ∨ v = .ref t) → Q (.ref q) H'
theorem made_end {H H2 : Hp} {C a d q : Addr} {fs : List (Str × V)} {o : HO} (sm : Same H H2) (ea : H2 a = some (exo a C (some d))) (ed : H2 d = some (exd d fs)) (hq : H2 q = none) :
    Same H (upd H2 q o) ∧ XV (upd H2 q o) C a := by
  refine ⟨fun b u e => ?_, .inl ⟨d, fs, ?_, ?_⟩⟩
  · rw [upd_ne (ne_of_none (sm b u e) hq)]
    exact sm b u e
  · rw [upd_ne (ne_of_none ea hq)]
    exact ea
  · rw [upd_ne (ne_of_none ed hq)]
    exact ed
theorem made_end0 {H : Hp} {C a q : Addr} {o : HO} (ha : H a = none) (hq : upd H a (ExO (.ref C) a) q = none) : Same H (upd (upd H a (ExO (.ref C) a)) q o) ∧ XV (upd (upd H a (ExO (.ref C) a)) q o) C a := by
  have nq : a ≠ q := ne_of_none upd_same hq
  refine ⟨fun b u e => ?_, .inr ?_⟩
  · have na : b ≠ a := ne_of_none e ha
    have nb : b ≠ q := ne_of_none (show upd H a (ExO (.ref C) a) b = some u by rw [upd_ne na]; exact e) hq
    rw [upd_ne nb, upd_ne na]
    exact e
  · rw [upd_ne nq, upd_same]
theorem none_of_upd {H : Hp} {a q : Addr} {o : HO} (h : upd H a o q = none) : H q = none := by
  by_cases e : q = a
  · rw [e, upd_same] at h; cases h
  · rw [upd_ne e] at h; exact h
theorem none_of_same {H H2 : Hp} {q : Addr} (s : Same H H2) (h : H2 q = none) : H q = none := s.free h
section
variable {P : Program} {w : World} {K : PySem.W.Frag} {mg : Str → Option Value} {base : Heap}
abbrev s_first : Stmt := top 32
theorem sc_first : FnScope ["_law_k", "_law_number", "_law_several", "_law_word", "_law_e"] ["_law_k", "_law_number", "_law_several", "_law_word"] (defScope s_first) := ⟨rfl, rfl, rfl, by decide +kernel, rfl, by decide +kernel, by decide +kernel⟩
theorem ok_first {f : Addr} {fd : FuncData} (F : FunD K "_law_first" "_law_first" (defArgs s_first) (defBody s_first) (defScope s_first) [] [] f fd) (T : Txt K mg) (I : Inits P w K mg base) : FnOk P w K mg base CX0 3 f fd ["_law_k", "_law_number", "_law_several", "_law_word"] (spMade K 0 9) := by
  refine F.ok sc_first (fun vs H Q E h => ?_) (fun cdv A outer s H vs Q E hr h => ?_)
  · obtain ⟨k, n, t, ds, z, rfl, _⟩ := h
    rfl
  · obtain ⟨k, n, t, ds, z, rfl, k0, k1, kk⟩ := h
    refine ⟨_, PSs.nox (pss_cons (ps_if (pt_cmpR op_eq (pv 0) pe_int (nomark _)) (pss_cons (ps_set (i := 4) sc_first.nd rfl (Or.inl rfl) (pe_err I.i_BadPlaces (hr.mono (by decide)) rfl T.g_BadPlaces (pa_cons (pv 1) pa_nil)))
    (pss_one (ps_ret (pe_tup (pa_cons (pv 4) (pa_cons (pe_errF (pv 4)) (pa_cons (pv 1) pa_nil))))))) pss_nil)
    (pss_cons (ps_if (pt_cmpR op_eq (pv 0) pe_int (nomark _)) (pss_cons (ps_set (i := 4) sc_first.nd rfl (Or.inl rfl) (pe_err I.i_BadEdges (hr.mono (by decide)) rfl T.g_BadEdges (pa_cons (pv 1) pa_nil)))
    (pss_one (ps_ret (pe_tup (pa_cons (pv 4) (pa_cons (pe_errF (pv 4)) (pa_cons (pv 1) pa_nil))))))) pss_nil)
    (pss_cons (ps_if (pt_cmpR op_eq (pv 0) pe_int (nomark _)) (pss_cons (ps_set (i := 4) sc_first.nd rfl (Or.inl rfl) (pe_err I.i_BadEdge (hr.mono (by decide)) rfl T.g_BadEdge (pa_cons (pv 1) pa_nil)))
    (pss_one (ps_ret (pe_tup (pa_cons (pv 4) (pa_cons (pe_errF (pv 4)) (pa_cons (pv 1) pa_nil))))))) pss_nil)
    (pss_cons (ps_if (pt_cmpR op_eq (pv 0) pe_int (nomark _)) (pss_cons (ps_set (i := 4) sc_first.nd rfl (Or.inl rfl) (pe_err I.i_BadEntry (hr.mono (by decide)) rfl T.g_BadEntry (pa_cons (pv 1) pa_nil)))
    (pss_one (ps_ret (pe_tup (pa_cons (pv 4) (pa_cons (pe_errF (pv 4)) (pa_cons (pv 1) pa_nil))))))) pss_nil)
    (pss_cons (ps_if (pt_cmpR op_eq (pv 0) pe_int (nomark _)) (pss_one (ps_ret (pe_tup (pa_cons (pe_err0 T.x_NoExits (T.err 4 (by decide)).kC rfl T.g_NoExits) (pa_cons pe_int (pa_cons pe_int pa_nil)))))) pss_nil)
    (pss_cons (ps_if (pt_cmpR op_eq (pv 0) pe_int (nomark _)) (pss_cons (ps_set (i := 4) sc_first.nd rfl (Or.inl rfl) (pe_err I.i_BadExit (hr.mono (by decide)) rfl T.g_BadExit (pa_cons (pv 1) pa_nil)))
    (pss_one (ps_ret (pe_tup (pa_cons (pv 4) (pa_cons (pe_errF (pv 4)) (pa_cons (pv 1) pa_nil))))))) pss_nil)
    (pss_cons (ps_if (pt_cmpR op_eq (pv 0) pe_int (nomark _)) (pss_cons (ps_set (i := 4) sc_first.nd rfl (Or.inl rfl) (pe_err I.i_Idle (hr.mono (by decide)) rfl T.g_Idle (pa_cons (pv 1) pa_nil)))
    (pss_one (ps_ret (pe_tup (pa_cons (pv 4) (pa_cons (pe_errF (pv 4)) (pa_cons (pv 1) pa_nil))))))) pss_nil)
    (pss_cons (ps_if (pt_cmpR op_eq (pv 0) pe_int (nomark _)) (pss_cons (ps_set (i := 4) sc_first.nd rfl (Or.inl rfl) (pe_err I.i_NoGate (hr.mono (by decide)) rfl T.g_NoGate (pa_cons (pv 1) pa_nil)))
    (pss_one (ps_ret (pe_tup (pa_cons (pv 4) (pa_cons (pe_errF (pv 4)) (pa_cons (pv 1) pa_nil))))))) pss_nil)
    (pss_cons (ps_set (i := 4) sc_first.nd rfl (Or.inl rfl) (pe_err I.i_BadWay (hr.mono (by decide)) rfl T.g_BadWay (pa_cons (pv 1) pa_nil)))
    (pss_one (ps_ret (pe_tup (pa_cons (pv 4) (pa_cons (pe_errF (pv 4)) (pa_cons (pv 1) pa_nil))))))))))))))), ?_⟩
    refine ⟨_, rfl, rfl, _, rfl, ?_⟩
    refine ite2 (fun hk => ?_) (fun hk => ?_)
    · have ek : k = 0 := by
        have e := of_decide_eq_true hk
        have e2 := V.int.inj e
        omega
      subst ek
      refine ⟨_, rfl, _, rfl, fun a d H2 na nd ea ed sm => ?_⟩
      refine ⟨_, rfl, _, rfl, a, _, d, _, _, rfl, T.err 0 (by decide), T.no_BadPlaces, ea, ed, rfl, _, rfl, (by show 3 ≤ sizeLine; decide), fun q hq => ?_⟩
      obtain ⟨s3, xv⟩ := made_end (o := .tup _) sm ea ed hq
      exact kk _ q a _ s3 (sm.free hq) xv upd_same (.inr (.inl rfl))
    · have nk0 : ¬ (k : Int) = 0 := fun e => hk (decide_eq_true (by rw [e]))
      refine ⟨_, rfl, rfl, _, rfl, ?_⟩
      refine ite2 (fun hk => ?_) (fun hk => ?_)
      · have ek : k = 1 := by
          have e := of_decide_eq_true hk
          have e2 := V.int.inj e
          omega
        subst ek
        refine ⟨_, rfl, _, rfl, fun a d H2 na nd ea ed sm => ?_⟩
        refine ⟨_, rfl, _, rfl, a, _, d, _, _, rfl, T.err 1 (by decide), T.no_BadEdges, ea, ed, rfl, _, rfl, (by show 3 ≤ sizeLine; decide), fun q hq => ?_⟩
        obtain ⟨s3, xv⟩ := made_end (o := .tup _) sm ea ed hq
        exact kk _ q a _ s3 (sm.free hq) xv upd_same (.inr (.inl rfl))
      · have nk1 : ¬ (k : Int) = 1 := fun e => hk (decide_eq_true (by rw [e]))
        refine ⟨_, rfl, rfl, _, rfl, ?_⟩
        refine ite2 (fun hk => ?_) (fun hk => ?_)
        · have ek : k = 2 := by
            have e := of_decide_eq_true hk
            have e2 := V.int.inj e
            omega
          subst ek
          refine ⟨_, rfl, _, rfl, fun a d H2 na nd ea ed sm => ?_⟩
          refine ⟨_, rfl, _, rfl, a, _, d, _, _, rfl, T.err 2 (by decide), T.no_BadEdge, ea, ed, rfl, _, rfl, (by show 3 ≤ sizeLine; decide), fun q hq => ?_⟩
          obtain ⟨s3, xv⟩ := made_end (o := .tup _) sm ea ed hq
          exact kk _ q a _ s3 (sm.free hq) xv upd_same (.inr (.inl rfl))
        · have nk2 : ¬ (k : Int) = 2 := fun e => hk (decide_eq_true (by rw [e]))
          refine ⟨_, rfl, rfl, _, rfl, ?_⟩
          refine ite2 (fun hk => ?_) (fun hk => ?_)
          · have ek : k = 3 := by
              have e := of_decide_eq_true hk
              have e2 := V.int.inj e
              omega
            subst ek
            refine ⟨_, rfl, _, rfl, fun a d H2 na nd ea ed sm => ?_⟩
            refine ⟨_, rfl, _, rfl, a, _, d, _, _, rfl, T.err 3 (by decide), T.no_BadEntry, ea, ed, rfl, _, rfl, (by show 3 ≤ sizeLine; decide), fun q hq => ?_⟩
            obtain ⟨s3, xv⟩ := made_end (o := .tup _) sm ea ed hq
            exact kk _ q a _ s3 (sm.free hq) xv upd_same (.inr (.inl rfl))
          · have nk3 : ¬ (k : Int) = 3 := fun e => hk (decide_eq_true (by rw [e]))
            refine ⟨_, rfl, rfl, _, rfl, ?_⟩
            refine ite2 (fun hk => ?_) (fun hk => ?_)
            · have ek : k = 4 := by
                have e := of_decide_eq_true hk
                have e2 := V.int.inj e
                omega
              subst ek
              intro a na
              refine ⟨(by show 3 ≤ sizeLine; decide), fun q hq => ?_⟩
              obtain ⟨s3, xv⟩ := made_end0 (o := .tup _) na hq
              exact kk _ q a _ s3 (none_of_upd hq) xv upd_same (.inl rfl)
            · have nk4 : ¬ (k : Int) = 4 := fun e => hk (decide_eq_true (by rw [e]))
              refine ⟨_, rfl, rfl, _, rfl, ?_⟩
              refine ite2 (fun hk => ?_) (fun hk => ?_)
              · have ek : k = 5 := by
                  have e := of_decide_eq_true hk
                  have e2 := V.int.inj e
                  omega
                subst ek
                refine ⟨_, rfl, _, rfl, fun a d H2 na nd ea ed sm => ?_⟩
                refine ⟨_, rfl, _, rfl, a, _, d, _, _, rfl, T.err 5 (by decide), T.no_BadExit, ea, ed, rfl, _, rfl, (by show 3 ≤ sizeLine; decide), fun q hq => ?_⟩
                obtain ⟨s3, xv⟩ := made_end (o := .tup _) sm ea ed hq
                exact kk _ q a _ s3 (sm.free hq) xv upd_same (.inr (.inl rfl))
              · have nk5 : ¬ (k : Int) = 5 := fun e => hk (decide_eq_true (by rw [e]))
                refine ⟨_, rfl, rfl, _, rfl, ?_⟩
                refine ite2 (fun hk => ?_) (fun hk => ?_)
                · have ek : k = 6 := by
                    have e := of_decide_eq_true hk
                    have e2 := V.int.inj e
                    omega
                  subst ek
                  refine ⟨_, rfl, _, rfl, fun a d H2 na nd ea ed sm => ?_⟩
                  refine ⟨_, rfl, _, rfl, a, _, d, _, _, rfl, T.err 6 (by decide), T.no_Idle, ea, ed, rfl, _, rfl, (by show 3 ≤ sizeLine; decide), fun q hq => ?_⟩
                  obtain ⟨s3, xv⟩ := made_end (o := .tup _) sm ea ed hq
                  exact kk _ q a _ s3 (sm.free hq) xv upd_same (.inr (.inl rfl))
                · have nk6 : ¬ (k : Int) = 6 := fun e => hk (decide_eq_true (by rw [e]))
                  refine ⟨_, rfl, rfl, _, rfl, ?_⟩
                  refine ite2 (fun hk => ?_) (fun hk => ?_)
                  · have ek : k = 7 := by
                      have e := of_decide_eq_true hk
                      have e2 := V.int.inj e
                      omega
                    subst ek
                    refine ⟨_, rfl, _, rfl, fun a d H2 na nd ea ed sm => ?_⟩
                    refine ⟨_, rfl, _, rfl, a, _, d, _, _, rfl, T.err 7 (by decide), T.no_NoGate, ea, ed, rfl, _, rfl, (by show 3 ≤ sizeLine; decide), fun q hq => ?_⟩
                    obtain ⟨s3, xv⟩ := made_end (o := .tup _) sm ea ed hq
                    exact kk _ q a _ s3 (sm.free hq) xv upd_same (.inr (.inl rfl))
                  · have nk7 : ¬ (k : Int) = 7 := fun e => hk (decide_eq_true (by rw [e]))
                    have ek : k = 8 := by omega
                    subst ek
                    refine ⟨_, rfl, _, rfl, fun a d H2 na nd ea ed sm => ?_⟩
                    refine ⟨_, rfl, _, rfl, a, _, d, _, _, rfl, T.err 8 (by decide), T.no_BadWay, ea, ed, rfl, _, rfl, (by show 3 ≤ sizeLine; decide), fun q hq => ?_⟩
                    obtain ⟨s3, xv⟩ := made_end (o := .tup _) sm ea ed hq
                    exact kk _ q a _ s3 (sm.free hq) xv upd_same (.inr (.inl rfl))
abbrev s_second : Stmt := top 33
theorem sc_second : FnScope ["_law_k", "_law_number", "_law_several", "_law_word", "_law_e"] ["_law_k", "_law_number", "_law_several", "_law_word"] (defScope s_second) := ⟨rfl, rfl, rfl, by decide +kernel, rfl, by decide +kernel, by decide +kernel⟩
theorem ok_second {f : Addr} {fd : FuncData} (F : FunD K "_law_second" "_law_second" (defArgs s_second) (defBody s_second) (defScope s_second) [] [] f fd) (T : Txt K mg) (I : Inits P w K mg base) : FnOk P w K mg base CX0 3 f fd ["_law_k", "_law_number", "_law_several", "_law_word"] (spMade K 9 18) := by
  refine F.ok sc_second (fun vs H Q E h => ?_) (fun cdv A outer s H vs Q E hr h => ?_)
  · obtain ⟨k, n, t, ds, z, rfl, _⟩ := h
    rfl
  · obtain ⟨k, n, t, ds, z, rfl, k0, k1, kk⟩ := h
    refine ⟨_, PSs.nox (pss_cons (ps_if (pt_cmpR op_eq (pv 0) pe_int (nomark _)) (pss_cons (ps_set (i := 4) sc_second.nd rfl (Or.inl rfl) (pe_err I.i_NotWhole (hr.mono (by decide)) rfl T.g_NotWhole (pa_cons (pv 1) pa_nil)))
    (pss_one (ps_ret (pe_tup (pa_cons (pv 4) (pa_cons (pe_errF (pv 4)) (pa_cons (pv 1) pa_nil))))))) pss_nil)
    (pss_cons (ps_if (pt_cmpR op_eq (pv 0) pe_int (nomark _)) (pss_cons (ps_set (i := 4) sc_second.nd rfl (Or.inl rfl) (pe_err I.i_BadPlace (hr.mono (by decide)) rfl T.g_BadPlace (pa_cons (pv 1) pa_nil)))
    (pss_one (ps_ret (pe_tup (pa_cons (pv 4) (pa_cons (pe_errF (pv 4)) (pa_cons (pv 1) pa_nil))))))) pss_nil)
    (pss_cons (ps_if (pt_cmpR op_eq (pv 0) pe_int (nomark _)) (pss_cons (ps_set (i := 4) sc_second.nd rfl (Or.inl rfl) (pe_err I.i_BadMark (hr.mono (by decide)) rfl T.g_BadMark (pa_cons (pv 1) pa_nil)))
    (pss_one (ps_ret (pe_tup (pa_cons (pv 4) (pa_cons (pe_errF (pv 4)) (pa_cons (pv 1) pa_nil))))))) pss_nil)
    (pss_cons (ps_if (pt_cmpR op_eq (pv 0) pe_int (nomark _)) (pss_cons (ps_set (i := 4) sc_second.nd rfl (Or.inl rfl) (pe_err I.i_TwoMarks (hr.mono (by decide)) rfl T.g_TwoMarks (pa_cons (pv 1) pa_nil)))
    (pss_one (ps_ret (pe_tup (pa_cons (pv 4) (pa_cons (pe_errF (pv 4)) (pa_cons (pv 1) pa_nil))))))) pss_nil)
    (pss_cons (ps_if (pt_cmpR op_eq (pv 0) pe_int (nomark _)) (pss_cons (ps_set (i := 4) sc_second.nd rfl (Or.inl rfl) (pe_err I.i_BadLength (hr.mono (by decide)) rfl T.g_BadLength (pa_cons (pv 1) pa_nil)))
    (pss_one (ps_ret (pe_tup (pa_cons (pv 4) (pa_cons (pe_errF (pv 4)) (pa_cons (pv 1) pa_nil))))))) pss_nil)
    (pss_cons (ps_if (pt_cmpR op_eq (pv 0) pe_int (nomark _)) (pss_cons (ps_set (i := 4) sc_second.nd rfl (Or.inl rfl) (pe_err I.i_BadPrice (hr.mono (by decide)) rfl T.g_BadPrice (pa_cons (pv 1) pa_nil)))
    (pss_one (ps_ret (pe_tup (pa_cons (pv 4) (pa_cons (pe_errF (pv 4)) (pa_cons (pv 1) pa_nil))))))) pss_nil)
    (pss_cons (ps_if (pt_cmpR op_eq (pv 0) pe_int (nomark _)) (pss_cons (ps_set (i := 4) sc_second.nd rfl (Or.inl rfl) (pe_err I.i_BadWord (hr.mono (by decide)) rfl T.g_BadWord (pa_cons (pv 3) pa_nil)))
    (pss_one (ps_ret (pe_tup (pa_cons (pv 4) (pa_cons (pe_errF (pv 4)) (pa_cons (pv 3) pa_nil))))))) pss_nil)
    (pss_cons (ps_if (pt_cmpR op_eq (pv 0) pe_int (nomark _)) (pss_one (ps_ret (pe_tup (pa_cons (pe_err0 T.x_OtherWeb (T.err 16 (by decide)).kC rfl T.g_OtherWeb) (pa_cons pe_int (pa_cons pe_int pa_nil)))))) pss_nil)
    (pss_cons (ps_set (i := 4) sc_second.nd rfl (Or.inl rfl) (pe_err I.i_TooMany (hr.mono (by decide)) rfl T.g_TooMany (pa_cons (pv 1) pa_nil)))
    (pss_one (ps_ret (pe_tup (pa_cons (pv 4) (pa_cons (pe_errF (pv 4)) (pa_cons (pv 1) pa_nil))))))))))))))), ?_⟩
    refine ⟨_, rfl, rfl, _, rfl, ?_⟩
    refine ite2 (fun hk => ?_) (fun hk => ?_)
    · have ek : k = 9 := by
        have e := of_decide_eq_true hk
        have e2 := V.int.inj e
        omega
      subst ek
      refine ⟨_, rfl, _, rfl, fun a d H2 na nd ea ed sm => ?_⟩
      refine ⟨_, rfl, _, rfl, a, _, d, _, _, rfl, T.err 9 (by decide), T.no_NotWhole, ea, ed, rfl, _, rfl, (by show 3 ≤ sizeLine; decide), fun q hq => ?_⟩
      obtain ⟨s3, xv⟩ := made_end (o := .tup _) sm ea ed hq
      exact kk _ q a _ s3 (sm.free hq) xv upd_same (.inr (.inl rfl))
    · have nk9 : ¬ (k : Int) = 9 := fun e => hk (decide_eq_true (by rw [e]))
      refine ⟨_, rfl, rfl, _, rfl, ?_⟩
      refine ite2 (fun hk => ?_) (fun hk => ?_)
      · have ek : k = 10 := by
          have e := of_decide_eq_true hk
          have e2 := V.int.inj e
          omega
        subst ek
        refine ⟨_, rfl, _, rfl, fun a d H2 na nd ea ed sm => ?_⟩
        refine ⟨_, rfl, _, rfl, a, _, d, _, _, rfl, T.err 10 (by decide), T.no_BadPlace, ea, ed, rfl, _, rfl, (by show 3 ≤ sizeLine; decide), fun q hq => ?_⟩
        obtain ⟨s3, xv⟩ := made_end (o := .tup _) sm ea ed hq
        exact kk _ q a _ s3 (sm.free hq) xv upd_same (.inr (.inl rfl))
      · have nk10 : ¬ (k : Int) = 10 := fun e => hk (decide_eq_true (by rw [e]))
        refine ⟨_, rfl, rfl, _, rfl, ?_⟩
        refine ite2 (fun hk => ?_) (fun hk => ?_)
        · have ek : k = 11 := by
            have e := of_decide_eq_true hk
            have e2 := V.int.inj e
            omega
          subst ek
          refine ⟨_, rfl, _, rfl, fun a d H2 na nd ea ed sm => ?_⟩
          refine ⟨_, rfl, _, rfl, a, _, d, _, _, rfl, T.err 11 (by decide), T.no_BadMark, ea, ed, rfl, _, rfl, (by show 3 ≤ sizeLine; decide), fun q hq => ?_⟩
          obtain ⟨s3, xv⟩ := made_end (o := .tup _) sm ea ed hq
          exact kk _ q a _ s3 (sm.free hq) xv upd_same (.inr (.inl rfl))
        · have nk11 : ¬ (k : Int) = 11 := fun e => hk (decide_eq_true (by rw [e]))
          refine ⟨_, rfl, rfl, _, rfl, ?_⟩
          refine ite2 (fun hk => ?_) (fun hk => ?_)
          · have ek : k = 12 := by
              have e := of_decide_eq_true hk
              have e2 := V.int.inj e
              omega
            subst ek
            refine ⟨_, rfl, _, rfl, fun a d H2 na nd ea ed sm => ?_⟩
            refine ⟨_, rfl, _, rfl, a, _, d, _, _, rfl, T.err 12 (by decide), T.no_TwoMarks, ea, ed, rfl, _, rfl, (by show 3 ≤ sizeLine; decide), fun q hq => ?_⟩
            obtain ⟨s3, xv⟩ := made_end (o := .tup _) sm ea ed hq
            exact kk _ q a _ s3 (sm.free hq) xv upd_same (.inr (.inl rfl))
          · have nk12 : ¬ (k : Int) = 12 := fun e => hk (decide_eq_true (by rw [e]))
            refine ⟨_, rfl, rfl, _, rfl, ?_⟩
            refine ite2 (fun hk => ?_) (fun hk => ?_)
            · have ek : k = 13 := by
                have e := of_decide_eq_true hk
                have e2 := V.int.inj e
                omega
              subst ek
              refine ⟨_, rfl, _, rfl, fun a d H2 na nd ea ed sm => ?_⟩
              refine ⟨_, rfl, _, rfl, a, _, d, _, _, rfl, T.err 13 (by decide), T.no_BadLength, ea, ed, rfl, _, rfl, (by show 3 ≤ sizeLine; decide), fun q hq => ?_⟩
              obtain ⟨s3, xv⟩ := made_end (o := .tup _) sm ea ed hq
              exact kk _ q a _ s3 (sm.free hq) xv upd_same (.inr (.inl rfl))
            · have nk13 : ¬ (k : Int) = 13 := fun e => hk (decide_eq_true (by rw [e]))
              refine ⟨_, rfl, rfl, _, rfl, ?_⟩
              refine ite2 (fun hk => ?_) (fun hk => ?_)
              · have ek : k = 14 := by
                  have e := of_decide_eq_true hk
                  have e2 := V.int.inj e
                  omega
                subst ek
                refine ⟨_, rfl, _, rfl, fun a d H2 na nd ea ed sm => ?_⟩
                refine ⟨_, rfl, _, rfl, a, _, d, _, _, rfl, T.err 14 (by decide), T.no_BadPrice, ea, ed, rfl, _, rfl, (by show 3 ≤ sizeLine; decide), fun q hq => ?_⟩
                obtain ⟨s3, xv⟩ := made_end (o := .tup _) sm ea ed hq
                exact kk _ q a _ s3 (sm.free hq) xv upd_same (.inr (.inl rfl))
              · have nk14 : ¬ (k : Int) = 14 := fun e => hk (decide_eq_true (by rw [e]))
                refine ⟨_, rfl, rfl, _, rfl, ?_⟩
                refine ite2 (fun hk => ?_) (fun hk => ?_)
                · have ek : k = 15 := by
                    have e := of_decide_eq_true hk
                    have e2 := V.int.inj e
                    omega
                  subst ek
                  refine ⟨_, rfl, _, rfl, fun a d H2 na nd ea ed sm => ?_⟩
                  refine ⟨_, rfl, _, rfl, a, _, d, _, _, rfl, T.err 15 (by decide), T.no_BadWord, ea, ed, rfl, _, rfl, (by show 3 ≤ sizeLine; decide), fun q hq => ?_⟩
                  obtain ⟨s3, xv⟩ := made_end (o := .tup _) sm ea ed hq
                  exact kk _ q a _ s3 (sm.free hq) xv upd_same (.inr (.inr (.inl rfl)))
                · have nk15 : ¬ (k : Int) = 15 := fun e => hk (decide_eq_true (by rw [e]))
                  refine ⟨_, rfl, rfl, _, rfl, ?_⟩
                  refine ite2 (fun hk => ?_) (fun hk => ?_)
                  · have ek : k = 16 := by
                      have e := of_decide_eq_true hk
                      have e2 := V.int.inj e
                      omega
                    subst ek
                    intro a na
                    refine ⟨(by show 3 ≤ sizeLine; decide), fun q hq => ?_⟩
                    obtain ⟨s3, xv⟩ := made_end0 (o := .tup _) na hq
                    exact kk _ q a _ s3 (none_of_upd hq) xv upd_same (.inl rfl)
                  · have nk16 : ¬ (k : Int) = 16 := fun e => hk (decide_eq_true (by rw [e]))
                    have ek : k = 17 := by omega
                    subst ek
                    refine ⟨_, rfl, _, rfl, fun a d H2 na nd ea ed sm => ?_⟩
                    refine ⟨_, rfl, _, rfl, a, _, d, _, _, rfl, T.err 17 (by decide), T.no_TooMany, ea, ed, rfl, _, rfl, (by show 3 ≤ sizeLine; decide), fun q hq => ?_⟩
                    obtain ⟨s3, xv⟩ := made_end (o := .tup _) sm ea ed hq
                    exact kk _ q a _ s3 (sm.free hq) xv upd_same (.inr (.inl rfl))
abbrev s_third : Stmt := top 34
theorem sc_third : FnScope ["_law_k", "_law_number", "_law_several", "_law_word", "_law_e"] ["_law_k", "_law_number", "_law_several", "_law_word"] (defScope s_third) := ⟨rfl, rfl, rfl, by decide +kernel, rfl, by decide +kernel, by decide +kernel⟩
theorem ok_third {f : Addr} {fd : FuncData} (F : FunD K "_law_third" "_law_third" (defArgs s_third) (defBody s_third) (defScope s_third) [] [] f fd) (T : Txt K mg) (I : Inits P w K mg base) : FnOk P w K mg base CX0 3 f fd ["_law_k", "_law_number", "_law_several", "_law_word"] (spMade K 18 27) := by
  refine F.ok sc_third (fun vs H Q E h => ?_) (fun cdv A outer s H vs Q E hr h => ?_)
  · obtain ⟨k, n, t, ds, z, rfl, _⟩ := h
    rfl
  · obtain ⟨k, n, t, ds, z, rfl, k0, k1, kk⟩ := h
    refine ⟨_, PSs.nox (pss_cons (ps_if (pt_cmpR op_eq (pv 0) pe_int (nomark _)) (pss_cons (ps_set (i := 4) sc_third.nd rfl (Or.inl rfl) (pe_err I.i_Barred (hr.mono (by decide)) rfl T.g_Barred (pa_cons (pv 1) pa_nil)))
    (pss_one (ps_ret (pe_tup (pa_cons (pv 4) (pa_cons (pe_errF (pv 4)) (pa_cons (pv 1) pa_nil))))))) pss_nil)
    (pss_cons (ps_if (pt_cmpR op_eq (pv 0) pe_int (nomark _)) (pss_cons (ps_set (i := 4) sc_third.nd rfl (Or.inl rfl) (pe_err I.i_BadSeats (hr.mono (by decide)) rfl T.g_BadSeats (pa_cons (pv 1) pa_nil)))
    (pss_one (ps_ret (pe_tup (pa_cons (pv 4) (pa_cons (pe_errF (pv 4)) (pa_cons (pv 1) pa_nil))))))) pss_nil)
    (pss_cons (ps_if (pt_cmpR op_eq (pv 0) pe_int (nomark _)) (pss_cons (ps_set (i := 4) sc_third.nd rfl (Or.inl rfl) (pe_err I.i_BadName (hr.mono (by decide)) rfl T.g_BadName (pa_cons (pv 3) pa_nil)))
    (pss_one (ps_ret (pe_tup (pa_cons (pv 4) (pa_cons (pe_errF (pv 4)) (pa_cons (pv 3) pa_nil))))))) pss_nil)
    (pss_cons (ps_if (pt_cmpR op_eq (pv 0) pe_int (nomark _)) (pss_cons (ps_set (i := 4) sc_third.nd rfl (Or.inl rfl) (pe_err I.i_NoSeat (hr.mono (by decide)) rfl T.g_NoSeat (pa_cons (pv 3) pa_nil)))
    (pss_one (ps_ret (pe_tup (pa_cons (pv 4) (pa_cons (pe_errF (pv 4)) (pa_cons (pv 3) pa_nil))))))) pss_nil)
    (pss_cons (ps_if (pt_cmpR op_eq (pv 0) pe_int (nomark _)) (pss_cons (ps_set (i := 4) sc_third.nd rfl (Or.inl rfl) (pe_err I.i_BadEdit (hr.mono (by decide)) rfl T.g_BadEdit (pa_cons (pv 2) pa_nil)))
    (pss_one (ps_ret (pe_tup (pa_cons (pv 4) (pa_cons (pe_errF (pv 4)) (pa_cons (pv 2) pa_nil))))))) pss_nil)
    (pss_cons (ps_if (pt_cmpR op_eq (pv 0) pe_int (nomark _)) (pss_cons (ps_set (i := 4) sc_third.nd rfl (Or.inl rfl) (pe_err I.i_BadMenu (hr.mono (by decide)) rfl T.g_BadMenu (pa_cons (pv 1) pa_nil)))
    (pss_one (ps_ret (pe_tup (pa_cons (pv 4) (pa_cons (pe_errF (pv 4)) (pa_cons (pv 1) pa_nil))))))) pss_nil)
    (pss_cons (ps_if (pt_cmpR op_eq (pv 0) pe_int (nomark _)) (pss_cons (ps_set (i := 4) sc_third.nd rfl (Or.inl rfl) (pe_err I.i_TwiceInMenu (hr.mono (by decide)) rfl T.g_TwiceInMenu (pa_cons (pv 1) pa_nil)))
    (pss_one (ps_ret (pe_tup (pa_cons (pv 4) (pa_cons (pe_errF (pv 4)) (pa_cons (pv 1) pa_nil))))))) pss_nil)
    (pss_cons (ps_if (pt_cmpR op_eq (pv 0) pe_int (nomark _)) (pss_cons (ps_set (i := 4) sc_third.nd rfl (Or.inl rfl) (pe_err I.i_BadDeed (hr.mono (by decide)) rfl T.g_BadDeed (pa_cons (pv 1) pa_nil)))
    (pss_one (ps_ret (pe_tup (pa_cons (pv 4) (pa_cons (pe_errF (pv 4)) (pa_cons (pv 1) pa_nil))))))) pss_nil)
    (pss_cons (ps_set (i := 4) sc_third.nd rfl (Or.inl rfl) (pe_err I.i_BadLine (hr.mono (by decide)) rfl T.g_BadLine (pa_cons (pv 1) pa_nil)))
    (pss_one (ps_ret (pe_tup (pa_cons (pv 4) (pa_cons (pe_errF (pv 4)) (pa_cons (pv 1) pa_nil))))))))))))))), ?_⟩
    refine ⟨_, rfl, rfl, _, rfl, ?_⟩
    refine ite2 (fun hk => ?_) (fun hk => ?_)
    · have ek : k = 18 := by
        have e := of_decide_eq_true hk
        have e2 := V.int.inj e
        omega
      subst ek
      refine ⟨_, rfl, _, rfl, fun a d H2 na nd ea ed sm => ?_⟩
      refine ⟨_, rfl, _, rfl, a, _, d, _, _, rfl, T.err 18 (by decide), T.no_Barred, ea, ed, rfl, _, rfl, (by show 3 ≤ sizeLine; decide), fun q hq => ?_⟩
      obtain ⟨s3, xv⟩ := made_end (o := .tup _) sm ea ed hq
      exact kk _ q a _ s3 (sm.free hq) xv upd_same (.inr (.inl rfl))
    · have nk18 : ¬ (k : Int) = 18 := fun e => hk (decide_eq_true (by rw [e]))
      refine ⟨_, rfl, rfl, _, rfl, ?_⟩
      refine ite2 (fun hk => ?_) (fun hk => ?_)
      · have ek : k = 19 := by
          have e := of_decide_eq_true hk
          have e2 := V.int.inj e
          omega
        subst ek
        refine ⟨_, rfl, _, rfl, fun a d H2 na nd ea ed sm => ?_⟩
        refine ⟨_, rfl, _, rfl, a, _, d, _, _, rfl, T.err 19 (by decide), T.no_BadSeats, ea, ed, rfl, _, rfl, (by show 3 ≤ sizeLine; decide), fun q hq => ?_⟩
        obtain ⟨s3, xv⟩ := made_end (o := .tup _) sm ea ed hq
        exact kk _ q a _ s3 (sm.free hq) xv upd_same (.inr (.inl rfl))
      · have nk19 : ¬ (k : Int) = 19 := fun e => hk (decide_eq_true (by rw [e]))
        refine ⟨_, rfl, rfl, _, rfl, ?_⟩
        refine ite2 (fun hk => ?_) (fun hk => ?_)
        · have ek : k = 20 := by
            have e := of_decide_eq_true hk
            have e2 := V.int.inj e
            omega
          subst ek
          refine ⟨_, rfl, _, rfl, fun a d H2 na nd ea ed sm => ?_⟩
          refine ⟨_, rfl, _, rfl, a, _, d, _, _, rfl, T.err 20 (by decide), T.no_BadName, ea, ed, rfl, _, rfl, (by show 3 ≤ sizeLine; decide), fun q hq => ?_⟩
          obtain ⟨s3, xv⟩ := made_end (o := .tup _) sm ea ed hq
          exact kk _ q a _ s3 (sm.free hq) xv upd_same (.inr (.inr (.inl rfl)))
        · have nk20 : ¬ (k : Int) = 20 := fun e => hk (decide_eq_true (by rw [e]))
          refine ⟨_, rfl, rfl, _, rfl, ?_⟩
          refine ite2 (fun hk => ?_) (fun hk => ?_)
          · have ek : k = 21 := by
              have e := of_decide_eq_true hk
              have e2 := V.int.inj e
              omega
            subst ek
            refine ⟨_, rfl, _, rfl, fun a d H2 na nd ea ed sm => ?_⟩
            refine ⟨_, rfl, _, rfl, a, _, d, _, _, rfl, T.err 21 (by decide), T.no_NoSeat, ea, ed, rfl, _, rfl, (by show 3 ≤ sizeLine; decide), fun q hq => ?_⟩
            obtain ⟨s3, xv⟩ := made_end (o := .tup _) sm ea ed hq
            exact kk _ q a _ s3 (sm.free hq) xv upd_same (.inr (.inr (.inl rfl)))
          · have nk21 : ¬ (k : Int) = 21 := fun e => hk (decide_eq_true (by rw [e]))
            refine ⟨_, rfl, rfl, _, rfl, ?_⟩
            refine ite2 (fun hk => ?_) (fun hk => ?_)
            · have ek : k = 22 := by
                have e := of_decide_eq_true hk
                have e2 := V.int.inj e
                omega
              subst ek
              refine ⟨_, rfl, _, rfl, fun a d H2 na nd ea ed sm => ?_⟩
              refine ⟨_, rfl, _, rfl, a, _, d, _, _, rfl, T.err 22 (by decide), T.no_BadEdit, ea, ed, rfl, _, rfl, (by show 3 ≤ sizeLine; decide), fun q hq => ?_⟩
              obtain ⟨s3, xv⟩ := made_end (o := .tup _) sm ea ed hq
              exact kk _ q a _ s3 (sm.free hq) xv upd_same (.inr (.inr (.inr rfl)))
            · have nk22 : ¬ (k : Int) = 22 := fun e => hk (decide_eq_true (by rw [e]))
              refine ⟨_, rfl, rfl, _, rfl, ?_⟩
              refine ite2 (fun hk => ?_) (fun hk => ?_)
              · have ek : k = 23 := by
                  have e := of_decide_eq_true hk
                  have e2 := V.int.inj e
                  omega
                subst ek
                refine ⟨_, rfl, _, rfl, fun a d H2 na nd ea ed sm => ?_⟩
                refine ⟨_, rfl, _, rfl, a, _, d, _, _, rfl, T.err 23 (by decide), T.no_BadMenu, ea, ed, rfl, _, rfl, (by show 3 ≤ sizeLine; decide), fun q hq => ?_⟩
                obtain ⟨s3, xv⟩ := made_end (o := .tup _) sm ea ed hq
                exact kk _ q a _ s3 (sm.free hq) xv upd_same (.inr (.inl rfl))
              · have nk23 : ¬ (k : Int) = 23 := fun e => hk (decide_eq_true (by rw [e]))
                refine ⟨_, rfl, rfl, _, rfl, ?_⟩
                refine ite2 (fun hk => ?_) (fun hk => ?_)
                · have ek : k = 24 := by
                    have e := of_decide_eq_true hk
                    have e2 := V.int.inj e
                    omega
                  subst ek
                  refine ⟨_, rfl, _, rfl, fun a d H2 na nd ea ed sm => ?_⟩
                  refine ⟨_, rfl, _, rfl, a, _, d, _, _, rfl, T.err 24 (by decide), T.no_TwiceInMenu, ea, ed, rfl, _, rfl, (by show 3 ≤ sizeLine; decide), fun q hq => ?_⟩
                  obtain ⟨s3, xv⟩ := made_end (o := .tup _) sm ea ed hq
                  exact kk _ q a _ s3 (sm.free hq) xv upd_same (.inr (.inl rfl))
                · have nk24 : ¬ (k : Int) = 24 := fun e => hk (decide_eq_true (by rw [e]))
                  refine ⟨_, rfl, rfl, _, rfl, ?_⟩
                  refine ite2 (fun hk => ?_) (fun hk => ?_)
                  · have ek : k = 25 := by
                      have e := of_decide_eq_true hk
                      have e2 := V.int.inj e
                      omega
                    subst ek
                    refine ⟨_, rfl, _, rfl, fun a d H2 na nd ea ed sm => ?_⟩
                    refine ⟨_, rfl, _, rfl, a, _, d, _, _, rfl, T.err 25 (by decide), T.no_BadDeed, ea, ed, rfl, _, rfl, (by show 3 ≤ sizeLine; decide), fun q hq => ?_⟩
                    obtain ⟨s3, xv⟩ := made_end (o := .tup _) sm ea ed hq
                    exact kk _ q a _ s3 (sm.free hq) xv upd_same (.inr (.inl rfl))
                  · have nk25 : ¬ (k : Int) = 25 := fun e => hk (decide_eq_true (by rw [e]))
                    have ek : k = 26 := by omega
                    subst ek
                    refine ⟨_, rfl, _, rfl, fun a d H2 na nd ea ed sm => ?_⟩
                    refine ⟨_, rfl, _, rfl, a, _, d, _, _, rfl, T.err 26 (by decide), T.no_BadLine, ea, ed, rfl, _, rfl, (by show 3 ≤ sizeLine; decide), fun q hq => ?_⟩
                    obtain ⟨s3, xv⟩ := made_end (o := .tup _) sm ea ed hq
                    exact kk _ q a _ s3 (sm.free hq) xv upd_same (.inr (.inl rfl))
abbrev s_made : Stmt := top 36
theorem sc_made : FnScope ["_law_k", "_law_number", "_law_several", "_law_word"] ["_law_k", "_law_number", "_law_several", "_law_word"] (defScope s_made) := ⟨rfl, rfl, rfl, by decide +kernel, rfl, by decide +kernel, by decide +kernel⟩
theorem ok_made {f : Addr} {fd : FuncData} (F : FunD K "_law_made" "_law_made" (defArgs s_made) (defBody s_made) (defScope s_made) [] [] f fd) (T : Txt K mg)
    (d1 : Okd P w K mg base CX0 3 (He.ga K "_law_first") ["_law_k", "_law_number", "_law_several", "_law_word"] (spMade K 0 9)) (d2 : Okd P w K mg base CX0 3 (He.ga K "_law_second") ["_law_k", "_law_number", "_law_several", "_law_word"] (spMade K 9 18))
    (d3 : Okd P w K mg base CX0 3 (He.ga K "_law_third") ["_law_k", "_law_number", "_law_several", "_law_word"] (spMade K 18 27)) : FnOk P w K mg base CX0 4 f fd ["_law_k", "_law_number", "_law_several", "_law_word"] (spMade K 0 27) := by
  obtain ⟨fd_first, G_first, b_first⟩ := d1
  obtain ⟨fd_second, G_second, b_second⟩ := d2
  obtain ⟨fd_third, G_third, b_third⟩ := d3
  refine F.ok sc_made (fun vs H Q E h => ?_) (fun cdv A outer s H vs Q E hr h => ?_)
  · obtain ⟨k, n, t, ds, z, rfl, _⟩ := h
    rfl
  · obtain ⟨k, n, t, ds, z, rfl, k0, k1, kk⟩ := h
    refine ⟨_, PSs.nox (pss_cons (ps_if (pt_cmpR op_lt (pv 0) pe_int (nomark _)) (pss_one (ps_ret (pe_call G_first (hr.mono (by decide)) (by rfl) T.g__law_first T.k__law_first b_first .nil pass0 (pa_cons (pv 0) (pa_cons (pv 1) (pa_cons (pv 2) (pa_cons (pv 3) pa_nil))))))) pss_nil)
    (pss_cons (ps_if (pt_cmpR op_lt (pv 0) pe_int (nomark _)) (pss_one (ps_ret (pe_call G_second (hr.mono (by decide)) (by rfl) T.g__law_second T.k__law_second b_second .nil pass0 (pa_cons (pv 0) (pa_cons (pv 1) (pa_cons (pv 2) (pa_cons (pv 3) pa_nil))))))) pss_nil)
    (pss_one (ps_ret (pe_call G_third (hr.mono (by decide)) (by rfl) T.g__law_third T.k__law_third b_third .nil pass0 (pa_cons (pv 0) (pa_cons (pv 1) (pa_cons (pv 2) (pa_cons (pv 3) pa_nil))))))))), ?_⟩
    refine ⟨_, rfl, _, _, rfl, rfl, _, rfl, ?_⟩
    refine ite2 (fun h1 => ?_) (fun h1 => ?_)
    · exact ⟨_, rfl, _, rfl, _, rfl, _, rfl, k, n, t, ds, z, rfl, k0, of_decide_eq_true h1, kk⟩
    · have n1 : ¬ (k : Int) < 9 := fun e => h1 (decide_eq_true e)
      refine ⟨_, rfl, _, _, rfl, rfl, _, rfl, ?_⟩
      refine ite2 (fun h2 => ?_) (fun h2 => ?_)
      · exact ⟨_, rfl, _, rfl, _, rfl, _, rfl, k, n, t, ds, z, rfl, by omega, of_decide_eq_true h2, kk⟩
      · have n2 : ¬ (k : Int) < 18 := fun e => h2 (decide_eq_true e)
        exact ⟨_, rfl, _, rfl, _, rfl, _, rfl, k, n, t, ds, z, rfl, by omega, k1, kk⟩

/-- kinds(e): which of the classes, by number -/
def spKinds (K : PySem.W.Frag) : Sp := fun vs H Q _ => ∃ (e : Addr) (k : Nat), vs = [.ref e] ∧ k < 27 ∧ XV H (cl K k) e ∧
  ∀ (H' : Hp) (p : Addr), Same H H' → H' p = some (.lst ((List.range 27).map fun j => V.bl (decide (k = j)))) → Q (.ref p) H'
theorem XV.keep {H H' : Hp} {C e : Addr} (h : XV H C e) (s : Same H H') : XV H' C e := by
  rcases h with ⟨d, fs, h1, h2⟩ | h
  · exact .inl ⟨d, fs, s _ _ h1, s _ _ h2⟩
  · exact .inr (s _ _ h)
theorem same_upd {H H' : Hp} {p : Addr} {o : HO} (s : Same H H') (n : H' p = none) : Same H (upd H' p o) := fun b u e => by
  rw [upd_ne (ne_of_none (s b u e) n)]
  exact s b u e
abbrev s_kinds : Stmt := top 35
theorem sc_kinds : FnScope ["_law_e", "_law_kinds_here"] ["_law_e"] (defScope s_kinds) := ⟨rfl, rfl, rfl, by decide +kernel, rfl, by decide +kernel, by decide +kernel⟩
theorem ok_kinds {f : Addr} {fd : FuncData} (F : FunD K "_law_kinds" "_law_kinds" (defArgs s_kinds) (defBody s_kinds) (defScope s_kinds) [] [] f fd) (T : Txt K mg) : FnOk P w K mg base CX0 1 f fd ["_law_e"] (spKinds K) := by
  refine F.ok sc_kinds (fun vs H Q E h => ?_) (fun cdv A outer s H vs Q E hr h => ?_)
  · obtain ⟨e, k, rfl, _⟩ := h
    rfl
  · obtain ⟨e, k, rfl, kl, xv, kk⟩ := h
    refine ⟨_, PSs.nox (pss_cons (ps_set (i := 1) sc_kinds.nd rfl (Or.inl rfl) (pe_lst pa_nil))
    (pss_cons (ps_set (i := 1) sc_kinds.nd rfl (Or.inl rfl) (pe_op op_cat (pv 1) (pe_lst (pa_cons (pe_callB call_isV (by rfl) T.n_isinstance (by decide +kernel) (pa_cons (pv 0) (pa_cons (pe_glob (v := .ref (He.ga K "BadPlaces")) rfl T.g_BadPlaces rfl) pa_nil))) (pa_cons (pe_callB call_isV (by rfl) T.n_isinstance (by decide +kernel) (pa_cons (pv 0) (pa_cons (pe_glob (v := .ref (He.ga K "BadEdges")) rfl T.g_BadEdges rfl) pa_nil))) (pa_cons (pe_callB call_isV (by rfl) T.n_isinstance (by decide +kernel) (pa_cons (pv 0) (pa_cons (pe_glob (v := .ref (He.ga K "BadEdge")) rfl T.g_BadEdge rfl) pa_nil))) pa_nil))))))
    (pss_cons (ps_set (i := 1) sc_kinds.nd rfl (Or.inl rfl) (pe_op op_cat (pv 1) (pe_lst (pa_cons (pe_callB call_isV (by rfl) T.n_isinstance (by decide +kernel) (pa_cons (pv 0) (pa_cons (pe_glob (v := .ref (He.ga K "BadEntry")) rfl T.g_BadEntry rfl) pa_nil))) (pa_cons (pe_callB call_isV (by rfl) T.n_isinstance (by decide +kernel) (pa_cons (pv 0) (pa_cons (pe_glob (v := .ref (He.ga K "NoExits")) rfl T.g_NoExits rfl) pa_nil))) (pa_cons (pe_callB call_isV (by rfl) T.n_isinstance (by decide +kernel) (pa_cons (pv 0) (pa_cons (pe_glob (v := .ref (He.ga K "BadExit")) rfl T.g_BadExit rfl) pa_nil))) pa_nil))))))
    (pss_cons (ps_set (i := 1) sc_kinds.nd rfl (Or.inl rfl) (pe_op op_cat (pv 1) (pe_lst (pa_cons (pe_callB call_isV (by rfl) T.n_isinstance (by decide +kernel) (pa_cons (pv 0) (pa_cons (pe_glob (v := .ref (He.ga K "Idle")) rfl T.g_Idle rfl) pa_nil))) (pa_cons (pe_callB call_isV (by rfl) T.n_isinstance (by decide +kernel) (pa_cons (pv 0) (pa_cons (pe_glob (v := .ref (He.ga K "NoGate")) rfl T.g_NoGate rfl) pa_nil))) (pa_cons (pe_callB call_isV (by rfl) T.n_isinstance (by decide +kernel) (pa_cons (pv 0) (pa_cons (pe_glob (v := .ref (He.ga K "BadWay")) rfl T.g_BadWay rfl) pa_nil))) pa_nil))))))
    (pss_cons (ps_set (i := 1) sc_kinds.nd rfl (Or.inl rfl) (pe_op op_cat (pv 1) (pe_lst (pa_cons (pe_callB call_isV (by rfl) T.n_isinstance (by decide +kernel) (pa_cons (pv 0) (pa_cons (pe_glob (v := .ref (He.ga K "NotWhole")) rfl T.g_NotWhole rfl) pa_nil))) (pa_cons (pe_callB call_isV (by rfl) T.n_isinstance (by decide +kernel) (pa_cons (pv 0) (pa_cons (pe_glob (v := .ref (He.ga K "BadPlace")) rfl T.g_BadPlace rfl) pa_nil))) (pa_cons (pe_callB call_isV (by rfl) T.n_isinstance (by decide +kernel) (pa_cons (pv 0) (pa_cons (pe_glob (v := .ref (He.ga K "BadMark")) rfl T.g_BadMark rfl) pa_nil))) pa_nil))))))
    (pss_cons (ps_set (i := 1) sc_kinds.nd rfl (Or.inl rfl) (pe_op op_cat (pv 1) (pe_lst (pa_cons (pe_callB call_isV (by rfl) T.n_isinstance (by decide +kernel) (pa_cons (pv 0) (pa_cons (pe_glob (v := .ref (He.ga K "TwoMarks")) rfl T.g_TwoMarks rfl) pa_nil))) (pa_cons (pe_callB call_isV (by rfl) T.n_isinstance (by decide +kernel) (pa_cons (pv 0) (pa_cons (pe_glob (v := .ref (He.ga K "BadLength")) rfl T.g_BadLength rfl) pa_nil))) (pa_cons (pe_callB call_isV (by rfl) T.n_isinstance (by decide +kernel) (pa_cons (pv 0) (pa_cons (pe_glob (v := .ref (He.ga K "BadPrice")) rfl T.g_BadPrice rfl) pa_nil))) pa_nil))))))
    (pss_cons (ps_set (i := 1) sc_kinds.nd rfl (Or.inl rfl) (pe_op op_cat (pv 1) (pe_lst (pa_cons (pe_callB call_isV (by rfl) T.n_isinstance (by decide +kernel) (pa_cons (pv 0) (pa_cons (pe_glob (v := .ref (He.ga K "BadWord")) rfl T.g_BadWord rfl) pa_nil))) (pa_cons (pe_callB call_isV (by rfl) T.n_isinstance (by decide +kernel) (pa_cons (pv 0) (pa_cons (pe_glob (v := .ref (He.ga K "OtherWeb")) rfl T.g_OtherWeb rfl) pa_nil))) (pa_cons (pe_callB call_isV (by rfl) T.n_isinstance (by decide +kernel) (pa_cons (pv 0) (pa_cons (pe_glob (v := .ref (He.ga K "TooMany")) rfl T.g_TooMany rfl) pa_nil))) pa_nil))))))
    (pss_cons (ps_set (i := 1) sc_kinds.nd rfl (Or.inl rfl) (pe_op op_cat (pv 1) (pe_lst (pa_cons (pe_callB call_isV (by rfl) T.n_isinstance (by decide +kernel) (pa_cons (pv 0) (pa_cons (pe_glob (v := .ref (He.ga K "Barred")) rfl T.g_Barred rfl) pa_nil))) (pa_cons (pe_callB call_isV (by rfl) T.n_isinstance (by decide +kernel) (pa_cons (pv 0) (pa_cons (pe_glob (v := .ref (He.ga K "BadSeats")) rfl T.g_BadSeats rfl) pa_nil))) (pa_cons (pe_callB call_isV (by rfl) T.n_isinstance (by decide +kernel) (pa_cons (pv 0) (pa_cons (pe_glob (v := .ref (He.ga K "BadName")) rfl T.g_BadName rfl) pa_nil))) pa_nil))))))
    (pss_cons (ps_set (i := 1) sc_kinds.nd rfl (Or.inl rfl) (pe_op op_cat (pv 1) (pe_lst (pa_cons (pe_callB call_isV (by rfl) T.n_isinstance (by decide +kernel) (pa_cons (pv 0) (pa_cons (pe_glob (v := .ref (He.ga K "NoSeat")) rfl T.g_NoSeat rfl) pa_nil))) (pa_cons (pe_callB call_isV (by rfl) T.n_isinstance (by decide +kernel) (pa_cons (pv 0) (pa_cons (pe_glob (v := .ref (He.ga K "BadEdit")) rfl T.g_BadEdit rfl) pa_nil))) (pa_cons (pe_callB call_isV (by rfl) T.n_isinstance (by decide +kernel) (pa_cons (pv 0) (pa_cons (pe_glob (v := .ref (He.ga K "BadMenu")) rfl T.g_BadMenu rfl) pa_nil))) pa_nil))))))
    (pss_cons (ps_set (i := 1) sc_kinds.nd rfl (Or.inl rfl) (pe_op op_cat (pv 1) (pe_lst (pa_cons (pe_callB call_isV (by rfl) T.n_isinstance (by decide +kernel) (pa_cons (pv 0) (pa_cons (pe_glob (v := .ref (He.ga K "TwiceInMenu")) rfl T.g_TwiceInMenu rfl) pa_nil))) (pa_cons (pe_callB call_isV (by rfl) T.n_isinstance (by decide +kernel) (pa_cons (pv 0) (pa_cons (pe_glob (v := .ref (He.ga K "BadDeed")) rfl T.g_BadDeed rfl) pa_nil))) (pa_cons (pe_callB call_isV (by rfl) T.n_isinstance (by decide +kernel) (pa_cons (pv 0) (pa_cons (pe_glob (v := .ref (He.ga K "BadLine")) rfl T.g_BadLine rfl) pa_nil))) pa_nil))))))
    (pss_one (ps_ret (pv 1))))))))))))), ?_⟩
    refine ⟨Nat.zero_le _, fun l hl => ?_⟩
    have S0 : Same H (upd H l (.lst [])) := same_upd (Same.refl H) hl
    -- three more
    refine ⟨_, rfl, ?_⟩
    refine ⟨_, rfl, e, cl K k, .ref (cl K 0), _, _, rfl, .own _, xv.keep S0, T.err k kl, T.kit k 0 kl (by decide), ?_⟩
    refine ⟨_, rfl, e, cl K k, .ref (cl K 1), _, _, rfl, .own _, xv.keep S0, T.err k kl, T.kit k 1 kl (by decide), ?_⟩
    refine ⟨_, rfl, e, cl K k, .ref (cl K 2), _, _, rfl, .own _, xv.keep S0, T.err k kl, T.kit k 2 kl (by decide), ?_⟩
    refine ⟨(by show 3 ≤ sizeLine; decide), fun m0 hm0 => ?_⟩
    have T0 := same_upd (o := .lst [V.bl (decide (k = 0)), V.bl (decide (k = 1)), V.bl (decide (k = 2))]) S0 hm0
    refine ⟨l, m0, _, _, rfl, rfl, (by rw [upd_ne (ne_of_none upd_same hm0)]; exact upd_same), upd_same, (by show 3 ≤ sizeLine; decide), fun p0 hp0 => ?_⟩
    have S1 := same_upd (o := .lst (([] : List V) ++ [V.bl (decide (k = 0)), V.bl (decide (k = 1)), V.bl (decide (k = 2))])) T0 hp0
    -- three more
    refine ⟨_, rfl, ?_⟩
    refine ⟨_, rfl, e, cl K k, .ref (cl K 3), _, _, rfl, .own _, xv.keep S1, T.err k kl, T.kit k 3 kl (by decide), ?_⟩
    refine ⟨_, rfl, e, cl K k, .ref (cl K 4), _, _, rfl, .own _, xv.keep S1, T.err k kl, T.kit k 4 kl (by decide), ?_⟩
    refine ⟨_, rfl, e, cl K k, .ref (cl K 5), _, _, rfl, .own _, xv.keep S1, T.err k kl, T.kit k 5 kl (by decide), ?_⟩
    refine ⟨(by show 3 ≤ sizeLine; decide), fun m1 hm1 => ?_⟩
    have T1 := same_upd (o := .lst [V.bl (decide (k = 3)), V.bl (decide (k = 4)), V.bl (decide (k = 5))]) S1 hm1
    refine ⟨p0, m1, _, _, rfl, rfl, (by rw [upd_ne (ne_of_none (upd_same (o := .lst (([] : List V) ++ [V.bl (decide (k = 0)), V.bl (decide (k = 1)), V.bl (decide (k = 2))]))) hm1)]; exact (upd_same (o := .lst (([] : List V) ++ [V.bl (decide (k = 0)), V.bl (decide (k = 1)), V.bl (decide (k = 2))])))), upd_same, (by show 6 ≤ sizeLine; decide), fun p1 hp1 => ?_⟩
    have S2 := same_upd (o := .lst (([V.bl (decide (k = 0)), V.bl (decide (k = 1)), V.bl (decide (k = 2))] : List V) ++ [V.bl (decide (k = 3)), V.bl (decide (k = 4)), V.bl (decide (k = 5))])) T1 hp1
    -- three more
    refine ⟨_, rfl, ?_⟩
    refine ⟨_, rfl, e, cl K k, .ref (cl K 6), _, _, rfl, .own _, xv.keep S2, T.err k kl, T.kit k 6 kl (by decide), ?_⟩
    refine ⟨_, rfl, e, cl K k, .ref (cl K 7), _, _, rfl, .own _, xv.keep S2, T.err k kl, T.kit k 7 kl (by decide), ?_⟩
    refine ⟨_, rfl, e, cl K k, .ref (cl K 8), _, _, rfl, .own _, xv.keep S2, T.err k kl, T.kit k 8 kl (by decide), ?_⟩
    refine ⟨(by show 3 ≤ sizeLine; decide), fun m2 hm2 => ?_⟩
    have T2 := same_upd (o := .lst [V.bl (decide (k = 6)), V.bl (decide (k = 7)), V.bl (decide (k = 8))]) S2 hm2
    refine ⟨p1, m2, _, _, rfl, rfl, (by rw [upd_ne (ne_of_none (upd_same (o := .lst (([V.bl (decide (k = 0)), V.bl (decide (k = 1)), V.bl (decide (k = 2))] : List V) ++ [V.bl (decide (k = 3)), V.bl (decide (k = 4)), V.bl (decide (k = 5))]))) hm2)]; exact (upd_same (o := .lst (([V.bl (decide (k = 0)), V.bl (decide (k = 1)), V.bl (decide (k = 2))] : List V) ++ [V.bl (decide (k = 3)), V.bl (decide (k = 4)), V.bl (decide (k = 5))])))), upd_same, (by show 9 ≤ sizeLine; decide), fun p2 hp2 => ?_⟩
    have S3 := same_upd (o := .lst (([V.bl (decide (k = 0)), V.bl (decide (k = 1)), V.bl (decide (k = 2)), V.bl (decide (k = 3)), V.bl (decide (k = 4)), V.bl (decide (k = 5))] : List V) ++ [V.bl (decide (k = 6)), V.bl (decide (k = 7)), V.bl (decide (k = 8))])) T2 hp2
    -- three more
    refine ⟨_, rfl, ?_⟩
    refine ⟨_, rfl, e, cl K k, .ref (cl K 9), _, _, rfl, .own _, xv.keep S3, T.err k kl, T.kit k 9 kl (by decide), ?_⟩
    refine ⟨_, rfl, e, cl K k, .ref (cl K 10), _, _, rfl, .own _, xv.keep S3, T.err k kl, T.kit k 10 kl (by decide), ?_⟩
    refine ⟨_, rfl, e, cl K k, .ref (cl K 11), _, _, rfl, .own _, xv.keep S3, T.err k kl, T.kit k 11 kl (by decide), ?_⟩
    refine ⟨(by show 3 ≤ sizeLine; decide), fun m3 hm3 => ?_⟩
    have T3 := same_upd (o := .lst [V.bl (decide (k = 9)), V.bl (decide (k = 10)), V.bl (decide (k = 11))]) S3 hm3
    refine ⟨p2, m3, _, _, rfl, rfl, (by rw [upd_ne (ne_of_none (upd_same (o := .lst (([V.bl (decide (k = 0)), V.bl (decide (k = 1)), V.bl (decide (k = 2)), V.bl (decide (k = 3)), V.bl (decide (k = 4)), V.bl (decide (k = 5))] : List V) ++ [V.bl (decide (k = 6)), V.bl (decide (k = 7)), V.bl (decide (k = 8))]))) hm3)]; exact (upd_same (o := .lst (([V.bl (decide (k = 0)), V.bl (decide (k = 1)), V.bl (decide (k = 2)), V.bl (decide (k = 3)), V.bl (decide (k = 4)), V.bl (decide (k = 5))] : List V) ++ [V.bl (decide (k = 6)), V.bl (decide (k = 7)), V.bl (decide (k = 8))])))), upd_same, (by show 12 ≤ sizeLine; decide), fun p3 hp3 => ?_⟩
    have S4 := same_upd (o := .lst (([V.bl (decide (k = 0)), V.bl (decide (k = 1)), V.bl (decide (k = 2)), V.bl (decide (k = 3)), V.bl (decide (k = 4)), V.bl (decide (k = 5)), V.bl (decide (k = 6)), V.bl (decide (k = 7)), V.bl (decide (k = 8))] : List V) ++ [V.bl (decide (k = 9)), V.bl (decide (k = 10)), V.bl (decide (k = 11))])) T3 hp3
    -- three more
    refine ⟨_, rfl, ?_⟩
    refine ⟨_, rfl, e, cl K k, .ref (cl K 12), _, _, rfl, .own _, xv.keep S4, T.err k kl, T.kit k 12 kl (by decide), ?_⟩
    refine ⟨_, rfl, e, cl K k, .ref (cl K 13), _, _, rfl, .own _, xv.keep S4, T.err k kl, T.kit k 13 kl (by decide), ?_⟩
    refine ⟨_, rfl, e, cl K k, .ref (cl K 14), _, _, rfl, .own _, xv.keep S4, T.err k kl, T.kit k 14 kl (by decide), ?_⟩
    refine ⟨(by show 3 ≤ sizeLine; decide), fun m4 hm4 => ?_⟩
    have T4 := same_upd (o := .lst [V.bl (decide (k = 12)), V.bl (decide (k = 13)), V.bl (decide (k = 14))]) S4 hm4
    refine ⟨p3, m4, _, _, rfl, rfl, (by rw [upd_ne (ne_of_none (upd_same (o := .lst (([V.bl (decide (k = 0)), V.bl (decide (k = 1)), V.bl (decide (k = 2)), V.bl (decide (k = 3)), V.bl (decide (k = 4)), V.bl (decide (k = 5)), V.bl (decide (k = 6)), V.bl (decide (k = 7)), V.bl (decide (k = 8))] : List V) ++ [V.bl (decide (k = 9)), V.bl (decide (k = 10)), V.bl (decide (k = 11))]))) hm4)]; exact (upd_same (o := .lst (([V.bl (decide (k = 0)), V.bl (decide (k = 1)), V.bl (decide (k = 2)), V.bl (decide (k = 3)), V.bl (decide (k = 4)), V.bl (decide (k = 5)), V.bl (decide (k = 6)), V.bl (decide (k = 7)), V.bl (decide (k = 8))] : List V) ++ [V.bl (decide (k = 9)), V.bl (decide (k = 10)), V.bl (decide (k = 11))])))), upd_same, (by show 15 ≤ sizeLine; decide), fun p4 hp4 => ?_⟩
    have S5 := same_upd (o := .lst (([V.bl (decide (k = 0)), V.bl (decide (k = 1)), V.bl (decide (k = 2)), V.bl (decide (k = 3)), V.bl (decide (k = 4)), V.bl (decide (k = 5)), V.bl (decide (k = 6)), V.bl (decide (k = 7)), V.bl (decide (k = 8)), V.bl (decide (k = 9)), V.bl (decide (k = 10)), V.bl (decide (k = 11))] : List V) ++ [V.bl (decide (k = 12)), V.bl (decide (k = 13)), V.bl (decide (k = 14))])) T4 hp4
    -- three more
    refine ⟨_, rfl, ?_⟩
    refine ⟨_, rfl, e, cl K k, .ref (cl K 15), _, _, rfl, .own _, xv.keep S5, T.err k kl, T.kit k 15 kl (by decide), ?_⟩
    refine ⟨_, rfl, e, cl K k, .ref (cl K 16), _, _, rfl, .own _, xv.keep S5, T.err k kl, T.kit k 16 kl (by decide), ?_⟩
    refine ⟨_, rfl, e, cl K k, .ref (cl K 17), _, _, rfl, .own _, xv.keep S5, T.err k kl, T.kit k 17 kl (by decide), ?_⟩
    refine ⟨(by show 3 ≤ sizeLine; decide), fun m5 hm5 => ?_⟩
    have T5 := same_upd (o := .lst [V.bl (decide (k = 15)), V.bl (decide (k = 16)), V.bl (decide (k = 17))]) S5 hm5
    refine ⟨p4, m5, _, _, rfl, rfl, (by rw [upd_ne (ne_of_none (upd_same (o := .lst (([V.bl (decide (k = 0)), V.bl (decide (k = 1)), V.bl (decide (k = 2)), V.bl (decide (k = 3)), V.bl (decide (k = 4)), V.bl (decide (k = 5)), V.bl (decide (k = 6)), V.bl (decide (k = 7)), V.bl (decide (k = 8)), V.bl (decide (k = 9)), V.bl (decide (k = 10)), V.bl (decide (k = 11))] : List V) ++ [V.bl (decide (k = 12)), V.bl (decide (k = 13)), V.bl (decide (k = 14))]))) hm5)]; exact (upd_same (o := .lst (([V.bl (decide (k = 0)), V.bl (decide (k = 1)), V.bl (decide (k = 2)), V.bl (decide (k = 3)), V.bl (decide (k = 4)), V.bl (decide (k = 5)), V.bl (decide (k = 6)), V.bl (decide (k = 7)), V.bl (decide (k = 8)), V.bl (decide (k = 9)), V.bl (decide (k = 10)), V.bl (decide (k = 11))] : List V) ++ [V.bl (decide (k = 12)), V.bl (decide (k = 13)), V.bl (decide (k = 14))])))), upd_same, (by show 18 ≤ sizeLine; decide), fun p5 hp5 => ?_⟩
    have S6 := same_upd (o := .lst (([V.bl (decide (k = 0)), V.bl (decide (k = 1)), V.bl (decide (k = 2)), V.bl (decide (k = 3)), V.bl (decide (k = 4)), V.bl (decide (k = 5)), V.bl (decide (k = 6)), V.bl (decide (k = 7)), V.bl (decide (k = 8)), V.bl (decide (k = 9)), V.bl (decide (k = 10)), V.bl (decide (k = 11)), V.bl (decide (k = 12)), V.bl (decide (k = 13)), V.bl (decide (k = 14))] : List V) ++ [V.bl (decide (k = 15)), V.bl (decide (k = 16)), V.bl (decide (k = 17))])) T5 hp5
    -- three more
    refine ⟨_, rfl, ?_⟩
    refine ⟨_, rfl, e, cl K k, .ref (cl K 18), _, _, rfl, .own _, xv.keep S6, T.err k kl, T.kit k 18 kl (by decide), ?_⟩
    refine ⟨_, rfl, e, cl K k, .ref (cl K 19), _, _, rfl, .own _, xv.keep S6, T.err k kl, T.kit k 19 kl (by decide), ?_⟩
    refine ⟨_, rfl, e, cl K k, .ref (cl K 20), _, _, rfl, .own _, xv.keep S6, T.err k kl, T.kit k 20 kl (by decide), ?_⟩
    refine ⟨(by show 3 ≤ sizeLine; decide), fun m6 hm6 => ?_⟩
    have T6 := same_upd (o := .lst [V.bl (decide (k = 18)), V.bl (decide (k = 19)), V.bl (decide (k = 20))]) S6 hm6
    refine ⟨p5, m6, _, _, rfl, rfl, (by rw [upd_ne (ne_of_none (upd_same (o := .lst (([V.bl (decide (k = 0)), V.bl (decide (k = 1)), V.bl (decide (k = 2)), V.bl (decide (k = 3)), V.bl (decide (k = 4)), V.bl (decide (k = 5)), V.bl (decide (k = 6)), V.bl (decide (k = 7)), V.bl (decide (k = 8)), V.bl (decide (k = 9)), V.bl (decide (k = 10)), V.bl (decide (k = 11)), V.bl (decide (k = 12)), V.bl (decide (k = 13)), V.bl (decide (k = 14))] : List V) ++ [V.bl (decide (k = 15)), V.bl (decide (k = 16)), V.bl (decide (k = 17))]))) hm6)]; exact (upd_same (o := .lst (([V.bl (decide (k = 0)), V.bl (decide (k = 1)), V.bl (decide (k = 2)), V.bl (decide (k = 3)), V.bl (decide (k = 4)), V.bl (decide (k = 5)), V.bl (decide (k = 6)), V.bl (decide (k = 7)), V.bl (decide (k = 8)), V.bl (decide (k = 9)), V.bl (decide (k = 10)), V.bl (decide (k = 11)), V.bl (decide (k = 12)), V.bl (decide (k = 13)), V.bl (decide (k = 14))] : List V) ++ [V.bl (decide (k = 15)), V.bl (decide (k = 16)), V.bl (decide (k = 17))])))), upd_same, (by show 21 ≤ sizeLine; decide), fun p6 hp6 => ?_⟩
    have S7 := same_upd (o := .lst (([V.bl (decide (k = 0)), V.bl (decide (k = 1)), V.bl (decide (k = 2)), V.bl (decide (k = 3)), V.bl (decide (k = 4)), V.bl (decide (k = 5)), V.bl (decide (k = 6)), V.bl (decide (k = 7)), V.bl (decide (k = 8)), V.bl (decide (k = 9)), V.bl (decide (k = 10)), V.bl (decide (k = 11)), V.bl (decide (k = 12)), V.bl (decide (k = 13)), V.bl (decide (k = 14)), V.bl (decide (k = 15)), V.bl (decide (k = 16)), V.bl (decide (k = 17))] : List V) ++ [V.bl (decide (k = 18)), V.bl (decide (k = 19)), V.bl (decide (k = 20))])) T6 hp6
    -- three more
    refine ⟨_, rfl, ?_⟩
    refine ⟨_, rfl, e, cl K k, .ref (cl K 21), _, _, rfl, .own _, xv.keep S7, T.err k kl, T.kit k 21 kl (by decide), ?_⟩
    refine ⟨_, rfl, e, cl K k, .ref (cl K 22), _, _, rfl, .own _, xv.keep S7, T.err k kl, T.kit k 22 kl (by decide), ?_⟩
    refine ⟨_, rfl, e, cl K k, .ref (cl K 23), _, _, rfl, .own _, xv.keep S7, T.err k kl, T.kit k 23 kl (by decide), ?_⟩
    refine ⟨(by show 3 ≤ sizeLine; decide), fun m7 hm7 => ?_⟩
    have T7 := same_upd (o := .lst [V.bl (decide (k = 21)), V.bl (decide (k = 22)), V.bl (decide (k = 23))]) S7 hm7
    refine ⟨p6, m7, _, _, rfl, rfl, (by rw [upd_ne (ne_of_none (upd_same (o := .lst (([V.bl (decide (k = 0)), V.bl (decide (k = 1)), V.bl (decide (k = 2)), V.bl (decide (k = 3)), V.bl (decide (k = 4)), V.bl (decide (k = 5)), V.bl (decide (k = 6)), V.bl (decide (k = 7)), V.bl (decide (k = 8)), V.bl (decide (k = 9)), V.bl (decide (k = 10)), V.bl (decide (k = 11)), V.bl (decide (k = 12)), V.bl (decide (k = 13)), V.bl (decide (k = 14)), V.bl (decide (k = 15)), V.bl (decide (k = 16)), V.bl (decide (k = 17))] : List V) ++ [V.bl (decide (k = 18)), V.bl (decide (k = 19)), V.bl (decide (k = 20))]))) hm7)]; exact (upd_same (o := .lst (([V.bl (decide (k = 0)), V.bl (decide (k = 1)), V.bl (decide (k = 2)), V.bl (decide (k = 3)), V.bl (decide (k = 4)), V.bl (decide (k = 5)), V.bl (decide (k = 6)), V.bl (decide (k = 7)), V.bl (decide (k = 8)), V.bl (decide (k = 9)), V.bl (decide (k = 10)), V.bl (decide (k = 11)), V.bl (decide (k = 12)), V.bl (decide (k = 13)), V.bl (decide (k = 14)), V.bl (decide (k = 15)), V.bl (decide (k = 16)), V.bl (decide (k = 17))] : List V) ++ [V.bl (decide (k = 18)), V.bl (decide (k = 19)), V.bl (decide (k = 20))])))), upd_same, (by show 24 ≤ sizeLine; decide), fun p7 hp7 => ?_⟩
    have S8 := same_upd (o := .lst (([V.bl (decide (k = 0)), V.bl (decide (k = 1)), V.bl (decide (k = 2)), V.bl (decide (k = 3)), V.bl (decide (k = 4)), V.bl (decide (k = 5)), V.bl (decide (k = 6)), V.bl (decide (k = 7)), V.bl (decide (k = 8)), V.bl (decide (k = 9)), V.bl (decide (k = 10)), V.bl (decide (k = 11)), V.bl (decide (k = 12)), V.bl (decide (k = 13)), V.bl (decide (k = 14)), V.bl (decide (k = 15)), V.bl (decide (k = 16)), V.bl (decide (k = 17)), V.bl (decide (k = 18)), V.bl (decide (k = 19)), V.bl (decide (k = 20))] : List V) ++ [V.bl (decide (k = 21)), V.bl (decide (k = 22)), V.bl (decide (k = 23))])) T7 hp7
    -- three more
    refine ⟨_, rfl, ?_⟩
    refine ⟨_, rfl, e, cl K k, .ref (cl K 24), _, _, rfl, .own _, xv.keep S8, T.err k kl, T.kit k 24 kl (by decide), ?_⟩
    refine ⟨_, rfl, e, cl K k, .ref (cl K 25), _, _, rfl, .own _, xv.keep S8, T.err k kl, T.kit k 25 kl (by decide), ?_⟩
    refine ⟨_, rfl, e, cl K k, .ref (cl K 26), _, _, rfl, .own _, xv.keep S8, T.err k kl, T.kit k 26 kl (by decide), ?_⟩
    refine ⟨(by show 3 ≤ sizeLine; decide), fun m8 hm8 => ?_⟩
    have T8 := same_upd (o := .lst [V.bl (decide (k = 24)), V.bl (decide (k = 25)), V.bl (decide (k = 26))]) S8 hm8
    refine ⟨p7, m8, _, _, rfl, rfl, (by rw [upd_ne (ne_of_none (upd_same (o := .lst (([V.bl (decide (k = 0)), V.bl (decide (k = 1)), V.bl (decide (k = 2)), V.bl (decide (k = 3)), V.bl (decide (k = 4)), V.bl (decide (k = 5)), V.bl (decide (k = 6)), V.bl (decide (k = 7)), V.bl (decide (k = 8)), V.bl (decide (k = 9)), V.bl (decide (k = 10)), V.bl (decide (k = 11)), V.bl (decide (k = 12)), V.bl (decide (k = 13)), V.bl (decide (k = 14)), V.bl (decide (k = 15)), V.bl (decide (k = 16)), V.bl (decide (k = 17)), V.bl (decide (k = 18)), V.bl (decide (k = 19)), V.bl (decide (k = 20))] : List V) ++ [V.bl (decide (k = 21)), V.bl (decide (k = 22)), V.bl (decide (k = 23))]))) hm8)]; exact (upd_same (o := .lst (([V.bl (decide (k = 0)), V.bl (decide (k = 1)), V.bl (decide (k = 2)), V.bl (decide (k = 3)), V.bl (decide (k = 4)), V.bl (decide (k = 5)), V.bl (decide (k = 6)), V.bl (decide (k = 7)), V.bl (decide (k = 8)), V.bl (decide (k = 9)), V.bl (decide (k = 10)), V.bl (decide (k = 11)), V.bl (decide (k = 12)), V.bl (decide (k = 13)), V.bl (decide (k = 14)), V.bl (decide (k = 15)), V.bl (decide (k = 16)), V.bl (decide (k = 17)), V.bl (decide (k = 18)), V.bl (decide (k = 19)), V.bl (decide (k = 20))] : List V) ++ [V.bl (decide (k = 21)), V.bl (decide (k = 22)), V.bl (decide (k = 23))])))), upd_same, (by show 27 ≤ sizeLine; decide), fun p8 hp8 => ?_⟩
    have S9 := same_upd (o := .lst (([V.bl (decide (k = 0)), V.bl (decide (k = 1)), V.bl (decide (k = 2)), V.bl (decide (k = 3)), V.bl (decide (k = 4)), V.bl (decide (k = 5)), V.bl (decide (k = 6)), V.bl (decide (k = 7)), V.bl (decide (k = 8)), V.bl (decide (k = 9)), V.bl (decide (k = 10)), V.bl (decide (k = 11)), V.bl (decide (k = 12)), V.bl (decide (k = 13)), V.bl (decide (k = 14)), V.bl (decide (k = 15)), V.bl (decide (k = 16)), V.bl (decide (k = 17)), V.bl (decide (k = 18)), V.bl (decide (k = 19)), V.bl (decide (k = 20)), V.bl (decide (k = 21)), V.bl (decide (k = 22)), V.bl (decide (k = 23))] : List V) ++ [V.bl (decide (k = 24)), V.bl (decide (k = 25)), V.bl (decide (k = 26))])) T8 hp8
    refine ⟨_, rfl, ?_⟩
    exact kk _ _ S9 upd_same
end
section
variable {P : Program} {w : World} {K : PySem.W.Frag} {mg : Str → Option Value} {base : Heap}
abbrev s_law : Stmt := top 37
theorem sc_law : FnScope ["_law_script", "_law_pool_here", "_law_k", "_law_number", "_law_several", "_law_word", "_law_error", "_law_told", "_law_due", "_law_at"] ["_law_script"] (defScope s_law) := ⟨rfl, rfl, rfl, by decide +kernel, rfl, by decide +kernel, by decide +kernel⟩
def spLaw (K : PySem.W.Frag) : Sp := fun vs H Q _ => ∃ (a : Addr) (ns : List Int), vs = [.ref a] ∧ Scr K H a ns ∧ ∀ H', Q (.bl true) H'
theorem mem_words {xs : List V} {i : Int} {v : V} (h : atI xs i = some v) : v ∈ xs := by
  obtain ⟨j, _, e, _⟩ := atI_get h
  exact List.mem_of_getElem? e
theorem kinds_ok (k : Nat) : ((List.range 27).map fun j => V.bl (decide (k = j))).all okV = true := by
  rw [List.all_eq_true]
  intro v h
  obtain ⟨j, _, rfl⟩ := List.mem_map.mp h
  rfl
theorem dec_sym (k j : Nat) : decide (V.int (0 + (j : Int)) = V.int (k : Int)) = decide (k = j) := by
  rw [Bool.eq_iff_iff]
  simp only [decide_eq_true_eq, V.int.injEq]
  omega
theorem ok_law {f : Addr} {fd : FuncData} (F : FunD K "law" "law" (defArgs s_law) (defBody s_law) (defScope s_law) [] [] f fd) (T : Txt K mg)
    (d1 : Okd P w K mg base CX0 1 (He.ga K "_law_pool") ["_law_script"] (spPool K)) (d2 : Okd P w K mg base CX0 1 (He.ga K "_law_draw") ["_law_pool_here", "_law_limit"] (spDraw K))
    (d3 : Okd P w K mg base CX0 4 (He.ga K "_law_made") ["_law_k", "_law_number", "_law_several", "_law_word"] (spMade K 0 27)) (d4 : Okd P w K mg base CX0 1 (He.ga K "_law_kinds") ["_law_e"] (spKinds K)) : FnOk P w K mg base CX0 5 f fd ["_law_script"] (spLaw K) := by
  obtain ⟨fd_pool, G_pool, b_pool⟩ := d1
  obtain ⟨fd_draw, G_draw, b_draw⟩ := d2
  obtain ⟨fd_made, G_made, b_made⟩ := d3
  obtain ⟨fd_kinds, G_kinds, b_kinds⟩ := d4
  refine F.ok sc_law (fun vs H Q E h => ?_) (fun cdv A outer s H vs Q E hr h => ?_)
  · obtain ⟨a, ns, rfl, _⟩ := h
    rfl
  · obtain ⟨a, ns, rfl, hS, kk⟩ := h
    refine ⟨_, PSs.nox (pss_cons (ps_set (i := 1) sc_law.nd rfl (Or.inr rfl) (pe_call G_pool (hr.mono (by decide)) (by rfl) T.g__law_pool T.k__law_pool b_pool .nil pass0 (pa_cons (pv 0) pa_nil)))
    (pss_cons (ps_for PassesOwn.never rfl (pi_range1 rfl T.n_range (pa_cons pe_int pa_nil)) (pg_name (i := 2) sc_law.nd rfl (Or.inr rfl))
      (pss_cons (ps_set (i := 3) sc_law.nd rfl (Or.inl rfl) (pe_op op_add (pe_op op_sub (pe_call G_draw (hr.mono (by decide)) (by rfl) T.g__law_draw T.k__law_draw b_draw .nil pass0 (pa_cons (pv 1) (pa_cons (pe_op op_sub (pe_op op_mul pe_int (pe_op op_pow pe_int pe_int)) pe_int) pa_nil))) (pe_op op_pow pe_int pe_int)) pe_int))
    (pss_cons (ps_set (i := 4) sc_law.nd rfl (Or.inl rfl) (pe_callTy call_tuple_of (by rfl) T.n_tuple (by decide +kernel) (pa_cons (pe_lc (own := [("_law_at", 9)]) (g := gName 9) (tt := tYes) rfl sc_law.nd (pi_range1 rfl T.n_range (pa_cons (pe_call G_draw (hr.mono (by decide)) (by rfl) T.g__law_draw T.k__law_draw b_draw .nil pass0 (pa_cons (pv 1) (pa_cons pe_int pa_nil))) pa_nil)) (blkOk_by (own := [("_law_at", 9)]) (N := ["_law_script", "_law_pool_here", "_law_k", "_law_number", "_law_several", "_law_word", "_law_error", "_law_told", "_law_due", "_law_at"]) (sc := defScope s_law) (by decide +kernel)) (fun _ _ _ _ _ => (pg_name (i := 9) sc_law.nd rfl (Or.inl rfl))) (fun _ _ _ _ _ => pts_nil) (fun _ _ _ _ _ => (pe_call G_draw (hr.mono (by decide)) (by rfl) T.g__law_draw T.k__law_draw b_draw .nil pass0 (pa_cons (pv 1) (pa_cons (pe_op op_pow pe_int pe_int) pa_nil))))) pa_nil)))
    (pss_cons (ps_set (i := 5) sc_law.nd rfl (Or.inl rfl) (pe_ix ix_list (pe_lst (pa_cons pe_str (pa_cons pe_str (pa_cons pe_str (pa_cons pe_str (pa_cons pe_str (pa_cons pe_str pa_nil))))))) (pe_call G_draw (hr.mono (by decide)) (by rfl) T.g__law_draw T.k__law_draw b_draw .nil pass0 (pa_cons (pv 1) (pa_cons pe_int pa_nil))) (fun _ _ => rfl)))
    (pss_cons (ps_asg (pe_call G_made (hr.mono (by decide)) (by rfl) T.g__law_made T.k__law_made b_made .nil pass0 (pa_cons (pv 2) (pa_cons (pv 3) (pa_cons (pv 4) (pa_cons (pv 5) pa_nil))))) (pg_tup rfl (pgs_cons (pg_name (i := 6) sc_law.nd rfl (Or.inl rfl)) (pgs_cons (pg_name (i := 7) sc_law.nd rfl (Or.inl rfl)) (pgs_cons (pg_name (i := 8) sc_law.nd rfl (Or.inl rfl)) pgs_nil)))))
    (pss_cons (ps_if (PW.pt (pw_or (pt_cmpR (op_neD hr.units) (pv 7) (pv 8) (nomark _)) (pw_or (pt_not (pt_val (pe_callB call_isV (by rfl) T.n_isinstance (by decide +kernel) (pa_cons (pv 6) (pa_cons (pe_glob (v := .ref (He.ga K "SeatError")) rfl T.g_SeatError rfl) pa_nil))))) (pw_or1 (pt_not (pt_val (pe_callB call_isV (by rfl) T.n_isinstance (by decide +kernel) (pa_cons (pv 6) (pa_cons (pe_bltn (v := .ty "ValueError") (by rfl) T.n_ValueError (by decide +kernel) rfl) pa_nil))))))))) (pss_one (ps_ret pe_bl)) pss_nil)
    (pss_one (ps_if (pt_cmpR (op_neD hr.units) (pe_call G_kinds (hr.mono (by decide)) (by rfl) T.g__law_kinds T.k__law_kinds b_kinds .nil pass0 (pa_cons (pv 6) pa_nil)) (pe_lc (own := [("_law_at", 9)]) (g := gName 9) (tt := tYes) rfl sc_law.nd (pi_range1 rfl T.n_range (pa_cons pe_int pa_nil)) (blkOk_by (own := [("_law_at", 9)]) (N := ["_law_script", "_law_pool_here", "_law_k", "_law_number", "_law_several", "_law_word", "_law_error", "_law_told", "_law_due", "_law_at"]) (sc := defScope s_law) (by decide +kernel)) (fun _ _ _ _ _ => (pg_name (i := 9) sc_law.nd rfl (Or.inl rfl))) (fun _ _ _ _ _ => pts_nil) (fun _ _ _ _ _ => (pe_cmpR op_eq (pv 9) (pv 2) (nomark _)))) (nomark _)) (pss_one (ps_ret pe_bl)) pss_nil))))))))
    (pss_one (ps_ret pe_bl)))), ?_⟩
    refine ⟨_, rfl, a, ns, rfl, hS, fun H0 p np P0 _ => ?_⟩
    refine ⟨27, rfl, by decide, by decide, for_range (n := 27) (fun i σ H' => ∃ c2 c3 c4 c5 c6 c7 c8 c9 : Option V, σ = [some (.ref a), some (.ref p), c2, c3, c4, c5, c6, c7, c8, c9] ∧ PoolAt K H' p (1000 - 6 * i))
      ⟨none, none, none, none, none, none, none, none, rfl, P0.less (by decide)⟩ ?_ ?_⟩
    · rintro i σ H1 hi ⟨c2, c3, c4, c5, c6, c7, c8, c9, rfl, P1⟩
      rw [Int.zero_add]
      -- number
      refine ⟨_, rfl, _, _, rfl, rfl, ⟨by decide, by decide, by decide⟩, _, _, rfl, rfl, .inl ⟨by decide, by decide⟩, _, _, rfl, rfl, ?_⟩
      refine ⟨p, 999 - 6 * i, _, rfl, P1.less (by omega), by decide, by decide, fun H2 d2 _ _ P2 B2 => ?_⟩
      refine ⟨_, _, rfl, rfl, ⟨by decide, by decide, by decide⟩, _, _, rfl, rfl, _, _, rfl, rfl, ?_⟩
      -- several
      refine ⟨_, rfl, p, 998 - 6 * i, _, rfl, P2.less (by omega), by decide, by decide, fun H3 d3 d30 d31 P3 B3 => ?_⟩
      refine ⟨d3, rfl, by omega, by omega, fun D hD => ?_⟩
      refine lc_range (n := d3.toNat) (fun j H' => ∃ ds : List Int, H' D = some (.lst (ds.map V.int)) ∧ ds.length = j ∧ D ≠ p ∧ PoolAt K H' p (998 - 6 * i - j)) ?_ ?_ ?_
      · exact ⟨[], upd_same, rfl, P3.ne_new hD, (P3.new hD).less (by omega)⟩
      · rintro j H4 hj ⟨ds, hD4, hl, ne, P4⟩
        refine ⟨rfl, _, rfl, _, _, rfl, rfl, ⟨by decide, by decide, by decide⟩, ?_⟩
        refine ⟨p, 997 - 6 * i - j, _, rfl, P4.less (by omega), by decide, by decide, fun H5 d5 _ _ P5 B5 => ?_⟩
        have hD5 : H5 D = some (.lst (ds.map V.int)) := by rw [B5.1 D ne]; exact hD4
        exact ⟨_, hD5, by rw [List.length_map, hl]; exact Nat.lt_of_lt_of_le (show j < 1000 by omega) (by decide), ds ++ [d5], by rw [upd_same, List.map_append]; rfl, by rw [List.length_append, hl]; rfl, ne, (P5.set hD5 ne).less (by omega)⟩
      · rintro H4 ⟨ds, hD4, hl, ne, P4⟩
        refine ⟨D, _, rfl, .inl ⟨SqL.of hD4, fun tt ht => ?_⟩⟩
        have P5 := (P4.new (x := .tup (ds.map V.int)) ht).less (c := 995 - 6 * i) (by omega)
        have net := P4.ne_new ht
        -- word
        refine ⟨(by show 6 ≤ sizeLine; decide), fun lw hw => ?_⟩
        have new_lw := P5.ne_new hw
        refine ⟨_, rfl, p, 994 - 6 * i, _, rfl, (P5.new hw).less (by omega), by decide, by decide, fun H6 d6 d60 d61 P6 B6 => ?_⟩
        have hw6 := B6.1 lw new_lw
        rw [upd_same] at hw6
        obtain ⟨v, hv, hm⟩ := ix_there (xs := [V.str "save", .str "give", .str "a", .str "seat", .str "", .str "use"]) (i := d6) d60 d61
        obtain ⟨z, rfl, hz⟩ : ∃ z, v = V.str z ∧ PyData.strOk z = true := by
          simp only [List.mem_cons, List.not_mem_nil, or_false] at hm
          rcases hm with rfl | rfl | rfl | rfl | rfl | rfl <;> exact ⟨_, rfl, by decide +kernel⟩
        refine ⟨lw, _, _, _, rfl, rfl, SqL.of hw6, hv, ?_⟩
        have ht6 : H6 tt = some (.tup (ds.map V.int)) := by
          have nl : tt ≠ lw := ne_of_none (upd_same (o := .tup (ds.map V.int))) hw
          rw [B6.1 tt net, upd_ne nl, upd_same]
        -- made
        refine ⟨_, rfl, _, rfl, _, rfl, _, rfl, i, _, tt, ds, z, rfl, by omega, by omega, fun H7 q e v s7 hq xv hq7 hv7 => ?_⟩
        have P7 := P6.same s7
        refine ⟨q, _, rfl, SqT.of hq7, rfl, _, _, rfl, _, _, rfl, _, _, rfl, rfl, ?_⟩
        have ht7 := s7 _ _ ht6
        obtain ⟨D7, dp7, sh7⟩ : ∃ D7, Dp K H7 v D7 ∧ SeqAt.shaped D7 = true := by
          rcases hv7 with rfl | rfl | rfl | rfl
          · exact ⟨_, .int 0, rfl⟩
          · exact ⟨_, .int _, shaped_flat (v := .int _) rfl⟩
          · exact ⟨_, .str z, shaped_flat (v := .str z) hz⟩
          · have ok : (ds.map V.int).all okV = true := by
              rw [List.all_eq_true]
              intro y hy
              obtain ⟨_, _, rfl⟩ := List.mem_map.mp hy
              rfl
            exact ⟨_, .tup (SqT.of ht7) (dp_all ok), shaped_tup ok⟩
        -- the attribute, the two bases
        refine ⟨_, rfl, _, rfl, D7, D7, dp7, dp7, sh7, sh7, _, rfl, ?_⟩
        rw [eqv_self sh7]
        refine iteF ?_
        refine ⟨_, rfl, e, cl K i, .ref (He.ga K "SeatError"), _, true, rfl, .own _, xv, T.err i hi, T.kitS i hi, _, rfl, ?_⟩
        refine iteF ?_
        refine ⟨_, rfl, e, cl K i, .ty "ValueError", _, true, rfl, .ty _, xv, T.err i hi, T.kitV i hi, _, rfl, ?_⟩
        refine iteF ?_
        -- the kinds
        refine ⟨_, rfl, e, i, rfl, hi, xv, fun H8 q8 s8 hq8 => ?_⟩
        refine ⟨27, rfl, by decide, by decide, fun D9 hD9 => ?_⟩
        refine lc_range (n := 27) (fun j H' => Same H8 H' ∧ H' D9 = some (.lst ((List.range j).map fun j => V.bl (decide (i = j))))) ?_ ?_ ?_
        · exact ⟨same_upd (Same.refl _) hD9, upd_same⟩
        · rintro j H9 hj ⟨s9, h9⟩
          refine ⟨rfl, _, rfl, _, rfl, rfl, _, h9, by rw [List.length_map, List.length_range]; exact Nat.lt_trans hj (by decide), ?_, ?_⟩
          · intro b u eb
            rw [upd_ne (ne_of_none eb hD9)]
            exact s9 b u eb
          · rw [upd_same, List.range_succ, List.map_append, dec_sym]
            rfl
        · rintro H9 ⟨s9, h9⟩
          refine ⟨_, _, .lst (SqL.of (s9 _ _ hq8)) (dp_all (kinds_ok i)), .lst (SqL.of h9) (dp_all (kinds_ok i)), shaped_lst (kinds_ok i), shaped_lst (kinds_ok i), _, rfl, ?_⟩
          rw [eqv_self (shaped_lst (kinds_ok i))]
          refine iteF ?_
          exact ⟨_, _, _, _, _, _, _, _, rfl, ((P7.same s8).same s9).less (by omega)⟩
    · rintro σ H1 ⟨c2, c3, c4, c5, c6, c7, c8, c9, rfl, P1⟩
      exact kk _
end
section
variable {P : Program} {w : World} {K : PySem.W.Frag} {mg : Str → Option Value} {base : Heap}
abbrev s_BadPlaces_init : Stmt := inClass (top 2) 0
theorem sc_BadPlaces_init : FnScope ["self", "count"] ["self", "count"] (defScope s_BadPlaces_init) := ⟨rfl, rfl, rfl, by decide +kernel, rfl, by decide +kernel, by decide +kernel⟩
theorem ok_BadPlaces_init {fd : FuncData} (F : FunD K "__init__" "BadPlaces.__init__" (defArgs s_BadPlaces_init) (defBody s_BadPlaces_init) (defScope s_BadPlaces_init) [] [] (He.ma K (He.ga K "BadPlaces") "__init__") fd) (T : OexC K (He.ga K "BadPlaces")) (no : PySem.W.findIn K (.ref (He.ga K "BadPlaces")) "count" = some none) :
    FnOk P w K mg base CX0 1 (He.ma K (He.ga K "BadPlaces") "__init__") fd (["self", "count"] : List Str) (spInit (He.ga K "BadPlaces") "count") := by
  refine F.ok sc_BadPlaces_init (fun vs H Q E h => ?_) (fun cdv A outer s H vs Q E hr h => ?_)
  · obtain ⟨a, v, rfl, _⟩ := h
    rfl
  · obtain ⟨a, v, rfl, ha, k⟩ := h
    refine ⟨_, pss_one (ps_ost (pv 0) (pv 1)), ?_⟩
    exact ⟨_, rfl, _, rfl, a, He.ga K "BadPlaces", rfl, T, no, .inl ⟨ha, fun dx n ne => k dx n ne⟩⟩
abbrev s_BadEdges_init : Stmt := inClass (top 3) 0
theorem sc_BadEdges_init : FnScope ["self", "count"] ["self", "count"] (defScope s_BadEdges_init) := ⟨rfl, rfl, rfl, by decide +kernel, rfl, by decide +kernel, by decide +kernel⟩
theorem ok_BadEdges_init {fd : FuncData} (F : FunD K "__init__" "BadEdges.__init__" (defArgs s_BadEdges_init) (defBody s_BadEdges_init) (defScope s_BadEdges_init) [] [] (He.ma K (He.ga K "BadEdges") "__init__") fd) (T : OexC K (He.ga K "BadEdges")) (no : PySem.W.findIn K (.ref (He.ga K "BadEdges")) "count" = some none) :
    FnOk P w K mg base CX0 1 (He.ma K (He.ga K "BadEdges") "__init__") fd (["self", "count"] : List Str) (spInit (He.ga K "BadEdges") "count") := by
  refine F.ok sc_BadEdges_init (fun vs H Q E h => ?_) (fun cdv A outer s H vs Q E hr h => ?_)
  · obtain ⟨a, v, rfl, _⟩ := h
    rfl
  · obtain ⟨a, v, rfl, ha, k⟩ := h
    refine ⟨_, pss_one (ps_ost (pv 0) (pv 1)), ?_⟩
    exact ⟨_, rfl, _, rfl, a, He.ga K "BadEdges", rfl, T, no, .inl ⟨ha, fun dx n ne => k dx n ne⟩⟩
abbrev s_BadEdge_init : Stmt := inClass (top 4) 0
theorem sc_BadEdge_init : FnScope ["self", "index"] ["self", "index"] (defScope s_BadEdge_init) := ⟨rfl, rfl, rfl, by decide +kernel, rfl, by decide +kernel, by decide +kernel⟩
theorem ok_BadEdge_init {fd : FuncData} (F : FunD K "__init__" "BadEdge.__init__" (defArgs s_BadEdge_init) (defBody s_BadEdge_init) (defScope s_BadEdge_init) [] [] (He.ma K (He.ga K "BadEdge") "__init__") fd) (T : OexC K (He.ga K "BadEdge")) (no : PySem.W.findIn K (.ref (He.ga K "BadEdge")) "index" = some none) :
    FnOk P w K mg base CX0 1 (He.ma K (He.ga K "BadEdge") "__init__") fd (["self", "index"] : List Str) (spInit (He.ga K "BadEdge") "index") := by
  refine F.ok sc_BadEdge_init (fun vs H Q E h => ?_) (fun cdv A outer s H vs Q E hr h => ?_)
  · obtain ⟨a, v, rfl, _⟩ := h
    rfl
  · obtain ⟨a, v, rfl, ha, k⟩ := h
    refine ⟨_, pss_one (ps_ost (pv 0) (pv 1)), ?_⟩
    exact ⟨_, rfl, _, rfl, a, He.ga K "BadEdge", rfl, T, no, .inl ⟨ha, fun dx n ne => k dx n ne⟩⟩
abbrev s_BadEntry_init : Stmt := inClass (top 5) 0
theorem sc_BadEntry_init : FnScope ["self", "place"] ["self", "place"] (defScope s_BadEntry_init) := ⟨rfl, rfl, rfl, by decide +kernel, rfl, by decide +kernel, by decide +kernel⟩
theorem ok_BadEntry_init {fd : FuncData} (F : FunD K "__init__" "BadEntry.__init__" (defArgs s_BadEntry_init) (defBody s_BadEntry_init) (defScope s_BadEntry_init) [] [] (He.ma K (He.ga K "BadEntry") "__init__") fd) (T : OexC K (He.ga K "BadEntry")) (no : PySem.W.findIn K (.ref (He.ga K "BadEntry")) "place" = some none) :
    FnOk P w K mg base CX0 1 (He.ma K (He.ga K "BadEntry") "__init__") fd (["self", "place"] : List Str) (spInit (He.ga K "BadEntry") "place") := by
  refine F.ok sc_BadEntry_init (fun vs H Q E h => ?_) (fun cdv A outer s H vs Q E hr h => ?_)
  · obtain ⟨a, v, rfl, _⟩ := h
    rfl
  · obtain ⟨a, v, rfl, ha, k⟩ := h
    refine ⟨_, pss_one (ps_ost (pv 0) (pv 1)), ?_⟩
    exact ⟨_, rfl, _, rfl, a, He.ga K "BadEntry", rfl, T, no, .inl ⟨ha, fun dx n ne => k dx n ne⟩⟩
abbrev s_BadExit_init : Stmt := inClass (top 7) 0
theorem sc_BadExit_init : FnScope ["self", "place"] ["self", "place"] (defScope s_BadExit_init) := ⟨rfl, rfl, rfl, by decide +kernel, rfl, by decide +kernel, by decide +kernel⟩
theorem ok_BadExit_init {fd : FuncData} (F : FunD K "__init__" "BadExit.__init__" (defArgs s_BadExit_init) (defBody s_BadExit_init) (defScope s_BadExit_init) [] [] (He.ma K (He.ga K "BadExit") "__init__") fd) (T : OexC K (He.ga K "BadExit")) (no : PySem.W.findIn K (.ref (He.ga K "BadExit")) "place" = some none) :
    FnOk P w K mg base CX0 1 (He.ma K (He.ga K "BadExit") "__init__") fd (["self", "place"] : List Str) (spInit (He.ga K "BadExit") "place") := by
  refine F.ok sc_BadExit_init (fun vs H Q E h => ?_) (fun cdv A outer s H vs Q E hr h => ?_)
  · obtain ⟨a, v, rfl, _⟩ := h
    rfl
  · obtain ⟨a, v, rfl, ha, k⟩ := h
    refine ⟨_, pss_one (ps_ost (pv 0) (pv 1)), ?_⟩
    exact ⟨_, rfl, _, rfl, a, He.ga K "BadExit", rfl, T, no, .inl ⟨ha, fun dx n ne => k dx n ne⟩⟩
abbrev s_Idle_init : Stmt := inClass (top 8) 0
theorem sc_Idle_init : FnScope ["self", "place"] ["self", "place"] (defScope s_Idle_init) := ⟨rfl, rfl, rfl, by decide +kernel, rfl, by decide +kernel, by decide +kernel⟩
theorem ok_Idle_init {fd : FuncData} (F : FunD K "__init__" "Idle.__init__" (defArgs s_Idle_init) (defBody s_Idle_init) (defScope s_Idle_init) [] [] (He.ma K (He.ga K "Idle") "__init__") fd) (T : OexC K (He.ga K "Idle")) (no : PySem.W.findIn K (.ref (He.ga K "Idle")) "place" = some none) :
    FnOk P w K mg base CX0 1 (He.ma K (He.ga K "Idle") "__init__") fd (["self", "place"] : List Str) (spInit (He.ga K "Idle") "place") := by
  refine F.ok sc_Idle_init (fun vs H Q E h => ?_) (fun cdv A outer s H vs Q E hr h => ?_)
  · obtain ⟨a, v, rfl, _⟩ := h
    rfl
  · obtain ⟨a, v, rfl, ha, k⟩ := h
    refine ⟨_, pss_one (ps_ost (pv 0) (pv 1)), ?_⟩
    exact ⟨_, rfl, _, rfl, a, He.ga K "Idle", rfl, T, no, .inl ⟨ha, fun dx n ne => k dx n ne⟩⟩
abbrev s_NoGate_init : Stmt := inClass (top 9) 0
theorem sc_NoGate_init : FnScope ["self", "number"] ["self", "number"] (defScope s_NoGate_init) := ⟨rfl, rfl, rfl, by decide +kernel, rfl, by decide +kernel, by decide +kernel⟩
theorem ok_NoGate_init {fd : FuncData} (F : FunD K "__init__" "NoGate.__init__" (defArgs s_NoGate_init) (defBody s_NoGate_init) (defScope s_NoGate_init) [] [] (He.ma K (He.ga K "NoGate") "__init__") fd) (T : OexC K (He.ga K "NoGate")) (no : PySem.W.findIn K (.ref (He.ga K "NoGate")) "number" = some none) :
    FnOk P w K mg base CX0 1 (He.ma K (He.ga K "NoGate") "__init__") fd (["self", "number"] : List Str) (spInit (He.ga K "NoGate") "number") := by
  refine F.ok sc_NoGate_init (fun vs H Q E h => ?_) (fun cdv A outer s H vs Q E hr h => ?_)
  · obtain ⟨a, v, rfl, _⟩ := h
    rfl
  · obtain ⟨a, v, rfl, ha, k⟩ := h
    refine ⟨_, pss_one (ps_ost (pv 0) (pv 1)), ?_⟩
    exact ⟨_, rfl, _, rfl, a, He.ga K "NoGate", rfl, T, no, .inl ⟨ha, fun dx n ne => k dx n ne⟩⟩
abbrev s_BadWay_init : Stmt := inClass (top 10) 0
theorem sc_BadWay_init : FnScope ["self", "index"] ["self", "index"] (defScope s_BadWay_init) := ⟨rfl, rfl, rfl, by decide +kernel, rfl, by decide +kernel, by decide +kernel⟩
theorem ok_BadWay_init {fd : FuncData} (F : FunD K "__init__" "BadWay.__init__" (defArgs s_BadWay_init) (defBody s_BadWay_init) (defScope s_BadWay_init) [] [] (He.ma K (He.ga K "BadWay") "__init__") fd) (T : OexC K (He.ga K "BadWay")) (no : PySem.W.findIn K (.ref (He.ga K "BadWay")) "index" = some none) :
    FnOk P w K mg base CX0 1 (He.ma K (He.ga K "BadWay") "__init__") fd (["self", "index"] : List Str) (spInit (He.ga K "BadWay") "index") := by
  refine F.ok sc_BadWay_init (fun vs H Q E h => ?_) (fun cdv A outer s H vs Q E hr h => ?_)
  · obtain ⟨a, v, rfl, _⟩ := h
    rfl
  · obtain ⟨a, v, rfl, ha, k⟩ := h
    refine ⟨_, pss_one (ps_ost (pv 0) (pv 1)), ?_⟩
    exact ⟨_, rfl, _, rfl, a, He.ga K "BadWay", rfl, T, no, .inl ⟨ha, fun dx n ne => k dx n ne⟩⟩
abbrev s_NotWhole_init : Stmt := inClass (top 11) 0
theorem sc_NotWhole_init : FnScope ["self", "place"] ["self", "place"] (defScope s_NotWhole_init) := ⟨rfl, rfl, rfl, by decide +kernel, rfl, by decide +kernel, by decide +kernel⟩
theorem ok_NotWhole_init {fd : FuncData} (F : FunD K "__init__" "NotWhole.__init__" (defArgs s_NotWhole_init) (defBody s_NotWhole_init) (defScope s_NotWhole_init) [] [] (He.ma K (He.ga K "NotWhole") "__init__") fd) (T : OexC K (He.ga K "NotWhole")) (no : PySem.W.findIn K (.ref (He.ga K "NotWhole")) "place" = some none) :
    FnOk P w K mg base CX0 1 (He.ma K (He.ga K "NotWhole") "__init__") fd (["self", "place"] : List Str) (spInit (He.ga K "NotWhole") "place") := by
  refine F.ok sc_NotWhole_init (fun vs H Q E h => ?_) (fun cdv A outer s H vs Q E hr h => ?_)
  · obtain ⟨a, v, rfl, _⟩ := h
    rfl
  · obtain ⟨a, v, rfl, ha, k⟩ := h
    refine ⟨_, pss_one (ps_ost (pv 0) (pv 1)), ?_⟩
    exact ⟨_, rfl, _, rfl, a, He.ga K "NotWhole", rfl, T, no, .inl ⟨ha, fun dx n ne => k dx n ne⟩⟩
abbrev s_BadPlace_init : Stmt := inClass (top 12) 0
theorem sc_BadPlace_init : FnScope ["self", "number"] ["self", "number"] (defScope s_BadPlace_init) := ⟨rfl, rfl, rfl, by decide +kernel, rfl, by decide +kernel, by decide +kernel⟩
theorem ok_BadPlace_init {fd : FuncData} (F : FunD K "__init__" "BadPlace.__init__" (defArgs s_BadPlace_init) (defBody s_BadPlace_init) (defScope s_BadPlace_init) [] [] (He.ma K (He.ga K "BadPlace") "__init__") fd) (T : OexC K (He.ga K "BadPlace")) (no : PySem.W.findIn K (.ref (He.ga K "BadPlace")) "number" = some none) :
    FnOk P w K mg base CX0 1 (He.ma K (He.ga K "BadPlace") "__init__") fd (["self", "number"] : List Str) (spInit (He.ga K "BadPlace") "number") := by
  refine F.ok sc_BadPlace_init (fun vs H Q E h => ?_) (fun cdv A outer s H vs Q E hr h => ?_)
  · obtain ⟨a, v, rfl, _⟩ := h
    rfl
  · obtain ⟨a, v, rfl, ha, k⟩ := h
    refine ⟨_, pss_one (ps_ost (pv 0) (pv 1)), ?_⟩
    exact ⟨_, rfl, _, rfl, a, He.ga K "BadPlace", rfl, T, no, .inl ⟨ha, fun dx n ne => k dx n ne⟩⟩
abbrev s_BadMark_init : Stmt := inClass (top 13) 0
theorem sc_BadMark_init : FnScope ["self", "number"] ["self", "number"] (defScope s_BadMark_init) := ⟨rfl, rfl, rfl, by decide +kernel, rfl, by decide +kernel, by decide +kernel⟩
theorem ok_BadMark_init {fd : FuncData} (F : FunD K "__init__" "BadMark.__init__" (defArgs s_BadMark_init) (defBody s_BadMark_init) (defScope s_BadMark_init) [] [] (He.ma K (He.ga K "BadMark") "__init__") fd) (T : OexC K (He.ga K "BadMark")) (no : PySem.W.findIn K (.ref (He.ga K "BadMark")) "number" = some none) :
    FnOk P w K mg base CX0 1 (He.ma K (He.ga K "BadMark") "__init__") fd (["self", "number"] : List Str) (spInit (He.ga K "BadMark") "number") := by
  refine F.ok sc_BadMark_init (fun vs H Q E h => ?_) (fun cdv A outer s H vs Q E hr h => ?_)
  · obtain ⟨a, v, rfl, _⟩ := h
    rfl
  · obtain ⟨a, v, rfl, ha, k⟩ := h
    refine ⟨_, pss_one (ps_ost (pv 0) (pv 1)), ?_⟩
    exact ⟨_, rfl, _, rfl, a, He.ga K "BadMark", rfl, T, no, .inl ⟨ha, fun dx n ne => k dx n ne⟩⟩
abbrev s_TwoMarks_init : Stmt := inClass (top 14) 0
theorem sc_TwoMarks_init : FnScope ["self", "number"] ["self", "number"] (defScope s_TwoMarks_init) := ⟨rfl, rfl, rfl, by decide +kernel, rfl, by decide +kernel, by decide +kernel⟩
theorem ok_TwoMarks_init {fd : FuncData} (F : FunD K "__init__" "TwoMarks.__init__" (defArgs s_TwoMarks_init) (defBody s_TwoMarks_init) (defScope s_TwoMarks_init) [] [] (He.ma K (He.ga K "TwoMarks") "__init__") fd) (T : OexC K (He.ga K "TwoMarks")) (no : PySem.W.findIn K (.ref (He.ga K "TwoMarks")) "number" = some none) :
    FnOk P w K mg base CX0 1 (He.ma K (He.ga K "TwoMarks") "__init__") fd (["self", "number"] : List Str) (spInit (He.ga K "TwoMarks") "number") := by
  refine F.ok sc_TwoMarks_init (fun vs H Q E h => ?_) (fun cdv A outer s H vs Q E hr h => ?_)
  · obtain ⟨a, v, rfl, _⟩ := h
    rfl
  · obtain ⟨a, v, rfl, ha, k⟩ := h
    refine ⟨_, pss_one (ps_ost (pv 0) (pv 1)), ?_⟩
    exact ⟨_, rfl, _, rfl, a, He.ga K "TwoMarks", rfl, T, no, .inl ⟨ha, fun dx n ne => k dx n ne⟩⟩
abbrev s_BadLength_init : Stmt := inClass (top 15) 0
theorem sc_BadLength_init : FnScope ["self", "count"] ["self", "count"] (defScope s_BadLength_init) := ⟨rfl, rfl, rfl, by decide +kernel, rfl, by decide +kernel, by decide +kernel⟩
theorem ok_BadLength_init {fd : FuncData} (F : FunD K "__init__" "BadLength.__init__" (defArgs s_BadLength_init) (defBody s_BadLength_init) (defScope s_BadLength_init) [] [] (He.ma K (He.ga K "BadLength") "__init__") fd) (T : OexC K (He.ga K "BadLength")) (no : PySem.W.findIn K (.ref (He.ga K "BadLength")) "count" = some none) :
    FnOk P w K mg base CX0 1 (He.ma K (He.ga K "BadLength") "__init__") fd (["self", "count"] : List Str) (spInit (He.ga K "BadLength") "count") := by
  refine F.ok sc_BadLength_init (fun vs H Q E h => ?_) (fun cdv A outer s H vs Q E hr h => ?_)
  · obtain ⟨a, v, rfl, _⟩ := h
    rfl
  · obtain ⟨a, v, rfl, ha, k⟩ := h
    refine ⟨_, pss_one (ps_ost (pv 0) (pv 1)), ?_⟩
    exact ⟨_, rfl, _, rfl, a, He.ga K "BadLength", rfl, T, no, .inl ⟨ha, fun dx n ne => k dx n ne⟩⟩
abbrev s_BadPrice_init : Stmt := inClass (top 16) 0
theorem sc_BadPrice_init : FnScope ["self", "gate"] ["self", "gate"] (defScope s_BadPrice_init) := ⟨rfl, rfl, rfl, by decide +kernel, rfl, by decide +kernel, by decide +kernel⟩
theorem ok_BadPrice_init {fd : FuncData} (F : FunD K "__init__" "BadPrice.__init__" (defArgs s_BadPrice_init) (defBody s_BadPrice_init) (defScope s_BadPrice_init) [] [] (He.ma K (He.ga K "BadPrice") "__init__") fd) (T : OexC K (He.ga K "BadPrice")) (no : PySem.W.findIn K (.ref (He.ga K "BadPrice")) "gate" = some none) :
    FnOk P w K mg base CX0 1 (He.ma K (He.ga K "BadPrice") "__init__") fd (["self", "gate"] : List Str) (spInit (He.ga K "BadPrice") "gate") := by
  refine F.ok sc_BadPrice_init (fun vs H Q E h => ?_) (fun cdv A outer s H vs Q E hr h => ?_)
  · obtain ⟨a, v, rfl, _⟩ := h
    rfl
  · obtain ⟨a, v, rfl, ha, k⟩ := h
    refine ⟨_, pss_one (ps_ost (pv 0) (pv 1)), ?_⟩
    exact ⟨_, rfl, _, rfl, a, He.ga K "BadPrice", rfl, T, no, .inl ⟨ha, fun dx n ne => k dx n ne⟩⟩
abbrev s_BadWord_init : Stmt := inClass (top 17) 0
theorem sc_BadWord_init : FnScope ["self", "word"] ["self", "word"] (defScope s_BadWord_init) := ⟨rfl, rfl, rfl, by decide +kernel, rfl, by decide +kernel, by decide +kernel⟩
theorem ok_BadWord_init {fd : FuncData} (F : FunD K "__init__" "BadWord.__init__" (defArgs s_BadWord_init) (defBody s_BadWord_init) (defScope s_BadWord_init) [] [] (He.ma K (He.ga K "BadWord") "__init__") fd) (T : OexC K (He.ga K "BadWord")) (no : PySem.W.findIn K (.ref (He.ga K "BadWord")) "word" = some none) :
    FnOk P w K mg base CX0 1 (He.ma K (He.ga K "BadWord") "__init__") fd (["self", "word"] : List Str) (spInit (He.ga K "BadWord") "word") := by
  refine F.ok sc_BadWord_init (fun vs H Q E h => ?_) (fun cdv A outer s H vs Q E hr h => ?_)
  · obtain ⟨a, v, rfl, _⟩ := h
    rfl
  · obtain ⟨a, v, rfl, ha, k⟩ := h
    refine ⟨_, pss_one (ps_ost (pv 0) (pv 1)), ?_⟩
    exact ⟨_, rfl, _, rfl, a, He.ga K "BadWord", rfl, T, no, .inl ⟨ha, fun dx n ne => k dx n ne⟩⟩
abbrev s_TooMany_init : Stmt := inClass (top 19) 0
theorem sc_TooMany_init : FnScope ["self", "count"] ["self", "count"] (defScope s_TooMany_init) := ⟨rfl, rfl, rfl, by decide +kernel, rfl, by decide +kernel, by decide +kernel⟩
theorem ok_TooMany_init {fd : FuncData} (F : FunD K "__init__" "TooMany.__init__" (defArgs s_TooMany_init) (defBody s_TooMany_init) (defScope s_TooMany_init) [] [] (He.ma K (He.ga K "TooMany") "__init__") fd) (T : OexC K (He.ga K "TooMany")) (no : PySem.W.findIn K (.ref (He.ga K "TooMany")) "count" = some none) :
    FnOk P w K mg base CX0 1 (He.ma K (He.ga K "TooMany") "__init__") fd (["self", "count"] : List Str) (spInit (He.ga K "TooMany") "count") := by
  refine F.ok sc_TooMany_init (fun vs H Q E h => ?_) (fun cdv A outer s H vs Q E hr h => ?_)
  · obtain ⟨a, v, rfl, _⟩ := h
    rfl
  · obtain ⟨a, v, rfl, ha, k⟩ := h
    refine ⟨_, pss_one (ps_ost (pv 0) (pv 1)), ?_⟩
    exact ⟨_, rfl, _, rfl, a, He.ga K "TooMany", rfl, T, no, .inl ⟨ha, fun dx n ne => k dx n ne⟩⟩
abbrev s_Barred_init : Stmt := inClass (top 20) 0
theorem sc_Barred_init : FnScope ["self", "index"] ["self", "index"] (defScope s_Barred_init) := ⟨rfl, rfl, rfl, by decide +kernel, rfl, by decide +kernel, by decide +kernel⟩
theorem ok_Barred_init {fd : FuncData} (F : FunD K "__init__" "Barred.__init__" (defArgs s_Barred_init) (defBody s_Barred_init) (defScope s_Barred_init) [] [] (He.ma K (He.ga K "Barred") "__init__") fd) (T : OexC K (He.ga K "Barred")) (no : PySem.W.findIn K (.ref (He.ga K "Barred")) "index" = some none) :
    FnOk P w K mg base CX0 1 (He.ma K (He.ga K "Barred") "__init__") fd (["self", "index"] : List Str) (spInit (He.ga K "Barred") "index") := by
  refine F.ok sc_Barred_init (fun vs H Q E h => ?_) (fun cdv A outer s H vs Q E hr h => ?_)
  · obtain ⟨a, v, rfl, _⟩ := h
    rfl
  · obtain ⟨a, v, rfl, ha, k⟩ := h
    refine ⟨_, pss_one (ps_ost (pv 0) (pv 1)), ?_⟩
    exact ⟨_, rfl, _, rfl, a, He.ga K "Barred", rfl, T, no, .inl ⟨ha, fun dx n ne => k dx n ne⟩⟩
abbrev s_BadSeats_init : Stmt := inClass (top 21) 0
theorem sc_BadSeats_init : FnScope ["self", "count"] ["self", "count"] (defScope s_BadSeats_init) := ⟨rfl, rfl, rfl, by decide +kernel, rfl, by decide +kernel, by decide +kernel⟩
theorem ok_BadSeats_init {fd : FuncData} (F : FunD K "__init__" "BadSeats.__init__" (defArgs s_BadSeats_init) (defBody s_BadSeats_init) (defScope s_BadSeats_init) [] [] (He.ma K (He.ga K "BadSeats") "__init__") fd) (T : OexC K (He.ga K "BadSeats")) (no : PySem.W.findIn K (.ref (He.ga K "BadSeats")) "count" = some none) :
    FnOk P w K mg base CX0 1 (He.ma K (He.ga K "BadSeats") "__init__") fd (["self", "count"] : List Str) (spInit (He.ga K "BadSeats") "count") := by
  refine F.ok sc_BadSeats_init (fun vs H Q E h => ?_) (fun cdv A outer s H vs Q E hr h => ?_)
  · obtain ⟨a, v, rfl, _⟩ := h
    rfl
  · obtain ⟨a, v, rfl, ha, k⟩ := h
    refine ⟨_, pss_one (ps_ost (pv 0) (pv 1)), ?_⟩
    exact ⟨_, rfl, _, rfl, a, He.ga K "BadSeats", rfl, T, no, .inl ⟨ha, fun dx n ne => k dx n ne⟩⟩
abbrev s_BadName_init : Stmt := inClass (top 22) 0
theorem sc_BadName_init : FnScope ["self", "name"] ["self", "name"] (defScope s_BadName_init) := ⟨rfl, rfl, rfl, by decide +kernel, rfl, by decide +kernel, by decide +kernel⟩
theorem ok_BadName_init {fd : FuncData} (F : FunD K "__init__" "BadName.__init__" (defArgs s_BadName_init) (defBody s_BadName_init) (defScope s_BadName_init) [] [] (He.ma K (He.ga K "BadName") "__init__") fd) (T : OexC K (He.ga K "BadName")) (no : PySem.W.findIn K (.ref (He.ga K "BadName")) "name" = some none) :
    FnOk P w K mg base CX0 1 (He.ma K (He.ga K "BadName") "__init__") fd (["self", "name"] : List Str) (spInit (He.ga K "BadName") "name") := by
  refine F.ok sc_BadName_init (fun vs H Q E h => ?_) (fun cdv A outer s H vs Q E hr h => ?_)
  · obtain ⟨a, v, rfl, _⟩ := h
    rfl
  · obtain ⟨a, v, rfl, ha, k⟩ := h
    refine ⟨_, pss_one (ps_ost (pv 0) (pv 1)), ?_⟩
    exact ⟨_, rfl, _, rfl, a, He.ga K "BadName", rfl, T, no, .inl ⟨ha, fun dx n ne => k dx n ne⟩⟩
abbrev s_NoSeat_init : Stmt := inClass (top 23) 0
theorem sc_NoSeat_init : FnScope ["self", "name"] ["self", "name"] (defScope s_NoSeat_init) := ⟨rfl, rfl, rfl, by decide +kernel, rfl, by decide +kernel, by decide +kernel⟩
theorem ok_NoSeat_init {fd : FuncData} (F : FunD K "__init__" "NoSeat.__init__" (defArgs s_NoSeat_init) (defBody s_NoSeat_init) (defScope s_NoSeat_init) [] [] (He.ma K (He.ga K "NoSeat") "__init__") fd) (T : OexC K (He.ga K "NoSeat")) (no : PySem.W.findIn K (.ref (He.ga K "NoSeat")) "name" = some none) :
    FnOk P w K mg base CX0 1 (He.ma K (He.ga K "NoSeat") "__init__") fd (["self", "name"] : List Str) (spInit (He.ga K "NoSeat") "name") := by
  refine F.ok sc_NoSeat_init (fun vs H Q E h => ?_) (fun cdv A outer s H vs Q E hr h => ?_)
  · obtain ⟨a, v, rfl, _⟩ := h
    rfl
  · obtain ⟨a, v, rfl, ha, k⟩ := h
    refine ⟨_, pss_one (ps_ost (pv 0) (pv 1)), ?_⟩
    exact ⟨_, rfl, _, rfl, a, He.ga K "NoSeat", rfl, T, no, .inl ⟨ha, fun dx n ne => k dx n ne⟩⟩
abbrev s_BadEdit_init : Stmt := inClass (top 24) 0
theorem sc_BadEdit_init : FnScope ["self", "change"] ["self", "change"] (defScope s_BadEdit_init) := ⟨rfl, rfl, rfl, by decide +kernel, rfl, by decide +kernel, by decide +kernel⟩
theorem ok_BadEdit_init {fd : FuncData} (F : FunD K "__init__" "BadEdit.__init__" (defArgs s_BadEdit_init) (defBody s_BadEdit_init) (defScope s_BadEdit_init) [] [] (He.ma K (He.ga K "BadEdit") "__init__") fd) (T : OexC K (He.ga K "BadEdit")) (no : PySem.W.findIn K (.ref (He.ga K "BadEdit")) "change" = some none) :
    FnOk P w K mg base CX0 1 (He.ma K (He.ga K "BadEdit") "__init__") fd (["self", "change"] : List Str) (spInit (He.ga K "BadEdit") "change") := by
  refine F.ok sc_BadEdit_init (fun vs H Q E h => ?_) (fun cdv A outer s H vs Q E hr h => ?_)
  · obtain ⟨a, v, rfl, _⟩ := h
    rfl
  · obtain ⟨a, v, rfl, ha, k⟩ := h
    refine ⟨_, pss_one (ps_ost (pv 0) (pv 1)), ?_⟩
    exact ⟨_, rfl, _, rfl, a, He.ga K "BadEdit", rfl, T, no, .inl ⟨ha, fun dx n ne => k dx n ne⟩⟩
abbrev s_BadMenu_init : Stmt := inClass (top 25) 0
theorem sc_BadMenu_init : FnScope ["self", "count"] ["self", "count"] (defScope s_BadMenu_init) := ⟨rfl, rfl, rfl, by decide +kernel, rfl, by decide +kernel, by decide +kernel⟩
theorem ok_BadMenu_init {fd : FuncData} (F : FunD K "__init__" "BadMenu.__init__" (defArgs s_BadMenu_init) (defBody s_BadMenu_init) (defScope s_BadMenu_init) [] [] (He.ma K (He.ga K "BadMenu") "__init__") fd) (T : OexC K (He.ga K "BadMenu")) (no : PySem.W.findIn K (.ref (He.ga K "BadMenu")) "count" = some none) :
    FnOk P w K mg base CX0 1 (He.ma K (He.ga K "BadMenu") "__init__") fd (["self", "count"] : List Str) (spInit (He.ga K "BadMenu") "count") := by
  refine F.ok sc_BadMenu_init (fun vs H Q E h => ?_) (fun cdv A outer s H vs Q E hr h => ?_)
  · obtain ⟨a, v, rfl, _⟩ := h
    rfl
  · obtain ⟨a, v, rfl, ha, k⟩ := h
    refine ⟨_, pss_one (ps_ost (pv 0) (pv 1)), ?_⟩
    exact ⟨_, rfl, _, rfl, a, He.ga K "BadMenu", rfl, T, no, .inl ⟨ha, fun dx n ne => k dx n ne⟩⟩
abbrev s_TwiceInMenu_init : Stmt := inClass (top 26) 0
theorem sc_TwiceInMenu_init : FnScope ["self", "index"] ["self", "index"] (defScope s_TwiceInMenu_init) := ⟨rfl, rfl, rfl, by decide +kernel, rfl, by decide +kernel, by decide +kernel⟩
theorem ok_TwiceInMenu_init {fd : FuncData} (F : FunD K "__init__" "TwiceInMenu.__init__" (defArgs s_TwiceInMenu_init) (defBody s_TwiceInMenu_init) (defScope s_TwiceInMenu_init) [] [] (He.ma K (He.ga K "TwiceInMenu") "__init__") fd) (T : OexC K (He.ga K "TwiceInMenu")) (no : PySem.W.findIn K (.ref (He.ga K "TwiceInMenu")) "index" = some none) :
    FnOk P w K mg base CX0 1 (He.ma K (He.ga K "TwiceInMenu") "__init__") fd (["self", "index"] : List Str) (spInit (He.ga K "TwiceInMenu") "index") := by
  refine F.ok sc_TwiceInMenu_init (fun vs H Q E h => ?_) (fun cdv A outer s H vs Q E hr h => ?_)
  · obtain ⟨a, v, rfl, _⟩ := h
    rfl
  · obtain ⟨a, v, rfl, ha, k⟩ := h
    refine ⟨_, pss_one (ps_ost (pv 0) (pv 1)), ?_⟩
    exact ⟨_, rfl, _, rfl, a, He.ga K "TwiceInMenu", rfl, T, no, .inl ⟨ha, fun dx n ne => k dx n ne⟩⟩
abbrev s_BadDeed_init : Stmt := inClass (top 27) 0
theorem sc_BadDeed_init : FnScope ["self", "index"] ["self", "index"] (defScope s_BadDeed_init) := ⟨rfl, rfl, rfl, by decide +kernel, rfl, by decide +kernel, by decide +kernel⟩
theorem ok_BadDeed_init {fd : FuncData} (F : FunD K "__init__" "BadDeed.__init__" (defArgs s_BadDeed_init) (defBody s_BadDeed_init) (defScope s_BadDeed_init) [] [] (He.ma K (He.ga K "BadDeed") "__init__") fd) (T : OexC K (He.ga K "BadDeed")) (no : PySem.W.findIn K (.ref (He.ga K "BadDeed")) "index" = some none) :
    FnOk P w K mg base CX0 1 (He.ma K (He.ga K "BadDeed") "__init__") fd (["self", "index"] : List Str) (spInit (He.ga K "BadDeed") "index") := by
  refine F.ok sc_BadDeed_init (fun vs H Q E h => ?_) (fun cdv A outer s H vs Q E hr h => ?_)
  · obtain ⟨a, v, rfl, _⟩ := h
    rfl
  · obtain ⟨a, v, rfl, ha, k⟩ := h
    refine ⟨_, pss_one (ps_ost (pv 0) (pv 1)), ?_⟩
    exact ⟨_, rfl, _, rfl, a, He.ga K "BadDeed", rfl, T, no, .inl ⟨ha, fun dx n ne => k dx n ne⟩⟩
abbrev s_BadLine_init : Stmt := inClass (top 28) 0
theorem sc_BadLine_init : FnScope ["self", "line"] ["self", "line"] (defScope s_BadLine_init) := ⟨rfl, rfl, rfl, by decide +kernel, rfl, by decide +kernel, by decide +kernel⟩
theorem ok_BadLine_init {fd : FuncData} (F : FunD K "__init__" "BadLine.__init__" (defArgs s_BadLine_init) (defBody s_BadLine_init) (defScope s_BadLine_init) [] [] (He.ma K (He.ga K "BadLine") "__init__") fd) (T : OexC K (He.ga K "BadLine")) (no : PySem.W.findIn K (.ref (He.ga K "BadLine")) "line" = some none) :
    FnOk P w K mg base CX0 1 (He.ma K (He.ga K "BadLine") "__init__") fd (["self", "line"] : List Str) (spInit (He.ga K "BadLine") "line") := by
  refine F.ok sc_BadLine_init (fun vs H Q E h => ?_) (fun cdv A outer s H vs Q E hr h => ?_)
  · obtain ⟨a, v, rfl, _⟩ := h
    rfl
  · obtain ⟨a, v, rfl, ha, k⟩ := h
    refine ⟨_, pss_one (ps_ost (pv 0) (pv 1)), ?_⟩
    exact ⟨_, rfl, _, rfl, a, He.ga K "BadLine", rfl, T, no, .inl ⟨ha, fun dx n ne => k dx n ne⟩⟩
end
/-! ### the head: what the top leaves, read as one Bool -/
def fns : List He.DefD := [
  ⟨("_law_pool", none), "_law_pool", "_law_pool", defArgs s_pool, defBody s_pool, defScope s_pool, [], []⟩,
  ⟨("_law_draw", none), "_law_draw", "_law_draw", defArgs s_draw, defBody s_draw, defScope s_draw, [], []⟩,
  ⟨("_law_first", none), "_law_first", "_law_first", defArgs s_first, defBody s_first, defScope s_first, [], []⟩,
  ⟨("_law_second", none), "_law_second", "_law_second", defArgs s_second, defBody s_second, defScope s_second, [], []⟩,
  ⟨("_law_third", none), "_law_third", "_law_third", defArgs s_third, defBody s_third, defScope s_third, [], []⟩,
  ⟨("_law_kinds", none), "_law_kinds", "_law_kinds", defArgs s_kinds, defBody s_kinds, defScope s_kinds, [], []⟩,
  ⟨("_law_made", none), "_law_made", "_law_made", defArgs s_made, defBody s_made, defScope s_made, [], []⟩,
  ⟨("law", none), "law", "law", defArgs s_law, defBody s_law, defScope s_law, [], []⟩,
  ⟨("BadPlaces", some "__init__"), "__init__", "BadPlaces.__init__", defArgs s_BadPlaces_init, defBody s_BadPlaces_init, defScope s_BadPlaces_init, [], []⟩,
  ⟨("BadEdges", some "__init__"), "__init__", "BadEdges.__init__", defArgs s_BadEdges_init, defBody s_BadEdges_init, defScope s_BadEdges_init, [], []⟩,
  ⟨("BadEdge", some "__init__"), "__init__", "BadEdge.__init__", defArgs s_BadEdge_init, defBody s_BadEdge_init, defScope s_BadEdge_init, [], []⟩,
  ⟨("BadEntry", some "__init__"), "__init__", "BadEntry.__init__", defArgs s_BadEntry_init, defBody s_BadEntry_init, defScope s_BadEntry_init, [], []⟩,
  ⟨("BadExit", some "__init__"), "__init__", "BadExit.__init__", defArgs s_BadExit_init, defBody s_BadExit_init, defScope s_BadExit_init, [], []⟩,
  ⟨("Idle", some "__init__"), "__init__", "Idle.__init__", defArgs s_Idle_init, defBody s_Idle_init, defScope s_Idle_init, [], []⟩,
  ⟨("NoGate", some "__init__"), "__init__", "NoGate.__init__", defArgs s_NoGate_init, defBody s_NoGate_init, defScope s_NoGate_init, [], []⟩,
  ⟨("BadWay", some "__init__"), "__init__", "BadWay.__init__", defArgs s_BadWay_init, defBody s_BadWay_init, defScope s_BadWay_init, [], []⟩,
  ⟨("NotWhole", some "__init__"), "__init__", "NotWhole.__init__", defArgs s_NotWhole_init, defBody s_NotWhole_init, defScope s_NotWhole_init, [], []⟩,
  ⟨("BadPlace", some "__init__"), "__init__", "BadPlace.__init__", defArgs s_BadPlace_init, defBody s_BadPlace_init, defScope s_BadPlace_init, [], []⟩,
  ⟨("BadMark", some "__init__"), "__init__", "BadMark.__init__", defArgs s_BadMark_init, defBody s_BadMark_init, defScope s_BadMark_init, [], []⟩,
  ⟨("TwoMarks", some "__init__"), "__init__", "TwoMarks.__init__", defArgs s_TwoMarks_init, defBody s_TwoMarks_init, defScope s_TwoMarks_init, [], []⟩,
  ⟨("BadLength", some "__init__"), "__init__", "BadLength.__init__", defArgs s_BadLength_init, defBody s_BadLength_init, defScope s_BadLength_init, [], []⟩,
  ⟨("BadPrice", some "__init__"), "__init__", "BadPrice.__init__", defArgs s_BadPrice_init, defBody s_BadPrice_init, defScope s_BadPrice_init, [], []⟩,
  ⟨("BadWord", some "__init__"), "__init__", "BadWord.__init__", defArgs s_BadWord_init, defBody s_BadWord_init, defScope s_BadWord_init, [], []⟩,
  ⟨("TooMany", some "__init__"), "__init__", "TooMany.__init__", defArgs s_TooMany_init, defBody s_TooMany_init, defScope s_TooMany_init, [], []⟩,
  ⟨("Barred", some "__init__"), "__init__", "Barred.__init__", defArgs s_Barred_init, defBody s_Barred_init, defScope s_Barred_init, [], []⟩,
  ⟨("BadSeats", some "__init__"), "__init__", "BadSeats.__init__", defArgs s_BadSeats_init, defBody s_BadSeats_init, defScope s_BadSeats_init, [], []⟩,
  ⟨("BadName", some "__init__"), "__init__", "BadName.__init__", defArgs s_BadName_init, defBody s_BadName_init, defScope s_BadName_init, [], []⟩,
  ⟨("NoSeat", some "__init__"), "__init__", "NoSeat.__init__", defArgs s_NoSeat_init, defBody s_NoSeat_init, defScope s_NoSeat_init, [], []⟩,
  ⟨("BadEdit", some "__init__"), "__init__", "BadEdit.__init__", defArgs s_BadEdit_init, defBody s_BadEdit_init, defScope s_BadEdit_init, [], []⟩,
  ⟨("BadMenu", some "__init__"), "__init__", "BadMenu.__init__", defArgs s_BadMenu_init, defBody s_BadMenu_init, defScope s_BadMenu_init, [], []⟩,
  ⟨("TwiceInMenu", some "__init__"), "__init__", "TwiceInMenu.__init__", defArgs s_TwiceInMenu_init, defBody s_TwiceInMenu_init, defScope s_TwiceInMenu_init, [], []⟩,
  ⟨("BadDeed", some "__init__"), "__init__", "BadDeed.__init__", defArgs s_BadDeed_init, defBody s_BadDeed_init, defScope s_BadDeed_init, [], []⟩,
  ⟨("BadLine", some "__init__"), "__init__", "BadLine.__init__", defArgs s_BadLine_init, defBody s_BadLine_init, defScope s_BadLine_init, [], []⟩]
def fas : List He.Fa := [.glo "_law_pool", .glo "_law_draw", .glo "_law_first", .glo "_law_second", .glo "_law_third", .glo "_law_kinds", .glo "_law_made", .glo "law", .glo "SeatError", .glo "BadPlaces", .glo "BadEdges", .glo "BadEdge", .glo "BadEntry", .glo "NoExits", .glo "BadExit", .glo "Idle", .glo "NoGate", .glo "BadWay", .glo "NotWhole", .glo "BadPlace", .glo "BadMark", .glo "TwoMarks", .glo "BadLength", .glo "BadPrice", .glo "BadWord", .glo "OtherWeb", .glo "TooMany", .glo "Barred", .glo "BadSeats", .glo "BadName", .glo "NoSeat", .glo "BadEdit", .glo "BadMenu", .glo "TwiceInMenu", .glo "BadDeed", .glo "BadLine", .free "len", .free "abs", .free "int", .free "tuple", .free "range", .free "isinstance", .free "ValueError", .noat "BadPlaces" "count", .noat "BadEdges" "count", .noat "BadEdge" "index", .noat "BadEntry" "place", .noat "BadExit" "place", .noat "Idle" "place", .noat "NoGate" "number", .noat "BadWay" "index", .noat "NotWhole" "place", .noat "BadPlace" "number", .noat "BadMark" "number", .noat "TwoMarks" "number", .noat "BadLength" "count", .noat "BadPrice" "gate", .noat "BadWord" "word", .noat "TooMany" "count", .noat "Barred" "index", .noat "BadSeats" "count", .noat "BadName" "name", .noat "NoSeat" "name", .noat "BadEdit" "change", .noat "BadMenu" "count", .noat "TwiceInMenu" "index", .noat "BadDeed" "index", .noat "BadLine" "line"]
def initB (K : PySem.W.Frag) (C : Addr) : Bool := oexB K C && (eqOB (PySem.W.findIn K (.ref C) "__init__") (some (some (.ref (He.ma K C "__init__")))) && eqVB (PySem.W.typeIn K (.ref (He.ma K C "__init__"))) (some (.type "function")))
def withs : List Str := (["BadPlaces", "BadEdges", "BadEdge", "BadEntry", "BadExit", "Idle", "NoGate", "BadWay", "NotWhole", "BadPlace", "BadMark", "TwoMarks", "BadLength", "BadPrice", "BadWord", "TooMany", "Barred", "BadSeats", "BadName", "NoSeat"] : List Str) ++ (["BadEdit", "BadMenu", "TwiceInMenu", "BadDeed", "BadLine"] : List Str)
def bares : List Str := ["NoExits", "OtherWeb"]
def exB (K : PySem.W.Frag) : Bool := ((List.range 27).all fun i => errB K (cl K i)) && (((List.range 27).all fun i => (List.range 27).all fun j => eqBB (PySem.W.kitOne K (.ref (cl K i)) (.ref (cl K j))) (some (decide (i = j)))) &&
  (((List.range 27).all fun i => eqBB (PySem.W.kitOne K (.ref (cl K i)) (.ref (He.ga K "SeatError"))) (some true)) && (((List.range 27).all fun i => eqBB (PySem.W.kitOne K (.ref (cl K i)) (.type "ValueError")) (some true)) &&
  ((withs.all fun x => initB K (He.ga K x)) && (bares.all fun x => PySem.W.excIn K (He.ga K x) He.veBase "ValueError.__new__")))))
abbrev RR : PySem.W.OpenRow := PySem.W.OpenLaw.row PySem.Challenge.rw_savedseats_k86_each_error
abbrev hkx : PySem.W.Hook := He.hookX 5 fas fns [] [] exB
def obx (s : PySem.W.SharedT) : He.AlX := He.obsX 5 fas fns [] [] exB (HandSHeadRun.getT s)
theorem obx_eq (s : PySem.W.SharedT) : obx s = hkx.obs s.abs := He.obsX_eq (HandSHeadRun.getT_eq s)
def loose : List Str := (["BadDeed", "BadEdge", "BadEdges", "BadEdit", "BadEntry", "BadExit", "BadLength", "BadLine", "BadMark", "BadMenu", "BadName", "BadPlace", "BadPlaces", "BadPrice", "BadSeats", "BadWay", "BadWord", "Barred", "Idle", "NoExits"] : List Str) ++ (["NoGate", "NoSeat", "NotWhole", "OtherWeb", "SeatError", "TooMany", "TwiceInMenu", "TwoMarks", "__name__", "_law_draw", "_law_first", "_law_kinds", "_law_made", "_law_pool", "_law_second", "_law_third"] : List Str)
theorem runx (w : World) : HandSHeadRun.RunEq RR (PySem.W.view RR.prog [37]) hkx obx 100000 loose w := by
  intro os
  kernel_rfl
theorem allB {n : Nat} {p : Nat → Bool} (h : (List.range n).all p = true) : ∀ i, i < n → p i = true := fun i hi => List.all_eq_true.mp h i (List.mem_range.mpr hi)
section
variable {P : Program} {w : World} {K : PySem.W.Frag} {mg : Str → Option Value} {h : Heap}
theorem ex_of (c : exB K = true) : (∀ i, i < 27 → ErrC K (cl K i)) ∧ (∀ i j, i < 27 → j < 27 → PySem.W.kitOne K (.ref (cl K i)) (.ref (cl K j)) = some (decide (i = j))) ∧ (∀ i, i < 27 → PySem.W.kitOne K (.ref (cl K i)) (.ref (He.ga K "SeatError")) = some true) ∧
    (∀ i, i < 27 → PySem.W.kitOne K (.ref (cl K i)) (.type "ValueError") = some true) ∧ (∀ x ∈ withs, initB K (He.ga K x) = true) ∧ (∀ x ∈ bares, PySem.W.excIn K (He.ga K x) He.veBase "ValueError.__new__" = true) := by
  obtain ⟨c1, c⟩ := andB c
  obtain ⟨c2, c⟩ := andB c
  obtain ⟨c3, c⟩ := andB c
  obtain ⟨c4, c⟩ := andB c
  obtain ⟨c5, c6⟩ := andB c
  exact ⟨fun i hi => errB_ok (allB c1 i hi), fun i j hi hj => of_decide_eq_true (allB (allB c2 i hi) j hj), fun i hi => of_decide_eq_true (allB c3 i hi), fun i hi => of_decide_eq_true (allB c4 i hi), List.all_eq_true.mp c5, List.all_eq_true.mp c6⟩
theorem txt_of (X : K.In h) (G : h.Ns mainGlobals mg) (c : He.SaysD fas fns K) (e : exB K = true) : Txt K mg where
  g__law_pool := He.glo_ok X G (c.fact 0 (f := .glo "_law_pool") rfl)
  k__law_pool := (c.def_ 0 rfl).elim fun _ F => F.kp
  g__law_draw := He.glo_ok X G (c.fact 1 (f := .glo "_law_draw") rfl)
  k__law_draw := (c.def_ 1 rfl).elim fun _ F => F.kp
  g__law_first := He.glo_ok X G (c.fact 2 (f := .glo "_law_first") rfl)
  k__law_first := (c.def_ 2 rfl).elim fun _ F => F.kp
  g__law_second := He.glo_ok X G (c.fact 3 (f := .glo "_law_second") rfl)
  k__law_second := (c.def_ 3 rfl).elim fun _ F => F.kp
  g__law_third := He.glo_ok X G (c.fact 4 (f := .glo "_law_third") rfl)
  k__law_third := (c.def_ 4 rfl).elim fun _ F => F.kp
  g__law_kinds := He.glo_ok X G (c.fact 5 (f := .glo "_law_kinds") rfl)
  k__law_kinds := (c.def_ 5 rfl).elim fun _ F => F.kp
  g__law_made := He.glo_ok X G (c.fact 6 (f := .glo "_law_made") rfl)
  k__law_made := (c.def_ 6 rfl).elim fun _ F => F.kp
  g_law := He.glo_ok X G (c.fact 7 (f := .glo "law") rfl)
  k_law := (c.def_ 7 rfl).elim fun _ F => F.kp
  g_SeatError := He.glo_ok X G (c.fact 8 (f := .glo "SeatError") rfl)
  g_BadPlaces := He.glo_ok X G (c.fact 9 (f := .glo "BadPlaces") rfl)
  g_BadEdges := He.glo_ok X G (c.fact 10 (f := .glo "BadEdges") rfl)
  g_BadEdge := He.glo_ok X G (c.fact 11 (f := .glo "BadEdge") rfl)
  g_BadEntry := He.glo_ok X G (c.fact 12 (f := .glo "BadEntry") rfl)
  g_NoExits := He.glo_ok X G (c.fact 13 (f := .glo "NoExits") rfl)
  g_BadExit := He.glo_ok X G (c.fact 14 (f := .glo "BadExit") rfl)
  g_Idle := He.glo_ok X G (c.fact 15 (f := .glo "Idle") rfl)
  g_NoGate := He.glo_ok X G (c.fact 16 (f := .glo "NoGate") rfl)
  g_BadWay := He.glo_ok X G (c.fact 17 (f := .glo "BadWay") rfl)
  g_NotWhole := He.glo_ok X G (c.fact 18 (f := .glo "NotWhole") rfl)
  g_BadPlace := He.glo_ok X G (c.fact 19 (f := .glo "BadPlace") rfl)
  g_BadMark := He.glo_ok X G (c.fact 20 (f := .glo "BadMark") rfl)
  g_TwoMarks := He.glo_ok X G (c.fact 21 (f := .glo "TwoMarks") rfl)
  g_BadLength := He.glo_ok X G (c.fact 22 (f := .glo "BadLength") rfl)
  g_BadPrice := He.glo_ok X G (c.fact 23 (f := .glo "BadPrice") rfl)
  g_BadWord := He.glo_ok X G (c.fact 24 (f := .glo "BadWord") rfl)
  g_OtherWeb := He.glo_ok X G (c.fact 25 (f := .glo "OtherWeb") rfl)
  g_TooMany := He.glo_ok X G (c.fact 26 (f := .glo "TooMany") rfl)
  g_Barred := He.glo_ok X G (c.fact 27 (f := .glo "Barred") rfl)
  g_BadSeats := He.glo_ok X G (c.fact 28 (f := .glo "BadSeats") rfl)
  g_BadName := He.glo_ok X G (c.fact 29 (f := .glo "BadName") rfl)
  g_NoSeat := He.glo_ok X G (c.fact 30 (f := .glo "NoSeat") rfl)
  g_BadEdit := He.glo_ok X G (c.fact 31 (f := .glo "BadEdit") rfl)
  g_BadMenu := He.glo_ok X G (c.fact 32 (f := .glo "BadMenu") rfl)
  g_TwiceInMenu := He.glo_ok X G (c.fact 33 (f := .glo "TwiceInMenu") rfl)
  g_BadDeed := He.glo_ok X G (c.fact 34 (f := .glo "BadDeed") rfl)
  g_BadLine := He.glo_ok X G (c.fact 35 (f := .glo "BadLine") rfl)
  n_len := He.free_ok X G (c.fact 36 (f := .free "len") rfl)
  n_abs := He.free_ok X G (c.fact 37 (f := .free "abs") rfl)
  n_int := He.free_ok X G (c.fact 38 (f := .free "int") rfl)
  n_tuple := He.free_ok X G (c.fact 39 (f := .free "tuple") rfl)
  n_range := He.free_ok X G (c.fact 40 (f := .free "range") rfl)
  n_isinstance := He.free_ok X G (c.fact 41 (f := .free "isinstance") rfl)
  n_ValueError := He.free_ok X G (c.fact 42 (f := .free "ValueError") rfl)
  x_NoExits := (ex_of e).2.2.2.2.2 "NoExits" (by decide +kernel)
  x_OtherWeb := (ex_of e).2.2.2.2.2 "OtherWeb" (by decide +kernel)
  no_BadPlaces := He.noat_ok (c.fact 43 (f := .noat "BadPlaces" "count") rfl)
  no_BadEdges := He.noat_ok (c.fact 44 (f := .noat "BadEdges" "count") rfl)
  no_BadEdge := He.noat_ok (c.fact 45 (f := .noat "BadEdge" "index") rfl)
  no_BadEntry := He.noat_ok (c.fact 46 (f := .noat "BadEntry" "place") rfl)
  no_BadExit := He.noat_ok (c.fact 47 (f := .noat "BadExit" "place") rfl)
  no_Idle := He.noat_ok (c.fact 48 (f := .noat "Idle" "place") rfl)
  no_NoGate := He.noat_ok (c.fact 49 (f := .noat "NoGate" "number") rfl)
  no_BadWay := He.noat_ok (c.fact 50 (f := .noat "BadWay" "index") rfl)
  no_NotWhole := He.noat_ok (c.fact 51 (f := .noat "NotWhole" "place") rfl)
  no_BadPlace := He.noat_ok (c.fact 52 (f := .noat "BadPlace" "number") rfl)
  no_BadMark := He.noat_ok (c.fact 53 (f := .noat "BadMark" "number") rfl)
  no_TwoMarks := He.noat_ok (c.fact 54 (f := .noat "TwoMarks" "number") rfl)
  no_BadLength := He.noat_ok (c.fact 55 (f := .noat "BadLength" "count") rfl)
  no_BadPrice := He.noat_ok (c.fact 56 (f := .noat "BadPrice" "gate") rfl)
  no_BadWord := He.noat_ok (c.fact 57 (f := .noat "BadWord" "word") rfl)
  no_TooMany := He.noat_ok (c.fact 58 (f := .noat "TooMany" "count") rfl)
  no_Barred := He.noat_ok (c.fact 59 (f := .noat "Barred" "index") rfl)
  no_BadSeats := He.noat_ok (c.fact 60 (f := .noat "BadSeats" "count") rfl)
  no_BadName := He.noat_ok (c.fact 61 (f := .noat "BadName" "name") rfl)
  no_NoSeat := He.noat_ok (c.fact 62 (f := .noat "NoSeat" "name") rfl)
  no_BadEdit := He.noat_ok (c.fact 63 (f := .noat "BadEdit" "change") rfl)
  no_BadMenu := He.noat_ok (c.fact 64 (f := .noat "BadMenu" "count") rfl)
  no_TwiceInMenu := He.noat_ok (c.fact 65 (f := .noat "TwiceInMenu" "index") rfl)
  no_BadDeed := He.noat_ok (c.fact 66 (f := .noat "BadDeed" "index") rfl)
  no_BadLine := He.noat_ok (c.fact 67 (f := .noat "BadLine" "line") rfl)
  err := (ex_of e).1
  kit := (ex_of e).2.1
  kitS := (ex_of e).2.2.1
  kitV := (ex_of e).2.2.2.1
theorem inits_of (c : He.SaysD fas fns K) (e : exB K = true) (base : Heap) : Inits P w K mg base where
  i_BadPlaces := by
    obtain ⟨fd, F⟩ := c.def_ 8 (d := ⟨("BadPlaces", some "__init__"), "__init__", "BadPlaces.__init__", defArgs s_BadPlaces_init, defBody s_BadPlaces_init, defScope s_BadPlaces_init, [], []⟩) rfl
    have E := (ex_of e).1 0 (by decide)
    obtain ⟨b1, b⟩ := andB ((ex_of e).2.2.2.2.1 "BadPlaces" (by decide +kernel))
    obtain ⟨b2, b3⟩ := andB b
    have no := He.noat_ok (c.fact 43 (f := .noat "BadPlaces" "count") rfl)
    exact ⟨E, E.oex b1, no, _, fd, of_decide_eq_true b2, of_decide_eq_true b3, ok_BadPlaces_init F (E.oex b1) no, FunD.bindsN (ps := ["self", "count"]) F fun _ _ _ _ _ _ us hl => match us, hl with | [_, _], _ => rfl⟩
  i_BadEdges := by
    obtain ⟨fd, F⟩ := c.def_ 9 (d := ⟨("BadEdges", some "__init__"), "__init__", "BadEdges.__init__", defArgs s_BadEdges_init, defBody s_BadEdges_init, defScope s_BadEdges_init, [], []⟩) rfl
    have E := (ex_of e).1 1 (by decide)
    obtain ⟨b1, b⟩ := andB ((ex_of e).2.2.2.2.1 "BadEdges" (by decide +kernel))
    obtain ⟨b2, b3⟩ := andB b
    have no := He.noat_ok (c.fact 44 (f := .noat "BadEdges" "count") rfl)
    exact ⟨E, E.oex b1, no, _, fd, of_decide_eq_true b2, of_decide_eq_true b3, ok_BadEdges_init F (E.oex b1) no, FunD.bindsN (ps := ["self", "count"]) F fun _ _ _ _ _ _ us hl => match us, hl with | [_, _], _ => rfl⟩
  i_BadEdge := by
    obtain ⟨fd, F⟩ := c.def_ 10 (d := ⟨("BadEdge", some "__init__"), "__init__", "BadEdge.__init__", defArgs s_BadEdge_init, defBody s_BadEdge_init, defScope s_BadEdge_init, [], []⟩) rfl
    have E := (ex_of e).1 2 (by decide)
    obtain ⟨b1, b⟩ := andB ((ex_of e).2.2.2.2.1 "BadEdge" (by decide +kernel))
    obtain ⟨b2, b3⟩ := andB b
    have no := He.noat_ok (c.fact 45 (f := .noat "BadEdge" "index") rfl)
    exact ⟨E, E.oex b1, no, _, fd, of_decide_eq_true b2, of_decide_eq_true b3, ok_BadEdge_init F (E.oex b1) no, FunD.bindsN (ps := ["self", "index"]) F fun _ _ _ _ _ _ us hl => match us, hl with | [_, _], _ => rfl⟩
  i_BadEntry := by
    obtain ⟨fd, F⟩ := c.def_ 11 (d := ⟨("BadEntry", some "__init__"), "__init__", "BadEntry.__init__", defArgs s_BadEntry_init, defBody s_BadEntry_init, defScope s_BadEntry_init, [], []⟩) rfl
    have E := (ex_of e).1 3 (by decide)
    obtain ⟨b1, b⟩ := andB ((ex_of e).2.2.2.2.1 "BadEntry" (by decide +kernel))
    obtain ⟨b2, b3⟩ := andB b
    have no := He.noat_ok (c.fact 46 (f := .noat "BadEntry" "place") rfl)
    exact ⟨E, E.oex b1, no, _, fd, of_decide_eq_true b2, of_decide_eq_true b3, ok_BadEntry_init F (E.oex b1) no, FunD.bindsN (ps := ["self", "place"]) F fun _ _ _ _ _ _ us hl => match us, hl with | [_, _], _ => rfl⟩
  i_BadExit := by
    obtain ⟨fd, F⟩ := c.def_ 12 (d := ⟨("BadExit", some "__init__"), "__init__", "BadExit.__init__", defArgs s_BadExit_init, defBody s_BadExit_init, defScope s_BadExit_init, [], []⟩) rfl
    have E := (ex_of e).1 5 (by decide)
    obtain ⟨b1, b⟩ := andB ((ex_of e).2.2.2.2.1 "BadExit" (by decide +kernel))
    obtain ⟨b2, b3⟩ := andB b
    have no := He.noat_ok (c.fact 47 (f := .noat "BadExit" "place") rfl)
    exact ⟨E, E.oex b1, no, _, fd, of_decide_eq_true b2, of_decide_eq_true b3, ok_BadExit_init F (E.oex b1) no, FunD.bindsN (ps := ["self", "place"]) F fun _ _ _ _ _ _ us hl => match us, hl with | [_, _], _ => rfl⟩
  i_Idle := by
    obtain ⟨fd, F⟩ := c.def_ 13 (d := ⟨("Idle", some "__init__"), "__init__", "Idle.__init__", defArgs s_Idle_init, defBody s_Idle_init, defScope s_Idle_init, [], []⟩) rfl
    have E := (ex_of e).1 6 (by decide)
    obtain ⟨b1, b⟩ := andB ((ex_of e).2.2.2.2.1 "Idle" (by decide +kernel))
    obtain ⟨b2, b3⟩ := andB b
    have no := He.noat_ok (c.fact 48 (f := .noat "Idle" "place") rfl)
    exact ⟨E, E.oex b1, no, _, fd, of_decide_eq_true b2, of_decide_eq_true b3, ok_Idle_init F (E.oex b1) no, FunD.bindsN (ps := ["self", "place"]) F fun _ _ _ _ _ _ us hl => match us, hl with | [_, _], _ => rfl⟩
  i_NoGate := by
    obtain ⟨fd, F⟩ := c.def_ 14 (d := ⟨("NoGate", some "__init__"), "__init__", "NoGate.__init__", defArgs s_NoGate_init, defBody s_NoGate_init, defScope s_NoGate_init, [], []⟩) rfl
    have E := (ex_of e).1 7 (by decide)
    obtain ⟨b1, b⟩ := andB ((ex_of e).2.2.2.2.1 "NoGate" (by decide +kernel))
    obtain ⟨b2, b3⟩ := andB b
    have no := He.noat_ok (c.fact 49 (f := .noat "NoGate" "number") rfl)
    exact ⟨E, E.oex b1, no, _, fd, of_decide_eq_true b2, of_decide_eq_true b3, ok_NoGate_init F (E.oex b1) no, FunD.bindsN (ps := ["self", "number"]) F fun _ _ _ _ _ _ us hl => match us, hl with | [_, _], _ => rfl⟩
  i_BadWay := by
    obtain ⟨fd, F⟩ := c.def_ 15 (d := ⟨("BadWay", some "__init__"), "__init__", "BadWay.__init__", defArgs s_BadWay_init, defBody s_BadWay_init, defScope s_BadWay_init, [], []⟩) rfl
    have E := (ex_of e).1 8 (by decide)
    obtain ⟨b1, b⟩ := andB ((ex_of e).2.2.2.2.1 "BadWay" (by decide +kernel))
    obtain ⟨b2, b3⟩ := andB b
    have no := He.noat_ok (c.fact 50 (f := .noat "BadWay" "index") rfl)
    exact ⟨E, E.oex b1, no, _, fd, of_decide_eq_true b2, of_decide_eq_true b3, ok_BadWay_init F (E.oex b1) no, FunD.bindsN (ps := ["self", "index"]) F fun _ _ _ _ _ _ us hl => match us, hl with | [_, _], _ => rfl⟩
  i_NotWhole := by
    obtain ⟨fd, F⟩ := c.def_ 16 (d := ⟨("NotWhole", some "__init__"), "__init__", "NotWhole.__init__", defArgs s_NotWhole_init, defBody s_NotWhole_init, defScope s_NotWhole_init, [], []⟩) rfl
    have E := (ex_of e).1 9 (by decide)
    obtain ⟨b1, b⟩ := andB ((ex_of e).2.2.2.2.1 "NotWhole" (by decide +kernel))
    obtain ⟨b2, b3⟩ := andB b
    have no := He.noat_ok (c.fact 51 (f := .noat "NotWhole" "place") rfl)
    exact ⟨E, E.oex b1, no, _, fd, of_decide_eq_true b2, of_decide_eq_true b3, ok_NotWhole_init F (E.oex b1) no, FunD.bindsN (ps := ["self", "place"]) F fun _ _ _ _ _ _ us hl => match us, hl with | [_, _], _ => rfl⟩
  i_BadPlace := by
    obtain ⟨fd, F⟩ := c.def_ 17 (d := ⟨("BadPlace", some "__init__"), "__init__", "BadPlace.__init__", defArgs s_BadPlace_init, defBody s_BadPlace_init, defScope s_BadPlace_init, [], []⟩) rfl
    have E := (ex_of e).1 10 (by decide)
    obtain ⟨b1, b⟩ := andB ((ex_of e).2.2.2.2.1 "BadPlace" (by decide +kernel))
    obtain ⟨b2, b3⟩ := andB b
    have no := He.noat_ok (c.fact 52 (f := .noat "BadPlace" "number") rfl)
    exact ⟨E, E.oex b1, no, _, fd, of_decide_eq_true b2, of_decide_eq_true b3, ok_BadPlace_init F (E.oex b1) no, FunD.bindsN (ps := ["self", "number"]) F fun _ _ _ _ _ _ us hl => match us, hl with | [_, _], _ => rfl⟩
  i_BadMark := by
    obtain ⟨fd, F⟩ := c.def_ 18 (d := ⟨("BadMark", some "__init__"), "__init__", "BadMark.__init__", defArgs s_BadMark_init, defBody s_BadMark_init, defScope s_BadMark_init, [], []⟩) rfl
    have E := (ex_of e).1 11 (by decide)
    obtain ⟨b1, b⟩ := andB ((ex_of e).2.2.2.2.1 "BadMark" (by decide +kernel))
    obtain ⟨b2, b3⟩ := andB b
    have no := He.noat_ok (c.fact 53 (f := .noat "BadMark" "number") rfl)
    exact ⟨E, E.oex b1, no, _, fd, of_decide_eq_true b2, of_decide_eq_true b3, ok_BadMark_init F (E.oex b1) no, FunD.bindsN (ps := ["self", "number"]) F fun _ _ _ _ _ _ us hl => match us, hl with | [_, _], _ => rfl⟩
  i_TwoMarks := by
    obtain ⟨fd, F⟩ := c.def_ 19 (d := ⟨("TwoMarks", some "__init__"), "__init__", "TwoMarks.__init__", defArgs s_TwoMarks_init, defBody s_TwoMarks_init, defScope s_TwoMarks_init, [], []⟩) rfl
    have E := (ex_of e).1 12 (by decide)
    obtain ⟨b1, b⟩ := andB ((ex_of e).2.2.2.2.1 "TwoMarks" (by decide +kernel))
    obtain ⟨b2, b3⟩ := andB b
    have no := He.noat_ok (c.fact 54 (f := .noat "TwoMarks" "number") rfl)
    exact ⟨E, E.oex b1, no, _, fd, of_decide_eq_true b2, of_decide_eq_true b3, ok_TwoMarks_init F (E.oex b1) no, FunD.bindsN (ps := ["self", "number"]) F fun _ _ _ _ _ _ us hl => match us, hl with | [_, _], _ => rfl⟩
  i_BadLength := by
    obtain ⟨fd, F⟩ := c.def_ 20 (d := ⟨("BadLength", some "__init__"), "__init__", "BadLength.__init__", defArgs s_BadLength_init, defBody s_BadLength_init, defScope s_BadLength_init, [], []⟩) rfl
    have E := (ex_of e).1 13 (by decide)
    obtain ⟨b1, b⟩ := andB ((ex_of e).2.2.2.2.1 "BadLength" (by decide +kernel))
    obtain ⟨b2, b3⟩ := andB b
    have no := He.noat_ok (c.fact 55 (f := .noat "BadLength" "count") rfl)
    exact ⟨E, E.oex b1, no, _, fd, of_decide_eq_true b2, of_decide_eq_true b3, ok_BadLength_init F (E.oex b1) no, FunD.bindsN (ps := ["self", "count"]) F fun _ _ _ _ _ _ us hl => match us, hl with | [_, _], _ => rfl⟩
  i_BadPrice := by
    obtain ⟨fd, F⟩ := c.def_ 21 (d := ⟨("BadPrice", some "__init__"), "__init__", "BadPrice.__init__", defArgs s_BadPrice_init, defBody s_BadPrice_init, defScope s_BadPrice_init, [], []⟩) rfl
    have E := (ex_of e).1 14 (by decide)
    obtain ⟨b1, b⟩ := andB ((ex_of e).2.2.2.2.1 "BadPrice" (by decide +kernel))
    obtain ⟨b2, b3⟩ := andB b
    have no := He.noat_ok (c.fact 56 (f := .noat "BadPrice" "gate") rfl)
    exact ⟨E, E.oex b1, no, _, fd, of_decide_eq_true b2, of_decide_eq_true b3, ok_BadPrice_init F (E.oex b1) no, FunD.bindsN (ps := ["self", "gate"]) F fun _ _ _ _ _ _ us hl => match us, hl with | [_, _], _ => rfl⟩
  i_BadWord := by
    obtain ⟨fd, F⟩ := c.def_ 22 (d := ⟨("BadWord", some "__init__"), "__init__", "BadWord.__init__", defArgs s_BadWord_init, defBody s_BadWord_init, defScope s_BadWord_init, [], []⟩) rfl
    have E := (ex_of e).1 15 (by decide)
    obtain ⟨b1, b⟩ := andB ((ex_of e).2.2.2.2.1 "BadWord" (by decide +kernel))
    obtain ⟨b2, b3⟩ := andB b
    have no := He.noat_ok (c.fact 57 (f := .noat "BadWord" "word") rfl)
    exact ⟨E, E.oex b1, no, _, fd, of_decide_eq_true b2, of_decide_eq_true b3, ok_BadWord_init F (E.oex b1) no, FunD.bindsN (ps := ["self", "word"]) F fun _ _ _ _ _ _ us hl => match us, hl with | [_, _], _ => rfl⟩
  i_TooMany := by
    obtain ⟨fd, F⟩ := c.def_ 23 (d := ⟨("TooMany", some "__init__"), "__init__", "TooMany.__init__", defArgs s_TooMany_init, defBody s_TooMany_init, defScope s_TooMany_init, [], []⟩) rfl
    have E := (ex_of e).1 17 (by decide)
    obtain ⟨b1, b⟩ := andB ((ex_of e).2.2.2.2.1 "TooMany" (by decide +kernel))
    obtain ⟨b2, b3⟩ := andB b
    have no := He.noat_ok (c.fact 58 (f := .noat "TooMany" "count") rfl)
    exact ⟨E, E.oex b1, no, _, fd, of_decide_eq_true b2, of_decide_eq_true b3, ok_TooMany_init F (E.oex b1) no, FunD.bindsN (ps := ["self", "count"]) F fun _ _ _ _ _ _ us hl => match us, hl with | [_, _], _ => rfl⟩
  i_Barred := by
    obtain ⟨fd, F⟩ := c.def_ 24 (d := ⟨("Barred", some "__init__"), "__init__", "Barred.__init__", defArgs s_Barred_init, defBody s_Barred_init, defScope s_Barred_init, [], []⟩) rfl
    have E := (ex_of e).1 18 (by decide)
    obtain ⟨b1, b⟩ := andB ((ex_of e).2.2.2.2.1 "Barred" (by decide +kernel))
    obtain ⟨b2, b3⟩ := andB b
    have no := He.noat_ok (c.fact 59 (f := .noat "Barred" "index") rfl)
    exact ⟨E, E.oex b1, no, _, fd, of_decide_eq_true b2, of_decide_eq_true b3, ok_Barred_init F (E.oex b1) no, FunD.bindsN (ps := ["self", "index"]) F fun _ _ _ _ _ _ us hl => match us, hl with | [_, _], _ => rfl⟩
  i_BadSeats := by
    obtain ⟨fd, F⟩ := c.def_ 25 (d := ⟨("BadSeats", some "__init__"), "__init__", "BadSeats.__init__", defArgs s_BadSeats_init, defBody s_BadSeats_init, defScope s_BadSeats_init, [], []⟩) rfl
    have E := (ex_of e).1 19 (by decide)
    obtain ⟨b1, b⟩ := andB ((ex_of e).2.2.2.2.1 "BadSeats" (by decide +kernel))
    obtain ⟨b2, b3⟩ := andB b
    have no := He.noat_ok (c.fact 60 (f := .noat "BadSeats" "count") rfl)
    exact ⟨E, E.oex b1, no, _, fd, of_decide_eq_true b2, of_decide_eq_true b3, ok_BadSeats_init F (E.oex b1) no, FunD.bindsN (ps := ["self", "count"]) F fun _ _ _ _ _ _ us hl => match us, hl with | [_, _], _ => rfl⟩
  i_BadName := by
    obtain ⟨fd, F⟩ := c.def_ 26 (d := ⟨("BadName", some "__init__"), "__init__", "BadName.__init__", defArgs s_BadName_init, defBody s_BadName_init, defScope s_BadName_init, [], []⟩) rfl
    have E := (ex_of e).1 20 (by decide)
    obtain ⟨b1, b⟩ := andB ((ex_of e).2.2.2.2.1 "BadName" (by decide +kernel))
    obtain ⟨b2, b3⟩ := andB b
    have no := He.noat_ok (c.fact 61 (f := .noat "BadName" "name") rfl)
    exact ⟨E, E.oex b1, no, _, fd, of_decide_eq_true b2, of_decide_eq_true b3, ok_BadName_init F (E.oex b1) no, FunD.bindsN (ps := ["self", "name"]) F fun _ _ _ _ _ _ us hl => match us, hl with | [_, _], _ => rfl⟩
  i_NoSeat := by
    obtain ⟨fd, F⟩ := c.def_ 27 (d := ⟨("NoSeat", some "__init__"), "__init__", "NoSeat.__init__", defArgs s_NoSeat_init, defBody s_NoSeat_init, defScope s_NoSeat_init, [], []⟩) rfl
    have E := (ex_of e).1 21 (by decide)
    obtain ⟨b1, b⟩ := andB ((ex_of e).2.2.2.2.1 "NoSeat" (by decide +kernel))
    obtain ⟨b2, b3⟩ := andB b
    have no := He.noat_ok (c.fact 62 (f := .noat "NoSeat" "name") rfl)
    exact ⟨E, E.oex b1, no, _, fd, of_decide_eq_true b2, of_decide_eq_true b3, ok_NoSeat_init F (E.oex b1) no, FunD.bindsN (ps := ["self", "name"]) F fun _ _ _ _ _ _ us hl => match us, hl with | [_, _], _ => rfl⟩
  i_BadEdit := by
    obtain ⟨fd, F⟩ := c.def_ 28 (d := ⟨("BadEdit", some "__init__"), "__init__", "BadEdit.__init__", defArgs s_BadEdit_init, defBody s_BadEdit_init, defScope s_BadEdit_init, [], []⟩) rfl
    have E := (ex_of e).1 22 (by decide)
    obtain ⟨b1, b⟩ := andB ((ex_of e).2.2.2.2.1 "BadEdit" (by decide +kernel))
    obtain ⟨b2, b3⟩ := andB b
    have no := He.noat_ok (c.fact 63 (f := .noat "BadEdit" "change") rfl)
    exact ⟨E, E.oex b1, no, _, fd, of_decide_eq_true b2, of_decide_eq_true b3, ok_BadEdit_init F (E.oex b1) no, FunD.bindsN (ps := ["self", "change"]) F fun _ _ _ _ _ _ us hl => match us, hl with | [_, _], _ => rfl⟩
  i_BadMenu := by
    obtain ⟨fd, F⟩ := c.def_ 29 (d := ⟨("BadMenu", some "__init__"), "__init__", "BadMenu.__init__", defArgs s_BadMenu_init, defBody s_BadMenu_init, defScope s_BadMenu_init, [], []⟩) rfl
    have E := (ex_of e).1 23 (by decide)
    obtain ⟨b1, b⟩ := andB ((ex_of e).2.2.2.2.1 "BadMenu" (by decide +kernel))
    obtain ⟨b2, b3⟩ := andB b
    have no := He.noat_ok (c.fact 64 (f := .noat "BadMenu" "count") rfl)
    exact ⟨E, E.oex b1, no, _, fd, of_decide_eq_true b2, of_decide_eq_true b3, ok_BadMenu_init F (E.oex b1) no, FunD.bindsN (ps := ["self", "count"]) F fun _ _ _ _ _ _ us hl => match us, hl with | [_, _], _ => rfl⟩
  i_TwiceInMenu := by
    obtain ⟨fd, F⟩ := c.def_ 30 (d := ⟨("TwiceInMenu", some "__init__"), "__init__", "TwiceInMenu.__init__", defArgs s_TwiceInMenu_init, defBody s_TwiceInMenu_init, defScope s_TwiceInMenu_init, [], []⟩) rfl
    have E := (ex_of e).1 24 (by decide)
    obtain ⟨b1, b⟩ := andB ((ex_of e).2.2.2.2.1 "TwiceInMenu" (by decide +kernel))
    obtain ⟨b2, b3⟩ := andB b
    have no := He.noat_ok (c.fact 65 (f := .noat "TwiceInMenu" "index") rfl)
    exact ⟨E, E.oex b1, no, _, fd, of_decide_eq_true b2, of_decide_eq_true b3, ok_TwiceInMenu_init F (E.oex b1) no, FunD.bindsN (ps := ["self", "index"]) F fun _ _ _ _ _ _ us hl => match us, hl with | [_, _], _ => rfl⟩
  i_BadDeed := by
    obtain ⟨fd, F⟩ := c.def_ 31 (d := ⟨("BadDeed", some "__init__"), "__init__", "BadDeed.__init__", defArgs s_BadDeed_init, defBody s_BadDeed_init, defScope s_BadDeed_init, [], []⟩) rfl
    have E := (ex_of e).1 25 (by decide)
    obtain ⟨b1, b⟩ := andB ((ex_of e).2.2.2.2.1 "BadDeed" (by decide +kernel))
    obtain ⟨b2, b3⟩ := andB b
    have no := He.noat_ok (c.fact 66 (f := .noat "BadDeed" "index") rfl)
    exact ⟨E, E.oex b1, no, _, fd, of_decide_eq_true b2, of_decide_eq_true b3, ok_BadDeed_init F (E.oex b1) no, FunD.bindsN (ps := ["self", "index"]) F fun _ _ _ _ _ _ us hl => match us, hl with | [_, _], _ => rfl⟩
  i_BadLine := by
    obtain ⟨fd, F⟩ := c.def_ 32 (d := ⟨("BadLine", some "__init__"), "__init__", "BadLine.__init__", defArgs s_BadLine_init, defBody s_BadLine_init, defScope s_BadLine_init, [], []⟩) rfl
    have E := (ex_of e).1 26 (by decide)
    obtain ⟨b1, b⟩ := andB ((ex_of e).2.2.2.2.1 "BadLine" (by decide +kernel))
    obtain ⟨b2, b3⟩ := andB b
    have no := He.noat_ok (c.fact 67 (f := .noat "BadLine" "line") rfl)
    exact ⟨E, E.oex b1, no, _, fd, of_decide_eq_true b2, of_decide_eq_true b3, ok_BadLine_init F (E.oex b1) no, FunD.bindsN (ps := ["self", "line"]) F fun _ _ _ _ _ _ us hl => match us, hl with | [_, _], _ => rfl⟩
theorem facts {f : Addr} (X : K.In h) (G : h.Ns mainGlobals mg) (hfa : mg ("law" : Str) = some (.ref f)) (c : He.SaysD fas fns K) (e : exB K = true) :
    ∃ fd : FuncData, (∀ (s : Shared) (v : Value), BindsTo s fd ⟨[v], []⟩ [("_law_script", v)]) ∧ ∀ base : Heap, K.In base → base.Ns mainGlobals mg → FnOk P w K mg base CX0 5 f fd ["_law_script"] (spLaw K) := by
  obtain ⟨fd_pool, F_pool⟩ := c.def_ 0 (d := ⟨("_law_pool", none), "_law_pool", "_law_pool", defArgs s_pool, defBody s_pool, defScope s_pool, [], []⟩) rfl
  obtain ⟨fd_draw, F_draw⟩ := c.def_ 1 (d := ⟨("_law_draw", none), "_law_draw", "_law_draw", defArgs s_draw, defBody s_draw, defScope s_draw, [], []⟩) rfl
  obtain ⟨fd_first, F_first⟩ := c.def_ 2 (d := ⟨("_law_first", none), "_law_first", "_law_first", defArgs s_first, defBody s_first, defScope s_first, [], []⟩) rfl
  obtain ⟨fd_second, F_second⟩ := c.def_ 3 (d := ⟨("_law_second", none), "_law_second", "_law_second", defArgs s_second, defBody s_second, defScope s_second, [], []⟩) rfl
  obtain ⟨fd_third, F_third⟩ := c.def_ 4 (d := ⟨("_law_third", none), "_law_third", "_law_third", defArgs s_third, defBody s_third, defScope s_third, [], []⟩) rfl
  obtain ⟨fd_kinds, F_kinds⟩ := c.def_ 5 (d := ⟨("_law_kinds", none), "_law_kinds", "_law_kinds", defArgs s_kinds, defBody s_kinds, defScope s_kinds, [], []⟩) rfl
  obtain ⟨fd_made, F_made⟩ := c.def_ 6 (d := ⟨("_law_made", none), "_law_made", "_law_made", defArgs s_made, defBody s_made, defScope s_made, [], []⟩) rfl
  obtain ⟨fd_law, F_law⟩ := c.def_ 7 (d := ⟨("law", none), "law", "law", defArgs s_law, defBody s_law, defScope s_law, [], []⟩) rfl
  have T := txt_of X G c e
  have q := hfa.symm.trans T.g_law
  cases q
  have b := FunD.bindsA (ps := ["_law_script"]) F_law fun _ _ _ _ _ _ us hl => match us, hl with | [_], _ => rfl
  refine ⟨fd_law, fun s v => b s [v] rfl, fun base _ _ => ?_⟩
  have I : Inits P w K mg base := inits_of c e base
  have P4 : (["_law_k", "_law_number", "_law_several", "_law_word"] : List Str).length = 4 := rfl
  exact ok_law F_law T ⟨_, ok_pool F_pool, FunD.bindsN F_pool fun _ _ _ _ _ _ us hl => match us, hl with | [_], _ => rfl⟩ ⟨_, ok_draw F_draw ⟨T.n_len, T.n_abs, T.n_int⟩, FunD.bindsN F_draw fun _ _ _ _ _ _ us hl => match us, hl with | [_, _], _ => rfl⟩
    ⟨_, ok_made F_made T ⟨_, ok_first F_first T I, FunD.bindsN F_first fun _ _ _ _ _ _ us hl => match us, hl with | [_, _, _, _], _ => rfl⟩ ⟨_, ok_second F_second T I, FunD.bindsN F_second fun _ _ _ _ _ _ us hl => match us, hl with | [_, _, _, _], _ => rfl⟩ ⟨_, ok_third F_third T I, FunD.bindsN F_third fun _ _ _ _ _ _ us hl => match us, hl with | [_, _, _, _], _ => rfl⟩, FunD.bindsN F_made fun _ _ _ _ _ _ us hl => match us, hl with | [_, _, _, _], _ => rfl⟩
    ⟨_, ok_kinds F_kinds T, FunD.bindsN F_kinds fun _ _ _ _ _ _ us hl => match us, hl with | [_], _ => rfl⟩
end
end Kx
open PySem PySem.W PyProof.Rows
set_option maxRecDepth 100000 in
set_option maxHeartbeats 0 in
theorem PySem.Challenge.cw_savedseats_k86_each_error_holds : PySem.Challenge.rw_savedseats_k86_each_error.Holds := by
  w_on; o_law
  refine HandSHeadRun.head_any (r := OpenLaw.row PySem.Challenge.rw_savedseats_k86_each_error) (q := view (OpenLaw.row PySem.Challenge.rw_savedseats_k86_each_error).prog [37]) (H := Kx.hkx) (ob := Kx.obx) (M := 100000) (loose := Kx.loose) (d := HandSHeadRun.topDef (OpenLaw.row PySem.Challenge.rw_savedseats_k86_each_error).prog 37) (kwd := []) Kx.obx_eq
    (by kernel_rfl) (fun s => by kernel_rfl) Kx.runx (by kernel_rfl) (by kernel_rfl) (by kernel_rfl) (by rfl) (by first | assumption | decide +kernel) (by decide +kernel) ⟨rfl, rfl, rfl, rfl, rfl, by decide +kernel⟩ ?hw ?hc
  case hw => w_witness2
  case hc =>
    refine L2.walk_ofE (l := PySem.Challenge.rw_savedseats_k86_each_error) (n := 63) (k := 5) (x := "_law_script") (CX := L2.CX0) rfl (by decide) (by kernel_rfl) ⟨rfl, by decide, by decide⟩ ?F (fun _ _ _ _ z => z)
    intro w mg fa h Y G hmg0
    obtain ⟨K, KX, c⟩ := Y
    have hmg : mg ("law" : PySem.Str) = some (.ref fa) := by
      have e : (HandSHeadRun.topDef (OpenLaw.row PySem.Challenge.rw_savedseats_k86_each_error).prog 37).name = ("law" : PySem.Str) := by kernel_rfl
      rw [← e]
      exact hmg0
    obtain ⟨fd, hb, hF⟩ := Kx.facts (P := (PySem.Challenge.rw_savedseats_k86_each_error).prog) (w := w) KX G hmg c.t.d c.more
    exact ⟨K, fd, Kx.spLaw K, KX, hb, fun H a ns hl hO hS => ⟨a, ns, rfl, Kx.Scr.of hO hS, fun _ => rfl⟩, hF⟩
