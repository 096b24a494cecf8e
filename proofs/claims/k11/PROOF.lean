import PyProof.Rows.All
import Wide.All
import OpenK.AllK
import Wide.FinOn
import HandS.Deep
import HandS.TupAny
import HandS.Conv
import HandS.ForMost
import HandS.Defaults
import HandS.Codes
import HandS.Wide
import HandS.Exc
import HandS.ExcOwn
import HandS.ExcInit
import HandS.ExcValue
import HandS.IsInst
import KE.KExcIs
import HandS.HeadHook4
import PyProof.P3Eq
import HandS.Strs
import HandS.SetFor
import HandS.TupSets
import HandS.TryOnly
import HandS.DictComp
import HandS.Walk
import HandS.OwnEq
import HandS.SlotsOwn
import HandS.Property
import HandS.ExcField
import KE.KRevSl
import HandS.TryMany
import HandS.GenBody
import HandS.GenYield
import HandS.GenList
import HandS.Zip
import HandS.Zip0
import HandS.Small
import HandS.ExcIs
import HandS.Records
import HandS.IterVal
import KE.KOwnIter
import HandS.OwnIter
import PyProof.InstNe
import KE.KStateDown
import HandS.Head0
import HandS.Head1
import HandS.Head2
import HandS.HeadEnd
import PySem.Challenge.RW_savedseats_k11_whole_webs_turned_about
set_option Elab.async false
set_option linter.all false
set_option maxRecDepth 100000
set_option maxHeartbeats 4000000
namespace Kx
open PySem PySem.Spec PyProof.Rows L2
/-! ### an own error over ValueError: what the text says of its class, as one Bool -/
/-- the class of an error with an own __init__(self, f) that keeps f -/
def oexB (K : PySem.W.Frag) (C : Addr) : Bool := match K.lookup C with
  | some ⟨.type "type", _, .cls cd, sl⟩ => (match cd.mro, sl.toList with
    | .ref C' :: bm, [_, _, _, _, some (.builtin n), _] => C' == C && n == "ValueError.__new__" && !cd.hasDel && cd.hasDict && PySem.HandSPX.refsVE bm
    | _, _ => false)
  | _ => false
theorem oexB_ok {K : PySem.W.Frag} {C : Addr} (q : oexB K C = true) : ∃ nm q N bs bm sn sub ab col dd k0 k1 k2 k3 k5, K.lookup C = some (excClassObj nm q C N bs bm true sn sub ab col dd k0 k1 k2 k3 k5 "ValueError.__new__") ∧ PySem.HandSPX.refsVE bm = true := by
  unfold oexB at q
  split at q
  · rename_i dd cd sl ho
    split at q
    · rename_i C' bm k0 k1 k2 k3 n k5 hm hs
      simp only [Bool.and_eq_true, beq_iff_eq, Bool.not_eq_true'] at q
      obtain ⟨⟨⟨⟨rfl, rfl⟩, hdel⟩, hdct⟩, ht⟩ := q
      obtain ⟨nm, bs, mro, ns, qn, hd, sn, sub, ab, col, del⟩ := cd
      dsimp only at hm hdel hdct
      subst hm hdel hdct
      have hsl : sl = #[k0, k1, k2, k3, some (.builtin "ValueError.__new__"), k5] := by
        obtain ⟨l⟩ := sl
        simp only at hs
        rw [hs]
      subst hsl
      exact ⟨nm, qn, ns, bs, bm, sn, sub, ab, col, dd, k0, k1, k2, k3, k5, ho, ht⟩
    · cases q
  · cases q
def eqOB (a b : Option (Option Value)) : Bool := decide (a = b)
def eqVB (a b : Option Value) : Bool := decide (a = b)
def eqBB (a b : Option Bool) : Bool := decide (a = b)
/-- what is asked of each error's class -/
def errB (K : PySem.W.Frag) (C : Addr) : Bool :=
  eqOB (PySem.W.findIn K (.ref C) "__setattr__") (some (some (.builtin "object.__setattr__"))) && (eqBB (PySem.W.subIn K (.ref C) (.type "BaseException")) (some true) && (eqVB (PySem.W.typeIn K (.ref C)) (some (.type "type")) && (PySem.W.keepIn K (.ref C) &&
  (eqOB (PySem.W.findIn K (.ref C) "__getattribute__") (some (some (.builtin "BaseException.__getattribute__"))) && (eqOB (PySem.W.findIn K (.ref C) "__getattr__") (some none) && (PySem.W.hasDictIn K C && (eqOB (PySem.W.findIn K (.ref C) "__class__") (some (some (.builtin "object.__class__"))) &&
  (eqOB (PySem.W.specialIn K (.builtin "object.__class__") "__get__") (some (some (.builtin "getset_descriptor.__get__"))) && (eqBB (PySem.W.takesIn K (.builtin "object.__class__")) (some true) && (eqBB (PySem.W.mroIn K C (.type "object")) (some true) && (PySem.W.clsIn K C).isSome))))))))))
structure ErrC (K : PySem.W.Frag) (C : Addr) : Prop where
  sa : PySem.W.findIn K (.ref C) "__setattr__" = some (some (.builtin "object.__setattr__"))
  exC : PySem.W.subIn K (.ref C) (.type "BaseException") = some true
  tyC : PySem.W.typeIn K (.ref C) = some (.type "type")
  kC : PySem.W.keepIn K (.ref C) = true
  ga : PySem.W.findIn K (.ref C) "__getattribute__" = some (some (.builtin "BaseException.__getattribute__"))
  gg : PySem.W.findIn K (.ref C) "__getattr__" = some none
  hd : PySem.W.hasDictIn K C = true
  ca : PySem.W.findIn K (.ref C) "__class__" = some (some (.builtin "object.__class__"))
  cg : PySem.W.specialIn K (.builtin "object.__class__") "__get__" = some (some (.builtin "getset_descriptor.__get__"))
  ct : PySem.W.takesIn K (.builtin "object.__class__") = some true
  cm : PySem.W.mroIn K C (.type "object") = some true
  cl : (PySem.W.clsIn K C).isSome = true
theorem andB {a b : Bool} (h : (a && b) = true) : a = true ∧ b = true := Bool.and_eq_true_iff.mp h
theorem errB_ok {K : PySem.W.Frag} {C : Addr} (h : errB K C = true) : ErrC K C := by
  obtain ⟨h1, h⟩ := andB h
  obtain ⟨h2, h⟩ := andB h
  obtain ⟨h3, h⟩ := andB h
  obtain ⟨h4, h⟩ := andB h
  obtain ⟨h5, h⟩ := andB h
  obtain ⟨h6, h⟩ := andB h
  obtain ⟨h7, h⟩ := andB h
  obtain ⟨h8, h⟩ := andB h
  obtain ⟨h9, h⟩ := andB h
  obtain ⟨h10, h⟩ := andB h
  obtain ⟨h11, h12⟩ := andB h
  exact ⟨of_decide_eq_true h1, of_decide_eq_true h2, of_decide_eq_true h3, h4, of_decide_eq_true h5, of_decide_eq_true h6, h7, of_decide_eq_true h8, of_decide_eq_true h9, of_decide_eq_true h10, of_decide_eq_true h11, h12⟩
theorem ErrC.oex {K : PySem.W.Frag} {C : Addr} (E : ErrC K C) (h : oexB K C = true) : OexC K C := ⟨oexB_ok h, E.sa, E.exC, E.tyC, E.kC⟩

/-! ### __init__(self, f): self.f = f -/
def spInit (C : Addr) (f : Str) : Sp := fun vs H Q _ => ∃ (a : Addr) (v : V), vs = [.ref a, v] ∧ H a = some (exo a C none) ∧
  ∀ dx, H dx = none → dx ≠ a → Q .non (upd (upd H dx (exd dx [(f, v)])) a (exo a C (some dx)))
/-- an error's class with its __init__ -/
structure ErrI (P : Program) (w : World) (K : PySem.W.Frag) (mg : Str → Option Value) (base : Heap) (C : Addr) (f : Str) : Prop where
  e : ErrC K C
  o : OexC K C
  no : PySem.W.findIn K (.ref C) f = some none
  init : ∃ fI fd, PySem.W.findIn K (.ref C) "__init__" = some (some (.ref fI)) ∧ PySem.W.typeIn K (.ref fI) = some (.type "function") ∧ FnOk P w K mg base CX0 1 fI fd ["self", f] (spInit C f) ∧ Binds K fd ["self", f] []
section
variable {X : Cx} {C : Addr} {f x : Str} {e : Expr} {ta : TA} {te : TE} {p pos : Pos}
/-- C(e) as a value: a new exception at a, its dict at d -/
def tErr (C : Addr) (f : Str) (ta : TA) : TE := fun σ H Q => ta σ H fun vs H1 => ∃ v, vs = [v] ∧ ∀ (a d : Addr) (H2 : Hp), H1 a = none → H1 d = none → H2 a = some (exo a C (some d)) → H2 d = some (exd d [(f, v)]) → Same H1 H2 → Q (.ref a) H2
theorem pe_err (T : ErrI X.prog X.w X.K X.mg X.base C f) (hr : Room 2 X.A) (hg : Gl X x) (hm : X.mg x = some (.ref C)) (ha : PA X [e] ta)
    (hdb : (x == ("__debug__" : Str)) = false := by decide) (he : starEach [e] X.env = (false, eval e X.env) :: starEach [] X.env := by rfl) (hpl : (backTo pos (starEach [] X.env)).any (·.1) = false := by rfl) :
    PE X (.Call (.Name x p) [e] [] pos) (tErr C f ta) := by
  refine ⟨fun pins s σ H Q I h => ?_⟩
  obtain ⟨nm, q, N, bs, bm, sn, sub, ab, col, dd, k0, k1, k2, k3, k5, hC, hbm⟩ := T.o.cls
  obtain ⟨fI, fd, iC, tI, F1, hb⟩ := T.init
  refine wpAny_Call_Name_kw (ld_glob I hg hm ?_ hdb)
  refine PySem.W.callWith_K (h₀ := X.base) I.ok.mod.kin T.o.kC (thn (ha.run pos pins s σ H _ I h) fun us s1 ⟨vs, H1, I1, r1, v, ev, q1⟩ => ⟨I1.kIn, ?_⟩) he hpl
  subst ev
  show wpAny _ _ (call (.ref C) us) _ _ _
  obtain ⟨hp, g, dr, tk, os⟩ := s1
  have hsz : hp.objs.size ≤ hp.objs.size + 1 := Nat.le_succ _
  have hn : H1 (hp.objs.size + 1) = none := I1.hok.fresh hsz
  have kk : ∀ b o, hp.get? b = some o → ((hp.push (PySem.W.kdv_tup us)).push (PySem.HandSPX.excO C hp.objs.size)).get? b = some o := fun b o e => Heap.get?_push_of_some _ (Heap.get?_push_of_some _ e)
  have hget : ((hp.push (PySem.W.kdv_tup us)).push (PySem.HandSPX.excO C hp.objs.size)).get? (hp.objs.size + 1) = some (PySem.HandSPX.excO C hp.objs.size) := by heap_get
  have I2 : Inv X pins σ (upd H1 (hp.objs.size + 1) (exo (hp.objs.size + 1) C none)) ⟨(hp.push (PySem.W.kdv_tup us)).push (PySem.HandSPX.excO C hp.objs.size), g, dr, tk, os⟩ :=
    I1.laid (t' := tk) (a := hp.objs.size + 1) (o := exo (hp.objs.size + 1) C none) (h' := (hp.push (PySem.W.kdv_tup us)).push (PySem.HandSPX.excO C hp.objs.size)) kk hsz (exo_ok hget)
  have r2 : Vals [V.ref (hp.objs.size + 1), v] (Value.ref (hp.objs.size + 1) :: us) := .cons rfl r1
  have hq : spInit C f [V.ref (hp.objs.size + 1), v] (upd H1 (hp.objs.size + 1) (exo (hp.objs.size + 1) C none)) (fun u H2 => u = .non ∧ Q (.ref (hp.objs.size + 1)) H2) (fun _ _ _ => False) :=
    ⟨_, v, rfl, upd_same, fun dx ndx ne => ⟨rfl, by
      have nd1 : H1 dx = none := by rw [upd_ne ne] at ndx; exact ndx
      refine q1 _ dx _ hn nd1 upd_same (by rw [upd_ne ne, upd_same]) fun b o e => ?_
      rw [upd_ne (ne_of_none e hn), upd_ne (ne_of_none e nd1), upd_ne (ne_of_none e hn)]
      exact e⟩⟩
  have hl : ((Value.ref (hp.objs.size + 1) :: us) ++ []).length = (["self", f] : List Str).length := by
    rw [List.append_nil]
    exact r2.length.symm
  have hbb := hb _ (Value.ref (hp.objs.size + 1) :: us) I2.kIn hl
  rw [List.append_nil] at hbb
  have hus : us.length ≤ sizeLine := by
    rw [← Paired.length r1]
    show 1 ≤ sizeLine
    decide
  refine wpAny_call (PySem.HandSPX.call_own F.excBase_ValueError (fun Y => PySem.HandSPX.refsVE_contains Y bm hbm) (I1.kIn _ _ hC) (PySem.W.looks_findIn I1.kIn iC) (fun self => PySem.W.bind_fn I1.kIn self tI) hus
    (codeAny_mono (F1.run _ X.stack _ _ ⟨Value.ref (hp.objs.size + 1) :: us, []⟩ (Value.ref (hp.objs.size + 1) :: us) _ _ (fun _ _ _ => False) (hr.make C us []) (I2.env0.make C us []) hbb r2 hq) fun r s' hq' => ?_))
  cases r with
  | error er => exact False.elim hq'
  | ok fl =>
    cases fl with
    | ret u =>
      obtain ⟨v', H', I3, rv, ev, q3⟩ := I2.after hq'
      subst ev
      exact ⟨rv, ⟨V.ref (hp.objs.size + 1), H', I3, rfl, q3⟩⟩
    | next => exact False.elim hq'
    | brk => exact False.elim hq'
    | cont => exact False.elim hq'
/-- C(), an own error class without own __init__, as a value -/
def tErr0 (C : Addr) : TE := fun _ H Q => ∀ a, H a = none → Q (.ref a) (upd H a (ExO (.ref C) a))
theorem pe_err0 (q : PySem.W.excIn X.K C He.veBase "ValueError.__new__" = true) (kC : PySem.W.keepIn X.K (.ref C) = true) (hg : Gl X x) (hm : X.mg x = some (.ref C))
    (hdb : (x == ("__debug__" : Str)) = false := by decide) : PE X (.Call (.Name x p) [] [] pos) (tErr0 C) := by
  refine ⟨fun pins s σ H Q I h => ?_⟩
  refine wpAny_Call_Name_kw (ld_glob I hg hm ?_ hdb)
  refine PySem.W.callWith_K0 I.kIn kC ?_
  show wpAny _ _ (call (.ref C) []) _ _ _
  obtain ⟨bm, N, nm, qn, bs, hdct, sn, sub, ab, col, dd, k0, k1, k2, k3, k5, mN, hC, hN, hni, T⟩ := exc_obj I.kIn q
  refine wpAny_call_exc_subT F.excBase_ValueError T hC hN hni (fun h' a hm => ?_) (by show 0 ≤ sizeLine; exact Nat.zero_le _)
  have hn : H a = none := I.hok.gone hm.new
  obtain ⟨t, ht, _, _⟩ := hm.there
  exact ⟨.ref a, upd H a (ExO (.ref C) a), I.laidN hm.keeps hm.new hn (exO_ok ht ⟨rfl, rfl⟩ rfl rfl rfl (show 4 < 6 by decide)), rfl, h a hn⟩
/-- an exception of the class C stands at e, not raised -/
def XV (H : Hp) (C e : Addr) : Prop := (∃ d fs, H e = some (exo e C (some d)) ∧ H d = some (exd d fs)) ∨ H e = some (ExO (.ref C) e)
/-- a.f, a an exception -/
def tErrF (K : PySem.W.Frag) (f : Str) (te : TE) : TE := fun σ H Q => te σ H fun x H1 => ∃ (a C d : Addr) (fs : List (Str × V)) (v : V), x = .ref a ∧ ErrC K C ∧ PySem.W.findIn K (.ref C) f = some none ∧ H1 a = some (exo a C (some d)) ∧ H1 d = some (exd d fs) ∧ fs.lookup f = some v ∧ Q v H1
theorem pe_errF (he : PE X e te) (hb : attributeBase e f X.env (eval e X.env) = eval e X.env := by rfl) : PE X (.Attribute e f pos) (tErrF X.K f te) := by
  refine ⟨fun pins s σ H Q I h => ?_⟩
  refine attr_of hb (thn (he.run pins s σ H _ I h) fun u s1 hh => ?_)
  obtain ⟨x, H1, I1, rx, a, C, d, fs, v, ex, T, hno, ea, ed, l, q⟩ := hh
  subst ex
  obtain rfl : u = Value.ref a := rx
  obtain ⟨t1, ha⟩ := exo_at I1.hok ea
  obtain ⟨mA, hns, hr⟩ := exd_at I1.hok ed
  obtain ⟨od, ho, hl⟩ := lookIn_ns hns
  obtain ⟨u, hu, ru⟩ := RelO.some_of (v := v) (o := mA f) (by rw [← l]; exact hr f)
  have J : PySem.W.InstAt s1.heap a { cls := .ref C, dict := some d, data := .fields #[.ref t1, .none, .none, .none, .bool false, .none] } C (some od) := ⟨ha, rfl, rfl, ho⟩
  exact HandSPX.exc_get I1.kIn J T.ga T.gg T.exC (PySem.W.findObj_own T.hd hno rfl (by rw [hl, hu])) (handed_of ru) ⟨v, H1, I1.tok _, ru, q⟩
/-- isinstance(e, c), e an exception that is held -/
def rIsV (K : PySem.W.Frag) : List V → Hp → VK → Prop := fun xs H Q => ∃ (e C : Addr) (c : V) (u : Value) (b : Bool), xs = [.ref e, c] ∧ ClsV c u ∧ XV H C e ∧ ErrC K C ∧ PySem.W.kitOne K (.ref C) u = some b ∧ Q (.bl b) H
theorem call_isV : CallR X (.builtin "isinstance") (rIsV X.K) := by
  intro pins s σ H xs us Q I r h
  obtain ⟨a, C, c, u, b, rfl, k, xv, T, e, q⟩ := h
  obtain ⟨u1, u2, rfl, r1, r2⟩ := vals2 r
  have e2 := k.eq r2
  subst e2
  obtain rfl : u1 = Value.ref a := r1
  rcases xv with ⟨d, fs, ea, ed⟩ | ea
  · obtain ⟨t1, ha⟩ := exo_at I.hok ea
    obtain ⟨mA, hns, hr⟩ := exd_at I.hok ed
    obtain ⟨od, ho, hl⟩ := lookIn_ns hns
    have J : PySem.W.InstAt s.heap a { cls := .ref C, dict := some d, data := .fields #[.ref t1, .none, .none, .none, .bool false, .none] } C (some od) := ⟨ha, rfl, rfl, ho⟩
    exact PySem.W.kia_one (PySem.W.kitx_exc T.cl T.ga T.gg T.exC T.ca T.cg T.ct T.cm) I.kIn J e (fun z => nomatch z) fun tk => ⟨.bl b, H, I.kept (t' := tk) fun _ _ z => z, rfl, q⟩
  · obtain ⟨⟨oe, vs, ho, hz, hd, h1, _⟩, _, _⟩ := (show ObjOk X.prog X.w H s.heap a (ExO (.ref C) a) from I.hok a _ ea)
    have J : PySem.W.InstAt s.heap a oe C none := by
      obtain ⟨oc, od, oda, osl⟩ := oe
      obtain ⟨z1, z2⟩ := hz
      dsimp only at z1 z2 hd
      subst z1 z2 hd
      exact ⟨ho, rfl, rfl, trivial⟩
    exact PySem.W.kia_one (PySem.W.kitx_exc T.cl T.ga T.gg T.exC T.ca T.cg T.ct T.cm) I.kIn J e (fun z => nomatch z) fun tk => ⟨.bl b, H, I.kept (t' := tk) fun _ _ z => z, rfl, q⟩
end
/-- the __init__ of an error, as the text has it -/
theorem ok_init {P : Program} {w : World} {K : PySem.W.Frag} {mg : Str → Option Value} {base : Heap} {x qual f : Str} {params : Arguments} {body : List Stmt} {scope : Scope} {fI C : Addr} {fd : FuncData}
    (F : FunD K x qual params body scope [] [] fI fd) (sc : FnScope (["self", f] : List Str) ["self", f] scope) (T : OexC K C) (no : PySem.W.findIn K (.ref C) f = some none)
    (hb : ∀ X : Cx, X.N = (["self", f] : List Str) → X.env.scope = scope → PSs X body (tOst X.K f (tVar 0) (tVar 1))) : FnOk P w K mg base CX0 1 fI fd (["self", f] : List Str) (spInit C f) := by
  refine F.ok sc (fun vs H Q E h => ?_) (fun cdv A outer s H vs Q E hr h => ?_)
  · obtain ⟨a, v, rfl, _⟩ := h
    rfl
  · obtain ⟨a, v, rfl, ha, k⟩ := h
    refine ⟨_, hb _ rfl rfl, ?_⟩
    exact ⟨_, rfl, _, rfl, a, C, rfl, T, no, .inl ⟨ha, fun dx n ne => k dx n ne⟩⟩
end Kx

namespace Kx
open PySem PySem.Spec PyProof.Rows L2
/-! ### flat values as data -/
def dV : V → PyData
  | .non => .none
  | .bl b => .bool b
  | .int i => .int i
  | .str x => .str x
  | _ => .none
def okV : V → Bool
  | .non => true
  | .bl _ => true
  | .int _ => true
  | .str x => PyData.strOk x
  | _ => false
theorem dp_flat {K : PySem.W.Frag} {H : Hp} : ∀ {v : V}, okV v = true → Dp K H v (dV v)
  | .non, _ => .non
  | .bl b, _ => .bl b
  | .int i, _ => .int i
  | .str x, _ => .str x
theorem dp_all {K : PySem.W.Frag} {H : Hp} : ∀ {xs : List V}, xs.all okV = true → DpAll K H xs (xs.map dV)
  | [], _ => .nil
  | v :: r, h => by
    rw [List.all_cons, Bool.and_eq_true] at h
    exact .cons (dp_flat h.1) (dp_all h.2)
theorem lay_flat : ∀ {v : V}, okV v = true → (dV v).canLay0 = true
  | .non, _ => rfl
  | .bl b, _ => rfl
  | .int i, _ => rfl
  | .str x, h => h
theorem lay_all : ∀ {xs : List V}, xs.all okV = true → PyData.canLayAll0 (xs.map dV) = true
  | [], _ => rfl
  | v :: r, h => by
    rw [List.all_cons, Bool.and_eq_true] at h
    rw [List.map_cons, PyData.canLayAll0, lay_flat h.1, lay_all h.2]
    rfl
theorem depth_flat : ∀ v : V, (dV v).depth ≤ 1
  | .non => by simp [dV, PyData.depth]
  | .bl b => by simp [dV, PyData.depth]
  | .int i => by simp [dV, PyData.depth]
  | .str x => by simp [dV, PyData.depth]
  | .byt _ => by simp [dV, PyData.depth]
  | .flt _ => by simp [dV, PyData.depth]
  | .ref _ => by simp [dV, PyData.depth]
  | .ty _ => by simp [dV, PyData.depth]
theorem depth_all : ∀ xs : List V, PyData.depthAll (xs.map dV) ≤ 1
  | [] => by simp [PyData.depthAll]
  | v :: r => by
    have h1 := depth_flat v
    have h2 := depth_all r
    simp only [List.map_cons, PyData.depthAll]
    omega
theorem shaped_flat {v : V} (h : okV v = true) : SeqAt.shaped (dV v) = true := by
  unfold SeqAt.shaped
  rw [lay_flat h, decide_eq_true (Nat.le_trans (depth_flat v) (by decide))]
  rfl
theorem shaped_tup {xs : List V} (h : xs.all okV = true) : SeqAt.shaped (.tuple (xs.map dV)) = true := by
  unfold SeqAt.shaped
  have e : (PyData.tuple (xs.map dV)).canLay0 = true := lay_all h
  have d : (PyData.tuple (xs.map dV)).depth ≤ 64 := by
    have h2 := depth_all xs
    simp only [PyData.depth]
    omega
  rw [e, decide_eq_true d]
  rfl
theorem shaped_lst {xs : List V} (h : xs.all okV = true) : SeqAt.shaped (.list (xs.map dV)) = true := by
  unfold SeqAt.shaped
  have e : (PyData.list (xs.map dV)).canLay0 = true := lay_all h
  have d : (PyData.list (xs.map dV)).depth ≤ 64 := by
    have h2 := depth_all xs
    simp only [PyData.depth]
    omega
  rw [e, decide_eq_true d]
  rfl
theorem eqv_self {d : PyData} (h : SeqAt.shaped d = true) : PyData.eqv d d = true := PySem.SeqAt.eqv_refl d (SeqAt.canLay_of_shaped h)
end Kx

namespace Kx
open PySem PySem.Spec PyProof.Rows L2
/-! ### a set of tuples of ints that is asked (of a tuple that is not in it) and grows -/
section
variable {P : Program} {w : World} {A : Around} {E : Value → Shared → Prop} {s : Shared} {a x : Addr} {L : List (Addr × List Int)} {es : Array (Int × Value)} {ep : Nat} {t : SetTable} {k : List Int}
abbrev wayP (t : SetTable) (h : Int) (c : Nat) : SetTable.Probe := nth t.mask (runAt t.mask (SetTable.bits h % (t.mask + 1)) (SetTable.bits h)) c
theorem wayP_add (t : SetTable) (h : Int) (c q : Nat) : nth t.mask (wayP t h c) q = wayP t h (c + q) := (nth_add t.mask c _ q).symm
theorem nth_dummy (m : Nat) : ∀ (n : Nat) (p : SetTable.Probe), p.dummy = none → (nth m p n).dummy = none
  | 0, _, h => h
  | n + 1, p, h => nth_dummy m n _ (by unfold adv; split <;> exact h)
/-- a tuple that is not in: from the c-th step of its way on the search ends at the free place K -/
theorem seek_out (R : SetTR P w s.heap a L es ep t) (hx : IsT P w s.heap k x) (hu : A.units < cLine) (no : k ∉ L.map (·.2)) {K : Nat} (hKf : K < 10 * SetTable.turns t.mask) (hK : way t.mask (thash P w k) K ∉ t.place.toList)
    (hKb : ∀ c, c < K → way t.mask (thash P w k) c ∈ t.place.toList) {Q : SetFound → Shared → Prop} (out : Q (.free (way t.mask (thash P w k) K) false) s) :
    ∀ (f c : Nat) (stand : Option SetTable.Probe), stand.getD (t.probeStart (thash P w k)) = wayP t (thash P w k) c → c ≤ K → K - c < f → wpAny (model P w) A (setSearchFrom a (.ref x) (thash P w k) false f stand) Q E s := by
  obtain ⟨o, ho, hex, hd⟩ := R.ob
  intro f
  induction f with
  | zero => intro c stand _ _ hf; omega
  | succ f ih =>
    intro c stand hst hc hf
    have atJ : ∀ q, (nth t.mask (wayP t (thash P w k) c) q).j = way t.mask (thash P w k) (c + q) := fun q => congrArg (·.j) (wayP_add t _ c q)
    rw [setSearchFrom_succ]
    refine wpAny_bind (wpAny_setState_of ho hd R.fits (wp_if_neg R.gw (wpAny_bind (wpAny_pure ?_))))
    rcases go_spec t R.tab.ris R.tab.dm (fun i => (es[i]?.map (·.1)).getD 0) (thash P w k) (10 * SetTable.turns t.mask) (K - c) (wayP t (thash P w k) c) (nth_dummy _ c _ rfl) (by omega)
      (fun q hq => by rw [atJ]; exact hKb _ (by omega)) (by rw [atJ, Nat.add_sub_cancel' hc]; exact hK) with ⟨q, i, hq, hi, _, _, found⟩ | ⟨_, found⟩
    · have found' : t.probe (fun i => (es[i]?.map (·.1)).getD 0) (thash P w k) (stand.getD (t.probeStart (thash P w k))) = some (.candidate (way t.mask (thash P w k) (c + q)) i (wayP t (thash P w k) (c + (q + 1)))) := by
        rw [hst, ← atJ, ← wayP_add]
        exact found
      rw [found']
      rw [atJ] at hi
      have small : i < L.length := by
        have h1 := (List.getElem?_eq_some_iff.mp hi).1
        have h2 := R.tab.sz
        simp only [Array.length_toList, List.length_map] at h1 h2
        omega
      obtain ⟨p, hp⟩ : ∃ p, L[i]? = some p := ⟨_, List.getElem?_eq_getElem small⟩
      have inL : p ∈ L := List.mem_of_getElem? hp
      have unlike : ¬ p.2 = k := fun e => no (List.mem_map.mpr ⟨p, inL, e⟩)
      have live := slot_live R.tab.ris hi
      have tail : wpAny (model P w) A (searchRest a (.ref x) (thash P w k) false f es t (way t.mask (thash P w k) (c + q)) i (wayP t (thash P w k) (c + (q + 1)))) Q E s := by
        unfold searchRest
        rw [R.entry hp]
        refine wpAny_bind (wpAny_holding (wpAny_eqBool_tuple hu (R.tup p inL) hx (wpAny_bind (wpAny_setState_of ho hd R.fits ?_))))
        refine wp_if_neg (by simp) (wpAny_bind (wpAny_pure ?_))
        rw [sameMem]
        simp only [if_true, live, R.entry hp]
        refine wpAny_bind (wpAny_isSame_ref_self (wpAny_bind (wpAny_pure ?_)))
        simp only [if_true]
        exact wp_if_neg (by simp [unlike]) (ih _ _ rfl (by omega) (by omega))
      by_cases hl : t.led = true
      · exact wp_if_neg (by simp [hl]) (wpAny_bind (wpAny_pure tail))
      · refine wp_if_pos (by simp [hl]) (wpAny_bind (seen_tup hx (fun y hy => ?_) (wp_if_neg (by decide) (wpAny_bind (wpAny_pure tail)))))
        obtain ⟨e, he, rfl⟩ := List.mem_map.mp hy
        have he2 : e ∈ es.toList := by
          have := (show e ∈ es ∧ e.1 = thash P w k by simpa using he).1
          simpa using this
        rw [R.rows] at he2
        obtain ⟨p2, hp2, rfl⟩ := List.mem_map.mp he2
        exact ⟨p2.2, p2.1, rfl, R.tup p2 hp2⟩
    · have found' : t.probe (fun i => (es[i]?.map (·.1)).getD 0) (thash P w k) (stand.getD (t.probeStart (thash P w k))) = some (.empty (way t.mask (thash P w k) K) none) := by
        have e2 := atJ (K - c)
        rw [Nat.add_sub_cancel' hc] at e2
        rw [hst, ← e2]
        exact found
      rw [found']
      exact wpAny_pure out
theorem notin_setT (R : SetTR P w s.heap a L es ep t) (hx : IsT P w s.heap k x) (hu : A.units + 3 < cLine) (no : k ∉ L.map (·.2)) {Q : Bool → Shared → Prop} (h : ∀ tk, Q false { s with toks := tk }) :
    wpAny (model P w) A (setContains a (.ref x)) Q E s := by
  obtain ⟨o, ho, hex, hd⟩ := R.ob
  have room := R.room
  obtain ⟨K, hKf, hK, hKb⟩ := R.tab.first (by rw [List.length_map]; omega) (thash P w k)
  have big : K < 100000 := by
    have : 10 * SetTable.turns t.mask ≤ 1420 := by
      unfold SetTable.turns
      rcases R.tab.mok with e | e | e <;> omega
    omega
  unfold setContains
  refine wpAny_holding (wpAny_bind (wpAny_pyHash_tuple (by omega) hx (wpAny_bind ?_)))
  have R' : SetTR P w ({ s with toks := s.toks + (k.length + 1) } : Shared).heap a L es ep t := R
  show wpAny _ _ (setFind a (.ref x) (thash P w k)) _ _ _
  unfold setFind
  rw [show (100000 : Nat) = 99999 + 1 from rfl]
  unfold setFindIn
  refine wpAny_bind (wpAny_setState_of ho hd R.fits (wp_if_neg (by simp [byScan, Value.scannable]) (wpAny_bind ?_)))
  unfold setSearch
  refine seek_out (s := { s with toks := s.toks + (k.length + 1) }) R' hx (by omega) no hKf hK hKb ?_ 100000 0 none rfl (Nat.zero_le _) (by omega)
  exact wpAny_pure (wpAny_pure (h _))
/-- x in the set -/
theorem in_setT (R : SetTR P w s.heap a L es ep t) (hx : IsT P w s.heap k x) (hu : A.units + 8 < cLine) (no : k ∉ L.map (·.2)) {Q : Value → Shared → Prop} (h : ∀ tk, Q (.bool false) { s with toks := tk }) :
    wpAny (model P w) A (compareOp .In (.ref x) (.ref a)) Q E s := by
  obtain ⟨o, ho, hex, hd⟩ := R.ob
  have ty : s.TypeIs (.ref a) "set" := ⟨o, ho, hex.1⟩
  show wpAny _ _ (contains (.ref a) (.ref x) >>= fun b => pure (Value.bool b)) Q E s
  refine wpAny_bind ?_
  unfold contains
  try with_reducible refine wpAny_holding ?_
  refine wpAny_bind (wpAny_specialOf ty F.slot_set_contains.lookup (wp_if_neg (by rw [beq_builtin_none]; exact Bool.false_ne_true) ?_))
  refine wpAny_bind (wpAny_callSpecialUnlessNone?_slot (name := Str.ofString "__contains__") ty F.slot_set_contains (wpAny_call_entry F.slot_set_contains ty entry_set_contains ?_ (F.args_set_contains_2 _ _)))
  unfold Builtin.«frozenset.__contains__» Builtin.Frozenset.oneOther
  simp only [List.isEmpty_nil, bind_assoc]
  unfold Builtin.Frozenset.addrOf Builtin.Frozenset.withSetAsKey
  refine wpAny_bind (wpAny_pure (wpAny_bind (wpAny_pure (wpAny_bind (wpAny_tryCatch ?_)))))
  refine notin_setT R hx ?_ no fun tk => ?_
  · show A.units + 1 + 3 < cLine
    omega
  exact wpAny_pure ⟨_, rfl, wpAny_truthy_bool (wpAny_pure (h tk))⟩
end
section
variable {X : Cx}
def TupsT (K : PySem.W.Frag) (H : Hp) (L : List (Addr × List Int)) : Prop := ∀ p ∈ L, SqT K H p.1 (p.2.map V.int)
theorem full_of {pins : List (Addr × Obj)} {σ : L2.St} {H : Hp} {s : Shared} {a : Addr} {L : List (Addr × List Int)} (I : Inv X pins σ H s) (ha : H a = some (SetTO X.prog X.w a L)) (ht : TupsT X.K H L) : ∃ es ep t, SetTR X.prog X.w s.heap a L es ep t :=
  SetT0.full (I.hok a _ ha).1 fun p hp => I.isT (ht p hp)
/-- t in seen, t a tuple of ints that is not in it -/
def rInT0 (K : PySem.W.Frag) (P : Program) (w : World) : R2 := fun x y H Q => ∃ (b a : Addr) (k : List Int) (L : List (Addr × List Int)), x = .ref b ∧ y = .ref a ∧ SqT K H b (k.map V.int) ∧ H a = some (SetTO P w a L) ∧ TupsT K H L ∧ k ∉ L.map (·.2) ∧ Q (.bl false) H
theorem op_inT0 (hu : X.A.units + 64 < cLine) : OpR X (compareOp .In) (rInT0 X.K X.prog X.w) := by
  intro pins s σ H x y v u Q I rx ry h
  obtain ⟨b, a, k, L, rfl, rfl, hb, ha, ht, no, q⟩ := h
  cases rx
  cases ry
  obtain ⟨es, ep, t, R⟩ := full_of I ha ht
  exact in_setT R (I.isT hb) (by omega) no fun tk => ⟨.bl false, H, I.tok tk, rfl, q⟩
/-- set() of tuples to come -/
def rSet0T (P : Program) (w : World) : List V → Hp → VK → Prop := fun xs H Q => xs = [] ∧ ∀ p, H p = none → Q (.ref p) (upd H p (SetTO P w p []))
theorem cr_set0T : CallR X (.type "set") (rSet0T X.prog X.w) := by
  intro pins s σ H xs us Q I r h
  obtain ⟨rfl, q⟩ := h
  cases r
  refine setR_new fun _ => ?_
  have new := setTR_fresh (P := X.prog) (w := X.w) (h := s.heap.push { cls := .type "set", dict := none, data := .set #[] 0 (.fresh 0 0 (!X.w.params.followText "set-order")) }) (a := s.heap.objs.size) (Heap.get?_push_size _ rfl)
  exact ⟨.ref _, upd H s.heap.objs.size (SetTO X.prog X.w s.heap.objs.size []), I.laid (t' := s.toks) (fun b u e => Heap.get?_push_of_some _ e) (Nat.le_refl _) (setTO_new new.t0), rfl, q _ (I.hok.fresh (Nat.le_refl _))⟩
/-- seen.add(t), t not in it, fewer than 64 -/
def rAddT (K : PySem.W.Frag) (P : Program) (w : World) : V → List V → Hp → VK → Prop := fun x xs H Q => ∃ (a b : Addr) (k : List Int) (L : List (Addr × List Int)), x = V.ref a ∧ xs = [V.ref b] ∧ H a = some (SetTO P w a L) ∧ TupsT K H L ∧ SqT K H b (k.map V.int) ∧ k ∉ L.map (·.2) ∧ L.length + 1 < 64 ∧
  ∀ L', L'.Perm ((b, k) :: L) → Q .non (upd H a (SetTO P w a L'))
theorem mt_saddT (hu : X.A.units + 64 < cLine) : MtR X "set.add" (rAddT X.K X.prog X.w) := by
  intro pins s σ H x xs v us Q I rx rxs h
  obtain ⟨a, b, k, L, rfl, rfl, ha, ht, hb, no, few, q⟩ := h
  cases rx
  rw [Vals.ref1 rxs]
  obtain ⟨es, ep, t, R⟩ := full_of I ha ht
  obtain ⟨o, ho, hex, hd⟩ := R.ob
  refine wpAny_call_entry F.slot_set_add ⟨o, ho, hex.1⟩ F.entry_set_add ?_ (F.args_set_add_2 _ _)
  unfold Builtin.«set.add» Builtin.Frozenset.oneOther
  simp only [List.isEmpty_nil, bind_assoc]
  unfold Builtin.Frozenset.addrOf setAdd
  refine wpAny_bind (wpAny_pure (wpAny_bind (wpAny_pure (wpAny_bind (wpAny_holding (wpAny_bind (wpAny_pyHash_tuple (by show X.A.units + 1 < cLine; omega) (I.isT hb) ?_)))))))
  refine add_at (s := { s with toks := s.toks + (k.length + 1) }) R (I.isT hb) (by show X.A.units + 1 < cLine; omega) few fun c h' L' es' ep' t' sb R' _ more => ?_
  refine wpAny_pure ⟨_, rfl, ?_⟩
  have he : ∃ u, h'.get? a = some u := by
    obtain ⟨o', ho', _⟩ := R'.ob
    exact ⟨o', ho'⟩
  exact ⟨.non, upd H a (SetTO X.prog X.w a L'), I.write (e := a) (t' := s.toks + (k.length + 1)) (by rw [ha]; trivial) (.inl rfl) (fun b u hb hu => (sb.2 b hb).trans hu) he (setTO_new R'.t0), rfl, q L' (more no)⟩
def tAddT (K : PySem.W.Frag) (P : Program) (w : World) (to : TE) (t : TA) : TE := fun σ H Q => to σ H fun x H1 => (∃ a L, x = V.ref a ∧ H1 a = some (SetTO P w a L) ∧ TupsT K H1 L) ∧ t σ H1 fun xs H2 => rAddT K P w x xs H2 Q
variable {o e : Expr} {to : TE} {t : TA} {apos cpos : Pos}
theorem pe_saddT (hu : X.A.units + 64 < cLine) (ho : PE X o to) (ha : PA X [e] t)
    (hbase : attributeBase o "add" X.env (eval o X.env) = eval o X.env := by rfl)
    (hfew : ((backTo cpos (starEach [e] X.env)).all (fun x => !x.1) && (backToKw cpos (keywordEach [] X.env)).all (fun x => x.1.isSome)
      && decide ([e].length + ([] : List Keyword).length + (if ([] : List Keyword).isEmpty then 0 else 1) < 30)) = true := by rfl)
    (hline : (apos.endLine == cpos.line) = true := by rfl) (hs : starEach [e] X.env = (false, eval e X.env) :: starEach [] X.env := by rfl) (hplain : (backTo cpos (starEach [] X.env)).any (·.1) = false := by rfl) :
    PE X (.Call (.Attribute o "add" apos) [e] [] cpos) (tAddT X.K X.prog X.w to t) := by
  refine ⟨fun pins s σ H Q I h => wpAny_Call_method_late hbase hfew hline rfl (thn (ho.run pins s σ H _ I h) fun v s1 ⟨x, H1, I1, r1, ty, q1⟩ => ?_)⟩
  obtain ⟨a, L, rfl, hka, htt⟩ := ty
  obtain ⟨es, ep, tt, R⟩ := full_of I1 hka htt
  cases r1
  obtain ⟨ob, hob, hex, hd⟩ := R.ob
  refine ⟨"set", "set.add", F.plainAttrs_set, F.slot_set_add, F.type_set_add, ⟨ob, hob, hex.1⟩, fun b e => ?_, ?_⟩
  · cases e
    exact ⟨ob, hob, hex.2.1⟩
  have hA := ha.run cpos pins s1 σ H1 _ I1 q1
  rw [hs] at hA ⊢
  refine Calls.callWith_builtin (by show (false || (backTo cpos (starEach [] X.env)).any (·.1)) = false; rw [hplain] <;> rfl) (Calls.evalArgs_plain ?_)
  exact thn hA fun us s2 ⟨vs, H2, I2, r2, q2⟩ => mt_saddT hu pins s2 σ H2 (.ref a) vs (.ref a) us Q I2 rfl r2 q2
end
/-! ### set(l), l a list of ints: as the library has it of tuples -/
abbrev freshSet (w : World) : Obj := { cls := .type "set", dict := none, data := .set #[] 0 (.fresh 0 0 (!w.params.followText "set-order")) }
section
variable {P : Program} {w : World} {A : Around} {E : Value → Shared → Prop} {s : Shared}
theorem call_set_listI {l : Addr} {items : Array Value} (ns : List Int) {Q : Value → Shared → Prop} (hh : A.handled = none) (hl : s.heap.IsList l items) (hit : IntsAre items.toList ns) (hb : ns.length + 1 < scanBound)
    (h : ∀ (h' : Heap) (tk c : Nat), SetR w h' s.heap.objs.size (fun j => decide (j ∈ ns)) c → c ≤ ns.length → (∀ b o, s.heap.get? b = some o → h'.get? b = some o) → Q (.ref s.heap.objs.size) { s with heap := h', toks := tk }) :
    wpAny (model P w) A (call (.type "set") [.ref l]) Q E s := by
  have many : items.size = ns.length := by rw [← IntsAre.length hit, Array.length_toList]
  obtain ⟨c, tl, hmro⟩ := F.called_set.mro
  have m1 := F.called_set.made
  have m2 := F.called_set.sub
  have m3 := F.called_set.notType
  have m4 := F.called_set.canCreate
  have m5 := F.typeCall_set_1 (.ref l)
  refine wpAny_call (codeAny_of_tree (show wpAny _ _ (callAny (.type "set") _) _ _ _ from wpAny_pure ⟨Code.quiet_builtin _ (by decide +kernel), codeAny_builtin F.entry_type_call ?_⟩))
  rw [Around.under_plain (weight_type_call_type "set" [.ref l] []) rfl]
  repeat (any_goals (first | assumption | wp_step))
  refine codeAny_mono (code_set_led1 (.ref l) (E := E) (Q₁ := fun obj s₁ => obj = .ref s.heap.objs.size ∧ s₁ = { s with heap := s.heap.push (freshSet w) }) ⟨rfl, rfl⟩) fun r s₁ hr => ?_
  cases r with
  | error e => exact hr
  | ok fl =>
   cases fl with
   | ret obj =>
    obtain ⟨rfl, rfl⟩ := hr
    have at0 : (s.heap.push (freshSet w)).get? s.heap.objs.size = some (freshSet w) := Heap.get?_push_size _ rfl
    have ty : Shared.TypeIs { s with heap := s.heap.push (freshSet w) } (.ref s.heap.objs.size) "set" := ⟨_, at0, rfl⟩
    have i1 := F.called_set.init.lookup
    have i2 := F.called_set.init.bind (.ref s.heap.objs.size)
    repeat (any_goals (first | assumption | wp_step))
    refine codeAny_mono (codeAny_call_builtin (R := wants (fun r s₂ => r = .none ∧ ∃ h' tk c, s₂ = { s with heap := h', toks := tk } ∧ SetR w h' s.heap.objs.size (fun j => decide (j ∈ ns)) c ∧ c ≤ ns.length ∧
      (∀ b o, s.heap.get? b = some o → h'.get? b = some o)) E) F.called_set.init.plain F.entry_set_init (check_set_init_1 ty ?_)) fun r₂ s₂ hr₂ => ?_
    · have old : l < s.heap.objs.size := by obtain ⟨_, ho, _⟩ := hl; exact Heap.lt_size ho
      obtain ⟨⟨ocls, odict, odata, oslots⟩, hol, hcl, nl, hdl⟩ := hl
      simp only at hcl hdl
      subst hcl hdl
      have hol' : (s.heap.push (freshSet w)).get? l = some { cls := .type "list", dict := odict, data := .seq items nl, slots := oslots } := Heap.get?_push_of_some _ hol
      have s1 := F.sub_list_set
      have s2 := F.sub_list_frozenset
      have s3 : (Value.type "list" == Value.type "dict") = false := by decide
      have lst : (s.heap.push (freshSet w)).IsList l items := ⟨_, hol', rfl, nl, rfl⟩
      unfold Builtin.«set.__init__» noKeywords Builtin.Frozenset.updateFrom
      generalize hPI : pyIter = PI
      wp_walk
      subst hPI
      refine wpAny_pyIter_list lst (wpAny_bind (wpAny_runValue ?_))
      have quiet : A.in1.in1.in1.handled = none := by simp [hh]
      have size1 : (s.heap.push (freshSet w)).objs.size = s.heap.objs.size + 1 := Heap.size_push ..
      refine set_update_ints ((Walks.list quiet (s.heap.push (freshSet w)).objs.size l (by rw [size1]; exact Nat.ne_of_lt (Nat.lt_succ_of_lt old)) items).toS) s.heap.objs.size (by rw [size1]; simp only [List.mem_cons, List.not_mem_nil, or_false, not_or]; exact ⟨Nat.ne_of_lt (Nat.lt_succ_self _), Nat.ne_of_gt old⟩) ns many hb (fun i v hv => ?_) (items.size - 0) 0 _ (by omega) (Nat.zero_le _)
        ⟨⟨_, Heap.get?_push_size _ rfl, rfl, rfl⟩, lst.push _⟩ ⟨0, Nat.le_refl 0, setR_new_at (Heap.get?_push_of_some _ at0)⟩ fun s' c' hm hc' hS' => ?_
      · have hi : i < ns.length := by rw [← many]; exact (Array.getElem?_eq_some_iff.mp hv).1
        obtain ⟨t, e⟩ := PyProof.Rows.IntsAre.int_at hit i v (by rw [Array.getElem?_toList]; exact hv)
        exact ⟨ns[i], t, List.getElem?_eq_getElem hi, by rw [e, List.getD_eq_getElem?_getD, List.getElem?_eq_getElem hi] <;> rfl⟩
      · obtain ⟨h', g2, d', tk', os'⟩ := s'
        obtain rfl : g2 = s.gens := hm.gens
        obtain rfl : d' = s.drawn := hm.drawn
        obtain rfl : os' = s.os := hm.os
        rw [many] at hc'
        refine wpAny_pure (wpAny_pure ⟨rfl, h', tk', c', rfl, hS', hc', fun b o e => ?_⟩)
        have hb0 : b < s.heap.objs.size := Heap.lt_size e
        exact hm.heap b o (by rw [size1]; simp only [List.mem_cons, List.not_mem_nil, or_false, not_or]; exact ⟨Nat.ne_of_lt hb0, Nat.ne_of_lt (Nat.lt_succ_of_lt hb0)⟩) (Heap.get?_push_of_some _ (Heap.get?_push_of_some _ e))
    · cases r₂ with
      | error e => exact hr₂
      | ok fl₂ =>
        cases fl₂ with
        | ret v =>
          obtain ⟨rfl, h', tk, c', rfl, hS', hc', k⟩ := hr₂
          repeat (any_goals (first | assumption | wp_step))
          exact h _ _ _ hS' hc' k
        | _ => exact hr₂.elim
   | _ => exact hr.elim
end
section
variable {X : Cx}
/-- set(xs), xs a list or a tuple of ints -/
def rSetI (K : PySem.W.Frag) (w : World) : List V → Hp → VK → Prop := fun xs H Q => ∃ (l : Addr) (ns : List Int), xs = [V.ref l] ∧ (SqL K H l (ns.map V.int) ∨ SqT K H l (ns.map V.int)) ∧ ns.length < 60 ∧
  ∀ a c, H a = none → c ≤ ns.length → Q (.ref a) (upd H a (SetO w a (fun j => decide (j ∈ ns)) c))
theorem cr_setI (hc : X.calm = true) : CallR X (.type "set") (rSetI X.K X.w) := by
  intro pins s σ H xs us Q I r h
  obtain ⟨l, ns, rfl, hq, few, q⟩ := h
  rw [Vals.ref1 r]
  have fin : ∀ (h' : Heap) (tk c : Nat), SetR X.w h' s.heap.objs.size (fun j => decide (j ∈ ns)) c → c ≤ ns.length → (∀ b o, s.heap.get? b = some o → h'.get? b = some o) → EP X pins σ Q (.ref s.heap.objs.size) { s with heap := h', toks := tk } := fun h' tk c R hcn k =>
    ⟨.ref s.heap.objs.size, upd H s.heap.objs.size (SetO X.w s.heap.objs.size (fun j => decide (j ∈ ns)) c), I.laid (t' := tk) k (Nat.le_refl _) (setO_new R), rfl, q _ c (I.hok.fresh (Nat.le_refl _)) hcn⟩
  have small : ns.length + 1 < scanBound := Nat.lt_trans (Nat.succ_lt_succ few) (by decide)
  rcases hq with hq | hq
  · obtain ⟨its, rv, pl, hz⟩ := I.list hq
    exact call_set_listI (P := X.prog) (w := X.w) ns (I.ok.hd hc) pl.isList (by simpa using ints_of_vals rv) small fin
  · obtain ⟨its, rv, pl, hz⟩ := I.tuple hq
    exact call_set_tupI (P := X.prog) (w := X.w) ns (I.ok.hd hc) pl (by simpa using ints_of_vals rv) small fin
end
end Kx

namespace Kx
open PySem PySem.Spec PyProof.Rows L2
/-! ### a list or a tuple that is tracked -/
def Qa (H : Hp) (a : Addr) (xs : List V) : Prop := H a = some (.lst xs) ∨ H a = some (.tup xs)
theorem Qa.sq {K : PySem.W.Frag} {H : Hp} {a : Addr} {xs : List V} (h : Qa H a xs) : SqL K H a xs ∨ SqT K H a xs := by
  rcases h with h | h
  · exact .inl (SqL.of h)
  · exact .inr (SqT.of h)
theorem Qa.same {H H' : Hp} {a : Addr} {xs : List V} (h : Qa H a xs) (s : Same H H') : Qa H' a xs := by
  rcases h with h | h
  · exact .inl (s _ _ h)
  · exact .inr (s _ _ h)
theorem same_upd {H H' : Hp} {p : Addr} {o : HO} (s : Same H H') (n : H' p = none) : Same H (upd H' p o) := fun b u e => by
  rw [upd_ne (ne_of_none (s b u e) n)]
  exact s b u e
section
variable {X : Cx}
/-- what a for walks: the list or tuple that slot i holds -/
def iSeqV (K : PySem.W.Frag) (i : Nat) : TI := fun σ H R => ∃ a xs, σ[i]? = some (some (.ref a)) ∧ ((SqL K H a xs ∧ R (Itl K a) H) ∨ (SqT K H a xs ∧ R (Itt K a) H))
theorem pi_seqV (i : Nat) {tg : Expr} {x : Str} {pos : Pos} (hN : X.N[i]? = some x := by rfl) (hv : Vis X.env.scope x := by first | exact Or.inl rfl | exact Or.inr (Or.inl rfl) | exact Or.inr (Or.inr rfl)) (hd : (x == ("__debug__" : Str)) = false := by decide)
    (hcd : (x == ("__classdict__" : Str)) = false := by decide) : PI X tg (.Name x pos) (iSeqV X.K i) := by
  refine ⟨fun pins s σ H R I h => ?_⟩
  obtain ⟨a, xs, e, hq | hq⟩ := h
  · exact (pi_list (pe_var hN hv hd hcd)).run pins s σ H R I ⟨_, e, a, rfl, ⟨xs, hq.1⟩, hq.2⟩
  · exact (pi_tup (pe_var hN hv hd hcd)).run pins s σ H R I ⟨_, e, a, rfl, ⟨xs, hq.1⟩, hq.2⟩
theorem for_seqV {K : PySem.W.Frag} {i : Nat} {a : Addr} {xs : List V} {g : TG} {tb : TS} {D : Ends} {σ : L2.St} {H : Hp} (e : σ[i]? = some (some (.ref a))) (q : Qa H a xs) (Pv : Nat → L2.St → Hp → Prop) (h0 : Pv 0 σ H)
    (hl : ∀ j σ' H', j ≤ xs.length → Pv j σ' H' → ∀ o, H a = some o → H' a = some o)
    (hs : ∀ j x σ' H', xs[j]? = some x → Pv j σ' H' → g x σ' H' fun σ2 H2 => tb { D with nx := Pv (j + 1), ct := Pv (j + 1), bk := D.nx } σ2 H2) (hd : ∀ σ' H', Pv xs.length σ' H' → D.nx σ' H') : tFor (iSeqV K i) g tb D σ H := by
  rcases q with q | q
  · exact ⟨a, xs, e, .inl ⟨SqL.of q, for_list (K := K) (a := a) (xs := xs) Pv h0 (fun j σ' H' hj p => SqL.of (hl j σ' H' hj p _ q)) hs hd⟩⟩
  · exact ⟨a, xs, e, .inr ⟨SqT.of q, for_tup (K := K) (a := a) (xs := xs) Pv h0 (fun j σ' H' hj p => SqT.of (hl j σ' H' hj p _ q)) hs hd⟩⟩
/-- a, b, .. = a list or a tuple of that length -/
def gSeq (K : PySem.W.Frag) (n : Nat) (t : TGs) : TG := fun v σ H Q => ∃ a xs, v = .ref a ∧ (SqL K H a xs ∨ SqT K H a xs) ∧ xs.length = n ∧ t xs σ H Q
theorem pg_seq {es : List Expr} {k : Nat} {t : TGs} {n : Nat} {pos : Pos} (hc : X.calm = true) (h : PGs X es t) (hn : (assignEach es X.env).length = n := by rfl) (hst : (assignEach es X.env).findIdx? (·.1) = none := by rfl) : PG X (.Tuple es k pos) (gSeq X.K n t) := by
  refine ⟨fun pins s σ H v u Q I r hw => ?_⟩
  obtain ⟨a, xs, e, hq | hq, hl, hw⟩ := hw
  · exact (pg_lst hc h hn hst).run pins s σ H v u Q I r ⟨a, xs, e, hq, hl, hw⟩
  · exact (pg_tup hc h hn hst).run pins s σ H v u Q I r ⟨a, xs, e, hq, hl, hw⟩
end
/-- a dict comprehension over the list or tuple that slot i holds -/
theorem dc_seqV {K : PySem.W.Frag} {i : Nat} {a : Addr} {xs : List V} {g : TG} {tt : TT} {tk tv : TE} {vs : List Nat} {σ : L2.St} {H : Hp} {Q : VK} (e : σ[i]? = some (some (.ref a))) (q : Qa H a xs) (Pv : Addr → Nat → Hp → Prop) (h0 : ∀ D, H D = none → Pv D 0 (upd H D (.dK [])))
    (hl : ∀ D j H', H D = none → j ≤ xs.length → Pv D j H' → ∀ o, H a = some o → H' a = some o)
    (hs : ∀ D j x H', H D = none → xs[j]? = some x → Pv D j H' → g x (wipe σ vs) H' fun σ2 H2 => wipe σ2 vs = wipe σ vs ∧ tt σ2 H2 fun b H3 =>
      if b = true then tk σ2 H3 fun y H4 => tv σ2 H4 fun z H5 => ∃ kvs k, y = kV k ∧ H5 D = some (.dK kvs) ∧ kvs.length < sizeLine ∧ Pv D (j + 1) (upd H5 D (.dK (putK kvs k z))) else Pv D (j + 1) H3)
    (hd : ∀ D H', H D = none → Pv D xs.length H' → Q (.ref D) H') : tDc (iSeqV K i) g tt tk tv vs σ H Q := by
  have core : ∀ {J : It} (G : Hp → Prop), Walk J xs.length G (YAt xs) → (∀ D j H', H D = none → j ≤ xs.length → Pv D j H' → G H') → ∀ D, H D = none → ∃ W : Nat → Nat → Hp → Prop, (∃ m, W 0 m (upd H D (.dK []))) ∧ ∀ i m H, W i m H →
      (J.stop i H ∧ Q (.ref D) H) ∨ (J.go i H ∧ ∃ Nx : Hp → Prop, (∀ H', Nx H' → ∃ m', m' < m ∧ W (i + 1) m' H') ∧ ∀ x H', J.yld i H x H' → g x (wipe σ vs) H' fun σ2 H2 => wipe σ2 vs = wipe σ vs ∧ tt σ2 H2 fun b H3 =>
        if b = true then tk σ2 H3 fun y H4 => tv σ2 H4 fun z H5 => ∃ kvs k, y = kV k ∧ H5 D = some (.dK kvs) ∧ kvs.length < sizeLine ∧ Nx (upd H5 D (.dK (putK kvs k z))) else Nx H3) := by
    intro J G w hG D hD
    refine ⟨fun i m H' => m = xs.length - i ∧ i ≤ xs.length ∧ Pv D i H', ⟨xs.length, by simp, Nat.zero_le _, h0 D hD⟩, ?_⟩
    rintro i m H' ⟨rfl, hi, p⟩
    have q := hG D i H' hD hi p
    by_cases hlt : i < xs.length
    · refine .inr ⟨w.goes i H' hlt q, Pv D (i + 1), fun H2 p' => ⟨xs.length - (i + 1), by omega, rfl, hlt, p'⟩, fun x H2 y => ?_⟩
      obtain ⟨e1, e2⟩ := w.yields i H' x H2 hlt q y
      subst e1
      exact hs D i x _ hD e2 p
    · have e : i = xs.length := by omega
      subst e
      exact .inl ⟨w.stops H' q, hd D H' hD p⟩
  rcases q with q | q
  · exact ⟨a, xs, e, .inl ⟨SqL.of q, core _ walk_list fun D j H' hD hj p => SqL.of (hl D j H' hD hj p _ q)⟩⟩
  · exact ⟨a, xs, e, .inr ⟨SqT.of q, core _ walk_tup fun D j H' hD hj p => SqT.of (hl D j H' hD hj p _ q)⟩⟩
section
variable {X : Cx}
/-- name = {k: v for ..} on one line, the name a local -/
theorem ps_setDc {i : Nat} {y : Str} {py : Pos} {kx vx tg iter : Expr} {ifs : List Expr} {scope : Scope} {own : List (Str × Nat)} {pos spos : Pos} {wi : TI} {g : TG} {tt : TT} {tk tv : TE} (hc : X.calm = true) (hN : X.N.Nodup) (hy : X.N[i]? = some y) (hyl : X.env.scope.names.lookup y = some .local)
    (hsw : swapsWith (.DictComp kx vx [⟨tg, iter, ifs, 0⟩] scope pos) (some (.Name y py)) spos.line X.env = pure true) (hi : PI X tg iter wi) (ok : BlkOk X.N X.env.scope scope own)
    (hg : ∀ (s : Shared) (H : Hp) (C : Addr) (cl : List (Str × Addr)) (fp : List Addr), PG (X.blk s H scope (compEnvC scope cl C X.env) fp) tg g) (ht : ∀ (s : Shared) (H : Hp) (C : Addr) (cl : List (Str × Addr)) (fp : List Addr), PTs (X.blk s H scope (compEnvC scope cl C X.env) fp) ifs tt)
    (hk : ∀ (s : Shared) (H : Hp) (C : Addr) (cl : List (Str × Addr)) (fp : List Addr), PE (X.blk s H scope (compEnvC scope cl C X.env) fp) kx tk)
    (he : ∀ (s : Shared) (H : Hp) (C : Addr) (cl : List (Str × Addr)) (fp : List Addr), PE (X.blk s H scope (compEnvC scope cl C X.env) fp) vx tv) (hs : ∀ x, foldedSetIterable iter X.env x = pure x := by intro _; rfl) :
    PS X (.Assign [.Name y py] (.DictComp kx vx [⟨tg, iter, ifs, 0⟩] scope pos) spos) (tAsg (tDc wi g tt tk tv (own.map (·.2))) (gName i)) := by
  refine ⟨fun pins s σ H D I h => ?_⟩
  rw [exec_Assign_Name_used _ _ _ _ hsw]
  refine wpAny_bind (wpAny_standAt (wpAny_bind ?_))
  show wpAny _ X.A (do let _ ← comprehension (.DictComp kx vx [⟨tg, iter, ifs, 0⟩] scope pos) scope X.env (firstIterPos [⟨tg, iter, ifs, 0⟩] pos) newDict false (eval iter X.env) (some (assign (.Name y py) X.env))) _ _ s
  refine wpAny_bind (thn (dc_core (Qf := fun _ s' => SP X pins D .next s') hc hN I hi ok hg ht hk he hs (show tDc wi g tt tk tv (own.map (·.2)) σ H (fun x H1 => gName i x σ H1 D.nx) from h) fun L C s' m H' I' q hn f => ?_) fun _ s' hq => wpAny_pure (wpAny_pure hq))
  show wpAny _ _ (assign (.Name y py) X.env (.ref L)) _ _ _
  obtain ⟨f0, f1, f2, f3, f4, f5⟩ := f
  refine wpAny_assign_Name (store_ok2 (v := V.ref L) I' hN hy (.inl hyl) rfl (fun s2 I2 ⟨a, sb, ha⟩ => ?_) (.inr hyl))
  have apart : C ≠ a := by
    rcases ha with z | z
    · rw [z]; exact f1
    · exact fun e => f4 y a z e.symm
  exact ⟨m, hn.sameBut sb apart, fun h3 sb3 => ⟨_, H', I2.turned (t' := s2.toks) (fun b o hb e => (sb3.2 b hb).trans e) f0 f1 f3 f4 f5, q⟩⟩
theorem sw_dict {kx vx : Expr} {gs : List Comprehension} {scope : Scope} {pos py : Pos} {y : Str} {l : Nat} {env : Env} (hk : env.scope.kind = .function) (hy : env.scope.names.lookup y = some .local) (hl : (py.line == pos.line) = true)
    (ha : (scope.names.any fun (n, k) => n == y && (k == .local || k == .cell)) = false) : swapsWith (.DictComp kx vx gs scope pos) (some (.Name y py)) l env = pure true := by
  have ky : env.kindOf y = some .local := hy
  have hb : env.blockKind = .function := by unfold Env.blockKind; rw [hk]; rfl
  unfold swapsWith
  simp only [hb, ky, ha, Expr.pos, hl]
  rfl
end
/-- tuple(x) of a list or a tuple -/
theorem tuple_of {K : PySem.W.Frag} {H : Hp} {t : Addr} {xs : List V} {Q : VK} (h : Qa H t xs) (k : ∀ b H', Same H H' → H' b = some (.tup xs) → Q (.ref b) H') :
    ∃ p ys, [V.ref t] = [V.ref p] ∧ ((SqL K H p ys ∧ ∀ l, H l = none → Q (.ref l) (upd H l (.tup ys))) ∨ (SqT K H p ys ∧ Q (.ref p) H)) := by
  rcases h with h | h
  · exact ⟨t, xs, rfl, .inl ⟨SqL.of h, fun l hl => k l _ (same_upd (Same.refl H) hl) upd_same⟩⟩
  · exact ⟨t, xs, rfl, .inr ⟨SqT.of h, k t H (Same.refl H) h⟩⟩
section
variable {X : Cx}
/-- a call's rule by a weaker promise -/
theorem call_weak {f : Value} {r r' : List V → Hp → VK → Prop} (h : CallR X f r) (w : ∀ xs H Q, r' xs H Q → r xs H Q) : CallR X f r' := fun pins s σ H xs us Q I rv p => h pins s σ H xs us Q I rv (w xs H Q p)
/-- tuple(x), list(x) of a tracked list or tuple -/
theorem call_tupleQ : CallR X (.type "tuple") (fun xs H Q => ∃ p ys, xs = [.ref p] ∧ Qa H p ys ∧ ∀ b H', Same H H' → H' b = some (.tup ys) → Q (.ref b) H') :=
  call_weak call_tuple_of fun xs H Q ⟨p, ys, e, h, k⟩ => by
    subst e
    rcases h with h | h
    · exact ⟨p, ys, rfl, .inl ⟨SqL.of h, fun l hl => k l _ (same_upd (Same.refl H) hl) upd_same⟩⟩
    · exact ⟨p, ys, rfl, .inr ⟨SqT.of h, k p H (Same.refl H) h⟩⟩
theorem call_listQ : CallR X (.type "list") (fun xs H Q => ∃ p ys, xs = [.ref p] ∧ Qa H p ys ∧ ∀ l, H l = none → Q (.ref l) (upd H l (.lst ys))) :=
  call_weak call_list_of fun xs H Q ⟨p, ys, e, h, k⟩ => ⟨p, ys, e, h.sq, k⟩
end
theorem seq_setDc {wi : TI} {g : TG} {tt : TT} {tk tv : TE} {vs : List Nat} {i : Nat} {u : TS} {D : Ends} {σ : L2.St} {H : Hp} (h : tDc wi g tt tk tv vs σ H fun x H1 => gName i x σ H1 (u D)) : tSeq (tAsg (tDc wi g tt tk tv vs) (gName i)) u D σ H := h
theorem notin_take {α : Type} : ∀ {l : List α} {i : Nat} {x : α}, l.Nodup → l[i]? = some x → x ∉ l.take i
  | [], _, _, _, h => by simp at h
  | a :: r, 0, _, _, _ => by simp
  | a :: r, i + 1, x, nd, h => by
    obtain ⟨n1, n2⟩ := List.nodup_cons.mp nd
    have h' : r[i]? = some x := h
    rw [List.take_succ_cons, List.mem_cons, not_or]
    exact ⟨fun e => n1 (by rw [← e]; exact List.mem_of_getElem? h'), notin_take n2 h'⟩
end Kx

namespace Kx
open PySem PySem.Spec PyProof.Rows L2
/-! ### webs in plain Lean: what is reached -/
abbrev Edge := Int × Int
inductive Reach (es : List Edge) : Int → Int → Prop
  | refl (u : Int) : Reach es u u
  | step {u m v : Int} : (u, m) ∈ es → Reach es m v → Reach es u v
theorem Reach.trans {es : List Edge} {u m v : Int} (a : Reach es u m) (b : Reach es m v) : Reach es u v := by
  induction a with
  | refl => exact b
  | step e _ ih => exact .step e (ih b)
theorem Reach.one {es : List Edge} {u v : Int} (h : (u, v) ∈ es) : Reach es u v := .step h (.refl v)
theorem Reach.more {es es' : List Edge} {u v : Int} (s : ∀ e ∈ es, e ∈ es') (a : Reach es u v) : Reach es' u v := by
  induction a with
  | refl => exact .refl _
  | step e _ ih => exact .step (s _ e) ih
def turned (es : List Edge) : List Edge := es.map fun e => (e.2, e.1)
theorem mem_turned {es : List Edge} {u v : Int} : (u, v) ∈ turned es ↔ (v, u) ∈ es := by
  unfold turned
  rw [List.mem_map]
  constructor
  · rintro ⟨⟨a, b⟩, h, e⟩
    cases e
    exact h
  · intro h
    exact ⟨(v, u), h, rfl⟩
theorem Reach.back {es : List Edge} {u v : Int} (a : Reach es u v) : Reach (turned es) v u := by
  induction a with
  | refl => exact .refl _
  | step e _ ih => exact ih.trans (.one (mem_turned.mpr e))
theorem Reach.unturn {es : List Edge} {u v : Int} (a : Reach (turned es) u v) : Reach es v u := by
  induction a with
  | refl => exact .refl _
  | step e _ ih => exact ih.trans (.one (mem_turned.mp e))
theorem Reach.closed {es : List Edge} {S : List Int} (c : ∀ u ∈ S, ∀ v, (u, v) ∈ es → v ∈ S) {u v : Int} (a : Reach es u v) (h : u ∈ S) : v ∈ S := by
  induction a with
  | refl => exact h
  | step e _ ih => exact ih (c _ h _ e)
/-- a web whose parts are as the constructor asks -/
structure Good (n : Int) (es : List Edge) (e : Int) (xs : List Int) : Prop where
  n1 : 1 ≤ n
  n2 : n ≤ 24
  few : es.length < 60
  rng : ∀ p ∈ es, 0 ≤ p.1 ∧ p.1 < n ∧ 0 ≤ p.2 ∧ p.2 < n
  nd : es.Nodup
  e0 : 0 ≤ e
  e1 : e < n
  x0 : xs ≠ []
  xr : ∀ x ∈ xs, 0 ≤ x ∧ x < n
  xf : xs.length < 60
  fwd : ∀ v, 0 ≤ v → v < n → Reach es e v
  bwd : ∀ v, 0 ≤ v → v < n → ∃ x ∈ xs, Reach es v x
/-! ### the search -/
theorem len_le_of_sub {α : Type} [DecidableEq α] : ∀ (l m : List α), l.Nodup → (∀ x ∈ l, x ∈ m) → l.length ≤ m.length
  | [], m, _, _ => Nat.zero_le _
  | a :: r, m, nd, s => by
    obtain ⟨h1, h2⟩ := List.nodup_cons.mp nd
    have ha : a ∈ m := s a List.mem_cons_self
    have ih := len_le_of_sub r (m.erase a) h2 fun x hx => (List.mem_erase_of_ne (fun e => h1 (by rw [← e]; exact hx))).mpr (s x (List.mem_cons_of_mem _ hx))
    have e := List.length_erase_of_mem ha
    have p : 0 < m.length := List.length_pos_of_mem ha
    rw [List.length_cons]
    omega
/-- S found, W waiting -/
structure Seek (ss : List Int) (es : List Edge) (S W : List Int) : Prop where
  nd : S.Nodup
  sub : ∀ w ∈ W, w ∈ S
  st : ∀ s ∈ ss, s ∈ S
  sound : ∀ v ∈ S, ∃ s ∈ ss, Reach es s v
  bd : ∀ v ∈ S, v ∈ ss ++ es.map (·.2)
  closed : ∀ u ∈ S, u ∉ W → ∀ v, (u, v) ∈ es → v ∈ S
theorem Seek.len {ss : List Int} {es : List Edge} {S W : List Int} (k : Seek ss es S W) : S.length ≤ ss.length + es.length := by
  have := len_le_of_sub S (ss ++ es.map (·.2)) k.nd k.bd
  rw [List.length_append, List.length_map] at this
  exact this
/-- within a turn: p is taken off, j edges were looked at -/
structure Inn (es : List Edge) (p : Int) (S W : List Int) (j : Nat) (S' W' : List Int) : Prop where
  nd : S'.Nodup
  s1 : ∀ v ∈ S, v ∈ S'
  w1 : ∀ v ∈ W, v ∈ W'
  new : ∀ v ∈ S', v ∈ S ∨ (v ∈ W' ∧ (p, v) ∈ es)
  wn : ∀ v ∈ W', v ∈ W ∨ v ∈ S'
  got : ∀ v, (p, v) ∈ es.take j → v ∈ S'
  len : S'.length + W.length = W'.length + S.length
theorem Inn.start {es : List Edge} {p : Int} {S W : List Int} (h : S.Nodup) : Inn es p S W 0 S W :=
  ⟨h, fun _ h => h, fun _ h => h, fun _ h => .inl h, fun _ h => .inl h, fun v h => by simp at h, Nat.add_comm _ _ ▸ rfl⟩
theorem take_next {α : Type} {l : List α} {i : Nat} {x : α} (h : l[i]? = some x) : l.take (i + 1) = l.take i ++ [x] := by
  rw [List.take_add_one, h]
  rfl
theorem Inn.skip {es : List Edge} {p : Int} {S W S' W' : List Int} {j : Nat} {b e : Int} (k : Inn es p S W j S' W') (h : es[j]? = some (b, e)) (no : b ≠ p ∨ e ∈ S') : Inn es p S W (j + 1) S' W' :=
  ⟨k.nd, k.s1, k.w1, k.new, k.wn, fun v hv => by
      rw [take_next h, List.mem_append] at hv
      rcases hv with hv | hv
      · exact k.got v hv
      · have q := List.mem_singleton.mp hv
        injection q with q1 q2
        rcases no with no | no
        · exact absurd q1.symm no
        · rw [q2]; exact no, k.len⟩
theorem Inn.put {es : List Edge} {p : Int} {S W S' W' : List Int} {j : Nat} {e : Int} (k : Inn es p S W j S' W') (h : es[j]? = some (p, e)) (no : e ∉ S') : Inn es p S W (j + 1) (S' ++ [e]) (W' ++ [e]) where
  nd := nd_snoc k.nd no
  s1 := fun v h => List.mem_append_left _ (k.s1 v h)
  w1 := fun v h => List.mem_append_left _ (k.w1 v h)
  new := fun v hv => by
    rcases List.mem_append.mp hv with hv | hv
    · rcases k.new v hv with z | ⟨z1, z2⟩
      · exact .inl z
      · exact .inr ⟨List.mem_append_left _ z1, z2⟩
    · rw [List.mem_singleton.mp hv]
      exact .inr ⟨List.mem_append_right _ List.mem_cons_self, List.mem_of_getElem? h⟩
  wn := fun v hv => by
    rcases List.mem_append.mp hv with hv | hv
    · rcases k.wn v hv with z | z
      · exact .inl z
      · exact .inr (List.mem_append_left _ z)
    · exact .inr (List.mem_append_right _ hv)
  got := fun v hv => by
    rw [take_next h, List.mem_append] at hv
    rcases hv with hv | hv
    · exact List.mem_append_left _ (k.got v hv)
    · have q := List.mem_singleton.mp hv
      injection q with q1 q2
      rw [q2]
      exact List.mem_append_right _ List.mem_cons_self
  len := by
    have := k.len
    rw [List.length_append, List.length_append, List.length_singleton]
    omega
theorem Seek.turn {ss : List Int} {es : List Edge} {S W S' W' : List Int} {p : Int} (k : Seek ss es S (W ++ [p])) (i : Inn es p S W es.length S' W') : Seek ss es S' W' where
  nd := i.nd
  sub := fun v hv => by
    rcases i.wn v hv with z | z
    · exact i.s1 v (k.sub v (List.mem_append_left _ z))
    · exact z
  st := fun s h => i.s1 s (k.st s h)
  sound := fun v hv => by
    rcases i.new v hv with z | ⟨_, z⟩
    · exact k.sound v z
    · obtain ⟨s, hs, r⟩ := k.sound p (k.sub p (List.mem_append_right _ List.mem_cons_self))
      exact ⟨s, hs, r.trans (.one z)⟩
  bd := fun v hv => by
    rcases i.new v hv with z | ⟨_, z⟩
    · exact k.bd v z
    · exact List.mem_append_right _ (List.mem_map.mpr ⟨(p, v), z, rfl⟩)
  closed := fun u hu hw v he => by
    by_cases e : u = p
    · rw [e] at he
      exact i.got v (by rw [List.take_length]; exact he)
    · rcases i.new u hu with z | ⟨z, _⟩
      · refine i.s1 v (k.closed u z (fun m => ?_) v he)
        rcases List.mem_append.mp m with m | m
        · exact hw (i.w1 u m)
        · exact e (List.mem_singleton.mp m)
      · exact absurd z hw
theorem Seek.done {ss : List Int} {es : List Edge} {S : List Int} (k : Seek ss es S []) (v : Int) : v ∈ S ↔ ∃ s ∈ ss, Reach es s v :=
  ⟨k.sound v, fun ⟨s, hs, r⟩ => r.closed (fun u hu w he => k.closed u hu (by simp) w he) (k.st s hs)⟩
/-! ### a dict of True -/
def dS (S : List Int) : List (Key × V) := S.map fun i => ((Sum.inl i : Key), V.bl true)
theorem dS_val (S : List Int) (i : Int) : valV (dS S) (Sum.inl i) = if i ∈ S then some (V.bl true) else none := by
  induction S with
  | nil => simp [dS, valV]
  | cons a r ih =>
    show valV (((Sum.inl a : Key), V.bl true) :: dS r) (Sum.inl i) = _
    by_cases e : a = i
    · subst e
      rw [valV_pos rfl, if_pos List.mem_cons_self]
    · rw [valV_neg (fun z => e (Sum.inl.inj z)), ih]
      by_cases m : i ∈ r
      · rw [if_pos m, if_pos (List.mem_cons_of_mem _ m)]
      · rw [if_neg m, if_neg]
        intro z
        rcases List.mem_cons.mp z with z | z
        · exact e z.symm
        · exact m z
theorem dS_len (S : List Int) : (dS S).length = S.length := List.length_map ..
theorem dS_put_new {S : List Int} {i : Int} (h : i ∉ S) : putK (dS S) (Sum.inl i) (V.bl true) = dS (S ++ [i]) := by
  rw [putK_new _ (by rw [dS_val, if_neg h])]
  unfold dS
  rw [List.map_append]
  rfl
theorem dS_put_old {S : List Int} {i : Int} (h : i ∈ S) : putK (dS S) (Sum.inl i) (V.bl true) = dS S := by
  unfold putK
  rw [valV_any, dS_val, if_pos h, Option.isSome_some, if_pos rfl]
  unfold dS
  rw [List.map_map]
  refine List.map_congr_left fun j _ => ?_
  show (if (Sum.inl j : Key) = Sum.inl i then ((Sum.inl j : Key), V.bl true) else ((Sum.inl j : Key), V.bl true)) = _
  split <;> rfl
/-- what the comprehension has found behind the first of ss -/
structure Firsts (ss : List Int) (S : List Int) : Prop where
  nd : S.Nodup
  mem : ∀ v, v ∈ S ↔ v ∈ ss
theorem Firsts.next {ss S : List Int} {s : Int} (f : Firsts ss S) : Firsts (ss ++ [s]) (if s ∈ S then S else S ++ [s]) := by
  by_cases h : s ∈ S
  · rw [if_pos h]
    refine ⟨f.nd, fun v => ?_⟩
    rw [List.mem_append, List.mem_singleton, f.mem]
    constructor
    · exact .inl
    · rintro (z | z)
      · exact z
      · rw [z]; exact (f.mem s).mp h
  · rw [if_neg h]
    refine ⟨nd_snoc f.nd h, fun v => ?_⟩
    rw [List.mem_append, List.mem_append, f.mem]
theorem dS_put (S : List Int) (i : Int) : putK (dS S) (Sum.inl i) (V.bl true) = dS (if i ∈ S then S else S ++ [i]) := by
  by_cases h : i ∈ S
  · rw [if_pos h, dS_put_old h]
  · rw [if_neg h, dS_put_new h]
theorem Firsts.len {ss S : List Int} (f : Firsts ss S) : S.length ≤ ss.length := len_le_of_sub S ss f.nd fun v h => (f.mem v).mp h
theorem Firsts.seek {ss S : List Int} (f : Firsts ss S) (es : List Edge) : Seek ss es S ss where
  nd := f.nd
  sub := fun w h => (f.mem w).mpr h
  st := fun w h => (f.mem w).mpr h
  sound := fun v h => ⟨v, (f.mem v).mp h, .refl v⟩
  bd := fun v h => List.mem_append_left _ ((f.mem v).mp h)
  closed := fun u h n => absurd ((f.mem u).mp h) n
end Kx

namespace Kx
open PySem PySem.Spec PyProof.Rows L2
/-! ### == by an own __eq__, whatever it answers -/
section
variable {X : Cx}
def rEqOwn (C : Addr) (sp : Sp) (E : XK) : R2 := fun x y H Q => ∃ a b dx dy fs gs, x = .ref a ∧ y = .ref b ∧ H a = some (.ins C dx fs) ∧ H b = some (.ins C dy gs) ∧ sp [.ref a, .ref b] H Q E
theorem op_eqOwn {CX : CXT} {n : Nat} {C f : Addr} {fd : FuncData} {ps : List Str} {sp : Sp} {E : XK} (F : FnOk X.prog X.w X.K X.mg X.base CX n f fd ps sp) (hr : Room n X.A)
    (hs : PySem.W.findIn X.K (.ref C) "__eq__" = some (some (.ref f))) (hf : PySem.W.isFn X.K (.ref f) = true) (hb : Binds X.K fd ps []) (hx : Passes CX X E) : OpR X (compareOp .Eq) (rEqOwn C sp E) := by
  intro pins s σ H x y v u Q I rx ry d
  obtain ⟨a, b, dx, dy, fs, gs, rfl, rfl, ha, hb', q⟩ := d
  cases rx
  cases ry
  obtain ⟨mA, J, _⟩ := ins_get I.hok ha
  obtain ⟨mB, J', _⟩ := ins_get I.hok hb'
  obtain ⟨od, J, _⟩ := J.look
  obtain ⟨od', J', _⟩ := J'.look
  obtain ⟨m, hF⟩ := I.fr
  show wpAny (model X.prog X.w) X.A (richCompare .Eq (.ref a) (.ref b)) (EP X pins σ Q) X.xe s
  refine PySem.W.cmp_K (op := .Eq) (tb := .ref C) hr.units0 hF I.ok.mod.kin J J'.type (by simp [PySem.W.notFirst]) hs hf ?_
  have hl := F.len _ _ _ _ q
  have r2 : Vals [V.ref a, V.ref b] [Value.ref a, Value.ref b] := .cons rfl (.cons rfl .nil)
  refine wpAny_call (codeAny_mono (F.run X.A X.stack s H ⟨[.ref a, .ref b], []⟩ [.ref a, .ref b] [.ref a, .ref b] _ E hr I.env0 (by
    have := hb s [.ref a, .ref b] I.kIn (by simpa using hl)
    simpa using this) r2 q) fun r s' hq => ?_)
  cases r with
  | error e => exact hx pins σ H s e s' I hq
  | ok fl =>
    cases fl with
    | ret w =>
      obtain ⟨z, H', I', rz, qz⟩ := I.after hq
      exact SlX.cmpback rz ⟨z, H', I', rz, qz⟩
    | next => exact False.elim hq
    | brk => exact False.elim hq
    | cont => exact False.elim hq
end
/-! ### t.index(x), flat items -/
section
variable {X : Cx}
def rIndexT (K : PySem.W.Frag) : V → List V → Hp → VK → Prop := fun x xs H Q => ∃ (a : Addr) (ys : List Int) (y : Int) (j : Nat), x = V.ref a ∧ xs = [.int y] ∧ SqT K H a (ys.map V.int) ∧ ys[j]? = some y ∧ (∀ m, m < j → ys[m]? ≠ some y) ∧ Q (.int (j : Nat)) H
theorem mt_tup_indexI : MtR X "tuple.index" (rIndexT X.K) := by
  intro pins s σ H x xs v us Q I rx rxs h
  obtain ⟨a, ns, y, j, rfl, rfl, hs, hz, hno, q⟩ := h
  cases rx
  have fys : (ns.map V.int).all flatV = true := by
    rw [List.all_eq_true]
    intro v hv
    obtain ⟨_, _, rfl⟩ := List.mem_map.mp hv
    rfl
  obtain ⟨uy, rfl, ry⟩ := rxs.one
  obtain ⟨its, rv, pl, hlen⟩ := I.tuple hs
  obtain ⟨⟨cls, dd, dt, sl⟩, ho, hc, n, hd⟩ := pl
  simp only at hc hd
  subst hc
  subst hd
  have hz' : (ns.map V.int)[j]? = some (.int y) := by rw [List.getElem?_map, hz]; rfl
  obtain ⟨u, hu, ru⟩ := rv.get hz'
  obtain ⟨hjl, hje⟩ := List.getElem?_eq_some_iff.mp hu
  have hvl := rv.length
  have hj : j < its.toArray.size := by simpa using hjl
  refine call_meets PySem.F.slot_tuple_index ⟨_, ho, rfl⟩ PySem.F.entry_tuple_index (PySem.F.args_tuple_index_2 _ _)
    (TI.tuple_indexAt a its.toArray n dd sl uy (eqU (.int y)) j hj ?_ ?_) ⟨ho, fun u' hu' => mem_eqAt ry rfl rv fys u' (by simpa using hu'), ?_⟩
  · have e1 : its.toArray[j] = u := by simpa using hje
    rw [e1, eqU_of ru rfl]
    show (y == y) = true
    exact beq_self_eq_true y
  · intro m hm hmj
    have hml : m < its.length := by simpa using hm
    have hmy : m < (ns.map V.int).length := by omega
    have hmn : m < ns.length := by simpa using hmy
    have hy' : (ns.map V.int)[m]? = some (.int ns[m]) := by rw [List.getElem?_map, List.getElem?_eq_getElem hmn]; rfl
    obtain ⟨u2, hu2, ru2⟩ := rv.get hy'
    obtain ⟨_, hme⟩ := List.getElem?_eq_some_iff.mp hu2
    have e1 : its.toArray[m] = u2 := by simpa using hme
    rw [e1, eqU_of ru2 rfl]
    have ne : ns[m] ≠ y := fun e => hno m hmj (by rw [List.getElem?_eq_getElem hmn, e])
    show (ns[m] == y) = false
    exact beq_false_of_ne ne
  · exact ⟨.int (j : Nat), H, I.tok _, ⟨_, rfl⟩, q⟩
theorem inV_ints (y : Int) : ∀ ns : List Int, inV (.int y) (ns.map V.int) = decide (y ∈ ns)
  | [] => rfl
  | a :: r => by
    have ih := inV_ints y r
    unfold inV at ih ⊢
    rw [List.map_cons, List.any_cons, ih]
    show ((a == y) || decide (y ∈ r)) = _
    rw [Bool.eq_iff_iff, Bool.or_eq_true, beq_iff_eq, decide_eq_true_iff, decide_eq_true_iff, List.mem_cons]
    exact ⟨fun z => z.elim (fun z => .inl z.symm) .inr, fun z => z.elim (fun z => .inl z.symm) .inr⟩
theorem flat_ints (ns : List Int) : (ns.map V.int).all flatV = true := by
  rw [List.all_eq_true]
  intro v hv
  obtain ⟨_, _, rfl⟩ := List.mem_map.mp hv
  rfl
end
/-! ### a tuple whose object is known: its methods -/
theorem sqF {K : PySem.W.Frag} {H : Hp} {a : Addr} {o : Obj} {xs : List V} (h : H a = some (.frz o (.tup xs))) : SqT K H a xs := .inl (.inr ⟨o, h⟩)
section
variable {X : Cx}
theorem call_tupleF : CallR X (.type "tuple") (fun xs H Q => ∃ p ys, xs = [.ref p] ∧ SqL X.K H p ys ∧ ∀ l (o : Obj), H l = none → o.cls = .type "tuple" → o.dict = none → Q (.ref l) (upd H l (.frz o (.tup ys)))) := by
  intro pins s σ H xs us Q I r h
  obtain ⟨p, ys, rfl, hq, q⟩ := h
  obtain ⟨u, rfl, rx⟩ := vals1 r
  cases rx
  obtain ⟨its, r', pl, hz⟩ := I.list hq
  have hlen := r'.length
  refine call_tuple_list pl.isList (fun h' kp => ?_) (by simp only [List.size_toArray] <;> omega)
  have I1 : Inv X pins σ H { s with heap := h' } := I.kept (t' := s.toks) kp
  have I2 : Inv X pins σ (upd H h'.objs.size (.frz { cls := .type "tuple", data := .seq its.toArray } (.tup ys))) { s with heap := h'.push { cls := .type "tuple", data := .seq its.toArray } } :=
    I1.laid (t' := s.toks) (fun b o e => Heap.get?_push_of_some _ e) (Nat.le_refl _) (show ObjOk X.prog X.w _ _ _ (.frz _ (.tup ys)) from ⟨Heap.get?_push_size _ rfl, hz, its, r', IsTup.new _ _⟩)
  exact ⟨.ref h'.objs.size, _, I2, rfl, q _ _ (I1.hok.fresh (Nat.le_refl _)) rfl rfl⟩
def tBMT (r : V → List V → Hp → VK → Prop) (to : TE) (t : TA) : TE := fun σ H Q => to σ H fun x H1 => ∃ p o ys, x = .ref p ∧ H1 p = some (.frz o (.tup ys)) ∧ o.cls = .type "tuple" ∧ o.dict = none ∧ t σ H1 fun xs H2 => r x xs H2 Q
theorem pe_bmT {o e : Expr} {es : List Expr} {to : TE} {t : TA} {name : Str} {apos cpos : Pos} {id : String} {r : V → List V → Hp → VK → Prop} (pa : PlainAttrs "tuple") (slot : Slot "tuple" name id) (hty : typeOf (.builtin id) = pure (.type "method_descriptor")) (hm : MtR X id r) (ho : PE X o to) (ha : PA X (e :: es) t)
    (hbase : attributeBase o name X.env (eval o X.env) = eval o X.env := by rfl)
    (hfew : ((backTo cpos (starEach (e :: es) X.env)).all (fun x => !x.1) && (backToKw cpos (keywordEach [] X.env)).all (fun x => x.1.isSome)
      && decide ((e :: es).length + ([] : List Keyword).length + (if ([] : List Keyword).isEmpty then 0 else 1) < 30)) = true := by rfl)
    (hline : (apos.endLine == cpos.line) = true := by rfl) (hs : starEach (e :: es) X.env = (false, eval e X.env) :: starEach es X.env := by rfl) (hplain : (backTo cpos (starEach es X.env)).any (·.1) = false := by rfl) :
    PE X (.Call (.Attribute o name apos) (e :: es) [] cpos) (tBMT r to t) := by
  refine ⟨fun pins s σ H Q I h => ?_⟩
  refine wpAny_Call_method_late hbase hfew hline rfl (thn (ho.run pins s σ H _ I h) fun v s1 ⟨x, H1, I1, r1, p, ob, ys, ex, hp, hc, hd, q1⟩ => ?_)
  subst ex
  cases r1
  obtain ⟨ho1, _⟩ := I1.hok p _ hp
  refine ⟨"tuple", id, pa, slot, hty, ⟨ob, ho1, hc⟩, fun a ea => ?_, ?_⟩
  · cases ea
    exact ⟨ob, ho1, hd⟩
  have hA := ha.run cpos pins s1 σ H1 _ I1 q1
  rw [hs] at hA ⊢
  refine Calls.callWith_builtin (by show (false || (backTo cpos (starEach es X.env)).any (·.1)) = false; rw [hplain] <;> rfl) (Calls.evalArgs_plain ?_)
  exact thn hA fun us s2 ⟨vs, H2, I2, r2, q2⟩ => hm pins s2 σ H2 (.ref p) vs _ us Q I2 rfl r2 q2
end
/-! ### raise C(e), C an error with its __init__ -/
section
variable {X : Cx} {C : Addr} {f x : Str} {e : Expr} {es : List Expr} {ta : TA} {p pos : Pos}
def wkA (ta : TA) : TA := fun σ H Q => ∃ Q0, ta σ H Q0 ∧ ∀ vs H', Q0 vs H' → Q vs H'
theorem pa_wk (ha : PA X es ta) : PA X es (wkA ta) := ⟨fun pos pins s σ H Q I ⟨Q0, h, w⟩ => wpAny_mono (ha.run pos pins s σ H Q0 I h) (fun us s1 ⟨vs, H1, I1, r, q⟩ => ⟨vs, H1, I1, r, w vs H1 q⟩) fun _ _ x => x⟩
def tRs (C : Addr) (f : Str) (ta : TA) : L2.St → Hp → XK → Prop := fun σ H Q => ta σ H fun vs H1 => ∃ v, vs = [v] ∧ ∀ (d : Addr) (H2 : Hp), H1 d = none → H2 d = some (.xd [(f, v)]) → Same H1 H2 → Q (.ref C) (some d) H2
theorem pmk_errF (T : ErrI X.prog X.w X.K X.mg X.base C f) (hr : Room 2 X.A) (hg : Gl X x) (hm : X.mg x = some (.ref C)) (ha : PA X [e] ta)
    (hdb : (x == ("__debug__" : Str)) = false := by decide) (he : starEach [e] X.env = (false, eval e X.env) :: starEach [] X.env := by rfl) (hpl : (backTo pos (starEach [] X.env)).any (·.1) = false := by rfl) :
    PMk X (.Call (.Name x p) [e] [] pos) (tRs C f ta) := by
  obtain ⟨fI, fd, iC, tI, F1, hb⟩ := T.init
  intro pins s σ H Q I h
  refine pmk_oex (dvs := []) (ds := []) T.o iC tI F1 hr hb .nil pass0 hg hm (pa_wk ha) hdb he hpl pins s σ H Q I ⟨_, h, fun vs H1 q => ?_⟩
  obtain ⟨v, rfl, q⟩ := q
  refine ⟨(by decide : (1 : Nat) ≤ 1000), fun a hn => ⟨a, v, rfl, upd_same, fun dx hd ne => ⟨rfl, dx, [(f, v)], upd_same, by rw [upd_ne ne, upd_same], ?_, ?_⟩⟩⟩
  · rw [upd_ne ne] at hd
    exact hd
  · rw [upd_ne ne] at hd
    refine q dx _ hd upd_same fun b o e => ?_
    have n1 : b ≠ dx := ne_of_none e hd
    have n2 : b ≠ a := ne_of_none e hn
    rw [upd_ne n1, del_ne n2, upd_ne n2, upd_ne n1, upd_ne n2]
    exact e
end
/-! ### o.m(e, ..) in a try -/
section
variable {X : Cx} {CX : CXT} {k : Nat} {f C : Addr} {fd : FuncData} {ps : List Str} {sp : Sp} {E : L2.St → XK} {m : Str} {pos apos : Pos} {e o : Expr} {es : List Expr} {ta : TE} {t : TA}
def tMethE (C : Addr) (m : Str) (sp : Sp) (E : L2.St → XK) (ta : TE) (t : TA) : TE := fun σ H Q => ta σ H fun x H1 => ∃ a dx fs, x = .ref a ∧ H1 a = some (.ins C dx fs) ∧ fs.lookup m = none ∧ t σ H1 fun vs H2 => sp (x :: vs) H2 Q (E σ)
theorem pe_methE {pl : Sem Bool} (he : PE X o ta) (c : Cls X.K C) (hm : Meth X.K C m f) (F : FnOk X.prog X.w X.K X.mg X.base CX k f fd ps sp) (hr : Room k X.A) (hb : Binds X.K fd ps []) (hx : ∀ σ, PassesAt CX X σ (E σ)) (ha : PA X (e :: es) t)
    (hst : starEach (e :: es) X.env = (false, eval e X.env) :: starEach es X.env := by rfl) (hpl : (backTo pos (starEach es X.env)).any (·.1) = false := by rfl)
    (ht : eval (.Call (.Attribute o m apos) (e :: es) [] pos) X.env = (do
      let ov ← eval o X.env
      standAt apos.atName
      let (f, first) ← holding [ov] (getMethod ov m pl)
      callWith pos f first (backTo pos (starEach (e :: es) X.env)) (backToKw pos (keywordEach [] X.env))) := by rfl) :
    PE X (.Call (.Attribute o m apos) (e :: es) [] pos) (tMethE C m sp E ta t) := by
  refine ⟨fun pins s σ H Q I h => ?_⟩
  refine PySem.W.methodCall_KW (pl := pl) (thn (he.run pins s σ H _ I h) fun u s1 ⟨x, H1, I1, rx, a, dx, fs, ex, ea, l, q⟩ => ?_) ht
  subst ex
  obtain rfl : u = Value.ref a := rx
  refine getmeth_ok I1 ea c hm l ?_
  refine PySem.W.callWith_K (first := [.ref a]) (h₀ := X.base) I.ok.mod.kin hm.kp (thn (ha.run pos pins s1 σ H1 _ I1 q) fun us s2 ⟨vs, H2, I2, r, q2⟩ => ⟨I2.kIn, ?_⟩) hst hpl
  exact run_fnS (us := .ref a :: us) (vs := .ref a :: vs) F hr hb (hx σ) I2 (.cons rfl r) q2
end
/-! ### xs[::-1] -/
section
variable {X : Cx} {e st : Expr} {te : TE} {ts : TO} {pos p2 : Pos}
def tRevL (K : PySem.W.Frag) (te : TE) (ts : TO) : TE := fun σ H Q => te σ H fun x H1 => ts σ H1 fun l H2 => ∃ a xs, x = .ref a ∧ l = some (-1) ∧ SqL K H2 a xs ∧ ∀ p, H2 p = none → Q (.ref p) (upd H2 p (.lst xs.reverse))
theorem pe_sliceRev (he : PE X e te) (hs : PO X (some st) ts) (hsub : ∀ a b : Addr, subscripted (.Slice none none (some st) p2) false (.ref a) (.ref b) = operate [.ref a, .ref b] (getItem (.ref a) (.ref b)) := by intro _ _; with_unfolding_all rfl) : PE X (.Subscript e (.Slice none none (some st) p2) pos) (tRevL X.K te ts) := by
  refine ⟨fun pins s σ H Q I h => ?_⟩
  refine Subscript_ (thn (he.run pins s σ H _ I h) fun v s1 ⟨x, H1, I1, r1, q1⟩ => ?_)
  refine wpAny_Slice ?_
  rw [evalPart_none]
  refine wpAny_pure (wpAny_pure (thn (hs.run pins s1 σ H1 _ I1 q1) fun vs s3 ⟨u, H3, I3, pu, q3⟩ => ?_))
  obtain ⟨a, xs, ex, eu, hx, q⟩ := q3
  subst ex
  subst eu
  cases r1
  have I4 : Inv X pins σ H3 { s3 with heap := s3.heap.push { cls := .type "slice", data := .fields #[.none, .none, vs] } } := I3.kept (t' := s3.toks) fun b ob q => Heap.get?_push_of_some _ q
  obtain ⟨its, r, ht, hz⟩ := I4.list hx
  have hlen := r.length
  refine tail_any (ops := [.ref a, .ref s3.heap.objs.size]) (T := "list") ht.isList.typeIs slot_list_getitem.lookup ?_ (hsub _ _)
  refine wpAny_getItem_list_slice ht.isList (Heap.IsSliceOf.new ..) .none .none pu (by simp) ?_ (by rw [List.size_toArray] <;> omega)
  rw [PySem.W.krv_pick]
  refine ⟨.ref _, _, I4.laid (t' := s3.toks) (o := .lst xs.reverse) (fun b ob q => Heap.get?_push_of_some _ q) (Nat.le_refl _) ?_, rfl, q _ (I4.hok.fresh (Nat.le_refl _))⟩
  exact ⟨by rw [List.length_reverse]; exact hz, its.reverse, 0, r.reverse, Heap.get?_push_size _ rfl⟩
end
/-! ### slices of a tracked list -/
theorem cut_head (xs : List V) : cutV xs none (some 1) = xs.take 1 := by
  unfold cutV
  rw [HT.sIx_none, show (some (1 : Int)) = some ((1 : Nat) : Int) from rfl, HT.sIx_nat, List.drop_zero, Nat.sub_zero]
  rcases Nat.lt_or_ge xs.length 1 with h | h
  · rw [Nat.min_eq_right (by omega), List.take_of_length_le (by omega), List.take_of_length_le (by omega)]
  · rw [Nat.min_eq_left h]
theorem cut_tail (xs : List V) (k : Nat) : cutV xs (some (k : Int)) none = xs.drop k := by
  unfold cutV
  rw [HT.sIx_none, HT.sIx_nat]
  rcases Nat.lt_or_ge xs.length k with h | h
  · rw [Nat.min_eq_right (by omega), List.drop_of_length_le (Nat.le_refl _), List.drop_of_length_le (by omega)] <;> simp
  · rw [Nat.min_eq_left h, List.take_of_length_le (by rw [List.length_drop]; omega)]
/-! ### tuples of numbers and of pairs as data -/
theorem eqv_ints : ∀ (as bs : List Int), PyData.eqvAll (as.map PyData.int) (bs.map PyData.int) = decide (as = bs)
  | [], [] => rfl
  | [], _ :: _ => rfl
  | _ :: _, [] => rfl
  | a :: as, b :: bs => by
    show (PyData.eqv (.int a) (.int b) && PyData.eqvAll (as.map PyData.int) (bs.map PyData.int)) = _
    rw [eqv_ints as bs]
    show ((a == b) && decide (as = bs)) = _
    rw [Bool.eq_iff_iff]
    simp
def dP (p : Int × Int) : PyData := .tuple [.int p.1, .int p.2]
theorem eqv_pair (p q : Int × Int) : PyData.eqv (dP p) (dP q) = decide (p = q) := by
  obtain ⟨a, b⟩ := p
  obtain ⟨c, d⟩ := q
  show ((a == c) && ((b == d) && true)) = _
  rw [Bool.eq_iff_iff]
  simp
theorem eqv_pairs : ∀ (as bs : List (Int × Int)), PyData.eqvAll (as.map dP) (bs.map dP) = decide (as = bs)
  | [], [] => rfl
  | [], _ :: _ => rfl
  | _ :: _, [] => rfl
  | a :: as, b :: bs => by
    show (PyData.eqv (dP a) (dP b) && PyData.eqvAll (as.map dP) (bs.map dP)) = _
    rw [eqv_pairs as bs, eqv_pair, Bool.eq_iff_iff]
    simp
theorem dp_ints {K : PySem.W.Frag} {H : Hp} : ∀ (as : List Int), DpAll K H (as.map V.int) (as.map PyData.int)
  | [] => .nil
  | a :: r => .cons (.int a) (dp_ints r)
theorem dp_pair {K : PySem.W.Frag} {H : Hp} {a : Addr} {p : Int × Int} (h : H a = some (.tup [.int p.1, .int p.2])) : Dp K H (.ref a) (dP p) := .tup (SqT.of h) (.cons (.int _) (.cons (.int _) .nil))
theorem dp_pairs {K : PySem.W.Frag} {H : Hp} : ∀ (M : List (Addr × (Int × Int))), (∀ p ∈ M, H p.1 = some (.tup [.int p.2.1, .int p.2.2])) → DpAll K H (M.map fun p => V.ref p.1) ((M.map (·.2)).map dP)
  | [], _ => .nil
  | p :: r, h => .cons (dp_pair (h p List.mem_cons_self)) (dp_pairs r fun q hq => h q (List.mem_cons_of_mem _ hq))
theorem lay_ints : ∀ as : List Int, PyData.canLayAll0 (as.map PyData.int) = true
  | [] => rfl
  | a :: r => by
    show (true && PyData.canLayAll0 (r.map PyData.int)) = true
    rw [lay_ints r] <;> rfl
theorem lay_pairs : ∀ as : List (Int × Int), PyData.canLayAll0 (as.map dP) = true
  | [] => rfl
  | a :: r => by
    show (true && PyData.canLayAll0 (r.map dP)) = true
    rw [lay_pairs r] <;> rfl
theorem depth_ints : ∀ as : List Int, PyData.depthAll (as.map PyData.int) ≤ 1
  | [] => by simp [PyData.depthAll]
  | a :: r => by
    have h := depth_ints r
    simp only [List.map_cons, PyData.depthAll, PyData.depth]
    omega
theorem depth_pair (p : Int × Int) : (dP p).depth ≤ 4 := by
  unfold dP
  simp only [PyData.depth, PyData.depthAll]
  omega
theorem depth_pairs : ∀ as : List (Int × Int), PyData.depthAll (as.map dP) ≤ 4
  | [] => by simp [PyData.depthAll]
  | a :: r => by
    have h := depth_pairs r
    have h2 := depth_pair a
    simp only [List.map_cons, PyData.depthAll]
    omega
theorem shaped_ints (as : List Int) : SeqAt.shaped (.tuple (as.map PyData.int)) = true := by
  unfold SeqAt.shaped
  have e : (PyData.tuple (as.map PyData.int)).canLay0 = true := lay_ints as
  have d : (PyData.tuple (as.map PyData.int)).depth ≤ 64 := by
    have h2 := depth_ints as
    simp only [PyData.depth]
    omega
  rw [e, decide_eq_true d]
  rfl
theorem shaped_pair (p : Int × Int) : SeqAt.shaped (dP p) = true := by
  unfold SeqAt.shaped
  rw [show (dP p).canLay0 = true from rfl, decide_eq_true (Nat.le_trans (depth_pair p) (by decide))]
  rfl
theorem shaped_pairs (as : List (Int × Int)) : SeqAt.shaped (.tuple (as.map dP)) = true := by
  unfold SeqAt.shaped
  have e : (PyData.tuple (as.map dP)).canLay0 = true := lay_pairs as
  have d : (PyData.tuple (as.map dP)).depth ≤ 64 := by
    have h2 := depth_pairs as
    simp only [PyData.depth]
    omega
  rw [e, decide_eq_true d]
  rfl
theorem nil_ints {K : PySem.W.Frag} {H : Hp} {a : Addr} {as : List Int} (h : H a = some (.tup (as.map V.int))) : Dp K H (.ref a) (.tuple (as.map PyData.int)) := .tup (SqT.of h) (dp_ints as)
/-! ### a hook that reads the getters of properties too -/
structure PropD where
  cls : Str
  f : Str
  d : He.DefD
def PropD.p (K : PySem.W.Frag) (q : PropD) : Addr := He.ma K (He.ga K q.cls) q.f
def PropD.g (K : PySem.W.Frag) (q : PropD) : Addr := match PySem.W.recIn K (q.p K) "property" with
  | some (.ref g :: _) => g
  | _ => 0
def fnAt (K : PySem.W.Frag) (a : Addr) : He.FnW := match K.lookup a with
  | some ⟨_, _, .func fd, _⟩ => some (fd.name, fd.qualname, fd.params, fd.body, fd.scope, fd.globals, fd.closure, fd.builtins)
  | _ => none
def PropD.ok (K : PySem.W.Frag) (q : PropD) : Bool := PySem.W.keepIn K (.ref (q.g K)) && ((match K.lookup (q.g K) with
  | some ⟨_, _, .func fd, _⟩ => PySem.W.codeIn K fd.code q.d.qual && (He.dflB K fd.defaults [] && He.kwdB K fd.kwdefaults [])
  | _ => false) && (He.eqO (PySem.W.findIn K (.ref (He.ga K q.cls)) q.f) (some (some (.ref (q.p K)))) && (He.eqO (PySem.W.specialIn K (.ref (q.p K)) "__get__") (some (some (.builtin "property.__get__"))) &&
  (decide (PySem.W.takesIn K (.ref (q.p K)) = some true) && (match PySem.W.recIn K (q.p K) "property" with
    | some (.ref _ :: _) => true
    | _ => false)))))
theorem PropD.funD {K : PySem.W.Frag} {q : PropD} (e : fnAt K (q.g K) = q.d.val) (c : q.ok K = true) : (∃ fd, FunD K q.d.name q.d.qual q.d.params q.d.body q.d.scope [] [] (q.g K) fd) ∧ PropOf K (He.ga K q.cls) q.f (q.p K) (q.g K) := by
  obtain ⟨kp, c⟩ := Bool.and_eq_true_iff.mp c
  obtain ⟨c2, c⟩ := Bool.and_eq_true_iff.mp c
  obtain ⟨p1, c⟩ := Bool.and_eq_true_iff.mp c
  obtain ⟨p2, c⟩ := Bool.and_eq_true_iff.mp c
  obtain ⟨p3, p4⟩ := Bool.and_eq_true_iff.mp c
  refine ⟨?_, He.eqO_ok p1, He.eqO_ok p2, of_decide_eq_true p3, ?_⟩
  · unfold fnAt at e
    cases z : K.lookup (q.g K) with
    | none =>
      rw [z] at c2
      cases c2
    | some o =>
      obtain ⟨oc, od, dt, osl⟩ := o
      rw [z] at c2 e
      cases dt with
      | func fd =>
        obtain ⟨n1, n2, n3, n4, n5, n6, n7, n8, n9, n10, n11, n12, n13, n14, n15⟩ := fd
        have e2 : (some (n1, n2, n3, n4, n5, n6, n7, n15) : He.FnW) = some (q.d.name, q.d.qual, q.d.params, .stmts q.d.body, q.d.scope, mainGlobals, [], builtinsNs) := e
        simp only [Option.some.injEq, Prod.mk.injEq] at e2
        obtain ⟨h1, h2, h3, h4, h5, h6, h7, h8⟩ := e2
        subst h1 h2 h3 h4 h5 h6 h7 h8
        have c3 : (PySem.W.codeIn K n13 q.d.qual && (He.dflB K n8 [] && He.kwdB K n9 [])) = true := c2
        obtain ⟨k1, k2⟩ := Bool.and_eq_true_iff.mp c3
        obtain ⟨k3, k4⟩ := Bool.and_eq_true_iff.mp k2
        exact ⟨_, ⟨oc, od, n8, n9, n10, n11, n12, n13, n14, osl, rfl, z, k1, He.dflB_ok k3, He.kwdB_ok k4⟩, kp⟩
      | _ => cases c2
  · unfold PropD.g
    cases z : PySem.W.recIn K (q.p K) "property" with
    | none =>
      rw [z] at p4
      cases p4
    | some l =>
      rw [z] at p4
      cases l with
      | nil => cases p4
      | cons a r =>
        cases a with
        | ref g => exact ⟨r, rfl⟩
        | _ => cases p4
section
variable (n : Nat) (fa : List He.Fa) (fn : List He.DefD) (ps : List PropD) (ex : PySem.W.Frag → Bool)
abbrev AlP : Type := He.AlX × List He.FnW
def obsP (g : Addr → Option Obj) : AlP := (He.obsX n fa fn [] [] ex g, ps.map fun q => fnAt (He.frT g (He.asD g n)) (q.g (He.frT g (He.asD g n))))
def hookP : PySem.W.Hook where
  α := AlP
  obs := fun s => obsP n fa fn ps ex s.heap.get?
  val := fun w => (He.valX fn [] w, ps.map fun q => q.d.val)
  says := fun w h => ∃ K : PySem.W.Frag, K.In h ∧ He.SaysX fa fn [] [] ex w h K ∧ (ps.map fun q => fnAt K (q.g K)) = ps.map fun q => q.d.val
  of := fun _ _ e => ⟨_, He.frT_in, He.saysX_of (congrArg (fun z : AlP => z.1) e), by have h := congrArg (fun z : AlP => z.2) e; exact h⟩
  keeps := fun _ _ _ ⟨K, hK, c, e⟩ k => ⟨K, PySem.W.Frag.In.keeps hK k, ⟨c.t, c.more, c.hd, c.out, fun p hp => k _ _ (c.empty p hp)⟩, e⟩
theorem obsP_eq {g : Addr → Option Obj} {s : Shared} (h : ∀ a, g a = s.heap.get? a) : obsP n fa fn ps ex g = (hookP n fa fn ps ex).obs s := by
  have e : g = s.heap.get? := funext h
  rw [e] <;> rfl
end
end Kx

namespace Kx
open PySem PySem.Spec PyProof.Rows L2
/-! ### try: .. with several clauses, each with its name -/
abbrev Cl := Value × Nat × (Addr → Value → Option Addr → TS)
/-- behind a clause its name is gone -/
def goneAt (i : Nat) (D : Ends) : Ends := { nx := fun q G => D.nx (q.set i none) G, rt := D.rt, bk := fun q G => D.bk (q.set i none) G, ct := fun q G => D.ct (q.set i none) G }
/-- what the clauses wish, one after the other -/
def wCls (K : PySem.W.Frag) (Wo : WX) (D : Ends) : List Cl → WX
  | [] => Wo
  | (c, i, ts) :: more => fun cls d q G => ∃ b, PySem.W.exmOne K cls c = some b ∧ (b = true → ∀ a, G a = none → ts a cls d (goneAt i D) (q.set i (some (.ref a))) G) ∧ (b = false → wCls K Wo D more cls d q G)
inductive ClsOk (X : Cx) : List ExceptHandler → List Cl → Prop
  | nil : ClsOk X [] []
  | cons {x n : Str} {i : Nat} {c : Value} {ts : Addr → Value → Option Addr → TS} {s0 : Stmt} {ss : List Stmt} {p1 p2 : Pos} {hds : List ExceptHandler} {l : List Cl} (named : Names X x c) (at_ : X.N[i]? = some n) (loc : X.env.kindOf n = some .local)
      (suite : ∀ (a : Addr) (ob : Obj) (cls : Value) (d : Option Addr) (pn : List (Addr × Obj)), Zc cls d ob → (∃ vs, ob.data = .fields vs) → PSs (X.suite a ((a, ob) :: pn)) (s0 :: ss) (ts a cls d)) (rest : ClsOk X hds l) :
      ClsOk X (.ExceptHandler (some (.Name x p1)) (some n) (s0 :: ss) p2 :: hds) ((c, i, ts) :: l)
section
variable {X : Cx} {Wo : WX} {body : List Stmt} {h0 : ExceptHandler} {hds : List ExceptHandler} {l : List Cl} {pos : Pos} {tb : WX → TS}
/-- the end of a try's body, seen from outside -/
theorem body_end {pins : List (Addr × Obj)} {xe : Value → Shared → Prop} {D : Ends} {f : Flow} {t : Shared} (ok : X.Ok) (h : SP (X.tr (X.pn ++ pins) xe) [] D f t) : SP X pins D f t := by
  cases f with
  | next => exact h.elim fun q h => h.elim fun G h => ⟨q, G, h.1.ofTry ok, h.2⟩
  | brk => exact h.elim fun q h => h.elim fun G h => ⟨q, G, h.1.ofTry ok, h.2⟩
  | cont => exact h.elim fun q h => h.elim fun G h => ⟨q, G, h.1.ofTry ok, h.2⟩
  | ret u => exact h.elim fun v h => h.elim fun q h => h.elim fun G h => ⟨v, q, G, h.1.ofTry ok, h.2⟩
theorem ps_try_cls (tops : X.stack = X.env :: X.outer) (frame : X.env.frame = some X.env.locals) (nodup : X.N.Nodup) (tk : Takes X Wo)
    (bodyOk : ∀ (W : WX) (pn : List (Addr × Obj)) (xe : Value → Shared → Prop), Takes (X.tr pn xe) W → PassesOwn (model X.prog X.w) X.A X.env xe → PSs (X.tr pn xe) body (tb W)) (clauses : ClsOk X (h0 :: hds) l) :
    PS X (.Try body (h0 :: hds) [] [] pos) (fun D σ H => tb (wCls X.K Wo D l) D σ H) := by
  refine ⟨fun pins s σ H D I h => ?_⟩
  have ok := I.ok
  have live : X.A.frames = some (X.env :: X.outer) := ok.frames.trans (congrArg some tops)
  refine wpAny_Try_except ?_
  refine wpAny_mono ((bodyOk (wCls X.K Wo D l) (X.pn ++ pins) _ (fun u t air => ?_) PassesOwn.looking).run [] s σ H D (I.toTry _) h) (fun f t e => ?_) (fun e t z => z)
  case refine_2 =>
    have e' := body_end ok e
    cases f with
    | next => exact wpAny_execs_nil e'
    | brk => exact e'
    | cont => exact e'
    | ret _ => exact e'
  case refine_1 =>
    obtain ⟨a, B, sI, pins', q, G, cls, d, rfl, J', beside, same, sky, free, os, bare, wish⟩ := air
    have J : Inv X pins q G sI := J'.ofTry ok
    rw [show (X.tr (X.pn ++ pins) _).stack = X.env :: X.outer from tops] at sky
    show wpAny (model X.prog X.w) X.A (noteFrame (.ref a) X.env) _ _ _
    refine Sky.land Zc.steady live frame sky fun g fly turned => ?_
    have JG : Inv X pins q G { t with heap := g } := J.landed beside fly.1 (same.trans turned) os bare
    obtain ⟨ob, vs, there, kind, data⟩ := fly.there
    have noFrame : a ∉ frs (X.env :: X.outer) := fun hm => by
      obtain ⟨_, o', e', nf⟩ := fly.2.2.1.mem hm
      rw [there] at e'
      cases e'
      exact nf _ data
    have offL : a ≠ X.env.locals := fun z => noFrame (List.mem_filterMap.mpr ⟨X.env, List.mem_cons_self, by rw [frame, z]⟩)
    have offF : a ∉ X.fs := fun hm => by
      obtain ⟨w, hw, z⟩ := List.mem_filterMap.mp hm
      exact noFrame (List.mem_filterMap.mpr ⟨w, List.mem_cons_of_mem _ hw, z⟩)
    have inSuite := JG.suite there data free offL offF
    have walk : ∀ {hs : List ExceptHandler} {m : List Cl}, ClsOk X hs m → wCls X.K Wo D m cls d q G → wpAny (model X.prog X.w) X.A (handleBy (.ref a) X.env hs) (SP X pins D) X.xe { t with heap := g } := by
      intro hs m hm
      induction hm with
      | nil =>
        intro out
        refine wpAny_handleBy_nil ?_
        obtain ⟨_, _, _, ob2, vs2, T, _, _, e2, _, d2, f2, _⟩ := id fly
        unfold PySem.passOn
        refine wpAny_bind (wpAny_field e2 d2 f2 ?_)
        rw [if_neg (show ¬ ((Value.ref T == Value.none) = true) by simp)]
        have rise : wpAny (model X.prog X.w) X.A (setFlight (.ref a) X.env.frame) (fun _ t4 => wpAny (model X.prog X.w) X.A (throw (.ref a) : Sem Flow) (SP X pins D) X.xe t4) X.xe { t with heap := g } := by
          rw [frame]
          refine HandSPX.setFlight_upZ fly fun g4 held up4 => wpAny_throw (tk _ _ ⟨a, B, sI, pins, q, G, cls, d, rfl, J, beside, (same.trans turned).trans up4, .inr (.inr ?_), free, os, bare, out⟩)
          rw [tops]
          exact held
        first
          | exact wpAny_bind (wpAny_pure (wpAny_bind rise))
          | exact wpAny_bind rise
      | @cons x n i c ts s0 ss p1 p2 hs2 m2 named at_ loc suite rest ih =>
        intro wish
        obtain ⟨b, eb, yes, no⟩ := wish
        refine wpAny_handleBy_cons (codeAny_handlers_test ?_) (by intro z; cases z)
        have kindOf : PySem.W.Looks (model X.prog X.w) g (typeOf (.ref a)) cls := fun _ _ _ _ k z => wpAny_typeOf_ref (k _ _ there) (by rw [kind.1]; exact z)
        have matches_ := PySem.W.exm_one (M := model X.prog X.w) JG.kIn kindOf eb
        have name : ∀ {Q : Value → Shared → Prop} {E : Value → Shared → Prop}, Q c { t with heap := g } → wpAny (model X.prog X.w) (X.A.mark (some (.ref a))) (eval (.Name x p1) X.env) Q E { t with heap := g } := fun {Q E} z => by
          obtain ⟨gl, nd, own | ⟨fre, blt, nn⟩⟩ := named
          · exact ld_glob (X := X.suite a ((a, ob) :: (X.pn ++ pins))) inSuite gl own z nd
          · exact ld_blt (X := X.suite a ((a, ob) :: (X.pn ++ pins))) inSuite gl fre blt z nn nd
        refine name (matches_.here ?_)
        cases b with
        | false =>
          show wpAny _ X.A (handleBy (.ref a) X.env hs2) _ _ _
          exact ih (no rfl)
        | true =>
          refine codeAny_handlers_suite_as ?_
          refine HandSPX.lands_againZ fly fun g4 fly4 up4 => ?_
          have J4 : Inv X pins q G { t with heap := g4 } := J.landed beside fly4.1 ((same.trans turned).trans up4) os bare
          obtain ⟨ob4, vs4, there4, kind4, data4⟩ := fly4.there
          refine store_ok (X := X.suite a ((a, ob4) :: (X.pn ++ pins))) (v := .ref a) (J4.suite there4 data4 free offL offF) nodup at_ (.inl loc) rfl (fun t5 S5 => ?_) (.inr loc)
          refine wpAny_mono ((suite a ob4 cls d (X.pn ++ pins) kind4 ⟨_, data4⟩).run [] t5 _ G _ S5 (yes rfl a free)) (fun f t6 e => ?_) (fun _ _ z => False.elim z)
          have drop : ∀ {q6 : L2.St} {G6 : Hp} {R : Shared → Prop}, Inv (X.suite a ((a, ob4) :: (X.pn ++ pins))) [] q6 G6 t6 → (∀ t7, Inv X pins (q6.set i none) G6 t7 → R t7) →
              wpAny (model X.prog X.w) X.A (do bindName X.env n .none; unbindBehindTheSuite X.env n p2) (fun _ t7 => R t7) X.xe t6 := fun {q6 G6 R} S6 hr => gone_ok (S6.unsuite ok) nodup at_ loc hr
          cases f with
          | next =>
            obtain ⟨_, _, S6, z⟩ := e
            exact drop S6 fun _ J7 => ⟨_, _, J7, z⟩
          | brk =>
            obtain ⟨_, _, S6, z⟩ := e
            exact drop S6 fun _ J7 => ⟨_, _, J7, z⟩
          | cont =>
            obtain ⟨_, _, S6, z⟩ := e
            exact drop S6 fun _ J7 => ⟨_, _, J7, z⟩
          | ret _ =>
            obtain ⟨_, _, _, S6, r6, z⟩ := e
            exact drop S6 fun _ J7 => ⟨_, _, _, J7, r6, z⟩
    exact walk clauses wish
end
end Kx

/-! for in a generator's body -/
namespace PySem
section
variable {M : Model} {A : Around} {R : GenEnd} {Y : Protocol} {n : Nat} {s₀ : Shared} {c : Code} {fs : List Frame} {s : Shared} {env : Env} {K : Flow → Sem Fin} {H : Value → Sem Fin} {gd : Bool → Bool} {lv : List Value → List Value}
theorem segFor_start {tg iter : Expr} {body : List Stmt} {pos : Pos} (hs : ∀ x, foldedSetIterable iter env x = pure x)
    (h : wpAny M (A.over c fs) (eval iter env) (fun x s1 => wpAny M (A.over c fs) (pyIter x) (fun it s2 => ∀ p, Seg M A R Y n s₀ (.forLoop tg it body [] env) (M.den (.forLoop tg it body [] env))
      (.ret (fun r => ((match r with | .ok f => (.pure f : Sem Flow) | .error e => .raise e).onRaise fun (x : Value) => do
        if (← field x 1) == Value.none then unsupported "frame.own-activation:exception-without-traceback"
        setFlight x env.frame).wrap K H gd lv) none (gd false) (lv []) c p [] :: fs) s2) (fun x s' => Seg M A R Y n s₀ c (H x) fs s') s1) (fun x s' => Seg M A R Y n s₀ c (H x) fs s') s) :
    Seg M A R Y n s₀ c ((exec (.For tg iter body [] pos) env).wrap K H gd lv) fs s := by
  rw [arm_exec_For, Sem.bind_eq_wrap', Sem.wrap_wrap]
  refine seg_wrap (wpAny_standAt ?_)
  rw [Sem.bind_eq_wrap', Sem.wrap_wrap]
  refine seg_wrap (wpAny_mono h (fun x s1 h1 => ?_) fun _ _ z => z)
  rw [hs x, Sem.bind_eq_wrap', Sem.wrap_wrap]
  refine seg_wrap (wpAny_pure ?_)
  rw [Sem.bind_eq_wrap', Sem.wrap_wrap]
  refine seg_wrap (wpAny_standAt ?_)
  rw [Sem.bind_eq_wrap', Sem.wrap_wrap]
  refine seg_wrap (wpAny_holding (wpAny_mono h1 (fun it s2 h2 => ?_) fun _ _ z => z))
  exact seg_call h2
end
section
variable {prog : Program} {w : World} {A : Around} {R : GenEnd} {Y : Protocol} {n : Nat} {s₀ : Shared} {fs : List Frame} {s : Shared} {env : Env}
/-- what a turn does with an exception -/
abbrev turnExc (env : Env) (x : Value) : Sem Fin := (do noteFrame x env; theTreesLotGoes x : Sem Unit).wrap (fun _ => .raise x) .raise id id
theorem segFor_turn {tg : Expr} {it : Value} {body : List Stmt}
    (h : wpAny (model prog w) (A.over (.forLoop tg it body [] env) fs) (pyNext it) (fun r s1 => match r with
        | none => Seg (model prog w) A R Y n s₀ (.block [] env) (leafOf (.ok .next)) fs s1
        | some v => wpAny (model prog w) (A.over (.forLoop tg it body [] env) fs) (letOwnedTupleGo tg it v) (fun _ s2 => wpAny (model prog w) (A.over (.forLoop tg it body [] env) fs) (assign tg env v) (fun _ s3 =>
            Seg (model prog w) A R Y n s₀ (.forLoop tg it body [] env) ((execs body env).wrap (fun f => match f with
              | .next | .cont => .pure (.again (.forLoop tg it body [] env))
              | .brk => .pure (.done .next)
              | .ret v => .pure (.done (.ret v))) (turnExc env) id id) fs s3)
          (fun x s' => Seg (model prog w) A R Y n s₀ (.forLoop tg it body [] env) (turnExc env x) fs s') s2)
          (fun x s' => Seg (model prog w) A R Y n s₀ (.forLoop tg it body [] env) (turnExc env x) fs s') s1)
      (fun x s' => Seg (model prog w) A R Y n s₀ (.forLoop tg it body [] env) (turnExc env x) fs s') s) :
    Seg (model prog w) A R Y n s₀ (.forLoop tg it body [] env) ((model prog w).den (.forLoop tg it body [] env)) fs s := by
  have bad : ∀ {x : Value} {t : Shared}, Seg (model prog w) A R Y n s₀ (.forLoop tg it body [] env) (turnExc env x) fs t → Seg (model prog w) A R Y n s₀ (.forLoop tg it body [] env) ((do noteFrame x env; theTreesLotGoes x : Sem Unit).bind fun _ => .raise x) fs t := fun {x t} z => by
    rw [Sem.bind_eq_wrap]
    exact z
  show Seg _ A R Y n s₀ _ ((forTurn tg it body [] env).onRaise (fun x => do noteFrame x env; theTreesLotGoes x)) fs s
  unfold forTurn
  rw [Sem.onRaise_eq_wrap, Sem.bind_eq_wrap', Sem.wrap_wrap]
  refine seg_wrap (wpAny_standAt ?_)
  rw [Sem.bind_eq_wrap', Sem.wrap_wrap]
  refine seg_wrap (wpAny_onRaise (wpAny_mono h (fun r s1 h1 => ?_) fun x s' z => wpAny_standAt (bad z)))
  cases r with
  | none => exact seg_again (c' := .block [] env) rfl h1
  | some v =>
    show Seg _ A R Y n s₀ _ (Sem.wrap _ _ _ _ (letOwnedTupleGo tg it v >>= _)) fs s1
    rw [Sem.bind_eq_wrap', Sem.wrap_wrap]
    refine seg_wrap (wpAny_mono h1 (fun _ s2 h2 => ?_) fun x s' z => bad z)
    rw [Sem.bind_eq_wrap', Sem.wrap_wrap]
    refine seg_wrap (wpAny_mono h2 (fun _ s3 h3 => ?_) fun x s' z => bad z)
    rw [Sem.bind_eq_wrap', Sem.wrap_wrap]
    rw [Sem.wrap_congr (execs body env) _ _ (K' := fun f => match f with
            | .next | .cont => .pure (.again (.forLoop tg it body [] env))
            | .brk => .pure (.done .next)
            | .ret v => .pure (.done (.ret v))) (H' := turnExc env) (fun f => by cases f <;> rfl)
        (fun e => by first | exact Sem.bind_eq_wrap _ _ | (show (do noteFrame e env; theTreesLotGoes e : Sem Unit).bind (fun _ => .raise e) = _; rw [Sem.bind_eq_wrap]))]
    exact h3
end
end PySem
namespace Kx
open PySem PySem.Spec PyProof.Rows L2
/-- for in a generator: W by the turn, a measure, what is out, the state -/
def tGFor (wi : TI) (g : TG) (tb : TGn) : TGn := fun D ys σ H => wi σ H fun J H1 => ∃ W : Nat → Nat → List V → L2.St → Hp → Prop, (∃ m, W 0 m ys σ H1) ∧ ∀ i m ys σ H, W i m ys σ H →
  (J.stop i H ∧ D.nx ys σ H) ∨ (J.go i H ∧ ∃ N : List V → L2.St → Hp → Prop, (∀ ys' σ' H', N ys' σ' H' → ∃ m', m' < m ∧ W (i + 1) m' ys' σ' H') ∧ ∀ x H', J.yld i H x H' → g x σ H' fun σ2 H2 => tb { D with nx := N, ct := N, bk := D.nx } ys σ2 H2)
theorem gs_for {X : Cx} {tg iter : Expr} {body : List Stmt} {wi : TI} {g : TG} {tb : TGn} {pos : Pos} (hp : PassesOwn (model X.prog X.w) X.A X.env X.xe) (hc : X.calm = true) (hi : PI X tg iter wi) (hg : PG X tg g) (hb : GSs X body tb)
    (hs : ∀ x, foldedSetIterable iter X.env x = pure x := by intro _; rfl) : GS X (.For tg iter body [] pos) (tGFor wi g tb) := by
  refine ⟨fun A S ip R n ys s₀ c fs K Ja gd lv s σ H D gc hn k hI ht => ?_⟩
  obtain ⟨acc0, cc0, r0, I0⟩ := hI
  refine segFor_start hs ?_
  rw [gc.over]
  refine wpAny_mono (hi.run _ s σ H _ I0 ht) (fun v s1 h1 => wpAny_mono h1 (fun itv s2 h2 => ?_) fun x s' hx => k.exc n s₀ x s' hx) fun x s' hx => k.exc n s₀ x s' hx
  obtain ⟨it, fp, tn, J, H2, e, I2, T, st2, f2, W, ⟨m0, w0⟩, turn⟩ := h2
  subst e
  intro p
  have gl := fun (kk : Result → Sem PySem.Fin) => gc_loop (k := kk) (c' := .forLoop tg (.ref it) body [] X.env) (l := lv []) (kp := []) (p := p) gc rfl rfl
  have gb := fun (kk : Result → Sem PySem.Fin) => gc_loop (k := kk) (c' := .block [] X.env) (l := lv []) (kp := []) (p := p) gc rfl rfl
  have stat : ∀ {G : Hp} {acc : Array Value} {cc : Nat}, (∀ b ∈ fp, G b = none) → ∀ b ∈ fp, FpOk X ((S, lstObj acc cc) :: ip) G b := fun hn b hb => by
    obtain ⟨_, x1, x2, x3, x4, x5⟩ := f2 b hb
    refine ⟨hn b hb, x1, x2, x3, x4, fun q hq => ?_⟩
    rcases List.mem_append.mp hq with h | h
    · exact x5 q (List.mem_append_left _ h)
    · rcases List.mem_cons.mp h with e | h
      · rw [e]
        exact x5 (S, lstObj acc0 cc0) (List.mem_append_right _ List.mem_cons_self)
      · exact x5 q (List.mem_append_right _ (List.mem_cons_of_mem _ h))
  have offS : ∀ b ∈ fp, b ≠ S := fun b hb => by
    obtain ⟨_, _, _, _, _, x5⟩ := f2 b hb
    exact (x5 (S, lstObj acc0 cc0) (List.mem_append_right _ List.mem_cons_self)).symm
  have loop : ∀ (m i n : Nat) (ys : List V) (s₀ s : Shared) (σ : L2.St) (H : Hp), n + ys.length = sizeLine → W i m ys σ H → GI X S ip ys σ H s → tn i s.heap → (∀ b ∈ fp, H b = none) →
      Seg (model X.prog X.w) A R (GY X S) n s₀ (.forLoop tg (.ref it) body [] X.env) ((model X.prog X.w).den (.forLoop tg (.ref it) body [] X.env))
        (.ret (fun r => ((match r with | .ok f => (.pure f : Sem Flow) | .error e => .raise e).onRaise (cameBack X.env)).wrap K Ja gd lv) none (gd false) (lv []) c p [] :: fs) s := by
    intro m
    induction m using Nat.strongRecOn with
    | ind m ih =>
      intro i n ys s₀ s σ H hn w hI st fr
      have ee : ∀ (n : Nat) (s₀ : Shared) (x : Value) (s' : Shared), X.xe x s' → Seg (model X.prog X.w) A R (GY X S) n s₀ (.forLoop tg (.ref it) body [] X.env) (turnExc X.env x)
          (.ret (fun r => ((match r with | .ok f => (.pure f : Sem Flow) | .error e => .raise e).onRaise (cameBack X.env)).wrap K Ja gd lv) none (gd false) (lv []) c p [] :: fs) s' := fun n s₀ x s' hx => by
        refine seg_wrap ?_
        rw [(gl _).over]
        refine wpAny_bind (wpAny_mono (hp x s' hx) (fun _ t z => wpAny_theTreesLotGoes ?_) fun y t z => ?_)
        · exact seg_leaf (.error x) (seg_cameBack gc k z)
        · exact seg_leaf (.error y) (seg_cameBack gc k z)
      obtain ⟨acc, cc, r, I⟩ := hI
      refine segFor_turn ?_
      rw [(gl _).over]
      rcases turn i m ys σ H w with ⟨stop, qn⟩ | ⟨go, N, hN, step⟩
      · refine wpAny_mono (T.done X rfl rfl rfl hc i _ s σ H X.xe I (stat fr) st stop) (fun q s4 ⟨hq, I4⟩ => ?_) fun x s' hx => ee n s₀ x s' hx
        subst hq
        exact seg_leaf (.ok .next) (k.ok n ys s₀ s4 .next hn ⟨σ, H, ⟨acc, cc, r, I4⟩, qn⟩)
      · refine wpAny_mono (T.item X rfl rfl rfl hc i _ s σ H X.xe I (stat fr) st go) (fun q s4 ⟨u, hq, h4⟩ => ?_) fun x s' hx => ee n s₀ x s' hx
        subst hq
        refine wpAny_mono h4 (fun _ s5 ⟨x, H5, I5, r5, y5, st5, fr5⟩ => ?_) fun x s' hx => ee n s₀ x s' hx
        have I5' := I5.pinned (stat fr5) (T.obj _ _ st5)
        refine wpAny_mono (hg.run _ s5 σ H5 x u _ I5' r5 (step x H5 y5)) (fun _ s6 ⟨σ6, H6, I6, q6⟩ => ?_) fun x s' hx => ee n s₀ x s' hx
        have gc6 := gl (fun r => ((match r with | .ok f => (.pure f : Sem Flow) | .error e => .raise e).onRaise (cameBack X.env)).wrap K Ja gd lv)
        have gc7 : GC X S (ip ++ pinsAt fp s5.heap) A (.forLoop tg (.ref it) body [] X.env) (.ret (fun r => ((match r with | .ok f => (.pure f : Sem Flow) | .error e => .raise e).onRaise (cameBack X.env)).wrap K Ja gd lv) none (gd false) (lv []) c p [] :: fs) id :=
          ⟨gc6.pn, fun q hq => by
            rcases List.mem_append.mp hq with h | h
            · exact gc6.ip q h
            · exact offS q.1 (of_pinsAt h).1, gc6.apart, gc6.over, gc6.split, gc6.guard, gc6.gd⟩
        have back : ∀ {ys' : List V} {σ7 : L2.St} {H7 : Hp} {s7 : Shared}, GI X S (ip ++ pinsAt fp s5.heap) ys' σ7 H7 s7 → GI X S ip ys' σ7 H7 s7 ∧ tn (i + 1) s7.heap ∧ ∀ b ∈ fp, H7 b = none := fun {ys' σ7 H7 s7} h => by
          obtain ⟨acc7, cc7, r7, I7⟩ := h
          have I7' : Inv X (((S, lstObj acc7 cc7) :: ip) ++ pinsAt fp s5.heap) σ7 H7 s7 := I7
          refine ⟨⟨acc7, cc7, r7, I7'.unpinned⟩, T.keep _ _ _ st5 fun b hb o e => (I7'.pin (b, o) (List.mem_append_right _ (List.mem_append_right _ (mem_pinsAt hb e)))).1, fun b hb => ?_⟩
          obtain ⟨o, e, d⟩ := T.obj _ _ st5 b hb
          exact (I7'.pin (b, o) (List.mem_append_right _ (List.mem_append_right _ (mem_pinsAt hb e)))).2.1
        refine hb.run A S (ip ++ pinsAt fp s5.heap) R n ys s₀ _ _ _ _ id id s6 σ6 H6 { D with nx := N, ct := N, bk := D.nx } gc7 hn ⟨fun n' ys' s₀' s7 f hn' hs => ?_, fun n' s₀' x s7 hx => ee n' s₀' x s7 hx⟩ ⟨acc, cc, r, I6⟩ q6
        cases f with
        | next =>
          obtain ⟨σ7, H7, I7, n7⟩ := hs
          obtain ⟨m', hm, w7⟩ := hN ys' σ7 H7 n7
          obtain ⟨b1, b2, b3⟩ := back I7
          exact seg_again rfl (ih m' hm (i + 1) n' ys' s₀' s7 σ7 H7 hn' w7 b1 b2 b3)
        | cont =>
          obtain ⟨σ7, H7, I7, n7⟩ := hs
          obtain ⟨m', hm, w7⟩ := hN ys' σ7 H7 n7
          obtain ⟨b1, b2, b3⟩ := back I7
          exact seg_again rfl (ih m' hm (i + 1) n' ys' s₀' s7 σ7 H7 hn' w7 b1 b2 b3)
        | brk =>
          obtain ⟨σ7, H7, I7, q7⟩ := hs
          exact seg_leaf (.ok .next) (k.ok n' ys' s₀' s7 .next hn' ⟨σ7, H7, (back I7).1, q7⟩)
        | ret v =>
          obtain ⟨x7, σ7, H7, I7, r7, q7⟩ := hs
          exact seg_leaf (.ok (.ret v)) (k.ok n' ys' s₀' s7 (.ret v) hn' ⟨x7, σ7, H7, (back I7).1, r7, q7⟩)
  exact loop m0 0 n ys s₀ s2 σ H2 hn w0 ⟨acc0, cc0, r0, I2⟩ st2 fun b hb => (f2 b hb).1
end Kx

/-! zip of two sequences, each a list or a tuple -/
namespace Kx
open PySem PySem.Spec PyProof.Rows L2
/-- a walk over a sequence: the kind (true: a tuple), the iterator, the sequence, its items, the place -/
structure Walks (tup : Bool) (it l : Addr) (xs : Array Value) (k : Nat) (h : Heap) : Prop where
  iter : if tup = true then h.IsTupleIter it l k else h.IsListIter it l k
  seq : if tup = true then h.IsTuple l xs else h.IsList l xs
theorem Walks.but {tup : Bool} {it l b : Addr} {xs : Array Value} {k : Nat} {h h' : Heap} (W : Walks tup it l xs k h) (e : Heap.ExtBut b h h') (n1 : it ≠ b) (n2 : l ≠ b) : Walks tup it l xs k h' := by
  cases tup with
  | true => exact ⟨(show h.IsTupleIter it l k from W.iter).extBut e n1, (show h.IsTuple l xs from W.seq).extBut e n2⟩
  | false => exact ⟨(show h.IsListIter it l k from W.iter).extBut e n1, (show h.IsList l xs from W.seq).extBut e n2⟩
theorem Walks.lt {tup : Bool} {it l : Addr} {xs : Array Value} {k : Nat} {h : Heap} (W : Walks tup it l xs k h) : it < h.objs.size := by
  cases tup with
  | true => obtain ⟨_, e, _⟩ := (show h.IsTupleIter it l k from W.iter); exact Heap.lt_size e
  | false => obtain ⟨_, e, _⟩ := (show h.IsListIter it l k from W.iter); exact Heap.lt_size e
section
variable {prog : Program} {w : World} {A : Around} {E : Value → Shared → Prop} {s : Shared}
theorem Walks.item {tup : Bool} {it l : Addr} {xs : Array Value} {k : Nat} {x : Value} {Q : Value → Shared → Prop} (W : Walks tup it l xs k s.heap) (ne : l ≠ it) (hx : xs[k]? = some x)
    (hQ : ∀ h', Walks tup it l xs (k + 1) h' → Heap.SameBut it s.heap h' → Q x { s with heap := h' }) : wpAny (model prog w) A (Builtin.SmallTypes.nextOf (.ref it)) Q E s := by
  cases tup with
  | true => exact RZ.nextOf_tuple_item (show s.heap.IsTupleIter it l k from W.iter) (show s.heap.IsTuple l xs from W.seq) hx fun h' i' sb => hQ h' ⟨i', (show s.heap.IsTuple l xs from W.seq).extBut sb.extBut ne⟩ sb
  | false => exact wpAny_nextOf_list_item (show s.heap.IsListIter it l k from W.iter) (show s.heap.IsList l xs from W.seq) hx fun h' i' sb => hQ h' ⟨i', (show s.heap.IsList l xs from W.seq).extBut sb.extBut ne⟩ sb
theorem Walks.end_ {tup : Bool} {it l : Addr} {xs : Array Value} {k : Nat} {Q : Value → Shared → Prop} (hh : A.handled = none) (W : Walks tup it l xs k s.heap) (hx : xs[k]? = none)
    (hE : ∀ h' e, Heap.ExtBut it s.heap h' → (∃ o, h'.get? e = some o ∧ o.cls = .type "StopIteration") → E (.ref e) { s with heap := h' }) : wpAny (model prog w) A (Builtin.SmallTypes.nextOf (.ref it)) Q E s := by
  cases tup with
  | true => exact RZ.nextOf_tuple_end hh (show s.heap.IsTupleIter it l k from W.iter) (show s.heap.IsTuple l xs from W.seq) hx hE
  | false => exact wpAny_nextOf_list_end hh (show s.heap.IsListIter it l k from W.iter) (show s.heap.IsList l xs from W.seq) hx hE
abbrev Stays (z TO i1 i2 : Addr) (h h' : Heap) : Prop := ∀ c o, c ≠ z → c ≠ TO → c ≠ i1 → c ≠ i2 → h.get? c = some o → h'.get? c = some o
theorem zipM_item {t1 t2 : Bool} {z TI TO i1 i2 l1 l2 : Addr} {k1 k2 : Nat} {xs ys : Array Value} {x y a b : Value} {Q : Value → Shared → Prop} (D : ZipApart z TI TO i1 i2 l1 l2) (hz : IsZip s.heap z TI TO .none) (hTI : IsPair s.heap TI (.ref i1) (.ref i2)) (hTO : IsPair s.heap TO a b)
    (W1 : Walks t1 i1 l1 xs k1 s.heap) (W2 : Walks t2 i2 l2 ys k2 s.heap) (hx : xs[k1]? = some x) (hy : ys[k2]? = some y)
    (hQ : ∀ h', IsZip h' z TI TO (rawInt s.heap.objs.size) → IsPair h' TO x y → Walks t1 i1 l1 xs (k1 + 1) h' → Walks t2 i2 l2 ys (k2 + 1) h' → IsPair h' s.heap.objs.size x y → h'.objs.size = s.heap.objs.size + 1 → Stays z TO i1 i2 s.heap h' → Q (.ref s.heap.objs.size) { s with heap := h' }) :
    wpAny (model prog w) A (Builtin.«zip.__next__» ⟨[.ref z], []⟩) (fun fin s' => ∃ v, fin = .done (.ret v) ∧ Q v s') E s := by
  show wpAny _ _ (field (.ref z) 2 >>= _) _ _ _
  refine wpAny_bind (wpAny_field hz rfl (x := .bool false) rfl ?_)
  show wpAny _ _ (field (.ref z) 3 >>= _) _ _ _
  refine wpAny_bind (wpAny_field hz rfl (x := .ref TI) rfl (wpAny_bind (wpAny_seqItems hTI rfl ?_)))
  show wpAny _ _ (Builtin.SmallTypes.ownedTupleIsFree (.ref z) >>= _) _ _ _
  unfold Builtin.SmallTypes.ownedTupleIsFree
  refine wpAny_bind (wpAny_bind (wpAny_field hz rfl (x := .none) rfl (wpAny_pure ?_)))
  simp only [if_true]
  refine wpAny_bind (wpAny_rule (wpAny_bind (wpAny_field hz rfl (x := .ref TO) rfl (wpAny_bind (wpAny_setField_rec hz (by simp) fun g1 z1 e1 => ?_)))))
  replace z1 : IsZip g1 z TI TO .ellipsis := z1
  refine wpAny_bind ?_
  simp only [List.zipIdx_cons, List.zipIdx_nil, List.forIn_cons, List.forIn_nil]
  have A1 := W1.but e1.extBut D.i1z D.l1z
  have B1 := W2.but e1.extBut D.i2z D.l2z
  refine wpAny_bind (wpAny_bind (wpAny_onRaise ?_))
  show wpAny _ _ (Builtin.SmallTypes.nextOf (.ref i1) >>= _) _ _ _
  refine wpAny_bind (A1.item D.l1i1 hx fun g2 A2 e2 => wpAny_pure ?_)
  have B2 := B1.but e2.extBut D.i12.symm D.l2i1
  have p2 : IsPair g2 TO a b := e2.extBut _ _ D.TOi1 (e1.extBut _ _ D.TOz hTO)
  refine wpAny_bind (wpAny_seqItems p2 rfl (wpAny_bind (wpAny_updateSeq_pair p2 fun g3 p3 e3 => ?_)))
  replace p3 : IsPair g3 TO x b := p3
  have A3 := A2.but e3.extBut D.TOi1.symm D.l1TO
  have B3 := B2.but e3.extBut D.TOi2.symm D.l2TO
  refine wpAny_bind (wpAny_letGo (wpAny_pure ?_))
  refine wpAny_bind (wpAny_bind (wpAny_onRaise ?_))
  show wpAny _ _ (Builtin.SmallTypes.nextOf (.ref i2) >>= _) _ _ _
  refine wpAny_bind (B3.item D.l2i2 hy fun g4 B4 e4 => wpAny_pure ?_)
  have A4 := A3.but e4.extBut D.i12 D.l1i2
  have p4 : IsPair g4 TO x b := e4.extBut _ _ D.TOi2 p3
  refine wpAny_bind (wpAny_seqItems p4 rfl (wpAny_bind (wpAny_updateSeq_pair p4 fun g5 p5 e5 => ?_)))
  replace p5 : IsPair g5 TO x y := p5
  have A5 := A4.but e5.extBut D.TOi1.symm D.l1TO
  have B5 := B4.but e5.extBut D.TOi2.symm D.l2TO
  refine wpAny_bind (wpAny_letGo (wpAny_pure (wpAny_pure ?_)))
  refine wpAny_bind (wpAny_seqItems p5 rfl (wpAny_bind (wpAny_newTuple ?_)))
  have sz : g5.objs.size = s.heap.objs.size := by rw [e5.1, e4.1, e3.1, e2.1, e1.1]
  have z5 : IsZip g5 z TI TO .ellipsis := e5.extBut _ _ D.TOz.symm (e4.extBut _ _ D.i2z.symm (e3.extBut _ _ D.TOz.symm (e2.extBut _ _ D.i1z.symm z1)))
  have st5 : Stays z TO i1 i2 s.heap g5 := fun c o n1 n2 n3 n4 e => e5.extBut _ _ n2 (e4.extBut _ _ n4 (e3.extBut _ _ n2 (e2.extBut _ _ n3 (e1.extBut _ _ n1 e))))
  have zl : z < g5.objs.size := Heap.lt_size z5
  show wpAny _ _ (Builtin.SmallTypes.ownedTupleHandOut (.ref z) (.ref g5.objs.size) >>= _) _ _ _
  unfold Builtin.SmallTypes.ownedTupleHandOut
  have z6 : IsZip (g5.push { cls := .type "tuple", data := .seq #[x, y] }) z TI TO .ellipsis := Heap.get?_push_of_some _ z5
  refine wpAny_bind (wpAny_bind (wpAny_setField_rec z6 (by simp) fun g7 z7 e7 => ?_))
  replace z7 : IsZip g7 z TI TO (rawInt g5.objs.size) := z7
  refine wpAny_setField_rec z7 (by simp) fun g8 z8 e8 => ?_
  replace z8 : IsZip g8 z TI TO (rawInt g5.objs.size) := z8
  have up : ∀ c o, c ≠ z → g5.get? c = some o → g8.get? c = some o := fun c o n e => e8.extBut _ _ n (e7.extBut _ _ n (Heap.get?_push_of_some _ e))
  have up' : Heap.ExtBut z g5 g8 := fun c o n e => up c o n e
  have pT : IsPair g8 g5.objs.size x y := e8.extBut _ _ (Nat.ne_of_gt zl) (e7.extBut _ _ (Nat.ne_of_gt zl) (Heap.get?_push_size _ rfl))
  have sz8 : g8.objs.size = g5.objs.size + 1 := by rw [e8.1, e7.1, Heap.size_push]
  rw [sz] at z8 pT sz8
  refine wpAny_pure ⟨_, rfl, ?_⟩
  show Q (.ref g5.objs.size) _
  rw [sz]
  exact hQ g8 z8 (up _ _ D.TOz p5) (A5.but up' D.i1z D.l1z) (B5.but up' D.i2z D.l2z) pT sz8 fun c o n1 n2 n3 n4 e => up c o n1 (st5 c o n1 n2 n3 n4 e)
theorem zipM_end {t1 t2 : Bool} {z TI TO i1 i2 l1 l2 : Addr} {k1 k2 : Nat} {xs ys : Array Value} {a b : Value} {Q : Fin → Shared → Prop} (hh : A.handled = none) (D : ZipApart z TI TO i1 i2 l1 l2) (hz : IsZip s.heap z TI TO .none) (hTI : IsPair s.heap TI (.ref i1) (.ref i2)) (hTO : IsPair s.heap TO a b)
    (W1 : Walks t1 i1 l1 xs k1 s.heap) (W2 : Walks t2 i2 l2 ys k2 s.heap) (done : xs[k1]? = none ∨ ys[k2]? = none)
    (hE : ∀ h' e, Stays z TO i1 i2 s.heap h' → (∃ o, h'.get? e = some o ∧ o.cls = .type "StopIteration") → E (.ref e) { s with heap := h' }) : wpAny (model prog w) A (Builtin.«zip.__next__» ⟨[.ref z], []⟩) Q E s := by
  show wpAny _ _ (field (.ref z) 2 >>= _) _ _ _
  refine wpAny_bind (wpAny_field hz rfl (x := .bool false) rfl ?_)
  show wpAny _ _ (field (.ref z) 3 >>= _) _ _ _
  refine wpAny_bind (wpAny_field hz rfl (x := .ref TI) rfl (wpAny_bind (wpAny_seqItems hTI rfl ?_)))
  show wpAny _ _ (Builtin.SmallTypes.ownedTupleIsFree (.ref z) >>= _) _ _ _
  unfold Builtin.SmallTypes.ownedTupleIsFree
  refine wpAny_bind (wpAny_bind (wpAny_field hz rfl (x := .none) rfl (wpAny_pure ?_)))
  simp only [if_true]
  refine wpAny_bind (wpAny_rule (wpAny_bind (wpAny_field hz rfl (x := .ref TO) rfl (wpAny_bind (wpAny_setField_rec hz (by simp) fun g1 z1 e1 => ?_)))))
  replace z1 : IsZip g1 z TI TO .ellipsis := z1
  refine wpAny_bind ?_
  simp only [List.zipIdx_cons, List.zipIdx_nil, List.forIn_cons, List.forIn_nil]
  have A1 := W1.but e1.extBut D.i1z D.l1z
  have B1 := W2.but e1.extBut D.i2z D.l2z
  refine wpAny_bind (wpAny_bind (wpAny_onRaise ?_))
  show wpAny _ _ (Builtin.SmallTypes.nextOf (.ref i1) >>= _) _ _ _
  cases hx : xs[k1]? with
  | none =>
    refine wpAny_bind (A1.end_ hh hx fun g2 e e2 he => ?_)
    obtain ⟨oe, ho, hc⟩ := he
    have z2 : IsZip g2 z TI TO .ellipsis := e2 _ _ D.i1z.symm z1
    have ez : e ≠ z := fun q => by subst q; rw [z2] at ho; cases ho; simp at hc
    exact wpAny_setField_rec z2 (by simp) fun g3 _ e3 => hE g3 e (fun c o n1 _ n3 _ q => e3.extBut _ _ n1 (e2 _ _ n3 (e1.extBut _ _ n1 q))) ⟨oe, e3.extBut _ _ ez ho, hc⟩
  | some x =>
    have hy : ys[k2]? = none := done.resolve_left fun q => by rw [hx] at q; cases q
    refine wpAny_bind (A1.item D.l1i1 hx fun g2 A2 e2 => wpAny_pure ?_)
    have B2 := B1.but e2.extBut D.i12.symm D.l2i1
    have p2 : IsPair g2 TO a b := e2.extBut _ _ D.TOi1 (e1.extBut _ _ D.TOz hTO)
    refine wpAny_bind (wpAny_seqItems p2 rfl (wpAny_bind (wpAny_updateSeq_pair p2 fun g3 p3 e3 => ?_)))
    have B3 := B2.but e3.extBut D.TOi2.symm D.l2TO
    refine wpAny_bind (wpAny_letGo (wpAny_pure ?_))
    refine wpAny_bind (wpAny_bind (wpAny_onRaise ?_))
    show wpAny _ _ (Builtin.SmallTypes.nextOf (.ref i2) >>= _) _ _ _
    refine wpAny_bind (B3.end_ hh hy fun g4 e e4 he => ?_)
    obtain ⟨oe, ho, hc⟩ := he
    have z4 : IsZip g4 z TI TO .ellipsis := e4 _ _ D.i2z.symm (e3.extBut _ _ D.TOz.symm (e2.extBut _ _ D.i1z.symm z1))
    have ez : e ≠ z := fun q => by subst q; rw [z4] at ho; cases ho; simp at hc
    exact wpAny_setField_rec z4 (by simp) fun g5 _ e5 => hE g5 e (fun c o n1 n2 n3 n4 q => e5.extBut _ _ n1 (e4 _ _ n4 (e3.extBut _ _ n2 (e2.extBut _ _ n3 (e1.extBut _ _ n1 q))))) ⟨oe, e5.extBut _ _ ez ho, hc⟩
theorem nextM_item {t1 t2 : Bool} {z TI TO i1 i2 l1 l2 : Addr} {k1 k2 : Nat} {xs ys : Array Value} {x y a b : Value} {Q : Option Value → Shared → Prop} (D : ZipApart z TI TO i1 i2 l1 l2) (hz : IsZip s.heap z TI TO .none) (hTI : IsPair s.heap TI (.ref i1) (.ref i2)) (hTO : IsPair s.heap TO a b)
    (W1 : Walks t1 i1 l1 xs k1 s.heap) (W2 : Walks t2 i2 l2 ys k2 s.heap) (hx : xs[k1]? = some x) (hy : ys[k2]? = some y)
    (hQ : ∀ h', IsZip h' z TI TO (rawInt s.heap.objs.size) → IsPair h' TO x y → Walks t1 i1 l1 xs (k1 + 1) h' → Walks t2 i2 l2 ys (k2 + 1) h' → IsPair h' s.heap.objs.size x y → h'.objs.size = s.heap.objs.size + 1 → Stays z TO i1 i2 s.heap h' → Q (some (.ref s.heap.objs.size)) { s with heap := h' }) :
    wpAny (model prog w) A (pyNext (.ref z)) Q E s := by
  have hT : s.TypeIs (.ref z) "zip" := ⟨_, hz, rfl⟩
  unfold pyNext
  refine wpAny_bind (wpAny_attempt (wpAny_callSpecial?_slot (name := Str.ofString "__next__") hT F.slot_zip_next (wpAny_call_entry F.slot_zip_next hT F.entry_zip_next ?_ (F.args_zip_next_1 _))))
  exact zipM_item D hz hTI hTO W1 W2 hx hy fun h' a1 a2 a3 a4 a5 a6 a7 => wpAny_pure (hQ h' a1 a2 a3 a4 a5 a6 a7)
theorem nextM_end {t1 t2 : Bool} {z TI TO i1 i2 l1 l2 : Addr} {k1 k2 : Nat} {xs ys : Array Value} {a b : Value} {Q : Option Value → Shared → Prop} (hh : A.handled = none) (D : ZipApart z TI TO i1 i2 l1 l2) (hz : IsZip s.heap z TI TO .none) (hTI : IsPair s.heap TI (.ref i1) (.ref i2)) (hTO : IsPair s.heap TO a b)
    (W1 : Walks t1 i1 l1 xs k1 s.heap) (W2 : Walks t2 i2 l2 ys k2 s.heap) (done : xs[k1]? = none ∨ ys[k2]? = none) (hQ : ∀ h', Stays z TO i1 i2 s.heap h' → Q none { s with heap := h' }) : wpAny (model prog w) A (pyNext (.ref z)) Q E s := by
  have hT : s.TypeIs (.ref z) "zip" := ⟨_, hz, rfl⟩
  unfold pyNext
  refine wpAny_bind (wpAny_attempt (wpAny_callSpecial?_slot (name := Str.ofString "__next__") hT F.slot_zip_next (wpAny_call_entry F.slot_zip_next hT F.entry_zip_next ?_ (F.args_zip_next_1 _))))
  refine zipM_end hh D hz hTI hTO W1 W2 done fun h' e st ⟨o, ho, hc⟩ => ?_
  exact wpAny_bind (wpAny_isInstance (T := "StopIteration") (b := true) ⟨o, ho, hc⟩ isSubtype_stop (wpAny_pure (hQ _ st)))
end
/-! ### its making -/
def itName (tup : Bool) : String := if tup = true then "tuple_iterator" else "list_iterator"
abbrev zm1 (t1 : Bool) (h : Heap) (l1 : Addr) : Heap := h.push { cls := .type (itName t1), data := .fields #[.ref l1, .int 0 0] }
abbrev zm2 (t1 t2 : Bool) (h : Heap) (l1 l2 : Addr) : Heap := (zm1 t1 h l1).push { cls := .type (itName t2), data := .fields #[.ref l2, .int 0 0] }
abbrev zm3 (t1 t2 : Bool) (h : Heap) (l1 l2 : Addr) : Heap := (zm2 t1 t2 h l1 l2).push { cls := .type "tuple", data := .seq #[.ref h.objs.size, .ref (zm1 t1 h l1).objs.size] }
abbrev zm4 (t1 t2 : Bool) (h : Heap) (l1 l2 : Addr) : Heap := (zm3 t1 t2 h l1 l2).push { cls := .type "tuple", data := .seq #[.none, .none] }
abbrev zm5 (t1 t2 : Bool) (h : Heap) (l1 l2 : Addr) : Heap := (zm4 t1 t2 h l1 l2).push { cls := .type "zip", data := .fields #[.none, .bool false, .bool false, .ref (zm2 t1 t2 h l1 l2).objs.size, .ref (zm3 t1 t2 h l1 l2).objs.size] }
theorem zipM_new (l1 l2 : Addr) (xs ys : Array Value) : Meets (Builtin.«zip.__new__» ⟨[.type "zip", .ref l1, .ref l2], []⟩)
    (fun _ R s => s.heap.IsList l1 xs ∧ s.heap.IsTuple l2 ys ∧ R (.ok (.ret (.ref (zm4 false true s.heap l1 l2).objs.size))) { s with heap := zm5 false true s.heap l1 l2 }) :=
  .of_wp fun prog w A R s h => by
    obtain ⟨hp, g, d, tk, os⟩ := s
    obtain ⟨q1, q2, h⟩ := h
    have sub := sub_zip
    have q1' : Heap.IsList (Shared.heap ⟨hp, g, d, tk, os⟩) l1 xs := q1
    have q2' : Heap.IsTuple (Shared.heap ⟨hp.push { cls := .type "list_iterator", data := .fields #[.ref l1, .int 0 0] }, g, d, tk, os⟩) l2 ys := Heap.IsTuple.push q2 _
    wp_walk using wpAny_pyIter_list q1', wpAny_pyIter_tuple q2'
    exact ⟨_, rfl, h⟩
section
variable {prog : Program} {w : World} {A : Around} {E : Value → Shared → Prop} {s : Shared}
theorem call_zipM {l1 l2 : Addr} {xs ys : Array Value} {Q : Value → Shared → Prop} (q1 : s.heap.IsList l1 xs) (q2 : s.heap.IsTuple l2 ys)
    (h : ∀ h', IsZip h' (s.heap.objs.size + 4) (s.heap.objs.size + 2) (s.heap.objs.size + 3) .none → IsPair h' (s.heap.objs.size + 2) (.ref s.heap.objs.size) (.ref (s.heap.objs.size + 1)) → IsPair h' (s.heap.objs.size + 3) .none .none →
      Walks false s.heap.objs.size l1 xs 0 h' → Walks true (s.heap.objs.size + 1) l2 ys 0 h' → (∀ c o, s.heap.get? c = some o → h'.get? c = some o) → Q (.ref (s.heap.objs.size + 4)) { s with heap := h' }) :
    wpAny (model prog w) A (call (.type "zip") [.ref l1, .ref l2]) Q E s := by
  have n1 : (zm1 false s.heap l1).objs.size = s.heap.objs.size + 1 := Heap.size_push ..
  have n2 : (zm2 false true s.heap l1 l2).objs.size = s.heap.objs.size + 2 := by rw [Heap.size_push, n1]
  have n3 : (zm3 false true s.heap l1 l2).objs.size = s.heap.objs.size + 3 := by rw [Heap.size_push, n2]
  have n4 : (zm4 false true s.heap l1 l2).objs.size = s.heap.objs.size + 4 := by rw [Heap.size_push, n3]
  have up : ∀ {c : Addr} {o : Obj}, (zm1 false s.heap l1).get? c = some o → (zm5 false true s.heap l1 l2).get? c = some o := fun {c o} e => Heap.get?_push_of_some _ (Heap.get?_push_of_some _ (Heap.get?_push_of_some _ (Heap.get?_push_of_some _ e)))
  have keep : ∀ c o, s.heap.get? c = some o → (zm5 false true s.heap l1 l2).get? c = some o := fun c o e => up (Heap.get?_push_of_some _ e)
  have p1 : (zm5 false true s.heap l1 l2).get? s.heap.objs.size = some _ := up (Heap.get?_push_size _ rfl)
  have p2 : (zm5 false true s.heap l1 l2).get? (zm1 false s.heap l1).objs.size = some _ := Heap.get?_push_of_some _ (Heap.get?_push_of_some _ (Heap.get?_push_of_some _ (Heap.get?_push_size _ rfl)))
  have p3 : (zm5 false true s.heap l1 l2).get? (zm2 false true s.heap l1 l2).objs.size = some _ := Heap.get?_push_of_some _ (Heap.get?_push_of_some _ (Heap.get?_push_size _ rfl))
  have p4 : (zm5 false true s.heap l1 l2).get? (zm3 false true s.heap l1 l2).objs.size = some _ := Heap.get?_push_of_some _ (Heap.get?_push_size _ rfl)
  have p5 : (zm5 false true s.heap l1 l2).get? (zm4 false true s.heap l1 l2).objs.size = some _ := Heap.get?_push_size _ rfl
  refine callType_new F.called_zip (by decide) (F.typeCall_zip_2 _ _) (F.newCall_zip_2 _ _) (fun obj => F.args_object_init_3 obj _ _) F.entry_zip_new (zipM_new l1 l2 xs ys) ⟨q1, q2, ?_⟩
  show _ ∧ _
  rw [n2, n3, n4] at p5
  rw [n1, n2] at p3
  rw [n3] at p4
  rw [n1] at p2
  rw [n4]
  have stay1 : (zm5 false true s.heap l1 l2).IsList l1 xs := by
    obtain ⟨o, e, r⟩ := q1
    exact ⟨o, keep _ _ e, r⟩
  have stay2 : (zm5 false true s.heap l1 l2).IsTuple l2 ys := by
    obtain ⟨o, e, r⟩ := q2
    exact ⟨o, keep _ _ e, r⟩
  exact ⟨⟨_, p5, rfl⟩, h _ p5 p3 p4 ⟨⟨_, p1, rfl, rfl⟩, stay1⟩ ⟨⟨_, p2, rfl, rfl⟩, stay2⟩ keep⟩
end
/-- the list at a and the tuple at b, in new pairs -/
def ItzM (K : PySem.W.Frag) (a b : Addr) : It :=
  ⟨fun i H => ∃ (xs ys : List V) (x y : V), SqL K H a xs ∧ SqT K H b ys ∧ xs[i]? = some x ∧ ys[i]? = some y,
    fun i H v H' => ∃ T x y, v = .ref T ∧ H T = none ∧ H' = upd H T (.tup [x, y]) ∧ (∀ xs, SqL K H a xs → xs[i]? = some x) ∧ ∀ ys, SqT K H b ys → ys[i]? = some y,
    fun i H => ∃ xs ys : List V, SqL K H a xs ∧ SqT K H b ys ∧ (xs.length ≤ i ∨ ys.length ≤ i)⟩
theorem Walks.isIter {tup : Bool} {it l : Addr} {xs : Array Value} {k : Nat} {h : Heap} (W : Walks tup it l xs k h) : ∃ o, h.get? it = some o ∧ ∀ v, o.data ≠ .cell v := by
  cases tup with
  | true => obtain ⟨o, e, _, d⟩ := (show h.IsTupleIter it l k from W.iter); exact ⟨o, e, fun v q => by rw [d] at q; cases q⟩
  | false => obtain ⟨o, e, _, d⟩ := (show h.IsListIter it l k from W.iter); exact ⟨o, e, fun v q => by rw [d] at q; cases q⟩
theorem turn_zipM {P : Program} {w : World} {K : PySem.W.Frag} {elts : List Expr} {kk : Nat} {tpos : Pos} {a b z TI TO i1 i2 : Addr} (D : ZipApart z TI TO i1 i2 a b) :
    Turn P w K (.Tuple elts kk tpos) (ItzM K a b) [z, TI, TO, i1, i2] z (fun i h => IsZip h z TI TO .none ∧ IsPair h TI (.ref i1) (.ref i2) ∧ (∃ x y, IsPair h TO x y) ∧ h.IsListIter i1 a i ∧ h.IsTupleIter i2 b i) where
  mem := List.mem_cons_self
  obj := fun i h st c hc => by
    obtain ⟨q1, q2, ⟨x, y, q3⟩, ⟨o1, e1, _, d1⟩, ⟨o2, e2, _, d2⟩⟩ := st
    simp only [List.mem_cons, List.not_mem_nil, or_false] at hc
    rcases hc with rfl | rfl | rfl | rfl | rfl
    · exact ⟨_, q1, fun v q => nomatch q⟩
    · exact ⟨_, q2, fun v q => nomatch q⟩
    · exact ⟨_, q3, fun v q => nomatch q⟩
    · exact ⟨o1, e1, fun v q => by rw [d1] at q; cases q⟩
    · exact ⟨o2, e2, fun v q => by rw [d2] at q; cases q⟩
  keep := fun i h h' st k => by
    obtain ⟨q1, q2, ⟨x, y, q3⟩, q4, q5⟩ := st
    exact ⟨k z (by simp) _ q1, k TI (by simp) _ q2, ⟨x, y, k TO (by simp) _ q3⟩, q4.at fun o q => k i1 (by simp) o q, q5.at fun o q => k i2 (by simp) o q⟩
  item := by
    intro X hP hw hK hc i pins s σ H E I hf st hg
    subst hP hw hK
    obtain ⟨q1, q2, ⟨x0, y0, q3⟩, q4, q5⟩ := st
    obtain ⟨xs, ys, x, y, ha, hb, hx, hy⟩ := hg
    obtain ⟨its, rv, pl, _⟩ := I.list ha
    obtain ⟨its2, rv2, pt, _⟩ := I.tuple hb
    obtain ⟨u, hu, ru⟩ := rv.get hx
    obtain ⟨u2, hu2, ru2⟩ := rv2.get hy
    have zl : z < s.heap.objs.size := Heap.lt_size q1
    refine nextM_item D q1 q2 q3 (⟨q4, pl.isList⟩ : Walks false i1 a its.toArray i s.heap) (⟨q5, pt⟩ : Walks true i2 b its2.toArray i s.heap) (x := u) (y := u2) (by simpa using hu) (by simpa using hu2) fun g z1 t1 W1 W2 pT gsz st => ?_
    refine ⟨_, rfl, wpAny_letOwnedTupleGo_zip (s := { s with heap := g }) z1 fun g2 z2 sb => ?_⟩
    have kept : ∀ c o, c ∉ [z, TI, TO, i1, i2] → s.heap.get? c = some o → g2.get? c = some o := fun c o n e => by
      simp only [List.mem_cons, List.not_mem_nil, or_false, not_or] at n
      exact (sb.2 c n.1).trans (st c o n.1 n.2.2.1 n.2.2.2.1 n.2.2.2.2 e)
    have pT2 : g2.get? s.heap.objs.size = some { cls := .type "tuple", data := .seq #[u, u2] } := (sb.2 _ (Nat.ne_of_gt zl)).trans pT
    have new : ObjOk X.prog X.w (upd H s.heap.objs.size (.tup [x, y])) g2 s.heap.objs.size (.tup [x, y]) := ⟨by show 2 ≤ sizeLine; decide, [u, u2], .cons ru (.cons ru2 .nil), ⟨_, pT2, rfl, _, rfl⟩⟩
    have I1 : Inv X pins σ (upd H s.heap.objs.size (.tup [x, y])) { s with heap := g2 } := I.turnedNew (t' := s.toks) (ch := [z, TI, TO, i1, i2]) (fun c o n e => kept c o n e) hf (Nat.le_refl _) new
    refine ⟨.ref s.heap.objs.size, _, I1, rfl, ⟨_, x, y, rfl, I.hok.fresh (Nat.le_refl _), rfl, fun m hm => by rw [I.list_inj hm ha]; exact hx, fun m hm => by rw [I.tuple_inj hm hb]; exact hy⟩, ⟨z2, ?_, ⟨u, u2, ?_⟩, ?_, ?_⟩, fun c hcm => ?_⟩
    · exact (sb.2 _ D.TIz).trans (st _ _ D.TIz D.TITO D.TIi1 D.TIi2 q2)
    · exact (sb.2 _ D.TOz).trans t1
    · exact (show g.IsListIter i1 a (i + 1) from W1.iter).at fun o q => (sb.2 _ D.i1z).trans q
    · exact (show g.IsTupleIter i2 b (i + 1) from W2.iter).at fun o q => (sb.2 _ D.i2z).trans q
    · have ne : c ≠ s.heap.objs.size := by
        refine Nat.ne_of_lt ?_
        simp only [List.mem_cons, List.not_mem_nil, or_false] at hcm
        rcases hcm with rfl | rfl | rfl | rfl | rfl
        · exact zl
        · exact Heap.lt_size q2
        · exact Heap.lt_size q3
        · obtain ⟨_, e1, _⟩ := q4; exact Heap.lt_size e1
        · obtain ⟨_, e1, _⟩ := q5; exact Heap.lt_size e1
      rw [upd_ne ne]
      exact (hf c hcm).1
  done := by
    intro X hP hw hK hc i pins s σ H E I hf st hg
    subst hP hw hK
    obtain ⟨q1, q2, ⟨x0, y0, q3⟩, q4, q5⟩ := st
    obtain ⟨xs, ys, ha, hb, over⟩ := hg
    obtain ⟨its, rv, pl, _⟩ := I.list ha
    obtain ⟨its2, rv2, pt, _⟩ := I.tuple hb
    have l1 := rv.length
    have l2 := rv2.length
    refine nextM_end (I.ok.hd hc) D q1 q2 q3 (⟨q4, pl.isList⟩ : Walks false i1 a its.toArray i s.heap) (⟨q5, pt⟩ : Walks true i2 b its2.toArray i s.heap) ?_ fun g st => ⟨rfl, I.turnedL (t' := s.toks) (ch := [z, TI, TO, i1, i2]) (fun c o n e => ?_) hf⟩
    · rcases over with q | q
      · exact .inl (by simp; omega)
      · exact .inr (by simp; omega)
    · simp only [List.mem_cons, List.not_mem_nil, or_false, not_or] at n
      exact st c o n.1 n.2.2.1 n.2.2.2.1 n.2.2.2.2 e
  self := fun A i s Q E st h => wpAny_pyIter_zip st.1 h
/-- zip(list or tuple, tuple) -/
def iZipM (K : PySem.W.Frag) (ta : TA) : TI := fun σ H R => ta σ H fun vs H1 => ∃ a b xs ys, vs = [.ref a, .ref b] ∧ SqT K H1 b ys ∧ ((SqL K H1 a xs ∧ R (ItzM K a b) H1) ∨ (SqT K H1 a xs ∧ R (RZ.ItzT K a b) H1))
theorem pi_zipM {X : Cx} {e e2 : Expr} {ta : TA} {p pos tpos : Pos} {elts : List Expr} {kk : Nat} (hg : Gl X "zip") (hm : X.mg "zip" = none) (ha : PA X [e, e2] ta) (hs : starEach [e, e2] X.env = (false, eval e X.env) :: starEach [e2] X.env := by rfl)
    (hpl : (backTo pos (starEach [e2] X.env)).any (·.1) = false := by rfl) : PI X (.Tuple elts kk tpos) (.Call (.Name "zip" p) [e, e2] [] pos) (iZipM X.K ta) := by
  refine ⟨fun pins s σ H R I h => ?_⟩
  refine Call_ (ld_blt I hg hm PyProof.Rows.boot_zip (PyProof.Rows.callWith_type1 (thn (ha.run pos pins s σ H _ I h) fun us s1 ⟨vs, H1, I1, r1, q1⟩ => ?_) hs hpl))
  obtain ⟨a, b, xs, ys, ex, hb, q1⟩ := q1
  subst ex
  obtain ⟨u, u2, rfl, ru, ru2⟩ := r1.two
  cases ru
  cases ru2
  have fresh : ∀ c, c ∈ [s1.heap.objs.size + 4, s1.heap.objs.size + 2, s1.heap.objs.size + 3, s1.heap.objs.size, s1.heap.objs.size + 1] → FpOk X pins H1 c := fun c hcm => by
    have hle : s1.heap.objs.size ≤ c := by
      simp only [List.mem_cons, List.not_mem_nil, or_false] at hcm
      omega
    exact I1.fpOk hle (I1.hok.fresh hle)
  obtain ⟨its2, rv2, pt, _⟩ := I1.tuple hb
  obtain ⟨o2, e2', _⟩ := id pt
  rcases q1 with ⟨hl, q⟩ | ⟨ht, q⟩
  · obtain ⟨its, rv, pl, _⟩ := I1.list hl
    refine call_zipM pl.isList pt fun g z1 z2 z3 W1 W2 keep => wpAny_pyIter_zip z1 ?_
    exact ⟨s1.heap.objs.size + 4, _, _, _, H1, rfl, I1.kept (t' := s1.toks) keep, turn_zipM (PySem.W.ktu_apart s1.heap.objs.size a b pl.lt (Heap.lt_size e2')), ⟨z1, z2, ⟨_, _, z3⟩, W1.iter, W2.iter⟩, fresh, q⟩
  · obtain ⟨its, rv, pl, _⟩ := I1.tuple ht
    obtain ⟨o1, e1, _⟩ := id pl
    refine RZ.call_zipT (show s1.heap.IsTuple a its.toArray from pl) (show s1.heap.IsTuple b its2.toArray from pt) fun g z1 z2 z3 w1 w2 _ keep => wpAny_pyIter_zip z1 ?_
    exact ⟨s1.heap.objs.size + 4, _, _, _, H1, rfl, I1.kept (t' := s1.toks) keep, RZ.turn_zipT (PySem.W.ktu_apart s1.heap.objs.size a b (Heap.lt_size e1) (Heap.lt_size e2')), ⟨z1, z2, ⟨_, _, z3⟩, w1, w2⟩, fresh, q⟩
end Kx

/-! enumerate(tuple), enumerate(list or tuple) -/
namespace Kx
open PySem PySem.Spec PyProof.Rows L2
section
variable {prog : Program} {w : World} {A : Around} {E : Value → Shared → Prop} {s : Shared}
theorem enumT_item {e it l : Addr} {i : Nat} {items : Array Value} {x old : Value} {Q : Option Value → Shared → Prop} (he : IsEnum s.heap e it i old) (hi : s.heap.IsTupleIter it l i) (hl : s.heap.IsTuple l items) (hx : items[i]? = some x) (ne : e ≠ it)
    (hQ : ∀ h', IsEnumOut h' e it ((i : Int) + 1) x s.heap.objs.size → h'.IsTupleIter it l (i + 1) → h'.get? s.heap.objs.size = some { cls := .type "tuple", data := .seq #[.int i s.toks, x] } →
      (∀ b o, b ≠ e → b ≠ it → s.heap.get? b = some o → h'.get? b = some o) → Q (some (.ref s.heap.objs.size)) { s with heap := h', toks := s.toks + 1 }) : wpAny (model prog w) A (pyNext (.ref e)) Q E s := by
  have hT : s.TypeIs (.ref e) "enumerate" := ⟨_, he, rfl⟩
  unfold pyNext
  refine wpAny_bind (wpAny_attempt (wpAny_callSpecial?_slot (name := Str.ofString "__next__") hT F.slot_enumerate_next (wpAny_call_entry F.slot_enumerate_next hT F.entry_enumerate_next ?_ (F.args_enumerate_next_1 _))))
  clear hT
  obtain ⟨hp, g, d, tk, os⟩ := s
  show wpAny _ _ (field (.ref e) 2 >>= _) _ _ _
  refine wpAny_bind (wpAny_field he rfl (x := .ref it) rfl (wpAny_bind (RZ.nextOf_tuple_item hi hl hx fun g1 i1 e1 => ?_)))
  replace e1 : Heap.SameBut it hp g1 := e1
  have h1 : IsEnum g1 e it i old := (e1.2 e ne).trans he
  show wpAny _ _ (field (.ref e) 3 >>= _) _ _ ⟨g1, g, d, tk, os⟩
  refine wpAny_bind (wpAny_field h1 rfl (x := rawInt i) rfl ?_)
  show wpAny _ _ (field (.ref e) 4 >>= _) _ _ ⟨g1, g, d, tk, os⟩
  refine wpAny_bind (wpAny_field h1 rfl (x := .none) rfl ?_)
  show wpAny _ _ (mkInt i >>= _) _ _ ⟨g1, g, d, tk, os⟩
  refine wpAny_bind (wpAny_mkInt ?_)
  show wpAny _ _ (setField (.ref e) 3 (rawInt ((i : Int) + 1)) >>= _) _ _ ⟨g1, g, d, tk + 1, os⟩
  refine wpAny_bind (wpAny_setField_rec h1 (by simp) fun g2 h2 e2 => ?_)
  replace e2 : Heap.SameBut e g1 g2 := e2
  replace h2 : IsEnum g2 e it ((i : Int) + 1) old := h2
  show wpAny _ _ (setField (.ref e) 4 .none >>= _) _ _ ⟨g2, g, d, tk + 1, os⟩
  refine wpAny_bind (wpAny_setField_rec h2 (by simp) fun g3 h3 e3 => ?_)
  replace e3 : Heap.SameBut e g2 g3 := e3
  replace h3 : IsEnum g3 e it ((i : Int) + 1) old := h3
  show wpAny _ _ (newTuple [.int i tk, x] >>= _) _ _ ⟨g3, g, d, tk + 1, os⟩
  refine wpAny_bind (wpAny_newTuple ?_)
  have h4 : IsEnum (g3.push { cls := .type "tuple", data := .seq #[.int i tk, x] }) e it ((i : Int) + 1) old := Heap.get?_push_of_some _ h3
  have sz : g3.objs.size = hp.objs.size := by rw [e3.1, e2.1, e1.1]
  have el : e < hp.objs.size := Heap.lt_size he
  have pT : (g3.push { cls := .type "tuple", data := .seq #[.int i tk, x] }).get? hp.objs.size = some { cls := .type "tuple", data := .seq #[.int i tk, x] } := by rw [← sz]; exact Heap.get?_push_size _ rfl
  have kept : ∀ b o, b ≠ e → b ≠ it → hp.get? b = some o → (g3.push { cls := .type "tuple", data := .seq #[.int i tk, x] }).get? b = some o := fun b o n1 n2 q => Heap.get?_push_of_some _ (e3.extBut b o n1 (e2.extBut b o n1 (e1.extBut b o n2 q)))
  have i4 : (g3.push { cls := .type "tuple", data := .seq #[.int i tk, x] }).IsTupleIter it l (i + 1) := by
    obtain ⟨o, ho, r⟩ := (i1.extBut e2.extBut ne.symm).extBut e3.extBut ne.symm
    exact ⟨o, Heap.get?_push_of_some _ ho, r⟩
  show wpAny _ _ (Builtin.SmallTypes.ownedTupleIsFree (.ref e) >>= _) _ _ ⟨g3.push { cls := .type "tuple", data := .seq #[.int i tk, x] }, g, d, tk + 1, os⟩
  rw [sz]
  revert h4 pT kept i4
  generalize g3.push { cls := .type "tuple", data := .seq #[.int i tk, x] } = g4
  intro h4 pT kept i4
  unfold Builtin.SmallTypes.ownedTupleIsFree
  refine wpAny_bind (wpAny_bind (wpAny_field h4 rfl (x := .none) rfl (wpAny_pure ?_)))
  simp only [if_true]
  refine wpAny_bind (wpAny_rule (wpAny_bind (wpAny_field h4 rfl (x := old) rfl (wpAny_bind (wpAny_setField_rec h4 (by simp) fun g5 h5 e5 => ?_)))))
  replace e5 : Heap.SameBut e g4 g5 := e5
  replace h5 : IsEnum g5 e it ((i : Int) + 1) x := h5
  show wpAny _ _ (Builtin.SmallTypes.ownedTupleHandOut (.ref e) (.ref hp.objs.size) >>= _) _ _ ⟨g5, g, d, tk + 1, os⟩
  unfold Builtin.SmallTypes.ownedTupleHandOut
  refine wpAny_bind (wpAny_bind (wpAny_setField_rec h5 (by simp) fun g6 h6 e6 => ?_))
  replace e6 : Heap.SameBut e g5 g6 := e6
  replace h6 : IsEnumOut g6 e it ((i : Int) + 1) x hp.objs.size := h6
  refine wpAny_setField_rec h6 (by simp) fun g7 h7 e7 => ?_
  replace e7 : Heap.SameBut e g6 g7 := e7
  replace h7 : IsEnumOut g7 e it ((i : Int) + 1) x hp.objs.size := h7
  have up : ∀ b o, b ≠ e → g4.get? b = some o → g7.get? b = some o := fun b o n q => e7.extBut _ _ n (e6.extBut _ _ n (e5.extBut _ _ n q))
  refine wpAny_bind (wpAny_letGo (wpAny_pure ⟨_, rfl, wpAny_pure (hQ g7 h7 (i4.at fun o q => up it o ne.symm q) (up _ _ (Nat.ne_of_gt el) pT) fun b o n1 n2 q => up b o n1 (kept b o n1 n2 q))⟩))
theorem enumT_end {e it l : Addr} {i : Nat} {items : Array Value} {old : Value} {Q : Option Value → Shared → Prop} (hh : A.handled = none) (he : IsEnum s.heap e it i old) (hi : s.heap.IsTupleIter it l i) (hl : s.heap.IsTuple l items) (hx : items[i]? = none)
    (hQ : ∀ h', Heap.ExtBut it s.heap h' → Q none { s with heap := h' }) : wpAny (model prog w) A (pyNext (.ref e)) Q E s := by
  have hT : s.TypeIs (.ref e) "enumerate" := ⟨_, he, rfl⟩
  unfold pyNext
  refine wpAny_bind (wpAny_attempt (wpAny_callSpecial?_slot (name := Str.ofString "__next__") hT F.slot_enumerate_next (wpAny_call_entry F.slot_enumerate_next hT F.entry_enumerate_next ?_ (F.args_enumerate_next_1 _))))
  show wpAny _ _ (field (.ref e) 2 >>= _) _ _ _
  refine wpAny_bind (wpAny_field he rfl (x := .ref it) rfl (wpAny_bind (RZ.nextOf_tuple_end hh hi hl hx fun h' y eb ⟨o, ho, hc⟩ => ?_)))
  exact wpAny_bind (wpAny_isInstance (T := "StopIteration") (b := true) ⟨o, ho, hc⟩ isSubtype_stop (wpAny_pure (hQ _ eb)))
end
theorem enumT_new (l : Addr) (items : Array Value) (n : Nat) (dct : Option Addr) (sl : Array (Option Value)) : Meets (Builtin.«enumerate.__new__» ⟨[.type "enumerate", .ref l], []⟩)
    (fun _ R s => s.heap.get? l = some { cls := .type "tuple", dict := dct, data := .seq items n, slots := sl } ∧ R (.ok (.ret (.ref (s.heap.push { cls := .type "tuple_iterator", data := .fields #[.ref l, .int 0 0] }).objs.size)))
      { s with heap := (s.heap.push { cls := .type "tuple_iterator", data := .fields #[.ref l, .int 0 0] }).push { cls := .type "enumerate", data := .fields #[.none, .bool false, .ref s.heap.objs.size, rawInt 0, .none, .none] } }) :=
  .of_wp fun prog w A R s h => by
    obtain ⟨hp, g, d, tk, os⟩ := s
    obtain ⟨hl, h⟩ := h
    have sub := sub_enumerate
    have q : Heap.IsTuple (Shared.heap ⟨hp, g, d, tk, os⟩) l items := ⟨_, hl, rfl, n, rfl⟩
    wp_walk using AutoSeq1.wpAny_loadPart' hl
    refine wpAny_stack_any fun st => wpAny_pure ?_
    split
    · rename_i c _ _ _ _ _
      cases (c == Value.type "enumerate")
      · wp_walk using AutoSeq1.wpAny_loadPart' hl, wpAny_pyIter_tuple q
        exact ⟨_, rfl, h⟩
      · wp_walk using AutoSeq1.wpAny_loadPart' hl, wpAny_pyIter_tuple q
        exact ⟨_, rfl, h⟩
    · wp_walk using AutoSeq1.wpAny_loadPart' hl, wpAny_pyIter_tuple q
      exact ⟨_, rfl, h⟩
section
variable {prog : Program} {w : World} {A : Around} {E : Value → Shared → Prop} {s : Shared}
theorem call_enumT {l : Addr} {items : Array Value} {Q : Value → Shared → Prop} (hl : s.heap.IsTuple l items)
    (h : ∀ h', IsEnum h' (s.heap.objs.size + 1) s.heap.objs.size 0 .none → h'.IsTupleIter s.heap.objs.size l 0 → (∀ b o, s.heap.get? b = some o → h'.get? b = some o) → Q (.ref (s.heap.objs.size + 1)) { s with heap := h' }) :
    wpAny (model prog w) A (call (.type "enumerate") [.ref l]) Q E s := by
  obtain ⟨⟨c, dct, dt, sl⟩, e, hc, n, hd⟩ := hl
  replace hc : c = .type "tuple" := hc
  replace hd : dt = .seq items n := hd
  subst hc hd
  have sz : (s.heap.push { cls := .type "tuple_iterator", data := .fields #[.ref l, .int 0 0] }).objs.size = s.heap.objs.size + 1 := Heap.size_push ..
  refine callType_new F.called_enumerate (by decide) (F.typeCall_enumerate_1 _) (F.newCall_enumerate_1 _) (fun obj => F.args_object_init_2 obj _) F.entry_enumerate_new (enumT_new l items n dct sl) ⟨e, ?_⟩
  show _ ∧ _
  have he : ((s.heap.push { cls := .type "tuple_iterator", data := .fields #[.ref l, .int 0 0] }).push { cls := .type "enumerate", data := .fields #[.none, .bool false, .ref s.heap.objs.size, rawInt 0, .none, .none] }).get? (s.heap.push { cls := .type "tuple_iterator", data := .fields #[.ref l, .int 0 0] }).objs.size = some _ := Heap.get?_push_size _ rfl
  rw [sz] at he ⊢
  exact ⟨⟨_, he, rfl⟩, h _ he ⟨_, Heap.get?_push_of_some _ (Heap.get?_push_size _ rfl), rfl, rfl⟩ fun b o q => Heap.get?_push_of_some _ (Heap.get?_push_of_some _ q)⟩
end
/-- the tuple at a, each item in a new pair -/
def IteT (K : PySem.W.Frag) (a : Addr) : It :=
  ⟨fun i H => ∃ (xs : List V) (x : V), SqT K H a xs ∧ xs[i]? = some x, fun i H v H' => ∃ T x, v = .ref T ∧ H T = none ∧ H' = upd H T (.tup [.int (i : Nat), x]) ∧ ∀ xs, SqT K H a xs → xs[i]? = some x, fun i H => ∃ xs : List V, SqT K H a xs ∧ xs.length ≤ i⟩
theorem turn_enumT {P : Program} {w : World} {K : PySem.W.Frag} {elts : List Expr} {kk : Nat} {tpos : Pos} (a e it : Addr) :
    Turn P w K (.Tuple elts kk tpos) (IteT K a) [e, it] e (fun i h => (∃ old, IsEnum h e it ((i : Nat) : Int) old) ∧ h.IsTupleIter it a i ∧ e ≠ it) where
  mem := List.mem_cons_self
  obj := fun i h st b hb => by
    obtain ⟨⟨old, he⟩, ⟨o, ho, _, hd⟩, _⟩ := st
    simp only [List.mem_cons, List.not_mem_nil, or_false] at hb
    rcases hb with rfl | rfl
    · exact ⟨_, he, fun v q => nomatch q⟩
    · exact ⟨o, ho, fun v q => by rw [hd] at q; cases q⟩
  keep := fun i h h' st k => by
    obtain ⟨⟨old, he⟩, hi, ne⟩ := st
    exact ⟨⟨old, k e (by simp) _ he⟩, hi.at fun o q => k it (by simp) o q, ne⟩
  item := by
    intro X hP hw hK hc i pins s σ H E I hf st hg
    subst hP hw hK
    obtain ⟨⟨old, he⟩, hi, ne⟩ := st
    obtain ⟨xs, x, hq, hx⟩ := hg
    obtain ⟨its, rv, pt, _⟩ := I.tuple hq
    obtain ⟨u, hu, ru⟩ := rv.get hx
    have el : e < s.heap.objs.size := Heap.lt_size he
    refine enumT_item he hi (show s.heap.IsTuple a its.toArray from pt) (x := u) (by simpa using hu) ne fun g out i1 pT kept => ?_
    refine ⟨_, rfl, wpAny_letOwnedTupleGo_enum (s := { s with heap := g, toks := s.toks + 1 }) out fun g2 e2 sb => ?_⟩
    have pT2 : g2.get? s.heap.objs.size = some { cls := .type "tuple", data := .seq #[.int i s.toks, u] } := (sb.2 _ (Nat.ne_of_gt el)).trans pT
    have new : ObjOk X.prog X.w (upd H s.heap.objs.size (.tup [.int (i : Nat), x])) g2 s.heap.objs.size (.tup [.int (i : Nat), x]) := ⟨by show 2 ≤ sizeLine; decide, [.int i s.toks, u], .cons ⟨_, rfl⟩ (.cons ru .nil), ⟨_, pT2, rfl, _, rfl⟩⟩
    have I1 : Inv X pins σ (upd H s.heap.objs.size (.tup [.int (i : Nat), x])) { s with heap := g2, toks := s.toks + 1 } := I.turnedNew (ch := [e, it]) (fun b o n q => by
      simp only [List.mem_cons, List.not_mem_nil, or_false, not_or] at n
      exact (sb.2 b n.1).trans (kept b o n.1 n.2 q)) hf (Nat.le_refl _) new
    refine ⟨.ref s.heap.objs.size, _, I1, rfl, ⟨_, x, rfl, I.hok.fresh (Nat.le_refl _), rfl, fun m hm => by rw [I.tuple_inj hm hq]; exact hx⟩, ⟨⟨u, ?_⟩, i1.at fun o q => (sb.2 it ne.symm).trans q, ne⟩, fun b hb => ?_⟩
    · rw [show ((i + 1 : Nat) : Int) = (i : Int) + 1 by omega]
      exact e2
    · have nb : b ≠ s.heap.objs.size := by
        refine Nat.ne_of_lt ?_
        simp only [List.mem_cons, List.not_mem_nil, or_false] at hb
        rcases hb with rfl | rfl
        · exact el
        · obtain ⟨_, q, _⟩ := hi; exact Heap.lt_size q
      rw [upd_ne nb]
      exact (hf b hb).1
  done := by
    intro X hP hw hK hc i pins s σ H E I hf st hg
    subst hP hw hK
    obtain ⟨⟨old, he⟩, hi, ne⟩ := st
    obtain ⟨xs, hq, hx⟩ := hg
    obtain ⟨its, rv, pt, _⟩ := I.tuple hq
    obtain ⟨f0, f1, f2, f3, f4, f5⟩ := hf it (by simp)
    have hl := rv.length
    exact enumT_end (I.ok.hd hc) he hi (show s.heap.IsTuple a its.toArray from pt) (by simp; omega) fun g eb => ⟨rfl, I.turned (t' := s.toks) (fun b o n q => eb b o n q) f0 f1 f3 f4 f5⟩
  self := fun A i s Q E st h => by
    obtain ⟨⟨_, he⟩, _⟩ := st
    exact wpAny_pyIter_enum he h
/-- enumerate(list or tuple) -/
def iEnumM (K : PySem.W.Frag) (ta : TA) : TI := fun σ H R => ta σ H fun vs H1 => ∃ a xs, vs = [.ref a] ∧ ((SqL K H1 a xs ∧ R (Ite K a) H1) ∨ (SqT K H1 a xs ∧ R (IteT K a) H1))
theorem pi_enumM {X : Cx} {e : Expr} {ta : TA} {p pos tpos : Pos} {elts : List Expr} {kk : Nat} (hg : Gl X "enumerate") (hm : X.mg "enumerate" = none) (ha : PA X [e] ta) (hs : starEach [e] X.env = [(false, eval e X.env)] := by rfl) :
    PI X (.Tuple elts kk tpos) (.Call (.Name "enumerate" p) [e] [] pos) (iEnumM X.K ta) := by
  refine ⟨fun pins s σ H R I h => ?_⟩
  refine Call_ (ld_blt I hg hm boot_enumerate (PyProof.Rows.callWith_type1 (thn (ha.run pos pins s σ H _ I h) fun us s1 ⟨vs, H1, I1, r1, q1⟩ => ?_) hs rfl))
  obtain ⟨a, xs, ex, q1⟩ := q1
  subst ex
  obtain ⟨u, rfl, ru⟩ := r1.one
  cases ru
  have fresh : ∀ b ∈ [s1.heap.objs.size + 1, s1.heap.objs.size], FpOk X pins H1 b := fun b hb => by
    have hle : s1.heap.objs.size ≤ b := by
      simp only [List.mem_cons, List.not_mem_nil, or_false] at hb
      omega
    exact I1.fpOk hle (I1.hok.fresh hle)
  rcases q1 with ⟨hq, q⟩ | ⟨hq, q⟩
  · obtain ⟨its, rv, pl, _⟩ := I1.list hq
    refine call_enumerate_list pl.isList fun g he hi _ keep => wpAny_pyIter_enum he ?_
    exact ⟨s1.heap.objs.size + 1, _, _, _, H1, rfl, I1.kept (t' := s1.toks) keep, turn_enum a (s1.heap.objs.size + 1) s1.heap.objs.size, ⟨⟨.none, he⟩, hi, Nat.succ_ne_self _⟩, fresh, q⟩
  · obtain ⟨its, rv, pt, _⟩ := I1.tuple hq
    refine call_enumT (show s1.heap.IsTuple a its.toArray from pt) fun g he hi keep => wpAny_pyIter_enum he ?_
    exact ⟨s1.heap.objs.size + 1, _, _, _, H1, rfl, I1.kept (t' := s1.toks) keep, turn_enumT a (s1.heap.objs.size + 1) s1.heap.objs.size, ⟨⟨.none, he⟩, hi, Nat.succ_ne_self _⟩, fresh, q⟩
/-- a loop over it: each turn a new pair of the place and the item -/
theorem for_enumQ {K : PySem.W.Frag} {a : Addr} {xs : List V} {g : TG} {tb : TS} {D : Ends} {σ : L2.St} {H : Hp} (q : Qa H a xs) (Pv : Nat → L2.St → Hp → Prop) (h0 : Pv 0 σ H) (keep : ∀ i σ' H', Pv i σ' H' → ∀ o, H a = some o → H' a = some o)
    (step : ∀ (i : Nat) (x : V) (T : Addr) (σ' : L2.St) (H' : Hp), xs[i]? = some x → Pv i σ' H' → H' T = none → g (.ref T) σ' (upd H' T (.tup [.int (i : Nat), x])) fun σ2 H2 => tb { D with nx := Pv (i + 1), ct := Pv (i + 1), bk := D.nx } σ2 H2) (done : ∀ σ' H', Pv xs.length σ' H' → D.nx σ' H') :
    ∃ b ys, [V.ref a] = [V.ref b] ∧
      ((SqL K H b ys ∧ ∃ W : Nat → Nat → L2.St → Hp → Prop, (∃ m, W 0 m σ H) ∧ ∀ i m σ H, W i m σ H → ((Ite K b).stop i H ∧ D.nx σ H) ∨ ((Ite K b).go i H ∧ ∃ N : L2.St → Hp → Prop, (∀ σ' H', N σ' H' → ∃ m', m' < m ∧ W (i + 1) m' σ' H') ∧ ∀ v H', (Ite K b).yld i H v H' → g v σ H' fun σ2 H2 => tb { D with nx := N, ct := N, bk := D.nx } σ2 H2)) ∨
       (SqT K H b ys ∧ ∃ W : Nat → Nat → L2.St → Hp → Prop, (∃ m, W 0 m σ H) ∧ ∀ i m σ H, W i m σ H → ((IteT K b).stop i H ∧ D.nx σ H) ∨ ((IteT K b).go i H ∧ ∃ N : L2.St → Hp → Prop, (∀ σ' H', N σ' H' → ∃ m', m' < m ∧ W (i + 1) m' σ' H') ∧ ∀ v H', (IteT K b).yld i H v H' → g v σ H' fun σ2 H2 => tb { D with nx := N, ct := N, bk := D.nx } σ2 H2))) := by
  have at_ : ∀ {i : Nat}, i < xs.length → ∃ x, xs[i]? = some x := fun {i} h => ⟨_, List.getElem?_eq_getElem h⟩
  rcases q with q | q
  · refine ⟨a, xs, rfl, .inl ⟨SqL.of q, fun i m σ' H' => m = xs.length - i ∧ i ≤ xs.length ∧ Pv i σ' H', ⟨xs.length, rfl, Nat.zero_le _, h0⟩, ?_⟩⟩
    rintro i m σ1 H1 ⟨rfl, hi, p⟩
    have q1 := SqL.of (K := K) (keep i σ1 H1 p _ q)
    by_cases lt : i < xs.length
    · obtain ⟨x, hx⟩ := at_ lt
      refine .inr ⟨⟨xs, x, q1, hx⟩, Pv (i + 1), fun σ' H' p' => ⟨xs.length - (i + 1), by omega, rfl, lt, p'⟩, fun v H' y => ?_⟩
      obtain ⟨T, x', rfl, hT, rfl, f⟩ := y
      exact step i x' T σ1 H1 (f xs q1) p hT
    · have e : i = xs.length := by omega
      subst e
      exact .inl ⟨⟨xs, q1, Nat.le_refl _⟩, done σ1 H1 p⟩
  · refine ⟨a, xs, rfl, .inr ⟨SqT.of q, fun i m σ' H' => m = xs.length - i ∧ i ≤ xs.length ∧ Pv i σ' H', ⟨xs.length, rfl, Nat.zero_le _, h0⟩, ?_⟩⟩
    rintro i m σ1 H1 ⟨rfl, hi, p⟩
    have q1 := SqT.of (K := K) (keep i σ1 H1 p _ q)
    by_cases lt : i < xs.length
    · obtain ⟨x, hx⟩ := at_ lt
      refine .inr ⟨⟨xs, x, q1, hx⟩, Pv (i + 1), fun σ' H' p' => ⟨xs.length - (i + 1), by omega, rfl, lt, p'⟩, fun v H' y => ?_⟩
      obtain ⟨T, x', rfl, hT, rfl, f⟩ := y
      exact step i x' T σ1 H1 (f xs q1) p hT
    · have e : i = xs.length := by omega
      subst e
      exact .inl ⟨⟨xs, q1, Nat.le_refl _⟩, done σ1 H1 p⟩
end Kx
namespace Kx
open PySem PySem.Spec PyProof.Rows L2
/-! ### the walks of zip(list or tuple, tuple); loops over a walk in a generator -/
theorem walk_zipM {K : PySem.W.Frag} {a b : Addr} {xs ys : List V} {n : Nat} (hn : n = min xs.length ys.length) : Walk (ItzM K a b) n (fun H => SqL K H a xs ∧ SqT K H b ys) (YPair (fun i => xs[i]?) (fun i => ys[i]?)) where
  goes := fun i H h g => ⟨xs, ys, _, _, g.1, g.2, List.getElem?_eq_getElem (by omega), List.getElem?_eq_getElem (by omega)⟩
  yields := fun i H x H' h g y => by
    obtain ⟨T, u, v, e1, e2, e3, f1, f2⟩ := y
    exact ⟨T, u, v, e1, e2, e3, f1 xs g.1, f2 ys g.2⟩
  stops := fun H g => ⟨xs, ys, g.1, g.2, by omega⟩
theorem walk_zipT {K : PySem.W.Frag} {a b : Addr} {xs ys : List V} {n : Nat} (hn : n = min xs.length ys.length) : Walk (RZ.ItzT K a b) n (fun H => SqT K H a xs ∧ SqT K H b ys) (YPair (fun i => xs[i]?) (fun i => ys[i]?)) where
  goes := fun i H h g => ⟨xs, ys, _, _, g.1, g.2, List.getElem?_eq_getElem (by omega), List.getElem?_eq_getElem (by omega)⟩
  yields := fun i H x H' h g y => by
    obtain ⟨T, u, v, e1, e2, e3, f1, f2⟩ := y
    exact ⟨T, u, v, e1, e2, e3, f1 xs g.1, f2 ys g.2⟩
  stops := fun H g => ⟨xs, ys, g.1, g.2, by omega⟩
theorem gfor_it {J : It} {n : Nat} {G : Hp → Prop} {Y : Nat → Hp → V → Hp → Prop} (w : Walk J n G Y) {g : TG} {tb : TGn} {D : GEnds} {out : List V} {σ : L2.St} {H : Hp} (Pv : Nat → List V → L2.St → Hp → Prop) (h0 : Pv 0 out σ H) (hG : ∀ i out σ' H', i ≤ n → Pv i out σ' H' → G H')
    (hs : ∀ i x out σ' H1 H2, i < n → Pv i out σ' H1 → Y i H1 x H2 → g x σ' H2 fun σ2 H3 => tb { D with nx := Pv (i + 1), ct := Pv (i + 1), bk := D.nx } out σ2 H3) (hd : ∀ out σ' H', Pv n out σ' H' → D.nx out σ' H') :
    ∃ W : Nat → Nat → List V → L2.St → Hp → Prop, (∃ m, W 0 m out σ H) ∧ ∀ i m ys σ H, W i m ys σ H → (J.stop i H ∧ D.nx ys σ H) ∨ (J.go i H ∧ ∃ N : List V → L2.St → Hp → Prop, (∀ ys' σ' H', N ys' σ' H' → ∃ m', m' < m ∧ W (i + 1) m' ys' σ' H') ∧ ∀ x H', J.yld i H x H' → g x σ H' fun σ2 H2 => tb { D with nx := N, ct := N, bk := D.nx } ys σ2 H2) := by
  refine ⟨fun i m out σ' H' => m = n - i ∧ i ≤ n ∧ Pv i out σ' H', ⟨n, by simp, Nat.zero_le _, h0⟩, ?_⟩
  rintro i m o1 σ1 H1 ⟨rfl, hi, p⟩
  have q := hG i o1 σ1 H1 hi p
  by_cases lt : i < n
  · exact .inr ⟨w.goes i H1 lt q, Pv (i + 1), fun ys' σ' H' p' => ⟨n - (i + 1), by omega, rfl, lt, p'⟩, fun x H' y => hs i x o1 σ1 H1 H' lt p (w.yields i H1 x H' lt q y)⟩
  · have e : i = n := by omega
    subst e
    exact .inl ⟨w.stops H1 q, hd o1 σ1 H1 p⟩
end Kx

namespace Kx
open PySem PySem.Spec PyProof.Rows L2
/-! ### drawn webs, in plain Lean -/
theorem perm_ins {α : Type} (l : List α) (i : Nat) (x : α) : (l.take i ++ [x] ++ l.drop i).Perm (x :: l) := by
  rw [List.append_assoc]
  have h : (l.take i ++ [x] ++ l.drop i).Perm (x :: (l.take i ++ l.drop i)) := by
    rw [List.append_assoc]
    exact List.perm_middle
  rw [List.take_append_drop, List.append_assoc] at h
  exact h
/-- an order of the first k places -/
structure Ord (k : Nat) (o : List Int) : Prop where
  len : o.length = k
  nd : o.Nodup
  mem : ∀ v, v ∈ o ↔ 0 ≤ v ∧ v < (k : Int)
theorem Ord.zero : Ord 0 [] := ⟨rfl, List.nodup_nil, fun v => by
  constructor
  · intro h; cases h
  · rintro ⟨h1, h2⟩; omega⟩
theorem Ord.next {k : Nat} {o o' : List Int} (h : Ord k o) (p : o'.Perm ((k : Int) :: o)) : Ord (k + 1) o' where
  len := by rw [p.length_eq, List.length_cons, h.len]
  nd := by
    rw [p.nodup_iff, List.nodup_cons]
    refine ⟨fun m => ?_, h.nd⟩
    have := ((h.mem _).mp m).2
    omega
  mem := fun v => by
    rw [p.mem_iff, List.mem_cons, h.mem]
    omega
theorem Ord.at_ {k : Nat} {o : List Int} (h : Ord k o) {i : Nat} {v : Int} (e : o[i]? = some v) : 0 ≤ v ∧ v < (k : Int) := (h.mem v).mp (List.mem_of_getElem? e)
theorem nd_index {α : Type} : ∀ {o : List α}, o.Nodup → ∀ {i j : Nat} {v : α}, o[i]? = some v → o[j]? = some v → i = j
  | [], _, _, _, _, h, _ => by simp at h
  | a :: r, nd, 0, 0, _, _, _ => rfl
  | a :: r, nd, 0, j + 1, v, h1, h2 => by
    have e : a = v := Option.some.inj h1
    exact absurd (List.mem_of_getElem? (show r[j]? = some a by rw [e]; exact h2)) (List.nodup_cons.mp nd).1
  | a :: r, nd, i + 1, 0, v, h1, h2 => by
    have e : a = v := Option.some.inj h2
    exact absurd (List.mem_of_getElem? (show r[i]? = some a by rw [e]; exact h1)) (List.nodup_cons.mp nd).1
  | a :: r, nd, i + 1, j + 1, v, h1, h2 => congrArg (· + 1) (nd_index (List.nodup_cons.mp nd).2 (show r[i]? = some v from h1) (show r[j]? = some v from h2))
/-- the first k of the order o hang together from its first one -/
structure Span (n k : Nat) (o : List Int) (e : Int) (es : List Edge) : Prop where
  len : es.length + 1 = k
  rng : ∀ p ∈ es, (0 ≤ p.1 ∧ p.1 < (n : Int)) ∧ 0 ≤ p.2 ∧ p.2 < (n : Int)
  nd : es.Nodup
  snd : ∀ p ∈ es, ∃ i, i < k ∧ o[i]? = some p.2
  fwd : ∀ (i : Nat) v, i < k → o[i]? = some v → Reach es e v
theorem Span.one {n : Nat} {o : List Int} {e : Int} (h : o[0]? = some e) : Span n 1 o e [] where
  len := rfl
  rng := fun _ h => by cases h
  nd := List.nodup_nil
  snd := fun _ h => by cases h
  fwd := fun i v hi hv => by
    have e0 : i = 0 := by omega
    rw [e0, h] at hv
    rw [Option.some.inj hv]
    exact .refl _
theorem Span.next {n k : Nat} {o : List Int} {e a c : Int} {es es' : List Edge} {d : Nat} (h : Span n k o e es) (O : Ord n o) (hd : d < k) (ha : o[d]? = some a) (hc : o[k]? = some c) (p : es'.Perm ((a, c) :: es)) : Span n (k + 1) o e es' where
  len := by rw [p.length_eq, List.length_cons, h.len]
  rng := fun q hq => by
    rcases List.mem_cons.mp (p.mem_iff.mp hq) with rfl | hq
    · exact ⟨O.at_ ha, O.at_ hc⟩
    · exact h.rng q hq
  nd := by
    rw [p.nodup_iff, List.nodup_cons]
    refine ⟨fun m => ?_, h.nd⟩
    obtain ⟨i, hi, e'⟩ := h.snd _ m
    have := nd_index O.nd e' hc
    omega
  snd := fun q hq => by
    rcases List.mem_cons.mp (p.mem_iff.mp hq) with rfl | hq
    · exact ⟨k, Nat.lt_succ_self k, hc⟩
    · obtain ⟨i, hi, e'⟩ := h.snd q hq
      exact ⟨i, by omega, e'⟩
  fwd := fun i v hi hv => by
    have sub : ∀ q ∈ es, q ∈ es' := fun q hq => p.mem_iff.mpr (List.mem_cons_of_mem _ hq)
    by_cases e0 : i = k
    · rw [e0, hc] at hv
      rw [← Option.some.inj hv]
      exact ((h.fwd d a hd ha).more sub).trans (.one (p.mem_iff.mpr List.mem_cons_self))
    · exact (h.fwd i v (by omega) hv).more sub
/-- all places are reached -/
structure Core (n : Nat) (e : Int) (es : List Edge) : Prop where
  rng : ∀ p ∈ es, (0 ≤ p.1 ∧ p.1 < (n : Int)) ∧ 0 ≤ p.2 ∧ p.2 < (n : Int)
  nd : es.Nodup
  e0 : 0 ≤ e ∧ e < (n : Int)
  fwd : ∀ v, 0 ≤ v → v < (n : Int) → Reach es e v
theorem Span.core {n : Nat} {o : List Int} {e : Int} {es : List Edge} (h : Span n n o e es) (O : Ord n o) (he : o[0]? = some e) : Core n e es where
  rng := h.rng
  nd := h.nd
  e0 := O.at_ he
  fwd := fun v h0 h1 => by
    obtain ⟨i, hi, q⟩ := List.mem_iff_getElem.mp ((O.mem v).mpr ⟨h0, h1⟩)
    exact h.fwd i v (by rw [← O.len]; exact hi) (by rw [List.getElem?_eq_getElem hi, q])
theorem Core.add {n : Nat} {e : Int} {es es' : List Edge} {q : Edge} (h : Core n e es) (hq : (0 ≤ q.1 ∧ q.1 < (n : Int)) ∧ 0 ≤ q.2 ∧ q.2 < (n : Int)) (no : q ∉ es) (p : es'.Perm (q :: es)) : Core n e es' where
  rng := fun r hr => by
    rcases List.mem_cons.mp (p.mem_iff.mp hr) with rfl | hr
    · exact hq
    · exact h.rng r hr
  nd := by rw [p.nodup_iff, List.nodup_cons]; exact ⟨no, h.nd⟩
  e0 := h.e0
  fwd := fun v h0 h1 => (h.fwd v h0 h1).more fun r hr => p.mem_iff.mpr (List.mem_cons_of_mem _ hr)
/-- the goals, for the first i places -/
structure Aims (n i : Nat) (es : List Edge) (gs : List Int) : Prop where
  nd : gs.Nodup
  rng : ∀ g ∈ gs, 0 ≤ g ∧ g < (n : Int)
  ne : gs ≠ []
  bwd : ∀ v, 0 ≤ v → v < (i : Int) → ∃ g ∈ gs, Reach es v g
theorem Aims.stay {n i : Nat} {es : List Edge} {gs : List Int} (h : Aims n i es gs) (r : ∃ g ∈ gs, Reach es (i : Int) g) : Aims n (i + 1) es gs :=
  ⟨h.nd, h.rng, h.ne, fun v h0 h1 => by
    by_cases e : v = (i : Int)
    · rw [e]; exact r
    · exact h.bwd v h0 (by omega)⟩
theorem Aims.edge {n i : Nat} {es es' : List Edge} {gs : List Int} {g : Int} (h : Aims n i es gs) (hg : g ∈ gs) (p : es'.Perm (((i : Int), g) :: es)) : Aims n (i + 1) es' gs :=
  ⟨h.nd, h.rng, h.ne, fun v h0 h1 => by
    by_cases e : v = (i : Int)
    · rw [e]
      exact ⟨g, hg, .one (p.mem_iff.mpr List.mem_cons_self)⟩
    · obtain ⟨g', hg', r⟩ := h.bwd v h0 (by omega)
      exact ⟨g', hg', r.more fun q hq => p.mem_iff.mpr (List.mem_cons_of_mem _ hq)⟩⟩
theorem Aims.goal {n i : Nat} {es : List Edge} {gs gs' : List Int} (h : Aims n i es gs) (hi : i < n) (no : (i : Int) ∉ gs) (p : gs'.Perm ((i : Int) :: gs)) : Aims n (i + 1) es gs' where
  nd := by rw [p.nodup_iff, List.nodup_cons]; exact ⟨no, h.nd⟩
  rng := fun g hg => by
    rcases List.mem_cons.mp (p.mem_iff.mp hg) with rfl | hg
    · omega
    · exact h.rng g hg
  ne := fun z => by
    rw [z] at p
    have := p.length_eq
    simp at this
  bwd := fun v h0 h1 => by
    by_cases e : v = (i : Int)
    · rw [e]
      exact ⟨_, p.mem_iff.mpr List.mem_cons_self, .refl _⟩
    · obtain ⟨g', hg', r⟩ := h.bwd v h0 (by omega)
      exact ⟨g', p.mem_iff.mpr (List.mem_cons_of_mem _ hg'), r⟩
theorem rng_len {n : Nat} {gs : List Int} (nd : gs.Nodup) (rng : ∀ g ∈ gs, 0 ≤ g ∧ g < (n : Int)) : gs.length ≤ n := by
  have h := len_le_of_sub gs ((List.range n).map Int.ofNat) nd fun g hg => by
    obtain ⟨h0, h1⟩ := rng g hg
    exact List.mem_map.mpr ⟨g.toNat, List.mem_range.mpr (by omega), by show ((g.toNat : Nat) : Int) = g; omega⟩
  rw [List.length_map, List.length_range] at h
  exact h
theorem Core.good {n : Nat} {e : Int} {es : List Edge} {gs : List Int} (h : Core n e es) (a : Aims n n es gs) (hn : n ≤ 24) (hf : es.length < 60) : Good n es e gs where
  n1 := by have := h.e0; omega
  n2 := by omega
  few := hf
  rng := fun p hp => by
    obtain ⟨⟨a1, a2⟩, a3, a4⟩ := h.rng p hp
    exact ⟨a1, a2, a3, a4⟩
  nd := h.nd
  e0 := h.e0.1
  e1 := h.e0.2
  x0 := a.ne
  xr := a.rng
  xf := by have := rng_len a.nd a.rng; omega
  fwd := h.fwd
  bwd := a.bwd
/-! ### what reaches a goal, found in turns -/
def Closed (es : List Edge) (ms : List Int) : Prop := ∀ u v, (u, v) ∈ es → v ∈ ms → u ∈ ms
structure Met (es : List Edge) (gs ad ms : List Int) : Prop where
  eq : ms = gs ++ ad
  nd : ad.Nodup
  src : ∀ v ∈ ad, v ∈ es.map (·.1)
  sound : ∀ v ∈ ms, ∃ g ∈ gs, Reach es v g
theorem Met.start (es : List Edge) (gs : List Int) : Met es gs [] gs := ⟨by simp, List.nodup_nil, (fun _ h => by cases h), fun v h => ⟨v, h, .refl v⟩⟩
theorem Met.len {es : List Edge} {gs ad ms : List Int} (m : Met es gs ad ms) : ad.length ≤ es.length := by
  have h := len_le_of_sub ad (es.map (·.1)) m.nd m.src
  rw [List.length_map] at h
  exact h
theorem Met.full {es : List Edge} {gs ad ms : List Int} (m : Met es gs ad ms) (h : es.length ≤ ad.length) : Closed es ms := fun u v he _ => by
  rw [m.eq]
  refine List.mem_append_right _ ?_
  by_cases hu : u ∈ ad
  · exact hu
  · have hs : u ∈ es.map (·.1) := List.mem_map.mpr ⟨(u, v), he, rfl⟩
    have q := len_le_of_sub ad ((es.map (·.1)).erase u) m.nd fun x hx => (List.mem_erase_of_ne (fun e => hu (by rw [← e]; exact hx))).mpr (m.src x hx)
    have l := List.length_erase_of_mem hs
    have pos : 0 < (es.map (·.1)).length := List.length_pos_of_mem hs
    rw [List.length_map] at l pos
    omega
theorem Met.all {es : List Edge} {gs ad ms : List Int} (m : Met es gs ad ms) (c : Closed es ms) (v : Int) : v ∈ ms ↔ ∃ g ∈ gs, Reach es v g := by
  constructor
  · exact m.sound v
  · rintro ⟨g, hg, r⟩
    have hgm : g ∈ ms := by rw [m.eq]; exact List.mem_append_left _ hg
    clear hg
    induction r with
    | refl => exact hgm
    | step e _ ih => exact c _ _ e (ih hgm)
/-- within a turn: j edges were looked at; ad0 was found before it -/
structure Turn (es : List Edge) (gs ad0 ms0 : List Int) (j : Nat) (ad ms : List Int) : Prop where
  met : Met es gs ad ms
  grow : ad0.length ≤ ad.length
  same : ad.length = ad0.length → ad = ad0
  none_ : ad.length = ad0.length → ∀ u v, (u, v) ∈ es.take j → v ∈ ms → u ∈ ms
  done : Closed es ms0 → ad = ad0
theorem Turn.start {es : List Edge} {gs ad ms : List Int} (m : Met es gs ad ms) : Turn es gs ad ms 0 ad ms := ⟨m, Nat.le_refl _, fun _ => rfl, fun _ u v h => by simp at h, fun _ => rfl⟩
theorem Turn.skip {es : List Edge} {gs ad0 ms0 ad ms : List Int} {j : Nat} {a b : Int} (t : Turn es gs ad0 ms0 j ad ms) (h : es[j]? = some (a, b)) (no : b ∉ ms ∨ a ∈ ms) : Turn es gs ad0 ms0 (j + 1) ad ms :=
  ⟨t.met, t.grow, t.same, fun e u v hu hv => by
    rw [take_next h, List.mem_append] at hu
    rcases hu with hu | hu
    · exact t.none_ e u v hu hv
    · have q := List.mem_singleton.mp hu
      injection q with q1 q2
      rcases no with no | no
      · exact absurd (q2 ▸ hv) no
      · rw [q1]; exact no, t.done⟩
theorem Turn.put {es : List Edge} {gs ad0 ms0 ad ms : List Int} {j : Nat} {a b : Int} (t : Turn es gs ad0 ms0 j ad ms) (m0 : ms0 = gs ++ ad0) (h : es[j]? = some (a, b)) (hb : b ∈ ms) (ha : a ∉ ms) : Turn es gs ad0 ms0 (j + 1) (ad ++ [a]) (ms ++ [a]) where
  met :=
    { eq := by rw [t.met.eq, List.append_assoc]
      nd := nd_snoc t.met.nd fun z => ha (by rw [t.met.eq]; exact List.mem_append_right _ z)
      src := fun v hv => by
        rcases List.mem_append.mp hv with hv | hv
        · exact t.met.src v hv
        · rw [List.mem_singleton.mp hv]
          exact List.mem_map.mpr ⟨(a, b), List.mem_of_getElem? h, rfl⟩
      sound := fun v hv => by
        rcases List.mem_append.mp hv with hv | hv
        · exact t.met.sound v hv
        · rw [List.mem_singleton.mp hv]
          obtain ⟨g, hg, r⟩ := t.met.sound b hb
          exact ⟨g, hg, .step (List.mem_of_getElem? h) r⟩ }
  grow := by have := t.grow; rw [List.length_append]; omega
  same := fun e => by
    have := t.grow
    rw [List.length_append, List.length_singleton] at e
    omega
  none_ := fun e => by
    have := t.grow
    rw [List.length_append, List.length_singleton] at e
    omega
  done := fun c => by
    have e := t.done c
    have em : ms = ms0 := by rw [t.met.eq, m0, e]
    rw [em] at ha hb
    exact absurd (c a b (List.mem_of_getElem? h) hb) ha
/-- behind i turns -/
structure Turns (es : List Edge) (gs : List Int) (i : Nat) (ad ms : List Int) : Prop where
  met : Met es gs ad ms
  on : Closed es ms ∨ i ≤ ad.length
theorem Turns.next {es : List Edge} {gs ad0 ms0 ad ms : List Int} {i : Nat} (T : Turns es gs i ad0 ms0) (t : Turn es gs ad0 ms0 es.length ad ms) : Turns es gs (i + 1) ad ms where
  met := t.met
  on := by
    by_cases e : ad.length = ad0.length
    · refine .inl fun u v he hv => t.none_ e u v ?_ hv
      rw [List.take_length]
      exact he
    · have g := t.grow
      rcases T.on with c | c
      · exact absurd (congrArg List.length (t.done c)) e
      · exact .inr (by omega)
theorem Turns.end_ {es : List Edge} {gs ad ms : List Int} (T : Turns es gs es.length ad ms) : Closed es ms := by
  rcases T.on with c | c
  · exact c
  · exact T.met.full c
/-! ### other webs of a web -/
theorem Good.more {n e : Int} {es : List Edge} {xs xs' : List Int} (g : Good n es e xs) (sub : ∀ x ∈ xs, x ∈ xs') (rng : ∀ x ∈ xs', 0 ≤ x ∧ x < n) (len : xs'.length < 60) : Good n es e xs' :=
  { g with
    x0 := fun z => by
      obtain ⟨x, hx⟩ := List.exists_mem_of_ne_nil _ g.x0
      have := sub x hx
      rw [z] at this
      cases this
    xr := rng
    xf := len
    bwd := fun v h0 h1 => by
      obtain ⟨x, hx, r⟩ := g.bwd v h0 h1
      exact ⟨x, sub x hx, r⟩ }
theorem Good.edge {n e : Int} {es es' : List Edge} {xs : List Int} {q : Edge} (g : Good n es e xs) (hq : (0 ≤ q.1 ∧ q.1 < n) ∧ 0 ≤ q.2 ∧ q.2 < n) (no : q ∉ es) (p : es'.Perm (q :: es)) (len : es'.length < 60) : Good n es' e xs :=
  { g with
    few := len
    rng := fun r hr => by
      rcases List.mem_cons.mp (p.mem_iff.mp hr) with rfl | hr
      · exact ⟨hq.1.1, hq.1.2, hq.2.1, hq.2.2⟩
      · exact g.rng r hr
    nd := by rw [p.nodup_iff, List.nodup_cons]; exact ⟨no, g.nd⟩
    fwd := fun v h0 h1 => (g.fwd v h0 h1).more fun r hr => p.mem_iff.mpr (List.mem_cons_of_mem _ hr)
    bwd := fun v h0 h1 => by
      obtain ⟨x, hx, r⟩ := g.bwd v h0 h1
      exact ⟨x, hx, r.more fun r hr => p.mem_iff.mpr (List.mem_cons_of_mem _ hr)⟩ }
theorem Good.perm {n e : Int} {es es' : List Edge} {xs : List Int} (g : Good n es e xs) (p : es'.Perm es) : Good n es' e xs :=
  { g with
    few := by rw [p.length_eq]; exact g.few
    rng := fun r hr => g.rng r (p.mem_iff.mp hr)
    nd := p.nodup_iff.mpr g.nd
    fwd := fun v h0 h1 => (g.fwd v h0 h1).more fun r hr => p.mem_iff.mpr hr
    bwd := fun v h0 h1 => by
      obtain ⟨x, hx, r⟩ := g.bwd v h0 h1
      exact ⟨x, hx, r.more fun r hr => p.mem_iff.mpr hr⟩ }
theorem Good.longer {n e : Int} {es : List Edge} {xs : List Int} (g : Good n es e xs) (hn : n ≤ 23) (hf : es.length < 59) (hx : xs.length < 59) : Good (n + 1) (es ++ [(e, n)]) e (xs ++ [n]) where
  n1 := by have := g.n1; omega
  n2 := by omega
  few := by rw [List.length_append, List.length_singleton]; omega
  rng := fun r hr => by
    have h1 := g.n1
    have h2 := g.e0
    have h3 := g.e1
    rcases List.mem_append.mp hr with hr | hr
    · have := g.rng r hr
      omega
    · rw [List.mem_singleton.mp hr]
      show 0 ≤ e ∧ e < n + 1 ∧ 0 ≤ n ∧ n < n + 1
      omega
  nd := nd_snoc g.nd fun m => by
    have := (g.rng _ m).2.2.2
    simp at this
  e0 := g.e0
  e1 := by have := g.e1; omega
  x0 := by simp
  xr := fun x hx => by
    have h1 := g.n1
    rcases List.mem_append.mp hx with hx | hx
    · have := g.xr x hx
      omega
    · rw [List.mem_singleton.mp hx]
      omega
  xf := by rw [List.length_append, List.length_singleton]; omega
  fwd := fun v h0 h1 => by
    by_cases ev : v = n
    · rw [ev]
      exact .one (List.mem_append_right _ List.mem_cons_self)
    · exact (g.fwd v h0 (by omega)).more fun r hr => List.mem_append_left _ hr
  bwd := fun v h0 h1 => by
    by_cases ev : v = n
    · exact ⟨n, List.mem_append_right _ List.mem_cons_self, by rw [ev]; exact .refl n⟩
    · obtain ⟨x, hx, r⟩ := g.bwd v h0 (by omega)
      exact ⟨x, List.mem_append_left _ hx, r.more fun r hr => List.mem_append_left _ hr⟩
/-! ### all edges from a place and to it -/
def outE (n : Nat) (e : Int) : List Edge := (List.range n).map fun i => (e, Int.ofNat i)
def backE (n : Nat) (e : Int) : List Edge := (((List.range n).map Int.ofNat).filter fun v => !decide (v = e)).map fun v => (v, e)
theorem outE_next (n : Nat) (e : Int) : outE (n + 1) e = outE n e ++ [(e, (n : Int))] := by
  unfold outE
  rw [List.range_succ, List.map_append]
  rfl
theorem backE_next (n : Nat) (e : Int) : backE (n + 1) e = backE n e ++ if (n : Int) = e then [] else [((n : Int), e)] := by
  unfold backE
  rw [List.range_succ, List.map_append, List.filter_append, List.map_append]
  congr 1
  show List.map _ (List.filter _ [Int.ofNat n]) = _
  by_cases h : (n : Int) = e
  · rw [if_pos h, List.filter_cons_of_neg]
    · rfl
    · show ¬ (!decide ((n : Int) = e)) = true
      rw [decide_eq_true h]
      simp
  · rw [if_neg h, List.filter_cons_of_pos]
    · rfl
    · show (!decide ((n : Int) = e)) = true
      rw [decide_eq_false h]
      rfl
theorem outE_mem {n : Nat} {e : Int} {q : Edge} : q ∈ outE n e ↔ q.1 = e ∧ 0 ≤ q.2 ∧ q.2 < (n : Int) := by
  unfold outE
  rw [List.mem_map]
  constructor
  · rintro ⟨i, hi, rfl⟩
    have := List.mem_range.mp hi
    refine ⟨rfl, ?_, ?_⟩
    · show (0 : Int) ≤ (i : Int)
      omega
    · show (i : Int) < (n : Int)
      omega
  · rintro ⟨h1, h2, h3⟩
    refine ⟨q.2.toNat, List.mem_range.mpr (by omega), ?_⟩
    obtain ⟨a, b⟩ := q
    have e1 : a = e := h1
    have e2 : ((b.toNat : Nat) : Int) = b := Int.toNat_of_nonneg h2
    show (e, ((b.toNat : Nat) : Int)) = (a, b)
    rw [e1, e2]
theorem backE_mem {n : Nat} {e : Int} {q : Edge} : q ∈ backE n e ↔ q.2 = e ∧ q.1 ≠ e ∧ 0 ≤ q.1 ∧ q.1 < (n : Int) := by
  unfold backE
  rw [List.mem_map]
  constructor
  · rintro ⟨v, hv, rfl⟩
    obtain ⟨h1, h2⟩ := List.mem_filter.mp hv
    obtain ⟨i, hi, rfl⟩ := List.mem_map.mp h1
    have := List.mem_range.mp hi
    refine ⟨rfl, fun z => ?_, ?_, ?_⟩
    · rw [decide_eq_true z] at h2
      cases h2
    · show (0 : Int) ≤ (i : Int)
      omega
    · show (i : Int) < (n : Int)
      omega
  · rintro ⟨h1, h0, h2, h3⟩
    obtain ⟨a, b⟩ := q
    have e1 : b = e := h1
    have e2 : ((a.toNat : Nat) : Int) = a := Int.toNat_of_nonneg h2
    refine ⟨a, List.mem_filter.mpr ⟨List.mem_map.mpr ⟨a.toNat, List.mem_range.mpr (by have : a < (n : Int) := h3; omega), e2⟩, ?_⟩, by rw [e1]⟩
    rw [decide_eq_false h0]
    rfl
theorem nd_map {α β : Type} {f : α → β} (inj : ∀ a b, f a = f b → a = b) : ∀ {l : List α}, l.Nodup → (l.map f).Nodup
  | [], _ => List.nodup_nil
  | a :: r, h => by
    obtain ⟨h1, h2⟩ := List.nodup_cons.mp h
    rw [List.map_cons, List.nodup_cons]
    refine ⟨fun m => ?_, nd_map inj h2⟩
    obtain ⟨b, hb, e⟩ := List.mem_map.mp m
    exact h1 (inj _ _ e ▸ hb)
theorem Good.star {n : Nat} {e o : Int} (hn : n ≤ 24) (h0 : 0 ≤ e) (h1 : e < (n : Int)) (o0 : 0 ≤ o) (o1 : o < (n : Int)) : Good n (outE n e ++ backE n e) o [e] where
  n1 := by omega
  n2 := by omega
  few := by
    have l1 : (outE n e).length = n := by unfold outE; rw [List.length_map, List.length_range]
    have l2 : (backE n e).length ≤ n := by
      unfold backE
      rw [List.length_map]
      have h2 := List.length_filter_le (fun v => !decide (v = e)) ((List.range n).map Int.ofNat)
      rw [List.length_map, List.length_range] at h2
      exact h2
    rw [List.length_append]
    omega
  rng := fun q hq => by
    rcases List.mem_append.mp hq with hq | hq
    · obtain ⟨a1, a2, a3⟩ := outE_mem.mp hq
      rw [a1]
      exact ⟨h0, h1, a2, a3⟩
    · obtain ⟨a1, _, a2, a3⟩ := backE_mem.mp hq
      rw [a1]
      exact ⟨a2, a3, h0, h1⟩
  nd := by
    rw [List.nodup_append]
    have ndr : ((List.range n).map Int.ofNat).Nodup := nd_map (fun a b h => Int.ofNat.inj h) List.nodup_range
    refine ⟨nd_map (fun a b h => ?_) List.nodup_range, nd_map (fun a b h => (Prod.mk.inj h).1) (ndr.sublist List.filter_sublist), fun a ha b hb hab => ?_⟩
    · exact Int.ofNat.inj (Prod.mk.inj h).2
    · obtain ⟨a1, _⟩ := outE_mem.mp ha
      obtain ⟨_, b2, _⟩ := backE_mem.mp hb
      rw [← hab] at b2
      exact b2 a1
  e0 := o0
  e1 := o1
  x0 := by simp
  xr := fun x hx => by rw [List.mem_singleton.mp hx]; exact ⟨h0, h1⟩
  xf := by rw [List.length_singleton]; decide
  fwd := fun v v0 v1 => by
    have r1 : Reach (outE n e ++ backE n e) e v := .one (List.mem_append_left _ (outE_mem.mpr ⟨rfl, v0, v1⟩))
    by_cases h : o = e
    · rw [h]; exact r1
    · exact .step (List.mem_append_right _ (backE_mem.mpr ⟨rfl, h, o0, o1⟩)) r1
  bwd := fun v v0 v1 => by
    refine ⟨e, List.mem_cons_self, ?_⟩
    by_cases h : v = e
    · rw [h]; exact .refl e
    · exact .one (List.mem_append_right _ (backE_mem.mpr ⟨rfl, h, v0, v1⟩))
end Kx

namespace Kx
open PySem PySem.Spec PyProof.Rows L2
/-! ### webs whose places are called otherwise -/
/-- the order 0, 1, .., n - 1 -/
def idO (n : Nat) : List Int := (List.range n).map Int.ofNat
theorem idO_at {n i : Nat} (h : i < n) : (idO n)[i]? = some (i : Int) := by
  unfold idO
  rw [List.getElem?_map, List.getElem?_range h]
  rfl
theorem idO_ord (n : Nat) : Ord n (idO n) where
  len := by unfold idO; rw [List.length_map, List.length_range]
  nd := nd_map (fun a b h => Int.ofNat.inj h) List.nodup_range
  mem := fun v => by
    unfold idO
    rw [List.mem_map]
    constructor
    · rintro ⟨i, hi, rfl⟩
      have := List.mem_range.mp hi
      constructor
      · show (0 : Int) ≤ (i : Int); omega
      · show (i : Int) < (n : Int); omega
    · rintro ⟨h0, h1⟩
      exact ⟨v.toNat, List.mem_range.mpr (by omega), Int.toNat_of_nonneg h0⟩
theorem idO_next (n : Nat) : idO (n + 1) = idO n ++ [(n : Int)] := by
  unfold idO
  rw [List.range_succ, List.map_append]
  rfl
theorem Ord.perm {n : Nat} {o o' : List Int} (h : Ord n o) (p : o'.Perm o) : Ord n o' :=
  ⟨by rw [p.length_eq, h.len], p.nodup_iff.mpr h.nd, fun v => p.mem_iff.trans (h.mem v)⟩
/-- the name of a place by the order c -/
def nameBy (c : List Int) (v : Int) : Int := (c[v.toNat]?).getD 0
theorem nameBy_at {n : Nat} {c : List Int} (O : Ord n c) {v : Int} (h0 : 0 ≤ v) (h1 : v < (n : Int)) : c[v.toNat]? = some (nameBy c v) := by
  have l : v.toNat < c.length := by rw [O.len]; omega
  unfold nameBy
  rw [List.getElem?_eq_getElem l]
  rfl
theorem nameBy_rng {n : Nat} {c : List Int} (O : Ord n c) {v : Int} (h0 : 0 ≤ v) (h1 : v < (n : Int)) : 0 ≤ nameBy c v ∧ nameBy c v < (n : Int) := O.at_ (nameBy_at O h0 h1)
theorem nameBy_inj {n : Nat} {c : List Int} (O : Ord n c) {u v : Int} (u0 : 0 ≤ u) (u1 : u < (n : Int)) (v0 : 0 ≤ v) (v1 : v < (n : Int)) (h : nameBy c u = nameBy c v) : u = v := by
  have e1 := nameBy_at O u0 u1
  have e2 := nameBy_at O v0 v1
  rw [h] at e1
  have := nd_index O.nd e1 e2
  omega
theorem nameBy_onto {n : Nat} {c : List Int} (O : Ord n c) {w : Int} (h0 : 0 ≤ w) (h1 : w < (n : Int)) : ∃ v, 0 ≤ v ∧ v < (n : Int) ∧ nameBy c v = w := by
  obtain ⟨i, hi, e⟩ := List.mem_iff_getElem.mp ((O.mem w).mpr ⟨h0, h1⟩)
  have hn : i < n := by rw [← O.len]; exact hi
  refine ⟨(i : Int), by omega, by omega, ?_⟩
  unfold nameBy
  rw [Int.toNat_natCast, List.getElem?_eq_getElem hi, e]
  rfl
def nameE (c : List Int) (q : Edge) : Edge := (nameBy c q.1, nameBy c q.2)
theorem Reach.named {c : List Int} {es es' : List Edge} (s : ∀ q ∈ es, nameE c q ∈ es') {u v : Int} (r : Reach es u v) : Reach es' (nameBy c u) (nameBy c v) := by
  induction r with
  | refl => exact .refl _
  | step e _ ih => exact .step (s _ e) ih
theorem nd_map_on {α β : Type} {f : α → β} : ∀ {l : List α}, (∀ a ∈ l, ∀ b ∈ l, f a = f b → a = b) → l.Nodup → (l.map f).Nodup
  | [], _, _ => List.nodup_nil
  | a :: r, inj, h => by
    obtain ⟨h1, h2⟩ := List.nodup_cons.mp h
    rw [List.map_cons, List.nodup_cons]
    refine ⟨fun m => ?_, nd_map_on (fun x hx y hy => inj x (List.mem_cons_of_mem _ hx) y (List.mem_cons_of_mem _ hy)) h2⟩
    obtain ⟨b, hb, e⟩ := List.mem_map.mp m
    exact h1 (inj b (List.mem_cons_of_mem _ hb) a List.mem_cons_self e ▸ hb)
theorem Good.named {n : Nat} {e : Int} {es es' : List Edge} {xs ys c : List Int} (g : Good n es e xs) (O : Ord n c) (p : es'.Perm (es.map (nameE c))) (up : ys.Pairwise (· < ·)) (mem : ∀ w, w ∈ ys ↔ ∃ x ∈ xs, nameBy c x = w) : Good n es' (nameBy c e) ys := by
  have sub : ∀ q ∈ es, nameE c q ∈ es' := fun q hq => p.mem_iff.mpr (List.mem_map.mpr ⟨q, hq, rfl⟩)
  have yr : ∀ y ∈ ys, 0 ≤ y ∧ y < (n : Int) := fun y hy => by
    obtain ⟨x, hx, rfl⟩ := (mem y).mp hy
    exact nameBy_rng O (g.xr x hx).1 (g.xr x hx).2
  have ynd : ys.Nodup := up.imp fun h z => by omega
  refine ⟨g.n1, g.n2, ?_, fun q hq => ?_, ?_, (nameBy_rng O g.e0 g.e1).1, (nameBy_rng O g.e0 g.e1).2, fun z => ?_, yr, ?_, fun w w0 w1 => ?_, fun w w0 w1 => ?_⟩
  · rw [p.length_eq, List.length_map]
    exact g.few
  · obtain ⟨r, hr, rfl⟩ := List.mem_map.mp (p.mem_iff.mp hq)
    obtain ⟨a1, a2, a3, a4⟩ := g.rng r hr
    exact ⟨(nameBy_rng O a1 a2).1, (nameBy_rng O a1 a2).2, (nameBy_rng O a3 a4).1, (nameBy_rng O a3 a4).2⟩
  · refine p.nodup_iff.mpr (nd_map_on (fun a ha b hb h => ?_) g.nd)
    obtain ⟨a1, a2, a3, a4⟩ := g.rng a ha
    obtain ⟨b1, b2, b3, b4⟩ := g.rng b hb
    have h1 := nameBy_inj O a1 a2 b1 b2 (Prod.mk.inj h).1
    have h2 := nameBy_inj O a3 a4 b3 b4 (Prod.mk.inj h).2
    exact Prod.ext h1 h2
  · obtain ⟨x, hx⟩ := List.exists_mem_of_ne_nil _ g.x0
    have := (mem _).mpr ⟨x, hx, rfl⟩
    rw [z] at this
    cases this
  · have := rng_len ynd yr
    have := g.n2
    omega
  · obtain ⟨v, v0, v1, rfl⟩ := nameBy_onto O w0 w1
    exact (g.fwd v v0 v1).named sub
  · obtain ⟨v, v0, v1, rfl⟩ := nameBy_onto O w0 w1
    obtain ⟨x, hx, r⟩ := g.bwd v v0 v1
    exact ⟨_, (mem _).mpr ⟨x, hx, rfl⟩, r.named sub⟩
/-- pairs of places, none twice: at most n times n -/
theorem pairs_len {n : Nat} {es : List Edge} (nd : es.Nodup) (rng : ∀ p ∈ es, (0 ≤ p.1 ∧ p.1 < (n : Int)) ∧ 0 ≤ p.2 ∧ p.2 < (n : Int)) : es.length ≤ n * n := by
  have h := len_le_of_sub es ((List.range (n * n)).map fun i => (((i / n : Nat) : Int), ((i % n : Nat) : Int))) nd fun q hq => by
    obtain ⟨⟨a0, a1⟩, b0, b1⟩ := rng q hq
    have hn : 0 < n := by omega
    refine List.mem_map.mpr ⟨q.1.toNat * n + q.2.toNat, List.mem_range.mpr ?_, ?_⟩
    · have x1 : q.1.toNat + 1 ≤ n := by omega
      have x2 := Nat.mul_le_mul_right n x1
      rw [Nat.add_mul, Nat.one_mul] at x2
      omega
    · have d1 : (q.1.toNat * n + q.2.toNat) / n = q.1.toNat := by
        rw [Nat.mul_comm, Nat.mul_add_div hn, Nat.div_eq_of_lt (by omega)]
        rfl
      have d2 : (q.1.toNat * n + q.2.toNat) % n = q.2.toNat := by
        rw [Nat.mul_comm, Nat.mul_add_mod, Nat.mod_eq_of_lt (by omega)]
      show (((_ : Nat) : Int), ((_ : Nat) : Int)) = q
      rw [d1, d2]
      exact Prod.ext (Int.toNat_of_nonneg a0) (Int.toNat_of_nonneg b0)
  rw [List.length_map, List.length_range] at h
  exact h
end Kx

namespace Kx
open PySem PySem.Spec PyProof.Rows L2
/-! ### C(e, ..) in a try, where __init__ may raise; raise X() of an own class without __init__ -/
section
variable {X : Cx} {CX : CXT} {k : Nat} {f C : Addr} {fd : FuncData} {ps : List Str} {sp : Sp} {E : L2.St → XK} {x : Str} {p pos : Pos} {e : Expr} {es : List Expr} {t : TA}
def tMakeE (C : Addr) (sp : Sp) (E : L2.St → XK) (t : TA) : TE := fun σ H Q => t σ H fun vs H1 => ∀ x dx, H1 x = none → H1 dx = none → dx ≠ x → sp (.ref x :: vs) (upd (upd H1 dx (.own x)) x (.ins C dx [])) (fun v H2 => v = .non ∧ Q (.ref x) H2) (E σ)
theorem pe_makeE (M : Mk X.K C f) (F : FnOk X.prog X.w X.K X.mg X.base CX k f fd ps sp) (hr : Room (k + 1) X.A) (hg : Gl X x) (hm : X.mg x = some (.ref C)) (hb : Binds X.K fd ps []) (hx : ∀ σ, PassesAt CX X σ (E σ)) (ha : PA X (e :: es) t)
    (hdb : (x == ("__debug__" : Str)) = false := by decide) (he : starEach (e :: es) X.env = (false, eval e X.env) :: starEach es X.env := by rfl) (hpl : (backTo pos (starEach es X.env)).any (·.1) = false := by rfl) :
    PE X (.Call (.Name x p) (e :: es) [] pos) (tMakeE C sp E t) := by
  refine ⟨fun pins s0 σ H Q I h => wpAny_Call_Name_kw (ld_glob I hg hm (PySem.W.callWith_K (h₀ := X.base) I.ok.mod.kin M.kp (thn (ha.run pos pins s0 σ H _ I h) fun us s ⟨vs, H1, I1, r, q⟩ => ⟨I1.kIn, ?_⟩) he hpl) hdb)⟩
  have new := q (s.heap.objs.size + 1) s.heap.objs.size (I1.hok.fresh (Nat.le_succ _)) (I1.hok.fresh (Nat.le_refl _)) (Nat.ne_of_lt (Nat.lt_succ_self _))
  have J := Inv.made (C := C) I1
  have rel : Vals (V.ref (s.heap.objs.size + 1) :: vs) (Value.ref (s.heap.objs.size + 1) :: us) := .cons rfl r
  have bound := hb _ (Value.ref (s.heap.objs.size + 1) :: us) J.kIn (by rw [List.append_nil, ← rel.length, F.len _ _ _ _ new])
  rw [List.append_nil] at bound
  refine wpAny_call (make_map (f := f) I1.kIn M.makes M.init (beq_iff_eq.mp M.fn) (codeAny_mono (F.run _ X.stack _ _ ⟨Value.ref (s.heap.objs.size + 1) :: us, []⟩ _ _ _ _ (hr.make C us []) (J.env0.make C us []) bound rel new) fun r2 s2 back => ?_))
  rcases r2 with er | fl
  · exact hx σ pins _ _ er s2 J back
  rcases fl with _ | _ | _ | u
  · exact False.elim back
  · exact False.elim back
  · exact False.elim back
  obtain ⟨v, H2, I2, rv, ev, q2⟩ := J.after back
  subst ev
  exact ⟨rv, ⟨V.ref (s.heap.objs.size + 1), H2, I2, rfl, q2⟩⟩
theorem pmk_own0 {bmB : List Value} {B newId initId : String} (F : ExcBaseFacts B newId initId bmB) (q : PySem.W.excIn X.K C bmB newId = true) (gC : X.mg x = some (.ref C)) (kC : PySem.W.keepIn X.K (.ref C) = true) (r : Raises X (.ref C)) (hg : Gl X x)
    (hdb : (x == ("__debug__" : Str)) = false := by decide) : PMk X (.Call (.Name x p) [] [] pos) (fun _ H Q => Q (.ref C) none H) := by
  intro pins s σ H Q I h
  refine wpAny_Call_Name_kw (ld_glob I hg gC (PySem.W.callWith_K0 I.kIn kC ?_) hdb)
  obtain ⟨_, _, _, _, _, _, _, _, _, _, _, _, _, _, _, _, _, hC, hN, hni, T⟩ := exc_obj I.kIn q
  exact wpAny_call_exc_subT F T hC hN hni (fun h' e made => mk_of I made r h (I.hok.gone made.new)) (Nat.zero_le _)
end
end Kx

namespace Kx
open PySem PySem.Spec PyProof.Rows L2
/-! ### isinstance(e, C), e the exception that the suite holds, with or without fields -/
def rIsD (K : PySem.W.Frag) (a : Addr) (cls : Value) (d : Option Addr) (D : Addr) : List V → Hp → VK → Prop := fun xs H Q => ∃ (c : V) (cv : Value) (b : Bool), xs = [.ref a, c] ∧ cls = .ref D ∧ (d = none ∨ ∃ dd fs, d = some dd ∧ H dd = some (.xd fs)) ∧ (∀ u, RelV c u → u = cv) ∧ PySem.W.kitOne K (.ref D) cv = some b ∧ Q (.bl b) H
theorem call_isD {X : Cx} {a D : Addr} {cls : Value} {d : Option Addr} {oe : Obj} {pn : List (Addr × Obj)} (C : ExcC X.K D) (hz : Zc cls d oe) (hf : ∃ vs, oe.data = .fields vs) : CallR (X.suite a ((a, oe) :: pn)) (.builtin "isinstance") (rIsD X.K a cls d D) := by
  intro pins s σ H xs us Q I r h
  obtain ⟨c, cv, b, rfl, ec, hd, hcv, e, q⟩ := h
  cases r with
  | cons rx rr =>
    cases rr with
    | cons rt rr =>
      cases rr
      cases rx
      have ev := hcv _ rt
      subst ev
      subst ec
      obtain ⟨hget, _⟩ := I.pin (a, oe) (List.mem_append.mpr (.inl List.mem_cons_self))
      obtain ⟨vs, hv⟩ := hf
      have isC : (PySem.W.clsIn X.K D).isSome = true := by
        obtain ⟨cd, hc, _⟩ := PySem.W.any_some C.hd
        rw [hc]
        rfl
      rcases hd with dn | ⟨dd, fs, ed, ea⟩
      · subst dn
        have J : PySem.W.InstAt s.heap a oe D none := by
          obtain ⟨oc, od, oda, osl⟩ := oe
          obtain ⟨h1, h2⟩ := hz
          dsimp only at h1 h2 hv
          subst h1 h2 hv
          exact ⟨hget, rfl, rfl, trivial⟩
        exact PySem.W.kia_one (PySem.W.handS_kitx_exc C.hg C.hk C.hs C.hd C.ha C.hn C.ht C.hm) I.kIn J e (fun z => nomatch z) fun tk => ⟨.bl b, H, I.kept (t' := tk) fun _ _ z => z, rfl, q⟩
      · subst ed
        have hx : ObjOk X.prog X.w H s.heap dd (.xd fs) := I.hok dd _ ea
        obtain ⟨mA, hns, hr⟩ := hx
        obtain ⟨od, ho, hl⟩ := lookIn_ns hns
        have J : PySem.W.InstAt s.heap a oe D (some od) := ⟨hget, hz.1, by unfold PySem.W.notCls; rw [hv] <;> rfl, by rw [hz.2]; exact ho⟩
        exact PySem.W.kia_one (PySem.W.kitx_exc isC C.hg C.hk C.hs C.ha C.hn C.ht C.hm) I.kIn J e (fun z => nomatch z) fun tk => ⟨.bl b, H, I.kept (t' := tk) fun _ _ z => z, rfl, q⟩
end Kx

namespace Kx
open PySem PySem.Spec PyProof.Rows L2
/-! ### signs over objects of an own class: a <= b, a | b, x in a, len(a), a[i], if a -/
section
variable {X : Cx} {pins : List (Addr × Obj)} {σ : L2.St} {H : Hp} {s : Shared} {CX : CXT} {n : Nat} {C f : Addr} {fd : FuncData} {ps : List Str} {sp : Sp} {E : XK}
/-- a def is called by its address, where the code is as far away as A says -/
theorem own_callA (F : FnOk X.prog X.w X.K X.mg X.base CX n f fd ps sp) {A : Around} (hr : Room n A) (he : Env0 X.prog X.w X.K X.mg X.base A X.stack s H) (hb : Binds X.K fd ps []) (hx : Passes CX X E) {xs : List V} {us : List Value} {Q : VK}
    (I : Inv X pins σ H s) (rv : Vals xs us) (q : sp xs H Q E) : wpAny (model X.prog X.w) A (call (.ref f) us) (EP X pins σ Q) X.xe s := by
  have same := F.len _ _ _ _ q
  have bound := hb s us I.kIn (by rw [← same]; simpa using (rv.length).symm)
  rw [List.append_nil] at bound
  refine wpAny_call (codeAny_mono (F.run A X.stack s H ⟨us, []⟩ us xs _ E hr he (by simpa using bound) rv q) fun r s' back => ?_)
  rcases r with e | fl
  · exact hx pins σ H s e s' I back
  · rcases fl with _ | _ | _ | w
    all_goals first
      | exact False.elim back
      | exact I.after back
/-- an object of an own class, and how it looks in memory -/
theorem inst_look (I : Inv X pins σ H s) {a dx : Addr} {fs : List (Str × V)} (ha : H a = some (.ins C dx fs)) : ∃ ox od, PySem.W.InstAt s.heap a ox C od := by
  obtain ⟨_, J, _⟩ := ins_get I.hok ha
  obtain ⟨_, J, _⟩ := J.look
  exact ⟨_, _, J⟩
/-- a method of the class that the machine calls by itself -/
structure Own1 (K : PySem.W.Frag) (C f : Addr) (name : Str) : Prop where
  at_ : PySem.W.findIn K (.ref C) name = some (some (.ref f))
  fn : PySem.W.isFn K (.ref f) = true
/-- both sides are objects of C: what the method says -/
def rTwo (C : Addr) (sp : Sp) (E : XK) : R2 := fun x y H Q => ∃ a b dx dy fs gs, x = .ref a ∧ y = .ref b ∧ H a = some (.ins C dx fs) ∧ H b = some (.ins C dy gs) ∧ sp [.ref a, .ref b] H Q E
theorem op_cmpOwn {op : CmpOp} (F : FnOk X.prog X.w X.K X.mg X.base CX n f fd ps sp) (hr : Room n X.A) (m : Own1 X.K C f (cmpInfo op).2.1) (hb : Binds X.K fd ps []) (hx : Passes CX X E)
    (hop : ∀ u v, compareOp op u v = richCompare op u v := by intro _ _; rfl) : OpR X (compareOp op) (rTwo C sp E) := by
  intro pins s σ H x y v u Q I rx ry d
  obtain ⟨a, b, dx, dy, fs, gs, rfl, rfl, ha, hb', q⟩ := d
  cases rx
  cases ry
  obtain ⟨_, _, J⟩ := inst_look I ha
  obtain ⟨_, _, J'⟩ := inst_look I hb'
  obtain ⟨m0, hF⟩ := I.fr
  rw [hop]
  refine PySem.W.cmp_K (tb := .ref C) hr.units0 hF I.ok.mod.kin J J'.type (by simp [PySem.W.notFirst]) m.at_ m.fn ?_
  refine wpAny_mono (own_callA F hr I.env0 hb hx I (xs := [.ref a, .ref b]) (.cons rfl (.cons rfl .nil)) q) (fun r s' e => ?_) fun _ _ e => e
  obtain ⟨z, H', I', rz, qz⟩ := e
  exact SlX.cmpback rz ⟨z, H', I', rz, qz⟩
theorem op_binOwn {op : Operator} (F : FnOk X.prog X.w X.K X.mg X.base CX n f fd ps sp) (hr : Room n X.A) (hc : PySem.W.selfFirst X.K C = true) (m : Own1 X.K C f (PySem.dunder op.info.2)) (hb : Binds X.K fd ps []) (hx : Passes CX X E) :
    OpR X (binaryOp op) (rTwo C sp E) := by
  intro pins s σ H x y v u Q I rx ry d
  obtain ⟨a, b, dx, dy, fs, gs, rfl, rfl, ha, hb', q⟩ := d
  cases rx
  cases ry
  obtain ⟨_, _, J⟩ := inst_look I ha
  obtain ⟨_, _, J'⟩ := inst_look I hb'
  obtain ⟨m0, hF⟩ := I.fr
  refine PySem.W.binop_K hF I.ok.mod.kin J J'.type hc m.at_ m.fn ?_
  refine wpAny_mono (own_callA F hr I.env0 hb hx I (xs := [.ref a, .ref b]) (.cons rfl (.cons rfl .nil)) q) (fun r s' e => ?_) fun _ _ e => e
  obtain ⟨z, H', I', rz, qz⟩ := e
  exact SlX.cmpback rz ⟨z, H', I', rz, qz⟩
/-- x in o, x not in o: the method answers with a truth -/
def rInOwn (C : Addr) (sp : Sp) (E : XK) (neg : Bool) : R2 := fun x y H Q => ∃ b dy gs, y = .ref b ∧ H b = some (.ins C dy gs) ∧ sp [.ref b, x] H (fun r H' => ∃ k : Bool, r = .bl k ∧ Q (.bl (if neg = true then !k else k)) H') E
theorem op_inOwn (F : FnOk X.prog X.w X.K X.mg X.base CX n f fd ps sp) (hr : Room n X.A) (m : Own1 X.K C f "__contains__") (hb : Binds X.K fd ps []) (hx : Passes CX X E) : OpR X (compareOp .In) (rInOwn C sp E false) := by
  intro pins s σ H x y v u Q I rx ry d
  obtain ⟨b, dy, gs, rfl, hb', q⟩ := d
  cases ry
  obtain ⟨_, _, J⟩ := inst_look I hb'
  obtain ⟨m0, hF⟩ := I.fr
  refine PySem.W.in_K hF I.ok.mod.kin J m.at_ m.fn ?_
  refine wpAny_mono (own_callA F hr I.env0 hb hx I (xs := [.ref b, x]) (.cons rfl (.cons rx .nil)) q) (fun r s' e => ?_) fun _ _ e => e
  obtain ⟨z, H', I', rz, k, rfl, qz⟩ := e
  cases rz
  exact wpAny_truthy_bool ⟨.bl _, H', I', rfl, qz⟩
theorem op_notInOwn (F : FnOk X.prog X.w X.K X.mg X.base CX n f fd ps sp) (hr : Room n X.A) (m : Own1 X.K C f "__contains__") (hb : Binds X.K fd ps []) (hx : Passes CX X E) : OpR X (compareOp .NotIn) (rInOwn C sp E true) := by
  intro pins s σ H x y v u Q I rx ry d
  obtain ⟨b, dy, gs, rfl, hb', q⟩ := d
  cases ry
  obtain ⟨_, _, J⟩ := inst_look I hb'
  obtain ⟨m0, hF⟩ := I.fr
  refine PySem.W.notIn_K hF I.ok.mod.kin J m.at_ m.fn ?_
  refine wpAny_mono (own_callA F hr I.env0 hb hx I (xs := [.ref b, x]) (.cons rfl (.cons rx .nil)) q) (fun r s' e => ?_) fun _ _ e => e
  obtain ⟨z, H', I', rz, k, rfl, qz⟩ := e
  cases rz
  exact wpAny_truthy_bool ⟨.bl _, H', I', rfl, qz⟩
/-- len(o) -/
def rLenOwn (C : Addr) (sp : Sp) (E : XK) : List V → Hp → VK → Prop := fun xs H Q => ∃ a dx fs, xs = [.ref a] ∧ H a = some (.ins C dx fs) ∧ sp [.ref a] H (fun r H' => ∃ i : Int, r = .int i ∧ (0 ≤ i ∧ i < 2 ^ 63) ∧ Q (.int i) H') E
theorem call_lenOwn (F : FnOk X.prog X.w X.K X.mg X.base CX n f fd ps sp) (hr : Room (n + 1) X.A) (m : Own1 X.K C f "__len__") (hb : Binds X.K fd ps []) (hx : Passes CX X E) : CallR X (.builtin "len") (rLenOwn C sp E) := by
  intro pins s σ H xs us Q I rv h
  obtain ⟨a, dx, fs, rfl, ha, q⟩ := h
  obtain ⟨u, rfl, ru⟩ := rv.one
  cases ru
  obtain ⟨_, _, J⟩ := inst_look I ha
  obtain ⟨m0, hF⟩ := I.fr
  refine PySem.W.len_K hF I.ok.mod.kin J m.at_ m.fn ?_
  refine wpAny_mono (own_callA F hr.in1 I.env0.in1 hb hx I (xs := [.ref a]) (.cons rfl .nil) q) (fun r s' e => ?_) fun _ _ e => e
  obtain ⟨z, H', I', rz, i, rfl, hi, qz⟩ := e
  obtain ⟨t, rfl⟩ := rz
  exact ⟨hi, .int i, H', I'.tok _, ⟨_, rfl⟩, qz⟩
/-- if o -/
def rTruOwn (C : Addr) (sp : Sp) (E : XK) : V → Hp → (Bool → Hp → Prop) → Prop := fun x H Q => ∃ a dx fs, x = .ref a ∧ H a = some (.ins C dx fs) ∧ sp [.ref a] H (fun r H' => ∃ k : Bool, r = .bl k ∧ Q k H') E
theorem tru_own (F : FnOk X.prog X.w X.K X.mg X.base CX n f fd ps sp) (hr : Room n X.A) (m : Own1 X.K C f "__bool__") (hb : Binds X.K fd ps []) (hx : Passes CX X E) : TruR X (rTruOwn C sp E) := by
  intro pins s σ H x v Q I rx h
  obtain ⟨a, dx, fs, rfl, ha, q⟩ := h
  cases rx
  obtain ⟨_, _, J⟩ := inst_look I ha
  obtain ⟨m0, hF⟩ := I.fr
  refine PySem.W.truthy_K hF I.ok.mod.kin J m.at_ m.fn ?_
  refine wpAny_mono (own_callA F hr I.env0 hb hx I (xs := [.ref a]) (.cons rfl .nil) q) (fun r s' e => ?_) fun _ _ e => e
  obtain ⟨z, H', I', rz, k, rfl, qz⟩ := e
  cases rz
  exact ⟨H', I', qz⟩
/-- o[i] -/
def rIxOwn (C : Addr) (sp : Sp) (E : XK) : R2 := fun x y H Q => ∃ a dx fs, x = .ref a ∧ H a = some (.ins C dx fs) ∧ sp [.ref a, y] H Q E
theorem pe_ixOwn {a b : Expr} {ta tb : TE} {pos : Pos} (F : FnOk X.prog X.w X.K X.mg X.base CX n f fd ps sp) (hr : Room (n + 1) X.A) (m : Own1 X.K C f "__getitem__") (hf : PySem.W.fnIn X.K f = true) (hb : Binds X.K fd ps []) (hx : Passes CX X E)
    (ea : PE X a ta) (eb : PE X b tb) (hs : ∀ x i, subscripted b true (.ref x) i = runValue (.builtin "lifetime.subscript" ⟨[.ref x, i], []⟩) := by intro _ _; with_unfolding_all rfl) : PE X (.Subscript a b pos) (tOp (rIxOwn C sp E) ta tb) := by
  refine ⟨fun pins s σ H Q I h => Subscript_ (binT ea eb I h fun v u s2 x y H2 I2 rx ry d => ?_)⟩
  obtain ⟨c, dx, fs, rfl, ha, q⟩ := d
  cases rx
  obtain ⟨_, _, J⟩ := inst_look I2 ha
  obtain ⟨m0, hF⟩ := I2.fr
  refine PySem.W.sub_K hF I2.ok.mod.kin J m.at_ hf m.fn ?_ (hs _ _)
  exact own_callA F hr.in1 I2.env0.in1 hb hx I2 (xs := [.ref c, y]) (.cons rfl (.cons ry .nil)) q
end
end Kx

namespace Kx
open PySem PySem.Spec PyProof.Rows L2
/-! ### a def whose promise knows how large the memory was when it was called -/
abbrev SpN := Nat → Sp
structure FnN (P : Program) (w : World) (K : PySem.W.Frag) (mg : Str → Option Value) (base : Heap) (CX : CXT) (k : Nat) (f : Addr) (fd : FuncData) (ps : List Str) (sp : SpN) : Prop where
  len : ∀ n vs H Q E, sp n vs H Q E → vs.length = ps.length
  run : ∀ {A : Around} {outer : List Env} {s : Shared} {H : Hp} {args : Args} {us : List Value} {vs : List V} {Q : VK} {E : XK}, Room k A → Env0 P w K mg base A outer s H → BindsTo s fd args (ps.zip us) → Vals vs us →
    sp s.heap.objs.size vs H Q E → codeAny (model P w) A (.call (.ref f) args) (CR CX outer P w H s Q E) s
theorem FnN.of {P : Program} {w : World} {K : PySem.W.Frag} {mg : Str → Option Value} {base : Heap} {CX : CXT} {k : Nat} {f : Addr} {fd : FuncData} {ps N : List Str} {sp : SpN} {x qual : Str} {params : Arguments} {body : List Stmt} {scope : Scope}
    {dvs : List V} {kws : List (Str × V)} (F : FunD K x qual params body scope dvs kws f fd) (S : FnScope N ps scope) (len : ∀ n vs H Q E, sp n vs H Q E → vs.length = ps.length)
    (hbody : ∀ (cdv : Value) (A : Around) (outer : List Env) (s : Shared) (H : Hp) (vs : List V) (Q : VK) (E : XK), Room k (A.deeper (envOfC qual scope s.heap.objs.size f cdv)) → sp s.heap.objs.size vs H Q E →
      ∃ t, PSs (cxOf CX P w K mg base N qual scope f cdv A outer s H E) body t ∧ t { nx := fun _ H' => Q .non H', rt := Q } (start N vs) H) : FnN P w K mg base CX (k + 1) f fd ps sp := by
  obtain ⟨oc, od, dV, kV, doc, pm, an, cdv, ct, osl, hfd, here, code, _, _⟩ := F.ex
  subst hfd
  refine ⟨len, ?_⟩
  intro A outer s H args us vs Q E room env bound rel q
  have up : ∀ b o, base.get? b = some o → s.heap.get? b = some o := fun b o e => (env.bs b o e).1
  have inK : K.In s.heap := env.mod.kin.keeps up
  obtain ⟨t, ht, hq⟩ := hbody cdv A outer s H vs Q E (room.deeper _) q
  have pk : ∀ y ∈ ps.zip us, scope.names.lookup y.1 = some .local ∨ (scope.names.lookup y.1 = some .cell ∧ ((cellsFrom (s.heap.objs.size + 1) scope.names []).lookup y.1).isSome = true) := by
    intro y hy
    rcases S.par y.1 (List.of_mem_zip (a := y.1) (b := y.2) hy).1 with z | z
    · exact .inl z
    · exact .inr ⟨z, PySem.W.cellsFrom_some _ _ _ (.inl z)⟩
  refine codeAny_call_function room.depth (inK _ _ here) rfl S.co S.gen rfl (PySem.W.codeRec_of inK code) (bound _ _ _ _ (wpAny_newFunctionEnv_cells S.kind pk ?_))
  rintro _ rfl s1 newEnv
  refine ⟨(env.mod.nolimit.keeps up).keeps newEnv.toInCall.keep, codeAny_func (wpAny_mono (ht.run [] s1 (start N vs) H _ (inv_start S room.hd env (len _ _ _ _ _ q) rel newEnv) hq) ?_ fun _ _ z => z)⟩
  intro fl s' hs
  rcases fl with _ | _ | _ | u
  · obtain ⟨_, H', J, q'⟩ := hs
    exact ⟨V.non, H', J.os, J.bare, J.base, J.hok, rfl, q'⟩
  · exact hs.elim fun _ z => z.elim fun _ z => z.2.elim
  · exact hs.elim fun _ z => z.elim fun _ z => z.2.elim
  · obtain ⟨v, _, H', J, rv, q'⟩ := hs
    exact ⟨v, H', J.os, J.bare, J.base, J.hok, rv, q'⟩
/-! ### iter(t), t a tuple -/
def ItTO (l it : Addr) (i : Nat) : HO := .ext fun h => h.IsTupleIter it l i
theorem itTO_ok {P : Program} {w : World} {H : Hp} {h : Heap} {l it : Addr} {i : Nat} (e : h.IsTupleIter it l i) : ObjOk P w H h it (ItTO l it i) := by
  have ⟨o, ho, r⟩ := e
  exact ⟨e, ⟨o, ho⟩, fun h1 h2 p k => by
    obtain ⟨o', ho', r'⟩ := (show h1.IsTupleIter it l i from p)
    exact ⟨o', k o' ho', r'⟩⟩
def rIterT (K : PySem.W.Frag) (n : Nat) : List V → Hp → VK → Prop := fun xs H Q => ∃ (l : Addr) (zs : List V), xs = [.ref l] ∧ SqT K H l zs ∧ ∀ it, H it = none → n ≤ it → Q (.ref it) (upd H it (ItTO l it 0))
section
variable {X : Cx}
theorem call_iterT : CallR X (.builtin "iter") (rIterT X.K X.s_0.heap.objs.size) := by
  intro pins s σ H xs us Q I r h
  obtain ⟨l, zs, rfl, hq, q⟩ := h
  obtain ⟨u, rfl, ru⟩ := r.one
  cases ru
  obtain ⟨its, rv, pl, hz⟩ := I.tuple hq
  have iterArgs : someArgs "iter" 1 2 ⟨[Value.ref l], []⟩ = pure [Value.ref l] := by first | rfl | kernel_rfl!
  refine Calls.call_function_entry (by decide +kernel) (by decide +kernel) PySem.W.kdk_entry_iter (PySem.W.kdk_args_iter _) (show wpAny _ _ (Builtin.«iter» _) _ _ _ from ?_)
  unfold Builtin.«iter»
  refine wpAny_bind (wpAny_of_eq iterArgs (wpAny_bind (wpAny_pyIter_tuple (show s.heap.IsTuple l its.toArray from pl) (wpAny_pure ⟨_, rfl, ?_⟩))))
  exact ⟨.ref s.heap.objs.size, _, I.laid (t' := s.toks) (fun b u e => Heap.get?_push_of_some _ e) (Nat.le_refl _) (itTO_ok ⟨_, Heap.get?_push_size _ rfl, rfl, rfl⟩), rfl, q _ (I.hok.fresh (Nat.le_refl _)) I.sz⟩
end
/-! ### for x in o, where the class says `def __iter__(self): return iter(self.t)`, t a tuple -/
def spIterN (C : Addr) (fld : Str) (K : PySem.W.Frag) : SpN := fun n vs H Q _ => ∃ (a dx l : Addr) (fs : List (Str × V)) (zs : List V), vs = [.ref a] ∧ H a = some (.ins C dx fs) ∧ fs.lookup fld = some (.ref l) ∧ SqT K H l zs ∧ ∀ it, H it = none → n ≤ it → Q (.ref it) (upd H it (ItTO l it 0))
def iOwn (K : PySem.W.Frag) (C : Addr) (fld : Str) (tl : TE) : TI := fun σ H R => tl σ H fun x H1 => ∃ (a dx l : Addr) (fs : List (Str × V)) (zs : List V), x = .ref a ∧ H1 a = some (.ins C dx fs) ∧ fs.lookup fld = some (.ref l) ∧ SqT K H1 l zs ∧ R (Itt K l) H1
section
variable {X : Cx} {tg : Expr} {n : Nat} {C f : Addr} {fd : FuncData} {ps : List Str} {fld : Str}
theorem pi_own {e : Expr} {tl : TE} (he : PE X e tl) (F : FnN X.prog X.w X.K X.mg X.base CX0 n f fd ps (spIterN C fld X.K)) (hr : Room n X.A) (m : Own1 X.K C f "__iter__") (hb : Binds X.K fd ps []) : PI X tg e (iOwn X.K C fld tl) := by
  refine ⟨fun pins s σ H R I h => ?_⟩
  refine thn (he.run pins s σ H _ I h) fun v s1 ⟨x, H1, I1, r1, a, dx, l, fs, zs, e1, ha, hl, hz, q⟩ => ?_
  subst e1
  cases r1
  obtain ⟨_, _, J⟩ := inst_look I1 ha
  obtain ⟨m0, hF⟩ := I1.fr
  refine PySem.W.owit_iter hF I1.ok.mod.kin J m.at_ m.fn ?_
  have q0 : spIterN C fld X.K s1.heap.objs.size [.ref a] H1 (fun v H' => ∃ it, v = .ref it ∧ s1.heap.objs.size ≤ it ∧ H1 it = none ∧ H' = upd H1 it (ItTO l it 0)) (fun _ _ _ => False) := by
    refine ⟨a, dx, l, fs, zs, rfl, ha, hl, hz, fun it h0 hn => ⟨it, rfl, hn, h0, rfl⟩⟩
  have same := F.len _ _ _ _ _ q0
  have bound := hb s1 [.ref a] I1.kIn (by rw [← same]; rfl)
  rw [List.append_nil] at bound
  refine wpAny_call (codeAny_mono (F.run (vs := [.ref a]) (us := [.ref a]) (args := ⟨[.ref a], []⟩) hr I1.env0 bound (.cons rfl .nil) q0) fun r s2 back => ?_)
  rcases r with er | fl
  · exact False.elim back
  rcases fl with _ | _ | _ | u
  · exact False.elim back
  · exact False.elim back
  · exact False.elim back
  obtain ⟨v, H2, I2, rv, it, e2, hn, h0, e3⟩ := I1.after back
  subst e2
  cases rv
  rw [e3] at I2
  have there : (upd H1 it (ItTO l it 0)) it = some (ItTO l it 0) := upd_same
  have st : s2.heap.IsTupleIter it l 0 := (I2.hok it _ there).1
  have young : X.s_0.heap.objs.size ≤ it := Nat.le_trans I1.sz hn
  have there' := there
  unfold ItTO at there'
  have I3 := ItX.inv_drop I2 (a := it) (φ := fun h => h.IsTupleIter it l 0) there
  have fp := ItX.inv_fp I2 there young
  rw [ItX.dropH_upd h0] at I3 fp
  unfold PySem.W.OwitIt
  refine wpAny_specialOf (name := Str.ofString "__next__") st.typeIs slot_tupleiter_next.lookup ?_
  refine ⟨it, [it], _, _, H1, rfl, I3, turn_tuple l it, st, fun b hb => ?_, q⟩
  have e : b = it := by simpa using hb
  rw [e]
  exact fp
end
end Kx

namespace Kx
open PySem PySem.Spec PyProof.Rows L2
/-! ### list(o), where the class says `def __iter__(self): return iter(self.t)` and has __len__ -/
section
variable {X : Cx} {pins : List (Addr × Obj)} {σ : L2.St} {H : Hp} {s : Shared} {n : Nat} {C fi fl a q : Addr} {fdI fdL : FuncData} {psI psL : List Str} {fld : Str} {spL : Sp} {A1 : Around}
theorem sqt_set {K : PySem.W.Frag} {H : Hp} {a c : Addr} {xs ys : List V} {o : HO} (h : SqT K H a xs) (hc : H c = some (.lst ys)) : SqT K (upd H c o) a xs := by
  rcases h with (h | ⟨q, h⟩) | h
  · exact .inl (.inl (by rw [upd_ne (ne_of h hc (by intro z; cases z))]; exact h))
  · exact .inl (.inr ⟨q, by rw [upd_ne (ne_of h hc (by intro z; cases z))]; exact h⟩)
  · exact .inr h
/-- a def that lets nothing out is called -/
theorem own_call0 (F : FnOk X.prog X.w X.K X.mg X.base CX0 n fl fdL psL spL) {A : Around} {E : Value → Shared → Prop} (hr : Room n A) (he : Env0 X.prog X.w X.K X.mg X.base A X.stack s H) (hb : Binds X.K fdL psL []) {xs : List V} {us : List Value} {Q : VK}
    (I : Inv X pins σ H s) (rv : Vals xs us) (q : spL xs H Q (fun _ _ _ => False)) : wpAny (model X.prog X.w) A (call (.ref fl) us) (EP X pins σ Q) E s := by
  have same := F.len _ _ _ _ q
  have bound := hb s us I.kIn (by rw [← same]; simpa using (rv.length).symm)
  rw [List.append_nil] at bound
  refine wpAny_call (codeAny_mono (F.run A X.stack s H ⟨us, []⟩ us xs _ _ hr he (by simpa using bound) rv q) fun r s' back => ?_)
  rcases r with e | fl
  · exact False.elim back
  · rcases fl with _ | _ | _ | w
    all_goals first
      | exact False.elim back
      | exact I.after back
theorem env_sub (sb : Sub X n A1) (I : Inv X pins σ H s) : Env0 X.prog X.w X.K X.mg X.base A1 X.stack s H := by
  have e := I.env0
  exact ⟨by rw [sb.fr]; exact e.frames, e.mod, e.bs, e.bsz, e.funs, e.frf, e.hok, e.bare⟩
theorem tup_loop {l it q : Addr} {zs : List V} {Rs : Result → Shared → Prop} {Hd : Hp} (hA : A1.in1.handled = none) (hz : SqT X.K Hd l zs) (hq : Hd q = some (.lst [])) (few : zs.length ≤ sizeLine) (done : ∀ s', Inv X pins σ (upd Hd q (.lst zs)) s' → Rs (.ok (.ret .none)) s') (hni : it ≠ q) :
    ∀ (m i : Nat) (s : Shared), m = zs.length - i → i ≤ zs.length → Inv X pins σ (upd Hd q (.lst (zs.take i))) s → s.heap.IsTupleIter it l i → FpOk X pins Hd it →
    codeAny (model X.prog X.w) A1 (.builtin "list.extend.loop" ⟨[.ref q, .ref it, .none], []⟩) Rs s := by
  intro m
  induction m with
  | zero =>
    intro i s em hi I st fp
    have ei : i = zs.length := by omega
    subst ei
    rw [List.take_length] at I
    refine codeAny_builtin PySem.F.entry_extend_loop ?_
    rw [Around.under_plainId PySem.F.plain_extend_loop _]
    show wpAny _ A1.in1 (pyNext (.ref it) >>= _) _ _ s
    obtain ⟨its, rv, p, hzs⟩ := I.tuple (sqt_set hz hq)
    have hl := rv.length
    obtain ⟨f0, f1, f2, f3, f4, f5⟩ := fp
    have f0' : (upd Hd q (.lst zs)) it = none := by rw [upd_ne hni]; exact f0
    refine wpAny_bind (wpAny_pyNext_tuple_end hA st (show s.heap.IsTuple l its.toArray from p) (by simp; omega) fun h' eb => ?_)
    exact wpAny_pure (done _ (I.turned (t' := s.toks) (fun b o hb e => eb b o hb e) f0' f1 f3 f4 f5))
  | succ m ih =>
    intro i s em hi I st fp
    have lt : i < zs.length := by omega
    have ex : zs[i]? = some zs[i] := List.getElem?_eq_getElem lt
    refine codeAny_builtin PySem.F.entry_extend_loop ?_
    rw [Around.under_plainId PySem.F.plain_extend_loop _]
    show wpAny _ A1.in1 (pyNext (.ref it) >>= _) _ _ s
    obtain ⟨its, rv, p, hzs⟩ := I.tuple (sqt_set hz hq)
    obtain ⟨u, hu, ru⟩ := rv.get ex
    have fp' := fp
    obtain ⟨f0, f1, f2, f3, f4, f5⟩ := fp
    have f0' : (upd Hd q (.lst (zs.take i))) it = none := by rw [upd_ne hni]; exact f0
    refine wpAny_bind (wpAny_pyNext_tuple_item st (show s.heap.IsTuple l its.toArray from p) (x := u) (by simpa using hu) fun h' st' sb => ?_)
    have I1 : Inv X pins σ (upd Hd q (.lst (zs.take i))) { s with heap := h' } := I.turned (t' := s.toks) (fun b o hb e => (sb.2 b hb).trans e) f0' f1 f3 f4 f5
    show wpAny _ A1.in1 (updateSeq q (·.push u) >>= _) _ _ _
    obtain ⟨z, its2, k, r2, hl2, e2⟩ := I1.lstM upd_same
    have lt2 : its2.length = i := by
      have := r2.length
      rw [List.length_take] at this
      omega
    refine wpAny_bind (wpAny_updateSeq e2 rfl (wpAny_pure ⟨plainId_quiet PySem.F.plain_extend_loop _, ?_⟩) (by rw [List.size_toArray]; omega) (by show (its2.toArray.push u).size ≤ sizeLine + 1; rw [Array.size_push, List.size_toArray]; omega))
    have I2 := I1.lset (f := (·.push u)) (its' := its2 ++ [u]) (ys := zs.take i ++ [zs[i]]) (t' := s.toks) upd_same e2 (by simp) (r2.append (.cons ru .nil)) (by rw [List.length_append, List.length_singleton, List.length_take]; omega)
    rw [upd_upd, show zs.take i ++ [zs[i]] = zs.take (i + 1) by rw [List.take_succ, ex]; rfl] at I2
    refine ih (i + 1) _ (by omega) (by omega) I2 ?_ fp'
    exact st'.at fun o e => (Heap.get?_update_other h' (Obj.mapSeq _) (Ne.symm hni)).trans e
/-- the length that o tells -/
theorem own_hintL {Q : Bool → Shared → Prop} {E : Value → Shared → Prop} {dx : Addr} {fs : List (Str × V)} {k : Nat} (sb : Sub X n A1.in1) (m : Own1 X.K C fl "__len__") (FL : FnOk X.prog X.w X.K X.mg X.base CX0 n fl fdL psL spL) (bL : Binds X.K fdL psL [])
    (I : Inv X pins σ H s) (ha : H a = some (.ins C dx fs)) (hk : k ≤ sizeLine) (q : spL [.ref a] H (fun r H' => r = .int (k : Int) ∧ Same H H') (fun _ _ _ => False)) (h : ∀ H' s' b, Same H H' → Inv X pins σ H' s' → Q b s') :
    wpAny (model X.prog X.w) A1 (Builtin.List.listLengthHint (.ref a)) Q E s := by
  obtain ⟨_, _, J⟩ := inst_look I ha
  obtain ⟨m0, hF⟩ := I.fr
  unfold Builtin.List.listLengthHint
  refine wpAny_bind (wpAny_bind (J.type.here ((PySem.W.looks_findIn I.kIn m.at_).here ?_)))
  refine PySem.W.KFB.if_not rfl ?_
  refine PySem.W.KFB.if_so rfl ?_
  refine wpAny_bind (wpAny_rule ?_)
  refine wpAny_bind (wpAny_attempt ?_)
  refine PySem.W.len_K hF I.ok.mod.kin J m.at_ m.fn ?_
  refine wpAny_mono (own_call0 FL sb.room (env_sub sb I) bL I (xs := [.ref a]) (.cons rfl .nil) q) (fun r s' e => ?_) fun _ _ z => z
  · obtain ⟨z, H', I', rz, rfl, sm⟩ := e
    obtain ⟨t, rfl⟩ := rz
    refine ⟨⟨by omega, Int.lt_of_le_of_lt (show (k : Int) ≤ (sizeLine : Int) by omega) (by decide)⟩, ?_⟩
    refine wpAny_bind (m := asInt? _) (wpAny_pure ?_)
    refine PySem.W.KFB.if_not ?_ (wpAny_pure (h H' _ _ sm (I'.tok _)))
    show decide ((k : Int).toNat > sizeLine) = false
    rw [Int.toNat_natCast]
    exact decide_eq_false (by omega)
/-- list(o): the numbers of its tuple, in a new list -/
def rListIt (K : PySem.W.Frag) (C : Addr) (fld : Str) (spL : Sp) : List V → Hp → VK → Prop := fun xs H Q => ∃ (a dx l : Addr) (fs : List (Str × V)) (zs : List V), xs = [.ref a] ∧ H a = some (.ins C dx fs) ∧ fs.lookup fld = some (.ref l) ∧ SqT K H l zs ∧ zs.length ≤ sizeLine ∧
  (∀ H1, Same H H1 → spL [.ref a] H1 (fun r H' => r = .int (zs.length : Int) ∧ Same H1 H') (fun _ _ _ => False)) ∧ ∀ H' q, Same H H' → H' q = some (.lst zs) → Q (.ref q) H'
theorem call_listIt {ps : List Str} {fd : FuncData} (F : FnN X.prog X.w X.K X.mg X.base CX0 n fi fd ps (spIterN C fld X.K)) (mi : Own1 X.K C fi "__iter__") (hb : Binds X.K fd ps [])
    (m : Own1 X.K C fl "__len__") (FL : FnOk X.prog X.w X.K X.mg X.base CX0 n fl fdL psL spL) (bL : Binds X.K fdL psL []) (hr : Room (n + 3) X.A) (hc : X.calm = true) : CallR X (.type "list") (rListIt X.K C fld spL) := by
  intro pins s σ H xs us Q I rv h
  obtain ⟨a, dx, l, fs, zs, rfl, ha, hl, hz, few, hlen, q⟩ := h
  obtain ⟨u, rfl, ru⟩ := rv.one
  cases ru
  have sb : Sub X (n + 1) X.A.in1.in1 := (Sub.in1 (Sub.in1 (⟨hr, rfl⟩ : Sub X (n + 3) X.A)))
  refine callType_codes (Q₁ := fun obj s₁ => obj = .ref s.heap.objs.size ∧ s₁ = { s with heap := s.heap.push { cls := .type "list", data := .seq #[] } }) PySem.F.called_list (PySem.F.typeCall_list_1 _) PySem.F.entry_list_init
    (code_list_new _ ⟨rfl, rfl⟩) fun obj s₁ h₁ => ?_
  obtain ⟨rfl, rfl⟩ := h₁
  have hS : (s.heap.push { cls := .type "list", data := .seq #[] }).get? s.heap.objs.size = some { cls := .type "list", data := .seq #[] } := Heap.get?_push_size _ rfl
  refine ⟨⟨_, hS, rfl⟩, PySem.F.args_list_init_2 _ _, ?_⟩
  have fr : H s.heap.objs.size = none := I.hok.fresh (Nat.le_refl _)
  have I1 : Inv X pins σ (upd H s.heap.objs.size (.lst [])) { s with heap := s.heap.push { cls := .type "list", data := .seq #[] } } := I.lnew (its := []) (t' := s.toks) .nil (Nat.zero_le _)
  generalize hq : s.heap.objs.size = q0 at *
  show wpAny _ _ (do let old ← Builtin.List.listItems (.ref q0); Builtin.List.listUpdate (.ref q0) (fun _ => #[]); letGo old.toList.reverse; Builtin.List.listExtendWith (.ref q0) (.ref a) .none) _ _ _
  refine wpAny_bind ?_
  unfold Builtin.List.listItems
  refine wpAny_bind (wpAny_seqItems hS rfl (wpAny_pure ?_))
  show wpAny _ _ (updateSeq q0 (fun _ => #[]) >>= fun _ => letGo (#[] : Array Value).toList.reverse >>= fun _ => Builtin.List.listExtendWith (.ref q0) (.ref a) .none) _ _ _
  refine wpAny_bind (wpAny_updateSeq hS rfl ?_)
  have I2 := I1.lset (f := fun _ => #[]) (its := []) (its' := []) (ys := []) (t' := s.toks) upd_same hS rfl .nil (Nat.zero_le _)
  rw [upd_upd] at I2
  refine wpAny_bind (wpAny_letGo ?_)
  have s2 : Same H (upd H q0 (.lst [])) := same_upd (Same.refl H) fr
  have ha2 := s2 _ _ ha
  have hz2 := hz.ext s2
  have hq2 : (upd H q0 (.lst [])) q0 = some (.lst []) := upd_same
  revert I2 s2 ha2 hz2 hq2
  generalize upd H q0 (.lst []) = H2
  intro I2 s2 ha2 hz2 hq2
  have hne : q0 ≠ a := ne_of hq2 ha2 (fun z => nomatch z)
  obtain ⟨mA, J, _⟩ := ins_get I2.hok ha2
  obtain ⟨od, J, _⟩ := J.look
  obtain ⟨m0, hF⟩ := I2.fr
  unfold Builtin.List.listExtendWith
  refine wpAny_bind (J.type.here ?_)
  have h1 : Builtin.List.listSameRef (.ref q0) (.ref a) = false := by simp [Builtin.List.listSameRef, hne]
  have h2 : (Value.ref C == Value.type "list") = false := rfl
  have h3 : (Value.ref C == Value.type "tuple") = false := rfl
  simp only [h1, h2, h3, Bool.or_false, Bool.false_eq_true, if_false]
  refine wpAny_bind (PySem.W.owit_iter hF I2.ok.mod.kin J mi.at_ mi.fn ?_)
  generalize hs2 : ({ s with heap := (s.heap.push { cls := .type "list", data := .seq #[] }).update q0 (Obj.mapSeq fun _ => #[]), toks := s.toks } : Shared) = sx at *
  have qI : spIterN C fld X.K sx.heap.objs.size [.ref a] H2 (fun v H' => ∃ it, v = .ref it ∧ sx.heap.objs.size ≤ it ∧ H2 it = none ∧ H' = upd H2 it (ItTO l it 0)) (fun _ _ _ => False) := ⟨a, dx, l, fs, zs, rfl, ha2, hl, hz2, fun it h0 hn => ⟨it, rfl, hn, h0, rfl⟩⟩
  have same := F.len _ _ _ _ _ qI
  have bound := hb sx [.ref a] I2.kIn (by rw [← same]; rfl)
  rw [List.append_nil] at bound
  refine wpAny_call (codeAny_mono (F.run (vs := [.ref a]) (us := [.ref a]) (args := ⟨[.ref a], []⟩) (sb.mono (by omega)).room (env_sub sb I2) bound (.cons rfl .nil) qI) fun r s3 back => ?_)
  rcases r with er | flw
  · exact False.elim back
  rcases flw with _ | _ | _ | u
  · exact False.elim back
  · exact False.elim back
  · exact False.elim back
  obtain ⟨v, H3, I3, rv3, it, e2, hn, h0, e3⟩ := I2.after back
  subst e2
  cases rv3
  rw [e3] at I3
  have there : (upd H2 it (ItTO l it 0)) it = some (ItTO l it 0) := upd_same
  have st : s3.heap.IsTupleIter it l 0 := (I3.hok it _ there).1
  have young : X.s_0.heap.objs.size ≤ it := Nat.le_trans I2.sz hn
  unfold PySem.W.OwitIt
  refine wpAny_specialOf (name := "__next__") st.typeIs slot_tupleiter_next.lookup ?_
  have s3' : Same H2 (upd H2 it (ItTO l it 0)) := same_upd (Same.refl H2) h0
  refine wpAny_bind (wpAny_holding (own_hintL (A1 := X.A.in1.in1) sb.in1 m FL bL I3 (s3' _ _ ha2) few (hlen _ (s2.trans s3')) fun H4 s4 b sm4 I4 => ?_))
  have I5 := ItX.inv_drop I4 (a := it) (φ := fun h => h.IsTupleIter it l 0) (sm4 _ _ there)
  have fp := ItX.inv_fp I4 (sm4 _ _ there) young
  have st4 : s4.heap.IsTupleIter it l 0 := (I4.hok it _ (sm4 _ _ there)).1
  have s5 : Same H2 (ItX.dropH H4 it) := fun b o e => by
    rw [ItX.dropH_ne (ne_of_none e h0)]
    exact sm4 _ _ (s3' b o e)
  have hni : it ≠ q0 := fun e => by rw [e, hq2] at h0; cases h0
  have fin : ∀ s6, Inv X pins σ (ItX.dropH H4 it) s6 → s6.heap.IsTupleIter it l 0 → codeAny (model X.prog X.w) X.A.in1 (.builtin "list.extend.loop" ⟨[.ref q0, .ref it, .none], []⟩) (wants (fun r s₂ => r = .none ∧ EP X pins σ Q (.ref q0) s₂) X.xe) s6 := fun s6 I6 st6 => by
    have e0 : upd (ItX.dropH H4 it) q0 (.lst (zs.take 0)) = ItX.dropH H4 it := by
      funext b
      by_cases hb : b = q0
      · rw [hb, upd_same, s5 _ _ hq2]
        rfl
      · rw [upd_ne hb]
    refine tup_loop (A1 := X.A.in1) (Hd := ItX.dropH H4 it) (zs := zs) (I2.ok.hd hc) (hz2.ext s5) (s5 _ _ hq2) few (fun s' I' => ⟨rfl, .ref q0, _, I', rfl, q _ q0 (fun b o e => ?_) upd_same⟩) hni _ 0 s6 rfl (Nat.zero_le _) (by rw [e0]; exact I6) st6 fp
    rw [upd_ne (ne_of_none e fr)]
    exact s5 _ _ (s2 b o e)
  refine wpAny_ite_split (fun _ => ?_) (fun _ => wpAny_pure ⟨plainId_quiet PySem.F.plain_extend_loop _, fin s4 I5 st4⟩)
  obtain ⟨z, its, k, r3, hl3, e3'⟩ := I5.lstM (s5 _ _ hq2)
  cases r3
  refine wpAny_bind (wpAny_rule ?_)
  refine wpAny_bind ?_
  show wpAny _ _ (updateSeq q0 (·.push .none) >>= fun _ => updateSeq q0 (·.pop)) _ _ _
  refine wpAny_bind (wpAny_updateSeq e3' rfl ?_)
  have I6 := I5.lset (f := (·.push Value.none)) (its' := [Value.none]) (ys := [.non]) (t' := s4.toks) (s5 _ _ hq2) e3' (by simp) (.cons rfl .nil) (by rw [List.length_singleton, sizeLine_eq]; decide)
  obtain ⟨z4, its4, k4, r4, hl4, e4⟩ := I6.lstM upd_same
  obtain ⟨u4, rfl, ru4⟩ := r4.one
  refine wpAny_updateSeq e4 rfl ?_ (by show 1 ≤ sizeLine; rw [sizeLine_eq]; decide) (by show 0 ≤ sizeLine + 1; exact Nat.zero_le _)
  refine wpAny_pure ⟨plainId_quiet PySem.F.plain_extend_loop _, ?_⟩
  have I7 := I6.lset (f := (·.pop)) (its := [u4]) (its' := []) (ys := []) (t' := s4.toks) upd_same e4 (by rfl) .nil (Nat.zero_le _)
  rw [upd_upd] at I7
  have hH : upd (ItX.dropH H4 it) q0 (.lst []) = ItX.dropH H4 it := by
    funext b
    by_cases hb : b = q0
    · rw [hb, upd_same, s5 _ _ hq2]
    · rw [upd_ne hb]
  rw [hH] at I7
  refine fin _ I7 ?_
  exact (st4.at fun o e => (Heap.get?_update_other _ (Obj.mapSeq _) (Ne.symm hni)).trans e).at fun o e => (Heap.get?_update_other _ (Obj.mapSeq _) (Ne.symm hni)).trans e
end
end Kx

namespace Kx
open PySem PySem.Spec PyProof.Rows L2
/-! ### a != b by an own __eq__, where the class has no __ne__ of its own -/
theorem ne_slot : Slot "object" "__ne__" "object.__ne__" := Slot.of (T := "object") (name := "__ne__") (owner := "object") (n := "__ne__") (by rw [typeLookup_type, builtinLookup_eq_fast]; kernel_rfl) (by decide +kernel) (by decide +kernel) (by decide +kernel) (.inl (by decide +kernel)) (by rw [isSubtype_type]; kernel_rfl)
structure Ne0 (K : PySem.W.Frag) (C : Addr) : Prop where
  at_ : PySem.W.findIn K (.ref C) "__ne__" = some (some (.builtin "object.__ne__"))
  top : PySem.W.mroIn K C (.type "object") = some true
section
variable {prog : Program} {w : World} {A : Around} {E : Value → Shared → Prop} {s : Shared} {K : PySem.W.Frag} {x C L f : Addr} {h₀ : Heap} {m : Str → Option Value} {ox : Obj} {od : Option Obj} {b : Value}
theorem ne_entry {Q : Fin → Shared → Prop} (X : K.In s.heap) (I : PySem.W.InstAt s.heap x ox C od) (he : PySem.W.findIn K (.ref C) "__eq__" = some (some (.ref f))) (hf : PySem.W.isFn K (.ref f) = true) (hu : A.units < cLine)
    (hcall : wpAny (model prog w) A (call (.ref f) [.ref x, b]) (fun v s' => ∃ k, v = .bool k ∧ Q (.done (.ret (.bool (!k)))) s') E s) :
    wpAny (model prog w) A (Builtin.«object.__ne__» ⟨[.ref x, b], []⟩) Q E s := by
  unfold Builtin.«object.__ne__»
  repeat (first
    | with_reducible refine wpAny_cRoomFor hu ?_
    | (refine wpAny_bind (m := callSpecialIfBound? (.ref x) (Str.ofString "__eq__") [b])
        (PySem.W.ifBound_K X I he hf (wpAny_mono hcall (fun r s' hr => by
          obtain ⟨k, rfl, hq⟩ := hr
          repeat (first | exact hq | exact wpAny_pure hq | exact wpAny_truthy_bool hq | (refine wpAny_bind (m := truthy (.bool _)) (wpAny_truthy_bool ?_)) | wp_step)) fun _ _ e => e)))
    | wp_step)
theorem ne_K {Q : Value → Shared → Prop} (hu : A.units + 1 < cLine) (X : K.In s.heap) (I : PySem.W.InstAt s.heap x ox C od) (hb : PySem.W.Looks (model prog w) s.heap (typeOf b) (.ref C)) (n : Ne0 K C)
    (he : PySem.W.findIn K (.ref C) "__eq__" = some (some (.ref f))) (hf : PySem.W.isFn K (.ref f) = true)
    (h : wpAny (model prog w) A.in1 (call (.ref f) [.ref x, b]) (fun v s' => ∃ k, v = .bool k ∧ Q (.bool (!k)) s') E s) : wpAny (model prog w) A (richCompare .NotEq (.ref x) b) Q E s := by
  have hi : PySem.W.Looks (model prog w) s.heap (isInstance (.ref x) (.type "object")) true := I.type.andThen (PySem.W.looks_mroIn X n.top)
  have one : wpAny (model prog w) A (tryCompare (.ref x) "__ne__" b) (fun r s' => ∃ v, r = some v ∧ Q v s') E s := by
    unfold tryCompare
    refine wpAny_bind ?_
    simp only [callSpecialIfBound?, bindSpecialIfBound?]
    refine wpAny_holding (wpAny_bind (wpAny_bind (wpAny_bind (I.type.here ((PySem.W.looks_findIn X n.at_).here ?_)))))
    simp only [ne_slot.bind]
    refine wpAny_bind (wpAny_askSetting (wpAny_ite ?_))
    have fin : wpAny (model prog w) A (call (.builtin "object.__ne__") ([.ref x] ++ [b]) >>= fun v => pure (some v)) (fun r s' => wpAny (model prog w) A (match r with | some .notImplemented | none => pure none | some v => pure (some v)) (fun r s' => ∃ v, r = some v ∧ Q v s') E s') E s := by
      refine wpAny_bind (wpAny_call (codeAny_call_builtin ne_slot.plain F.cmpEntry_ne (PySem.W.check_slot F.cmpKind_ne F.cmpSplit_ne hi (F.cmpArgs_ne _ _) (ne_entry (A := A.in1) X I he hf hu (wpAny_mono h (fun v s' hv => ?_) fun _ _ e => e)))))
      obtain ⟨k, rfl, hq⟩ := hv
      first
        | exact ⟨k, rfl, wpAny_pure (wpAny_pure ⟨_, rfl, hq⟩)⟩
        | exact ⟨k, rfl, wpAny_pure ⟨_, rfl, hq⟩⟩
    split
    · exact wpAny_bind (wpAny_pure (wpAny_pure fin))
    · exact wpAny_tryCatch (wpAny_bind (wpAny_pure (wpAny_pure fin)))
  unfold richCompare
  simp only [oneThing_ref]
  refine wpAny_holding (wpAny_bind (wpAny_cRoomFor (Nat.lt_of_succ_lt hu) ?_))
  refine wpAny_bind (I.type.here (wpAny_bind (hb.here ?_)))
  rw [show (Value.ref C != Value.ref C) = false from by simp]
  simp only [Bool.false_eq_true, if_false]
  refine wpAny_bind (wpAny_pure ?_)
  simp only [Bool.false_eq_true, if_false]
  refine wpAny_bind (wpAny_mono one (fun r s' z => ?_) fun _ _ e => e)
  obtain ⟨v, rfl, hq⟩ := z
  exact wpAny_pure hq
end
section
variable {X : Cx} {n : Nat} {C f : Addr} {fd : FuncData} {ps : List Str} {sp : Sp}
def rNeOwn (C : Addr) (sp : Sp) : R2 := fun x y H Q => ∃ a b dx dy fs gs, x = .ref a ∧ y = .ref b ∧ H a = some (.ins C dx fs) ∧ H b = some (.ins C dy gs) ∧ sp [.ref a, .ref b] H (fun r H' => ∃ k : Bool, r = .bl k ∧ Q (.bl (!k)) H') (fun _ _ _ => False)
theorem op_neOwn (F : FnOk X.prog X.w X.K X.mg X.base CX0 n f fd ps sp) (hr : Room (n + 1) X.A) (m : Own1 X.K C f "__eq__") (n0 : Ne0 X.K C) (hb : Binds X.K fd ps []) : OpR X (compareOp .NotEq) (rNeOwn C sp) := by
  intro pins s σ H x y v u Q I rx ry d
  obtain ⟨a, b, dx, dy, fs, gs, rfl, rfl, ha, hb', q⟩ := d
  cases rx
  cases ry
  obtain ⟨_, _, J⟩ := inst_look I ha
  obtain ⟨_, _, J'⟩ := inst_look I hb'
  show wpAny (model X.prog X.w) X.A (richCompare .NotEq (.ref a) (.ref b)) (EP X pins σ Q) X.xe s
  refine ne_K (show X.A.units + 1 < cLine by have := hr.un; omega) I.kIn J J'.type n0 m.at_ m.fn ?_
  have sb : Sub X n X.A.in1 := Sub.in1 (⟨hr, rfl⟩ : Sub X (n + 1) X.A)
  refine wpAny_mono (own_call0 F sb.room (env_sub sb I) hb I (xs := [.ref a, .ref b]) (.cons rfl (.cons rfl .nil)) q) (fun r s' e => ?_) fun _ _ e => e
  obtain ⟨z, H', I', rz, k, rfl, qz⟩ := e
  cases rz
  exact ⟨k, rfl, .bl _, H', I', rfl, qz⟩
end
end Kx

namespace Kx
open PySem PySem.Spec PyProof.Rows L2
section
variable {X : Cx}
/-- set(xs), xs a list or a tuple of ints -/
def rSetJ (K : PySem.W.Frag) (w : World) : List V → Hp → VK → Prop := fun xs H Q => ∃ (l : Addr) (ns : List Int), xs = [V.ref l] ∧ (SqL K H l (ns.map V.int) ∨ SqT K H l (ns.map V.int)) ∧ ns.length < 62 ∧
  ∀ a c, H a = none → c ≤ ns.length → Q (.ref a) (upd H a (SetO w a (fun j => decide (j ∈ ns)) c))
theorem cr_setJ (hc : X.calm = true) : CallR X (.type "set") (rSetJ X.K X.w) := by
  intro pins s σ H xs us Q I r h
  obtain ⟨l, ns, rfl, hq, few, q⟩ := h
  rw [Vals.ref1 r]
  have fin : ∀ (h' : Heap) (tk c : Nat), SetR X.w h' s.heap.objs.size (fun j => decide (j ∈ ns)) c → c ≤ ns.length → (∀ b o, s.heap.get? b = some o → h'.get? b = some o) → EP X pins σ Q (.ref s.heap.objs.size) { s with heap := h', toks := tk } := fun h' tk c R hcn k =>
    ⟨.ref s.heap.objs.size, upd H s.heap.objs.size (SetO X.w s.heap.objs.size (fun j => decide (j ∈ ns)) c), I.laid (t' := tk) k (Nat.le_refl _) (setO_new R), rfl, q _ c (I.hok.fresh (Nat.le_refl _)) hcn⟩
  have small : ns.length + 1 < scanBound := Nat.lt_trans (Nat.succ_lt_succ few) (by decide)
  rcases hq with hq | hq
  · obtain ⟨its, rv, pl, hz⟩ := I.list hq
    exact call_set_listI (P := X.prog) (w := X.w) ns (I.ok.hd hc) pl.isList (by simpa using ints_of_vals rv) small fin
  · obtain ⟨its, rv, pl, hz⟩ := I.tuple hq
    exact call_set_tupI (P := X.prog) (w := X.w) ns (I.ok.hd hc) pl (by simpa using ints_of_vals rv) small fin
end
end Kx

namespace Kx
open PySem PySem.Spec PyProof.Rows L2
/-! ### which error is due of a web, in plain Lean -/
def okPair (n : Int) (r : List Int) : Bool := match r with
  | [u, v] => decide ((0 ≤ u ∧ u < n) ∧ 0 ≤ v ∧ v < n)
  | _ => false
theorem okPair_iff {n : Int} {r : List Int} : okPair n r = true ↔ ∃ u v, r = [u, v] ∧ (0 ≤ u ∧ u < n) ∧ 0 ≤ v ∧ v < n := by
  unfold okPair
  split
  · rename_i u v
    rw [decide_eq_true_iff]
    exact ⟨fun h => ⟨u, v, rfl, h⟩, fun ⟨u', v', e, h⟩ => by cases e; exact h⟩
  · rename_i no
    exact ⟨(fun h => nomatch h), fun ⟨u, v, e, _⟩ => (no u v e).elim⟩
def firstIx (p : Nat → Bool) (n : Nat) : Option Nat := (List.range n).find? p
theorem firstIx_some {p : Nat → Bool} {n i : Nat} (h : i < n) (y : p i = true) (no : ∀ j, j < i → p j = false) : firstIx p n = some i := L2.find_range p h y no
theorem firstIx_none {p : Nat → Bool} {n : Nat} (no : ∀ j, j < n → p j = false) : firstIx p n = none := L2.find_range_none p no
theorem firstIx_none_iff {p : Nat → Bool} {n : Nat} : firstIx p n = none ↔ ∀ j, j < n → p j = false := by
  refine ⟨fun h j hj => ?_, firstIx_none⟩
  have := List.find?_eq_none.mp h j (List.mem_range.mpr hj)
  simpa using this
def badEdge (n : Int) (rs : List (List Int)) (i : Nat) : Bool := match rs[i]? with
  | some r => !okPair n r || decide (r ∈ rs.take i)
  | none => false
theorem badEdge_at {n : Int} {rs : List (List Int)} {i : Nat} {r : List Int} (h : rs[i]? = some r) : badEdge n rs i = (!okPair n r || decide (r ∈ rs.take i)) := by
  unfold badEdge
  rw [h]
def badExit (n : Int) (gs : List Int) (i : Nat) : Bool := match gs[i]? with
  | some x => !decide (0 ≤ x ∧ x < n)
  | none => false
theorem badExit_at {n : Int} {gs : List Int} {i : Nat} {x : Int} (h : gs[i]? = some x) : badExit n gs i = !decide (0 ≤ x ∧ x < n) := by
  unfold badExit
  rw [h]
def edgeOf (r : List Int) : Edge := (r.getD 0 0, r.getD 1 0)
def edgesOf (rs : List (List Int)) : List Edge := rs.map edgeOf
noncomputable def idleB (rs : List (List Int)) (e : Int) (gs : List Int) (i : Nat) : Bool := @decide (¬ (Reach (edgesOf rs) e (i : Int) ∧ ∃ x ∈ gs, Reach (edgesOf rs) (i : Int) x)) (Classical.propDecidable _)
theorem idleB_true {rs : List (List Int)} {e : Int} {gs : List Int} {i : Nat} : idleB rs e gs i = true ↔ ¬ (Reach (edgesOf rs) e (i : Int) ∧ ∃ x ∈ gs, Reach (edgesOf rs) (i : Int) x) := by
  unfold idleB
  exact @decide_eq_true_iff _ (Classical.propDecidable _)
theorem idleB_false {rs : List (List Int)} {e : Int} {gs : List Int} {i : Nat} : idleB rs e gs i = false ↔ Reach (edgesOf rs) e (i : Int) ∧ ∃ x ∈ gs, Reach (edgesOf rs) (i : Int) x := by
  rw [← Bool.not_eq_true, idleB_true, Classical.not_not]
/-- what a web of these parts leads to -/
inductive Res
  | places (v : Int)
  | edges (v : Int)
  | edge (v : Int)
  | entry (v : Int)
  | noExits
  | exit (v : Int)
  | idle (v : Int)
  | web
noncomputable def dueF (n : Int) (rs : List (List Int)) (e : Int) (gs : List Int) : Res :=
  if ¬ (1 ≤ n ∧ n ≤ 24) then .places n else
  if 80 < rs.length then .edges rs.length else
  match firstIx (badEdge n rs) rs.length with
  | some i => .edge i
  | none => if ¬ (0 ≤ e ∧ e < n) then .entry e else if gs = [] then .noExits else
    match firstIx (badExit n gs) gs.length with
    | some i => .exit (gs.getD i 0)
    | none => match firstIx (idleB rs e gs) n.toNat with
      | some i => .idle i
      | none => .web
theorem edgeOf_inj {n : Int} {a b : List Int} (ha : okPair n a = true) (hb : okPair n b = true) (h : edgeOf a = edgeOf b) : a = b := by
  obtain ⟨u, v, rfl, _⟩ := okPair_iff.mp ha
  obtain ⟨u', v', rfl, _⟩ := okPair_iff.mp hb
  have h1 : u = u' := (Prod.mk.inj h).1
  have h2 : v = v' := (Prod.mk.inj h).2
  rw [h1, h2]
/-- no bad edge: pairs of places, none twice -/
theorem rows_good {n : Int} {rs : List (List Int)} (h : firstIx (badEdge n rs) rs.length = none) : (∀ r ∈ rs, okPair n r = true) ∧ rs.Nodup := by
  have each := firstIx_none_iff.mp h
  have at_ : ∀ i r, rs[i]? = some r → okPair n r = true ∧ r ∉ rs.take i := fun i r e => by
    have q := each i (List.getElem?_eq_some_iff.mp e).1
    rw [badEdge_at e] at q
    simpa using q
  refine ⟨fun r hr => ?_, ?_⟩
  · obtain ⟨i, e⟩ := List.mem_iff_getElem?.mp hr
    exact (at_ i r e).1
  · refine List.pairwise_iff_getElem.mpr fun i j hi hj hij e => ?_
    refine (at_ j rs[j] (List.getElem?_eq_getElem hj)).2 ?_
    rw [← e]
    exact List.mem_take_iff_getElem.mpr ⟨i, by omega, rfl⟩
end Kx

namespace Kx
open PySem PySem.Spec PyProof.Rows L2
/-! ### how far a place lies from the goals, in plain Lean -/
def Near (es : List Edge) (gs : List Int) : Nat → Int → Prop
  | 0, v => v ∈ gs
  | k + 1, v => Near es gs k v ∨ ∃ w, (v, w) ∈ es ∧ Near es gs k w
theorem Near.up {es : List Edge} {gs : List Int} {v : Int} : ∀ {k j : Nat}, k ≤ j → Near es gs k v → Near es gs j v
  | k, 0, h, n => by
    have : k = 0 := by omega
    subst this
    exact n
  | k, j + 1, h, n => by
    by_cases e : k = j + 1
    · subst e
      exact n
    · exact .inl (Near.up (by omega) n)
theorem near_of_reach {es : List Edge} {gs : List Int} {v g : Int} (r : Reach es v g) (hg : g ∈ gs) : ∃ k, Near es gs k v := by
  induction r with
  | refl => exact ⟨0, hg⟩
  | step e _ ih =>
    obtain ⟨k, h⟩ := ih hg
    exact ⟨k + 1, .inr ⟨_, e, h⟩⟩
theorem least_of {P : Nat → Prop} : ∀ (n : Nat), P n → ∃ k, k ≤ n ∧ P k ∧ ∀ j, j < k → ¬ P j := by
  intro n
  induction n using Nat.strongRecOn with
  | ind n ih =>
    intro h
    by_cases q : ∃ j, j < n ∧ P j
    · obtain ⟨j, hj, pj⟩ := q
      obtain ⟨k, hk, pk, no⟩ := ih j hj pj
      exact ⟨k, by omega, pk, no⟩
    · exact ⟨n, Nat.le_refl _, h, fun j hj pj => q ⟨j, hj, pj⟩⟩
/-- a place at distance k exactly -/
def At (es : List Edge) (gs : List Int) (k : Nat) (v : Int) : Prop := Near es gs k v ∧ ∀ j, j < k → ¬ Near es gs j v
theorem At.inj {es : List Edge} {gs : List Int} {k j : Nat} {v : Int} (h : At es gs k v) (h' : At es gs j v) : k = j := by
  rcases Nat.lt_trichotomy k j with l | l | l
  · exact absurd h.1 (h'.2 k l)
  · exact l
  · exact absurd h'.1 (h.2 j l)
theorem At.next {es : List Edge} {gs : List Int} {k : Nat} {v : Int} (h : At es gs (k + 1) v) : ∃ w, (v, w) ∈ es ∧ At es gs k w := by
  rcases h.1 with z | ⟨w, e, nw⟩
  · exact absurd z (h.2 k (Nat.lt_succ_self k))
  · exact ⟨w, e, nw, fun j hj z => h.2 (j + 1) (by omega) (.inr ⟨w, e, z⟩)⟩
theorem At.chain {n : Nat} {es : List Edge} {gs : List Int} (rng : ∀ p ∈ es, 0 ≤ p.1 ∧ p.1 < (n : Int) ∧ 0 ≤ p.2 ∧ p.2 < (n : Int)) : ∀ (k : Nat) (v : Int), 0 ≤ v → v < (n : Int) → At es gs k v → ∃ l : List Int, l.length = k + 1 ∧ l.Nodup ∧ (∀ x ∈ l, 0 ≤ x ∧ x < (n : Int)) ∧ ∀ x ∈ l, ∃ j, j ≤ k ∧ At es gs j x
  | 0, v, v0, v1, h => ⟨[v], rfl, by simp, fun x hx => by rw [List.mem_singleton.mp hx]; exact ⟨v0, v1⟩, fun x hx => ⟨0, Nat.le_refl _, by rw [List.mem_singleton.mp hx]; exact h⟩⟩
  | k + 1, v, v0, v1, h => by
    obtain ⟨w, e, hw⟩ := h.next
    obtain ⟨_, _, w0, w1⟩ := rng _ e
    obtain ⟨l, ll, nd, rl, al⟩ := At.chain rng k w w0 w1 hw
    refine ⟨v :: l, by rw [List.length_cons, ll], List.nodup_cons.mpr ⟨fun m => ?_, nd⟩, fun x hx => ?_, fun x hx => ?_⟩
    · obtain ⟨j, hj, aj⟩ := al v m
      have := h.inj aj
      omega
    · rcases List.mem_cons.mp hx with rfl | hx
      · exact ⟨v0, v1⟩
      · exact rl x hx
    · rcases List.mem_cons.mp hx with rfl | hx
      · exact ⟨k + 1, Nat.le_refl _, h⟩
      · obtain ⟨j, hj, aj⟩ := al x hx
        exact ⟨j, by omega, aj⟩
theorem Good.at_ {n : Int} {es : List Edge} {e : Int} {gs : List Int} (g : Good n es e gs) {v : Int} (v0 : 0 ≤ v) (v1 : v < n) : ∃ k, k < n.toNat ∧ At es gs k v := by
  obtain ⟨x, hx, r⟩ := g.bwd v v0 v1
  obtain ⟨m, nm⟩ := near_of_reach r hx
  obtain ⟨k, _, hk, no⟩ := least_of (P := fun k => Near es gs k v) m nm
  have n0 := g.n1
  have en : ((n.toNat : Nat) : Int) = n := by omega
  obtain ⟨l, ll, nd, rl, _⟩ := At.chain (n := n.toNat) (fun p hp => by rw [en]; exact g.rng p hp) k v v0 (by omega) ⟨hk, no⟩
  have := rng_len nd rl
  exact ⟨k, by omega, hk, no⟩
noncomputable def nearB (es : List Edge) (gs : List Int) (v : Int) (k : Nat) : Bool := @decide (Near es gs k v) (Classical.propDecidable _)
theorem nearB_true {es : List Edge} {gs : List Int} {v : Int} {k : Nat} : nearB es gs v k = true ↔ Near es gs k v := by
  unfold nearB
  exact @decide_eq_true_iff _ (Classical.propDecidable _)
theorem nearB_false {es : List Edge} {gs : List Int} {v : Int} {k : Nat} : nearB es gs v k = false ↔ ¬ Near es gs k v := by
  rw [← Bool.not_eq_true, nearB_true]
/-- the number that _law_far tells -/
noncomputable def Lv (es : List Edge) (gs : List Int) (n : Nat) (v : Int) : Nat := (firstIx (nearB es gs v) n).getD n
theorem Lv_found {es : List Edge} {gs : List Int} {n i : Nat} {v : Int} (hi : i < n) (h : Near es gs i v) (no : ∀ j, j < i → ¬ Near es gs j v) : Lv es gs n v = i := by
  unfold Lv
  rw [firstIx_some hi (nearB_true.mpr h) fun j hj => nearB_false.mpr (no j hj)]
  rfl
theorem Lv_none {es : List Edge} {gs : List Int} {n : Nat} {v : Int} (no : ∀ j, j < n → ¬ Near es gs j v) : Lv es gs n v = n := by
  unfold Lv
  rw [firstIx_none fun j hj => nearB_false.mpr (no j hj)]
  rfl
theorem Good.lv {n : Int} {es : List Edge} {e : Int} {gs : List Int} (g : Good n es e gs) {v : Int} (v0 : 0 ≤ v) (v1 : v < n) : Lv es gs n.toNat v < n.toNat ∧ At es gs (Lv es gs n.toNat v) v := by
  obtain ⟨k, hk, h⟩ := g.at_ v0 v1
  have e := Lv_found hk h.1 h.2
  rw [e]
  exact ⟨hk, h⟩
/-- a place that is no goal has a next place that lies nearer -/
theorem Good.nearer {n : Int} {es : List Edge} {e : Int} {gs : List Int} (g : Good n es e gs) {v : Int} (v0 : 0 ≤ v) (v1 : v < n) (no : v ∉ gs) : ∃ w, (v, w) ∈ es ∧ Lv es gs n.toNat w < Lv es gs n.toNat v := by
  obtain ⟨_, h⟩ := g.lv v0 v1
  cases hk : Lv es gs n.toNat v with
  | zero =>
    rw [hk] at h
    exact absurd h.1 no
  | succ k =>
    rw [hk] at h
    obtain ⟨w, ew, aw⟩ := h.next
    obtain ⟨_, _, w0, w1⟩ := g.rng _ ew
    have w0 : 0 ≤ w := w0
    have w1 : w < n := w1
    have := (g.lv w0 w1).2.inj aw
    exact ⟨w, ew, by omega⟩
end Kx

/-! t[::-1] of a tuple -/
namespace Kx
open PySem PySem.Spec PyProof.Rows L2
section
variable {prog : Program} {w : World} {A : Around} {E : Value → Shared → Prop} {s : Shared}
theorem rev_places (n : Nat) : Builtin.Slice.slicePlaces ((n : Int) - 1) (-1) (-1) = n := by
  unfold Builtin.Slice.slicePlaces
  rw [if_neg (by decide)]
  by_cases h : (n : Int) - 1 > -1
  · rw [if_pos h, show (-(-1) : Int) = 1 by rfl, Int.ediv_one]
    omega
  · rw [if_neg h]
    omega
theorem rev_applied {sl : Addr} {vs : Value} {n : Nat} {Q : Int × Int × Nat → Shared → Prop} (hs : s.heap.IsSliceOf sl .none .none vs) (ps : IsPart vs (some (-1))) (h : Q ((n : Int) - 1, -1, n) s) :
    wpAny (model prog w) A (Builtin.Slice.sliceApplied (.ref sl) (pure (n : Int))) Q E s := by
  obtain ⟨os, hos, hcs, hds⟩ := id hs
  unfold Builtin.Slice.sliceApplied Builtin.Slice.sliceFields
  refine wpAny_bind (wpAny_bind (wpAny_field hos hds (x := .none) rfl (wpAny_bind (wpAny_field hos hds (x := .none) rfl (wpAny_bind (wpAny_field hos hds (x := vs) rfl (wpAny_pure ?_)))))))
  refine wpAny_bind (HT.slicePart_ ps ?_)
  show wpAny _ _ (if ((-1 : Int) == 0) = true then _ else _) _ _ s
  rw [if_neg (by decide)]
  refine wpAny_bind (slicePart_none (wpAny_bind (slicePart_none (wpAny_bind (wpAny_pure ?_)))))
  show wpAny _ _ (pure ((n : Int) - 1, (-1 : Int), Builtin.Slice.slicePlaces ((n : Int) - 1) (-1) (-1))) _ _ s
  rw [rev_places]
  exact wpAny_pure h
theorem rev_pick (xs : Array Value) : ((List.range xs.size).filterMap fun (k : Nat) => xs[((xs.size : Int) - 1 + (k : Int) * (-1)).toNat]?).toArray = xs.toList.reverse.toArray := by
  congr 1
  have e : ∀ k ∈ List.range xs.size, xs[((xs.size : Int) - 1 + (k : Int) * (-1)).toNat]? = some (xs.toList.reverse[k]?.getD .none) := fun k hk => by
    have lt := List.mem_range.mp hk
    have l2 : k < xs.toList.reverse.length := by rw [List.length_reverse, Array.length_toList]; exact lt
    have l3 : k < xs.toList.length := by rw [Array.length_toList]; exact lt
    rw [List.getElem?_eq_getElem l2, List.getElem_reverse, show ((xs.size : Int) - 1 + (k : Int) * (-1)).toNat = xs.size - 1 - k by omega, Array.getElem?_eq_getElem (by omega)]
    simp [Array.getElem_toList]
  have cg : ∀ (l : List Nat), (∀ k ∈ l, xs[((xs.size : Int) - 1 + (k : Int) * (-1)).toNat]? = some (xs.toList.reverse[k]?.getD .none)) → (l.filterMap fun (k : Nat) => xs[((xs.size : Int) - 1 + (k : Int) * (-1)).toNat]?) = l.map fun k => xs.toList.reverse[k]?.getD .none := fun l h => by
    induction l with
    | nil => rfl
    | cons a r ih =>
      rw [List.filterMap_cons, h a List.mem_cons_self, List.map_cons, ih fun k hk => h k (List.mem_cons_of_mem _ hk)]
  rw [cg _ e]
  apply List.ext_getElem?
  intro i
  rw [List.getElem?_map]
  by_cases h : i < xs.size
  · rw [List.getElem?_range h]
    have l2 : i < xs.toList.reverse.length := by rw [List.length_reverse, Array.length_toList]; exact h
    rw [Option.map_some, List.getElem?_eq_getElem l2]
    rfl
  · rw [List.getElem?_eq_none (by rw [List.length_range]; omega), List.getElem?_eq_none (by rw [List.length_reverse, Array.length_toList]; omega)]
    rfl
theorem tup_rev {t sl : Addr} {items : Array Value} {vs : Value} {Q : Value → Shared → Prop} (ht : IsTup s.heap t items) (hs : s.heap.IsSliceOf sl .none .none vs) (ps : IsPart vs (some (-1)))
    (h : Q (.ref s.heap.objs.size) { s with heap := s.heap.push { cls := .type "tuple", data := .seq items.toList.reverse.toArray } }) (hz : items.size ≤ sizeLine) : wpAny (model prog w) A (getItem (.ref t) (.ref sl)) Q E s := by
  have hsz : sizeOk (.seq items.toList.reverse.toArray) := by
    show items.toList.reverse.toArray.size ≤ sizeLine
    rw [List.size_toArray, List.length_reverse, Array.length_toList]
    exact hz
  obtain ⟨os, hos, hcs, hds⟩ := id hs
  have hTs : s.TypeIs (.ref sl) "slice" := ⟨os, hos, hcs⟩
  unfold getItem
  try with_reducible refine wpAny_holding ?_
  first | refine wpAny_bind (wpAny_pure ?_) | skip
  refine wpAny_bind (wpAny_sequenceKey ht.typeIs (by decide) ?_)
  refine wpAny_bind (wpAny_callSpecial?_slot (name := Str.ofString "__getitem__") ht.typeIs PyProof.Rows.slot_tuple_getitem (wpAny_call_entry PyProof.Rows.slot_tuple_getitem ht.typeIs entry_tuple_getitem ?_ (args_tuple_getitem _ _)))
  show wpAny _ _ (Builtin.Tuple.tupleItemsOf (.ref t) >>= _) _ _ s
  refine wpAny_bind (tupleItemsOf_ ht ?_)
  refine wpAny_bind (wpAny_typeOf hTs ?_)
  rw [if_pos (by decide)]
  refine wpAny_bind (rev_applied hs ps ?_)
  have hno : ¬ ((((items.size : Int) - 1) == 0 && (-1 : Int) == 1 && items.size == items.size) = true) := by
    rw [show ((-1 : Int) == 1) = false from rfl, Bool.and_false, Bool.false_and]
    exact Bool.false_ne_true
  show wpAny _ _ (if (((items.size : Int) - 1) == 0 && (-1 : Int) == 1 && items.size == items.size) = true then _ else _) _ _ s
  rw [if_neg hno, rev_pick]
  first
    | exact wpAny_bind (m := Builtin.Tuple.tupleExact _) (wpAny_newObj_type (wpAny_pure ⟨_, rfl, wpAny_pure h⟩) hsz)
    | exact wpAny_bind (m := Builtin.Tuple.tupleExact _) (wpAny_newObj_type (wpAny_bind (wpAny_pure (wpAny_pure ⟨_, rfl, wpAny_pure h⟩))) hsz)
    | exact wpAny_bind (wpAny_bind (m := Builtin.Tuple.tupleExact _) (wpAny_newObj_type (wpAny_pure (wpAny_pure ⟨_, rfl, wpAny_pure h⟩)) hsz))
    | exact wpAny_bind (wpAny_bind (m := Builtin.Tuple.tupleExact _) (wpAny_newObj_type (wpAny_pure ⟨_, rfl, wpAny_pure h⟩) hsz))
end
section
variable {X : Cx} {e st : Expr} {te : TE} {ts : TO} {pos p2 : Pos}
def tRevT (K : PySem.W.Frag) (te : TE) (ts : TO) : TE := fun σ H Q => te σ H fun x H1 => ts σ H1 fun l H2 => ∃ a xs, x = .ref a ∧ l = some (-1) ∧ SqT K H2 a xs ∧ ∀ p, H2 p = none → Q (.ref p) (upd H2 p (.tup xs.reverse))
theorem pe_sliceRevT (he : PE X e te) (hs : PO X (some st) ts) (hsub : ∀ a b : Addr, subscripted (.Slice none none (some st) p2) false (.ref a) (.ref b) = operate [.ref a, .ref b] (getItem (.ref a) (.ref b)) := by intro _ _; with_unfolding_all rfl) : PE X (.Subscript e (.Slice none none (some st) p2) pos) (tRevT X.K te ts) := by
  refine ⟨fun pins s σ H Q I h => ?_⟩
  refine Subscript_ (thn (he.run pins s σ H _ I h) fun v s1 ⟨x, H1, I1, r1, q1⟩ => ?_)
  refine wpAny_Slice ?_
  rw [evalPart_none]
  refine wpAny_pure (wpAny_pure (thn (hs.run pins s1 σ H1 _ I1 q1) fun vs s3 ⟨u, H3, I3, pu, q3⟩ => ?_))
  obtain ⟨a, xs, ex, eu, hx, q⟩ := q3
  subst ex
  subst eu
  cases r1
  have I4 : Inv X pins σ H3 { s3 with heap := s3.heap.push { cls := .type "slice", data := .fields #[.none, .none, vs] } } := I3.kept (t' := s3.toks) fun b ob q => Heap.get?_push_of_some _ q
  obtain ⟨its, r, ht, hz⟩ := I4.tuple hx
  have hlen := r.length
  refine tail_any (ops := [.ref a, .ref s3.heap.objs.size]) (T := "tuple") ht.typeIs PyProof.Rows.slot_tuple_getitem.lookup ?_ (hsub _ _)
  refine tup_rev ht (Heap.IsSliceOf.new ..) pu ?_ (by rw [List.size_toArray]; omega)
  refine ⟨.ref _, _, I4.laid (t' := s3.toks) (o := .tup xs.reverse) (fun b ob q => Heap.get?_push_of_some _ q) (Nat.le_refl _) ?_, rfl, q _ (I4.hok.fresh (Nat.le_refl _))⟩
  exact ⟨by rw [List.length_reverse]; exact hz, its.reverse, r.reverse, IsTup.new _ _⟩
end
end Kx

namespace Kx
open PySem PySem.Spec PyProof.Rows L2
def top (i : Nat) : Stmt := PySem.Challenge.pw_savedseats_k11_whole_webs_turned_about.main.body.getD i (.Pass ⟨0, 0, 0, 0⟩)

/-- a def of the text, by its address: its promise and how its arguments bind -/
def Okd (P : Program) (w : World) (K : PySem.W.Frag) (mg : Str → Option Value) (base : Heap) (CX : CXT) (k : Nat) (f : Addr) (ps : List Str) (sp : Sp) : Prop := ∃ fd, FnOk P w K mg base CX k f fd ps sp ∧ Binds K fd ps []
/-- the script's list: read, never written -/
def Scr (K : PySem.W.Frag) (H : Hp) (a : Addr) (ns : List Int) : Prop := (∃ o, H a = some (.frz o (.lst (ns.map V.int)))) ∨
  ∃ (o : Obj) (its : Array Value) (n : Nat), K.lookup a = some o ∧ o.cls = .type "list" ∧ o.dict = none ∧ o.data = .seq its n ∧ its.size ≤ sizeLine ∧ Vals (ns.map V.int) its.toList
theorem Scr.sq {K : PySem.W.Frag} {H : Hp} {a : Addr} {ns : List Int} (h : Scr K H a ns) : SqL K H a (ns.map V.int) := by
  rcases h with ⟨o, h⟩ | h
  · exact .inl (.inr ⟨o, h⟩)
  · exact .inr h
theorem Scr.of {K : PySem.W.Frag} {H : Hp} {a : Addr} {ns : List Int} (hO : Only H) (h : SqL K H a (ns.map V.int)) : Scr K H a ns := by
  rcases h with (h | ⟨o, h⟩) | h
  · rcases hO a with e | ⟨o, xs, e⟩
    · rw [h] at e; cases e
    · rw [h] at e; cases e
  · exact .inl ⟨o, h⟩
  · exact .inr h
/-- what is read only stands -/
def Frz (H H' : Hp) : Prop := ∀ b o u, H b = some (.frz o u) → H' b = some (.frz o u)
theorem Frz.refl (H : Hp) : Frz H H := fun _ _ _ h => h
theorem Frz.trans {H H1 H2 : Hp} (a : Frz H H1) (b : Frz H1 H2) : Frz H H2 := fun c o u h => b c o u (a c o u h)
theorem Frz.same {H H' : Hp} (s : Same H H') : Frz H H' := fun b o u h => s b _ h
theorem Frz.upd {H : Hp} {p : Addr} {x : HO} (n : ∀ o u, H p ≠ some (.frz o u)) : Frz H (upd H p x) := fun b o u h => by
  rw [upd_ne (fun e => by subst e; exact n o u h)]
  exact h
theorem nfz_none {H : Hp} {p : Addr} (h : H p = none) : ∀ o u, H p ≠ some (.frz o u) := fun o u e => by rw [h] at e; cases e
theorem nfz_lst {H : Hp} {p : Addr} {xs : List V} (h : H p = some (.lst xs)) : ∀ o u, H p ≠ some (.frz o u) := fun o u e => by rw [h] at e; cases e
theorem Scr.keep {K : PySem.W.Frag} {H H' : Hp} {a : Addr} {ns : List Int} (h : Scr K H a ns) (f : Frz H H') : Scr K H' a ns := by
  rcases h with ⟨o, h⟩ | h
  · exact .inl ⟨o, f _ _ _ h⟩
  · exact .inr h
/-- the pool at p, with room for b draws more -/
def PoolAt (K : PySem.W.Frag) (H : Hp) (p : Addr) (b : Nat) : Prop := ∃ (a : Addr) (ns : List Int) (n i r m : Int), Scr K H a ns ∧ H p = some (.lst [.ref a, .int n, .int i, .int r, .int m]) ∧
  0 ≤ n ∧ n + (b : Int) ≤ 1000000000000 ∧ 0 ≤ i ∧ 0 ≤ r ∧ 0 ≤ m ∧ m < 2147483629
theorem PoolAt.less {K : PySem.W.Frag} {H : Hp} {p : Addr} {b c : Nat} (h : PoolAt K H p b) (l : c ≤ b) : PoolAt K H p c := by
  obtain ⟨a, ns, n, i, r, m, h1, h2, h3, h4, h6⟩ := h
  exact ⟨a, ns, n, i, r, m, h1, h2, h3, by omega, h6⟩
theorem PoolAt.keep {K : PySem.W.Frag} {H H' : Hp} {p : Addr} {b : Nat} (h : PoolAt K H p b) (hp : ∀ o, H p = some o → H' p = some o) (f : Frz H H') : PoolAt K H' p b := by
  obtain ⟨a, ns, n, i, r, m, h1, h2, h3⟩ := h
  exact ⟨a, ns, n, i, r, m, h1.keep f, hp _ h2, h3⟩
theorem PoolAt.same {K : PySem.W.Frag} {H H' : Hp} {p : Addr} {b : Nat} (h : PoolAt K H p b) (s : Same H H') : PoolAt K H' p b := h.keep (fun o e => s _ _ e) (.same s)
theorem PoolAt.new {K : PySem.W.Frag} {H : Hp} {p q : Addr} {b : Nat} {x : HO} (h : PoolAt K H p b) (n : H q = none) : PoolAt K (upd H q x) p b :=
  h.keep (fun o e => by rw [upd_ne (ne_of_none e n)]; exact e) (.upd (nfz_none n))
theorem PoolAt.set {K : PySem.W.Frag} {H : Hp} {p q : Addr} {b : Nat} {x : HO} {xs : List V} (h : PoolAt K H p b) (n : H q = some (.lst xs)) (ne : q ≠ p) : PoolAt K (upd H q x) p b :=
  h.keep (fun o e => by rw [upd_ne ne.symm]; exact e) (.upd (nfz_lst n))
theorem PoolAt.ne_new {K : PySem.W.Frag} {H : Hp} {p q : Addr} {b : Nat} (h : PoolAt K H p b) (n : H q = none) : q ≠ p := fun e => by
  obtain ⟨_, _, _, _, _, _, _, h2, _⟩ := h
  rw [e, h2] at n
  cases n
/-- what stood beside the pool stands -/
def But (p : Addr) (H H' : Hp) : Prop := (∀ b, b ≠ p → H' b = H b) ∧ (H' p).isSome = true
theorem But.trans {p : Addr} {H H1 H2 : Hp} (a : But p H H1) (b : But p H1 H2) : But p H H2 := ⟨fun c h => (b.1 c h).trans (a.1 c h), b.2⟩
theorem But.of {p : Addr} {H : Hp} {o : HO} : But p H (upd H p o) := ⟨fun _ h => upd_ne h, by rw [upd_same]; rfl⟩
def spPool (K : PySem.W.Frag) : Sp := fun vs H Q _ => ∃ (a : Addr) (ns : List Int), vs = [.ref a] ∧ Scr K H a ns ∧ ∀ (H' : Hp) (p : Addr), H p = none → PoolAt K H' p 1000000000000 → (∃ o, H' = upd H p o) → Q (.ref p) H'
/-- draw(pool, limit): a number from 0 to below the limit; one draw less -/
def spDraw (K : PySem.W.Frag) : Sp := fun vs H Q _ => ∃ (p : Addr) (b : Nat) (lim : Int), vs = [.ref p, .int lim] ∧ PoolAt K H p (b + 1) ∧ 0 < lim ∧ lim.natAbs < 2 ^ 200 ∧
  ∀ (H' : Hp) (d : Int), 0 ≤ d → d < lim → PoolAt K H' p b → But p H H' → Q (.int d) H'
structure TxDraw (mg : Str → Option Value) : Prop where
  n_len : mg "len" = none
  n_abs : mg "abs" = none
  n_int : mg "int" = none
theorem ix_there {xs : List V} {i : Int} (h0 : 0 ≤ i) (h1 : i < xs.length) : ∃ v, atI xs i = some v ∧ v ∈ xs := by
  obtain ⟨j, rfl⟩ : ∃ j : Nat, i = (j : Int) := ⟨i.toNat, by omega⟩
  have hj : j < xs.length := by omega
  exact ⟨xs[j], atI_nat (List.getElem?_eq_getElem hj), List.getElem_mem hj⟩
/-- the property gates, its getter -/
def wP (K : PySem.W.Frag) : Addr := He.ma K (He.ga K "Web") "gates"
def wG (K : PySem.W.Frag) : Addr := match PySem.W.recIn K (wP K) "property" with
  | some (.ref g :: _) => g
  | _ => 0
structure TxW (K : PySem.W.Frag) (mg : Str → Option Value) : Prop where
  g__wall : mg "_wall" = some (.ref (He.ga K "_wall"))
  k__wall : PySem.W.keepIn K (.ref (He.ga K "_wall")) = true
  g_is_number : mg "is_number" = some (.ref (He.ga K "is_number"))
  k_is_number : PySem.W.keepIn K (.ref (He.ga K "is_number")) = true
  g_is_below : mg "is_below" = some (.ref (He.ga K "is_below"))
  k_is_below : PySem.W.keepIn K (.ref (He.ga K "is_below")) = true
  g_check_lot : mg "check_lot" = some (.ref (He.ga K "check_lot"))
  k_check_lot : PySem.W.keepIn K (.ref (He.ga K "check_lot")) = true
  g_places_of : mg "places_of" = some (.ref (He.ga K "places_of"))
  k_places_of : PySem.W.keepIn K (.ref (He.ga K "places_of")) = true
  g_gate_pairs : mg "gate_pairs" = some (.ref (He.ga K "gate_pairs"))
  k_gate_pairs : PySem.W.keepIn K (.ref (He.ga K "gate_pairs")) = true
  g_check_places : mg "check_places" = some (.ref (He.ga K "check_places"))
  k_check_places : PySem.W.keepIn K (.ref (He.ga K "check_places")) = true
  g_check_edges : mg "check_edges" = some (.ref (He.ga K "check_edges"))
  k_check_edges : PySem.W.keepIn K (.ref (He.ga K "check_edges")) = true
  g_is_pair : mg "is_pair" = some (.ref (He.ga K "is_pair"))
  k_is_pair : PySem.W.keepIn K (.ref (He.ga K "is_pair")) = true
  g_check_entry : mg "check_entry" = some (.ref (He.ga K "check_entry"))
  k_check_entry : PySem.W.keepIn K (.ref (He.ga K "check_entry")) = true
  g_check_exits : mg "check_exits" = some (.ref (He.ga K "check_exits"))
  k_check_exits : PySem.W.keepIn K (.ref (He.ga K "check_exits")) = true
  g_check_idle : mg "check_idle" = some (.ref (He.ga K "check_idle"))
  k_check_idle : PySem.W.keepIn K (.ref (He.ga K "check_idle")) = true
  g_reached : mg "reached" = some (.ref (He.ga K "reached"))
  k_reached : PySem.W.keepIn K (.ref (He.ga K "reached")) = true
  g_placing_of : mg "placing_of" = some (.ref (He.ga K "placing_of"))
  k_placing_of : PySem.W.keepIn K (.ref (He.ga K "placing_of")) = true
  g_marked_gates : mg "marked_gates" = some (.ref (He.ga K "marked_gates"))
  k_marked_gates : PySem.W.keepIn K (.ref (He.ga K "marked_gates")) = true
  g__law_pool : mg "_law_pool" = some (.ref (He.ga K "_law_pool"))
  k__law_pool : PySem.W.keepIn K (.ref (He.ga K "_law_pool")) = true
  g__law_draw : mg "_law_draw" = some (.ref (He.ga K "_law_draw"))
  k__law_draw : PySem.W.keepIn K (.ref (He.ga K "_law_draw")) = true
  g__law_ahead : mg "_law_ahead" = some (.ref (He.ga K "_law_ahead"))
  k__law_ahead : PySem.W.keepIn K (.ref (He.ga K "_law_ahead")) = true
  g__law_web : mg "_law_web" = some (.ref (He.ga K "_law_web"))
  k__law_web : PySem.W.keepIn K (.ref (He.ga K "_law_web")) = true
  g__law_made : mg "_law_made" = some (.ref (He.ga K "_law_made"))
  k__law_made : PySem.W.keepIn K (.ref (He.ga K "_law_made")) = true
  g__law_way : mg "_law_way" = some (.ref (He.ga K "_law_way"))
  k__law_way : PySem.W.keepIn K (.ref (He.ga K "_law_way")) = true
  g__law_far : mg "_law_far" = some (.ref (He.ga K "_law_far"))
  k__law_far : PySem.W.keepIn K (.ref (He.ga K "_law_far")) = true
  g__law_some : mg "_law_some" = some (.ref (He.ga K "_law_some"))
  k__law_some : PySem.W.keepIn K (.ref (He.ga K "_law_some")) = true
  g__law_moved : mg "_law_moved" = some (.ref (He.ga K "_law_moved"))
  k__law_moved : PySem.W.keepIn K (.ref (He.ga K "_law_moved")) = true
  g__law_turned_fits : mg "_law_turned_fits" = some (.ref (He.ga K "_law_turned_fits"))
  k__law_turned_fits : PySem.W.keepIn K (.ref (He.ga K "_law_turned_fits")) = true
  g__law_renamed_fits : mg "_law_renamed_fits" = some (.ref (He.ga K "_law_renamed_fits"))
  k__law_renamed_fits : PySem.W.keepIn K (.ref (He.ga K "_law_renamed_fits")) = true
  g_law : mg "law" = some (.ref (He.ga K "law"))
  k_law : PySem.W.keepIn K (.ref (He.ga K "law")) = true
  c_MOST_PLACES : ∃ t, mg "MOST_PLACES" = some (.int 24 t)
  c_MOST_EDGES : ∃ t, mg "MOST_EDGES" = some (.int 80 t)
  c_OUTSIDE : ∃ t, mg "OUTSIDE" = some (.int (-1) t)
  n_len : mg "len" = none
  n_isinstance : mg "isinstance" = none
  n_int : mg "int" = none
  n_bool : mg "bool" = none
  n_list : mg "list" = none
  n_tuple : mg "tuple" = none
  n_set : mg "set" = none
  n_enumerate : mg "enumerate" = none
  n_range : mg "range" = none
  n_sorted : mg "sorted" = none
  n_iter : mg "iter" = none
  n_all : mg "all" = none
  n_min : mg "min" = none
  g_Web : mg "Web" = some (.ref (He.ga K "Web"))
  cl_Web : Cls K (He.ga K "Web")
  mk_Web : Mk K (He.ga K "Web") (He.ma K (He.ga K "Web") "__init__")
  ins_Web : C8.InsC K (He.ga K "Web")
  eq_Web : PySem.W.findIn K (.ref (He.ga K "Web")) "__eq__" = some (some (.ref (He.ma K (He.ga K "Web") "__eq__")))
  eqf_Web : PySem.W.isFn K (.ref (He.ma K (He.ga K "Web") "__eq__")) = true
  pr_gates : PropOf K (He.ga K "Web") "gates" (wP K) (wG K)
  g_BadExit : mg "BadExit" = some (.ref (He.ga K "BadExit"))
  x_BadExit : PySem.W.exmOne K (.ref (He.ga K "BadExit")) (.ref (He.ga K "BadExit")) = some true
  g_BadWay : mg "BadWay" = some (.ref (He.ga K "BadWay"))
  s_BadWay : PySem.W.subIn K (.ref (He.ga K "BadWay")) (.type "StopIteration") = some false
  x_BadWay : PySem.W.exmOne K (.ref (He.ga K "BadWay")) (.ref (He.ga K "BadWay")) = some true
  na_places : NoAttr K (He.ga K "Web") "places"
  na_edges : NoAttr K (He.ga K "Web") "edges"
  na_entry : NoAttr K (He.ga K "Web") "entry"
  na_exits : NoAttr K (He.ga K "Web") "exits"
  m_ends : Meth K (He.ga K "Web") "ends" (He.ma K (He.ga K "Web") "ends")
  m_gate_in : Meth K (He.ga K "Web") "gate_in" (He.ma K (He.ga K "Web") "gate_in")
  m_gate_out : Meth K (He.ga K "Web") "gate_out" (He.ma K (He.ga K "Web") "gate_out")

/-! ### edges and exits as objects -/
def EdgesAt (H : Hp) (ea : Addr) (L : List (Addr × Edge)) : Prop := H ea = some (.lst (L.map fun p => V.ref p.1)) ∧ ∀ p ∈ L, Qa H p.1 [.int p.2.1, .int p.2.2]
theorem EdgesAt.same {H H' : Hp} {ea : Addr} {L : List (Addr × Edge)} (h : EdgesAt H ea L) (s : Same H H') : EdgesAt H' ea L := ⟨s _ _ h.1, fun p hp => (h.2 p hp).same s⟩
abbrev pairs (L : List (Addr × Edge)) : List Edge := L.map (·.2)
theorem edge_at {H : Hp} {ea : Addr} {L : List (Addr × Edge)} (h : EdgesAt H ea L) {i : Nat} {v : V} (e : (L.map fun p => V.ref p.1)[i]? = some v) : ∃ t u z, v = .ref t ∧ L[i]? = some (t, u, z) ∧ Qa H t [.int u, .int z] ∧ (pairs L)[i]? = some (u, z) := by
  rw [List.getElem?_map] at e
  cases q : L[i]? with
  | none => rw [q] at e; cases e
  | some p =>
    rw [q] at e
    obtain ⟨t, u, z⟩ := p
    refine ⟨t, u, z, (Option.some.inj e).symm, rfl, h.2 _ (List.mem_of_getElem? q), ?_⟩
    rw [List.getElem?_map, q]
    rfl
theorem int_at {xs : List Int} {i : Nat} {v : V} (e : (xs.map V.int)[i]? = some v) : ∃ z, xs[i]? = some z ∧ v = .int z := by
  rw [List.getElem?_map] at e
  cases q : xs[i]? with
  | none => rw [q] at e; cases e
  | some z =>
    rw [q] at e
    exact ⟨z, rfl, (Option.some.inj e).symm⟩
/-! ### promises of the checks -/
def spIsNum : Sp := fun vs H Q _ => ∃ i : Int, vs = [.int i] ∧ Q (.bl true) H
def spBelow : Sp := fun vs H Q _ => ∃ i n : Int, vs = [.int i, .int n] ∧ Q (.bl (decide (0 ≤ i ∧ i < n))) H
def spChkPlaces : Sp := fun vs H Q _ => ∃ n : Int, vs = [.int n] ∧ 1 ≤ n ∧ n ≤ 24 ∧ Q .non H
def spIsPair : Sp := fun vs H Q _ => ∃ (n : Int) (e : Addr) (u v : Int), vs = [.int n, .ref e] ∧ Qa H e [.int u, .int v] ∧ ∀ H', Same H H' → Q (.bl (decide ((0 ≤ u ∧ u < n) ∧ 0 ≤ v ∧ v < n))) H'
def spChkEdges : Sp := fun vs H Q _ => ∃ (n : Int) (ea : Addr) (L : List (Addr × Edge)), vs = [.int n, .ref ea] ∧ EdgesAt H ea L ∧ L.length < 60 ∧ (pairs L).Nodup ∧ (∀ p ∈ pairs L, 0 ≤ p.1 ∧ p.1 < n ∧ 0 ≤ p.2 ∧ p.2 < n) ∧ ∀ H', Same H H' → Q .non H'
def spChkEntry : Sp := fun vs H Q _ => ∃ n e : Int, vs = [.int n, .int e] ∧ 0 ≤ e ∧ e < n ∧ Q .non H
def spChkExits : Sp := fun vs H Q _ => ∃ (n : Int) (xa : Addr) (xs : List Int), vs = [.int n, .ref xa] ∧ Qa H xa (xs.map V.int) ∧ xs ≠ [] ∧ (∀ x ∈ xs, 0 ≤ x ∧ x < n) ∧ Q .non H
def spReached : Sp := fun vs H Q _ => ∃ (ea sa : Addr) (L : List (Addr × Edge)) (ss : List Int), vs = [.ref ea, .ref sa] ∧ EdgesAt H ea L ∧ Qa H sa (ss.map V.int) ∧ L.length ≤ 1000 ∧ ss.length ≤ 1000 ∧
  ∀ (H' : Hp) (D : Addr) (S : List Int), Same H H' → H' D = some (.dK (dS S)) → (∀ v, v ∈ S ↔ ∃ s ∈ ss, Reach (pairs L) s v) → Q (.ref D) H'
/-- but for w0 all stays -/
def But1 (w0 : Addr) (H H' : Hp) : Prop := ∀ b o, b ≠ w0 → H b = some o → H' b = some o
theorem But1.trans {w0 : Addr} {H H1 H2 : Hp} (a : But1 w0 H H1) (b : But1 w0 H1 H2) : But1 w0 H H2 := fun c o n e => b c o n (a c o n e)
theorem But1.of {w0 : Addr} {H H' : Hp} (s : Same H H') : But1 w0 H H' := fun b o _ e => s b o e
theorem But1.set {w0 : Addr} {H : Hp} {o : HO} : But1 w0 H (upd H w0 o) := fun b u n e => by rw [upd_ne n]; exact e
structure WebAt (K : PySem.W.Frag) (H : Hp) (wa : Addr) (n : Int) (es : List Edge) (e : Int) (ys : List Int) : Prop where
  few : es.length < 200 ∧ ys.length < 200
  at_ : ∃ (dx te tx : Addr) (M : List (Addr × Edge)) (ot : Obj), H wa = some (.ins (He.ga K "Web") dx [("places", .int n), ("edges", .ref te), ("entry", .int e), ("exits", .ref tx)]) ∧ H te = some (.tup (M.map fun p => V.ref p.1)) ∧ (∀ p ∈ M, H p.1 = some (.tup [.int p.2.1, .int p.2.2])) ∧ pairs M = es ∧ H tx = some (.frz ot (.tup (ys.map V.int))) ∧ ot.cls = .type "tuple" ∧ ot.dict = none
theorem WebAt.same {K : PySem.W.Frag} {H H' : Hp} {wa : Addr} {n : Int} {es : List Edge} {e : Int} {ys : List Int} (h : WebAt K H wa n es e ys) (s : Same H H') : WebAt K H' wa n es e ys := by
  obtain ⟨dx, te, tx, M, ot, h1, h2, h3, h4, h5, h6⟩ := h.at_
  exact ⟨h.few, dx, te, tx, M, ot, s _ _ h1, s _ _ h2, fun p hp => s _ _ (h3 p hp), h4, s _ _ h5, h6⟩
def spWebInit (K : PySem.W.Frag) : Sp := fun vs H Q _ => ∃ (w0 dx : Addr) (n e : Int) (ea xa : Addr) (L : List (Addr × Edge)) (xs : List Int), vs = [.ref w0, .int n, .ref ea, .int e, .ref xa] ∧ H w0 = some (.ins (He.ga K "Web") dx []) ∧ EdgesAt H ea L ∧ Qa H xa (xs.map V.int) ∧ Good n (pairs L) e xs ∧
  ∀ (H' : Hp) (ys : List Int), But1 w0 H H' → WebAt K H' w0 n (pairs L) e ys → ys.Pairwise (· < ·) → (∀ k, k ∈ ys ↔ k ∈ xs) → Q .non H'
def allG (es : List Edge) (e : Int) (ys : List Int) : List Edge := es ++ (-1, e) :: ys.map fun y => (y, -1)
theorem allG_len (es : List Edge) (e : Int) (ys : List Int) : (allG es e ys).length = es.length + 1 + ys.length := by
  unfold allG
  rw [List.length_append, List.length_cons, List.length_map]
  omega
def gateAt (es : List Edge) (e : Int) (ys : List Int) (g : Int) : Option Edge := if 0 ≤ g then (allG es e ys)[g.toNat]? else none
def spWebEq (K : PySem.W.Frag) : Sp := fun vs H Q _ => ∃ (a b : Addr) (n n' e e' : Int) (es es' : List Edge) (ys ys' : List Int), vs = [.ref a, .ref b] ∧ WebAt K H a n es e ys ∧ WebAt K H b n' es' e' ys' ∧ Q (.bl (decide (n = n' ∧ es = es' ∧ e = e' ∧ ys = ys'))) H
def spGates (K : PySem.W.Frag) : Sp := fun vs H Q _ => ∃ (a : Addr) (n e : Int) (es : List Edge) (ys : List Int), vs = [.ref a] ∧ WebAt K H a n es e ys ∧ Q (.int (es.length + 1 + ys.length)) H
def spGateIn (K : PySem.W.Frag) : Sp := fun vs H Q _ => ∃ (a : Addr) (n e : Int) (es : List Edge) (ys : List Int), vs = [.ref a] ∧ WebAt K H a n es e ys ∧ Q (.int es.length) H
def spEnds (K : PySem.W.Frag) : Sp := fun vs H Q E => ∃ (a : Addr) (n e g : Int) (es : List Edge) (ys : List Int), vs = [.ref a, .int g] ∧ WebAt K H a n es e ys ∧
  (∀ (H' : Hp) (b : Addr) (p : Edge), gateAt es e ys g = some p → Same H H' → H' b = some (.tup [.int p.1, .int p.2]) → Q (.ref b) H') ∧
  (gateAt es e ys g = none → ∀ (H' : Hp) (d : Addr), H' d = some (.xd [("number", .int g)]) → Same H H' → E (.ref (He.ga K "NoGate")) (some d) H')
def spPairs (K : PySem.W.Frag) : Sp := fun vs H Q _ => ∃ (a : Addr) (n e : Int) (es : List Edge) (ys : List Int), vs = [.ref a] ∧ WebAt K H a n es e ys ∧
  ∀ (H' : Hp) (t : Addr) (L : List (Addr × Edge)), Same H H' → H' t = some (.tup (L.map fun p => V.ref p.1)) → (∀ p ∈ L, H' p.1 = some (.tup [.int p.2.1, .int p.2.2])) → pairs L = allG es e ys → Q (.ref t) H'
def spChkGate (K : PySem.W.Frag) : Sp := fun vs H Q E => ∃ (a : Addr) (n e g : Int) (es : List Edge) (ys : List Int), vs = [.ref a, .int g] ∧ WebAt K H a n es e ys ∧
  (0 ≤ g ∧ g < (es.length : Int) + 1 + ys.length → Q .non H) ∧
  (¬ (0 ≤ g ∧ g < (es.length : Int) + 1 + ys.length) → ∀ (H' : Hp) (d : Addr), H' d = some (.xd [("number", .int g)]) → Same H H' → E (.ref (He.ga K "NoGate")) (some d) H')
def spGateOut (K : PySem.W.Frag) : Sp := fun vs H Q E => ∃ (a : Addr) (n e p : Int) (es : List Edge) (ys : List Int), vs = [.ref a, .int p] ∧ WebAt K H a n es e ys ∧
  (∀ (j : Nat), ys[j]? = some p → (∀ m, m < j → ys[m]? ≠ some p) → Q (.int (es.length + 1 + j)) H) ∧
  (p ∉ ys → ∀ (H' : Hp) (d : Addr), H' d = some (.xd [("place", .int p)]) → Same H H' → E (.ref (He.ga K "BadExit")) (some d) H')
def spChkIdle : Sp := fun vs H Q _ => ∃ (n e : Int) (ea xa : Addr) (L : List (Addr × Edge)) (xs : List Int), vs = [.int n, .ref ea, .int e, .ref xa] ∧ EdgesAt H ea L ∧ Qa H xa (xs.map V.int) ∧ Good n (pairs L) e xs ∧ ∀ H', Same H H' → Q .non H'
theorem iteB {c : Bool} {A B : Prop} (h1 : c = true → A) (h2 : c = false → B) : if c = true then A else B := by
  cases c with
  | true => exact h1 rfl
  | false => exact h2 rfl
section
variable {P : Program} {w : World} {K : PySem.W.Frag} {mg : Str → Option Value} {base : Heap}
abbrev s_is_number : Stmt := top 15
theorem sc_is_number : FnScope ["value"] ["value"] (defScope s_is_number) := ⟨rfl, rfl, rfl, by decide +kernel, rfl, by decide +kernel, by decide +kernel⟩
theorem ok_is_number {fd : FuncData} (F : FunD K "is_number" "is_number" (defArgs s_is_number) (defBody s_is_number) (defScope s_is_number) [] [] (He.ga K "is_number") fd) (T : TxW K mg) : FnOk P w K mg base CX0 1 (He.ga K "is_number") fd ["value"] spIsNum := by
  refine F.ok sc_is_number (fun vs H Q E h => by obtain ⟨i, rfl, _⟩ := h; rfl) (fun cdv A outer s H vs Q E hr h => ?_)
  obtain ⟨i, rfl, q⟩ := h
  refine ⟨_, PSs.nox (pss_one (ps_ret (pe_and (pe_callB call_isi (by rfl) T.n_isinstance (by decide +kernel) (pa_cons (pv 0) (pa_cons (pe_bltn (v := .ty "int") (by rfl) T.n_int (by decide +kernel) rfl) pa_nil))) (pe_one (pe_not (pe_callB call_isi (by rfl) T.n_isinstance (by decide +kernel) (pa_cons (pv 0) (pa_cons (pe_bltn (v := .ty "bool") (by rfl) T.n_bool (by decide +kernel) rfl) pa_nil)))))))), ?_⟩
  refine ⟨_, rfl, .int i, .ty "int", _, _, true, rfl, .ty _, .base (.int i), kit_ty (by decide +kernel), true, rfl, ?_⟩
  refine iteT ?_
  exact ⟨_, rfl, .int i, .ty "bool", _, _, false, rfl, .ty _, .base (.int i), kit_ty (by decide +kernel), false, rfl, q⟩
abbrev s_is_below : Stmt := top 16
theorem sc_is_below : FnScope ["value", "limit"] ["value", "limit"] (defScope s_is_below) := ⟨rfl, rfl, rfl, by decide +kernel, rfl, by decide +kernel, by decide +kernel⟩
theorem ok_is_below {fd : FuncData} (F : FunD K "is_below" "is_below" (defArgs s_is_below) (defBody s_is_below) (defScope s_is_below) [] [] (He.ga K "is_below") fd) (T : TxW K mg) (d_is_number : Okd P w K mg base CX0 1 (He.ga K "is_number") ["value"] spIsNum) : FnOk P w K mg base CX0 2 (He.ga K "is_below") fd ["value", "limit"] spBelow := by
  obtain ⟨fd_is_number, G_is_number, b_is_number⟩ := d_is_number
  refine F.ok sc_is_below (fun vs H Q E h => by obtain ⟨i, n, rfl, _⟩ := h; rfl) (fun cdv A outer s H vs Q E hr h => ?_)
  obtain ⟨i, n, rfl, q⟩ := h
  refine ⟨_, PSs.nox (pss_one (ps_ret (pe_and (pe_call G_is_number (hr.mono (by decide)) (by rfl) T.g_is_number T.k_is_number b_is_number .nil pass0 (pa_cons (pv 0) pa_nil)) (pe_one (pe_chain op_le op_lt pe_int (pv 0) (pv 1)))))), ?_⟩
  refine ⟨_, rfl, i, rfl, true, rfl, ?_⟩
  refine iteT ?_
  refine ⟨_, rfl, _, _, rfl, rfl, _, rfl, ?_⟩
  refine iteB (fun h1 => ?_) (fun h1 => ?_)
  · refine ⟨_, rfl, _, _, rfl, rfl, ?_⟩
    show Q (V.bl (decide (i < n))) H
    have h1' : 0 ≤ i := of_decide_eq_true h1
    have e : decide (i < n) = decide (0 ≤ i ∧ i < n) := by
      rw [Bool.eq_iff_iff]
      simp only [decide_eq_true_eq]
      omega
    rw [e]
    exact q
  · have h1' : ¬ 0 ≤ i := of_decide_eq_false h1
    have e : decide (0 ≤ i ∧ i < n) = false := decide_eq_false fun z => h1' z.1
    rw [e] at q
    exact q
abbrev s_check_places : Stmt := top 26
theorem sc_check_places : FnScope ["places"] ["places"] (defScope s_check_places) := ⟨rfl, rfl, rfl, by decide +kernel, rfl, by decide +kernel, by decide +kernel⟩
theorem ok_check_places {fd : FuncData} (F : FunD K "check_places" "check_places" (defArgs s_check_places) (defBody s_check_places) (defScope s_check_places) [] [] (He.ga K "check_places") fd) (T : TxW K mg) (d_is_number : Okd P w K mg base CX0 1 (He.ga K "is_number") ["value"] spIsNum) : FnOk P w K mg base CX0 2 (He.ga K "check_places") fd ["places"] spChkPlaces := by
  obtain ⟨fd_is_number, G_is_number, b_is_number⟩ := d_is_number
  obtain ⟨t24, g24⟩ := T.c_MOST_PLACES
  refine F.ok sc_check_places (fun vs H Q E h => by obtain ⟨n, rfl, _⟩ := h; rfl) (fun cdv A outer s H vs Q E hr h => ?_)
  obtain ⟨n, rfl, n1, n2, q⟩ := h
  refine ⟨_, PSs.nox (pss_one (ps_if (PW.pt (pw_or (pt_not (pt_val (pe_call G_is_number (hr.mono (by decide)) (by rfl) T.g_is_number T.k_is_number b_is_number .nil pass0 (pa_cons (pv 0) pa_nil)))) (pw_or1 (pt_not (pt_chain op_le op_le pe_int (pv 0) (pe_glob (v := .int 24) rfl g24 ⟨_, rfl⟩)))))) (pss_one ps_never) pss_nil)), ?_⟩
  refine ⟨_, rfl, n, rfl, _, rfl, ?_⟩
  refine iteF ?_
  refine ⟨_, rfl, _, _, rfl, rfl, _, rfl, ?_⟩
  rw [decide_eq_true n1]
  refine iteT ?_
  refine ⟨_, _, rfl, rfl, _, rfl, ?_⟩
  rw [decide_eq_true n2]
  exact iteF q
abbrev s_is_pair : Stmt := top 28
theorem sc_is_pair : FnScope ["places", "edge"] ["places", "edge"] (defScope s_is_pair) := ⟨rfl, rfl, rfl, by decide +kernel, rfl, by decide +kernel, by decide +kernel⟩
theorem ok_is_pair {fd : FuncData} (F : FunD K "is_pair" "is_pair" (defArgs s_is_pair) (defBody s_is_pair) (defScope s_is_pair) [] [] (He.ga K "is_pair") fd) (T : TxW K mg) (d_is_below : Okd P w K mg base CX0 2 (He.ga K "is_below") ["value", "limit"] spBelow) : FnOk P w K mg base CX0 3 (He.ga K "is_pair") fd ["places", "edge"] spIsPair := by
  obtain ⟨fd_is_below, G_is_below, b_is_below⟩ := d_is_below
  refine F.ok sc_is_pair (fun vs H Q E h => by obtain ⟨n, e, u, v, rfl, _⟩ := h; rfl) (fun cdv A outer s H vs Q E hr h => ?_)
  obtain ⟨n, e, u, v, rfl, he, q⟩ := h
  refine ⟨_, PSs.nox (pss_cons (ps_if (PW.pt (pw_or (pt_not (pt_val (pe_callB call_isiT (by rfl) T.n_isinstance (by decide +kernel) (pa_cons (pv 1) (pa_cons (pe_tup (pa_cons (pe_bltn (v := .ty "list") (by rfl) T.n_list (by decide +kernel) rfl) (pa_cons (pe_bltn (v := .ty "tuple") (by rfl) T.n_tuple (by decide +kernel) rfl) pa_nil))) pa_nil))))) (pw_or1 (pt_cmpR op_ne (pe_callB call_len_seq (by rfl) T.n_len PySem.boot_len (pa_cons (pv 1) pa_nil)) pe_int (nomark _))))) (pss_one (ps_ret pe_bl)) pss_nil)
    (pss_one (ps_ret (pe_and (pe_call G_is_below (hr.mono (by decide)) (by rfl) T.g_is_below T.k_is_below b_is_below .nil pass0 (pa_cons (pe_ix ix_seq (pv 1) pe_int (fun _ _ => rfl)) (pa_cons (pv 0) pa_nil))) (pe_one (pe_call G_is_below (hr.mono (by decide)) (by rfl) T.g_is_below T.k_is_below b_is_below .nil pass0 (pa_cons (pe_ix ix_seq (pv 1) pe_int (fun _ _ => rfl)) (pa_cons (pv 0) pa_nil)))))))), ?_⟩
  refine ⟨_, rfl, (by show 2 ≤ sizeLine; decide), fun tp ht => ?_⟩
  have s1 : Same H (upd H tp (.tup [.ty "list", .ty "tuple"])) := same_upd (Same.refl H) ht
  have he1 := he.same s1
  have isl : ∃ ty, TyX K (upd H tp (.tup [.ty "list", .ty "tuple"])) (.ref e) ty ∧ PySem.W.kitAny K ty [.type "list", .type "tuple"] = some true := by
    rcases he1 with h | h
    · exact ⟨_, .base (.lst h), kitAny_cons (b := true) (kit_ty (by decide +kernel)) (fun z => by cases z) (fun _ => rfl)⟩
    · exact ⟨_, .base (.tup h), kitAny_cons (b := false) (kit_ty (by decide +kernel)) (fun _ => kitAny_cons (b := true) (kit_ty (by decide +kernel)) (fun z => by cases z) (fun _ => rfl)) (fun z => by cases z)⟩
  obtain ⟨ty, ht1, ht2⟩ := isl
  refine ⟨_, tp, _, ty, _, true, rfl, upd_same, .cons (.ty _) (.cons (.ty _) .nil), ht1, ht2, _, rfl, ?_⟩
  refine iteF ?_
  refine ⟨_, rfl, e, _, rfl, he1.sq, rfl, _, rfl, ?_⟩
  refine iteF ?_
  have ix : ∀ (j : Int) (z : V) (Q' : VK), atI [V.int u, V.int v] j = some z → Q' z (upd H tp (.tup [.ty "list", .ty "tuple"])) → rIx K (.ref e) (.int j) (upd H tp (.tup [.ty "list", .ty "tuple"])) Q' := fun j z Q' h1 h2 => by
    rcases he1.sq (K := K) with h | h
    · exact .inl ⟨e, _, _, _, rfl, rfl, h, h1, h2⟩
    · exact .inr (.inl ⟨e, _, _, _, rfl, rfl, h, h1, h2⟩)
  refine ⟨_, rfl, ix 0 (.int u) _ rfl ?_⟩
  refine ⟨_, rfl, u, n, rfl, _, rfl, ?_⟩
  refine iteB (fun h1 => ?_) (fun h1 => ?_)
  · refine ⟨_, rfl, ix 1 (.int v) _ rfl ?_⟩
    refine ⟨_, rfl, v, n, rfl, ?_⟩
    have h1' := of_decide_eq_true h1
    have e2 : decide (0 ≤ v ∧ v < n) = decide ((0 ≤ u ∧ u < n) ∧ 0 ≤ v ∧ v < n) := by
      rw [Bool.eq_iff_iff]
      simp only [decide_eq_true_eq]
      exact ⟨fun z => ⟨h1', z⟩, fun z => z.2⟩
    rw [e2]
    exact q _ s1
  · have h1' := of_decide_eq_false h1
    have q' := q _ s1
    rw [decide_eq_false fun z => h1' z.1] at q'
    exact q'
abbrev s_check_entry : Stmt := top 29
theorem sc_check_entry : FnScope ["places", "entry"] ["places", "entry"] (defScope s_check_entry) := ⟨rfl, rfl, rfl, by decide +kernel, rfl, by decide +kernel, by decide +kernel⟩
theorem ok_check_entry {fd : FuncData} (F : FunD K "check_entry" "check_entry" (defArgs s_check_entry) (defBody s_check_entry) (defScope s_check_entry) [] [] (He.ga K "check_entry") fd) (T : TxW K mg) (d_is_below : Okd P w K mg base CX0 2 (He.ga K "is_below") ["value", "limit"] spBelow) : FnOk P w K mg base CX0 3 (He.ga K "check_entry") fd ["places", "entry"] spChkEntry := by
  obtain ⟨fd_is_below, G_is_below, b_is_below⟩ := d_is_below
  refine F.ok sc_check_entry (fun vs H Q E h => by obtain ⟨n, e, rfl, _⟩ := h; rfl) (fun cdv A outer s H vs Q E hr h => ?_)
  obtain ⟨n, e, rfl, e0, e1, q⟩ := h
  refine ⟨_, PSs.nox (pss_one (ps_if (pt_not (pt_val (pe_call G_is_below (hr.mono (by decide)) (by rfl) T.g_is_below T.k_is_below b_is_below .nil pass0 (pa_cons (pv 1) (pa_cons (pv 0) pa_nil))))) (pss_one ps_never) pss_nil)), ?_⟩
  refine ⟨_, rfl, _, rfl, e, n, rfl, _, rfl, ?_⟩
  rw [decide_eq_true ⟨e0, e1⟩]
  exact iteF q
abbrev s_check_exits : Stmt := top 30
theorem sc_check_exits : FnScope ["places", "exits", "place"] ["places", "exits"] (defScope s_check_exits) := ⟨rfl, rfl, rfl, by decide +kernel, rfl, by decide +kernel, by decide +kernel⟩
theorem ok_check_exits {fd : FuncData} (F : FunD K "check_exits" "check_exits" (defArgs s_check_exits) (defBody s_check_exits) (defScope s_check_exits) [] [] (He.ga K "check_exits") fd) (T : TxW K mg) (d_is_below : Okd P w K mg base CX0 2 (He.ga K "is_below") ["value", "limit"] spBelow) : FnOk P w K mg base CX0 3 (He.ga K "check_exits") fd ["places", "exits"] spChkExits := by
  obtain ⟨fd_is_below, G_is_below, b_is_below⟩ := d_is_below
  refine F.ok sc_check_exits (fun vs H Q E h => by obtain ⟨n, xa, xs, rfl, _⟩ := h; rfl) (fun cdv A outer s H vs Q E hr h => ?_)
  obtain ⟨n, xa, xs, rfl, hx, x0, xr, q⟩ := h
  refine ⟨_, PSs.nox (pss_cons (ps_if (pt_cmpR op_eq (pe_callB call_len_seq (by rfl) T.n_len PySem.boot_len (pa_cons (pv 1) pa_nil)) pe_int (nomark _)) (pss_one ps_never) pss_nil)
    (pss_one (ps_for PassesOwn.never rfl (pi_seqV 1) (pg_name (i := 2) sc_check_exits.nd rfl (Or.inl rfl))
      (pss_one (ps_if (pt_not (pt_val (pe_call G_is_below (hr.mono (by decide)) (by rfl) T.g_is_below T.k_is_below b_is_below .nil pass0 (pa_cons (pv 2) (pa_cons (pv 0) pa_nil))))) (pss_one ps_never) pss_nil))))), ?_⟩
  have len : ¬ ((xs.map V.int).length : Int) = 0 := by
    rw [List.length_map]
    cases xs with
    | nil => exact absurd rfl x0
    | cons a r => rw [List.length_cons]; omega
  refine ⟨_, rfl, xa, _, rfl, hx.sq, rfl, _, rfl, ?_⟩
  rw [decide_eq_false (fun z => len (V.int.inj z))]
  refine iteF ?_
  refine for_seqV (K := K) (a := xa) (xs := xs.map V.int) rfl hx (fun j σ' H' => ∃ v, σ' = [some (.int n), some (.ref xa), v] ∧ H' = H) ⟨none, rfl, rfl⟩ (fun j σ' H' _ h o e => by obtain ⟨_, _, rfl⟩ := h; exact e) ?_ ?_
  · rintro j x σ' H' hj ⟨v, rfl, rfl⟩
    obtain ⟨z, hz, rfl⟩ := int_at hj
    refine ⟨_, rfl, _, rfl, z, n, rfl, _, rfl, ?_⟩
    rw [decide_eq_true (xr z (List.mem_of_getElem? hz))]
    exact iteF ⟨_, rfl, rfl⟩
  · rintro σ' H' ⟨v, rfl, rfl⟩
    exact q
abbrev s_check_edges : Stmt := top 27
theorem sc_check_edges : FnScope ["places", "edges", "seen", "index", "edge"] ["places", "edges"] (defScope s_check_edges) := ⟨rfl, rfl, rfl, by decide +kernel, rfl, by decide +kernel, by decide +kernel⟩
theorem ok_check_edges {fd : FuncData} (F : FunD K "check_edges" "check_edges" (defArgs s_check_edges) (defBody s_check_edges) (defScope s_check_edges) [] [] (He.ga K "check_edges") fd) (T : TxW K mg) (d_is_pair : Okd P w K mg base CX0 3 (He.ga K "is_pair") ["places", "edge"] spIsPair) : FnOk P w K mg base CX0 4 (He.ga K "check_edges") fd ["places", "edges"] spChkEdges := by
  obtain ⟨fd_is_pair, G_is_pair, b_is_pair⟩ := d_is_pair
  obtain ⟨t80, g80⟩ := T.c_MOST_EDGES
  refine F.ok sc_check_edges (fun vs H Q E h => by obtain ⟨n, ea, L, rfl, _⟩ := h; rfl) (fun cdv A outer s H vs Q E hr h => ?_)
  obtain ⟨n, ea, L, rfl, hE, few, nd, rng, q⟩ := h
  refine ⟨_, PSs.nox (pss_cons (ps_if (pt_cmpR op_gt (pe_callB call_len_seq (by rfl) T.n_len PySem.boot_len (pa_cons (pv 1) pa_nil)) (pe_glob (v := .int 80) rfl g80 ⟨_, rfl⟩) (nomark _)) (pss_one ps_never) pss_nil)
    (pss_cons (ps_set (i := 2) sc_check_edges.nd rfl (Or.inl rfl) (pe_callTy0 cr_set0T (by rfl) T.n_set (by decide +kernel)))
    (pss_one (ps_for PassesOwn.never rfl (pi_enum (by rfl) T.n_enumerate (pa_cons (pv 1) pa_nil)) (pg_tup rfl (pgs_cons (pg_name (i := 3) sc_check_edges.nd rfl (Or.inl rfl)) (pgs_cons (pg_name (i := 4) sc_check_edges.nd rfl (Or.inl rfl)) pgs_nil)))
      (pss_cons (ps_if (PW.pt (pw_or (pt_not (pt_val (pe_call G_is_pair (hr.mono (by decide)) (by rfl) T.g_is_pair T.k_is_pair b_is_pair .nil pass0 (pa_cons (pv 0) (pa_cons (pv 4) pa_nil))))) (pw_or1 (pt_cmpR (op_inT0 hr.units) (pe_callTy call_tupleQ (by rfl) T.n_tuple (by decide +kernel) (pa_cons (pv 4) pa_nil)) (pv 2) (by first | exact nomark _ | rfl))))) (pss_one ps_never) pss_nil)
    (pss_one (ps_expr (pe_saddT hr.units (pv 2) (pa_cons (pe_callTy call_tupleQ (by rfl) T.n_tuple (by decide +kernel) (pa_cons (pv 4) pa_nil)) pa_nil))))))))), ?_⟩
  refine ⟨_, rfl, ea, _, rfl, .inl (SqL.of hE.1), _, _, rfl, rfl, _, rfl, ?_⟩
  rw [decide_eq_false (by rw [List.length_map]; omega)]
  refine iteF ?_
  refine ⟨rfl, fun sp hsp => ?_⟩
  refine ⟨_, rfl, ea, _, rfl, SqL.of ((same_upd (o := SetTO P w sp []) (Same.refl H) hsp) _ _ hE.1), for_it (walk_enum (K := K) (a := ea) (xs := L.map fun p => V.ref p.1))
    (fun i σ' H' => ∃ (v3 v4 : Option V) (sL : List (Addr × List Int)), σ' = [some (.int n), some (.ref ea), some (.ref sp), v3, v4] ∧ Same H H' ∧ H' sp = some (SetTO P w sp sL) ∧ (∀ p ∈ sL, H' p.1 = some (.tup (p.2.map V.int))) ∧
      (∀ k, k ∈ sL.map (·.2) → ∃ u z, k = [u, z] ∧ (u, z) ∈ (pairs L).take i) ∧ sL.length ≤ i)
    ⟨none, none, [], rfl, same_upd (Same.refl H) hsp, upd_same, (fun _ z => nomatch z), (fun _ z => nomatch z), Nat.le_refl _⟩ (fun i σ' H' _ h => by obtain ⟨_, _, _, _, s, _⟩ := h; exact SqL.of (s _ _ hE.1)) ?_ ?_⟩
  · rintro i v σ' H1 H2 hi ⟨v3, v4, sL, rfl, s1, hset, htup, hmem, hlen⟩ ⟨T', x, y, rfl, hT, rfl, hx, hy⟩
    cases Option.some.inj hx
    obtain ⟨t, u, z, rfl, hLi, he, hpi⟩ := edge_at hE hy
    rw [List.length_map] at hi
    have s2 : Same H1 (upd H1 T' (.tup [.int (i : Nat), .ref t])) := same_upd (Same.refl H1) hT
    obtain ⟨r1, r2, r3, r4⟩ := rng (u, z) (List.mem_of_getElem? hpi)
    refine ⟨T', _, rfl, SqT.of upd_same, rfl, _, _, rfl, _, _, rfl, rfl, ?_⟩
    refine ⟨_, rfl, _, rfl, n, t, u, z, rfl, (he.same s1).same s2, fun H3 s3 => ?_⟩
    refine ⟨_, rfl, ?_⟩
    rw [decide_eq_true ⟨⟨r1, r2⟩, r3, r4⟩]
    refine iteF ?_
    have no : [u, z] ∉ sL.map (·.2) := fun m => by
      obtain ⟨u', z', e, m'⟩ := hmem _ m
      injection e with e1 e2
      injection e2 with e2 _
      exact notin_take nd hpi (by rw [e1, e2]; exact m')
    have up3 : ∀ {H4 : Hp}, Same H3 H4 → H4 sp = some (SetTO P w sp sL) ∧ TupsT K H4 sL ∧ (∀ p ∈ sL, H4 p.1 = some (.tup (p.2.map V.int))) ∧ Same H H4 := fun {H4} s4 =>
      ⟨s4 _ _ (s3 _ _ (s2 _ _ hset)), fun p hp => SqT.of (s4 _ _ (s3 _ _ (s2 _ _ (htup p hp)))), fun p hp => s4 _ _ (s3 _ _ (s2 _ _ (htup p hp))), ((s1.trans s2).trans s3).trans s4⟩
    refine ⟨_, rfl, _, _, rfl, ((he.same s1).same s2).same s3, fun b H4 s4 hb => ?_⟩
    obtain ⟨a1, a2, a3, a4⟩ := up3 s4
    refine ⟨_, rfl, b, sp, [u, z], sL, rfl, rfl, SqT.of hb, a1, a2, no, _, rfl, ?_⟩
    refine iteF ?_
    refine ⟨_, rfl, ⟨sp, sL, rfl, a1, a2⟩, ?_⟩
    refine ⟨_, rfl, _, _, rfl, (((he.same s1).same s2).same s3).same s4, fun b2 H5 s5 hb2 => ?_⟩
    obtain ⟨c1, c2, c3, c4⟩ := up3 (s4.trans s5)
    refine ⟨sp, b2, [u, z], sL, rfl, rfl, c1, c2, SqT.of hb2, no, by omega, fun L' perm => ?_⟩
    have neT : ∀ {c : Addr} {ys : List V}, H5 c = some (.tup ys) → c ≠ sp := fun {c ys} e => ne_of e c1 (by intro zz; cases zz)
    refine ⟨_, _, L', rfl, fun c o e => ?_, upd_same, fun p hp => ?_, fun k hk => ?_, ?_⟩
    · rw [upd_ne (ne_of_none e hsp)]
      exact c4 c o e
    · rcases List.mem_cons.mp (perm.mem_iff.mp hp) with e | hp
      · rw [e, upd_ne (neT hb2)]
        exact hb2
      · rw [upd_ne (neT (c3 p hp))]
        exact c3 p hp
    · obtain ⟨p, hp, rfl⟩ := List.mem_map.mp hk
      rw [take_next hpi]
      rcases List.mem_cons.mp (perm.mem_iff.mp hp) with e | hp
      · exact ⟨u, z, by rw [e], List.mem_append_right _ List.mem_cons_self⟩
      · obtain ⟨u', z', e, m⟩ := hmem p.2 (List.mem_map.mpr ⟨p, hp, rfl⟩)
        exact ⟨u', z', e, List.mem_append_left _ m⟩
    · rw [perm.length_eq, List.length_cons]
      omega
  · rintro σ' H' ⟨v3, v4, sL, rfl, s1, _⟩
    exact q H' s1
abbrev s_reached : Stmt := top 32
theorem sc_reached : FnScope ["edges", "starts", "place", "found", "waiting", "begin", "end"] ["edges", "starts"] (defScope s_reached) := ⟨rfl, rfl, rfl, by decide +kernel, rfl, by decide +kernel, by decide +kernel⟩
theorem ok_reached {fd : FuncData} (F : FunD K "reached" "reached" (defArgs s_reached) (defBody s_reached) (defScope s_reached) [] [] (He.ga K "reached") fd) (T : TxW K mg) : FnOk P w K mg base CX0 1 (He.ga K "reached") fd ["edges", "starts"] spReached := by
  refine F.ok sc_reached (fun vs H Q E h => by obtain ⟨ea, sa, L, ss, rfl, _⟩ := h; rfl) (fun cdv A outer s H vs Q E hr h => ?_)
  obtain ⟨ea, sa, L, ss, rfl, hE, hS, l1, l2, q⟩ := h
  refine ⟨_, PSs.nox (pss_cons (ps_setDc (i := 3) (own := [("place", 2)]) (g := gName 2) (tt := tYes) rfl sc_reached.nd rfl rfl (sw_dict rfl rfl rfl (by decide +kernel)) (pi_seqV 1) (blkOk_by (own := [("place", 2)]) (N := ["edges", "starts", "place", "found", "waiting", "begin", "end"]) (sc := defScope s_reached) (by decide +kernel)) (fun _ _ _ _ _ => (pg_name (i := 2) sc_reached.nd rfl (Or.inl rfl))) (fun _ _ _ _ _ => pts_nil) (fun _ _ _ _ _ => (pv 2)) (fun _ _ _ _ _ => pe_bl))
    (pss_cons (ps_set (i := 4) sc_reached.nd rfl (Or.inl rfl) (pe_callTy call_list_of (by rfl) T.n_list (by decide +kernel) (pa_cons (pv 1) pa_nil)))
    (pss_cons (ps_while PassesOwn.never (pt_truth (pv 4) (by intro _; rfl))
      (pss_cons (ps_set (i := 2) sc_reached.nd rfl (Or.inl rfl) (pe_bm0 PySem.F.plainAttrs_list PySem.F.slot_list_pop PySem.F.type_list_pop mt_pop (pv 4)))
    (pss_one (ps_for PassesOwn.never rfl (pi_list (pv 0)) (pg_seq rfl (pgs_cons (pg_name (i := 5) sc_reached.nd rfl (Or.inl rfl)) (pgs_cons (pg_name (i := 6) sc_reached.nd rfl (Or.inl rfl)) pgs_nil)))
      (pss_one (ps_if (PW.pt (pw_and (pt_cmpR op_eq (pv 5) (pv 2) (nomark _)) (pw_and1 (pt_cmp (pc_dnotin (hu_of hr) (pv 6) (pv 3)))))) (pss_cons (ps_dput (hu_of hr) (pv 3) (pv 6) pe_bl rfl)
    (pss_one (ps_expr (pe_bm PySem.F.plainAttrs_list PySem.F.slot_list_append PySem.F.type_list_append mt_append (pv 4) (pa_cons (pv 6) pa_nil))))) pss_nil))))))
    (pss_one (ps_ret (pv 3)))))), ?_⟩
  refine seq_setDc ?_
  refine dc_seqV (K := K) (i := 1) (a := sa) (xs := ss.map V.int) rfl hS (fun D j H' => ∃ S, Same H H' ∧ H' D = some (.dK (dS S)) ∧ Firsts (ss.take j) S)
    (fun D hD => ⟨[], same_upd (Same.refl H) hD, upd_same, List.nodup_nil, fun v => by simp⟩) (fun D j H' _ _ h o e => by obtain ⟨_, s, _⟩ := h; exact s _ _ e) ?_ ?_
  · rintro D j x H1 hD hj ⟨S, s1, hd, fs⟩
    obtain ⟨z, hz, rfl⟩ := int_at hj
    refine ⟨rfl, _, rfl, dS S, Sum.inl z, rfl, hd, ?_, ?_⟩
    · rw [dS_len]
      have := fs.len
      rw [List.length_take] at this
      exact Nat.lt_of_le_of_lt (show S.length ≤ 1000 by omega) (by decide)
    · refine ⟨_, fun b o e => ?_, by rw [upd_same, dS_put], ?_⟩
      · rw [upd_ne (ne_of_none e hD)]
        exact s1 b o e
      · rw [take_next hz]
        exact fs.next
  rintro D H1 hD ⟨S, s1, hd, fs⟩
  rw [List.length_map, List.take_length] at fs
  refine ⟨_, rfl, sa, _, rfl, (hS.same s1).sq, fun wl hw => ?_⟩
  have nDw : D ≠ wl := ne_of_none hd hw
  have hw0 : H wl = none := s1.free hw
  refine ⟨fun m σ' H' => ∃ (S W : List Int) (v2 v5 v6 : Option V), m = 2 * (ss.length + L.length - S.length) + W.length ∧ W.length ≤ S.length + ss.length ∧ σ' = [some (.ref ea), some (.ref sa), v2, some (.ref D), some (.ref wl), v5, v6] ∧ Same H H' ∧ H' D = some (.dK (dS S)) ∧ H' wl = some (.lst (W.map V.int)) ∧ Seek ss (pairs L) S W,
    ⟨_, S, ss, none, none, none, rfl, by omega, rfl, same_upd s1 hw, by rw [upd_ne nDw]; exact hd, upd_same, fs.seek _⟩, ?_⟩
  rintro m σ' H2 ⟨S, W, v2, v5, v6, em, wb, rfl, s2, hd2, hw2, sk⟩
  refine ⟨_, rfl, _, .inl ⟨_, SqL.of hw2, rfl⟩, ?_⟩
  rcases List.eq_nil_or_concat W with e | ⟨W0, p, e⟩
  · subst e
    refine iteF ?_
    exact ⟨_, rfl, q H2 D S s2 hd2 sk.done⟩
  · rw [List.concat_eq_append] at e
    subst e
    have ne : (!((W0 ++ [p]).map V.int).isEmpty) = true := by
      rw [List.map_append]
      cases W0 <;> rfl
    rw [ne]
    refine iteT ?_
    refine ⟨fun σ3 H3 => ∃ m', m' < m ∧ ∃ (S W : List Int) (v2 v5 v6 : Option V), m' = 2 * (ss.length + L.length - S.length) + W.length ∧ W.length ≤ S.length + ss.length ∧ σ3 = [some (.ref ea), some (.ref sa), v2, some (.ref D), some (.ref wl), v5, v6] ∧ Same H H3 ∧ H3 D = some (.dK (dS S)) ∧ H3 wl = some (.lst (W.map V.int)) ∧ Seek ss (pairs L) S W,
      fun σ3 H3 h => h, ?_⟩
    refine ⟨_, rfl, .inl ⟨rfl, _, SqL.of hw2⟩, wl, _, V.int p, rfl, rfl, hw2, by rw [List.map_append, List.length_append]; simp, ?_⟩
    have hdl : ((W0 ++ [p]).map V.int).dropLast = W0.map V.int := by rw [List.map_append]; simp
    rw [hdl]
    have nD : D ≠ wl := ne_of hd2 hw2 (by intro z; cases z)
    have s3 : Same H (upd H2 wl (.lst (W0.map V.int))) := fun b o e => by
      rw [upd_ne (ne_of_none e hw0)]
      exact s2 b o e
    refine ⟨_, rfl, ea, rfl, ⟨_, SqL.of (s3 _ _ hE.1)⟩, for_list (K := K) (a := ea) (xs := L.map fun p => V.ref p.1) (fun j σ3 H3 => ∃ (S' W' : List Int) (v5 v6 : Option V), σ3 = [some (.ref ea), some (.ref sa), some (.int p), some (.ref D), some (.ref wl), v5, v6] ∧ Same H H3 ∧ H3 D = some (.dK (dS S')) ∧ H3 wl = some (.lst (W'.map V.int)) ∧ Inn (pairs L) p S W0 j S' W')
      ⟨S, W0, v5, v6, rfl, s3, by rw [upd_ne nD]; exact hd2, upd_same, Inn.start sk.nd⟩ (fun j σ3 H3 _ h => by obtain ⟨_, _, _, _, _, s, _⟩ := h; exact SqL.of (s _ _ hE.1)) ?_ ?_⟩
    · rintro j x σ3 H3 hj ⟨S', W', v5, v6, rfl, s4, hd4, hw4, inn⟩
      obtain ⟨t, u, z, rfl, hLi, he, hpi⟩ := edge_at hE hj
      have nD4 : D ≠ wl := ne_of hd4 hw4 (by intro z; cases z)
      have bound : S'.length ≤ ss.length + L.length := by
        have e0 := len_le_of_sub S' (ss ++ (pairs L).map (·.2)) inn.nd fun v hv => by
          rcases inn.new v hv with y | ⟨_, y⟩
          · exact sk.bd v y
          · exact List.mem_append_right _ (List.mem_map.mpr ⟨(p, v), y, rfl⟩)
        rw [List.length_append, List.length_map, List.length_map] at e0
        exact e0
      refine ⟨t, _, rfl, (he.same s4).sq, rfl, _, _, rfl, _, _, rfl, rfl, ?_⟩
      refine ⟨_, rfl, _, rfl, rfl, _, rfl, ?_⟩
      refine iteB (fun h1 => ?_) (fun h1 => ?_)
      · have eu : u = p := V.int.inj (of_decide_eq_true h1)
        subst eu
        refine ⟨_, rfl, _, rfl, D, _, rfl, DGet.k (k := Sum.inl z) hd4, _, rfl, ?_⟩
        rw [dS_val]
        by_cases hz : z ∈ S'
        · rw [if_pos hz]
          exact iteF ⟨S', W', _, _, rfl, s4, hd4, hw4, inn.skip hpi (.inr hz)⟩
        · rw [if_neg hz]
          refine iteT ?_
          refine ⟨_, rfl, _, rfl, D, _, rfl, DPut.k (k := Sum.inl z) hd4 (by rw [dS_len]; exact Nat.lt_of_le_of_lt (show S'.length ≤ 2000 by omega) (by decide)), ?_⟩
          rw [dS_put_new hz]
          have hw5 : (upd H3 D (.dK (dS (S' ++ [z])))) wl = some (.lst (W'.map V.int)) := by rw [upd_ne nD4.symm]; exact hw4
          have w5 : (W'.map V.int).length < sizeLine := by
            have := inn.len
            rw [List.length_map]
            rw [List.length_append, List.length_singleton] at wb
            exact Nat.lt_of_le_of_lt (show W'.length ≤ 4000 by omega) (by decide)
          refine ⟨_, rfl, .inl ⟨rfl, _, SqL.of hw5⟩, _, rfl, wl, _, _, rfl, rfl, hw5, w5, ?_⟩
          refine ⟨S' ++ [z], W' ++ [z], _, _, rfl, fun b o e => ?_, by rw [upd_ne nD4, upd_same], by rw [upd_same, List.map_append]; rfl, inn.put hpi hz⟩
          rw [upd_ne (ne_of_none e hw0), upd_ne (ne_of_none e hD)]
          exact s4 b o e
      · have nu : u ≠ p := fun e => (of_decide_eq_false h1) (by rw [e])
        exact iteF ⟨S', W', _, _, rfl, s4, hd4, hw4, inn.skip hpi (.inl nu)⟩
    · rintro σ3 H3 ⟨S', W', v5, v6, rfl, s4, hd4, hw4, inn⟩
      have e1 : (L.map fun p => V.ref p.1).length = (pairs L).length := by rw [List.length_map, List.length_map]
      rw [e1] at inn
      have sk' := sk.turn inn
      have l4 := sk'.len
      have l5 := inn.len
      have l6 : S.length ≤ S'.length := len_le_of_sub S S' sk.nd inn.s1
      rw [List.length_map] at l4
      rw [List.length_append, List.length_singleton] at wb
      refine ⟨_, ?_, S', W', _, v5, v6, rfl, by omega, rfl, s4, hd4, hw4, sk'⟩
      rw [em, List.length_append, List.length_singleton]
      omega
abbrev s_check_idle : Stmt := top 31
theorem sc_check_idle : FnScope ["places", "edges", "entry", "exits", "ahead", "behind", "place", "begin", "end"] ["places", "edges", "entry", "exits"] (defScope s_check_idle) := ⟨rfl, rfl, rfl, by decide +kernel, rfl, by decide +kernel, by decide +kernel⟩
theorem ok_check_idle {fd : FuncData} (F : FunD K "check_idle" "check_idle" (defArgs s_check_idle) (defBody s_check_idle) (defScope s_check_idle) [] [] (He.ga K "check_idle") fd) (T : TxW K mg) (d_reached : Okd P w K mg base CX0 1 (He.ga K "reached") ["edges", "starts"] spReached) : FnOk P w K mg base CX0 2 (He.ga K "check_idle") fd ["places", "edges", "entry", "exits"] spChkIdle := by
  obtain ⟨fd_reached, G_reached, b_reached⟩ := d_reached
  refine F.ok sc_check_idle (fun vs H Q E h => by obtain ⟨n, e, ea, xa, L, xs, rfl, _⟩ := h; rfl) (fun cdv A outer s H vs Q E hr h => ?_)
  obtain ⟨n, e, ea, xa, L, xs, rfl, hE, hX, good, q⟩ := h
  refine ⟨_, PSs.nox (pss_cons (ps_set (i := 4) sc_check_idle.nd rfl (Or.inl rfl) (pe_call G_reached (hr.mono (by decide)) (by rfl) T.g_reached T.k_reached b_reached .nil pass0 (pa_cons (pv 1) (pa_cons (pe_lst (pa_cons (pv 2) pa_nil)) pa_nil))))
    (pss_cons (ps_set (i := 5) sc_check_idle.nd rfl (Or.inl rfl) (pe_call G_reached (hr.mono (by decide)) (by rfl) T.g_reached T.k_reached b_reached .nil pass0 (pa_cons (pe_lc (own := [("begin", 7), ("end", 8)]) (g := gSeq K 2 (gCons (gName 7) (gCons (gName 8) gNil))) (tt := tYes) rfl sc_check_idle.nd (pi_list (pv 1)) (blkOk_by (own := [("begin", 7), ("end", 8)]) (N := ["places", "edges", "entry", "exits", "ahead", "behind", "place", "begin", "end"]) (sc := defScope s_check_idle) (by decide +kernel)) (fun _ _ _ _ _ => (pg_seq rfl (pgs_cons (pg_name (i := 7) sc_check_idle.nd rfl (Or.inl rfl)) (pgs_cons (pg_name (i := 8) sc_check_idle.nd rfl (Or.inl rfl)) pgs_nil)))) (fun _ _ _ _ _ => pts_nil) (fun _ _ _ _ _ => (pe_tup (pa_cons (pv 8) (pa_cons (pv 7) pa_nil))))) (pa_cons (pv 3) pa_nil))))
    (pss_one (ps_for PassesOwn.never rfl (pi_range1 rfl T.n_range (pa_cons (pv 0) pa_nil)) (pg_name (i := 6) sc_check_idle.nd rfl (Or.inl rfl))
      (pss_one (ps_if (PW.pt (pw_or (pt_cmp (pc_dnotin (hu_of hr) (pv 6) (pv 4))) (pw_or1 (pt_cmp (pc_dnotin (hu_of hr) (pv 6) (pv 5)))))) (pss_one ps_never) pss_nil)))))), ?_⟩
  have lp : (pairs L).length = L.length := List.length_map ..
  have few := good.few
  have xf := good.xf
  refine ⟨_, rfl, _, rfl, (by show 1 ≤ sizeLine; decide), fun p hp => ?_⟩
  have s0 : Same H (upd H p (.lst [V.int e])) := same_upd (Same.refl H) hp
  refine ⟨ea, p, L, [e], rfl, hE.same s0, .inl upd_same, by omega, by rw [List.length_singleton]; decide, fun H1 D1 S1 s1' d1 m1 => ?_⟩
  have s1 := s0.trans s1'
  refine ⟨_, rfl, ea, rfl, ⟨_, SqL.of (s1 _ _ hE.1)⟩, fun D hD => lc_list (K := K) (a := ea) (xs := L.map fun p => V.ref p.1)
    (fun j H' => ∃ M : List (Addr × Edge), Same H1 H' ∧ H' D = some (.lst (M.map fun p => V.ref p.1)) ∧ (∀ p ∈ M, H' p.1 = some (.tup [.int p.2.1, .int p.2.2])) ∧ pairs M = turned ((pairs L).take j))
    ⟨[], same_upd (Same.refl H1) hD, upd_same, (fun _ z => nomatch z), rfl⟩ (fun j H' _ h => by obtain ⟨_, s, _⟩ := h; exact SqL.of (s _ _ (s1 _ _ hE.1))) ?_ ?_⟩
  · rintro j x H2 hj ⟨M, s2, hM, hMs, eM⟩
    obtain ⟨t, u, z, rfl, hLi, he, hpi⟩ := edge_at hE hj
    refine ⟨t, _, rfl, (he.same (s1.trans s2)).sq, rfl, _, _, rfl, _, _, rfl, rfl, ?_⟩
    refine ⟨rfl, _, rfl, _, rfl, (by show 2 ≤ sizeLine; decide), fun tp ht => ?_⟩
    have nD : D ≠ tp := ne_of_none hM ht
    have hlM : M.length = ((pairs L).take j).length := by
      have := congrArg List.length eM
      unfold turned at this
      rw [List.length_map, List.length_map] at this
      exact this
    have hjl : M.length ≤ 60 := by
      rw [hlM, List.length_take]
      omega
    refine ⟨M.map fun p => V.ref p.1, by rw [upd_ne nD]; exact hM, ?_, ?_⟩
    · rw [List.length_map]
      exact Nat.lt_of_le_of_lt hjl (by decide)
    · refine ⟨M ++ [(tp, (z, u))], fun b o e => ?_, ?_, fun p hp => ?_, ?_⟩
      · rw [upd_ne (ne_of_none e hD), upd_ne (ne_of_none (s2 b o e) ht)]
        exact s2 b o e
      · rw [upd_same, List.map_append]
        rfl
      · rcases List.mem_append.mp hp with hp | hp
        · have h0 := hMs p hp
          rw [upd_ne (ne_of h0 hM (by intro z; cases z)), upd_ne (ne_of_none h0 ht)]
          exact h0
        · rw [List.mem_singleton.mp hp]
          rw [upd_ne nD.symm, upd_same]
      · unfold turned at eM ⊢
        rw [take_next hpi, List.map_append, ← eM]
        exact List.map_append ..
  rintro H2 ⟨M, s2, hM, hMs, eM⟩
  rw [List.length_map, ← lp, List.take_length] at eM
  have lM : M.length = L.length := by
    have := congrArg List.length eM
    unfold turned at this
    rw [List.length_map, List.length_map] at this
    omega
  refine ⟨_, rfl, ?_⟩
  refine ⟨D, xa, M, xs, rfl, ⟨hM, fun p hp => .inr (hMs p hp)⟩, hX.same (s1.trans s2), by omega, by omega, fun H3 D2 S2 s3 d2 m2 => ?_⟩
  have s3' := (s1.trans s2).trans s3
  have n1 := good.n1
  have n2 := good.n2
  refine ⟨_, rfl, n, rfl, by omega, by omega, for_range (lo := 0) (n := n.toNat) (fun j σ' H' => ∃ v6, σ' = [some (.int n), some (.ref ea), some (.int e), some (.ref xa), some (.ref D1), some (.ref D2), v6, none, none] ∧ H' = H3) ⟨none, rfl, rfl⟩ ?_ ?_⟩
  · rintro j σ' H' hj ⟨v6, rfl, rfl⟩
    have i1 : (0 + (j : Int)) ∈ S1 := (m1 _).mpr ⟨e, List.mem_cons_self, good.fwd _ (by omega) (by omega)⟩
    have i2 : (0 + (j : Int)) ∈ S2 := (m2 _).mpr (by
      obtain ⟨x, hx, r⟩ := good.bwd (0 + (j : Int)) (by omega) (by omega)
      exact ⟨x, hx, by rw [eM]; exact r.back⟩)
    refine ⟨_, rfl, _, rfl, D1, _, rfl, DGet.k (k := Sum.inl (0 + (j : Int))) (s3 _ _ (s2 _ _ d1)), _, rfl, ?_⟩
    rw [dS_val, if_pos i1]
    refine iteF ?_
    refine ⟨_, rfl, _, rfl, D2, _, rfl, DGet.k (k := Sum.inl (0 + (j : Int))) d2, _, rfl, ?_⟩
    rw [dS_val, if_pos i2]
    exact iteF ⟨_, rfl, rfl⟩
  · rintro σ' H' ⟨v6, rfl, rfl⟩
    exact q _ s3'
end

section
variable {P : Program} {w : World} {K : PySem.W.Frag} {mg : Str → Option Value} {base : Heap}
abbrev s_pool : Stmt := top 39
theorem sc_pool : FnScope ["_law_script"] ["_law_script"] (defScope s_pool) := ⟨rfl, rfl, rfl, by decide +kernel, rfl, by decide +kernel, by decide +kernel⟩
theorem ok_pool {f : Addr} {fd : FuncData} (F : FunD K "_law_pool" "_law_pool" (defArgs s_pool) (defBody s_pool) (defScope s_pool) [] [] f fd) : FnOk P w K mg base CX0 1 f fd ["_law_script"] (spPool K) := by
  refine F.ok sc_pool (fun vs H Q E h => ?_) (fun cdv A outer s H vs Q E hr h => ?_)
  · obtain ⟨a, ns, rfl, _⟩ := h
    rfl
  · obtain ⟨a, ns, rfl, hS, k⟩ := h
    refine ⟨_, PSs.nox (pss_one (ps_ret (pe_lst (pa_cons (pv 0) (pa_cons pe_int (pa_cons pe_int (pa_cons pe_int (pa_cons pe_int pa_nil)))))))), ?_⟩
    refine ⟨_, rfl, (by show 5 ≤ sizeLine; decide), fun p hp => ?_⟩
    exact k _ p hp ⟨a, ns, 0, 0, 0, 7, hS.keep (.upd (nfz_none hp)), upd_same, by omega, by omega, by omega, by omega, by omega, by omega⟩ ⟨_, rfl⟩
abbrev s_draw : Stmt := top 40
theorem sc_draw : FnScope ["_law_pool_here", "_law_limit", "_law_cell", "_law_digit", "_law_mixed"] ["_law_pool_here", "_law_limit"] (defScope s_draw) := ⟨rfl, rfl, rfl, by decide +kernel, rfl, by decide +kernel, by decide +kernel⟩
theorem ok_draw {f : Addr} {fd : FuncData} (F : FunD K "_law_draw" "_law_draw" (defArgs s_draw) (defBody s_draw) (defScope s_draw) [] [] f fd) (T : TxDraw mg) : FnOk P w K mg base CX0 1 f fd ["_law_pool_here", "_law_limit"] (spDraw K) := by
  refine F.ok sc_draw (fun vs H Q E h => ?_) (fun cdv A outer s H vs Q E hr h => ?_)
  · obtain ⟨p, b, lim, rfl, _⟩ := h
    rfl
  · obtain ⟨p, b, lim, rfl, ⟨a, ns, n, i, r, m, hS, hp, n0, nb, i0, r0, m0, m1⟩, l0, l1, k⟩ := h
    refine ⟨_, PSs.nox (pss_cons (ps_asg (pe_op op_add (pe_ix ix_list (pv 0) pe_int (fun _ _ => rfl)) pe_int) (pg_sub (pv 0) pe_int set_list))
    (C8.pss_cut (ps_if (PW.pt (pw_and (pt_cmpR op_eq (pe_ix ix_list (pv 0) pe_int (fun _ _ => rfl)) pe_int (nomark _)) (pw_and1 (pt_cmpR op_lt (pe_ix ix_list (pv 0) pe_int (fun _ _ => rfl)) (pe_callB call_len_seq (by rfl) T.n_len PySem.boot_len (pa_cons (pe_ix ix_list (pv 0) pe_int (fun _ _ => rfl)) pa_nil)) (nomark _))))) (pss_cons (ps_set (i := 2) sc_draw.nd rfl (Or.inl rfl) (pe_callB call_abs (by rfl) T.n_abs (by decide +kernel) (pa_cons (pe_ix ix_list (pe_ix ix_list (pv 0) pe_int (fun _ _ => rfl)) (pe_ix ix_list (pv 0) pe_int (fun _ _ => rfl)) (fun _ _ => rfl)) pa_nil)))
    (pss_cons (ps_asg (pe_op op_add (pe_ix ix_list (pv 0) pe_int (fun _ _ => rfl)) pe_int) (pg_sub (pv 0) pe_int set_list))
    (pss_one (ps_if (pt_cmpR op_ge (pv 2) (pe_op op_pow pe_int pe_int) (nomark _)) (pss_one (ps_asg (pv 2) (pg_sub (pv 0) pe_int set_list))) (pss_one (ps_asg (pe_op op_mod (pe_callTy call_int1 (by rfl) T.n_int (by decide +kernel) (pa_cons (pe_op op_mul (pe_op op_add (pe_op op_add (pe_ix ix_list (pv 0) pe_int (fun _ _ => rfl)) (pv 2)) pe_int) pe_int) pa_nil)) pe_int) (pg_sub (pv 0) pe_int set_list))))))) pss_nil)
    (pss_cons (ps_if (pt_cmpR op_gt (pe_ix ix_list (pv 0) pe_int (fun _ _ => rfl)) pe_int (nomark _)) (pss_cons (ps_set (i := 3) sc_draw.nd rfl (Or.inl rfl) (pe_op op_mod (pe_callTy call_int1 (by rfl) T.n_int (by decide +kernel) (pa_cons (pe_ix ix_list (pv 0) pe_int (fun _ _ => rfl)) pa_nil)) (pv 1)))
    (pss_cons (ps_asg (pe_op op_fdivW (pe_ix ix_list (pv 0) pe_int (fun _ _ => rfl)) (pv 1)) (pg_sub (pv 0) pe_int set_list))
    (pss_one (ps_ret (pv 3))))) pss_nil)
    (pss_cons (ps_set (i := 4) sc_draw.nd rfl (Or.inl rfl) (pe_op op_mod (pe_callTy call_int1 (by rfl) T.n_int (by decide +kernel) (pa_cons (pe_op op_pow (pe_op op_add (pe_ix ix_list (pv 0) pe_int (fun _ _ => rfl)) (pe_op op_mul (pe_ix ix_list (pv 0) pe_int (fun _ _ => rfl)) pe_int)) pe_int) pa_nil)) pe_int))
    (pss_one (ps_ret (pe_op op_mod (pe_callTy call_int1 (by rfl) T.n_int (by decide +kernel) (pa_cons (pe_op op_fdiv (pv 4) pe_int) pa_nil)) (pv 1)))))))), ?_⟩
    -- pool[1] = pool[1] + 1
    refine ⟨_, rfl, p, _, _, _, rfl, rfl, SqL.of hp, rfl, _, _, rfl, rfl, _, rfl, p, _, _, 1, rfl, rfl, hp, rfl, ?_⟩
    have fz : ∀ x, Frz H (upd H p x) := fun x => .upd (nfz_lst hp)
    have hS1 : Scr K (upd H p (.lst ([.ref a, .int n, .int i, .int r, .int m].set 1 (.int (n + 1))))) a ns := hS.keep (fz _)
    -- the test and the draw of a cell: what holds behind it
    refine ⟨fun σ H' => ∃ (c : Option V) (i r m : Int), σ = [some (.ref p), some (.int lim), c, none, none] ∧ Scr K H' a ns ∧ H' p = some (.lst [.ref a, .int (n + 1), .int i, .int r, .int m]) ∧ But p H H' ∧ 0 ≤ i ∧ 0 ≤ r ∧ 0 ≤ m ∧ m < 2147483629, ?_, ?_⟩
    · refine ⟨_, rfl, p, _, _, _, rfl, rfl, SqL.of upd_same, rfl, rfl, _, rfl, ?_⟩
      have keep0 : ∃ (c : Option V) (i' r' m' : Int), (start ["_law_pool_here", "_law_limit", "_law_cell", "_law_digit", "_law_mixed"] [V.ref p, V.int lim]) = [some (.ref p), some (.int lim), c, none, none] ∧ Scr K (upd H p (.lst ([.ref a, .int n, .int i, .int r, .int m].set 1 (.int (n + 1))))) a ns ∧
          (upd H p (.lst ([.ref a, .int n, .int i, .int r, .int m].set 1 (.int (n + 1))))) p = some (.lst [.ref a, .int (n + 1), .int i', .int r', .int m']) ∧ But p H (upd H p (.lst ([.ref a, .int n, .int i, .int r, .int m].set 1 (.int (n + 1))))) ∧ 0 ≤ i' ∧ 0 ≤ r' ∧ 0 ≤ m' ∧ m' < 2147483629 :=
        ⟨none, i, r, m, rfl, hS1, upd_same, But.of, i0, r0, m0, m1⟩
      refine ite2 (fun hr0 => ?_) (fun _ => iteF keep0)
      refine ⟨_, rfl, p, _, _, _, rfl, rfl, SqL.of upd_same, rfl, _, rfl, p, _, _, _, rfl, rfl, SqL.of upd_same, rfl, a, _, rfl, .inl hS1.sq, _, _, rfl, rfl, _, rfl, ?_⟩
      refine ite2 (fun hi => ?_) (fun _ => keep0)
      have hi' : i < ((ns.map V.int).length : Int) := of_decide_eq_true hi
      obtain ⟨v, hv, hm⟩ := ix_there i0 hi'
      obtain ⟨c, hc, rfl⟩ := List.mem_map.mp hm
      -- cell = abs(pool[0][pool[2]])
      refine ⟨_, rfl, p, _, _, _, rfl, rfl, SqL.of upd_same, rfl, _, rfl, p, _, _, _, rfl, rfl, SqL.of upd_same, rfl, a, _, _, _, rfl, rfl, hS1.sq, hv, _, rfl, ?_⟩
      -- pool[2] = pool[2] + 1
      refine ⟨_, rfl, p, _, _, _, rfl, rfl, SqL.of upd_same, rfl, _, _, rfl, rfl, _, rfl, p, _, _, 2, rfl, rfl, upd_same, rfl, ?_⟩
      rw [upd_upd]
      have c0 : 0 ≤ (if c < 0 then -c else c) := by split <;> omega
      generalize (if c < 0 then -c else c) = z at c0 ⊢
      -- if cell >= 10 ** 18
      refine ⟨_, rfl, _, _, rfl, rfl, ⟨by decide, by decide, by decide⟩, _, _, rfl, rfl, _, rfl, ?_⟩
      refine ite2 (fun hz => ?_) (fun hz => ?_)
      · refine ⟨_, rfl, _, rfl, p, _, _, 3, rfl, rfl, upd_same, rfl, ?_⟩
        rw [upd_upd]
        exact ⟨_, i + 1, z, m, rfl, hS.keep (fz _), upd_same, But.of, by omega, by omega, m0, m1⟩
      · have hz' : z < 1000000000000000000 := by
          have q : ¬ ((10 : Int) ^ (18 : Int).toNat ≤ z) := fun y => hz (decide_eq_true y)
          have e : (10 : Int) ^ (18 : Int).toNat = 1000000000000000000 := by decide
          rw [e] at q
          omega
        refine ⟨_, rfl, p, _, _, _, rfl, rfl, SqL.of upd_same, rfl, _, rfl, _, _, rfl, rfl, _, _, rfl, rfl, _, _, rfl, rfl, .inl ⟨by omega, by omega⟩, .inl ⟨_, rfl, ?_⟩⟩
        refine ⟨_, _, rfl, rfl, (by show (0 : Int) < 2147483629; decide), _, rfl, p, _, _, 4, rfl, rfl, upd_same, rfl, ?_⟩
        rw [upd_upd]
        exact ⟨_, i + 1, r, _, rfl, hS.keep (fz _), upd_same, But.of, by omega, r0, Int.emod_nonneg _ (by decide), Int.emod_lt_of_pos _ (by decide)⟩
    · rintro σ H2 ⟨c, i, r, m, rfl, hS2, hp2, bt, i0, r0, m0, m1⟩
      -- if pool[3] > 0
      refine ⟨_, rfl, p, _, _, _, rfl, rfl, SqL.of hp2, rfl, _, _, rfl, rfl, _, rfl, ?_⟩
      refine ite2 (fun hg => ?_) (fun _ => ?_)
      · refine ⟨_, rfl, p, _, _, _, rfl, rfl, SqL.of hp2, rfl, .inl ⟨_, rfl, ?_⟩⟩
        refine ⟨_, rfl, _, _, rfl, rfl, l0, ?_⟩
        refine ⟨_, rfl, p, _, _, _, rfl, rfl, SqL.of hp2, rfl, _, rfl, _, _, rfl, rfl, wide_div l0 l1 (by decide) (by decide), _, rfl, p, _, _, 3, rfl, rfl, hp2, rfl, ?_⟩
        refine ⟨_, rfl, ?_⟩
        exact k _ _ (Int.emod_nonneg _ (by omega)) (Int.emod_lt_of_pos _ l0) ⟨a, ns, n + 1, i, r / lim, m, hS2.keep (.upd (nfz_lst hp2)), upd_same, by omega, by omega, i0, Int.ediv_nonneg r0 (by omega), m0, m1⟩ (bt.trans But.of)
      · -- mixed = int((pool[4] + pool[1] * 7919) ** 3) mod 2147483647
        refine ⟨_, rfl, p, _, _, _, rfl, rfl, SqL.of hp2, rfl, _, rfl, p, _, _, _, rfl, rfl, SqL.of hp2, rfl, _, _, rfl, rfl, .inl ⟨by omega, by omega⟩, _, _, rfl, rfl, _, _, rfl, rfl, ⟨by decide, by decide, by omega⟩, .inl ⟨_, rfl, ?_⟩⟩
        refine ⟨_, _, rfl, rfl, (by show (0 : Int) < 2147483647; decide), ?_⟩
        refine ⟨_, rfl, _, _, rfl, rfl, ⟨by decide, by decide⟩, .inl ⟨_, rfl, ?_⟩⟩
        refine ⟨_, rfl, _, _, rfl, rfl, l0, ?_⟩
        exact k _ _ (Int.emod_nonneg _ (by omega)) (Int.emod_lt_of_pos _ l0) ⟨a, ns, n + 1, i, r, m, hS2, hp2, by omega, by omega, i0, r0, m0, m1⟩ bt
end
section
variable {P : Program} {w : World} {K : PySem.W.Frag} {mg : Str → Option Value} {base : Heap}
theorem catA_of {K : PySem.W.Frag} {H : Hp} {a b : Addr} {xs ys : List V} {Q : VK} (ha : H a = some (.tup xs)) (hb : H b = some (.tup ys)) (l : xs.length + ys.length ≤ sizeLine) (k : ∀ (H' : Hp) (c : Addr), Same H H' → H' c = some (.tup (xs ++ ys)) → Q (.ref c) H') : rCatA K (.ref a) (.ref b) H Q :=
  ⟨a, b, xs, ys, rfl, rfl, SqT.of ha, SqT.of hb, l, fun e => k H b (Same.refl H) (by rw [e]; exact hb), fun _ e => k H a (Same.refl H) (by rw [e, List.append_nil]; exact ha), fun _ _ p hp => k _ p (same_upd (Same.refl H) hp) upd_same⟩
theorem first_at {p : Int} : ∀ {ys : List Int}, p ∈ ys → ∃ j : Nat, ys[j]? = some p ∧ ∀ m : Nat, m < j → ys[m]? ≠ some p
  | a :: r, h => by
    by_cases e : a = p
    · exact ⟨0, by rw [e]; rfl, fun m hm => by omega⟩
    · obtain ⟨j, hj, hm⟩ := first_at ((List.mem_cons.mp h).resolve_left fun z => e z.symm)
      refine ⟨j + 1, hj, fun m hmj => ?_⟩
      cases m with
      | zero => exact fun z => e (Option.some.inj z)
      | succ m => exact hm m (by omega)
theorem Qa.but {H H' : Hp} {w0 a C dx : Addr} {fs : List (Str × V)} {xs : List V} (h : Qa H a xs) (hw : H w0 = some (.ins C dx fs)) (s : But1 w0 H H') : Qa H' a xs := by
  rcases h with h | h
  · exact .inl (s _ _ (ne_of h hw (by intro z; cases z)) h)
  · exact .inr (s _ _ (ne_of h hw (by intro z; cases z)) h)
abbrev s_Web_init : Stmt := inClass (top 24) 0
theorem sc_Web_init : FnScope ["self", "places", "edges", "entry", "exits", "edge"] ["self", "places", "edges", "entry", "exits"] (defScope s_Web_init) := ⟨rfl, rfl, rfl, by decide +kernel, rfl, by decide +kernel, by decide +kernel⟩
theorem ok_Web_init {fd : FuncData} (F : FunD K "__init__" "Web.__init__" (defArgs s_Web_init) (defBody s_Web_init) (defScope s_Web_init) [] [] (He.ma K (He.ga K "Web") "__init__") fd) (T : TxW K mg) (d_check_places : Okd P w K mg base CX0 2 (He.ga K "check_places") ["places"] spChkPlaces) (d_check_edges : Okd P w K mg base CX0 4 (He.ga K "check_edges") ["places", "edges"] spChkEdges) (d_check_entry : Okd P w K mg base CX0 3 (He.ga K "check_entry") ["places", "entry"] spChkEntry) (d_check_exits : Okd P w K mg base CX0 3 (He.ga K "check_exits") ["places", "exits"] spChkExits) (d_check_idle : Okd P w K mg base CX0 2 (He.ga K "check_idle") ["places", "edges", "entry", "exits"] spChkIdle) : FnOk P w K mg base CX0 5 (He.ma K (He.ga K "Web") "__init__") fd ["self", "places", "edges", "entry", "exits"] (spWebInit K) := by
  obtain ⟨fd_check_places, G_check_places, b_check_places⟩ := d_check_places
  obtain ⟨fd_check_edges, G_check_edges, b_check_edges⟩ := d_check_edges
  obtain ⟨fd_check_entry, G_check_entry, b_check_entry⟩ := d_check_entry
  obtain ⟨fd_check_exits, G_check_exits, b_check_exits⟩ := d_check_exits
  obtain ⟨fd_check_idle, G_check_idle, b_check_idle⟩ := d_check_idle
  refine F.ok sc_Web_init (fun vs H Q E h => by obtain ⟨w0, dx, n, e, ea, xa, L, xs, rfl, _⟩ := h; rfl) (fun cdv A outer s H vs Q E hr h => ?_)
  obtain ⟨w0, dx, n, e, ea, xa, L, xs, rfl, hw, hE, hX, good, q⟩ := h
  refine ⟨_, PSs.nox (pss_cons (ps_expr (pe_call G_check_places (hr.mono (by decide)) (by rfl) T.g_check_places T.k_check_places b_check_places .nil pass0 (pa_cons (pv 1) pa_nil)))
    (pss_cons (ps_expr (pe_call G_check_edges (hr.mono (by decide)) (by rfl) T.g_check_edges T.k_check_edges b_check_edges .nil pass0 (pa_cons (pv 1) (pa_cons (pv 2) pa_nil))))
    (pss_cons (ps_expr (pe_call G_check_entry (hr.mono (by decide)) (by rfl) T.g_check_entry T.k_check_entry b_check_entry .nil pass0 (pa_cons (pv 1) (pa_cons (pv 3) pa_nil))))
    (pss_cons (ps_expr (pe_call G_check_exits (hr.mono (by decide)) (by rfl) T.g_check_exits T.k_check_exits b_check_exits .nil pass0 (pa_cons (pv 1) (pa_cons (pv 4) pa_nil))))
    (pss_cons (ps_expr (pe_call G_check_idle (hr.mono (by decide)) (by rfl) T.g_check_idle T.k_check_idle b_check_idle .nil pass0 (pa_cons (pv 1) (pa_cons (pv 2) (pa_cons (pv 3) (pa_cons (pv 4) pa_nil))))))
    (pss_cons (ps_fld (pv 0) (pv 1) rfl)
    (pss_cons (ps_fld (pv 0) (pe_callTy call_tupleQ (by rfl) T.n_tuple (by decide +kernel) (pa_cons (pe_lc (own := [("edge", 5)]) (g := gName 5) (tt := tYes) rfl sc_Web_init.nd (pi_list (pv 2)) (blkOk_by (own := [("edge", 5)]) (N := ["self", "places", "edges", "entry", "exits", "edge"]) (sc := defScope s_Web_init) (by decide +kernel)) (fun _ _ _ _ _ => (pg_name (i := 5) sc_Web_init.nd rfl (Or.inl rfl))) (fun _ _ _ _ _ => pts_nil) (fun _ _ _ _ _ => (pe_callTy call_tupleQ (by rfl) T.n_tuple (by decide +kernel) (pa_cons (pv 5) pa_nil)))) pa_nil)) rfl)
    (pss_cons (ps_fld (pv 0) (pv 3) rfl)
    (pss_one (ps_fld (pv 0) (pe_callTy call_tupleF (by rfl) T.n_tuple (by decide +kernel) (pa_cons (pe_callB (cr_sortedSet rfl) (by rfl) T.n_sorted (by decide +kernel) (pa_cons (pe_callTy (cr_setI rfl) (by rfl) T.n_set (by decide +kernel) (pa_cons (pv 4) pa_nil)) pa_nil)) pa_nil)) rfl)))))))))), ?_⟩
  have lp : (pairs L).length = L.length := List.length_map ..
  have few := good.few
  refine ⟨_, rfl, n, rfl, good.n1, good.n2, ?_⟩
  refine ⟨_, rfl, _, rfl, n, ea, L, rfl, hE, by omega, good.nd, good.rng, fun H1 s1 => ?_⟩
  refine ⟨_, rfl, _, rfl, n, e, rfl, good.e0, good.e1, ?_⟩
  refine ⟨_, rfl, _, rfl, n, xa, xs, rfl, hX.same s1, good.x0, good.xr, ?_⟩
  refine ⟨_, rfl, _, rfl, _, rfl, _, rfl, n, e, ea, xa, L, xs, rfl, hE.same s1, hX.same s1, good, fun H2 s2 => ?_⟩
  have s12 := s1.trans s2
  have hw2 := s12 _ _ hw
  refine ⟨_, rfl, _, rfl, w0, _, dx, _, rfl, hw2, T.cl_Web, T.na_places, by decide, ?_⟩
  have b3 := (But1.of (w0 := w0) s12).trans (But1.set (o := .ins (He.ga K "Web") dx (putF "places" (.int n) [])))
  have hE3 := b3 _ _ (ne_of hE.1 hw (by intro z; cases z)) hE.1
  have hX3 := hX.but hw b3
  have hL3 : ∀ p ∈ L, _ := fun p hp => (hE.2 p hp).but hw b3
  have hw3 : (upd H2 w0 (.ins (He.ga K "Web") dx (putF "places" (.int n) []))) w0 = some (.ins (He.ga K "Web") dx (putF "places" (.int n) [])) := upd_same
  revert b3 hE3 hX3 hL3 hw3
  generalize upd H2 w0 (.ins (He.ga K "Web") dx (putF "places" (.int n) [])) = H3
  intro b3 hE3 hX3 hL3 hw3
  refine ⟨_, rfl, ea, rfl, ⟨_, SqL.of hE3⟩, fun D hD => lc_list (K := K) (a := ea) (xs := L.map fun p => V.ref p.1)
    (fun j H' => ∃ M : List (Addr × Edge), Same H3 H' ∧ H' D = some (.lst (M.map fun p => V.ref p.1)) ∧ (∀ p ∈ M, H' p.1 = some (.tup [.int p.2.1, .int p.2.2])) ∧ pairs M = (pairs L).take j)
    ⟨[], same_upd (Same.refl H3) hD, upd_same, (fun _ z => nomatch z), rfl⟩ (fun j H' _ h => by obtain ⟨_, s, _⟩ := h; exact SqL.of (s _ _ hE3)) ?_ ?_⟩
  · rintro j x H4 hj ⟨M, s4, hM, hMs, eM⟩
    obtain ⟨t, u, z, rfl, hLi, he, hpi⟩ := edge_at hE hj
    refine ⟨rfl, _, rfl, t, _, rfl, (hL3 _ (List.mem_of_getElem? hLi)).same s4, fun b H5 s5 hb => ?_⟩
    have hM5 := s5 _ _ hM
    have hlM : M.length = ((pairs L).take j).length := by
      have := congrArg List.length eM
      rw [List.length_map] at this
      exact this
    have hjl : M.length ≤ 60 := by
      rw [hlM, List.length_take]
      omega
    refine ⟨M.map fun p => V.ref p.1, hM5, ?_, ?_⟩
    · rw [List.length_map]
      exact Nat.lt_of_le_of_lt hjl (by decide)
    · refine ⟨M ++ [(b, (u, z))], fun b o e => ?_, ?_, fun p hp => ?_, ?_⟩
      · rw [upd_ne (ne_of_none e hD)]
        exact s5 _ _ (s4 b o e)
      · rw [upd_same, List.map_append]
        rfl
      · rcases List.mem_append.mp hp with hp | hp
        · have h0 := s5 _ _ (hMs p hp)
          rw [upd_ne (ne_of h0 hM5 (by intro z; cases z))]
          exact h0
        · rw [List.mem_singleton.mp hp]
          rw [upd_ne (ne_of hb hM5 (by intro z; cases z))]
          exact hb
      · rw [take_next hpi, ← eM]
        exact List.map_append ..
  rintro H4 ⟨M, s4, hM, hMs, eM⟩
  rw [List.length_map, ← lp, List.take_length] at eM
  refine ⟨D, _, rfl, .inl hM, fun te H5 s5 hte => ?_⟩
  have s45 := s4.trans s5
  have hw5 := s45 _ _ hw3
  refine ⟨_, rfl, w0, _, dx, _, rfl, hw5, T.cl_Web, T.na_edges, (by show (1 : Nat) < 1000; decide), ?_⟩
  refine ⟨_, rfl, _, rfl, w0, _, dx, _, rfl, upd_same, T.cl_Web, T.na_entry, (by show (2 : Nat) < 1000; decide), ?_⟩
  have b6 := ((b3.trans (But1.of s45)).trans (But1.set (o := .ins (He.ga K "Web") dx (putF "edges" (.ref te) (putF "places" (.int n) []))))).trans (But1.set (o := .ins (He.ga K "Web") dx (putF "entry" (.int e) (putF "edges" (.ref te) (putF "places" (.int n) [])))))
  have hX6 := hX.but hw b6
  have c6 := (But1.set (w0 := w0) (H := H5) (o := .ins (He.ga K "Web") dx (putF "edges" (.ref te) (putF "places" (.int n) [])))).trans (But1.set (o := .ins (He.ga K "Web") dx (putF "entry" (.int e) (putF "edges" (.ref te) (putF "places" (.int n) [])))))
  have nw : ∀ {c : Addr} {ys : List V}, H5 c = some (.tup ys) → c ≠ w0 := fun {c ys} e => ne_of e hw5 (by intro z; cases z)
  have hte6 := c6 _ _ (nw hte) hte
  have hMs6 : ∀ p ∈ M, _ := fun p hp => c6 _ _ (nw (s5 _ _ (hMs p hp))) (s5 _ _ (hMs p hp))
  have hw6 : (upd (upd H5 w0 (.ins (He.ga K "Web") dx (putF "edges" (.ref te) (putF "places" (.int n) [])))) w0 (.ins (He.ga K "Web") dx (putF "entry" (.int e) (putF "edges" (.ref te) (putF "places" (.int n) []))))) w0 = some (.ins (He.ga K "Web") dx (putF "entry" (.int e) (putF "edges" (.ref te) (putF "places" (.int n) [])))) := upd_same
  refine ⟨_, rfl, xa, xs, rfl, hX6.sq, good.xf, fun sa c hsa hc => ?_⟩
  have xf := good.xf
  refine ⟨sa, _, c, rfl, upd_same, by omega, fun ys l pw mem len hl => ?_⟩
  refine ⟨l, _, rfl, SqL.of upd_same, fun tx ot htx0 oc od => ?_⟩
  have s69 := (same_upd (same_upd (Same.refl _) hsa) hl).trans (same_upd (o := .frz ot (.tup (ys.map V.int))) (Same.refl _) htx0)
  refine ⟨_, rfl, w0, _, dx, _, rfl, s69 _ _ hw6, T.cl_Web, T.na_exits, (by show (3 : Nat) < 1000; decide), ?_⟩
  have e9 : ∀ {c : Addr} {ob : HO} {H9 : Hp}, (∀ C dx fs, ob ≠ .ins C dx fs) → (∃ C dx fs, H9 w0 = some (.ins C dx fs)) → H9 c = some ob → ∀ o, (upd H9 w0 o) c = some ob := fun {c ob H9} ne hw9 e o => by
    obtain ⟨C, dx, fs, hw9⟩ := hw9
    rw [upd_ne (ne_of e hw9 (ne C dx fs))]
    exact e
  have hw9 := s69 _ _ hw6
  refine q _ ys ((b6.trans (But1.of s69)).trans But1.set) ⟨⟨by omega, by omega⟩, dx, te, tx, M, ot, ?_, e9 (by intro _ _ _ z; cases z) ⟨_, _, _, hw9⟩ (s69 _ _ hte6) _, fun p hp => e9 (by intro _ _ _ z; cases z) ⟨_, _, _, hw9⟩ (s69 _ _ (hMs6 p hp)) _, eM, e9 (by intro _ _ _ z; cases z) ⟨_, _, _, hw9⟩ upd_same _, oc, od⟩ pw fun k => (mem k).trans decide_eq_true_iff
  rw [upd_same]
  rfl
abbrev s_Web_eq : Stmt := inClass (top 24) 1
theorem sc_Web_eq : FnScope ["self", "other"] ["self", "other"] (defScope s_Web_eq) := ⟨rfl, rfl, rfl, by decide +kernel, rfl, by decide +kernel, by decide +kernel⟩
theorem ok_Web_eq {fd : FuncData} (F : FunD K "__eq__" "Web.__eq__" (defArgs s_Web_eq) (defBody s_Web_eq) (defScope s_Web_eq) [] [] (He.ma K (He.ga K "Web") "__eq__") fd) (T : TxW K mg) : FnOk P w K mg base CX0 1 (He.ma K (He.ga K "Web") "__eq__") fd ["self", "other"] (spWebEq K) := by
  refine F.ok sc_Web_eq (fun vs H Q E h => by obtain ⟨a, b, n, n', e, e', es, es', ys, ys', rfl, _⟩ := h; rfl) (fun cdv A outer s H vs Q E hr h => ?_)
  obtain ⟨a, b, n, n', e, e', es, es', ys, ys', rfl, hA, hB, q⟩ := h
  refine ⟨_, PSs.nox (pss_one (ps_ret (pe_and (pe_callB (C8.call_isC T.ins_Web) (by rfl) T.n_isinstance (by decide +kernel) (pa_cons (pv 1) (pa_cons (pe_glob (v := .ref (He.ga K "Web")) rfl T.g_Web rfl) pa_nil))) (pe_and (pe_cmpR (op_eqD hr.units) (pe_fld (pv 0) rfl) (pe_fld (pv 1) rfl) (nomark _)) (pe_and (pe_cmpR (op_eqD hr.units) (pe_fld (pv 0) rfl) (pe_fld (pv 1) rfl) (nomark _)) (pe_and (pe_cmpR (op_eqD hr.units) (pe_fld (pv 0) rfl) (pe_fld (pv 1) rfl) (nomark _)) (pe_one (pe_cmpR (op_eqD hr.units) (pe_fld (pv 0) rfl) (pe_fld (pv 1) rfl) (nomark _))))))))), ?_⟩
  obtain ⟨dx, te, tx, M, ot, h1, h2, h3, h4, h5, h6⟩ := hA.at_
  obtain ⟨dy, te', tx', M', ot', i1, i2, i3, i4, i5, i6⟩ := hB.at_
  refine ⟨_, rfl, b, dy, _, rfl, i1, _, rfl, ?_⟩
  refine iteT ?_
  refine ⟨_, rfl, a, _, dx, _, _, rfl, h1, T.cl_Web, T.na_places, rfl, _, rfl, b, _, dy, _, _, rfl, i1, T.cl_Web, T.na_places, rfl, .int n, .int n', .int n, .int n', rfl, rfl, _, rfl, ?_⟩
  have dI : ∀ {x y : Int}, PyData.eqv (.int x) (.int y) = decide (x = y) := fun {x y} => by
    show (x == y) = decide (x = y)
    rw [Bool.eq_iff_iff, beq_iff_eq, decide_eq_true_iff]
  rw [dI]
  by_cases c1 : n = n'
  case neg =>
    rw [decide_eq_false c1]
    rw [decide_eq_false (fun z => c1 z.1)] at q
    exact iteF q
  rw [decide_eq_true c1]
  refine iteT ?_
  refine ⟨_, rfl, a, _, dx, _, _, rfl, h1, T.cl_Web, T.na_edges, rfl, _, rfl, b, _, dy, _, _, rfl, i1, T.cl_Web, T.na_edges, rfl, _, _, .tup (SqT.of h2) (dp_pairs M h3), .tup (SqT.of i2) (dp_pairs M' i3), shaped_pairs _, shaped_pairs _, _, rfl, ?_⟩
  have dE : PyData.eqv (.tuple ((M.map (·.2)).map dP)) (.tuple ((M'.map (·.2)).map dP)) = decide (es = es') := by
    show PyData.eqvAll _ _ = _
    rw [eqv_pairs]
    show decide (pairs M = pairs M') = _
    rw [h4, i4]
  rw [dE]
  by_cases c2 : es = es'
  case neg =>
    rw [decide_eq_false c2]
    rw [decide_eq_false (fun z => c2 z.2.1)] at q
    exact iteF q
  rw [decide_eq_true c2]
  refine iteT ?_
  refine ⟨_, rfl, a, _, dx, _, _, rfl, h1, T.cl_Web, T.na_entry, rfl, _, rfl, b, _, dy, _, _, rfl, i1, T.cl_Web, T.na_entry, rfl, .int e, .int e', .int e, .int e', rfl, rfl, _, rfl, ?_⟩
  rw [dI]
  by_cases c3 : e = e'
  case neg =>
    rw [decide_eq_false c3]
    rw [decide_eq_false (fun z => c3 z.2.2.1)] at q
    exact iteF q
  rw [decide_eq_true c3]
  refine iteT ?_
  refine ⟨_, rfl, a, _, dx, _, _, rfl, h1, T.cl_Web, T.na_exits, rfl, _, rfl, b, _, dy, _, _, rfl, i1, T.cl_Web, T.na_exits, rfl, _, _, .tup (sqF h5) (dp_ints ys), .tup (sqF i5) (dp_ints ys'), shaped_ints _, shaped_ints _, ?_⟩
  have dY : PyData.eqv (.tuple (ys.map PyData.int)) (.tuple (ys'.map PyData.int)) = decide (n = n' ∧ es = es' ∧ e = e' ∧ ys = ys') := by
    show PyData.eqvAll _ _ = _
    rw [eqv_ints, Bool.eq_iff_iff, decide_eq_true_iff, decide_eq_true_iff]
    exact ⟨fun z => ⟨c1, c2, c3, z⟩, fun z => z.2.2.2⟩
  rw [dY]
  exact q
abbrev s_Web_gates : Stmt := inClass (top 24) 2
theorem sc_Web_gates : FnScope ["self"] ["self"] (defScope s_Web_gates) := ⟨rfl, rfl, rfl, by decide +kernel, rfl, by decide +kernel, by decide +kernel⟩
theorem ok_Web_gates {fd : FuncData} (F : FunD K "gates" "Web.gates" (defArgs s_Web_gates) (defBody s_Web_gates) (defScope s_Web_gates) [] [] (wG K) fd) (T : TxW K mg) : FnOk P w K mg base CX0 1 (wG K) fd ["self"] (spGates K) := by
  refine F.ok sc_Web_gates (fun vs H Q E h => by obtain ⟨a, n, e, es, ys, rfl, _⟩ := h; rfl) (fun cdv A outer s H vs Q E hr h => ?_)
  obtain ⟨a, n, e, es, ys, rfl, hA, q⟩ := h
  refine ⟨_, PSs.nox (pss_one (ps_ret (pe_op op_add (pe_op op_add (pe_callB call_len_seq (by rfl) T.n_len PySem.boot_len (pa_cons (pe_fld (pv 0) rfl) pa_nil)) pe_int) (pe_callB call_len_seq (by rfl) T.n_len PySem.boot_len (pa_cons (pe_fld (pv 0) rfl) pa_nil))))), ?_⟩
  obtain ⟨dx, te, tx, M, ot, h1, h2, h3, h4, h5, h6⟩ := hA.at_
  refine ⟨_, rfl, a, _, dx, _, _, rfl, h1, T.cl_Web, T.na_edges, rfl, te, _, rfl, .inr (SqT.of h2), _, _, rfl, rfl, _, rfl, a, _, dx, _, _, rfl, h1, T.cl_Web, T.na_exits, rfl, tx, _, rfl, .inr (sqF h5), _, _, rfl, rfl, ?_⟩
  have l1 : M.length = es.length := by rw [← h4]; exact (List.length_map ..).symm
  rw [List.length_map, List.length_map, l1]
  exact q
abbrev s_gate_pairs : Stmt := top 25
theorem sc_gate_pairs : FnScope ["web", "place"] ["web"] (defScope s_gate_pairs) := ⟨rfl, rfl, rfl, by decide +kernel, rfl, by decide +kernel, by decide +kernel⟩
theorem ok_gate_pairs {fd : FuncData} (F : FunD K "gate_pairs" "gate_pairs" (defArgs s_gate_pairs) (defBody s_gate_pairs) (defScope s_gate_pairs) [] [] (He.ga K "gate_pairs") fd) (T : TxW K mg) : FnOk P w K mg base CX0 1 (He.ga K "gate_pairs") fd ["web"] (spPairs K) := by
  obtain ⟨tO, gO⟩ := T.c_OUTSIDE
  refine F.ok sc_gate_pairs (fun vs H Q E h => by obtain ⟨a, n, e, es, ys, rfl, _⟩ := h; rfl) (fun cdv A outer s H vs Q E hr h => ?_)
  obtain ⟨a, n, e, es, ys, rfl, hA, q⟩ := h
  refine ⟨_, PSs.nox (pss_one (ps_ret (pe_op op_catA (pe_op op_catA (pe_fld (pv 0) rfl) (pe_tup (pa_cons (pe_tup (pa_cons (pe_glob (v := .int (-1)) rfl gO ⟨_, rfl⟩) (pa_cons (pe_fld (pv 0) rfl) pa_nil))) pa_nil))) (pe_callTy call_tupleQ (by rfl) T.n_tuple (by decide +kernel) (pa_cons (pe_lc (own := [("place", 1)]) (g := gName 1) (tt := tYes) rfl sc_gate_pairs.nd (pi_tup (pe_fld (pv 0) rfl)) (blkOk_by (own := [("place", 1)]) (N := ["web", "place"]) (sc := defScope s_gate_pairs) (by decide +kernel)) (fun _ _ _ _ _ => (pg_name (i := 1) sc_gate_pairs.nd rfl (Or.inl rfl))) (fun _ _ _ _ _ => pts_nil) (fun _ _ _ _ _ => (pe_tup (pa_cons (pv 1) (pa_cons (pe_glob (v := .int (-1)) rfl gO ⟨_, rfl⟩) pa_nil))))) pa_nil))))), ?_⟩
  obtain ⟨dx, te, tx, M, ot, h1, h2, h3, h4, h5, h6⟩ := hA.at_
  have lM : M.length = es.length := by rw [← h4]; exact (List.length_map ..).symm
  have few := hA.few
  refine ⟨_, rfl, a, _, dx, _, _, rfl, h1, T.cl_Web, T.na_edges, rfl, _, rfl, a, _, dx, _, _, rfl, h1, T.cl_Web, T.na_entry, rfl, (by show 2 ≤ sizeLine; decide), fun tp ht => ⟨(by show 1 ≤ sizeLine; decide), fun to hto => ?_⟩⟩
  have s2 := same_upd (o := .tup [.ref tp]) (same_upd (o := .tup [.int (-1), .int e]) (Same.refl H) ht) hto
  have htp : (upd (upd H tp (.tup [.int (-1), .int e])) to (.tup [.ref tp])) tp = some (.tup [.int (-1), .int e]) := by rw [upd_ne (ne_of_none (o := .tup [.int (-1), .int e]) upd_same hto), upd_same]
  have hto' : (upd (upd H tp (.tup [.int (-1), .int e])) to (.tup [.ref tp])) to = some (.tup [.ref tp]) := upd_same
  revert s2 htp hto'
  generalize upd (upd H tp (.tup [.int (-1), .int e])) to (.tup [.ref tp]) = H2
  intro s2 htp hto'
  refine catA_of (s2 _ _ h2) hto' (by rw [List.length_map]; exact Nat.le_trans (show M.length + 1 ≤ 1000 by omega) (by decide)) fun H3 c1 s3 hc1 => ?_
  have s13 := s2.trans s3
  refine ⟨_, rfl, a, _, dx, _, _, rfl, s13 _ _ h1, T.cl_Web, T.na_exits, rfl, tx, rfl, ⟨_, sqF (s13 _ _ h5)⟩, fun D hD => lc_tup (K := K) (a := tx) (xs := ys.map V.int) (fun j H' => ∃ X : List (Addr × Edge), Same H3 H' ∧ H' D = some (.lst (X.map fun p => V.ref p.1)) ∧ (∀ p ∈ X, H' p.1 = some (.tup [.int p.2.1, .int p.2.2])) ∧ pairs X = (ys.take j).map fun y => (y, -1))
    ⟨[], same_upd (Same.refl H3) hD, upd_same, (fun _ z => nomatch z), rfl⟩ (fun j H' _ h => by obtain ⟨_, s, _⟩ := h; exact sqF (s _ _ (s13 _ _ h5))) ?_ ?_⟩
  · rintro j x H4 hj ⟨X, s4, hX, hXs, eX⟩
    obtain ⟨y, hy, rfl⟩ := int_at hj
    refine ⟨rfl, _, rfl, (by show 2 ≤ sizeLine; decide), fun u hu => ?_⟩
    have lX : X.length ≤ 200 := by
      have := congrArg List.length eX
      rw [List.length_map, List.length_map, List.length_take] at this
      omega
    have nD : D ≠ u := ne_of_none hX hu
    refine ⟨X.map fun p => V.ref p.1, by rw [upd_ne nD]; exact hX, ?_, X ++ [(u, (y, -1))], fun b o h => ?_, ?_, fun p hp => ?_, ?_⟩
    · rw [List.length_map]
      exact Nat.lt_of_le_of_lt lX (by decide)
    · rw [upd_ne (ne_of_none h hD), upd_ne (ne_of_none (s4 b o h) hu)]
      exact s4 b o h
    · rw [upd_same, List.map_append]
      rfl
    · rcases List.mem_append.mp hp with hp | hp
      · have h0 := hXs p hp
        rw [upd_ne (ne_of h0 hX (by intro z; cases z)), upd_ne (ne_of_none h0 hu)]
        exact h0
      · rw [List.mem_singleton.mp hp]
        rw [upd_ne nD.symm, upd_same]
    · rw [take_next hy, List.map_append, ← eX]
      exact List.map_append ..
  rintro H4 ⟨X, s4, hX, hXs, eX⟩
  rw [List.length_map, List.take_length] at eX
  refine ⟨D, _, rfl, .inl hX, fun tb H5 s5 htb => ?_⟩
  have lX : X.length = ys.length := by
    have := congrArg List.length eX
    rw [List.length_map, List.length_map] at this
    exact this
  have s35 := s4.trans s5
  refine catA_of (s35 _ _ hc1) htb (by rw [List.length_append, List.length_map, List.length_map]; exact Nat.le_trans (show M.length + 1 + X.length ≤ 1000 by omega) (by decide)) fun H6 t s6 ht6 => ?_
  have s36 := s35.trans s6
  refine q H6 t (M ++ [(tp, (-1, e))] ++ X) (s13.trans s36) ?_ (fun p hp => ?_) ?_
  · rw [ht6, List.map_append, List.map_append]
    rfl
  · rcases List.mem_append.mp hp with hp | hp
    · rcases List.mem_append.mp hp with hp | hp
      · exact (s13.trans s36) _ _ (h3 p hp)
      · rw [List.mem_singleton.mp hp]
        exact (s3.trans s36) _ _ htp
    · exact (s5.trans s6) _ _ (hXs p hp)
  · rw [show pairs (M ++ [(tp, ((-1 : Int), e))] ++ X) = pairs M ++ [((-1 : Int), e)] ++ pairs X by show List.map _ _ = _; rw [List.map_append, List.map_append]; rfl, h4, eX]
    unfold allG
    rw [List.append_assoc]
    rfl
end
section
variable {P : Program} {w : World} {K : PySem.W.Frag} {mg : Str → Option Value} {base : Heap}

theorem units65 {k : Nat} {A : Around} (r : Room k A) : A.units + 65 < cLine := by have := r.un; omega
theorem But.one {p : Addr} {H H' : Hp} (b : But p H H') : But1 p H H' := fun c o n e => (b.1 c n).trans e
theorem But1.refl (p : Addr) (H : Hp) : But1 p H H := fun _ _ _ e => e
theorem But1.new {p q : Addr} {H H' : Hp} {x : HO} (b : But1 p H H') (n : H q = none) : But1 p H (upd H' q x) := fun c o nc e => by
  rw [upd_ne (ne_of_none e n)]
  exact b c o nc e
theorem But1.none {p q : Addr} {H H' : Hp} (b : But1 p H H') (n : H' q = none) (ne : q ≠ p) : H q = none := by
  cases h : H q with
  | none => rfl
  | some o =>
    rw [b q o ne h] at n
    cases n
theorem PoolAt.lst {K : PySem.W.Frag} {H : Hp} {p : Addr} {b : Nat} (h : PoolAt K H p b) : ∃ xs, H p = some (.lst xs) := by
  obtain ⟨a, ns, n, i, r, m, h1, h2, h3⟩ := h
  exact ⟨_, h2⟩
/-- the pairs of a list: each a tuple -/
abbrev eR (L : List (Addr × Edge)) : List V := L.map fun p => V.ref p.1
structure EdT (H : Hp) (ea : Addr) (L : List (Addr × Edge)) : Prop where
  at_ : H ea = some (.lst (eR L))
  tup : ∀ p ∈ L, H p.1 = some (.tup [.int p.2.1, .int p.2.2])
theorem EdT.edges {H : Hp} {ea : Addr} {L : List (Addr × Edge)} (h : EdT H ea L) : EdgesAt H ea L := ⟨h.at_, fun p hp => .inr (h.tup p hp)⟩
theorem EdT.same {H H' : Hp} {ea : Addr} {L : List (Addr × Edge)} (h : EdT H ea L) (s : Same H H') : EdT H' ea L := ⟨s _ _ h.at_, fun p hp => s _ _ (h.tup p hp)⟩
theorem EdT.new {H : Hp} {ea q : Addr} {L : List (Addr × Edge)} {x : HO} (h : EdT H ea L) (n : H q = none) : EdT (upd H q x) ea L := h.same (same_upd (Same.refl H) n)
theorem EdT.but {K : PySem.W.Frag} {H H' : Hp} {p ea : Addr} {b : Nat} {L : List (Addr × Edge)} (h : EdT H ea L) (P : PoolAt K H p b) (s : But1 p H H') (ne : ea ≠ p) : EdT H' ea L := by
  obtain ⟨xs, hp⟩ := P.lst
  exact ⟨s _ _ ne h.at_, fun q hq => s _ _ (ne_of (h.tup q hq) hp (by intro z; cases z)) (h.tup q hq)⟩
theorem EdT.set {H : Hp} {ea q : Addr} {L : List (Addr × Edge)} {xs ys : List V} (h : EdT H ea L) (hq : H q = some (.lst xs)) (ne : ea ≠ q) : EdT (upd H q (.lst ys)) ea L :=
  ⟨by rw [upd_ne ne]; exact h.at_, fun r hr => by rw [upd_ne (ne_of (h.tup r hr) hq (by intro z; cases z))]; exact h.tup r hr⟩
theorem EdT.ins {H : Hp} {ea tp : Addr} {L : List (Addr × Edge)} {i : Nat} {u v : Int} (h : EdT H ea L) (ht : H tp = some (.tup [.int u, .int v])) :
    EdT (upd H ea (.lst ((eR L).take i ++ [.ref tp] ++ (eR L).drop i))) ea (L.take i ++ [(tp, (u, v))] ++ L.drop i) := by
  refine ⟨?_, fun r hr => ?_⟩
  · rw [upd_same]
    unfold eR
    rw [List.map_append, List.map_append, List.map_take, List.map_drop]
    rfl
  · have hr' := (perm_ins L i (tp, (u, v))).mem_iff.mp hr
    rcases List.mem_cons.mp hr' with rfl | hr'
    · rw [upd_ne (ne_of ht h.at_ (by intro z; cases z))]
      exact ht
    · rw [upd_ne (ne_of (h.tup r hr') h.at_ (by intro z; cases z))]
      exact h.tup r hr'
theorem EdT.app {H : Hp} {la lb p : Addr} {L M : List (Addr × Edge)} (h : EdT H la L) (k : EdT H lb M) (n : H p = none) : EdT (upd H p (.lst (eR L ++ eR M))) p (L ++ M) := by
  refine ⟨by rw [upd_same]; unfold eR; rw [List.map_append], fun q hq => ?_⟩
  rcases List.mem_append.mp hq with hq | hq
  · rw [upd_ne (ne_of_none (h.tup q hq) n)]
    exact h.tup q hq
  · rw [upd_ne (ne_of_none (k.tup q hq) n)]
    exact k.tup q hq
theorem size_le {α : Type} {l : List α} {n : Nat} (h : l.length ≤ n) (hn : n ≤ sizeLine := by decide) : l.length ≤ sizeLine := Nat.le_trans h hn
theorem pairs_ins (L : List (Addr × Edge)) (i : Nat) (x : Addr × Edge) : (pairs (L.take i ++ [x] ++ L.drop i)).Perm (x.2 :: pairs L) := (perm_ins L i x).map _
theorem len_ins {α : Type} (L : List α) (i : Nat) (x : α) : (L.take i ++ [x] ++ L.drop i).length = L.length + 1 := (perm_ins L i x).length_eq
theorem ints_ins (l : List Int) (i : Nat) (x : Int) : (l.map V.int).take i ++ [V.int x] ++ (l.map V.int).drop i = (l.take i ++ [x] ++ l.drop i).map V.int := by
  rw [List.map_append, List.map_append, List.map_take, List.map_drop]
  rfl
theorem any_pairs (q : Edge) (l : List Edge) : ((l.map dP).any fun z => PyData.eqv z (dP q)) = decide (q ∈ l) := by
  induction l with
  | nil => rfl
  | cons a r ih =>
    rw [List.map_cons, List.any_cons, ih, eqv_pair, Bool.eq_iff_iff, Bool.or_eq_true, decide_eq_true_iff, decide_eq_true_iff, decide_eq_true_iff, List.mem_cons]
    exact ⟨fun z => z.elim (fun z => .inl z.symm) .inr, fun z => z.elim (fun z => .inl z.symm) .inr⟩
theorem shaped_lpairs (as : List (Int × Int)) : SeqAt.shaped (.list (as.map dP)) = true := by
  unfold SeqAt.shaped
  have e : (PyData.list (as.map dP)).canLay0 = true := lay_pairs as
  have d : (PyData.list (as.map dP)).depth ≤ 64 := by
    have h2 := depth_pairs as
    simp only [PyData.depth]
    omega
  rw [e, decide_eq_true d]
  rfl
theorem shaped_lints (as : List Int) : SeqAt.shaped (.list (as.map PyData.int)) = true := by
  unfold SeqAt.shaped
  have e : (PyData.list (as.map PyData.int)).canLay0 = true := lay_ints as
  have d : (PyData.list (as.map PyData.int)).depth ≤ 64 := by
    have h2 := depth_ints as
    simp only [PyData.depth]
    omega
  rw [e, decide_eq_true d]
  rfl
/-- what _law_web tells -/
structure Told (H : Hp) (t : Addr) (n : Int) (L : List (Addr × Edge)) (e : Int) (gs : List Int) (pa ga : Addr) : Prop where
  at_ : H t = some (.tup [.int n, .ref pa, .int e, .ref ga])
  ed : EdT H pa L
  go : H ga = some (.lst (gs.map V.int))
theorem Told.same {H H' : Hp} {t : Addr} {n : Int} {L : List (Addr × Edge)} {e : Int} {gs : List Int} {pa ga : Addr} (h : Told H t n L e gs pa ga) (s : Same H H') : Told H' t n L e gs pa ga := ⟨s _ _ h.at_, h.ed.same s, s _ _ h.go⟩
def spDrawWeb (K : PySem.W.Frag) : Sp := fun vs H Q _ => ∃ (p : Addr) (b : Nat) (mo ex : Int), vs = [.ref p, .int mo, .int ex] ∧ PoolAt K H p b ∧ 2000 ≤ b ∧ 1 ≤ mo ∧ mo ≤ 24 ∧ 0 ≤ ex ∧ 2 * mo + ex < 60 ∧
  ∀ (H' : Hp) (t : Addr) (n : Int) (L : List (Addr × Edge)) (e : Int) (gs : List Int) (pa ga : Addr), But1 p H H' → PoolAt K H' p (b - 2000) → Told H' t n L e gs pa ga → Good n (pairs L) e gs → gs.Nodup → n ≤ mo → (L.length : Int) ≤ 2 * mo + ex → pa ≠ p → ga ≠ p → H pa = none → H ga = none → H t = none → Q (.ref t) H'
def spAhead : Sp := fun vs H Q _ => ∃ (pa ga : Addr) (L : List (Addr × Edge)) (gs : List Int), vs = [.ref pa, .ref ga] ∧ EdgesAt H pa L ∧ H ga = some (.lst (gs.map V.int)) ∧ L.length < 1000 ∧ gs.length < 1000 ∧
  ∀ (H' : Hp) (m : Addr) (ms : List Int), Same H H' → H' m = some (.lst (ms.map V.int)) → (∀ v, v ∈ ms ↔ ∃ g ∈ gs, Reach (pairs L) v g) → Q (.ref m) H'
abbrev s_ahead : Stmt := top 41
theorem sc_ahead : FnScope ["_law_pairs", "_law_goals", "_law_met", "_law_turn", "_law_one", "_law_two"] ["_law_pairs", "_law_goals"] (defScope s_ahead) := ⟨rfl, rfl, rfl, by decide +kernel, rfl, by decide +kernel, by decide +kernel⟩
theorem ok_ahead {fd : FuncData} (F : FunD K "_law_ahead" "_law_ahead" (defArgs s_ahead) (defBody s_ahead) (defScope s_ahead) [] [] (He.ga K "_law_ahead") fd) (T : TxW K mg) : FnOk P w K mg base CX0 1 (He.ga K "_law_ahead") fd ["_law_pairs", "_law_goals"] spAhead := by
  refine F.ok sc_ahead (fun vs H Q E h => by obtain ⟨pa, ga, L, gs, rfl, _⟩ := h; rfl) (fun cdv A outer s H vs Q E hr h => ?_)
  obtain ⟨pa, ga, L, gs, rfl, hE, hG, l1, l2, q⟩ := h
  refine ⟨_, PSs.nox (pss_cons (ps_set (i := 2) sc_ahead.nd rfl (Or.inl rfl) (pe_callTy call_list_of (by rfl) T.n_list (by decide +kernel) (pa_cons (pv 1) pa_nil)))
    (pss_cons (ps_for PassesOwn.never rfl (pi_range1 rfl T.n_range (pa_cons (pe_callB call_len_seq (by rfl) T.n_len PySem.boot_len (pa_cons (pv 0) pa_nil)) pa_nil)) (pg_name (i := 3) sc_ahead.nd rfl (Or.inl rfl))
      (pss_one (ps_for PassesOwn.never rfl (pi_list (pv 0)) (pg_seq rfl (pgs_cons (pg_name (i := 4) sc_ahead.nd rfl (Or.inl rfl)) (pgs_cons (pg_name (i := 5) sc_ahead.nd rfl (Or.inl rfl)) pgs_nil)))
      (pss_one (ps_if (PW.pt (pw_and (pt_cmpR op_in_seq (pv 5) (pv 2) (by first | exact nomark _ | rfl)) (pw_and1 (pt_cmpR op_notIn_seq (pv 4) (pv 2) (by first | exact nomark _ | rfl))))) (pss_one (ps_expr (pe_bm PySem.F.plainAttrs_list PySem.F.slot_list_append PySem.F.type_list_append mt_append (pv 2) (pa_cons (pv 4) pa_nil)))) pss_nil)))))
    (pss_one (ps_ret (pv 2))))), ?_⟩
  have lp : (pairs L).length = L.length := List.length_map ..
  refine ⟨_, rfl, ga, _, rfl, .inl (SqL.of hG), fun m hm => ?_⟩
  refine ⟨_, rfl, pa, _, rfl, .inl (SqL.of ((same_upd (Same.refl H) hm) _ _ hE.1)), ?_⟩
  rw [List.length_map]
  refine ⟨_, rfl, by omega, by omega, for_range (lo := 0) (n := L.length) (fun i σ' H' => ∃ (v3 v4 v5 : Option V) (ad ms : List Int), σ' = [some (.ref pa), some (.ref ga), some (.ref m), v3, v4, v5] ∧ Same H H' ∧ H' m = some (.lst (ms.map V.int)) ∧ Turns (pairs L) gs i ad ms)
    ⟨none, none, none, [], gs, rfl, same_upd (Same.refl H) hm, upd_same, Met.start _ _, .inr (Nat.le_refl _)⟩ ?_ ?_⟩
  · rintro i σ1 H1 hi ⟨v3, v4, v5, ad, ms, rfl, s1, hm1, T1⟩
    refine ⟨_, rfl, pa, rfl, ⟨_, SqL.of (s1 _ _ hE.1)⟩, for_list (K := K) (a := pa) (xs := L.map fun p => V.ref p.1) (fun j σ' H' => ∃ (v4 v5 : Option V) (ad' ms' : List Int), σ' = [some (.ref pa), some (.ref ga), some (.ref m), some (.int (0 + (i : Nat))), v4, v5] ∧ Same H H' ∧ H' m = some (.lst (ms'.map V.int)) ∧ Turn (pairs L) gs ad ms j ad' ms')
      ⟨v4, v5, ad, ms, rfl, s1, hm1, Turn.start T1.met⟩ (fun j σ' H' _ h => by obtain ⟨_, _, _, _, _, s, _⟩ := h; exact SqL.of (s _ _ hE.1)) ?_ ?_⟩
    · rintro j x σ2 H2 hj ⟨v4, v5, ad', ms', rfl, s2, hm2, t2⟩
      obtain ⟨t, u, z, rfl, hLi, he, hpi⟩ := edge_at hE hj
      refine ⟨t, _, rfl, (he.same s2).sq, rfl, _, _, rfl, _, _, rfl, rfl, ?_⟩
      refine ⟨_, rfl, _, rfl, m, _, rfl, .inl (SqL.of hm2), rfl, flat_ints ms', _, rfl, ?_⟩
      show if inV (V.int z) (ms'.map V.int) = true then _ else _
      rw [inV_ints]
      by_cases hz : z ∈ ms'
      case neg =>
        rw [decide_eq_false hz]
        exact iteF ⟨_, _, ad', ms', rfl, s2, hm2, t2.skip hpi (.inl hz)⟩
      rw [decide_eq_true hz]
      refine iteT ?_
      refine ⟨_, rfl, _, rfl, m, _, rfl, .inl (SqL.of hm2), rfl, flat_ints ms', _, rfl, ?_⟩
      show if (!inV (V.int u) (ms'.map V.int)) = true then _ else _
      rw [inV_ints]
      by_cases hu : u ∈ ms'
      · rw [decide_eq_true hu]
        exact iteF ⟨_, _, ad', ms', rfl, s2, hm2, t2.skip hpi (.inr hu)⟩
      rw [decide_eq_false hu]
      refine iteT ?_
      have lad := t2.met.len
      have w5 : (ms'.map V.int).length < sizeLine := by
        rw [List.length_map, t2.met.eq, List.length_append]
        exact Nat.lt_of_le_of_lt (show gs.length + ad'.length ≤ 2000 by omega) (by decide)
      refine ⟨_, rfl, .inl ⟨rfl, _, SqL.of hm2⟩, _, rfl, m, _, _, rfl, rfl, hm2, w5, ?_⟩
      refine ⟨_, _, ad' ++ [u], ms' ++ [u], rfl, fun b o e => ?_, by rw [upd_same, List.map_append]; rfl, t2.put T1.met.eq hpi hz hu⟩
      rw [upd_ne (ne_of_none e hm)]
      exact s2 b o e
    · rintro σ2 H2 ⟨v4, v5, ad', ms', rfl, s2, hm2, t2⟩
      rw [List.length_map, ← lp] at t2
      exact ⟨_, v4, v5, ad', ms', rfl, s2, hm2, T1.next t2⟩
  · rintro σ1 H1 ⟨v3, v4, v5, ad, ms, rfl, s1, hm1, T1⟩
    rw [← lp] at T1
    exact ⟨_, rfl, q H1 m ms s1 hm1 (T1.met.all T1.end_)⟩
abbrev s_web : Stmt := top 42
theorem sc_web : FnScope ["_law_pool_here", "_law_most", "_law_extra", "_law_count", "_law_order", "_law_place", "_law_pairs", "_law_k", "_law_pair", "_law_goals"] ["_law_pool_here", "_law_most", "_law_extra"] (defScope s_web) := ⟨rfl, rfl, rfl, by decide +kernel, rfl, by decide +kernel, by decide +kernel⟩
theorem ok_web {fd : FuncData} (F : FunD K "_law_web" "_law_web" (defArgs s_web) (defBody s_web) (defScope s_web) [] [] (He.ga K "_law_web") fd) (T : TxW K mg) (d_draw : Okd P w K mg base CX0 1 (He.ga K "_law_draw") ["_law_pool_here", "_law_limit"] (spDraw K)) (d_ahead : Okd P w K mg base CX0 1 (He.ga K "_law_ahead") ["_law_pairs", "_law_goals"] spAhead) : FnOk P w K mg base CX0 2 (He.ga K "_law_web") fd ["_law_pool_here", "_law_most", "_law_extra"] (spDrawWeb K) := by
  obtain ⟨fd_draw, G_draw, b_draw⟩ := d_draw
  obtain ⟨fd_ahead, G_ahead, b_ahead⟩ := d_ahead
  refine F.ok sc_web (fun vs H Q E h => by obtain ⟨p, b, mo, ex, rfl, _⟩ := h; rfl) (fun cdv A outer s H vs Q E hr h => ?_)
  obtain ⟨p, b, mo, ex, rfl, P, hb, m1, m2, x0, mx, q⟩ := h
  refine ⟨_, PSs.nox (pss_cons (ps_set (i := 3) sc_web.nd rfl (Or.inl rfl) (pe_op op_add pe_int (pe_call G_draw (hr.mono (by decide)) (by rfl) T.g__law_draw T.k__law_draw b_draw .nil pass0 (pa_cons (pv 0) (pa_cons (pv 1) pa_nil)))))
    (pss_cons (ps_set (i := 4) sc_web.nd rfl (Or.inl rfl) (pe_lst pa_nil))
    (pss_cons (ps_for PassesOwn.never rfl (pi_range1 rfl T.n_range (pa_cons (pv 3) pa_nil)) (pg_name (i := 5) sc_web.nd rfl (Or.inl rfl))
      (pss_one (ps_expr (pe_bm PySem.F.plainAttrs_list PySem.F.slot_list_insert PySem.F.type_list_insert mt_insert (pv 4) (pa_cons (pe_call G_draw (hr.mono (by decide)) (by rfl) T.g__law_draw T.k__law_draw b_draw .nil pass0 (pa_cons (pv 0) (pa_cons (pe_op op_add (pv 5) pe_int) pa_nil))) (pa_cons (pv 5) pa_nil))))))
    (pss_cons (ps_set (i := 6) sc_web.nd rfl (Or.inl rfl) (pe_lst pa_nil))
    (pss_cons (ps_for PassesOwn.never rfl (pi_range2 rfl T.n_range (pa_cons pe_int (pa_cons (pv 3) pa_nil))) (pg_name (i := 7) sc_web.nd rfl (Or.inl rfl))
      (pss_one (ps_expr (pe_bm PySem.F.plainAttrs_list PySem.F.slot_list_insert PySem.F.type_list_insert mt_insert (pv 6) (pa_cons (pe_call G_draw (hr.mono (by decide)) (by rfl) T.g__law_draw T.k__law_draw b_draw .nil pass0 (pa_cons (pv 0) (pa_cons (pv 7) pa_nil))) (pa_cons (pe_tup (pa_cons (pe_ix ix_list (pv 4) (pe_call G_draw (hr.mono (by decide)) (by rfl) T.g__law_draw T.k__law_draw b_draw .nil pass0 (pa_cons (pv 0) (pa_cons (pv 7) pa_nil))) (fun _ _ => rfl)) (pa_cons (pe_ix ix_list (pv 4) (pv 7) (fun _ _ => rfl)) pa_nil))) pa_nil))))))
    (pss_cons (ps_for PassesOwn.never rfl (pi_range1 rfl T.n_range (pa_cons (pe_call G_draw (hr.mono (by decide)) (by rfl) T.g__law_draw T.k__law_draw b_draw .nil pass0 (pa_cons (pv 0) (pa_cons (pe_op op_add (pv 2) pe_int) pa_nil))) pa_nil)) (pg_name (i := 7) sc_web.nd rfl (Or.inl rfl))
      (pss_cons (ps_set (i := 8) sc_web.nd rfl (Or.inl rfl) (pe_tup (pa_cons (pe_call G_draw (hr.mono (by decide)) (by rfl) T.g__law_draw T.k__law_draw b_draw .nil pass0 (pa_cons (pv 0) (pa_cons (pv 3) pa_nil))) (pa_cons (pe_call G_draw (hr.mono (by decide)) (by rfl) T.g__law_draw T.k__law_draw b_draw .nil pass0 (pa_cons (pv 0) (pa_cons (pv 3) pa_nil))) pa_nil))))
    (pss_one (ps_if (pt_cmpR (op_notInD (units65 hr)) (pv 8) (pv 6) (by first | exact nomark _ | rfl)) (pss_one (ps_expr (pe_bm PySem.F.plainAttrs_list PySem.F.slot_list_insert PySem.F.type_list_insert mt_insert (pv 6) (pa_cons (pe_call G_draw (hr.mono (by decide)) (by rfl) T.g__law_draw T.k__law_draw b_draw .nil pass0 (pa_cons (pv 0) (pa_cons (pe_op op_add (pe_callB call_len_seq (by rfl) T.n_len PySem.boot_len (pa_cons (pv 6) pa_nil)) pe_int) pa_nil))) (pa_cons (pv 8) pa_nil))))) pss_nil))))
    (pss_cons (ps_setLc (i := 9) (own := [("_law_place", 5)]) (g := gName 5)  rfl sc_web.nd rfl rfl (sw_true rfl rfl rfl (by decide +kernel)) (pi_range1 rfl T.n_range (pa_cons (pv 3) pa_nil)) (blkOk_by (own := [("_law_place", 5)]) (N := ["_law_pool_here", "_law_most", "_law_extra", "_law_count", "_law_order", "_law_place", "_law_pairs", "_law_k", "_law_pair", "_law_goals"]) (sc := defScope s_web) (by decide +kernel)) (fun _ _ _ _ _ => (pg_name (i := 5) sc_web.nd rfl (Or.inl rfl))) (fun _ _ _ _ _ => (pts_one (pt_cmpR op_eq (pe_call G_draw (hr.mono (by decide)) (by rfl) T.g__law_draw T.k__law_draw b_draw .nil pass0 (pa_cons (pv 0) (pa_cons pe_int pa_nil))) pe_int (nomark _)))) (fun _ _ _ _ _ => (pv 5)))
    (C8.pss_cut (ps_if (pt_cmpR (op_eqD hr.units) (pv 9) (pe_lst pa_nil) (nomark _)) (pss_one (ps_set (i := 9) sc_web.nd rfl (Or.inl rfl) (pe_lst (pa_cons (pe_call G_draw (hr.mono (by decide)) (by rfl) T.g__law_draw T.k__law_draw b_draw .nil pass0 (pa_cons (pv 0) (pa_cons (pv 3) pa_nil))) pa_nil)))) pss_nil)
    (pss_cons (ps_for PassesOwn.never rfl (pi_range1 rfl T.n_range (pa_cons (pv 3) pa_nil)) (pg_name (i := 5) sc_web.nd rfl (Or.inl rfl))
      (pss_one (ps_if (pt_cmpR op_notIn_seq (pv 5) (pe_call G_ahead (hr.mono (by decide)) (by rfl) T.g__law_ahead T.k__law_ahead b_ahead .nil pass0 (pa_cons (pv 6) (pa_cons (pv 9) pa_nil))) (by first | exact nomark _ | rfl)) (pss_one (ps_if (pt_cmpR op_eq (pe_call G_draw (hr.mono (by decide)) (by rfl) T.g__law_draw T.k__law_draw b_draw .nil pass0 (pa_cons (pv 0) (pa_cons pe_int pa_nil))) pe_int (nomark _)) (pss_one (ps_expr (pe_bm PySem.F.plainAttrs_list PySem.F.slot_list_insert PySem.F.type_list_insert mt_insert (pv 6) (pa_cons (pe_call G_draw (hr.mono (by decide)) (by rfl) T.g__law_draw T.k__law_draw b_draw .nil pass0 (pa_cons (pv 0) (pa_cons (pe_op op_add (pe_callB call_len_seq (by rfl) T.n_len PySem.boot_len (pa_cons (pv 6) pa_nil)) pe_int) pa_nil))) (pa_cons (pe_tup (pa_cons (pv 5) (pa_cons (pe_ix ix_list (pv 9) (pe_call G_draw (hr.mono (by decide)) (by rfl) T.g__law_draw T.k__law_draw b_draw .nil pass0 (pa_cons (pv 0) (pa_cons (pe_callB call_len_seq (by rfl) T.n_len PySem.boot_len (pa_cons (pv 9) pa_nil)) pa_nil))) (fun _ _ => rfl)) pa_nil))) pa_nil))))) (pss_one (ps_expr (pe_bm PySem.F.plainAttrs_list PySem.F.slot_list_insert PySem.F.type_list_insert mt_insert (pv 9) (pa_cons (pe_call G_draw (hr.mono (by decide)) (by rfl) T.g__law_draw T.k__law_draw b_draw .nil pass0 (pa_cons (pv 0) (pa_cons (pe_op op_add (pe_callB call_len_seq (by rfl) T.n_len PySem.boot_len (pa_cons (pv 9) pa_nil)) pe_int) pa_nil))) (pa_cons (pv 5) pa_nil))))))) pss_nil)))
    (pss_one (ps_ret (pe_tup (pa_cons (pv 3) (pa_cons (pv 6) (pa_cons (pe_ix ix_list (pv 4) pe_int (fun _ _ => rfl)) (pa_cons (pv 9) pa_nil)))))))))))))))), ?_⟩
  have small : ∀ {z : Int}, 0 ≤ z → z ≤ 1000 → z.natAbs < 2 ^ 200 := fun {z} h0 h1 => Nat.lt_of_le_of_lt (show z.natAbs ≤ 1000 by omega) (by decide)
  -- the number of places
  refine ⟨_, rfl, _, rfl, p, b - 1, mo, rfl, P.less (by omega), by omega, small (by omega) (by omega), fun H1 d d0 d1 P1 B1 => ?_⟩
  refine ⟨_, _, rfl, rfl, ?_⟩
  have n1 : 1 ≤ (1 + d).toNat := by omega
  have n2 : (1 + d).toNat ≤ 24 := by omega
  have n3 : ((1 + d).toNat : Int) = 1 + d := by omega
  have b1 : But1 p H H1 := B1.one
  -- the order
  refine ⟨(by show 0 ≤ sizeLine; decide), fun oa hoa => ?_⟩
  have hop : oa ≠ p := P1.ne_new hoa
  have ho0 : H oa = none := b1.none hoa hop
  refine ⟨_, rfl, 1 + d, rfl, by omega, by omega, for_range (lo := 0) (n := (1 + d).toNat) (fun i σ' H' => ∃ (v5 : Option V) (o : List Int), σ' = [some (.ref p), some (.int mo), some (.int ex), some (.int (1 + d)), some (.ref oa), v5, none, none, none, none] ∧ But1 p H H' ∧ PoolAt K H' p (b - 1 - i) ∧ H' oa = some (.lst (o.map V.int)) ∧ Ord i o)
    ⟨none, [], rfl, b1.new ho0, P1.new hoa, upd_same, Ord.zero⟩ ?_ ?_⟩
  · rintro i σ1 H2 hi ⟨v5, o, rfl, b2, P2, ho, O⟩
    refine ⟨_, rfl, .inl ⟨rfl, _, SqL.of ho⟩, ?_⟩
    refine ⟨_, rfl, _, rfl, _, _, rfl, rfl, p, b - 1 - i - 1, _, rfl, P2.less (by omega), by omega, small (by omega) (by omega), fun H3 d3 e0 e1 P3 B3 => ?_⟩
    have ho3 := B3.one oa _ hop ho
    refine ⟨_, rfl, oa, _, d3, _, rfl, rfl, ho3, ?_, e0, by omega, ?_⟩
    · rw [List.length_map, O.len]
      exact Nat.lt_of_le_of_lt (show i ≤ 24 by omega) (by decide)
    · refine ⟨_, o.take d3.toNat ++ [(i : Int)] ++ o.drop d3.toNat, rfl, (b2.trans B3.one).new ho0, (P3.less (by omega)).set ho3 hop, ?_, O.next (perm_ins o _ _)⟩
      rw [upd_same, ← ints_ins, show (0 + (i : Int)) = (i : Int) by omega]
  rintro σ1 H2 ⟨v5, o, rfl, b2, P2, ho, O⟩
  obtain ⟨e, ho0'⟩ : ∃ e, o[0]? = some e := by
    have := O.len
    cases o with
    | nil => simp at this; omega
    | cons a r => exact ⟨a, rfl⟩
  -- the pairs
  refine ⟨(by show 0 ≤ sizeLine; decide), fun pa hpa => ?_⟩
  have hpp : pa ≠ p := P2.ne_new hpa
  have hp0 : H pa = none := b2.none hpa hpp
  have hpo : oa ≠ pa := ne_of_none ho hpa
  refine ⟨_, rfl, 1, 1 + d, rfl, ⟨by omega, by omega, by omega, by omega⟩, for_range (lo := 1) (n := ((1 + d) - 1).toNat) (fun i σ' H' => ∃ (v7 : Option V) (L : List (Addr × Edge)), σ' = [some (.ref p), some (.int mo), some (.int ex), some (.int (1 + d)), some (.ref oa), v5, some (.ref pa), v7, none, none] ∧ But1 p H H' ∧ PoolAt K H' p (b - 100 - 2 * i) ∧ H' oa = some (.lst (o.map V.int)) ∧ EdT H' pa L ∧ Span (1 + d).toNat (1 + i) o e (pairs L))
    ⟨none, [], rfl, b2.new hp0, (P2.less (by omega)).new hpa, by rw [upd_ne hpo]; exact ho, ⟨upd_same, fun _ z => nomatch z⟩, Span.one ho0'⟩ ?_ ?_⟩
  · rintro i σ1 H3 hi ⟨v7, L, rfl, b3, P3, ho3, E3, S⟩
    have lL : L.length + 1 = 1 + i := by have := S.len; rw [List.length_map] at this; exact this
    refine ⟨_, rfl, .inl ⟨rfl, _, SqL.of E3.at_⟩, ?_⟩
    refine ⟨_, rfl, _, rfl, p, b - 100 - 2 * i - 1, _, rfl, P3.less (by omega), by omega, small (by omega) (by omega), fun H4 d4 e0 e1 P4 B4 => ?_⟩
    have ho4 := B4.one oa _ hop ho3
    have E4 := E3.but P3 B4.one hpp
    refine ⟨_, rfl, _, rfl, _, rfl, p, b - 100 - 2 * i - 2, _, rfl, P4.less (by omega), by omega, small (by omega) (by omega), fun H5 d5 f0 f1 P5 B5 => ?_⟩
    have ho5 := B5.one oa _ hop ho4
    have E5 := E4.but P4 B5.one hpp
    have la : d5.toNat < o.length := by rw [O.len]; omega
    have lc : 1 + i < o.length := by rw [O.len]; omega
    have ea : o[d5.toNat]? = some o[d5.toNat] := List.getElem?_eq_getElem la
    have ec : o[1 + i]? = some o[1 + i] := List.getElem?_eq_getElem lc
    have nat : ∀ {z : Int} {v : Int}, 0 ≤ z → o[z.toNat]? = some v → atI (o.map V.int) z = some (.int v) := fun {z v} h0 h => by
      have y : (o.map V.int)[z.toNat]? = some (.int v) := by rw [List.getElem?_map, h]; rfl
      have x := atI_nat y
      rw [Int.toNat_of_nonneg h0] at x
      exact x
    refine ⟨oa, _, d5, .int o[d5.toNat], rfl, rfl, SqL.of ho5, nat f0 ea, _, rfl, _, rfl, oa, _, _, .int o[1 + i], rfl, rfl, SqL.of ho5, nat (by omega) (by rw [show (1 + (i : Int)).toNat = 1 + i by omega]; exact ec), (by show 2 ≤ sizeLine; decide), fun tp ht => ?_⟩
    have E6 := E5.new (x := .tup [.int o[d5.toNat], .int o[1 + i]]) ht
    have ht0 : H tp = none := ((b3.trans B4.one).trans B5.one).none ht (P5.ne_new ht)
    refine ⟨pa, _, d4, _, rfl, rfl, E6.at_, ?_, e0, by omega, ?_⟩
    · rw [List.length_map]
      exact Nat.lt_of_le_of_lt (show L.length ≤ 100 by omega) (by decide)
    · refine ⟨_, L.take d4.toNat ++ [(tp, (o[d5.toNat], o[1 + i]))] ++ L.drop d4.toNat, rfl, (((b3.trans B4.one).trans B5.one).new ht0).new hp0, ((P5.less (by omega)).new ht).set E6.at_ hpp, ?_, E6.ins upd_same, S.next O (by omega) ea ec (pairs_ins L _ _)⟩
      rw [upd_ne hpo, upd_ne (ne_of_none ho5 ht)]
      exact ho5
  rintro σ1 H3 ⟨v7, L, rfl, b3, P3, ho3, E3, S⟩
  rw [show 1 + ((1 + d) - 1).toNat = (1 + d).toNat by omega] at S
  have C := S.core O ho0'
  have lL : L.length + 1 = (1 + d).toNat := by have := S.len; rw [List.length_map] at this; exact this
  -- edges more
  refine ⟨_, rfl, _, rfl, _, _, rfl, rfl, p, b - 200, _, rfl, P3.less (by omega), by omega, small (by omega) (by omega), fun H4 d4 e0 e1 P4 B4 => ?_⟩
  refine ⟨d4, rfl, by omega, by omega, for_range (lo := 0) (n := d4.toNat) (fun i σ' H' => ∃ (v7 v8 : Option V) (L : List (Addr × Edge)), σ' = [some (.ref p), some (.int mo), some (.int ex), some (.int (1 + d)), some (.ref oa), v5, some (.ref pa), v7, v8, none] ∧ But1 p H H' ∧ PoolAt K H' p (b - 200 - 3 * i) ∧ H' oa = some (.lst (o.map V.int)) ∧ EdT H' pa L ∧ Core (1 + d).toNat e (pairs L) ∧ L.length + 1 ≤ (1 + d).toNat + i)
    ⟨v7, none, L, rfl, b3.trans B4.one, P4, B4.one oa _ hop ho3, E3.but P3 B4.one hpp, C, by omega⟩ ?_ ?_⟩
  · rintro i σ1 H5 hi ⟨v7, v8, L, rfl, b5, P5, ho5, E5, C5, l5⟩
    refine ⟨_, rfl, _, rfl, p, b - 200 - 3 * i - 1, _, rfl, P5.less (by omega), by omega, small (by omega) (by omega), fun H6 u u0 u1 P6 B6 => ?_⟩
    refine ⟨_, rfl, _, rfl, p, b - 200 - 3 * i - 2, _, rfl, P6.less (by omega), by omega, small (by omega) (by omega), fun H7 z z0 z1 P7 B7 => ?_⟩
    refine ⟨(by show 2 ≤ sizeLine; decide), fun tp ht => ?_⟩
    have b7 := (b5.trans B6.one).trans B7.one
    have E7 := (E5.but P5 B6.one hpp).but P6 B7.one hpp
    have ho7 := B7.one oa _ hop (B6.one oa _ hop ho5)
    have htp := P7.ne_new ht
    have ht0 : H tp = none := b7.none ht htp
    have E8 := E7.new (x := .tup [.int u, .int z]) ht
    have ho8 : (upd H7 tp (.tup [.int u, .int z])) oa = some (.lst (o.map V.int)) := by rw [upd_ne (ne_of_none ho7 ht)]; exact ho7
    refine ⟨_, rfl, _, rfl, dP (u, z), (pairs L).map dP, dp_pair (p := (u, z)) upd_same, .lst (SqL.of E8.at_) (dp_pairs L E8.tup), shaped_pair _, shaped_lpairs _, _, rfl, ?_⟩
    rw [any_pairs]
    by_cases hq : (u, z) ∈ pairs L
    · rw [decide_eq_true hq]
      exact iteF ⟨_, _, L, rfl, b7.new ht0, (P7.less (by omega)).new ht, ho8, E8, C5, by omega⟩
    rw [decide_eq_false hq]
    refine iteT ?_
    refine ⟨_, rfl, .inl ⟨rfl, _, SqL.of E8.at_⟩, ?_⟩
    refine ⟨_, rfl, _, rfl, pa, _, rfl, .inl (SqL.of E8.at_), ?_⟩
    rw [List.length_map]
    refine ⟨_, _, rfl, rfl, p, b - 200 - 3 * i - 3, _, rfl, (P7.less (by omega)).new ht, by omega, small (by omega) (by omega), fun H9 y y0 y1 P9 B9 => ?_⟩
    have E9 := E8.but ((P7.less (c := b - 200 - 3 * i - 3) (by omega)).new ht) B9.one hpp
    have hp2 : p ≠ tp := fun z => htp z.symm
    have ht9 : H9 tp = some (.tup [.int u, .int z]) := B9.one tp _ htp upd_same
    refine ⟨_, rfl, pa, _, y, _, rfl, rfl, E9.at_, ?_, y0, by omega, ?_⟩
    · rw [List.length_map]
      exact Nat.lt_of_le_of_lt (show L.length ≤ 200 by omega) (by decide)
    · refine ⟨_, _, L.take y.toNat ++ [(tp, (u, z))] ++ L.drop y.toNat, rfl, ((b7.new ht0).trans B9.one).new hp0, (P9.less (by omega)).set E9.at_ hpp, ?_, E9.ins ht9, C5.add ⟨⟨u0, by omega⟩, z0, by omega⟩ hq (pairs_ins L _ _), ?_⟩
      · rw [upd_ne hpo]
        exact B9.one oa _ hop ho8
      · rw [len_ins]
        omega
  rintro σ1 H5 ⟨v7', v8, L5, rfl, b5, P5, ho5, E5, C5, l5⟩
  -- the goals
  refine ⟨_, rfl, 1 + d, rfl, by omega, by omega, fun ga hga => lc_range (n := (1 + d).toNat) (fun i H' => ∃ gs : List Int, But1 p H H' ∧ PoolAt K H' p (b - 400 - i) ∧ H' oa = some (.lst (o.map V.int)) ∧ EdT H' pa L5 ∧ H' ga = some (.lst (gs.map V.int)) ∧ gs.Nodup ∧ ∀ g ∈ gs, 0 ≤ g ∧ g < (i : Int)) ?_ ?_ ?_⟩
  · exact ⟨[], b5.new (b5.none hga (P5.ne_new hga)), (P5.less (by omega)).new hga, by rw [upd_ne (ne_of_none ho5 hga)]; exact ho5, E5.new hga, upd_same, List.nodup_nil, (fun _ z => nomatch z)⟩
  · rintro i H6 hi ⟨gs, b6, P6, ho6, E6, hg6, nd, rg⟩
    have hgp : ga ≠ p := P5.ne_new hga
    have hg0 : H ga = none := b5.none hga hgp
    have hgo : oa ≠ ga := ne_of_none ho5 hga
    have hgpa : pa ≠ ga := ne_of_none E5.at_ hga
    refine ⟨rfl, _, rfl, p, b - 400 - i - 1, _, rfl, P6.less (by omega), by omega, small (by omega) (by omega), fun H7 y y0 y1 P7 B7 => ?_⟩
    refine ⟨rfl, _, rfl, ?_⟩
    have b7 := b6.trans B7.one
    have hg7 := B7.one ga _ hgp hg6
    refine iteB (fun _ => ?_) (fun _ => ?_)
    · refine ⟨_, rfl, _, hg7, ?_, gs ++ [(i : Int)], b7.new hg0, (P7.less (by omega)).set hg7 hgp, ?_, (E6.but P6 B7.one hpp).set hg7 hgpa, ?_, ?_, fun g hg => ?_⟩
      · rw [List.length_map]
        have := rng_len nd rg
        exact Nat.lt_of_le_of_lt (show gs.length ≤ 24 by omega) (by decide)
      · rw [upd_ne hgo]
        exact B7.one oa _ hop ho6
      · rw [upd_same, List.map_append, show (0 + (i : Int)) = (i : Int) by omega]
        rfl
      · exact nd_snoc nd fun z => by have := (rg _ z).2; omega
      · rcases List.mem_append.mp hg with hg | hg
        · have := rg g hg
          omega
        · rw [List.mem_singleton.mp hg]
          omega
    · refine ⟨gs, b7, P7.less (by omega), B7.one oa _ hop ho6, E6.but P6 B7.one hpp, hg7, nd, fun g hg => ?_⟩
      have := rg g hg
      omega
  rintro H6 ⟨gs, b6, P6, ho6, E6, hg6, nd, rg⟩
  have hgp : ga ≠ p := P5.ne_new hga
  have hg0 : H ga = none := b5.none hga hgp
  -- no goal yet
  refine ⟨fun σ' H' => ∃ (ga : Addr) (gs : List Int), σ' = [some (.ref p), some (.int mo), some (.int ex), some (.int (1 + d)), some (.ref oa), v5, some (.ref pa), v7', v8, some (.ref ga)] ∧ But1 p H H' ∧ PoolAt K H' p (b - 500) ∧ H' oa = some (.lst (o.map V.int)) ∧ EdT H' pa L5 ∧ H' ga = some (.lst (gs.map V.int)) ∧ ga ≠ p ∧ H ga = none ∧ oa ≠ ga ∧ pa ≠ ga ∧ Aims (1 + d).toNat 0 (pairs L5) gs, ?_, ?_⟩
  · refine ⟨_, rfl, (by show 0 ≤ sizeLine; decide), fun na hna => ?_⟩
    have hg7 : (upd H6 na (.lst [])) ga = some (.lst (gs.map V.int)) := by rw [upd_ne (ne_of_none hg6 hna)]; exact hg6
    refine ⟨.list (gs.map PyData.int), .list [], .lst (SqL.of hg7) (dp_ints gs), .lst (SqL.of upd_same) .nil, shaped_lints gs, rfl, _, rfl, ?_⟩
    have hn0 : H na = none := b6.none hna (P6.ne_new hna)
    have b7 := b6.new (x := .lst []) hn0
    have P7 := (P6.less (c := b - 450) (by omega)).new (x := .lst []) hna
    have E7 := E6.new (x := .lst []) hna
    have ho7 : (upd H6 na (.lst [])) oa = some (.lst (o.map V.int)) := by rw [upd_ne (ne_of_none ho6 hna)]; exact ho6
    cases gs with
    | nil =>
      refine iteT ?_
      refine ⟨_, rfl, _, rfl, p, b - 460, _, rfl, P7.less (by omega), by omega, small (by omega) (by omega), fun H8 y y0 y1 P8 B8 => ?_⟩
      refine ⟨(by show 1 ≤ sizeLine; decide), fun g2 hg2 => ?_⟩
      have b8 := b7.trans B8.one
      have h20 := b8.none hg2 (P8.ne_new hg2)
      have ho8 := B8.one oa _ hop ho7
      have E8 := E7.but P7 B8.one hpp
      refine ⟨g2, [y], rfl, b8.new h20, (P8.less (by omega)).new hg2, by rw [upd_ne (ne_of_none ho8 hg2)]; exact ho8, E8.new hg2, upd_same, P8.ne_new hg2, h20, ne_of_none ho8 hg2, ne_of_none E8.at_ hg2, ?_⟩
      exact ⟨by simp, fun g hg => by rw [List.mem_singleton.mp hg]; omega, by simp, fun v h0 h1 => by omega⟩
    | cons g r =>
      refine iteF ?_
      exact ⟨ga, g :: r, rfl, b7, P7.less (by omega), ho7, E7, hg7, hgp, hg0, ne_of_none ho5 hga, ne_of_none E5.at_ hga, nd, rg, by simp, fun v h0 h1 => by omega⟩
  clear hgp hg0 hg6 nd rg hga gs ga
  rintro σ7 H7 ⟨ga, gs, rfl, b7, P7, ho7, E7, hg7, hgp, hg0, hgo, hgpa, A7⟩
  refine ⟨_, rfl, 1 + d, rfl, by omega, by omega, for_range (lo := 0) (n := (1 + d).toNat) (fun i σ' H' => ∃ (v5 : Option V) (L : List (Addr × Edge)) (gs : List Int), σ' = [some (.ref p), some (.int mo), some (.int ex), some (.int (1 + d)), some (.ref oa), v5, some (.ref pa), v7', v8, some (.ref ga)] ∧ But1 p H H' ∧ PoolAt K H' p (b - 500 - 3 * i) ∧ H' oa = some (.lst (o.map V.int)) ∧ EdT H' pa L ∧ H' ga = some (.lst (gs.map V.int)) ∧ Core (1 + d).toNat e (pairs L) ∧ Aims (1 + d).toNat i (pairs L) gs ∧ L.length ≤ L5.length + i)
    ⟨v5, L5, gs, rfl, b7, P7, ho7, E7, hg7, C5, A7, Nat.le_refl _⟩ ?_ ?_⟩
  · rintro i σ1 H8 hi ⟨v5, L, gs, rfl, b8, P8, ho8, E8, hg8, C8', A8, l8⟩
    have lg := rng_len A8.nd A8.rng
    refine ⟨_, rfl, _, rfl, _, rfl, pa, ga, L, gs, rfl, E8.edges, hg8, by omega, by omega, fun H9 m ms s9 hm hms => ?_⟩
    refine ⟨m, _, rfl, .inl (SqL.of hm), rfl, flat_ints ms, _, rfl, ?_⟩
    show if (!inV (V.int (0 + (i : Int))) (ms.map V.int)) = true then _ else _
    rw [inV_ints, show (0 + (i : Int)) = (i : Int) by omega]
    have b9 := b8.trans (fun c o' _ e' => s9 c o' e')
    have P9 := P8.same s9
    have ho9 := s9 _ _ ho8
    have E9 := E8.same s9
    have hg9 := s9 _ _ hg8
    by_cases hin : (i : Int) ∈ ms
    · rw [decide_eq_true hin]
      refine iteF ⟨_, L, gs, rfl, b9, P9.less (by omega), ho9, E9, hg9, C8', A8.stay ((hms _).mp hin), by omega⟩
    rw [decide_eq_false hin]
    refine iteT ?_
    have far : ∀ g ∈ gs, ¬ Reach (pairs L) (i : Int) g := fun g hg r => hin ((hms _).mpr ⟨g, hg, r⟩)
    refine ⟨_, rfl, p, b - 500 - 3 * i - 1, _, rfl, P9.less (by omega), by omega, small (by omega) (by omega), fun H10 y y0 y1 P10 B10 => ?_⟩
    refine ⟨rfl, _, rfl, ?_⟩
    have b10 := b9.trans B10.one
    have ho10 := B10.one oa _ hop ho9
    have E10 := E9.but P9 B10.one hpp
    have hg10 := B10.one ga _ hgp hg9
    refine iteB (fun _ => ?_) (fun _ => ?_)
    · refine ⟨_, rfl, .inl ⟨rfl, _, SqL.of E10.at_⟩, ?_⟩
      refine ⟨_, rfl, _, rfl, pa, _, rfl, .inl (SqL.of E10.at_), ?_⟩
      rw [List.length_map]
      refine ⟨_, _, rfl, rfl, p, b - 500 - 3 * i - 2, _, rfl, P10.less (by omega), by omega, small (by omega) (by omega), fun H11 z z0 z1 P11 B11 => ?_⟩
      have ho11 := B11.one oa _ hop ho10
      have E11 := E10.but P10 B11.one hpp
      have hg11 := B11.one ga _ hgp hg10
      have g0 : 0 < gs.length := by
        cases gs with
        | nil => exact absurd rfl A8.ne
        | cons a r => simp
      refine ⟨_, rfl, _, rfl, _, rfl, _, rfl, ga, _, rfl, .inl (SqL.of hg11), ?_⟩
      rw [List.length_map]
      refine ⟨p, b - 500 - 3 * i - 3, _, rfl, P11.less (by omega), by omega, small (by omega) (by omega), fun H12 k k0 k1 P12 B12 => ?_⟩
      have ho12 := B12.one oa _ hop ho11
      have E12 := E11.but P11 B12.one hpp
      have hg12 := B12.one ga _ hgp hg11
      have lk : k.toNat < gs.length := by omega
      have ek : gs[k.toNat]? = some gs[k.toNat] := List.getElem?_eq_getElem lk
      have at' : atI (gs.map V.int) k = some (.int gs[k.toNat]) := by
        have x := atI_nat (xs := gs.map V.int) (j := k.toNat) (v := .int gs[k.toNat]) (by rw [List.getElem?_map, ek]; rfl)
        rw [Int.toNat_of_nonneg k0] at x
        exact x
      have hgm : gs[k.toNat] ∈ gs := List.getElem_mem lk
      refine ⟨ga, _, k, .int gs[k.toNat], rfl, rfl, SqL.of hg12, at', (by show 2 ≤ sizeLine; decide), fun tp ht => ?_⟩
      have b12 := (b10.trans B11.one).trans B12.one
      have ht0 := b12.none ht (P12.ne_new ht)
      have E13 := E12.new (x := .tup [.int (i : Int), .int gs[k.toNat]]) ht
      have hg13 : (upd H12 tp (.tup [.int (i : Int), .int gs[k.toNat]])) ga = some (.lst (gs.map V.int)) := by rw [upd_ne (ne_of_none hg12 ht)]; exact hg12
      have ht13 : (upd H12 tp (.tup [.int (i : Int), .int gs[k.toNat]])) tp = some (.tup [.int (i : Int), .int gs[k.toNat]]) := upd_same
      have no : ((i : Int), gs[k.toNat]) ∉ pairs L := fun m => far _ hgm (.one m)
      refine ⟨pa, _, z, _, rfl, rfl, E13.at_, ?_, z0, by omega, ?_⟩
      · rw [List.length_map]
        exact Nat.lt_of_le_of_lt (show L.length ≤ 200 by omega) (by decide)
      · refine ⟨_, L.take z.toNat ++ [(tp, ((i : Int), gs[k.toNat]))] ++ L.drop z.toNat, gs, rfl, (b12.new ht0).new hp0, ((P12.less (by omega)).new ht).set E13.at_ hpp, ?_, E13.ins ht13, ?_, C8'.add ⟨⟨by omega, by omega⟩, A8.rng _ hgm⟩ no (pairs_ins L _ _), A8.edge hgm (pairs_ins L _ _), ?_⟩
        · rw [upd_ne hpo, upd_ne (ne_of_none ho12 ht)]
          exact ho12
        · rw [upd_ne hgpa.symm]
          exact hg13
        · rw [len_ins]
          omega
    · refine ⟨_, rfl, .inl ⟨rfl, _, SqL.of hg10⟩, ?_⟩
      refine ⟨_, rfl, _, rfl, ga, _, rfl, .inl (SqL.of hg10), ?_⟩
      rw [List.length_map]
      refine ⟨_, _, rfl, rfl, p, b - 500 - 3 * i - 2, _, rfl, P10.less (by omega), by omega, small (by omega) (by omega), fun H11 z z0 z1 P11 B11 => ?_⟩
      have hg11 := B11.one ga _ hgp hg10
      have no : (i : Int) ∉ gs := fun m => far _ m (.refl _)
      refine ⟨_, rfl, ga, _, z, _, rfl, rfl, hg11, ?_, z0, by omega, ?_⟩
      · rw [List.length_map]
        exact Nat.lt_of_le_of_lt (show gs.length ≤ 200 by omega) (by decide)
      · refine ⟨_, L, gs.take z.toNat ++ [(i : Int)] ++ gs.drop z.toNat, rfl, (b10.trans B11.one).new hg0, (P11.less (by omega)).set hg11 hgp, ?_, (E10.but P10 B11.one hpp).set hg11 hgpa, ?_, C8', A8.goal (by omega) no (perm_ins gs _ _), by omega⟩
        · rw [upd_ne hgo]
          exact B11.one oa _ hop ho10
        · rw [upd_same, ← ints_ins]
  rintro σ1 H8 ⟨v5', L, gs', rfl, b8, P8, ho8, E8, hg8, C8', A8, l8⟩
  have nat0 : atI (o.map V.int) 0 = some (.int e) := atI_nat (j := 0) (by rw [List.getElem?_map, ho0']; rfl)
  refine ⟨_, rfl, _, rfl, _, rfl, oa, _, 0, .int e, rfl, rfl, SqL.of ho8, nat0, _, rfl, (by show 4 ≤ sizeLine; decide), fun t ht => ?_⟩
  have good := C8'.good A8 n2 (by rw [List.length_map]; omega)
  rw [n3] at good
  exact q _ t (1 + d) L e gs' pa ga (b8.new (b8.none ht (P8.ne_new ht))) ((P8.less (by omega)).new ht) ⟨upd_same, E8.new ht, by rw [upd_ne (ne_of_none hg8 ht)]; exact hg8⟩ good A8.nd (by omega) (by omega) hpp hgp hp0 hg0 (b8.none ht (P8.ne_new ht))
end
section
variable {P : Program} {w : World} {K : PySem.W.Frag} {mg : Str → Option Value} {base : Heap}

theorem takesN {X : Cx} : Takes X (fun _ _ _ _ => False) := fun _ _ x => by
  obtain ⟨_, _, _, _, _, _, _, _, _, _, _, _, _, _, _, _, z⟩ := x
  exact z.elim
/-- the goals, ascending -/
def goalsUp (n : Int) (gs : List Int) : List Int := ((List.range n.toNat).map Int.ofNat).filter fun v => decide (v ∈ gs)
theorem goalsUp_mem {n : Int} {gs : List Int} (r : ∀ g ∈ gs, 0 ≤ g ∧ g < n) (v : Int) : v ∈ goalsUp n gs ↔ v ∈ gs := by
  unfold goalsUp
  rw [List.mem_filter, decide_eq_true_iff]
  refine ⟨fun h => h.2, fun h => ⟨List.mem_map.mpr ⟨v.toNat, List.mem_range.mpr ?_, ?_⟩, h⟩⟩
  · have := r v h
    omega
  · have := r v h
    show ((v.toNat : Nat) : Int) = v
    omega
theorem range_up : ∀ n : Nat, ((List.range n).map Int.ofNat).Pairwise (· < ·)
  | 0 => by simp
  | n + 1 => by
    rw [List.range_succ, List.map_append, List.pairwise_append]
    refine ⟨range_up n, by simp, fun a ha b hb => ?_⟩
    obtain ⟨i, hi, rfl⟩ := List.mem_map.mp ha
    have hb' : b = Int.ofNat n := by simpa using hb
    rw [hb']
    have := List.mem_range.mp hi
    show (i : Int) < (n : Int)
    omega
theorem goalsUp_up (n : Int) (gs : List Int) : (goalsUp n gs).Pairwise (· < ·) := (range_up _).filter _
theorem up_unique : ∀ {a b : List Int}, a.Pairwise (· < ·) → b.Pairwise (· < ·) → (∀ v, v ∈ a ↔ v ∈ b) → a = b
  | [], [], _, _, _ => rfl
  | [], y :: b, _, _, h => absurd ((h y).mpr List.mem_cons_self) (by simp)
  | x :: a, [], _, _, h => absurd ((h x).mp List.mem_cons_self) (by simp)
  | x :: a, y :: b, ha, hb, h => by
    obtain ⟨a1, a2⟩ := List.pairwise_cons.mp ha
    obtain ⟨b1, b2⟩ := List.pairwise_cons.mp hb
    have e : x = y := by
      rcases List.mem_cons.mp ((h x).mp List.mem_cons_self) with e | m1
      · exact e
      · rcases List.mem_cons.mp ((h y).mpr List.mem_cons_self) with e | m2
        · exact e.symm
        · have := b1 x m1
          have := a1 y m2
          omega
    subst e
    rw [up_unique a2 b2 fun v => ?_]
    constructor
    · intro hv
      rcases List.mem_cons.mp ((h v).mp (List.mem_cons_of_mem _ hv)) with e | m
      · have := a1 v hv
        omega
      · exact m
    · intro hv
      rcases List.mem_cons.mp ((h v).mpr (List.mem_cons_of_mem _ hv)) with e | m
      · have := b1 v hv
        omega
      · exact m
def spLawGates (K : PySem.W.Frag) : Sp := fun vs H Q _ => ∃ (t : Addr) (n e : Int) (L : List (Addr × Edge)) (gs : List Int) (pa ga : Addr), vs = [.ref t] ∧ Told H t n L e gs pa ga ∧ 0 ≤ n ∧ n ≤ 24 ∧ L.length < 60 ∧
  ∀ (H' : Hp) (r : Addr) (G : List (Addr × Edge)), Same H H' → H r = none → EdT H' r G → pairs G = allG (pairs L) e (goalsUp n gs) → Q (.ref r) H'
/-- a web is made -/
theorem make_web {K : PySem.W.Frag} {H : Hp} {x dx ea xa : Addr} {n e : Int} {L : List (Addr × Edge)} {xs : List Int} {R : VK} {E : XK} (hx : H x = none) (hdx : H dx = none) (ne : dx ≠ x) (hE : EdgesAt H ea L) (hX : Qa H xa (xs.map V.int)) (good : Good n (pairs L) e xs)
    (k : ∀ (H' : Hp) (ys : List Int), Same H H' → WebAt K H' x n (pairs L) e ys → ys.Pairwise (· < ·) → (∀ v, v ∈ ys ↔ v ∈ xs) → R .non H') :
    spWebInit K [.ref x, .int n, .ref ea, .int e, .ref xa] (upd (upd H dx (.own x)) x (.ins (He.ga K "Web") dx [])) R E := by
  have s0 : Same H (upd (upd H dx (.own x)) x (.ins (He.ga K "Web") dx [])) := fun b o h => by
    rw [upd_ne (ne_of_none h hx), upd_ne (ne_of_none h hdx)]
    exact h
  refine ⟨x, dx, n, e, ea, xa, L, xs, rfl, upd_same, hE.same s0, hX.same s0, good, fun H' ys b W pw mem => k H' ys (fun c o h => b c o (ne_of_none h hx) (s0 c o h)) W pw mem⟩
def spMade (K : PySem.W.Frag) : Sp := fun vs H Q _ => ∃ (t : Addr) (n e : Int) (L : List (Addr × Edge)) (gs : List Int) (pa ga : Addr), vs = [.ref t] ∧ Told H t n L e gs pa ga ∧ Good n (pairs L) e gs ∧
  ∀ (H' : Hp) (wa : Addr) (ys : List Int), Same H H' → WebAt K H' wa n (pairs L) e ys → ys.Pairwise (· < ·) → (∀ v, v ∈ ys ↔ v ∈ gs) → Q (.ref wa) H'
def spLawEnds (K : PySem.W.Frag) : Sp := fun vs H Q _ => ∃ (a : Addr) (n e g : Int) (es : List Edge) (ys : List Int), vs = [.ref a, .int g] ∧ WebAt K H a n es e ys ∧
  (∀ (H' : Hp) (b : Addr) (p : Edge), gateAt es e ys g = some p → Same H H' → H' b = some (.tup [.int p.1, .int p.2]) → Q (.ref b) H') ∧
  (gateAt es e ys g = none → ∀ (H' : Hp) (b : Addr), H' b = some (.tup [.str "no gate", .int g]) → Same H H' → Q (.ref b) H')
def spLawOut (K : PySem.W.Frag) : Sp := fun vs H Q _ => ∃ (a : Addr) (n e p : Int) (es : List Edge) (ys : List Int), vs = [.ref a, .int p] ∧ WebAt K H a n es e ys ∧
  (∀ (j : Nat), ys[j]? = some p → (∀ m, m < j → ys[m]? ≠ some p) → Q (.int (es.length + 1 + j)) H) ∧
  (p ∉ ys → ∀ (H' : Hp) (b : Addr), H' b = some (.tup [.str "bad exit", .int p]) → Same H H' → Q (.ref b) H')
abbrev s_made : Stmt := top 43
theorem sc_made : FnScope ["_law_told", "_law_count", "_law_pairs", "_law_origin", "_law_goals"] ["_law_told"] (defScope s_made) := ⟨rfl, rfl, rfl, by decide +kernel, rfl, by decide +kernel, by decide +kernel⟩
theorem ok_made {fd : FuncData} (F : FunD K "_law_made" "_law_made" (defArgs s_made) (defBody s_made) (defScope s_made) [] [] (He.ga K "_law_made") fd) (T : TxW K mg) (d_init : Okd P w K mg base CX0 5 (He.ma K (He.ga K "Web") "__init__") ["self", "places", "edges", "entry", "exits"] (spWebInit K)) : FnOk P w K mg base CX0 7 (He.ga K "_law_made") fd ["_law_told"] (spMade K) := by
  obtain ⟨fd_init, G_init, b_init⟩ := d_init
  refine F.ok sc_made (fun vs H Q E h => by obtain ⟨t, n, e, L, gs, pa, ga, rfl, _⟩ := h; rfl) (fun cdv A outer s H vs Q E hr h => ?_)
  obtain ⟨t, n, e, L, gs, pa, ga, rfl, hT, good, q⟩ := h
  refine ⟨_, PSs.nox (pss_cons (ps_asg (pv 0) (pg_tup rfl (pgs_cons (pg_name (i := 1) sc_made.nd rfl (Or.inl rfl)) (pgs_cons (pg_name (i := 2) sc_made.nd rfl (Or.inl rfl)) (pgs_cons (pg_name (i := 3) sc_made.nd rfl (Or.inl rfl)) (pgs_cons (pg_name (i := 4) sc_made.nd rfl (Or.inl rfl)) pgs_nil))))))
    (pss_one (ps_ret (pe_make T.mk_Web G_init (hr.mono (by decide)) (by rfl) T.g_Web b_init .nil pass0 (pa_cons (pv 1) (pa_cons (pv 2) (pa_cons (pv 3) (pa_cons (pv 4) pa_nil)))))))), ?_⟩
  refine ⟨_, rfl, t, _, rfl, SqT.of hT.at_, rfl, _, _, rfl, _, _, rfl, _, _, rfl, _, _, rfl, rfl, ?_⟩
  refine ⟨_, rfl, _, rfl, _, rfl, _, rfl, fun x dx hx hdx ne => ?_⟩
  exact make_web hx hdx ne hT.ed.edges (.inl hT.go) good fun H' ys s W pw mem => ⟨rfl, q H' x ys s W pw mem⟩
theorem up_snoc {us : List Int} {z : Int} (up : us.Pairwise (· < ·)) (h : ∀ v ∈ us, v < z) : (us ++ [z]).Pairwise (· < ·) := by
  rw [List.pairwise_append]
  exact ⟨up, by simp, fun a ha b hb => by rw [List.mem_singleton.mp hb]; exact h a ha⟩
/-- the numbers of the gates that fit -/
def gatesF (f : Edge → Bool) (G : List Edge) : List Int := ((List.range G.length).filter fun k => match G[k]? with | some q => f q | none => false).map Int.ofNat
def gatesN (f : Edge → Bool) (G : List Edge) (n : Nat) : List Int := ((List.range n).filter fun k => match G[k]? with | some q => f q | none => false).map Int.ofNat
theorem gatesN_next {f : Edge → Bool} {G : List Edge} {i : Nat} {q : Edge} (h : G[i]? = some q) : gatesN f G (i + 1) = gatesN f G i ++ if f q = true then [(i : Int)] else [] := by
  unfold gatesN
  rw [List.range_succ, List.filter_append, List.map_append]
  congr 1
  by_cases y : f q = true
  · rw [if_pos y, List.filter_cons_of_pos (by rw [h]; exact y)]
    rfl
  · rw [if_neg y, List.filter_cons_of_neg (by rw [h]; exact y)]
    rfl
theorem gatesN_len (f : Edge → Bool) (G : List Edge) (n : Nat) : (gatesN f G n).length ≤ n := by
  unfold gatesN
  rw [List.length_map]
  have := List.length_filter_le (fun k => match G[k]? with | some q => f q | none => false) (List.range n)
  rw [List.length_range] at this
  exact this
def inP (ps : List Int) (q : Edge) : Bool := decide (q.2 ∈ ps) && !decide (q.1 ∈ ps)
def outP (ps : List Int) (q : Edge) : Bool := decide (q.1 ∈ ps) && !decide (q.2 ∈ ps)
/-- the marks of a list of places: two lists -/
structure MarksAt (H : Hp) (r : Addr) (ss bs : List Int) : Prop where
  at_ : ∃ s b : Addr, H r = some (.tup [.ref s, .ref b]) ∧ H s = some (.lst (ss.map V.int)) ∧ H b = some (.lst (bs.map V.int))
theorem MarksAt.same {H H' : Hp} {r : Addr} {ss bs : List Int} (h : MarksAt H r ss bs) (s : Same H H') : MarksAt H' r ss bs := by
  obtain ⟨x, y, h1, h2, h3⟩ := h.at_
  exact ⟨x, y, s _ _ h1, s _ _ h2, s _ _ h3⟩
def spSome (K : PySem.W.Frag) : Sp := fun vs H Q _ => ∃ (p : Addr) (b : Nat) (n : Int), vs = [.ref p, .int n] ∧ PoolAt K H p b ∧ 200 ≤ b ∧ 0 ≤ n ∧ n ≤ 100 ∧
  ∀ (H' : Hp) (l : Addr) (us : List Int), But1 p H H' → PoolAt K H' p (b - 200) → H' l = some (.lst (us.map V.int)) → us.Pairwise (· < ·) → (∀ v ∈ us, 0 ≤ v ∧ v < n) → us.length ≤ n.toNat → l ≠ p → H l = none → Q (.ref l) H'
def spMarks (K : PySem.W.Frag) : Sp := fun vs H Q _ => ∃ (t pl : Addr) (n e : Int) (L : List (Addr × Edge)) (gs ps : List Int) (pa ga : Addr), vs = [.ref t, .ref pl] ∧ Told H t n L e gs pa ga ∧ 0 ≤ n ∧ n ≤ 24 ∧ L.length < 60 ∧ H pl = some (.lst (ps.map V.int)) ∧
  ∀ (H' : Hp) (r : Addr), Same H H' → MarksAt H' r (gatesF (inP ps) (allG (pairs L) e (goalsUp n gs))) (gatesF (outP ps) (allG (pairs L) e (goalsUp n gs))) → Q (.ref r) H'
abbrev s_some : Stmt := top 46
theorem sc_some : FnScope ["_law_pool_here", "_law_count", "_law_wide", "_law_place"] ["_law_pool_here", "_law_count"] (defScope s_some) := ⟨rfl, rfl, rfl, by decide +kernel, rfl, by decide +kernel, by decide +kernel⟩
theorem ok_some {fd : FuncData} (F : FunD K "_law_some" "_law_some" (defArgs s_some) (defBody s_some) (defScope s_some) [] [] (He.ga K "_law_some") fd) (T : TxW K mg) (d_draw : Okd P w K mg base CX0 1 (He.ga K "_law_draw") ["_law_pool_here", "_law_limit"] (spDraw K)) : FnOk P w K mg base CX0 2 (He.ga K "_law_some") fd ["_law_pool_here", "_law_count"] (spSome K) := by
  obtain ⟨fd_draw, G_draw, b_draw⟩ := d_draw
  refine F.ok sc_some (fun vs H Q E h => by obtain ⟨p, b, n, rfl, _⟩ := h; rfl) (fun cdv A outer s H vs Q E hr h => ?_)
  obtain ⟨p, b, n, rfl, P, hb, n0, n1, q⟩ := h
  refine ⟨_, PSs.nox (pss_cons (ps_set (i := 2) sc_some.nd rfl (Or.inr rfl) (pe_op op_add pe_int (pe_call G_draw (hr.mono (by decide)) (by rfl) T.g__law_draw T.k__law_draw b_draw .nil pass0 (pa_cons (pv 0) (pa_cons pe_int pa_nil)))))
    (pss_one (ps_ret (pe_lc (own := [("_law_place", 3)]) (g := gName 3)  rfl sc_some.nd (pi_range1 rfl T.n_range (pa_cons (pv 1) pa_nil)) (blkOk_by (own := [("_law_place", 3)]) (N := ["_law_pool_here", "_law_count", "_law_wide", "_law_place"]) (sc := defScope s_some) (by decide +kernel)) (fun _ _ _ _ _ => (pg_name (i := 3) sc_some.nd rfl (Or.inl rfl))) (fun _ _ _ _ _ => (pts_one (pt_cmpR op_eq (pe_call G_draw (hr.mono (by decide)) (by rfl) T.g__law_draw T.k__law_draw b_draw .nil pass0 (pa_cons (pv 0) (pa_cons (pv 2) pa_nil))) pe_int (nomark _)))) (fun _ _ _ _ _ => (pv 3)))))), ?_⟩
  refine ⟨_, rfl, p, b - 1, 2, rfl, P.less (by omega), by decide, by decide, fun H1 wd w0 w1 P1 B1 => ⟨_, _, rfl, rfl, ?_⟩⟩
  refine ⟨_, rfl, n, rfl, by omega, by omega, fun D hD => lc_range (n := n.toNat) (fun i H' => ∃ us : List Int, But1 p H H' ∧ PoolAt K H' p (b - 1 - i) ∧ H' D = some (.lst (us.map V.int)) ∧ us.Pairwise (· < ·) ∧ (∀ v ∈ us, 0 ≤ v ∧ v < (i : Int)) ∧ us.length ≤ i) ?_ ?_ ?_⟩
  · exact ⟨[], B1.one.new (B1.one.none hD (P1.ne_new hD)), P1.new hD, upd_same, List.Pairwise.nil, (fun _ z => nomatch z), Nat.le_refl _⟩
  · rintro i H2 hi ⟨us, b2, P2, h2, up, rg, lu⟩
    have hDp : D ≠ p := P1.ne_new hD
    have hD0 : H D = none := B1.one.none hD hDp
    refine ⟨rfl, _, rfl, _, rfl, p, b - 1 - i - 1, _, rfl, P2.less (by omega), by omega, Nat.lt_of_le_of_lt (show (2 + wd : Int).natAbs ≤ 1000 by omega) (by decide), fun H3 d d0 d1 P3 B3 => ⟨rfl, _, rfl, ?_⟩⟩
    have h3 := B3.one D _ hDp h2
    have b3 := b2.trans B3.one
    refine iteB (fun _ => ⟨_, rfl, _, h3, ?_, us ++ [(i : Int)], b3.new hD0, (P3.less (by omega)).set h3 hDp, ?_, up_snoc up fun v hv => (rg v hv).2, fun v hv => ?_, ?_⟩) (fun _ => ⟨us, b3, P3.less (by omega), h3, up, fun v hv => ?_, by omega⟩)
    · rw [List.length_map]
      exact Nat.lt_of_le_of_lt (show us.length ≤ 200 by omega) (by decide)
    · rw [upd_same, List.map_append, show (0 + (i : Int)) = (i : Int) by omega]
      rfl
    · rcases List.mem_append.mp hv with hv | hv
      · have := rg v hv
        omega
      · rw [List.mem_singleton.mp hv]
        omega
    · rw [List.length_append, List.length_singleton]
      omega
    · have := rg v hv
      omega
  rintro H2 ⟨us, b2, P2, h2, up, rg, lu⟩
  exact q H2 D us b2 (P2.less (by omega)) h2 up (fun v hv => by have := rg v hv; omega) lu (P1.ne_new hD) (B1.one.none hD (P1.ne_new hD))
end
section
variable {P : Program} {w : World} {K : PySem.W.Frag} {mg : Str → Option Value} {base : Heap}

/-- a step along the edge g from the place p -/
def nextP (es : List Edge) (p g : Int) : Option Int := if 0 ≤ g then (match es[g.toNat]? with
  | some q => if q.1 = p then some q.2 else none
  | none => none) else none
/-- the places behind p along a row, and whether all of it can be gone -/
def walkW (es : List Edge) : Int → List Int → List Int × Bool
  | _, [] => ([], true)
  | p, g :: r => match nextP es p g with
    | none => ([], false)
    | some q => (q :: (walkW es q r).1, (walkW es q r).2)
def lastP (p : Int) (l : List Int) : Int := l.getLast?.getD p
theorem lastP_cons (p q : Int) (l : List Int) : lastP p (q :: l) = lastP q l := by
  unfold lastP
  rw [List.getLast?_cons]
  rfl
theorem walk_stop {es : List Edge} : ∀ {ws : List Int} {p : Int} {l : List Int} (more : List Int), walkW es p ws = (l, false) → walkW es p (ws ++ more) = (l, false)
  | [], _, _, _, h => by cases h
  | g :: r, p, l, more, h => by
    show (match nextP es p g with
      | none => ([], false)
      | some q => (q :: (walkW es q (r ++ more)).1, (walkW es q (r ++ more)).2)) = (l, false)
    have h' : (match nextP es p g with
      | none => ([], false)
      | some q => (q :: (walkW es q r).1, (walkW es q r).2)) = (l, false) := h
    cases e : nextP es p g with
    | none =>
      rw [e] at h'
      exact h'
    | some q =>
      rw [e] at h'
      have h1 : q :: (walkW es q r).1 = l := congrArg Prod.fst h'
      have h2 : (walkW es q r).2 = false := congrArg Prod.snd h'
      have ih := walk_stop (ws := r) (p := q) (l := (walkW es q r).1) more (by rw [← h2])
      show (q :: (walkW es q (r ++ more)).1, (walkW es q (r ++ more)).2) = (l, false)
      rw [ih, ← h1]
theorem walk_snoc {es : List Edge} : ∀ {ws : List Int} {p : Int} {l : List Int} (g : Int), walkW es p ws = (l, true) → walkW es p (ws ++ [g]) = match nextP es (lastP p l) g with
    | none => (l, false)
    | some q => (l ++ [q], true)
  | [], p, l, g, h => by
    have e : l = [] := (congrArg Prod.fst h).symm
    subst e
    show (match nextP es p g with
      | none => ([], false)
      | some q => ([q], true)) = match nextP es p g with
      | none => ([], false)
      | some q => ([] ++ [q], true)
    rfl
  | a :: r, p, l, g, h => by
    have h' : (match nextP es p a with
      | none => ([], false)
      | some q => (q :: (walkW es q r).1, (walkW es q r).2)) = (l, true) := h
    cases e : nextP es p a with
    | none =>
      rw [e] at h'
      cases h'
    | some q =>
      rw [e] at h'
      have h1 : q :: (walkW es q r).1 = l := congrArg Prod.fst h'
      have h2 : (walkW es q r).2 = true := congrArg Prod.snd h'
      have ih := walk_snoc (ws := r) (p := q) (l := (walkW es q r).1) g (by rw [← h2])
      show (match nextP es p a with
        | none => ([], false)
        | some q => (q :: (walkW es q (r ++ [g])).1, (walkW es q (r ++ [g])).2)) = _
      rw [e]
      show (q :: (walkW es q (r ++ [g])).1, (walkW es q (r ++ [g])).2) = _
      rw [ih, ← h1, lastP_cons]
      cases nextP es (lastP q (walkW es q r).1) g <;> rfl
theorem walk_len {es : List Edge} : ∀ {ws : List Int} {p : Int} {l : List Int}, walkW es p ws = (l, true) → l.length = ws.length
  | [], _, l, h => by
    have e : l = [] := (congrArg Prod.fst h).symm
    rw [e]
  | a :: r, p, l, h => by
    have h' : (match nextP es p a with
      | none => ([], false)
      | some q => (q :: (walkW es q r).1, (walkW es q r).2)) = (l, true) := h
    cases e : nextP es p a with
    | none =>
      rw [e] at h'
      cases h'
    | some q =>
      rw [e] at h'
      have h1 : q :: (walkW es q r).1 = l := congrArg Prod.fst h'
      have h2 : (walkW es q r).2 = true := congrArg Prod.snd h'
      have ih := walk_len (ws := r) (p := q) (l := (walkW es q r).1) (by rw [← h2])
      rw [← h1, List.length_cons, List.length_cons, ih]
theorem lastP_snoc (p q : Int) (l : List Int) : lastP p (l ++ [q]) = q := by
  unfold lastP
  rw [List.getLast?_append]
  rfl
theorem lastP_at (p : Int) (l : List Int) : atI ((p :: l).map V.int) (-1) = some (.int (lastP p l)) := by
  rcases List.eq_nil_or_concat l with e | ⟨l', q, e⟩
  · rw [e]
    exact atI_last [] (V.int p)
  · rw [List.concat_eq_append] at e
    rw [e, lastP_snoc, show (p :: (l' ++ [q])).map V.int = (p :: l').map V.int ++ [V.int q] from by rw [← List.cons_append, List.map_append]; rfl]
    exact atI_last _ _
def spPlacesOf (K : PySem.W.Frag) : Sp := fun vs H Q E => ∃ (a wy : Addr) (n e : Int) (es : List Edge) (ys ws : List Int), vs = [.ref a, .ref wy] ∧ WebAt K H a n es e ys ∧ Qa H wy (ws.map V.int) ∧ ws.length ≤ 1000 ∧
  (∀ (l : List Int) (H' : Hp) (t : Addr), walkW es e ws = (l, true) → Same H H' → H' t = some (.tup ((e :: l).map V.int)) → Q (.ref t) H') ∧
  (∀ (l : List Int) (H' : Hp) (d : Addr), walkW es e ws = (l, false) → Same H H' → H' d = some (.xd [("index", .int (l.length : Int))]) → E (.ref (He.ga K "BadWay")) (some d) H')
abbrev s_places_of : Stmt := top 19
theorem sc_places_of : FnScope ["web", "way", "places", "index", "edge", "begin", "end"] ["web", "way"] (defScope s_places_of) := ⟨rfl, rfl, rfl, by decide +kernel, rfl, by decide +kernel, by decide +kernel⟩
theorem ok_places_of {fd : FuncData} (F : FunD K "places_of" "places_of" (defArgs s_places_of) (defBody s_places_of) (defScope s_places_of) [] [] (He.ga K "places_of") fd) (T : TxW K mg) (I_BadWay : ErrI P w K mg base (He.ga K "BadWay") "index") (d_is_below : Okd P w K mg base CX0 2 (He.ga K "is_below") ["value", "limit"] spBelow) : FnOk P w K mg base (L2.CX P w) 3 (He.ga K "places_of") fd ["web", "way"] (spPlacesOf K) := by
  obtain ⟨fd_is_below, G_is_below, b_is_below⟩ := d_is_below
  refine F.ok sc_places_of (fun vs H Q E h => by obtain ⟨a, wy, n, e, es, ys, ws, rfl, _⟩ := h; rfl) (fun cdv A outer s H vs Q E hr h => ?_)
  obtain ⟨a, wy, n, e, es, ys, ws, rfl, hA, hW, few, q1, q2⟩ := h
  refine ⟨_,  (pss_cons (ps_set (i := 2) sc_places_of.nd rfl (Or.inl rfl) (pe_lst (pa_cons (pe_fld (pv 0) rfl) pa_nil)))
    (pss_cons (ps_for (passes_of rfl) rfl (pi_enumM (by rfl) T.n_enumerate (pa_cons (pv 1) pa_nil)) (pg_tup rfl (pgs_cons (pg_name (i := 3) sc_places_of.nd rfl (Or.inl rfl)) (pgs_cons (pg_name (i := 4) sc_places_of.nd rfl (Or.inl rfl)) pgs_nil)))
      (pss_cons (ps_if (pt_not (pt_val (pe_call G_is_below (hr.mono (by decide)) (by rfl) T.g_is_below T.k_is_below b_is_below .nil pass0 (pa_cons (pv 4) (pa_cons (pe_callB call_len_seq (by rfl) T.n_len PySem.boot_len (pa_cons (pe_fld (pv 0) rfl) pa_nil)) pa_nil))))) (pss_one (ps_raise rfl (takes_of rfl rfl rfl rfl) (pmk_errF I_BadWay (hr.mono (by decide)) (by rfl) T.g_BadWay (pa_cons (pv 3) pa_nil)))) pss_nil)
    (pss_cons (ps_asg (pe_ix ix_tup (pe_fld (pv 0) rfl) (pv 4) (fun _ _ => rfl)) (pg_tup rfl (pgs_cons (pg_name (i := 5) sc_places_of.nd rfl (Or.inl rfl)) (pgs_cons (pg_name (i := 6) sc_places_of.nd rfl (Or.inl rfl)) pgs_nil))))
    (pss_cons (ps_if (pt_cmpR op_ne (pv 5) (pe_ix ix_list (pv 2) (pe_un un_neg pe_int) (fun _ _ => rfl)) (nomark _)) (pss_one (ps_raise rfl (takes_of rfl rfl rfl rfl) (pmk_errF I_BadWay (hr.mono (by decide)) (by rfl) T.g_BadWay (pa_cons (pv 3) pa_nil)))) pss_nil)
    (pss_one (ps_expr (pe_bm PySem.F.plainAttrs_list PySem.F.slot_list_append PySem.F.type_list_append mt_append (pv 2) (pa_cons (pv 6) pa_nil))))))))
    (pss_one (ps_ret (pe_callTy call_tupleQ (by rfl) T.n_tuple (by decide +kernel) (pa_cons (pv 2) pa_nil)))))), ?_⟩
  obtain ⟨dx, te, tx, M, ot, h1, h2, h3, h4, h5, h6⟩ := hA.at_
  have l1 : M.length = es.length := by rw [← h4]; exact (List.length_map ..).symm
  refine ⟨_, rfl, a, _, dx, _, _, rfl, h1, T.cl_Web, T.na_entry, rfl, (by show 1 ≤ sizeLine; decide), fun pl hpl => ?_⟩
  have s0 := same_upd (o := .lst [.int e]) (Same.refl H) hpl
  refine ⟨_, rfl, for_enumQ (K := K) (a := wy) (xs := ws.map V.int) (hW.same s0) (fun i σ' H' => ∃ (v3 v4 v5 v6 : Option V) (l : List Int), σ' = [some (.ref a), some (.ref wy), some (.ref pl), v3, v4, v5, v6] ∧ Same H H' ∧ H' pl = some (.lst ((e :: l).map V.int)) ∧ walkW es e (ws.take i) = (l, true))
    ⟨none, none, none, none, [], rfl, s0, upd_same, rfl⟩ (fun i σ' H' h o ho => ?_) ?_ ?_⟩
  · obtain ⟨_, _, _, _, _, _, s, _⟩ := h
    rcases hW with hw | hw
    · rw [s0 _ _ hw] at ho
      rw [← ho]
      exact s _ _ hw
    · rw [s0 _ _ hw] at ho
      rw [← ho]
      exact s _ _ hw
  · rintro i x T' σ1 H1 hi ⟨v3, v4, v5, v6, l, rfl, s1, hpl1, wl⟩ hT
    obtain ⟨g, hg, rfl⟩ := int_at hi
    have s2 := same_upd (o := .tup [.int (i : Nat), .int g]) s1 hT
    have hpl2 : (upd H1 T' (.tup [.int (i : Nat), .int g])) pl = some (.lst ((e :: l).map V.int)) := by rw [upd_ne (ne_of_none hpl1 hT)]; exact hpl1
    have tk := take_next hg
    have len := walk_len wl
    have li : i < ws.length := (List.getElem?_eq_some_iff.mp hg).1
    have il : l.length = i := by rw [len, List.length_take]; omega
    -- how a fault ends
    have fault : nextP es (lastP e l) g = none → ∀ (H' : Hp) (d : Addr), H' d = some (.xd [("index", .int (i : Int))]) → Same H H' → E (.ref (He.ga K "BadWay")) (some d) H' := fun no H' d hd sH => by
      refine q2 l H' d ?_ sH (by rw [il]; exact hd)
      have st := walk_snoc g wl
      rw [no, ← tk] at st
      have all := walk_stop (ws.drop (i + 1)) st
      rw [List.take_append_drop] at all
      exact all
    refine ⟨T', _, rfl, SqT.of upd_same, rfl, _, _, rfl, _, _, rfl, rfl, ?_⟩
    refine ⟨_, rfl, _, rfl, a, _, dx, _, _, rfl, (s2 _ _ h1), T.cl_Web, T.na_edges, rfl, te, _, rfl, .inr (SqT.of (s2 _ _ h2)), g, _, rfl, _, rfl, ?_⟩
    rw [List.length_map, l1]
    by_cases ok : 0 ≤ g ∧ g < (es.length : Int)
    case neg =>
      rw [decide_eq_false ok]
      refine iteT ⟨_, rfl, _, rfl, fun d H2 hd hx sx => fault ?_ H2 d hx (s2.trans sx)⟩
      unfold nextP
      by_cases g0 : 0 ≤ g
      · rw [if_pos g0, List.getElem?_eq_none (by omega)]
      · rw [if_neg g0]
    rw [decide_eq_true ok]
    refine iteF ?_
    have lt : g.toNat < M.length := by omega
    have eM : M[g.toNat]? = some M[g.toNat] := List.getElem?_eq_getElem lt
    have eE : es[g.toNat]? = some M[g.toNat].2 := by rw [← h4, List.getElem?_map, eM]; rfl
    have at' : atI (M.map fun p => V.ref p.1) g = some (.ref M[g.toNat].1) := by
      have z := atI_nat (xs := M.map fun p => V.ref p.1) (j := g.toNat) (v := .ref M[g.toNat].1) (by rw [List.getElem?_map, eM]; rfl)
      rw [Int.toNat_of_nonneg ok.1] at z
      exact z
    refine ⟨_, rfl, a, _, dx, _, _, rfl, (s2 _ _ h1), T.cl_Web, T.na_edges, rfl, _, rfl, te, _, g, _, rfl, rfl, SqT.of (s2 _ _ h2), at', M[g.toNat].1, _, rfl, SqT.of (s2 _ _ (h3 _ (List.getElem_mem lt))), rfl, _, _, rfl, _, _, rfl, rfl, ?_⟩
    refine ⟨_, rfl, _, rfl, _, rfl, pl, _, -1, _, rfl, rfl, SqL.of hpl2, lastP_at e l, rfl, _, rfl, ?_⟩
    by_cases eq : M[g.toNat].2.1 = lastP e l
    case neg =>
      rw [decide_eq_false (fun z => eq (V.int.inj z))]
      refine iteT ⟨_, rfl, _, rfl, fun d H2 hd hx sx => fault ?_ H2 d hx (s2.trans sx)⟩
      unfold nextP
      rw [if_pos ok.1, eE]
      show (if M[g.toNat].2.1 = lastP e l then some M[g.toNat].2.2 else none) = none
      rw [if_neg eq]
    rw [decide_eq_true (congrArg V.int eq)]
    refine iteF ?_
    have yes : nextP es (lastP e l) g = some M[g.toNat].2.2 := by
      unfold nextP
      rw [if_pos ok.1, eE]
      show (if M[g.toNat].2.1 = lastP e l then some M[g.toNat].2.2 else none) = _
      rw [if_pos eq]
    have w5 : ((e :: l).map V.int).length < sizeLine := by
      rw [List.length_map, List.length_cons, il]
      exact Nat.lt_of_le_of_lt (show i + 1 ≤ 2000 by omega) (by decide)
    refine ⟨_, rfl, .inl ⟨rfl, _, SqL.of hpl2⟩, _, rfl, pl, _, _, rfl, rfl, hpl2, w5, ?_⟩
    refine ⟨_, _, _, _, l ++ [M[g.toNat].2.2], rfl, fun b o ho => ?_, ?_, ?_⟩
    · rw [upd_ne (ne_of_none ho hpl)]
      exact s2 b o ho
    · rw [upd_same, ← List.cons_append, List.map_append]
      rfl
    · have st := walk_snoc g wl
      rw [yes] at st
      rw [tk]
      exact st
  rintro σ1 H1 ⟨v3, v4, v5, v6, l, rfl, s1, hpl1, wl⟩
  rw [List.length_map, List.take_length] at wl
  exact ⟨_, rfl, pl, _, rfl, .inl hpl1, fun b H2 s2 hb => q1 l H2 b wl (s1.trans s2) hb⟩

theorem Told.but {K : PySem.W.Frag} {H H' : Hp} {p t : Addr} {b : Nat} {n : Int} {L : List (Addr × Edge)} {e : Int} {gs : List Int} {pa ga : Addr} (h : Told H t n L e gs pa ga) (P : PoolAt K H p b) (s : But1 p H H') (hpp : pa ≠ p) (hgp : ga ≠ p) : Told H' t n L e gs pa ga := by
  obtain ⟨xs, hp⟩ := P.lst
  exact ⟨s _ _ (ne_of h.at_ hp (by intro z; cases z)) h.at_, h.ed.but P s hpp, s _ _ hgp h.go⟩
def spFarW : Sp := fun vs H Q _ => ∃ (t : Addr) (p n e : Int) (L : List (Addr × Edge)) (gs : List Int) (pa ga : Addr), vs = [.ref t, .int p] ∧ Told H t n L e gs pa ga ∧ 0 ≤ n ∧ n ≤ 24 ∧ L.length ≤ 50 ∧ gs.length ≤ 24 ∧ ∀ H', Same H H' → Q (.int (Lv (pairs L) gs n.toNat p : Nat)) H'
def spWayW (K : PySem.W.Frag) : Sp := fun vs H Q _ => ∃ (p : Addr) (b : Nat) (t : Addr) (m n e : Int) (L : List (Addr × Edge)) (gs : List Int) (pa ga : Addr), vs = [.ref p, .ref t, .int m] ∧ PoolAt K H p b ∧ 1000 ≤ b ∧ Told H t n L e gs pa ga ∧ Good n (pairs L) e gs ∧ 0 ≤ m ∧ m ≤ 20 ∧ n ≤ 24 ∧ L.length ≤ 50 ∧ gs.length ≤ 24 ∧ pa ≠ p ∧ ga ≠ p ∧
  ∀ (H' : Hp) (wy : Addr) (ws l : List Int), But1 p H H' → PoolAt K H' p (b - 1000) → H' wy = some (.lst (ws.map V.int)) → ws.length ≤ 100 → walkW (pairs L) e ws = (l, true) → lastP e l ∈ gs → wy ≠ p → H wy = none → Q (.ref wy) H'
theorem near_mem {es : List Edge} {gs ms cs : List Int} {i : Nat} (hm : ∀ v, v ∈ ms ↔ Near es gs i v) (hc : ∀ u, u ∈ cs ↔ ∃ z, (u, z) ∈ es ∧ z ∈ ms) : ∀ v, v ∈ ms ++ cs ↔ Near es gs (i + 1) v := fun v => by
  rw [List.mem_append, hm, hc]
  show _ ↔ Near es gs i v ∨ ∃ w, (v, w) ∈ es ∧ Near es gs i w
  constructor
  · rintro (h | ⟨z, h1, h2⟩)
    · exact .inl h
    · exact .inr ⟨z, h1, (hm z).mp h2⟩
  · rintro (h | ⟨z, h1, h2⟩)
    · exact .inl h
    · exact .inr ⟨z, h1, (hm z).mpr h2⟩
theorem nextP_at {es : List Edge} {pl c w : Int} (c0 : 0 ≤ c) (h : es[c.toNat]? = some (pl, w)) : nextP es pl c = some w := by
  unfold nextP
  rw [if_pos c0, h]
  exact if_pos rfl
/-- the edges out of a place, by number -/
def Outs (es : List Edge) (pl : Int) (c : Int) : Prop := 0 ≤ c ∧ ∃ w, es[c.toNat]? = some (pl, w)
abbrev s_far : Stmt := top 45
theorem sc_far : FnScope ["_law_told", "_law_place", "_law_count", "_law_pairs", "_law_origin", "_law_goals", "_law_met", "_law_turn", "_law_one", "_law_two"] ["_law_told", "_law_place"] (defScope s_far) := ⟨rfl, rfl, rfl, by decide +kernel, rfl, by decide +kernel, by decide +kernel⟩
theorem ok_far {fd : FuncData} (F : FunD K "_law_far" "_law_far" (defArgs s_far) (defBody s_far) (defScope s_far) [] [] (He.ga K "_law_far") fd) (T : TxW K mg) : FnOk P w K mg base CX0 1 (He.ga K "_law_far") fd ["_law_told", "_law_place"] spFarW := by
  refine F.ok sc_far (fun vs H Q E h => by obtain ⟨t, p, n, e, L, gs, pa, ga, rfl, _⟩ := h; rfl) (fun cdv A outer s H vs Q E hr h => ?_)
  obtain ⟨t, p, n, e, L, gs, pa, ga, rfl, hT, n0, n1, l1, l2, q⟩ := h
  refine ⟨_, PSs.nox (pss_cons (ps_asg (pv 0) (pg_tup rfl (pgs_cons (pg_name (i := 2) sc_far.nd rfl (Or.inl rfl)) (pgs_cons (pg_name (i := 3) sc_far.nd rfl (Or.inl rfl)) (pgs_cons (pg_name (i := 4) sc_far.nd rfl (Or.inl rfl)) (pgs_cons (pg_name (i := 5) sc_far.nd rfl (Or.inl rfl)) pgs_nil))))))
    (pss_cons (ps_set (i := 6) sc_far.nd rfl (Or.inr rfl) (pe_callTy call_list_of (by rfl) T.n_list (by decide +kernel) (pa_cons (pv 5) pa_nil)))
    (pss_cons (ps_for PassesOwn.never rfl (pi_range1 rfl T.n_range (pa_cons (pv 2) pa_nil)) (pg_name (i := 7) sc_far.nd rfl (Or.inl rfl))
      (pss_cons (ps_if (pt_cmpR op_in_seq (pv 1) (pv 6) (by first | exact nomark _ | rfl)) (pss_one (ps_ret (pv 7))) pss_nil)
    (pss_one (ps_set (i := 6) sc_far.nd rfl (Or.inr rfl) (pe_op op_cat (pv 6) (pe_lc (own := [("_law_one", 8), ("_law_two", 9)]) (g := gTup K 2 (gCons (gName 8) (gCons (gName 9) gNil)))  rfl sc_far.nd (pi_list (pv 3)) (blkOk_by (own := [("_law_one", 8), ("_law_two", 9)]) (N := ["_law_told", "_law_place", "_law_count", "_law_pairs", "_law_origin", "_law_goals", "_law_met", "_law_turn", "_law_one", "_law_two"]) (sc := defScope s_far) (by decide +kernel)) (fun _ _ _ _ _ => (pg_tup rfl (pgs_cons (pg_name (i := 8) sc_far.nd rfl (Or.inl rfl)) (pgs_cons (pg_name (i := 9) sc_far.nd rfl (Or.inl rfl)) pgs_nil)))) (fun _ _ _ _ _ => (pts_one (pt_cmpR (r := rIn K false) op_in_seq (pv 9) (pv 6) (by rfl)))) (fun _ _ _ _ _ => (pv 8))))))))
    (pss_one (ps_ret (pv 2)))))), ?_⟩
  refine ⟨_, rfl, t, _, rfl, SqT.of hT.at_, rfl, _, _, rfl, _, _, rfl, _, _, rfl, _, _, rfl, rfl, ?_⟩
  refine ⟨_, rfl, ga, _, rfl, .inl (SqL.of hT.go), fun m hm => ?_⟩
  refine ⟨_, rfl, n, rfl, by omega, by omega, for_range (lo := 0) (n := n.toNat) (fun i σ' H' => ∃ (mt : Addr) (v7 : Option V) (ms : List Int), σ' = [some (.ref t), some (.int p), some (.int n), some (.ref pa), some (.int e), some (.ref ga), some (.ref mt), v7, none, none] ∧ Same H H' ∧ H' mt = some (.lst (ms.map V.int)) ∧ ms.length ≤ 24 + 50 * i ∧ (∀ v, v ∈ ms ↔ Near (pairs L) gs i v) ∧ ∀ j, j < i → ¬ Near (pairs L) gs j p)
    ⟨m, none, gs, rfl, same_upd (Same.refl H) hm, upd_same, by omega, fun v => Iff.rfl, fun j hj => absurd hj (Nat.not_lt_zero j)⟩ ?_ ?_⟩
  · rintro i σ1 H1 hi ⟨mt, v7, ms, rfl, s1, hm1, lm, nm, no⟩
    refine ⟨_, rfl, _, rfl, mt, _, rfl, .inl (SqL.of hm1), rfl, flat_ints ms, _, rfl, ?_⟩
    rw [inV_ints]
    refine iteB (fun y => ⟨_, rfl, ?_⟩) (fun nn => ?_)
    · have q := q H1 s1
      rw [Lv_found hi ((nm p).mp (of_decide_eq_true y)) no] at q
      rw [show (0 + (i : Int)) = (i : Int) by omega]
      exact q
    have no2 : ∀ j, j < i + 1 → ¬ Near (pairs L) gs j p := fun j hj => by
      by_cases e : j = i
      · rw [e]
        exact fun z => of_decide_eq_false nn ((nm p).mpr z)
      · exact no j (by omega)
    have E1 := hT.ed.same s1
    refine ⟨_, rfl, _, rfl, pa, rfl, ⟨_, SqL.of E1.at_⟩, fun D hD => lc_list (K := K) (a := pa) (xs := eR L) (fun j H' => ∃ cs : List Int, Same H1 H' ∧ H' D = some (.lst (cs.map V.int)) ∧ cs.length ≤ j ∧ ∀ u, u ∈ cs ↔ ∃ z, (u, z) ∈ (pairs L).take j ∧ z ∈ ms)
      ⟨[], same_upd (Same.refl H1) hD, upd_same, Nat.le_refl _, fun u => Iff.intro (fun z => nomatch z) (fun y => by obtain ⟨z, h, _⟩ := y; cases h)⟩ (fun j H' _ h => by obtain ⟨_, s, _⟩ := h; exact SqL.of (s _ _ E1.at_)) ?_ ?_⟩
    · rintro j x H2 hj ⟨cs, s2, hc, lc, mc⟩
      obtain ⟨r, u, z, rfl, hLi, he, hpi⟩ := edge_at E1.edges hj
      have hr2 := (E1.same s2).tup _ (List.mem_of_getElem? hLi)
      refine ⟨r, _, rfl, SqT.of hr2, rfl, _, _, rfl, _, _, rfl, rfl, ?_⟩
      refine ⟨rfl, _, rfl, _, rfl, mt, _, rfl, .inl (SqL.of (s2 _ _ hm1)), rfl, flat_ints ms, _, rfl, ?_⟩
      have lj : j < L.length := (List.getElem?_eq_some_iff.mp hLi).1
      rw [inV_ints]
      have tk : (pairs L).take (j + 1) = (pairs L).take j ++ [(u, z)] := take_next hpi
      refine iteB (fun y => ⟨_, rfl, _, hc, ?_, cs ++ [u], ?_, ?_, ?_, fun w => ?_⟩) (fun nn => ⟨cs, s2, hc, by omega, fun w => ?_⟩)
      · rw [List.length_map]
        exact Nat.lt_of_le_of_lt (show cs.length ≤ 100 by omega) (by decide)
      · intro b o ho
        rw [upd_ne (ne_of_none ho hD)]
        exact s2 b o ho
      · rw [upd_same, List.map_append]
        rfl
      · rw [List.length_append, List.length_singleton]
        omega
      · rw [List.mem_append, mc, List.mem_singleton, tk]
        constructor
        · rintro (⟨x, h1, h2⟩ | rfl)
          · exact ⟨x, List.mem_append.mpr (.inl h1), h2⟩
          · exact ⟨z, List.mem_append.mpr (.inr List.mem_cons_self), of_decide_eq_true y⟩
        · rintro ⟨x, h1, h2⟩
          rcases List.mem_append.mp h1 with h1 | h1
          · exact .inl ⟨x, h1, h2⟩
          · exact .inr (Prod.mk.inj (List.mem_singleton.mp h1)).1
      · rw [mc, tk]
        constructor
        · rintro ⟨x, h1, h2⟩
          exact ⟨x, List.mem_append.mpr (.inl h1), h2⟩
        · rintro ⟨x, h1, h2⟩
          rcases List.mem_append.mp h1 with h1 | h1
          · exact ⟨x, h1, h2⟩
          · have := (Prod.mk.inj (List.mem_singleton.mp h1)).2
            rw [this] at h2
            exact absurd h2 (of_decide_eq_false nn)
    rintro H2 ⟨cs, s2, hc, lc, mc⟩
    rw [List.length_map] at lc mc
    rw [show L.length = (pairs L).length from (List.length_map ..).symm, List.take_length] at mc
    refine ⟨mt, D, ms.map V.int, cs.map V.int, rfl, rfl, s2 _ _ hm1, hc, ?_, fun r hr => ?_⟩
    · rw [List.length_map, List.length_map]
      exact Nat.le_trans (show ms.length + cs.length ≤ 4000 by omega) (by decide)
    · refine ⟨r, _, ms ++ cs, rfl, (s1.trans s2).trans (same_upd (Same.refl _) hr), by rw [upd_same, List.map_append], ?_⟩
      refine ⟨?_, near_mem nm mc, no2⟩
      rw [List.length_append]
      omega
  rintro σ1 H1 ⟨mt, v7, ms, rfl, s1, hm1, lm, nm, no⟩
  have q := q H1 s1
  rw [Lv_none no, show ((n.toNat : Nat) : Int) = n by omega] at q
  exact ⟨_, rfl, q⟩
abbrev s_way : Stmt := top 44
theorem sc_way : FnScope ["_law_pool_here", "_law_told", "_law_most", "_law_count", "_law_pairs", "_law_origin", "_law_goals", "_law_place", "_law_way_here", "_law_k", "_law_nexts", "_law_edge", "_law_at"] ["_law_pool_here", "_law_told", "_law_most"] (defScope s_way) := ⟨rfl, rfl, rfl, by decide +kernel, rfl, by decide +kernel, by decide +kernel⟩
theorem ok_way {fd : FuncData} (F : FunD K "_law_way" "_law_way" (defArgs s_way) (defBody s_way) (defScope s_way) [] [] (He.ga K "_law_way") fd) (T : TxW K mg) (d_draw : Okd P w K mg base CX0 1 (He.ga K "_law_draw") ["_law_pool_here", "_law_limit"] (spDraw K)) (d_far : Okd P w K mg base CX0 1 (He.ga K "_law_far") ["_law_told", "_law_place"] spFarW) : FnOk P w K mg base CX0 2 (He.ga K "_law_way") fd ["_law_pool_here", "_law_told", "_law_most"] (spWayW K) := by
  obtain ⟨fd_draw, G_draw, b_draw⟩ := d_draw
  obtain ⟨fd_far, G_far, b_far⟩ := d_far
  refine F.ok sc_way (fun vs H Q E h => by obtain ⟨p, b, t, m, n, e, L, gs, pa, ga, rfl, _⟩ := h; rfl) (fun cdv A outer s H vs Q E hr h => ?_)
  obtain ⟨p, b, t, m, n, e, L, gs, pa, ga, rfl, P, hb, hT, good, m0, m1, n1, l1, l2, hpp, hgp, q⟩ := h
  refine ⟨_, PSs.nox (pss_cons (ps_asg (pv 1) (pg_tup rfl (pgs_cons (pg_name (i := 3) sc_way.nd rfl (Or.inl rfl)) (pgs_cons (pg_name (i := 4) sc_way.nd rfl (Or.inr rfl)) (pgs_cons (pg_name (i := 5) sc_way.nd rfl (Or.inl rfl)) (pgs_cons (pg_name (i := 6) sc_way.nd rfl (Or.inl rfl)) pgs_nil))))))
    (pss_cons (ps_set (i := 7) sc_way.nd rfl (Or.inr rfl) (pv 5))
    (pss_cons (ps_set (i := 8) sc_way.nd rfl (Or.inl rfl) (pe_lst pa_nil))
    (pss_cons (ps_for PassesOwn.never rfl (pi_range1 rfl T.n_range (pa_cons (pe_op op_add (pv 2) (pe_op op_mul pe_int (pv 3))) pa_nil)) (pg_name (i := 9) sc_way.nd rfl (Or.inl rfl))
      (C8.pss_cut (ps_if (PW.pt (pw_and (pt_cmpR op_in_seq (pv 7) (pv 6) (by first | exact nomark _ | rfl)) (pw_and1 (PW.pt (pw_or (pt_cmpR op_ge (pv 9) (pv 2) (nomark _)) (pw_or1 (pt_cmpR op_eq (pe_call G_draw (hr.mono (by decide)) (by rfl) T.g__law_draw T.k__law_draw b_draw .nil pass0 (pa_cons (pv 0) (pa_cons pe_int pa_nil))) pe_int (nomark _)))))))) (pss_one ps_break) pss_nil)
    (pss_cons (ps_setLc (i := 10) (own := [("_law_at", 12)]) (g := gName 12)  rfl sc_way.nd rfl rfl (sw_true rfl rfl rfl (by decide +kernel)) (pi_range1 rfl T.n_range (pa_cons (pe_callB call_len_seq (by rfl) T.n_len PySem.boot_len (pa_cons (pv 4) pa_nil)) pa_nil)) (blkOk_by (own := [("_law_at", 12)]) (N := ["_law_pool_here", "_law_told", "_law_most", "_law_count", "_law_pairs", "_law_origin", "_law_goals", "_law_place", "_law_way_here", "_law_k", "_law_nexts", "_law_edge", "_law_at"]) (sc := defScope s_way) (by decide +kernel)) (fun _ _ _ _ _ => (pg_name (i := 12) sc_way.nd rfl (Or.inl rfl))) (fun _ _ _ _ _ => (pts_one (pt_cmpR op_eq (pe_ix (r := rIxT K) ix_tup (pe_ix (r := rIxL K) ix_list (pv 4) (pv 12) (fun _ _ => rfl)) pe_int (fun _ _ => rfl)) (pv 7) (nomark _)))) (fun _ _ _ _ _ => (pv 12)))
    (C8.pss_cut (ps_if (pt_cmpR op_ge (pv 9) (pv 2) (nomark _)) (pss_one (ps_setLc (i := 10) (own := [("_law_at", 12)]) (g := gName 12)  rfl sc_way.nd rfl rfl (sw_true rfl rfl rfl (by decide +kernel)) (pi_list (pv 10)) (blkOk_by (own := [("_law_at", 12)]) (N := ["_law_pool_here", "_law_told", "_law_most", "_law_count", "_law_pairs", "_law_origin", "_law_goals", "_law_place", "_law_way_here", "_law_k", "_law_nexts", "_law_edge", "_law_at"]) (sc := defScope s_way) (by decide +kernel)) (fun _ _ _ _ _ => (pg_name (i := 12) sc_way.nd rfl (Or.inl rfl))) (fun _ _ _ _ _ => (pts_one (pt_cmpR op_lt (pe_call G_far (hr.mono (by decide)) (by rfl) T.g__law_far T.k__law_far b_far .nil pass0 (pa_cons (pv 1) (pa_cons (pe_ix (r := rIxT K) ix_tup (pe_ix (r := rIxL K) ix_list (pv 4) (pv 12) (fun _ _ => rfl)) pe_int (fun _ _ => rfl)) pa_nil))) (pe_call G_far (hr.mono (by decide)) (by rfl) T.g__law_far T.k__law_far b_far .nil pass0 (pa_cons (pv 1) (pa_cons (pv 7) pa_nil))) (nomark _)))) (fun _ _ _ _ _ => (pv 12)))) pss_nil)
    (pss_cons (ps_if (pt_cmpR (op_eqD hr.units) (pv 10) (pe_lst pa_nil) (nomark _)) (pss_one ps_break) pss_nil)
    (pss_cons (ps_set (i := 11) sc_way.nd rfl (Or.inl rfl) (pe_ix ix_list (pv 10) (pe_call G_draw (hr.mono (by decide)) (by rfl) T.g__law_draw T.k__law_draw b_draw .nil pass0 (pa_cons (pv 0) (pa_cons (pe_callB call_len_seq (by rfl) T.n_len PySem.boot_len (pa_cons (pv 10) pa_nil)) pa_nil))) (fun _ _ => rfl)))
    (pss_cons (ps_expr (pe_bm PySem.F.plainAttrs_list PySem.F.slot_list_append PySem.F.type_list_append mt_append (pv 8) (pa_cons (pv 11) pa_nil)))
    (pss_one (ps_set (i := 7) sc_way.nd rfl (Or.inr rfl) (pe_ix ix_tup (pe_ix ix_list (pv 4) (pv 11) (fun _ _ => rfl)) pe_int (fun _ _ => rfl)))))))))))
    (pss_one (ps_ret (pv 8))))))), ?_⟩
  have small : ∀ {z : Int}, 0 ≤ z → z ≤ 1000 → z.natAbs < 2 ^ 200 := fun {z} h0 h1 => Nat.lt_of_le_of_lt (show z.natAbs ≤ 1000 by omega) (by decide)
  have lE : (eR L).length = L.length := List.length_map ..
  have lP : (pairs L).length = L.length := List.length_map ..
  have gn1 := good.n1
  have n0 : 0 ≤ n := by omega
  refine ⟨_, rfl, t, _, rfl, SqT.of hT.at_, rfl, _, _, rfl, _, _, rfl, _, _, rfl, _, _, rfl, rfl, ?_⟩
  refine ⟨_, rfl, (by show 0 ≤ sizeLine; decide), fun wy hwy => ?_⟩
  have hwp : wy ≠ p := P.ne_new hwy
  refine ⟨_, rfl, _, rfl, _, _, rfl, rfl, .inl ⟨by decide, by decide⟩, _, _, rfl, rfl, ?_⟩
  refine ⟨_, rfl, by omega, by omega, for_range (lo := 0) (n := (m + 2 * n).toNat) (fun i σ' H' => ∃ (pl : Int) (v9 v10 v11 : Option V) (ws : List Int), σ' = [some (.ref p), some (.ref t), some (.int m), some (.int n), some (.ref pa), some (.int e), some (.ref ga), some (.int pl), some (.ref wy), v9, v10, v11, none] ∧ But1 p H H' ∧ PoolAt K H' p (b - 3 * i) ∧ H' wy = some (.lst (ws.map V.int)) ∧ ws.length ≤ i ∧ (0 ≤ pl ∧ pl < n) ∧ (∃ l, walkW (pairs L) e ws = (l, true) ∧ pl = lastP e l) ∧ (m ≤ (i : Int) → (Lv (pairs L) gs n.toNat pl : Int) + ((i : Int) - m) ≤ n))
    ⟨e, none, none, none, [], rfl, (But1.refl p H).new hwy, P.new hwy, upd_same, Nat.le_refl _, ⟨good.e0, good.e1⟩, ⟨[], rfl, rfl⟩, fun h => by have := (good.lv good.e0 good.e1).1; omega⟩ ?_ ?_⟩
  · rintro i σ1 H1 hi ⟨pl, v9, v10, v11, ws, rfl, b1, P1, hw1, lw, ⟨p0, p1⟩, ⟨l, wl, epl⟩, lev⟩
    have out : pl ∈ gs → ∀ (H' : Hp) (P' : PoolAt K H' p (b - 1000)), But1 p H H' → H' wy = some (.lst (ws.map V.int)) → Q (.ref wy) H' := fun hg H' P' b' hw' => q H' wy ws l b' P' hw' (by omega) wl (by rw [← epl]; exact hg) hwp hwy
    have T1 := hT.but P b1 hpp hgp
    refine ⟨fun σ' H' => σ' = [some (.ref p), some (.ref t), some (.int m), some (.int n), some (.ref pa), some (.int e), some (.ref ga), some (.int pl), some (.ref wy), some (.int (0 + (i : Int))), v10, v11, none] ∧ But1 p H H' ∧ PoolAt K H' p (b - 3 * i - 1) ∧ H' wy = some (.lst (ws.map V.int)) ∧ (m ≤ (i : Int) → pl ∉ gs), ?_, ?_⟩
    · refine ⟨_, rfl, _, rfl, ga, _, rfl, .inl (SqL.of T1.go), rfl, flat_ints gs, _, rfl, ?_⟩
      rw [inV_ints]
      refine iteB (fun yg => ?_) (fun ng => iteF ⟨rfl, b1, P1.less (by omega), hw1, fun _ => of_decide_eq_false ng⟩)
      have yg := of_decide_eq_true yg
      refine ⟨_, rfl, _, rfl, _, _, rfl, rfl, _, rfl, ?_⟩
      refine iteB (fun _ => iteT ⟨_, rfl, out yg H1 (P1.less (by omega)) b1 hw1⟩) (fun nm => ?_)
      have nm : ¬ m ≤ (i : Int) := fun z => by have := of_decide_eq_false nm; omega
      refine ⟨_, rfl, p, b - 3 * i - 1, 4, rfl, P1.less (by omega), by decide, by decide, fun H2 d d0 d1 P2 B2 => ⟨rfl, _, rfl, ?_⟩⟩
      have hw2 := B2.one wy _ hwp hw1
      exact iteB (fun _ => ⟨_, rfl, out yg H2 (P2.less (by omega)) (b1.trans B2.one) hw2⟩) (fun _ => ⟨rfl, b1.trans B2.one, P2, hw2, fun z => absurd z nm⟩)
    rintro σ2 H2 ⟨rfl, b2, P2, hw2, away⟩
    have T2 := hT.but P b2 hpp hgp
    refine ⟨_, rfl, pa, _, rfl, .inl (SqL.of T2.ed.at_), ?_⟩
    rw [lE]
    refine ⟨_, rfl, by omega, by omega, fun D hD => lc_range (n := L.length) (fun j H' => ∃ cs : List Int, Same H2 H' ∧ H' D = some (.lst (cs.map V.int)) ∧ cs.length ≤ j ∧ ∀ c : Int, c ∈ cs ↔ c < (j : Int) ∧ Outs (pairs L) pl c) ?_ ?_ ?_⟩
    · exact ⟨[], same_upd (Same.refl H2) hD, upd_same, Nat.le_refl _, fun c => Iff.intro (fun z => nomatch z) (fun ⟨z, h, _⟩ => by omega)⟩
    · rintro j H3 hj ⟨cs, s3, hc, lc, rc⟩
      have eL : L[j]? = some L[j] := List.getElem?_eq_getElem hj
      have E3 := T2.ed.same s3
      have a3 : atI (eR L) (0 + (j : Int)) = some (.ref L[j].1) := by
        rw [show (0 + (j : Int)) = ((j : Nat) : Int) by omega]
        exact atI_nat (by rw [List.getElem?_map, eL]; rfl)
      refine ⟨rfl, _, rfl, _, rfl, pa, _, _, _, rfl, rfl, SqL.of E3.at_, a3, L[j].1, _, 0, _, rfl, rfl, SqT.of (E3.tup _ (List.getElem_mem hj)), atI_nat (j := 0) rfl, _, rfl, rfl, _, rfl, ?_⟩
      have ep : (pairs L)[j]? = some L[j].2 := by rw [List.getElem?_map, eL]; rfl
      have mj : Outs (pairs L) pl (j : Int) ↔ L[j].2.1 = pl := by
        unfold Outs
        rw [Int.toNat_natCast, ep]
        constructor
        · rintro ⟨_, w, h⟩
          rw [Option.some.inj h]
        · intro h
          exact ⟨by omega, L[j].2.2, by rw [← h]⟩
      have grow : ∀ c : Int, (c < ((j + 1 : Nat) : Int) ∧ Outs (pairs L) pl c) ↔ (c < (j : Int) ∧ Outs (pairs L) pl c) ∨ (c = (j : Int) ∧ L[j].2.1 = pl) := fun c => by
        constructor
        · rintro ⟨h1, h2⟩
          by_cases e : c = (j : Int)
          · exact .inr ⟨e, mj.mp (e ▸ h2)⟩
          · exact .inl ⟨by omega, h2⟩
        · rintro (⟨h1, h2⟩ | ⟨rfl, h⟩)
          · exact ⟨by omega, h2⟩
          · exact ⟨by omega, mj.mpr h⟩
      refine iteB (fun y => ⟨_, rfl, _, hc, ?_, cs ++ [0 + (j : Int)], ?_, ?_, ?_, fun c => ?_⟩) (fun nn => ⟨cs, s3, hc, by omega, fun c => ?_⟩)
      · rw [List.length_map]
        exact Nat.lt_of_le_of_lt (show cs.length ≤ 100 by omega) (by decide)
      · intro b o ho
        rw [upd_ne (ne_of_none ho hD)]
        exact s3 b o ho
      · rw [upd_same, List.map_append]
        rfl
      · rw [List.length_append, List.length_singleton]
        omega
      · have y' : L[j].2.1 = pl := V.int.inj (of_decide_eq_true y)
        rw [grow, List.mem_append, rc, List.mem_singleton]
        exact ⟨fun h => h.imp id fun h => ⟨by omega, y'⟩, fun h => h.imp id fun h => by omega⟩
      · have n' : ¬ L[j].2.1 = pl := fun z => of_decide_eq_false nn (congrArg V.int z)
        rw [grow, rc]
        exact ⟨.inl, fun h => h.elim id fun h => absurd h.2 n'⟩
    rintro H3 ⟨cs, s3, hc, lc, rc⟩
    have b3 : But1 p H H3 := b2.trans fun c o _ h => s3 c o h
    have P3 := P2.same s3
    have hw3 := s3 _ _ hw2
    have T3 := T2.same s3
    refine ⟨fun σ' H' => ∃ (nx : Addr) (cs : List Int), σ' = [some (.ref p), some (.ref t), some (.int m), some (.int n), some (.ref pa), some (.int e), some (.ref ga), some (.int pl), some (.ref wy), some (.int (0 + (i : Int))), some (.ref nx), v11, none] ∧ Same H3 H' ∧ H' nx = some (.lst (cs.map V.int)) ∧ cs.length ≤ 50 ∧ (∀ c ∈ cs, Outs (pairs L) pl c ∧ (m ≤ (i : Int) → ∀ w, (pairs L)[c.toNat]? = some (pl, w) → Lv (pairs L) gs n.toNat w < Lv (pairs L) gs n.toNat pl)) ∧ (cs = [] → pl ∈ gs), ?_, ?_⟩
    · refine ⟨_, rfl, _, rfl, _, _, rfl, rfl, _, rfl, ?_⟩
      have cnt : ∀ w, (pl, w) ∈ pairs L → ∃ c ∈ cs, (pairs L)[c.toNat]? = some (pl, w) := fun w hw => by
        obtain ⟨k, hk⟩ := List.getElem?_of_mem hw
        have lk := (List.getElem?_eq_some_iff.mp hk).1
        rw [lP] at lk
        exact ⟨(k : Int), (rc _).mpr ⟨by omega, by omega, w, by rw [Int.toNat_natCast]; exact hk⟩, by rw [Int.toNat_natCast]; exact hk⟩
      refine iteB (fun ym => ?_) (fun nm => ⟨D, cs, rfl, Same.refl H3, hc, by omega, fun c hcm => ⟨((rc c).mp hcm).2, fun z => absurd z fun z => of_decide_eq_false nm (by omega)⟩, fun e0 => ?_⟩)
      case refine_2 =>
        by_cases hg : pl ∈ gs
        · exact hg
        · obtain ⟨w, hw, _⟩ := good.nearer p0 p1 hg
          obtain ⟨c, hcm, _⟩ := cnt w hw
          rw [e0] at hcm
          cases hcm
      have ym : m ≤ (i : Int) := by have := of_decide_eq_true ym; omega
      generalize eN : (fun c : Int => ∀ w, (pairs L)[c.toNat]? = some (pl, w) → Lv (pairs L) gs n.toNat w < Lv (pairs L) gs n.toNat pl) = Nearer
      refine ⟨_, rfl, D, rfl, ⟨_, SqL.of hc⟩, fun D2 hD2 => lc_list (K := K) (a := D) (xs := cs.map V.int) (fun j H' => ∃ ds : List Int, Same H3 H' ∧ H' D2 = some (.lst (ds.map V.int)) ∧ ds.length ≤ j ∧ ∀ c : Int, c ∈ ds ↔ c ∈ cs.take j ∧ Nearer c)
        ⟨[], same_upd (Same.refl H3) hD2, upd_same, Nat.le_refl _, fun c => Iff.intro (fun z => nomatch z) (fun ⟨z, _⟩ => nomatch z)⟩ (fun j H' _ h => by obtain ⟨_, s, _⟩ := h; exact SqL.of (s _ _ hc)) ?_ ?_⟩
      · rintro j x H4 hj ⟨ds, s4, hd4, ld, rd⟩
        obtain ⟨c, hcj, rfl⟩ := int_at hj
        obtain ⟨cl, c0, w0, cw⟩ := (rc c).mp (List.mem_of_getElem? hcj)
        have cr : 0 ≤ c ∧ c < (L.length : Int) := ⟨c0, cl⟩
        have lj : j < cs.length := (List.getElem?_eq_some_iff.mp hcj).1
        have lt : c.toNat < L.length := by omega
        have eL : L[c.toNat]? = some L[c.toNat] := List.getElem?_eq_getElem lt
        have T4 := T3.same s4
        have a4 : atI (eR L) c = some (.ref L[c.toNat].1) := by
          have z := atI_nat (xs := eR L) (j := c.toNat) (v := .ref L[c.toNat].1) (by rw [List.getElem?_map, eL]; rfl)
          rw [Int.toNat_of_nonneg cr.1] at z
          exact z
        refine ⟨rfl, _, rfl, _, rfl, _, rfl, pa, _, c, _, rfl, rfl, SqL.of T4.ed.at_, a4, L[c.toNat].1, _, 1, _, rfl, rfl, SqT.of (T4.ed.tup _ (List.getElem_mem lt)), atI_nat (j := 1) rfl, t, _, n, e, L, gs, pa, ga, rfl, T4, n0, n1, l1, l2, fun H5 s5 => ?_⟩
        refine ⟨_, rfl, _, rfl, t, _, n, e, L, gs, pa, ga, rfl, T4.same s5, n0, n1, l1, l2, fun H6 s6 => ⟨_, _, rfl, rfl, _, rfl, ?_⟩⟩
        have s46 := (s4.trans s5).trans s6
        have hd6 := s6 _ _ (s5 _ _ hd4)
        have e2 : L[c.toNat].2 = (pl, w0) := by
          have : (pairs L)[c.toNat]? = some L[c.toNat].2 := by rw [List.getElem?_map, eL]; rfl
          rw [this] at cw
          exact Option.some.inj cw
        have nrc : Nearer c ↔ Lv (pairs L) gs n.toNat w0 < Lv (pairs L) gs n.toNat pl := by
          rw [← eN]
          constructor
          · intro h
            exact h w0 cw
          · intro h w hw
            rw [cw] at hw
            rw [← (Prod.mk.inj (Option.some.inj hw)).2]
            exact h
        have tk : cs.take (j + 1) = cs.take j ++ [c] := take_next hcj
        rw [e2]
        refine iteB (fun y => ⟨_, rfl, _, hd6, ?_, ds ++ [c], ?_, ?_, ?_, fun x => ?_⟩) (fun nn => ⟨ds, s46, hd6, by omega, fun x => ?_⟩)
        · rw [List.length_map]
          exact Nat.lt_of_le_of_lt (show ds.length ≤ 100 by omega) (by decide)
        · intro b o ho
          rw [upd_ne (ne_of_none ho hD2)]
          exact s46 b o ho
        · rw [upd_same, List.map_append]
          rfl
        · rw [List.length_append, List.length_singleton]
          omega
        · have y' : Nearer c := nrc.mpr (by have y1 : ((Lv (pairs L) gs n.toNat w0 : Nat) : Int) < ((Lv (pairs L) gs n.toNat pl : Nat) : Int) := of_decide_eq_true y; omega)
          rw [List.mem_append, rd, tk, List.mem_append, List.mem_singleton]
          constructor
          · rintro (⟨h1, h2⟩ | rfl)
            · exact ⟨.inl h1, h2⟩
            · exact ⟨.inr rfl, y'⟩
          · rintro ⟨h1 | rfl, h2⟩
            · exact .inl ⟨h1, h2⟩
            · exact .inr rfl
        · have n' : ¬ Nearer c := fun z => by have z1 := nrc.mp z; have n1 : ¬ ((Lv (pairs L) gs n.toNat w0 : Nat) : Int) < ((Lv (pairs L) gs n.toNat pl : Nat) : Int) := of_decide_eq_false nn; omega
          rw [rd, tk, List.mem_append, List.mem_singleton]
          constructor
          · rintro ⟨h1, h2⟩
            exact ⟨.inl h1, h2⟩
          · rintro ⟨h1 | rfl, h2⟩
            · exact ⟨h1, h2⟩
            · exact absurd h2 n'
      · rintro H4 ⟨ds, s4, hd4, ld, rd⟩
        rw [List.length_map] at ld rd
        rw [List.take_length] at rd
        refine ⟨D2, ds, rfl, s4, hd4, by omega, fun c hcm => ⟨((rc c).mp ((rd c).mp hcm).1).2, fun _ => ?_⟩, fun e0 => ?_⟩
        · have h := ((rd c).mp hcm).2
          rw [← eN] at h
          exact h
        · by_cases hg : pl ∈ gs
          · exact hg
          · obtain ⟨w, hw, lt⟩ := good.nearer p0 p1 hg
            obtain ⟨c, hcm, ec⟩ := cnt w hw
            have : c ∈ ds := (rd c).mpr ⟨hcm, by
              rw [← eN]
              intro w' hw'
              rw [ec] at hw'
              rw [← (Prod.mk.inj (Option.some.inj hw')).2]
              exact lt⟩
            rw [e0] at this
            cases this
    rintro σ4 H4 ⟨nx, ds, rfl, s4, hn4, ld, rd, none0⟩
    have b4 : But1 p H H4 := b3.trans fun c o _ h => s4 c o h
    have P4 := P3.same s4
    have hw4 := s4 _ _ hw3
    have T4 := T3.same s4
    refine ⟨_, rfl, (by show 0 ≤ sizeLine; decide), fun na hna => ?_⟩
    have s5 := same_upd (o := .lst []) (Same.refl H4) hna
    refine ⟨.list (ds.map PyData.int), .list [], .lst (SqL.of (s5 _ _ hn4)) (dp_ints ds), .lst (SqL.of upd_same) .nil, shaped_lints ds, rfl, _, rfl, ?_⟩
    have b5 : But1 p H (upd H4 na (.lst [])) := b4.trans fun c o _ h => s5 c o h
    cases ds with
    | nil => exact iteT ⟨_, rfl, out (none0 rfl) _ ((P4.same s5).less (by omega)) b5 (s5 _ _ hw4)⟩
    | cons d0 dr =>
      refine iteF ?_
      have hnn := s5 _ _ hn4
      refine ⟨_, rfl, _, rfl, _, rfl, nx, _, rfl, .inl (SqL.of hnn), ?_⟩
      rw [List.length_map]
      refine ⟨p, b - 3 * i - 2, _, rfl, (P4.same s5).less (by omega), by rw [List.length_cons]; omega, small (by omega) (by omega), fun H6 y y0 y1 P6 B6 => ?_⟩
      have nnp : nx ≠ p := fun z => by
        obtain ⟨xs, hp⟩ := P4.lst
        obtain ⟨pa0, ns0, r0, i0, q0, m0', h1', h2', h3'⟩ := P4
        rw [z] at hn4
        rw [h2'] at hn4
        have := HO.lst.inj (Option.some.inj hn4)
        cases this
      have hn6 := B6.one nx _ nnp hnn
      have ly : y.toNat < (d0 :: dr).length := by omega
      have ey : (d0 :: dr)[y.toNat]? = some (d0 :: dr)[y.toNat] := List.getElem?_eq_getElem ly
      have ay : atI ((d0 :: dr).map V.int) y = some (.int (d0 :: dr)[y.toNat]) := by
        have z := atI_nat (xs := (d0 :: dr).map V.int) (j := y.toNat) (v := .int (d0 :: dr)[y.toNat]) (by rw [List.getElem?_map, ey]; rfl)
        rw [Int.toNat_of_nonneg y0] at z
        exact z
      obtain ⟨⟨c0, w0, cw⟩, nrw⟩ := rd _ (List.getElem_mem ly)
      have hw6 := B6.one wy _ hwp (s5 _ _ hw4)
      have T6 := (T4.same s5).but (P4.same s5) B6.one hpp hgp
      have b6 := b5.trans B6.one
      refine ⟨nx, _, y, _, rfl, rfl, SqL.of hn6, ay, ?_⟩
      revert c0 w0 cw nrw
      generalize (d0 :: dr)[y.toNat] = c
      intro nrw c0 w0 cw
      have lt : c.toNat < L.length := by
        have := (List.getElem?_eq_some_iff.mp cw).1
        rw [lP] at this
        exact this
      have cr : 0 ≤ c ∧ c < (L.length : Int) := ⟨c0, by omega⟩
      have eL : L[c.toNat]? = some L[c.toNat] := List.getElem?_eq_getElem lt
      have a6 : atI (eR L) c = some (.ref L[c.toNat].1) := by
        have z := atI_nat (xs := eR L) (j := c.toNat) (v := .ref L[c.toNat].1) (by rw [List.getElem?_map, eL]; rfl)
        rw [Int.toNat_of_nonneg cr.1] at z
        exact z
      refine ⟨_, rfl, .inl ⟨rfl, _, SqL.of hw6⟩, _, rfl, wy, _, _, rfl, rfl, hw6, ?_, ?_⟩
      · rw [List.length_map]
        exact Nat.lt_of_le_of_lt (show ws.length ≤ 100 by omega) (by decide)
      have T7 : Told (upd H6 wy (.lst (ws.map V.int ++ [.int c]))) t n L e gs pa ga := hT.but P (b6.new hwy) hpp hgp
      refine ⟨_, rfl, _, rfl, pa, _, c, _, rfl, rfl, SqL.of T7.ed.at_, a6, L[c.toNat].1, _, 1, _, rfl, rfl, SqT.of (T7.ed.tup _ (List.getElem_mem lt)), atI_nat (j := 1) rfl, ?_⟩
      have e2 : L[c.toNat].2 = (pl, w0) := by
        have : (pairs L)[c.toNat]? = some L[c.toNat].2 := by rw [List.getElem?_map, eL]; rfl
        rw [this] at cw
        exact Option.some.inj cw
      obtain ⟨_, _, r0, r1⟩ := good.rng _ (List.mem_of_getElem? cw)
      have r0 : 0 ≤ w0 := r0
      have r1 : w0 < n := r1
      refine ⟨_, _, _, _, ws ++ [c], rfl, b6.new hwy, (P6.less (by omega)).set hw6 hwp, by rw [upd_same, List.map_append]; rfl, ?_, ?_, ⟨l ++ [w0], ?_, ?_⟩, fun h => ?_⟩
      · rw [List.length_append, List.length_singleton]
        omega
      · rw [e2]
        exact ⟨r0, r1⟩
      · have st := walk_snoc c wl
        rw [← epl, nextP_at c0 cw] at st
        exact st
      · rw [e2, lastP_snoc]
      · rw [e2]
        show ((Lv (pairs L) gs n.toNat w0 : Nat) : Int) + _ ≤ n
        have l1 := (good.lv r0 r1).1
        by_cases hm : m ≤ (i : Int)
        · have := nrw hm w0 cw
          have := lev hm
          omega
        · omega
  rintro σ1 H1 ⟨pl, v9, v10, v11, ws, rfl, b1, P1, hw1, lw, ⟨p0, p1⟩, ⟨l, wl, epl⟩, lev⟩
  have := lev (by omega)
  omega
end
structure TxC (K : PySem.W.Frag) (mg : Str → Option Value) : Prop where
  g_is_number : mg "is_number" = some (.ref (He.ga K "is_number"))
  k_is_number : PySem.W.keepIn K (.ref (He.ga K "is_number")) = true
  n_isinstance : mg "isinstance" = none
  n_int : mg "int" = none
  n_bool : mg "bool" = none
  n_list : mg "list" = none
  n_tuple : mg "tuple" = none
  n_set : mg "set" = none
  n_sorted : mg "sorted" = none
  n_len : mg "len" = none
  n_iter : mg "iter" = none
  g_BadPlace : mg "BadPlace" = some (.ref (He.ga K "BadPlace"))
  g_BadMark : mg "BadMark" = some (.ref (He.ga K "BadMark"))
  g_TwoMarks : mg "TwoMarks" = some (.ref (He.ga K "TwoMarks"))
  g_Lot : mg "Lot" = some (.ref (He.ga K "Lot"))
  cl_Lot : Cls K (He.ga K "Lot")
  ins_Lot : C8.InsC K (He.ga K "Lot")
  mk_Lot : Mk K (He.ga K "Lot") (He.ma K (He.ga K "Lot") "__init__")
  na_places : NoAttr K (He.ga K "Lot") "places"
  na_Lot_places : NoAttr K (He.ga K "Lot") "places"
  g_Placing : mg "Placing" = some (.ref (He.ga K "Placing"))
  cl_Placing : Cls K (He.ga K "Placing")
  ins_Placing : C8.InsC K (He.ga K "Placing")
  mk_Placing : Mk K (He.ga K "Placing") (He.ma K (He.ga K "Placing") "__init__")
  na_saves : NoAttr K (He.ga K "Placing") "saves"
  na_Placing_saves : NoAttr K (He.ga K "Placing") "saves"
  na_backs : NoAttr K (He.ga K "Placing") "backs"
  na_Placing_backs : NoAttr K (He.ga K "Placing") "backs"
  o_Lot_iter : Own1 K (He.ga K "Lot") (He.ma K (He.ga K "Lot") "__iter__") "__iter__"
  x_BadPlace : PySem.W.exmOne K (.ref (He.ga K "BadPlace")) (.ref (He.ga K "BadPlace")) = some true
section
variable {P : Program} {w : World} {K : PySem.W.Frag} {mg : Str → Option Value} {base : Heap}
theorem atI_pos {α : Type} {xs : List α} {y : Int} {v : α} (h0 : 0 ≤ y) (h : xs[y.toNat]? = some v) : atI xs y = some v := by
  have z := atI_nat h
  rw [Int.toNat_of_nonneg h0] at z
  exact z
/-- a number put into an ascending list, if it is not there -/
def below (z : Int) (us : List Int) : Nat := (us.filter fun v => decide (v < z)).length
def insU (us : List Int) (z : Int) : List Int := if z ∈ us then us else us.take (below z us) ++ [z] ++ us.drop (below z us)
def setF (ns : List Int) : List Int := ns.foldl insU []
theorem split_up {z : Int} : ∀ {us : List Int}, us.Pairwise (· < ·) → z ∉ us → (∀ v ∈ us.take (below z us), v < z) ∧ ∀ v ∈ us.drop (below z us), z < v
  | [], _, _ => ⟨fun _ h => by simp [below] at h, fun _ h => by simp [below] at h⟩
  | a :: r, up, no => by
    obtain ⟨u1, u2⟩ := List.pairwise_cons.mp up
    have ih := split_up u2 fun m => no (List.mem_cons_of_mem _ m)
    have ne : z ≠ a := fun e => no (e ▸ List.mem_cons_self)
    by_cases h : a < z
    · have b : below z (a :: r) = below z r + 1 := by
        unfold below
        rw [List.filter_cons_of_pos (by exact decide_eq_true h), List.length_cons]
      rw [b, List.take_succ_cons, List.drop_succ_cons]
      refine ⟨fun v hv => ?_, ih.2⟩
      rcases List.mem_cons.mp hv with e | hv
      · rw [e]
        exact h
      · exact ih.1 v hv
    · have b : below z (a :: r) = 0 := by
        unfold below
        rw [List.filter_cons_of_neg (by exact fun y => h (of_decide_eq_true y)), List.length_eq_zero_iff, List.filter_eq_nil_iff]
        intro v hv y
        have := u1 v hv
        have := of_decide_eq_true y
        omega
      rw [b]
      refine ⟨fun v hv => by simp at hv, fun v hv => ?_⟩
      rw [List.drop_zero] at hv
      rcases List.mem_cons.mp hv with e | hv
      · rw [e]
        omega
      · have := u1 v hv
        omega
theorem insU_up {us : List Int} {z : Int} (up : us.Pairwise (· < ·)) : (insU us z).Pairwise (· < ·) := by
  unfold insU
  by_cases m : z ∈ us
  · rw [if_pos m]
    exact up
  rw [if_neg m]
  obtain ⟨h1, h2⟩ := split_up up m
  rw [List.pairwise_append, List.pairwise_append]
  refine ⟨⟨up.sublist (List.take_sublist ..), by simp, fun a ha b hb => ?_⟩, up.sublist (List.drop_sublist ..), fun a ha b hb => ?_⟩
  · rw [List.mem_singleton.mp hb]
    exact h1 a ha
  · rcases List.mem_append.mp ha with ha | ha
    · have := h1 a ha
      have := h2 b hb
      omega
    · rw [List.mem_singleton.mp ha]
      exact h2 b hb
theorem insU_mem {us : List Int} {z v : Int} : v ∈ insU us z ↔ v = z ∨ v ∈ us := by
  unfold insU
  by_cases m : z ∈ us
  · rw [if_pos m]
    exact ⟨.inr, fun h => h.elim (fun e => e ▸ m) id⟩
  · rw [if_neg m, (perm_ins us (below z us) z).mem_iff, List.mem_cons]
theorem insU_len {us : List Int} {z : Int} : (insU us z).length ≤ us.length + 1 := by
  unfold insU
  by_cases m : z ∈ us
  · rw [if_pos m]
    omega
  · rw [if_neg m, (perm_ins us (below z us) z).length_eq, List.length_cons]
    omega
theorem setF_snoc (ns : List Int) (z : Int) : setF (ns ++ [z]) = insU (setF ns) z := by
  unfold setF
  rw [List.foldl_append]
  rfl
theorem setF_all : ∀ {ns us : List Int}, us.Pairwise (· < ·) → (ns.foldl insU us).Pairwise (· < ·) ∧ (∀ v, v ∈ ns.foldl insU us ↔ v ∈ us ∨ v ∈ ns) ∧ (ns.foldl insU us).length ≤ us.length + ns.length
  | [], us, up => ⟨up, fun v => by simp, by simp⟩
  | z :: r, us, up => by
    obtain ⟨i1, i2, i3⟩ := setF_all (ns := r) (insU_up (z := z) up)
    refine ⟨i1, fun v => ?_, ?_⟩
    · rw [List.foldl_cons, i2 v, insU_mem, List.mem_cons]
      exact ⟨fun h => h.elim (fun h => h.elim (fun h => .inr (.inl h)) .inl) fun h => .inr (.inr h), fun h => h.elim (fun h => .inl (.inr h)) fun h => h.elim (fun h => .inl (.inl h)) .inr⟩
    · rw [List.foldl_cons]
      have := insU_len (us := us) (z := z)
      rw [List.length_cons]
      omega
theorem setF_up (ns : List Int) : (setF ns).Pairwise (· < ·) := (setF_all (ns := ns) List.Pairwise.nil).1
theorem setF_mem (ns : List Int) (v : Int) : v ∈ setF ns ↔ v ∈ ns := by
  rw [show setF ns = ns.foldl insU [] from rfl, (setF_all (ns := ns) List.Pairwise.nil).2.1 v]
  simp
theorem setF_len (ns : List Int) : (setF ns).length ≤ ns.length := by
  have h := (setF_all (ns := ns) List.Pairwise.nil).2.2
  rw [List.length_nil, Nat.zero_add] at h
  exact h
theorem up_eq : ∀ {a b : List Int}, a.Pairwise (· < ·) → b.Pairwise (· < ·) → (∀ v, v ∈ a ↔ v ∈ b) → a = b
  | [], [], _, _, _ => rfl
  | [], y :: b, _, _, h => absurd ((h y).mpr List.mem_cons_self) (by simp)
  | x :: a, [], _, _, h => absurd ((h x).mp List.mem_cons_self) (by simp)
  | x :: a, y :: b, ha, hb, h => by
    obtain ⟨a1, a2⟩ := List.pairwise_cons.mp ha
    obtain ⟨b1, b2⟩ := List.pairwise_cons.mp hb
    have e : x = y := by
      rcases List.mem_cons.mp ((h x).mp List.mem_cons_self) with e | m1
      · exact e
      · rcases List.mem_cons.mp ((h y).mpr List.mem_cons_self) with e | m2
        · exact e.symm
        · have := b1 x m1
          have := a1 y m2
          omega
    subst e
    rw [up_eq a2 b2 fun v => ?_]
    constructor
    · intro hv
      rcases List.mem_cons.mp ((h v).mp (List.mem_cons_of_mem _ hv)) with e | m
      · have := a1 v hv
        omega
      · exact m
    · intro hv
      rcases List.mem_cons.mp ((h v).mpr (List.mem_cons_of_mem _ hv)) with e | m
      · have := b1 v hv
        omega
      · exact m
theorem setF_eq {a b : List Int} (h : ∀ v, v ∈ a ↔ v ∈ b) : setF a = setF b := up_eq (setF_up a) (setF_up b) fun v => (setF_mem a v).trans ((h v).trans (setF_mem b v).symm)
theorem catA_s {K : PySem.W.Frag} {H : Hp} {a b : Addr} {xs ys : List V} {Q : VK} (ha : SqT K H a xs) (hb : SqT K H b ys) (l : xs.length + ys.length ≤ sizeLine) (k : ∀ (H' : Hp) (c : Addr), Same H H' → SqT K H' c (xs ++ ys) → Q (.ref c) H') : rCatA K (.ref a) (.ref b) H Q :=
  ⟨a, b, xs, ys, rfl, rfl, ha, hb, l, fun e => k H b (Same.refl H) (by rw [e]; exact hb), fun _ e => k H a (Same.refl H) (by rw [e, List.append_nil]; exact ha), fun _ _ p hp => k _ p (same_upd (Same.refl H) hp) (SqT.of upd_same)⟩
/-- the first of a list that fits, ahead of it none -/
theorem filter_first {α : Type} {q : α → Bool} {xs : List α} {j : Nat} {z : α} (hz : xs[j]? = some z) (y : q z = true) (before : ∀ v ∈ xs.take j, q v = false) : xs.filter q = z :: (xs.drop (j + 1)).filter q := by
  have lt := (List.getElem?_eq_some_iff.mp hz).1
  have e : xs = xs.take j ++ z :: xs.drop (j + 1) := by
    conv => lhs; rw [← List.take_append_drop j xs]
    rw [List.drop_eq_getElem_cons lt, (List.getElem?_eq_some_iff.mp hz).2]
  conv => lhs; rw [e]
  rw [List.filter_append, List.filter_cons_of_pos y, List.filter_eq_nil_iff.mpr (fun v hv z => by rw [before v hv] at z; cases z), List.nil_append]
theorem filter_none {α : Type} {q : α → Bool} {xs : List α} (before : ∀ v ∈ xs, q v = false) : xs.filter q = [] := List.filter_eq_nil_iff.mpr fun v hv z => by rw [before v hv] at z; cases z
theorem putF0 (f : Str) (v : V) : putF f v [] = [(f, v)] := rfl
def negs (ns : List Int) : List Int := ns.filter fun v => decide (v < 0)
def bothF (ss bs : List Int) : List Int := (setF ss).filter fun v => decide (v ∈ bs)
theorem ints_app (a b : List Int) : a.map V.int ++ b.map V.int = (a ++ b).map V.int := (List.map_append ..).symm
/-- an error of the class C goes out, with v under f -/
def Rz (K : PySem.W.Frag) (E : XK) (C f : Str) (v : V) (H : Hp) : Prop := ∀ (H' : Hp) (d : Addr), H' d = some (.xd [(f, v)]) → Same H H' → E (.ref (He.ga K C)) (some d) H'
/-- a placing with these saves and backs -/
structure PlAt (K : PySem.W.Frag) (H : Hp) (a : Addr) (us vs : List Int) : Prop where
  at_ : ∃ dx ts tb : Addr, H a = some (.ins (He.ga K "Placing") dx [("saves", .ref ts), ("backs", .ref tb)]) ∧ SqT K H ts (us.map V.int) ∧ SqT K H tb (vs.map V.int)
theorem PlAt.same {K : PySem.W.Frag} {H H' : Hp} {a : Addr} {us vs : List Int} (h : PlAt K H a us vs) (s : Same H H') : PlAt K H' a us vs := by
  obtain ⟨dx, ts, tb, h1, h2, h3⟩ := h.at_
  exact ⟨dx, ts, tb, s _ _ h1, h2.ext s, h3.ext s⟩
theorem SqT.set {K : PySem.W.Frag} {H : Hp} {a c : Addr} {xs ys : List V} {o : HO} (h : SqT K H a xs) (hc : H c = some (.lst ys)) : SqT K (upd H c o) a xs := by
  rcases h with (h | ⟨q, h⟩) | h
  · exact .inl (.inl (by rw [upd_ne (ne_of h hc (by intro z; cases z))]; exact h))
  · exact .inl (.inr ⟨q, by rw [upd_ne (ne_of h hc (by intro z; cases z))]; exact h⟩)
  · exact .inr h
theorem PlAt.set {K : PySem.W.Frag} {H : Hp} {a c : Addr} {us vs : List Int} {ys : List V} {o : HO} (h : PlAt K H a us vs) (hc : H c = some (.lst ys)) : PlAt K (upd H c o) a us vs := by
  obtain ⟨dx, ts, tb, h1, h2, h3⟩ := h.at_
  exact ⟨dx, ts, tb, by rw [upd_ne (ne_of h1 hc (by intro z; cases z))]; exact h1, SqT.set h2 hc, SqT.set h3 hc⟩
def spPlInit (K : PySem.W.Frag) : Sp := fun vs H Q E => ∃ (a dx l m : Addr) (ss bs : List Int), vs = [.ref a, .ref l, .ref m] ∧ H a = some (.ins (He.ga K "Placing") dx []) ∧ Qa H l (ss.map V.int) ∧ Qa H m (bs.map V.int) ∧ ss.length < 60 ∧ bs.length < 60 ∧
  (∀ z r, negs (ss ++ bs) = z :: r → Rz K E "BadMark" "number" (.int z) H) ∧ (∀ z r, negs (ss ++ bs) = [] → bothF ss bs = z :: r → ∀ (H' : Hp) (d : Addr), H' d = some (.xd [("number", .int z)]) → But1 a H H' → E (.ref (He.ga K "TwoMarks")) (some d) H') ∧
  (negs (ss ++ bs) = [] → bothF ss bs = [] → ∀ H', But1 a H H' → PlAt K H' a (setF ss) (setF bs) → Q .non H')
def spPlLen (K : PySem.W.Frag) : Sp := fun vs H Q _ => ∃ (a : Addr) (us ws : List Int), vs = [.ref a] ∧ PlAt K H a us ws ∧ us.length + ws.length < 1000 ∧ ∀ H', Same H H' → Q (.int (us.length + ws.length : Nat)) H'
def spPlEq (K : PySem.W.Frag) : Sp := fun vs H Q _ => ∃ (a b : Addr) (us ws us' ws' : List Int), vs = [.ref a, .ref b] ∧ PlAt K H a us ws ∧ PlAt K H b us' ws' ∧ ∀ H', Same H H' → Q (.bl (decide (us = us' ∧ ws = ws'))) H'
theorem passF {P : Program} {w : World} {X : Cx} : Passes (L2.CX P w) X (fun _ _ _ => False) := fun _ _ _ _ _ _ _ c => by
  obtain ⟨_, _, _, _, _, _, _, _, _, _, _, _, z⟩ := c
  exact z.elim
theorem make_pl {K : PySem.W.Frag} {H : Hp} {x dx l m : Addr} {ss bs : List Int} {R : VK} {E : XK} (hx : H x = none) (hdx : H dx = none) (h1 : Qa H l (ss.map V.int)) (h2 : Qa H m (bs.map V.int)) (l1 : ss.length < 60) (l2 : bs.length < 60)
    (r1 : ∀ z r, negs (ss ++ bs) = z :: r → Rz K E "BadMark" "number" (.int z) H) (r2 : ∀ z r, negs (ss ++ bs) = [] → bothF ss bs = z :: r → Rz K E "TwoMarks" "number" (.int z) H)
    (k : negs (ss ++ bs) = [] → bothF ss bs = [] → ∀ H', Same H H' → PlAt K H' x (setF ss) (setF bs) → R .non H') :
    spPlInit K [.ref x, .ref l, .ref m] (upd (upd H dx (.own x)) x (.ins (He.ga K "Placing") dx [])) R E := by
  have s0 : Same H (upd (upd H dx (.own x)) x (.ins (He.ga K "Placing") dx [])) := fun b o h => by
    rw [upd_ne (ne_of_none h hx), upd_ne (ne_of_none h hdx)]
    exact h
  exact ⟨x, dx, l, m, ss, bs, rfl, upd_same, h1.same s0, h2.same s0, l1, l2, fun z r e H' d hd s => r1 z r e H' d hd (s0.trans s), fun z r e e' H' d hd b => r2 z r e e' H' d hd (fun c o h => b c o (ne_of_none h hx) (s0 c o h)), fun e e' H' b W => k e e' H' (fun c o h => b c o (ne_of_none h hx) (s0 c o h)) W⟩
theorem eqv_nil (ns : List Int) : PyData.eqv (.list (ns.map PyData.int)) (.list []) = decide (ns = []) := by
  cases ns with
  | nil => rfl
  | cons a r => rfl
/-- a lot with these places -/
structure LotAt (K : PySem.W.Frag) (H : Hp) (a : Addr) (us : List Int) : Prop where
  at_ : ∃ dx tx : Addr, H a = some (.ins (He.ga K "Lot") dx [("places", .ref tx)]) ∧ SqT K H tx (us.map V.int)
theorem LotAt.same {K : PySem.W.Frag} {H H' : Hp} {a : Addr} {us : List Int} (h : LotAt K H a us) (s : Same H H') : LotAt K H' a us := by
  obtain ⟨dx, tx, h1, h2⟩ := h.at_
  exact ⟨dx, tx, s _ _ h1, h2.ext s⟩
def spLotLen (K : PySem.W.Frag) : Sp := fun vs H Q _ => ∃ (a : Addr) (us : List Int), vs = [.ref a] ∧ LotAt K H a us ∧ us.length < 1000 ∧ ∀ H', Same H H' → Q (.int (us.length : Nat)) H'
def spLotIn (K : PySem.W.Frag) : Sp := fun vs H Q _ => ∃ (a : Addr) (v : Int) (us : List Int), vs = [.ref a, .int v] ∧ LotAt K H a us ∧ us.length < 1000 ∧ ∀ H', Same H H' → Q (.bl (decide (v ∈ us))) H'
theorem negs_nil {ns : List Int} (h : ∀ v ∈ ns, 0 ≤ v) : negs ns = [] := filter_none fun v hv => decide_eq_false (by have := h v hv; omega)
theorem negs_pos {ns : List Int} (h : negs ns = []) : ∀ v ∈ ns, 0 ≤ v := fun v hv => by
  have := List.filter_eq_nil_iff.mp h v hv
  have h2 : ¬ v < 0 := fun z => this (decide_eq_true z)
  omega
theorem setF_asc {us : List Int} (up : us.Pairwise (· < ·)) : setF us = us := up_eq (setF_up _) up fun v => setF_mem _ v

theorem LotAt.set {K : PySem.W.Frag} {H : Hp} {a c : Addr} {us : List Int} {ys : List V} {o : HO} (h : LotAt K H a us) (hc : H c = some (.lst ys)) : LotAt K (upd H c o) a us := by
  obtain ⟨dx, tx, h1, h2⟩ := h.at_
  exact ⟨dx, tx, by rw [upd_ne (ne_of h1 hc (by intro z; cases z))]; exact h1, SqT.set h2 hc⟩
def spLotInit (K : PySem.W.Frag) : Sp := fun vs H Q E => ∃ (a dx l : Addr) (ns : List Int), vs = [.ref a, .ref l] ∧ H a = some (.ins (He.ga K "Lot") dx []) ∧ (SqL K H l (ns.map V.int) ∨ SqT K H l (ns.map V.int)) ∧ ns.length < 62 ∧
  (∀ z r, negs ns = z :: r → Rz K E "BadPlace" "number" (.int z) H) ∧ (negs ns = [] → ∀ H', But1 a H H' → LotAt K H' a (setF ns) → Q .non H')
def spLotEq (K : PySem.W.Frag) : Sp := fun vs H Q _ => ∃ (a b : Addr) (us us' : List Int), vs = [.ref a, .ref b] ∧ LotAt K H a us ∧ LotAt K H b us' ∧ ∀ H', Same H H' → Q (.bl (decide (us = us'))) H'
theorem sq_same {K : PySem.W.Frag} {H H' : Hp} {l : Addr} {xs : List V} (h : SqL K H l xs ∨ SqT K H l xs) (s : Same H H') : SqL K H' l xs ∨ SqT K H' l xs := h.imp (fun h => Same.seq s h) fun h => h.ext s
theorem make_lot {K : PySem.W.Frag} {H : Hp} {x dx l : Addr} {ns : List Int} {R : VK} {E : XK} (hx : H x = none) (hdx : H dx = none) (h1 : SqL K H l (ns.map V.int) ∨ SqT K H l (ns.map V.int)) (l1 : ns.length < 62)
    (r1 : ∀ z r, negs ns = z :: r → Rz K E "BadPlace" "number" (.int z) H) (k : negs ns = [] → ∀ H', Same H H' → LotAt K H' x (setF ns) → R .non H') :
    spLotInit K [.ref x, .ref l] (upd (upd H dx (.own x)) x (.ins (He.ga K "Lot") dx [])) R E := by
  have s0 : Same H (upd (upd H dx (.own x)) x (.ins (He.ga K "Lot") dx [])) := fun b o h => by
    rw [upd_ne (ne_of_none h hx), upd_ne (ne_of_none h hdx)]
    exact h
  exact ⟨x, dx, l, ns, rfl, upd_same, sq_same h1 s0, l1, fun z r e H' d hd s => r1 z r e H' d hd (s0.trans s), fun e H' b W => k e H' (fun c o h => b c o (ne_of_none h hx) (s0 c o h)) W⟩
abbrev s_Placing_init : Stmt := inClass (top 35) 0
theorem sc_Placing_init : FnScope ["self", "saves", "backs", "with_save", "with_back", "number", "gate"] ["self", "saves", "backs"] (defScope s_Placing_init) := ⟨rfl, rfl, rfl, by decide +kernel, rfl, by decide +kernel, by decide +kernel⟩
theorem ok_Placing_init {fd : FuncData} (F : FunD K "__init__" "Placing.__init__" (defArgs s_Placing_init) (defBody s_Placing_init) (defScope s_Placing_init) [] [] (He.ma K (He.ga K "Placing") "__init__") fd) (T : TxC K mg) (I_BadMark : ErrI P w K mg base (He.ga K "BadMark") "number") (I_TwoMarks : ErrI P w K mg base (He.ga K "TwoMarks") "number") (d_is_number : Okd P w K mg base CX0 1 (He.ga K "is_number") ["value"] spIsNum) : FnOk P w K mg base (L2.CX P w) 3 (He.ma K (He.ga K "Placing") "__init__") fd ["self", "saves", "backs"] (spPlInit K) := by
  obtain ⟨fd_is_number, G_is_number, b_is_number⟩ := d_is_number
  refine F.ok sc_Placing_init (fun vs H Q E h => by obtain ⟨a, dx, l, m, ss, bs, rfl, _⟩ := h; rfl) (fun cdv A outer s H vs Q E hr h => ?_)
  obtain ⟨a, dx, l, m, ss, bs, rfl, hA, h1, h2, f1, f2, r1, r2, r3⟩ := h
  refine ⟨_,  (pss_cons (ps_set (i := 3) sc_Placing_init.nd rfl (Or.inl rfl) (pe_callTy call_list_of (by rfl) T.n_list (by decide +kernel) (pa_cons (pv 1) pa_nil)))
    (pss_cons (ps_set (i := 4) sc_Placing_init.nd rfl (Or.inl rfl) (pe_callTy call_list_of (by rfl) T.n_list (by decide +kernel) (pa_cons (pv 2) pa_nil)))
    (pss_cons (ps_for (passes_of rfl) rfl (pi_list (pe_op op_cat (pv 3) (pv 4))) (pg_name (i := 5) sc_Placing_init.nd rfl (Or.inl rfl))
      (pss_one (ps_if (PW.pt (pw_or (pt_not (pt_val (pe_call G_is_number (hr.mono (by decide)) (by rfl) T.g_is_number T.k_is_number b_is_number .nil pass0 (pa_cons (pv 5) pa_nil)))) (pw_or1 (pt_cmpR op_lt (pv 5) pe_int (nomark _))))) (pss_one (ps_raise rfl (takes_of rfl rfl rfl rfl) (pmk_errF I_BadMark (hr.mono (by decide)) (by rfl) T.g_BadMark (pa_cons (pv 5) pa_nil)))) pss_nil)))
    (pss_cons (ps_fld (pv 0) (pe_callTy call_tupleQ (by rfl) T.n_tuple (by decide +kernel) (pa_cons (pe_callB (cr_sortedSet rfl) (by rfl) T.n_sorted (by decide +kernel) (pa_cons (pe_callTy (cr_setI rfl) (by rfl) T.n_set (by decide +kernel) (pa_cons (pv 3) pa_nil)) pa_nil)) pa_nil)) rfl)
    (pss_cons (ps_fld (pv 0) (pe_callTy call_tupleQ (by rfl) T.n_tuple (by decide +kernel) (pa_cons (pe_callB (cr_sortedSet rfl) (by rfl) T.n_sorted (by decide +kernel) (pa_cons (pe_callTy (cr_setI rfl) (by rfl) T.n_set (by decide +kernel) (pa_cons (pv 4) pa_nil)) pa_nil)) pa_nil)) rfl)
    (pss_one (ps_for (passes_of rfl) rfl (pi_tup (pe_fld (pv 0) rfl)) (pg_name (i := 6) sc_Placing_init.nd rfl (Or.inl rfl))
      (pss_one (ps_if (pt_cmpR op_in_seq (pv 6) (pe_fld (pv 0) rfl) (by first | exact nomark _ | rfl)) (pss_one (ps_raise rfl (takes_of rfl rfl rfl rfl) (pmk_errF I_TwoMarks (hr.mono (by decide)) (by rfl) T.g_TwoMarks (pa_cons (pv 6) pa_nil)))) pss_nil))))))))), ?_⟩
  have nl : ∀ {c : Addr} {o : HO}, H c = some o → (∀ C dx fs, o ≠ .ins C dx fs) → c ≠ a := fun {c o} h ne => ne_of h hA (ne _ _ _)
  refine ⟨_, rfl, l, _, rfl, h1.sq, fun f hf => ?_⟩
  have s1 := same_upd (o := .lst (ss.map V.int)) (Same.refl H) hf
  refine ⟨_, rfl, m, _, rfl, (h2.same s1).sq, fun g hg => ?_⟩
  have s2 := same_upd (o := .lst (bs.map V.int)) s1 hg
  have hf2 : (upd (upd H f (.lst (ss.map V.int))) g (.lst (bs.map V.int))) f = some (.lst (ss.map V.int)) := by rw [upd_ne (ne_of_none (o := .lst (ss.map V.int)) upd_same hg), upd_same]
  have hg2 : (upd (upd H f (.lst (ss.map V.int))) g (.lst (bs.map V.int))) g = some (.lst (bs.map V.int)) := upd_same
  revert s2 hf2 hg2
  generalize upd (upd H f (.lst (ss.map V.int))) g (.lst (bs.map V.int)) = H2
  intro s2 hf2 hg2
  clear s1 hg hf
  refine ⟨_, rfl, _, rfl, f, g, _, _, rfl, rfl, hf2, hg2, by rw [List.length_map, List.length_map]; exact Nat.le_trans (show ss.length + bs.length ≤ 200 by omega) (by decide), fun c hc => ?_⟩
  rw [ints_app]
  have s3 := same_upd (o := .lst ((ss ++ bs).map V.int)) (Same.refl H2) hc
  have hc3 : (upd H2 c (.lst ((ss ++ bs).map V.int))) c = some (.lst ((ss ++ bs).map V.int)) := upd_same
  have hf3 := s3 _ _ hf2
  have hg3 := s3 _ _ hg2
  have s03 := s2.trans s3
  revert s03 hc3 hf3 hg3
  generalize upd H2 c (.lst ((ss ++ bs).map V.int)) = H3
  intro hc3 hf3 hg3 s03
  refine ⟨c, rfl, ⟨_, SqL.of hc3⟩, for_list (K := K) (a := c) (xs := (ss ++ bs).map V.int) (fun j σ' H' => ∃ v5 : Option V, σ' = [some (.ref a), some (.ref l), some (.ref m), some (.ref f), some (.ref g), v5, none] ∧ H' = H3 ∧ ∀ v ∈ (ss ++ bs).take j, decide (v < 0) = false)
    ⟨none, rfl, rfl, fun v hv => by simp at hv⟩ (fun j σ' H' _ h => by obtain ⟨_, _, rfl, _⟩ := h; exact SqL.of hc3) ?_ ?_⟩
  · rintro j x σ' H' hj ⟨v5, rfl, rfl, before⟩
    obtain ⟨z, hz, rfl⟩ := int_at hj
    refine ⟨_, rfl, z, rfl, _, rfl, ?_⟩
    refine iteF ?_
    refine ⟨_, rfl, _, _, rfl, rfl, _, rfl, ?_⟩
    by_cases neg : z < 0
    · rw [decide_eq_true neg]
      exact iteT ⟨_, rfl, _, rfl, fun d H2' _ hx s => r1 z _ (filter_first hz (decide_eq_true neg) before) H2' d hx (s03.trans s)⟩
    · rw [decide_eq_false neg]
      refine iteF ⟨_, rfl, rfl, fun v hv => ?_⟩
      rw [take_next hz] at hv
      rcases List.mem_append.mp hv with hv | hv
      · exact before v hv
      · rw [List.mem_singleton.mp hv]
        exact decide_eq_false neg
  rintro σ' H' ⟨v5, rfl, rfl, before⟩
  rw [List.length_map, List.take_length] at before
  have nn : negs (ss ++ bs) = [] := filter_none before
  clear before
  have hA3 := s03 _ _ hA
  have nf : f ≠ a := ne_of hf3 hA3 (by intro z; cases z)
  have ng : g ≠ a := ne_of hg3 hA3 (by intro z; cases z)
  have b3 := But1.of (w0 := a) s03
  -- saves
  refine ⟨_, rfl, f, ss, rfl, .inl (SqL.of hf3), by omega, fun sa k hsa hk => ?_⟩
  refine ⟨sa, _, k, rfl, upd_same, by omega, fun ys q1 pw mem len hq1 => ?_⟩
  have e1 : ys = setF ss := up_eq pw (setF_up ss) fun v => ((mem v).trans decide_eq_true_iff).trans (setF_mem ss v).symm
  subst e1
  refine ⟨q1, _, rfl, .inl upd_same, fun ts H4 s4 hts => ?_⟩
  have s34 := (same_upd (same_upd (Same.refl _) hsa) hq1).trans s4
  have hA4 := s34 _ _ hA3
  refine ⟨_, rfl, a, _, dx, _, rfl, hA4, T.cl_Placing, T.na_saves, by decide, ?_⟩
  have b4 := (b3.trans (But1.of s34)).trans (But1.set (o := .ins (He.ga K "Placing") dx (putF "saves" (.ref ts) [])))
  have c4 := But1.set (w0 := a) (H := H4) (o := .ins (He.ga K "Placing") dx (putF "saves" (.ref ts) []))
  have hg5 := c4 _ _ ng (s34 _ _ hg3)
  have hts5 := c4 _ _ (ne_of hts hA4 (by intro z; cases z)) hts
  have hA5 : (upd H4 a (.ins (He.ga K "Placing") dx (putF "saves" (.ref ts) []))) a = some (.ins (He.ga K "Placing") dx [("saves", .ref ts)]) := upd_same
  revert b4 hg5 hts5 hA5
  generalize upd H4 a (.ins (He.ga K "Placing") dx (putF "saves" (.ref ts) [])) = H5
  intro b4 hg5 hts5 hA5
  -- backs
  refine ⟨_, rfl, g, bs, rfl, .inl (SqL.of hg5), by omega, fun sb kb hsb hkb => ?_⟩
  refine ⟨sb, _, kb, rfl, upd_same, by omega, fun zs q2 pw2 mem2 len2 hq2 => ?_⟩
  have e2 : zs = setF bs := up_eq pw2 (setF_up bs) fun v => ((mem2 v).trans decide_eq_true_iff).trans (setF_mem bs v).symm
  subst e2
  refine ⟨q2, _, rfl, .inl upd_same, fun tb H6 s6 htb => ?_⟩
  have s56 := (same_upd (same_upd (Same.refl _) hsb) hq2).trans s6
  have hA6 := s56 _ _ hA5
  refine ⟨_, rfl, a, _, dx, _, rfl, hA6, T.cl_Placing, T.na_backs, (by show (1 : Nat) < 1000; decide), ?_⟩
  have b6 := (b4.trans (But1.of s56)).trans (But1.set (o := .ins (He.ga K "Placing") dx (putF "backs" (.ref tb) [("saves", .ref ts)])))
  have c6 := But1.set (w0 := a) (H := H6) (o := .ins (He.ga K "Placing") dx (putF "backs" (.ref tb) [("saves", .ref ts)]))
  have hts7 := c6 _ _ (ne_of (s56 _ _ hts5) hA6 (by intro z; cases z)) (s56 _ _ hts5)
  have htb7 := c6 _ _ (ne_of htb hA6 (by intro z; cases z)) htb
  have hA7 : (upd H6 a (.ins (He.ga K "Placing") dx (putF "backs" (.ref tb) [("saves", .ref ts)]))) a = some (.ins (He.ga K "Placing") dx [("saves", .ref ts), ("backs", .ref tb)]) := upd_same
  revert b6 hts7 htb7 hA7
  generalize upd H6 a (.ins (He.ga K "Placing") dx (putF "backs" (.ref tb) [("saves", .ref ts)])) = H7
  intro b6 hts7 htb7 hA7
  -- both
  refine ⟨_, rfl, a, _, dx, _, _, rfl, hA7, T.cl_Placing, T.na_saves, rfl, ts, rfl, ⟨_, SqT.of hts7⟩, for_tup (K := K) (a := ts) (xs := (setF ss).map V.int) (fun j σ' H' => ∃ v6 : Option V, σ' = [some (.ref a), some (.ref l), some (.ref m), some (.ref f), some (.ref g), v5, v6] ∧ H' = H7 ∧ ∀ v ∈ (setF ss).take j, decide (v ∈ bs) = false)
    ⟨none, rfl, rfl, fun v hv => by simp at hv⟩ (fun j σ' H' _ h => by obtain ⟨_, _, rfl, _⟩ := h; exact SqT.of hts7) ?_ ?_⟩
  · rintro j x σ' H' hj ⟨v6, rfl, rfl, before⟩
    obtain ⟨z, hz, rfl⟩ := int_at hj
    refine ⟨_, rfl, _, rfl, a, _, dx, _, _, rfl, hA7, T.cl_Placing, T.na_backs, rfl, tb, _, rfl, .inr (SqT.of htb7), rfl, flat_ints _, _, rfl, ?_⟩
    rw [inV_ints]
    have eB : decide (z ∈ setF bs) = decide (z ∈ bs) := by
      rw [Bool.eq_iff_iff, decide_eq_true_iff, decide_eq_true_iff]
      exact setF_mem bs z
    rw [eB]
    by_cases both : z ∈ bs
    · rw [decide_eq_true both]
      refine iteT ⟨_, rfl, _, rfl, fun d H2' _ hx s => r2 z _ nn (filter_first hz (decide_eq_true both) before) H2' d hx (b6.trans (But1.of s))⟩
    · rw [decide_eq_false both]
      refine iteF ⟨_, rfl, rfl, fun v hv => ?_⟩
      rw [take_next hz] at hv
      rcases List.mem_append.mp hv with hv | hv
      · exact before v hv
      · rw [List.mem_singleton.mp hv]
        exact decide_eq_false both
  rintro σ' H' ⟨v6, rfl, rfl, before⟩
  rw [List.length_map, List.take_length] at before
  exact r3 nn (filter_none before) H' b6 ⟨dx, ts, tb, hA7, SqT.of hts7, SqT.of htb7⟩
abbrev s_Placing_eq : Stmt := inClass (top 35) 1
theorem sc_Placing_eq : FnScope ["self", "other"] ["self", "other"] (defScope s_Placing_eq) := ⟨rfl, rfl, rfl, by decide +kernel, rfl, by decide +kernel, by decide +kernel⟩
theorem ok_Placing_eq {fd : FuncData} (F : FunD K "__eq__" "Placing.__eq__" (defArgs s_Placing_eq) (defBody s_Placing_eq) (defScope s_Placing_eq) [] [] (He.ma K (He.ga K "Placing") "__eq__") fd) (T : TxC K mg) : FnOk P w K mg base CX0 1 (He.ma K (He.ga K "Placing") "__eq__") fd ["self", "other"] (spPlEq K) := by
  refine F.ok sc_Placing_eq (fun vs H Q E h => by obtain ⟨a, b, us, ws, us', ws', rfl, _⟩ := h; rfl) (fun cdv A outer s H vs Q E hr h => ?_)
  obtain ⟨a, b, us, ws, us', ws', rfl, hA, hB, q⟩ := h
  refine ⟨_, PSs.nox (pss_one (ps_ret (pe_and (pe_callB (C8.call_isC T.ins_Placing) (by rfl) T.n_isinstance (by decide +kernel) (pa_cons (pv 1) (pa_cons (pe_glob (v := .ref (He.ga K "Placing")) rfl T.g_Placing rfl) pa_nil))) (pe_and (pe_cmpR (op_eqD hr.units) (pe_fld (pv 0) rfl) (pe_fld (pv 1) rfl) (nomark _)) (pe_one (pe_cmpR (op_eqD hr.units) (pe_fld (pv 0) rfl) (pe_fld (pv 1) rfl) (nomark _))))))), ?_⟩
  obtain ⟨dx, ts, tb, h1, h2, h3⟩ := hA.at_
  obtain ⟨dy, ts', tb', i1, i2, i3⟩ := hB.at_
  have q := q H (Same.refl H)
  refine ⟨_, rfl, b, dy, _, rfl, i1, _, rfl, ?_⟩
  refine iteT ?_
  refine ⟨_, rfl, a, _, dx, _, _, rfl, h1, T.cl_Placing, T.na_saves, rfl, _, rfl, b, _, dy, _, _, rfl, i1, T.cl_Placing, T.na_saves, rfl, _, _, .tup h2 (dp_ints us), .tup i2 (dp_ints us'), shaped_ints _, shaped_ints _, _, rfl, ?_⟩
  rw [show PyData.eqv (.tuple (us.map PyData.int)) (.tuple (us'.map PyData.int)) = decide (us = us') from eqv_ints _ _]
  by_cases c1 : us = us'
  case neg =>
    rw [decide_eq_false c1]
    rw [decide_eq_false (fun z => c1 z.1)] at q
    exact iteF q
  rw [decide_eq_true c1]
  refine iteT ?_
  refine ⟨_, rfl, a, _, dx, _, _, rfl, h1, T.cl_Placing, T.na_backs, rfl, _, rfl, b, _, dy, _, _, rfl, i1, T.cl_Placing, T.na_backs, rfl, _, _, .tup h3 (dp_ints ws), .tup i3 (dp_ints ws'), shaped_ints _, shaped_ints _, ?_⟩
  rw [show PyData.eqv (.tuple (ws.map PyData.int)) (.tuple (ws'.map PyData.int)) = decide (us = us' ∧ ws = ws') by
    rw [show PyData.eqv (.tuple (ws.map PyData.int)) (.tuple (ws'.map PyData.int)) = decide (ws = ws') from eqv_ints _ _, Bool.eq_iff_iff, decide_eq_true_iff, decide_eq_true_iff]
    exact ⟨fun z => ⟨c1, z⟩, fun z => z.2⟩]
  exact q
abbrev s_Placing_len : Stmt := inClass (top 35) 2
theorem sc_Placing_len : FnScope ["self"] ["self"] (defScope s_Placing_len) := ⟨rfl, rfl, rfl, by decide +kernel, rfl, by decide +kernel, by decide +kernel⟩
theorem ok_Placing_len {fd : FuncData} (F : FunD K "__len__" "Placing.__len__" (defArgs s_Placing_len) (defBody s_Placing_len) (defScope s_Placing_len) [] [] (He.ma K (He.ga K "Placing") "__len__") fd) (T : TxC K mg) : FnOk P w K mg base CX0 1 (He.ma K (He.ga K "Placing") "__len__") fd ["self"] (spPlLen K) := by
  refine F.ok sc_Placing_len (fun vs H Q E h => by obtain ⟨a, us, ws, rfl, _⟩ := h; rfl) (fun cdv A outer s H vs Q E hr h => ?_)
  obtain ⟨a, us, ws, rfl, hA, few, q⟩ := h
  refine ⟨_, PSs.nox (pss_one (ps_ret (pe_callB call_len_seq (by rfl) T.n_len PySem.boot_len (pa_cons (pe_op op_catA (pe_fld (pv 0) rfl) (pe_fld (pv 0) rfl)) pa_nil)))), ?_⟩
  obtain ⟨dx, ts, tb, h1, h2, h3⟩ := hA.at_
  refine ⟨_, rfl, a, _, dx, _, _, rfl, h1, T.cl_Placing, T.na_saves, rfl, _, rfl, a, _, dx, _, _, rfl, h1, T.cl_Placing, T.na_backs, rfl, ?_⟩
  refine catA_s h2 h3 (by rw [List.length_map, List.length_map]; exact Nat.le_trans (show us.length + ws.length ≤ 1000 by omega) (by decide)) fun H1 c s1 hc => ?_
  refine ⟨c, _, rfl, .inr hc, ?_⟩
  rw [List.length_append, List.length_map, List.length_map]
  exact q H1 s1
abbrev s_Lot_init : Stmt := inClass (top 34) 0
theorem sc_Lot_init : FnScope ["self", "places", "numbers", "number"] ["self", "places"] (defScope s_Lot_init) := ⟨rfl, rfl, rfl, by decide +kernel, rfl, by decide +kernel, by decide +kernel⟩
theorem ok_Lot_init {fd : FuncData} (F : FunD K "__init__" "Lot.__init__" (defArgs s_Lot_init) (defBody s_Lot_init) (defScope s_Lot_init) [] [] (He.ma K (He.ga K "Lot") "__init__") fd) (T : TxC K mg) (I_BadPlace : ErrI P w K mg base (He.ga K "BadPlace") "number") (d_is_number : Okd P w K mg base CX0 1 (He.ga K "is_number") ["value"] spIsNum) : FnOk P w K mg base (L2.CX P w) 3 (He.ma K (He.ga K "Lot") "__init__") fd ["self", "places"] (spLotInit K) := by
  obtain ⟨fd_is_number, G_is_number, b_is_number⟩ := d_is_number
  refine F.ok sc_Lot_init (fun vs H Q E h => by obtain ⟨a, dx, l, ns, rfl, _⟩ := h; rfl) (fun cdv A outer s H vs Q E hr h => ?_)
  obtain ⟨a, dx, l, ns, rfl, hA, h1, f1, r1, r2⟩ := h
  refine ⟨_,  (pss_cons (ps_set (i := 2) sc_Lot_init.nd rfl (Or.inl rfl) (pe_callTy call_list_of (by rfl) T.n_list (by decide +kernel) (pa_cons (pv 1) pa_nil)))
    (pss_cons (ps_for (passes_of rfl) rfl (pi_list (pv 2)) (pg_name (i := 3) sc_Lot_init.nd rfl (Or.inl rfl))
      (pss_one (ps_if (PW.pt (pw_or (pt_not (pt_val (pe_call G_is_number (hr.mono (by decide)) (by rfl) T.g_is_number T.k_is_number b_is_number .nil pass0 (pa_cons (pv 3) pa_nil)))) (pw_or1 (pt_cmpR op_lt (pv 3) pe_int (nomark _))))) (pss_one (ps_raise rfl (takes_of rfl rfl rfl rfl) (pmk_errF I_BadPlace (hr.mono (by decide)) (by rfl) T.g_BadPlace (pa_cons (pv 3) pa_nil)))) pss_nil)))
    (pss_one (ps_fld (pv 0) (pe_callTy call_tupleQ (by rfl) T.n_tuple (by decide +kernel) (pa_cons (pe_callB (cr_sortedSet rfl) (by rfl) T.n_sorted (by decide +kernel) (pa_cons (pe_callTy (cr_setJ rfl) (by rfl) T.n_set (by decide +kernel) (pa_cons (pv 2) pa_nil)) pa_nil)) pa_nil)) rfl)))), ?_⟩
  refine ⟨_, rfl, l, _, rfl, h1, fun f hf => ?_⟩
  have s03 := same_upd (o := .lst (ns.map V.int)) (Same.refl H) hf
  have hf3 : (upd H f (.lst (ns.map V.int))) f = some (.lst (ns.map V.int)) := upd_same
  revert s03 hf3
  generalize upd H f (.lst (ns.map V.int)) = H3
  intro s03 hf3
  refine ⟨_, rfl, f, rfl, ⟨_, SqL.of hf3⟩, for_list (K := K) (a := f) (xs := ns.map V.int) (fun j σ' H' => ∃ v3 : Option V, σ' = [some (.ref a), some (.ref l), some (.ref f), v3] ∧ H' = H3 ∧ ∀ v ∈ ns.take j, decide (v < 0) = false)
    ⟨none, rfl, rfl, fun v hv => by simp at hv⟩ (fun j σ' H' _ h => by obtain ⟨_, _, rfl, _⟩ := h; exact SqL.of hf3) ?_ ?_⟩
  · rintro j x σ' H' hj ⟨v5, rfl, rfl, before⟩
    obtain ⟨z, hz, rfl⟩ := int_at hj
    refine ⟨_, rfl, z, rfl, _, rfl, ?_⟩
    refine iteF ?_
    refine ⟨_, rfl, _, _, rfl, rfl, _, rfl, ?_⟩
    by_cases neg : z < 0
    · rw [decide_eq_true neg]
      exact iteT ⟨_, rfl, _, rfl, fun d H2' _ hx s => r1 z _ (filter_first hz (decide_eq_true neg) before) H2' d hx (s03.trans s)⟩
    · rw [decide_eq_false neg]
      refine iteF ⟨_, rfl, rfl, fun v hv => ?_⟩
      rw [take_next hz] at hv
      rcases List.mem_append.mp hv with hv | hv
      · exact before v hv
      · rw [List.mem_singleton.mp hv]
        exact decide_eq_false neg
  rintro σ' H' ⟨v5, rfl, rfl, before⟩
  rw [List.length_map, List.take_length] at before
  have nn : negs ns = [] := filter_none before
  clear before
  have hA3 := s03 _ _ hA
  have b3 := But1.of (w0 := a) s03
  refine ⟨_, rfl, f, ns, rfl, .inl (SqL.of hf3), by omega, fun sa k hsa hk => ?_⟩
  refine ⟨sa, _, k, rfl, upd_same, by omega, fun ys q1 pw mem len hq1 => ?_⟩
  have e1 : ys = setF ns := up_eq pw (setF_up ns) fun v => ((mem v).trans decide_eq_true_iff).trans (setF_mem ns v).symm
  subst e1
  refine ⟨q1, _, rfl, .inl upd_same, fun ts H4 s4 hts => ?_⟩
  have s34 := (same_upd (same_upd (Same.refl _) hsa) hq1).trans s4
  have hA4 := s34 _ _ hA3
  refine ⟨_, rfl, a, _, dx, _, rfl, hA4, T.cl_Lot, T.na_places, by decide, ?_⟩
  have b4 := (b3.trans (But1.of s34)).trans (But1.set (o := .ins (He.ga K "Lot") dx (putF "places" (.ref ts) [])))
  have c4 := But1.set (w0 := a) (H := H4) (o := .ins (He.ga K "Lot") dx (putF "places" (.ref ts) []))
  have hts5 := c4 _ _ (ne_of hts hA4 (by intro z; cases z)) hts
  exact r2 nn _ b4 ⟨dx, ts, upd_same, SqT.of hts5⟩
abbrev s_Lot_eq : Stmt := inClass (top 34) 1
theorem sc_Lot_eq : FnScope ["self", "other"] ["self", "other"] (defScope s_Lot_eq) := ⟨rfl, rfl, rfl, by decide +kernel, rfl, by decide +kernel, by decide +kernel⟩
theorem ok_Lot_eq {fd : FuncData} (F : FunD K "__eq__" "Lot.__eq__" (defArgs s_Lot_eq) (defBody s_Lot_eq) (defScope s_Lot_eq) [] [] (He.ma K (He.ga K "Lot") "__eq__") fd) (T : TxC K mg) : FnOk P w K mg base CX0 1 (He.ma K (He.ga K "Lot") "__eq__") fd ["self", "other"] (spLotEq K) := by
  refine F.ok sc_Lot_eq (fun vs H Q E h => by obtain ⟨a, b, us, us', rfl, _⟩ := h; rfl) (fun cdv A outer s H vs Q E hr h => ?_)
  obtain ⟨a, b, us, us', rfl, hA, hB, q⟩ := h
  refine ⟨_, PSs.nox (pss_one (ps_ret (pe_and (pe_callB (C8.call_isC T.ins_Lot) (by rfl) T.n_isinstance (by decide +kernel) (pa_cons (pv 1) (pa_cons (pe_glob (v := .ref (He.ga K "Lot")) rfl T.g_Lot rfl) pa_nil))) (pe_one (pe_cmpR (op_eqD hr.units) (pe_fld (pv 0) rfl) (pe_fld (pv 1) rfl) (nomark _)))))), ?_⟩
  obtain ⟨dx, ts, h1, h2⟩ := hA.at_
  obtain ⟨dy, ts', i1, i2⟩ := hB.at_
  have q := q H (Same.refl H)
  refine ⟨_, rfl, b, dy, _, rfl, i1, _, rfl, ?_⟩
  refine iteT ?_
  refine ⟨_, rfl, a, _, dx, _, _, rfl, h1, T.cl_Lot, T.na_places, rfl, _, rfl, b, _, dy, _, _, rfl, i1, T.cl_Lot, T.na_places, rfl, _, _, .tup h2 (dp_ints us), .tup i2 (dp_ints us'), shaped_ints _, shaped_ints _, ?_⟩
  rw [show PyData.eqv (.tuple (us.map PyData.int)) (.tuple (us'.map PyData.int)) = decide (us = us') from eqv_ints _ _]
  exact q
abbrev s_Lot_len : Stmt := inClass (top 34) 7
theorem sc_Lot_len : FnScope ["self"] ["self"] (defScope s_Lot_len) := ⟨rfl, rfl, rfl, by decide +kernel, rfl, by decide +kernel, by decide +kernel⟩
theorem ok_Lot_len {fd : FuncData} (F : FunD K "__len__" "Lot.__len__" (defArgs s_Lot_len) (defBody s_Lot_len) (defScope s_Lot_len) [] [] (He.ma K (He.ga K "Lot") "__len__") fd) (T : TxC K mg) : FnOk P w K mg base CX0 1 (He.ma K (He.ga K "Lot") "__len__") fd ["self"] (spLotLen K) := by
  refine F.ok sc_Lot_len (fun vs H Q E h => by obtain ⟨a, us, rfl, _⟩ := h; rfl) (fun cdv A outer s H vs Q E hr h => ?_)
  obtain ⟨a, us, rfl, hA, few, q⟩ := h
  refine ⟨_, PSs.nox (pss_one (ps_ret (pe_callB call_len_seq (by rfl) T.n_len PySem.boot_len (pa_cons (pe_fld (pv 0) rfl) pa_nil)))), ?_⟩
  obtain ⟨dx, ts, h1, h2⟩ := hA.at_
  refine ⟨_, rfl, a, _, dx, _, _, rfl, h1, T.cl_Lot, T.na_places, rfl, ts, _, rfl, .inr h2, ?_⟩
  rw [List.length_map]
  exact q H (Same.refl H)
abbrev s_Lot_contains : Stmt := inClass (top 34) 6
theorem sc_Lot_contains : FnScope ["self", "place"] ["self", "place"] (defScope s_Lot_contains) := ⟨rfl, rfl, rfl, by decide +kernel, rfl, by decide +kernel, by decide +kernel⟩
theorem ok_Lot_contains {fd : FuncData} (F : FunD K "__contains__" "Lot.__contains__" (defArgs s_Lot_contains) (defBody s_Lot_contains) (defScope s_Lot_contains) [] [] (He.ma K (He.ga K "Lot") "__contains__") fd) (T : TxC K mg) : FnOk P w K mg base CX0 1 (He.ma K (He.ga K "Lot") "__contains__") fd ["self", "place"] (spLotIn K) := by
  refine F.ok sc_Lot_contains (fun vs H Q E h => by obtain ⟨a, v, us, rfl, _⟩ := h; rfl) (fun cdv A outer s H vs Q E hr h => ?_)
  obtain ⟨a, v, us, rfl, hA, few, q⟩ := h
  refine ⟨_, PSs.nox (pss_one (ps_ret (pe_cmpR op_in_seq (pv 1) (pe_fld (pv 0) rfl) (by first | exact nomark _ | rfl)))), ?_⟩
  obtain ⟨dx, ts, h1, h2⟩ := hA.at_
  refine ⟨_, rfl, _, rfl, a, _, dx, _, _, rfl, h1, T.cl_Lot, T.na_places, rfl, ts, _, rfl, .inr h2, rfl, flat_ints us, ?_⟩
  rw [inV_ints]
  exact q H (Same.refl H)
abbrev s_Lot_iter : Stmt := inClass (top 34) 8
theorem sc_Lot_iter : FnScope ["self"] ["self"] (defScope s_Lot_iter) := ⟨rfl, rfl, rfl, by decide +kernel, rfl, by decide +kernel, by decide +kernel⟩
theorem okn_Lot_iter {fd : FuncData} (F : FunD K "__iter__" "Lot.__iter__" (defArgs s_Lot_iter) (defBody s_Lot_iter) (defScope s_Lot_iter) [] [] (He.ma K (He.ga K "Lot") "__iter__") fd) (T : TxC K mg) : FnN P w K mg base CX0 1 (He.ma K (He.ga K "Lot") "__iter__") fd ["self"] (spIterN (He.ga K "Lot") "places" K) := by
  refine FnN.of F sc_Lot_iter (fun n vs H Q E h => by obtain ⟨a, dx, l, fs, zs, rfl, _⟩ := h; rfl) (fun cdv A outer s H vs Q E hr h => ?_)
  obtain ⟨a, dx, l, fs, zs, rfl, ha, hl, hz, q⟩ := h
  refine ⟨_, PSs.nox (pss_one (ps_ret (pe_callB call_iterT (by rfl) T.n_iter (by decide +kernel) (pa_cons (pe_fld (pv 0) rfl) pa_nil)))), ?_⟩
  exact ⟨_, rfl, a, _, dx, _, _, rfl, ha, T.cl_Lot, T.na_places, hl, l, zs, rfl, hz, fun it h0 hn => q it h0 hn⟩
end
section
variable {P : Program} {w : World} {K : PySem.W.Frag} {mg : Str → Option Value} {base : Heap}

theorem gatesF_mem {f : Edge → Bool} {G : List Edge} {v : Int} : v ∈ gatesF f G ↔ ∃ (k : Nat) (q : Edge), v = (k : Int) ∧ G[k]? = some q ∧ f q = true := by
  unfold gatesF
  rw [List.mem_map]
  constructor
  · rintro ⟨k, hk, rfl⟩
    obtain ⟨_, h⟩ := List.mem_filter.mp hk
    cases e : G[k]? with
    | none => rw [e] at h; cases h
    | some q => rw [e] at h; exact ⟨k, q, rfl, e, h⟩
  · rintro ⟨k, q, rfl, e, h⟩
    refine ⟨k, List.mem_filter.mpr ⟨List.mem_range.mpr (List.getElem?_eq_some_iff.mp e).1, ?_⟩, rfl⟩
    rw [e]
    exact h
theorem gatesF_up (f : Edge → Bool) (G : List Edge) : (gatesF f G).Pairwise (· < ·) := by
  unfold gatesF
  exact (range_up G.length).sublist ((List.filter_sublist).map Int.ofNat)
theorem gatesF_pos {f : Edge → Bool} {G : List Edge} : ∀ v ∈ gatesF f G, 0 ≤ v := fun v hv => by
  obtain ⟨k, _, rfl, _⟩ := gatesF_mem.mp hv
  omega
theorem gatesF_len (f : Edge → Bool) (G : List Edge) : (gatesF f G).length ≤ G.length := gatesN_len f G G.length
theorem inout {us : List Int} {G : List Edge} {v : Int} (h : v ∈ gatesF (inP us) G) : v ∉ gatesF (outP us) G := fun k => by
  obtain ⟨i, q, rfl, e, y⟩ := gatesF_mem.mp h
  obtain ⟨j, q', ej, e', y'⟩ := gatesF_mem.mp k
  have : i = j := by omega
  subst this
  rw [e] at e'
  cases e'
  unfold inP at y
  unfold outP at y'
  rw [Bool.and_eq_true] at y y'
  rw [y.1] at y'
  cases y'.2
theorem sqt_but2 {K : PySem.W.Frag} {H H' : Hp} {a S B : Addr} {xs ys zs : List V} (h : SqT K H a xs) (hS : H S = some (.lst ys)) (hB : H B = some (.lst zs)) (k : ∀ b o, b ≠ S → b ≠ B → H b = some o → H' b = some o) : SqT K H' a xs := by
  rcases h with (h | ⟨q, h⟩) | h
  · exact .inl (.inl (k _ _ (ne_of h hS (by intro z; cases z)) (ne_of h hB (by intro z; cases z)) h))
  · exact .inl (.inr ⟨q, k _ _ (ne_of h hS (by intro z; cases z)) (ne_of h hB (by intro z; cases z)) h⟩)
  · exact .inr h
/-- the places from n on -/
def farF (n : Int) (us : List Int) : List Int := us.filter fun v => decide (n ≤ v)
def spChkLot (K : PySem.W.Frag) : Sp := fun vs H Q E => ∃ (a b : Addr) (n e : Int) (es : List Edge) (ys us : List Int), vs = [.ref a, .ref b] ∧ WebAt K H a n es e ys ∧ LotAt K H b us ∧
  (∀ z r, farF n us = z :: r → Rz K E "BadPlace" "number" (.int z) H) ∧ (farF n us = [] → Q .non H)
def spMarked (K : PySem.W.Frag) : Sp := fun vs H Q E => ∃ (a b : Addr) (n e : Int) (es : List Edge) (ys us : List Int), vs = [.ref a, .ref b] ∧ WebAt K H a n es e ys ∧ LotAt K H b us ∧
  (∀ z r, farF n us = z :: r → Rz K E "BadPlace" "number" (.int z) H) ∧
  (farF n us = [] → ∀ (H' : Hp) (t S B : Addr), Same H H' → H' t = some (.tup [.ref S, .ref B]) → H' S = some (.lst ((gatesF (inP us) (allG es e ys)).map V.int)) → H' B = some (.lst ((gatesF (outP us) (allG es e ys)).map V.int)) → Q (.ref t) H')
def spPlacingOf (K : PySem.W.Frag) : Sp := fun vs H Q E => ∃ (a b : Addr) (n e : Int) (es : List Edge) (ys us : List Int), vs = [.ref a, .ref b] ∧ WebAt K H a n es e ys ∧ LotAt K H b us ∧ es.length + 1 + ys.length < 60 ∧
  (∀ z r, farF n us = z :: r → Rz K E "BadPlace" "number" (.int z) H) ∧
  (farF n us = [] → ∀ (H' : Hp) (x : Addr), Same H H' → PlAt K H' x (gatesF (inP us) (allG es e ys)) (gatesF (outP us) (allG es e ys)) → H x = none → Q (.ref x) H')
abbrev s_check_lot : Stmt := top 17
theorem sc_check_lot : FnScope ["web", "lot", "place"] ["web", "lot"] (defScope s_check_lot) := ⟨rfl, rfl, rfl, by decide +kernel, rfl, by decide +kernel, by decide +kernel⟩
theorem ok_check_lot {fd : FuncData} (F : FunD K "check_lot" "check_lot" (defArgs s_check_lot) (defBody s_check_lot) (defScope s_check_lot) [] [] (He.ga K "check_lot") fd) (T : TxW K mg) (Z : TxC K mg) (I_BadPlace : ErrI P w K mg base (He.ga K "BadPlace") "number") {fd_it : FuncData} (G_it : FnN P w K mg base CX0 1 (He.ma K (He.ga K "Lot") "__iter__") fd_it ["self"] (spIterN (He.ga K "Lot") "places" K)) (b_it : L2.Binds K fd_it ["self"] []) : FnOk P w K mg base (L2.CX P w) 3 (He.ga K "check_lot") fd ["web", "lot"] (spChkLot K) := by
  refine F.ok sc_check_lot (fun vs H Q E h => by obtain ⟨a, b, n, e, es, ys, us, rfl, _⟩ := h; rfl) (fun cdv A outer s H vs Q E hr h => ?_)
  obtain ⟨a, b, n, e, es, ys, us, rfl, hA, hL, r1, r2⟩ := h
  refine ⟨_,  (pss_one (ps_for (passes_of rfl) rfl (pi_own (pv 1) G_it (hr.mono (by decide)) Z.o_Lot_iter b_it) (pg_name (i := 2) sc_check_lot.nd rfl (Or.inl rfl))
      (pss_one (ps_if (pt_cmpR op_ge (pv 2) (pe_fld (pv 0) rfl) (nomark _)) (pss_one (ps_raise rfl (takes_of rfl rfl rfl rfl) (pmk_errF I_BadPlace (hr.mono (by decide)) (by rfl) Z.g_BadPlace (pa_cons (pv 2) pa_nil)))) pss_nil)))), ?_⟩
  obtain ⟨dx, te, tx, M, ot, h1, h2, h3, h4, h5, h6⟩ := hA.at_
  obtain ⟨dl, tl, w1, w2⟩ := hL.at_
  refine ⟨_, rfl, b, dl, tl, _, _, rfl, w1, rfl, w2, for_tup (K := K) (a := tl) (xs := us.map V.int) (fun j σ' H' => ∃ v2 : Option V, σ' = [some (.ref a), some (.ref b), v2] ∧ H' = H ∧ ∀ v ∈ us.take j, decide (n ≤ v) = false)
    ⟨none, rfl, rfl, fun v hv => by simp at hv⟩ (fun j σ' H' _ h => by obtain ⟨_, _, rfl, _⟩ := h; exact w2) ?_ ?_⟩
  · rintro j x σ' H' hj ⟨v2, rfl, rfl, before⟩
    obtain ⟨z, hz, rfl⟩ := int_at hj
    refine ⟨_, rfl, _, rfl, a, _, dx, _, _, rfl, h1, T.cl_Web, T.na_places, rfl, _, _, rfl, rfl, _, rfl, ?_⟩
    show if decide (n ≤ z) = true then _ else _
    by_cases far : n ≤ z
    · rw [decide_eq_true far]
      exact iteT ⟨_, rfl, _, rfl, fun d H2 _ hx s => r1 z _ (filter_first hz (decide_eq_true far) before) H2 d hx s⟩
    · rw [decide_eq_false far]
      refine iteF ⟨_, rfl, rfl, fun v hv => ?_⟩
      rw [take_next hz] at hv
      rcases List.mem_append.mp hv with hv | hv
      · exact before v hv
      · rw [List.mem_singleton.mp hv]
        exact decide_eq_false far
  · rintro σ' H' ⟨v2, rfl, rfl, before⟩
    rw [List.length_map, List.take_length] at before
    exact r2 (filter_none before)
abbrev s_marked_gates : Stmt := top 37
theorem sc_marked_gates : FnScope ["web", "lot", "inside", "saves", "backs", "gate", "begin", "end"] ["web", "lot"] (defScope s_marked_gates) := ⟨rfl, rfl, rfl, by decide +kernel, rfl, by decide +kernel, by decide +kernel⟩
theorem ok_marked_gates {fd : FuncData} (F : FunD K "marked_gates" "marked_gates" (defArgs s_marked_gates) (defBody s_marked_gates) (defScope s_marked_gates) [] [] (He.ga K "marked_gates") fd) (T : TxW K mg) (Z : TxC K mg) (d_check_lot : Okd P w K mg base (L2.CX P w) 3 (He.ga K "check_lot") ["web", "lot"] (spChkLot K)) (d_gate_pairs : Okd P w K mg base CX0 1 (He.ga K "gate_pairs") ["web"] (spPairs K)) : FnOk P w K mg base (L2.CX P w) 4 (He.ga K "marked_gates") fd ["web", "lot"] (spMarked K) := by
  obtain ⟨fd_check_lot, G_check_lot, b_check_lot⟩ := d_check_lot
  obtain ⟨fd_gate_pairs, G_gate_pairs, b_gate_pairs⟩ := d_gate_pairs
  refine F.ok sc_marked_gates (fun vs H Q E h => by obtain ⟨a, b, n, e, es, ys, us, rfl, _⟩ := h; rfl) (fun cdv A outer s H vs Q E hr h => ?_)
  obtain ⟨a, b, n, e, es, ys, us, rfl, hA, hL, r1, r2⟩ := h
  refine ⟨_,  (pss_cons (ps_expr (pe_call G_check_lot (hr.mono (by decide)) (by rfl) T.g_check_lot T.k_check_lot b_check_lot .nil (passes_call (takes_of rfl rfl rfl rfl) (fun _ _ _ _ h => h)) (pa_cons (pv 0) (pa_cons (pv 1) pa_nil))))
    (pss_cons (ps_set (i := 2) sc_marked_gates.nd rfl (Or.inl rfl) (pe_fld (pv 1) rfl))
    (pss_cons (ps_set (i := 3) sc_marked_gates.nd rfl (Or.inl rfl) (pe_lst pa_nil))
    (pss_cons (ps_set (i := 4) sc_marked_gates.nd rfl (Or.inl rfl) (pe_lst pa_nil))
    (pss_cons (ps_for (passes_of rfl) rfl (pi_enumM (by rfl) T.n_enumerate (pa_cons (pe_call G_gate_pairs (hr.mono (by decide)) (by rfl) T.g_gate_pairs T.k_gate_pairs b_gate_pairs .nil pass0 (pa_cons (pv 0) pa_nil)) pa_nil)) (pg_tup rfl (pgs_cons (pg_name (i := 5) sc_marked_gates.nd rfl (Or.inl rfl)) (pgs_cons (pg_tup rfl (pgs_cons (pg_name (i := 6) sc_marked_gates.nd rfl (Or.inl rfl)) (pgs_cons (pg_name (i := 7) sc_marked_gates.nd rfl (Or.inl rfl)) pgs_nil))) pgs_nil)))
      (pss_one (ps_if (pt_cmpR op_in_seq (pv 6) (pv 2) (by first | exact nomark _ | rfl)) (pss_one (ps_if (pt_cmpR op_notIn_seq (pv 7) (pv 2) (by first | exact nomark _ | rfl)) (pss_one (ps_expr (pe_bm PySem.F.plainAttrs_list PySem.F.slot_list_append PySem.F.type_list_append mt_append (pv 4) (pa_cons (pv 5) pa_nil)))) pss_nil)) (pss_one (ps_if (pt_cmpR op_in_seq (pv 7) (pv 2) (by first | exact nomark _ | rfl)) (pss_one (ps_expr (pe_bm PySem.F.plainAttrs_list PySem.F.slot_list_append PySem.F.type_list_append mt_append (pv 3) (pa_cons (pv 5) pa_nil)))) pss_nil)))))
    (pss_one (ps_ret (pe_tup (pa_cons (pv 3) (pa_cons (pv 4) pa_nil)))))))))), ?_⟩
  obtain ⟨dl, tl, w1, w2⟩ := hL.at_
  refine ⟨_, rfl, _, rfl, a, b, n, e, es, ys, us, rfl, hA, hL, r1, fun lt => ?_⟩
  have q := r2 lt
  refine ⟨_, rfl, b, _, dl, _, _, rfl, w1, Z.cl_Lot, Z.na_Lot_places, rfl, ?_⟩
  refine ⟨(by show 0 ≤ sizeLine; decide), fun S hS => ⟨(by show 0 ≤ sizeLine; decide), fun B hB => ?_⟩⟩
  have s2 := same_upd (o := .lst []) (same_upd (o := .lst []) (Same.refl H) hS) hB
  have hS2 := (same_upd (o := .lst []) (Same.refl (upd H S (.lst []))) hB) _ _ upd_same
  have hB2 : (upd (upd H S (.lst [])) B (.lst [])) B = some (.lst []) := upd_same
  have hS0 : H S = none := hS
  have hB0 : H B = none := (same_upd (o := .lst []) (Same.refl H) hS).free hB
  have nSB : S ≠ B := ne_of_none (o := .lst []) upd_same hB
  revert s2 hS2 hB2
  generalize upd (upd H S (.lst [])) B (.lst []) = H2
  intro s2 hS2 hB2
  refine ⟨_, rfl, a, n, e, es, ys, rfl, hA.same s2, fun H3 t L s3 ht hL3 eL => ?_⟩
  have s03 := s2.trans s3
  have hS3 := s3 _ _ hS2
  have hB3 := s3 _ _ hB2
  have w3 := w2.ext s03
  have lG : (allG es e ys).length < 1000 := by rw [allG_len]; have := hA.few; omega
  have lL : L.length = (allG es e ys).length := by rw [← eL]; exact (List.length_map ..).symm
  have bnd : ∀ f i, i ≤ L.length → (gatesN f (allG es e ys) i).length ≤ 1000 := fun f i hi => Nat.le_trans (gatesN_len f _ i) (by omega)
  refine for_enumQ (K := K) (a := t) (xs := L.map fun p => V.ref p.1) (.inr ht) (fun i σ' H' => ∃ v5 v6 v7 : Option V, σ' = [some (.ref a), some (.ref b), some (.ref tl), some (.ref S), some (.ref B), v5, v6, v7] ∧ (∀ c o, c ≠ S → c ≠ B → H3 c = some o → H' c = some o) ∧ H' S = some (.lst ((gatesN (inP us) (allG es e ys) i).map V.int)) ∧ H' B = some (.lst ((gatesN (outP us) (allG es e ys) i).map V.int)))
    ⟨none, none, none, rfl, fun c o _ _ h => h, hS3, hB3⟩ (fun i σ' H' h o ho => ?_) ?_ ?_
  · obtain ⟨_, _, _, _, k, _, _⟩ := h
    rw [ht] at ho
    cases ho
    exact k t _ (ne_of ht hS3 (by intro z; cases z)) (ne_of ht hB3 (by intro z; cases z)) ht
  · rintro i x T' σ1 H1 hi ⟨v5, v6, v7, rfl, k, kS, kB⟩ hT
    obtain ⟨⟨c, u, z⟩, hLi, rfl⟩ : ∃ p : Addr × Edge, L[i]? = some p ∧ x = .ref p.1 := by
      rw [List.getElem?_map] at hi
      cases h : L[i]? with
      | none => rw [h] at hi; cases hi
      | some p => rw [h] at hi; exact ⟨p, rfl, (Option.some.inj hi).symm⟩
    have li : i < L.length := (List.getElem?_eq_some_iff.mp hLi).1
    have eG : (allG es e ys)[i]? = some (u, z) := by rw [← eL, List.getElem?_map, hLi]; rfl
    have hc3 : H3 c = some (.tup [.int u, .int z]) := hL3 _ (List.mem_of_getElem? hLi)
    have hc1 := k c _ (ne_of hc3 hS3 (by intro z; cases z)) (ne_of hc3 hB3 (by intro z; cases z)) hc3
    have w4 := sqt_but2 w3 hS3 hB3 k
    have s4 := same_upd (o := .tup [.int (i : Nat), .ref c]) (Same.refl H1) hT
    have hc4 := s4 _ _ hc1
    have kS4 := s4 _ _ kS
    have kB4 := s4 _ _ kB
    have w5 := w4.ext s4
    have hT4 : (upd H1 T' (.tup [.int (i : Nat), .ref c])) T' = some (.tup [.int (i : Nat), .ref c]) := upd_same
    have k4 : ∀ d o, d ≠ S → d ≠ B → H3 d = some o → (upd H1 T' (.tup [.int (i : Nat), .ref c])) d = some o := fun d o n1 n2 h => s4 _ _ (k d o n1 n2 h)
    revert hc4 kS4 kB4 w5 hT4 k4
    generalize upd H1 T' (.tup [.int (i : Nat), .ref c]) = H4
    intro hc4 kS4 kB4 w5 hT4 k4
    have nxI := gatesN_next (f := inP us) eG
    have nxO := gatesN_next (f := outP us) eG
    have vI : inP us (u, z) = (decide (z ∈ us) && !decide (u ∈ us)) := rfl
    have vO : outP us (u, z) = (decide (u ∈ us) && !decide (z ∈ us)) := rfl
    refine ⟨T', _, rfl, SqT.of hT4, rfl, _, _, rfl, _, _, rfl, c, _, rfl, SqT.of hc4, rfl, _, _, rfl, _, _, rfl, rfl, rfl, ?_⟩
    refine ⟨_, rfl, _, rfl, tl, _, rfl, .inr w5, rfl, flat_ints us, _, rfl, ?_⟩
    rw [inV_ints]
    by_cases m1 : u ∈ us
    · rw [decide_eq_true m1]
      refine iteT ?_
      refine ⟨_, rfl, _, rfl, tl, _, rfl, .inr w5, rfl, flat_ints us, _, rfl, ?_⟩
      show if (!inV (V.int z) (us.map V.int)) = true then _ else _
      rw [inV_ints]
      rw [vI, decide_eq_true m1, Bool.not_true, Bool.and_false, if_neg Bool.false_ne_true, List.append_nil] at nxI
      by_cases m2 : z ∈ us
      · rw [decide_eq_true m2]
        rw [vO, decide_eq_true m1, decide_eq_true m2, Bool.not_true, Bool.and_false, if_neg Bool.false_ne_true, List.append_nil] at nxO
        exact iteF ⟨_, _, _, rfl, k4, by rw [nxI]; exact kS4, by rw [nxO]; exact kB4⟩
      · rw [decide_eq_false m2]
        rw [vO, decide_eq_true m1, decide_eq_false m2, Bool.not_false, Bool.and_true, if_pos rfl] at nxO
        refine iteT ⟨_, rfl, .inl ⟨rfl, _, SqL.of kB4⟩, _, rfl, B, _, _, rfl, rfl, kB4, ?_, ?_⟩
        · rw [List.length_map]
          exact Nat.lt_of_le_of_lt (bnd _ i (by omega)) (by decide)
        · refine ⟨_, _, _, rfl, fun d o n1 n2 h => by rw [upd_ne n2]; exact k4 d o n1 n2 h, by rw [upd_ne nSB, nxI]; exact kS4, by rw [upd_same, nxO, List.map_append]; rfl⟩
    rw [decide_eq_false m1]
    refine iteF ?_
    refine ⟨_, rfl, _, rfl, tl, _, rfl, .inr w5, rfl, flat_ints us, _, rfl, ?_⟩
    rw [inV_ints]
    rw [vO, decide_eq_false m1, Bool.false_and, if_neg Bool.false_ne_true, List.append_nil] at nxO
    by_cases m2 : z ∈ us
    · rw [decide_eq_true m2]
      rw [vI, decide_eq_false m1, decide_eq_true m2, Bool.not_false, Bool.and_true, if_pos rfl] at nxI
      refine iteT ⟨_, rfl, .inl ⟨rfl, _, SqL.of kS4⟩, _, rfl, S, _, _, rfl, rfl, kS4, ?_, ?_⟩
      · rw [List.length_map]
        exact Nat.lt_of_le_of_lt (bnd _ i (by omega)) (by decide)
      · refine ⟨_, _, _, rfl, fun d o n1 n2 h => by rw [upd_ne n1]; exact k4 d o n1 n2 h, by rw [upd_same, nxI, List.map_append]; rfl, by rw [upd_ne nSB.symm, nxO]; exact kB4⟩
    · rw [decide_eq_false m2]
      rw [vI, decide_eq_false m2, Bool.false_and, if_neg Bool.false_ne_true, List.append_nil] at nxI
      exact iteF ⟨_, _, _, rfl, k4, by rw [nxI]; exact kS4, by rw [nxO]; exact kB4⟩
  · rintro σ1 H1 ⟨v5, v6, v7, rfl, k, kS, kB⟩
    rw [List.length_map, lL] at kS kB
    refine ⟨_, rfl, _, rfl, (by show 2 ≤ sizeLine; decide), fun r hr => ?_⟩
    have s5 := same_upd (o := .tup [.ref S, .ref B]) (Same.refl H1) hr
    exact q _ r S B (fun c o h => s5 _ _ (k c o (ne_of_none h hS0) (ne_of_none h hB0) (s03 _ _ h))) upd_same (s5 _ _ kS) (s5 _ _ kB)
abbrev s_placing_of : Stmt := top 36
theorem sc_placing_of : FnScope ["web", "lot", "saves", "backs"] ["web", "lot"] (defScope s_placing_of) := ⟨rfl, rfl, rfl, by decide +kernel, rfl, by decide +kernel, by decide +kernel⟩
theorem ok_placing_of {fd : FuncData} (F : FunD K "placing_of" "placing_of" (defArgs s_placing_of) (defBody s_placing_of) (defScope s_placing_of) [] [] (He.ga K "placing_of") fd) (T : TxW K mg) (Z : TxC K mg) (d_marked_gates : Okd P w K mg base (L2.CX P w) 4 (He.ga K "marked_gates") ["web", "lot"] (spMarked K)) (d_init : Okd P w K mg base (L2.CX P w) 3 (He.ma K (He.ga K "Placing") "__init__") ["self", "saves", "backs"] (spPlInit K)) : FnOk P w K mg base (L2.CX P w) 5 (He.ga K "placing_of") fd ["web", "lot"] (spPlacingOf K) := by
  obtain ⟨fd_marked_gates, G_marked_gates, b_marked_gates⟩ := d_marked_gates
  obtain ⟨fd_init, G_init, b_init⟩ := d_init
  refine F.ok sc_placing_of (fun vs H Q E h => by obtain ⟨a, b, n, e, es, ys, us, rfl, _⟩ := h; rfl) (fun cdv A outer s H vs Q E hr h => ?_)
  obtain ⟨a, b, n, e, es, ys, us, rfl, hA, hL, few, r1, r2⟩ := h
  refine ⟨_,  (pss_cons (ps_asg (pe_call G_marked_gates (hr.mono (by decide)) (by rfl) T.g_marked_gates T.k_marked_gates b_marked_gates .nil (passes_call (takes_of rfl rfl rfl rfl) (fun _ _ _ _ h => h)) (pa_cons (pv 0) (pa_cons (pv 1) pa_nil))) (pg_tup rfl (pgs_cons (pg_name (i := 2) sc_placing_of.nd rfl (Or.inl rfl)) (pgs_cons (pg_name (i := 3) sc_placing_of.nd rfl (Or.inl rfl)) pgs_nil))))
    (pss_one (ps_ret (pe_make Z.mk_Placing G_init (hr.mono (by decide)) (by rfl) Z.g_Placing b_init .nil passF (pa_cons (pv 2) (pa_cons (pv 3) pa_nil)))))), ?_⟩
  refine ⟨_, rfl, _, rfl, a, b, n, e, es, ys, us, rfl, hA, hL, r1, fun lt H1 t S B s1 ht hS hB => ⟨t, _, rfl, SqT.of ht, rfl, _, _, rfl, _, _, rfl, rfl, ?_⟩⟩
  have l1 := gatesF_len (inP us) (allG es e ys)
  have l2 := gatesF_len (outP us) (allG es e ys)
  rw [allG_len] at l1 l2
  have nn : negs (gatesF (inP us) (allG es e ys) ++ gatesF (outP us) (allG es e ys)) = [] := negs_nil fun v hv => (List.mem_append.mp hv).elim (gatesF_pos v) (gatesF_pos v)
  have nb : bothF (gatesF (inP us) (allG es e ys)) (gatesF (outP us) (allG es e ys)) = [] := filter_none fun v hv => decide_eq_false (inout ((setF_mem _ v).mp hv))
  refine ⟨_, rfl, _, rfl, fun x dx hx hdx ne => ?_⟩
  refine make_pl hx hdx (.inl hS) (.inl hB) (by omega) (by omega) (fun z r e => by rw [nn] at e; cases e) (fun z r _ e => by rw [nb] at e; cases e) fun _ _ H2 s2 W => ⟨rfl, ?_⟩
  rw [setF_asc (gatesF_up _ _), setF_asc (gatesF_up _ _)] at W
  exact r2 lt H2 x (s1.trans s2) W (s1.free hx)
end
section
variable {P : Program} {w : World} {K : PySem.W.Frag} {mg : Str → Option Value} {base : Heap}

/-! ### numbers moved -/
def movedF (us sp : List Int) : List Int := ((List.range sp.length).filter fun k => decide (sp.getD k 0 ∈ us)).map Int.ofNat
def movedN (us sp : List Int) (n : Nat) : List Int := ((List.range n).filter fun k => decide (sp.getD k 0 ∈ us)).map Int.ofNat
theorem movedN_next (us sp : List Int) (n : Nat) : movedN us sp (n + 1) = movedN us sp n ++ if sp.getD n 0 ∈ us then [(n : Int)] else [] := by
  unfold movedN
  rw [List.range_succ, List.filter_append, List.map_append]
  congr 1
  by_cases h : sp.getD n 0 ∈ us
  · rw [if_pos h, List.filter_cons_of_pos (by exact decide_eq_true h)]
    rfl
  · rw [if_neg h, List.filter_cons_of_neg (by exact fun z => h (of_decide_eq_true z))]
    rfl
theorem movedN_len (us sp : List Int) (n : Nat) : (movedN us sp n).length ≤ n := by
  unfold movedN
  rw [List.length_map]
  have := List.length_filter_le (fun k => decide (sp.getD k 0 ∈ us)) (List.range n)
  rw [List.length_range] at this
  exact this
theorem gates_moved {f f' : Edge → Bool} {G G' : List Edge} {sp : List Int} (l : sp.length = G'.length) (h : ∀ (k : Nat) (q' : Edge), G'[k]? = some q' → ∃ (j : Nat) (q : Edge), sp[k]? = some (j : Int) ∧ G[j]? = some q ∧ f' q' = f q) : gatesF f' G' = movedF (gatesF f G) sp := by
  unfold gatesF movedF
  rw [l]
  congr 1
  apply List.filter_congr
  intro k hk
  have lt := List.mem_range.mp hk
  have e : G'[k]? = some G'[k] := List.getElem?_eq_getElem lt
  obtain ⟨j, q, h1, h2, h3⟩ := h k _ e
  rw [e]
  show f' G'[k] = _
  rw [h3, List.getD_eq_getElem?_getD, h1]
  show f q = decide ((j : Int) ∈ gatesF f G)
  rw [Bool.eq_iff_iff, decide_eq_true_iff, gatesF_mem]
  constructor
  · exact fun y => ⟨j, q, rfl, h2, y⟩
  · rintro ⟨j', q', e', h2', y⟩
    have : j = j' := by omega
    rw [this, h2'] at h2
    exact Option.some.inj h2 ▸ y
theorem Good.turn {n e x : Int} {es : List Edge} (g : Good n es e [x]) : Good n (turned es) x [e] where
  n1 := g.n1
  n2 := g.n2
  few := by unfold turned; rw [List.length_map]; exact g.few
  rng := fun p hp => by
    obtain ⟨q, hq, rfl⟩ := List.mem_map.mp hp
    obtain ⟨a, b, c, d⟩ := g.rng q hq
    exact ⟨c, d, a, b⟩
  nd := nd_map (fun a b h => by
    have h1 := congrArg Prod.fst h
    have h2 := congrArg Prod.snd h
    exact Prod.ext h2 h1) g.nd
  e0 := (g.xr x List.mem_cons_self).1
  e1 := (g.xr x List.mem_cons_self).2
  x0 := by simp
  xr := fun v hv => by rw [List.mem_singleton.mp hv]; exact ⟨g.e0, g.e1⟩
  xf := by rw [List.length_singleton]; decide
  fwd := fun v h0 h1 => by
    obtain ⟨y, hy, r⟩ := g.bwd v h0 h1
    rw [List.mem_singleton.mp hy] at r
    exact r.back
  bwd := fun v h0 h1 => ⟨e, List.mem_cons_self, (g.fwd v h0 h1).back⟩
theorem turned_at {es : List Edge} {k : Nat} {q' : Edge} (h : (turned es)[k]? = some q') : es[k]? = some (q'.2, q'.1) := by
  unfold turned at h
  rw [List.getElem?_map] at h
  cases e : es[k]? with
  | none => rw [e] at h; cases h
  | some q => rw [e] at h; cases h; rfl
theorem allG_lt {es : List Edge} {e : Int} {ys : List Int} {k : Nat} (h : k < es.length) : (allG es e ys)[k]? = es[k]? := by unfold allG; rw [List.getElem?_append_left h]
theorem allG_in {es : List Edge} {e x : Int} : (allG es e [x])[es.length]? = some (-1, e) := by unfold allG; rw [List.getElem?_append_right (Nat.le_refl _), Nat.sub_self]; rfl
theorem allG_out {es : List Edge} {e x : Int} : (allG es e [x])[es.length + 1]? = some (x, -1) := by unfold allG; rw [List.getElem?_append_right (by omega), show es.length + 1 - es.length = 1 by omega]; rfl
theorem allG_cases {es : List Edge} {e x : Int} {k : Nat} {q : Edge} (h : (allG es e [x])[k]? = some q) : (k < es.length ∧ es[k]? = some q) ∨ (k = es.length ∧ q = (-1, e)) ∨ (k = es.length + 1 ∧ q = (x, -1)) := by
  by_cases c : k < es.length
  · rw [allG_lt c] at h
    exact .inl ⟨c, h⟩
  by_cases c2 : k = es.length
  · rw [c2, allG_in] at h
    exact .inr (.inl ⟨c2, (Option.some.inj h).symm⟩)
  by_cases c3 : k = es.length + 1
  · rw [c3, allG_out] at h
    exact .inr (.inr ⟨c3, (Option.some.inj h).symm⟩)
  · have := (List.getElem?_eq_some_iff.mp h).1
    unfold allG at this
    rw [List.length_append] at this
    simp at this
    omega
/-- the turned web's gates -/
def spotsT (m : Nat) : List Int := idO m ++ [(m : Int) + 1, (m : Int)]
theorem spotsT_len (m : Nat) : (spotsT m).length = m + 2 := by
  unfold spotsT
  rw [List.length_append, (idO_ord m).len]
  rfl
theorem turned_len (es : List Edge) : (turned es).length = es.length := by unfold turned; rw [List.length_map]
theorem spotsT_at {m k : Nat} : (k < m → (spotsT m)[k]? = some (k : Int)) ∧ (spotsT m)[m]? = some ((m + 1 : Nat) : Int) ∧ (spotsT m)[m + 1]? = some (m : Int) := by
  have l := (idO_ord m).len
  refine ⟨fun h => ?_, ?_, ?_⟩
  · unfold spotsT
    rw [List.getElem?_append_left (by omega)]
    exact idO_at h
  · unfold spotsT
    rw [List.getElem?_append_right (by omega), l, Nat.sub_self]
    show some ((m : Int) + 1) = _
    congr 1
  · unfold spotsT
    rw [List.getElem?_append_right (by omega), l, show m + 1 - m = 1 by omega]
    rfl
theorem turned_in {es : List Edge} {e x : Int} {us : List Int} (no : (-1 : Int) ∉ us) : gatesF (inP us) (allG (turned es) x [e]) = movedF (gatesF (outP us) (allG es e [x])) (spotsT es.length) := by
  refine gates_moved (by rw [spotsT_len]; unfold allG; simp [turned_len]) fun k q' h => ?_
  rcases allG_cases h with ⟨c, h⟩ | ⟨c, rfl⟩ | ⟨c, rfl⟩
  · rw [turned_len] at c
    exact ⟨k, (q'.2, q'.1), spotsT_at.1 c, by rw [allG_lt c]; exact turned_at h, rfl⟩
  · rw [turned_len] at c
    subst c
    exact ⟨es.length + 1, (x, -1), (spotsT_at (k := 0)).2.1, allG_out, rfl⟩
  · rw [turned_len] at c
    subst c
    refine ⟨es.length, (-1, e), (spotsT_at (k := 0)).2.2, allG_in, ?_⟩
    unfold inP outP
    rw [decide_eq_false no]
    first | done | rfl
theorem turned_out {es : List Edge} {e x : Int} {us : List Int} (no : (-1 : Int) ∉ us) : gatesF (outP us) (allG (turned es) x [e]) = movedF (gatesF (inP us) (allG es e [x])) (spotsT es.length) := by
  refine gates_moved (by rw [spotsT_len]; unfold allG; simp [turned_len]) fun k q' h => ?_
  rcases allG_cases h with ⟨c, h⟩ | ⟨c, rfl⟩ | ⟨c, rfl⟩
  · rw [turned_len] at c
    exact ⟨k, (q'.2, q'.1), spotsT_at.1 c, by rw [allG_lt c]; exact turned_at h, rfl⟩
  · rw [turned_len] at c
    subst c
    refine ⟨es.length + 1, (x, -1), (spotsT_at (k := 0)).2.1, allG_out, ?_⟩
    unfold inP outP
    rw [decide_eq_false no]
    first | done | rfl
  · rw [turned_len] at c
    subst c
    exact ⟨es.length, (-1, e), (spotsT_at (k := 0)).2.2, allG_in, rfl⟩
/-! ### ways turned about -/
theorem last_of_rev {q x : Int} {l r : List Int} (h : x :: r = (q :: l).reverse) : lastP x r = q := by
  have e : (x :: r).getLast? = some q := by
    rw [h, List.getLast?_reverse]
    rfl
  rw [List.getLast?_cons] at e
  exact Option.some.inj e
theorem walk_turned {es : List Edge} : ∀ (ws : List Int) (p : Int) (l : List Int), walkW es p ws = (l, true) → ∃ r, walkW (turned es) (lastP p l) ws.reverse = (r, true) ∧ lastP p l :: r = (p :: l).reverse
  | [], p, l, h => by
    have e : l = [] := (congrArg Prod.fst h).symm
    subst e
    exact ⟨[], rfl, rfl⟩
  | g :: ws, p, l, h => by
    have h' : (match nextP es p g with
      | none => ([], false)
      | some q => (q :: (walkW es q ws).1, (walkW es q ws).2)) = (l, true) := h
    cases e : nextP es p g with
    | none => rw [e] at h'; cases h'
    | some q =>
      rw [e] at h'
      have h1 : q :: (walkW es q ws).1 = l := congrArg Prod.fst h'
      have h2 : (walkW es q ws).2 = true := congrArg Prod.snd h'
      obtain ⟨r, w1, w2⟩ := walk_turned ws q (walkW es q ws).1 (by rw [← h2])
      rw [← h1, lastP_cons]
      have step : nextP (turned es) q g = some p := by
        unfold nextP at e ⊢
        by_cases g0 : 0 ≤ g
        · rw [if_pos g0] at e ⊢
          cases eq : es[g.toNat]? with
          | none => rw [eq] at e; cases e
          | some z =>
            rw [eq] at e
            have e : (if z.1 = p then some z.2 else none) = some q := e
            have et : (turned es)[g.toNat]? = some (z.2, z.1) := by
              unfold turned
              rw [List.getElem?_map, eq]
              rfl
            rw [et]
            by_cases c : z.1 = p
            · rw [if_pos c] at e
              show (if z.2 = q then some z.1 else none) = some p
              rw [if_pos (Option.some.inj e), c]
            · rw [if_neg c] at e
              cases e
        · rw [if_neg g0] at e
          cases e
      have z := walk_snoc g w1
      rw [last_of_rev w2, step] at z
      refine ⟨r ++ [p], ?_, ?_⟩
      · rw [List.reverse_cons]
        exact z
      · rw [← List.cons_append, w2, List.reverse_cons, List.reverse_cons, List.reverse_cons]
theorem rgV_id {n : Nat} {m : Int} (h : (n : Int) = m) : rgV 0 m = (idO n).map V.int := by
  subst h
  unfold rgV idO
  rw [List.map_map, show (((n : Int) - 0).toNat) = n by omega]
  refine List.map_congr_left fun i _ => ?_
  show V.int (0 + (i : Int)) = V.int (i : Int)
  rw [Int.zero_add]
theorem okV_int : ∀ us : List Int, (us.map V.int).all okV = true := fun us => by
  rw [List.all_eq_true]
  intro v hv
  obtain ⟨z, _, rfl⟩ := List.mem_map.mp hv
  rfl
theorem eq_only {ys : List Int} {x : Int} (up : ys.Pairwise (· < ·)) (mem : ∀ v, v ∈ ys ↔ v ∈ [x]) : ys = [x] := up_eq up (List.pairwise_singleton ..) mem
def spMoved (K : PySem.W.Frag) : Sp := fun vs H Q _ => ∃ (ga sp : Addr) (us xs : List Int), vs = [.ref ga, .ref sp] ∧ SqT K H ga (us.map V.int) ∧ H sp = some (.lst (xs.map V.int)) ∧ xs.length ≤ 1000 ∧ ∀ (H' : Hp) (t : Addr), Same H H' → SqT K H' t ((movedF us xs).map V.int) → Q (.ref t) H'
def spTurnedF (K : PySem.W.Frag) : Sp := fun vs H Q _ => ∃ (t wa l wy : Addr) (n e x : Int) (L : List (Addr × Edge)) (us ws lw : List Int) (pa ga : Addr), vs = [.ref t, .ref wa, .ref l, .ref wy] ∧ Told H t n L e [x] pa ga ∧ Good n (pairs L) e [x] ∧ L.length ≤ 40 ∧ WebAt K H wa n (pairs L) e [x] ∧ H l = some (.lst (us.map V.int)) ∧
  us.length ≤ 24 ∧ (∀ v ∈ us, 0 ≤ v ∧ v < n) ∧ H wy = some (.lst (ws.map V.int)) ∧ ws.length ≤ 100 ∧ walkW (pairs L) e ws = (lw, true) ∧ lastP e lw = x ∧ ∀ H', Same H H' → Q (.bl true) H'
abbrev s_moved : Stmt := top 47
theorem sc_moved : FnScope ["_law_gates", "_law_spots", "_law_gate"] ["_law_gates", "_law_spots"] (defScope s_moved) := ⟨rfl, rfl, rfl, by decide +kernel, rfl, by decide +kernel, by decide +kernel⟩
theorem ok_moved {fd : FuncData} (F : FunD K "_law_moved" "_law_moved" (defArgs s_moved) (defBody s_moved) (defScope s_moved) [] [] (He.ga K "_law_moved") fd) (T : TxW K mg) : FnOk P w K mg base CX0 1 (He.ga K "_law_moved") fd ["_law_gates", "_law_spots"] (spMoved K) := by
  refine F.ok sc_moved (fun vs H Q E h => by obtain ⟨ga, sp, us, xs, rfl, _⟩ := h; rfl) (fun cdv A outer s H vs Q E hr h => ?_)
  obtain ⟨ga, sp, us, xs, rfl, hga, hsp, lx, q⟩ := h
  refine ⟨_, PSs.nox (pss_one (ps_ret (pe_callTy call_tuple_of (by rfl) T.n_tuple (by decide +kernel) (pa_cons (pe_lc (own := [("_law_gate", 2)]) (g := gName 2)  rfl sc_moved.nd (pi_range1 rfl T.n_range (pa_cons (pe_callB call_len_seq (by rfl) T.n_len PySem.boot_len (pa_cons (pv 1) pa_nil)) pa_nil)) (blkOk_by (own := [("_law_gate", 2)]) (N := ["_law_gates", "_law_spots", "_law_gate"]) (sc := defScope s_moved) (by decide +kernel)) (fun _ _ _ _ _ => (pg_name (i := 2) sc_moved.nd rfl (Or.inl rfl))) (fun _ _ _ _ _ => (pts_one (pt_cmpR (r := rIn K false) op_in_seq (pe_ix (r := rIxL K) ix_list (pv 1) (pv 2) (fun _ _ => rfl)) (pv 0) (by first | exact nomark _ | rfl)))) (fun _ _ _ _ _ => (pv 2))) pa_nil)))), ?_⟩
  refine ⟨_, rfl, sp, _, rfl, .inl (SqL.of hsp), ?_⟩
  rw [List.length_map]
  refine ⟨xs.length, rfl, by omega, by omega, fun D hD => lc_range (lo := 0) (n := xs.length) (fun j H' => Same H H' ∧ H' D = some (.lst ((movedN us xs j).map V.int))) ⟨same_upd (Same.refl H) hD, upd_same⟩ ?_ ?_⟩
  · rintro j H1 hj ⟨s1, hD1⟩
    have ex : xs[j]? = some xs[j] := List.getElem?_eq_getElem hj
    have ax : atI (xs.map V.int) (0 + (j : Int)) = some (.int xs[j]) := by
      rw [show (0 + (j : Int)) = ((j : Nat) : Int) by omega]
      exact atI_nat (by rw [List.getElem?_map, ex]; rfl)
    have gx : xs.getD j 0 = xs[j] := by rw [List.getD_eq_getElem?_getD, ex]; rfl
    have nx := movedN_next us xs j
    rw [gx] at nx
    revert ax nx
    generalize xs[j] = z
    intro ax nx
    refine ⟨rfl, _, rfl, _, rfl, sp, _, _, _, rfl, rfl, SqL.of (s1 _ _ hsp), ax, _, rfl, ga, _, rfl, .inr (hga.ext s1), rfl, flat_ints us, _, rfl, ?_⟩
    rw [inV_ints]
    refine iteB (fun y => ⟨_, rfl, _, hD1, ?_, fun b o h => ?_, ?_⟩) (fun y => ⟨s1, ?_⟩)
    · rw [List.length_map]
      exact Nat.lt_of_le_of_lt (show _ ≤ 1000 by have := movedN_len us xs j; omega) (by decide)
    · rw [upd_ne (ne_of_none h hD)]
      exact s1 b o h
    · rw [upd_same, nx, if_pos (of_decide_eq_true y), List.map_append, show (0 + (j : Int)) = (j : Int) by omega]
      rfl
    · rw [hD1, nx, if_neg (of_decide_eq_false y), List.append_nil]
  rintro H1 ⟨s1, hD1⟩
  exact ⟨D, _, rfl, .inl ⟨SqL.of hD1, fun c hc => q _ c (s1.trans (same_upd (Same.refl H1) hc)) (SqT.of upd_same)⟩⟩
abbrev s_turned_fits : Stmt := top 48
theorem sc_turned_fits : FnScope ["_law_told", "_law_web_here", "_law_inside", "_law_way_here", "_law_count", "_law_pairs", "_law_origin", "_law_goals", "_law_other", "_law_many", "_law_spots", "_law_mine", "_law_theirs", "_law_one", "_law_two"] ["_law_told", "_law_web_here", "_law_inside", "_law_way_here"] (defScope s_turned_fits) := ⟨rfl, rfl, rfl, by decide +kernel, rfl, by decide +kernel, by decide +kernel⟩
theorem ok_turned_fits {fd : FuncData} (F : FunD K "_law_turned_fits" "_law_turned_fits" (defArgs s_turned_fits) (defBody s_turned_fits) (defScope s_turned_fits) [] [] (He.ga K "_law_turned_fits") fd) (T : TxW K mg) (Z : TxC K mg) (d_init : Okd P w K mg base CX0 5 (He.ma K (He.ga K "Web") "__init__") ["self", "places", "edges", "entry", "exits"] (spWebInit K)) (d_moved : Okd P w K mg base CX0 1 (He.ga K "_law_moved") ["_law_gates", "_law_spots"] (spMoved K)) (d_placing_of : Okd P w K mg base (L2.CX P w) 5 (He.ga K "placing_of") ["web", "lot"] (spPlacingOf K)) (d_loi : Okd P w K mg base (L2.CX P w) 3 (He.ma K (He.ga K "Lot") "__init__") ["self", "places"] (spLotInit K)) (d_places_of : Okd P w K mg base (L2.CX P w) 3 (He.ga K "places_of") ["web", "way"] (spPlacesOf K)) : FnOk P w K mg base CX0 7 (He.ga K "_law_turned_fits") fd ["_law_told", "_law_web_here", "_law_inside", "_law_way_here"] (spTurnedF K) := by
  obtain ⟨fd_init, G_init, b_init⟩ := d_init
  obtain ⟨fd_moved, G_moved, b_moved⟩ := d_moved
  obtain ⟨fd_placing_of, G_placing_of, b_placing_of⟩ := d_placing_of
  obtain ⟨fd_loi, G_loi, b_loi⟩ := d_loi
  obtain ⟨fd_places_of, G_places_of, b_places_of⟩ := d_places_of
  refine F.ok sc_turned_fits (fun vs H Q E h => by obtain ⟨t, wa, l, wy, n, e, x, L, us, ws, lw, pa, ga, rfl, _⟩ := h; rfl) (fun cdv A outer s H vs Q E hr h => ?_)
  obtain ⟨t, wa, l, wy, n, e, x, L, us, ws, lw, pa, ga, rfl, hT, good, few, hW, hl, lu, rU, hwy, lw', hwk, hlast, q⟩ := h
  refine ⟨_, PSs.nox (pss_cons (ps_asg (pv 0) (pg_tup rfl (pgs_cons (pg_name (i := 4) sc_turned_fits.nd rfl (Or.inl rfl)) (pgs_cons (pg_name (i := 5) sc_turned_fits.nd rfl (Or.inl rfl)) (pgs_cons (pg_name (i := 6) sc_turned_fits.nd rfl (Or.inl rfl)) (pgs_cons (pg_name (i := 7) sc_turned_fits.nd rfl (Or.inl rfl)) pgs_nil))))))
    (pss_cons (ps_set (i := 8) sc_turned_fits.nd rfl (Or.inl rfl) (pe_make T.mk_Web G_init (hr.mono (by decide)) (by rfl) T.g_Web b_init .nil pass0 (pa_cons (pv 4) (pa_cons (pe_lc (own := [("_law_one", 13), ("_law_two", 14)]) (g := gSeq K 2 (gCons (gName 13) (gCons (gName 14) gNil))) (tt := tYes) rfl sc_turned_fits.nd (pi_list (pv 5)) (blkOk_by (own := [("_law_one", 13), ("_law_two", 14)]) (N := ["_law_told", "_law_web_here", "_law_inside", "_law_way_here", "_law_count", "_law_pairs", "_law_origin", "_law_goals", "_law_other", "_law_many", "_law_spots", "_law_mine", "_law_theirs", "_law_one", "_law_two"]) (sc := defScope s_turned_fits) (by decide +kernel)) (fun _ _ _ _ _ => (pg_seq rfl (pgs_cons (pg_name (i := 13) sc_turned_fits.nd rfl (Or.inl rfl)) (pgs_cons (pg_name (i := 14) sc_turned_fits.nd rfl (Or.inl rfl)) pgs_nil)))) (fun _ _ _ _ _ => pts_nil) (fun _ _ _ _ _ => (pe_tup (pa_cons (pv 14) (pa_cons (pv 13) pa_nil))))) (pa_cons (pe_ix ix_list (pv 7) pe_int (fun _ _ => rfl)) (pa_cons (pe_lst (pa_cons (pv 6) pa_nil)) pa_nil))))))
    (pss_cons (ps_set (i := 9) sc_turned_fits.nd rfl (Or.inl rfl) (pe_callB call_len_seq (by rfl) T.n_len PySem.boot_len (pa_cons (pv 5) pa_nil)))
    (pss_cons (ps_set (i := 10) sc_turned_fits.nd rfl (Or.inl rfl) (pe_op op_cat (pe_listRg rfl rfl T.n_list (prg_1 rfl T.n_range (pv 9))) (pe_lst (pa_cons (pe_op op_add (pv 9) pe_int) (pa_cons (pv 9) pa_nil)))))
    (pss_cons (ps_set (i := 11) sc_turned_fits.nd rfl (Or.inl rfl) (pe_call G_placing_of (hr.mono (by decide)) (by rfl) T.g_placing_of T.k_placing_of b_placing_of .nil passF (pa_cons (pv 1) (pa_cons (pe_make Z.mk_Lot G_loi (hr.mono (by decide)) (by rfl) Z.g_Lot b_loi .nil passF (pa_cons (pv 2) pa_nil)) pa_nil))))
    (pss_cons (ps_set (i := 12) sc_turned_fits.nd rfl (Or.inl rfl) (pe_call G_placing_of (hr.mono (by decide)) (by rfl) T.g_placing_of T.k_placing_of b_placing_of .nil passF (pa_cons (pv 8) (pa_cons (pe_make Z.mk_Lot G_loi (hr.mono (by decide)) (by rfl) Z.g_Lot b_loi .nil passF (pa_cons (pv 2) pa_nil)) pa_nil))))
    (pss_cons (ps_if (PW.pt (pw_or (pt_cmpR (op_neD hr.units) (pe_fld (pv 12) rfl) (pe_call G_moved (hr.mono (by decide)) (by rfl) T.g__law_moved T.k__law_moved b_moved .nil pass0 (pa_cons (pe_fld (pv 11) rfl) (pa_cons (pv 10) pa_nil))) (nomark _)) (pw_or1 (pt_cmpR (op_neD hr.units) (pe_fld (pv 12) rfl) (pe_call G_moved (hr.mono (by decide)) (by rfl) T.g__law_moved T.k__law_moved b_moved .nil pass0 (pa_cons (pe_fld (pv 11) rfl) (pa_cons (pv 10) pa_nil))) (nomark _))))) (pss_one (ps_ret pe_bl)) pss_nil)
    (pss_one (ps_ret (pe_cmpR (op_eqD hr.units) (pe_call G_places_of (hr.mono (by decide)) (by rfl) T.g_places_of T.k_places_of b_places_of .nil passF (pa_cons (pv 8) (pa_cons (pe_sliceRev (pv 3) (po_some (pe_un un_neg pe_int))) pa_nil))) (pe_sliceRevT (pe_call G_places_of (hr.mono (by decide)) (by rfl) T.g_places_of T.k_places_of b_places_of .nil passF (pa_cons (pv 1) (pa_cons (pv 3) pa_nil))) (po_some (pe_un un_neg pe_int))) (nomark _))))))))))), ?_⟩
  have lp : (pairs L).length = L.length := List.length_map ..
  have small : (pairs L).length + 1 + [x].length < 60 := by rw [lp]; show L.length + 1 + 1 < 60; omega
  have g0 := good.n1
  have g1 := good.n2
  have posU : ∀ v ∈ us, 0 ≤ v := fun v hv => (rU v hv).1
  have noU : (-1 : Int) ∉ setF us := fun h => by have := posU _ ((setF_mem us _).mp h); omega
  have far0 : farF n (setF us) = [] := filter_none fun v hv => decide_eq_false (by have := rU v ((setF_mem us v).mp hv); omega)
  refine ⟨_, rfl, t, _, rfl, SqT.of hT.at_, rfl, _, _, rfl, _, _, rfl, _, _, rfl, _, _, rfl, rfl, ?_⟩
  refine ⟨_, rfl, _, rfl, pa, rfl, ⟨_, SqL.of hT.ed.at_⟩, fun D hD => lc_list (K := K) (a := pa) (xs := eR L)
    (fun j H' => ∃ M : List (Addr × Edge), Same H H' ∧ H' D = some (.lst (eR M)) ∧ (∀ p ∈ M, H' p.1 = some (.tup [.int p.2.1, .int p.2.2])) ∧ pairs M = turned ((pairs L).take j))
    ⟨[], same_upd (Same.refl H) hD, upd_same, (fun _ z => nomatch z), rfl⟩ (fun j H' _ h => by obtain ⟨_, s, _⟩ := h; exact SqL.of (s _ _ hT.ed.at_)) ?_ ?_⟩
  · rintro j x H2 hj ⟨M, s2, hM, hMs, eM⟩
    obtain ⟨tq, u, z, rfl, hLi, he, hpi⟩ := edge_at hT.ed.edges hj
    refine ⟨tq, _, rfl, (he.same s2).sq, rfl, _, _, rfl, _, _, rfl, rfl, ?_⟩
    refine ⟨rfl, _, rfl, _, rfl, (by show 2 ≤ sizeLine; decide), fun tp ht => ?_⟩
    have nD : D ≠ tp := ne_of_none hM ht
    have hlM : M.length = ((pairs L).take j).length := by
      have := congrArg List.length eM
      rw [turned_len, List.length_map] at this
      exact this
    have hjl : M.length ≤ 60 := by
      rw [hlM, List.length_take]
      omega
    refine ⟨eR M, by rw [upd_ne nD]; exact hM, ?_, M ++ [(tp, (z, u))], fun b o e => ?_, ?_, fun p hp => ?_, ?_⟩
    · rw [List.length_map]
      exact Nat.lt_of_le_of_lt hjl (by decide)
    · rw [upd_ne (ne_of_none e hD), upd_ne (ne_of_none (s2 b o e) ht)]
      exact s2 b o e
    · rw [upd_same]
      show _ = some (HO.lst (List.map _ (M ++ _)))
      rw [List.map_append]
      rfl
    · rcases List.mem_append.mp hp with hp | hp
      · have h0 := hMs p hp
        rw [upd_ne (ne_of h0 hM (by intro z; cases z)), upd_ne (ne_of_none h0 ht)]
        exact h0
      · rw [List.mem_singleton.mp hp]
        rw [upd_ne nD.symm, upd_same]
    · show List.map _ (M ++ _) = _
      rw [List.map_append, take_next hpi]
      unfold turned at eM ⊢
      rw [List.map_append, ← eM]
      rfl
  rintro H1 ⟨M, s1, hM, hMs, eM⟩
  rw [show (eR L).length = (pairs L).length by rw [lp]; exact List.length_map .., List.take_length] at eM
  refine ⟨_, rfl, ga, _, 0, .int x, rfl, rfl, SqL.of (s1 _ _ hT.go), rfl, _, rfl, (by show 1 ≤ sizeLine; decide), fun xa hxa => ?_⟩
  have s2 := same_upd (o := .lst [.int e]) (Same.refl H1) hxa
  have hx2 : (upd H1 xa (.lst [.int e])) xa = some (.lst (([e] : List Int).map V.int)) := upd_same
  revert s2 hx2
  generalize upd H1 xa (.lst [.int e]) = H2
  intro s2 hx2
  have E2 : EdgesAt H2 D M := ⟨s2 _ _ hM, fun p hp => .inr (s2 _ _ (hMs p hp))⟩
  have goodT : Good n (pairs M) x [e] := by rw [eM]; exact good.turn
  have s12 := s1.trans s2
  refine fun w0 dx hw0 hdx ne => ?_
  refine make_web hw0 hdx ne E2 (.inl hx2) goodT fun H3 ys s3 W3 pw mem => ⟨rfl, ?_⟩
  rw [eq_only pw mem, eM] at W3
  have s13 := s12.trans s3
  -- the spots
  refine ⟨_, rfl, pa, _, rfl, .inl (SqL.of (s13 _ _ hT.ed.at_)), ?_⟩
  rw [show (eR L).length = L.length from List.length_map ..]
  refine ⟨_, rfl, _, rfl, RgOk.of_le (by omega) (by omega) (by omega) (by omega), fun ra hra => ?_⟩
  have s4 := same_upd (o := .lst (rgV 0 (L.length : Int))) (Same.refl H3) hra
  have hr4 : (upd H3 ra (.lst (rgV 0 (L.length : Int)))) ra = some (.lst (rgV 0 (L.length : Int))) := upd_same
  revert s4 hr4
  generalize upd H3 ra (.lst (rgV 0 (L.length : Int))) = H4
  intro s4 hr4
  refine ⟨_, rfl, _, _, rfl, rfl, _, rfl, (by show 2 ≤ sizeLine; decide), fun rb hrb => ?_⟩
  have s5 := same_upd (o := .lst [.int ((L.length : Int) + 1), .int (L.length : Int)]) (Same.refl H4) hrb
  have hrb5 : (upd H4 rb (.lst [.int ((L.length : Int) + 1), .int (L.length : Int)])) rb = some (.lst [.int ((L.length : Int) + 1), .int (L.length : Int)]) := upd_same
  revert s5 hrb5
  generalize upd H4 rb (.lst [.int ((L.length : Int) + 1), .int (L.length : Int)]) = H5
  intro s5 hrb5
  refine ⟨ra, rb, _, _, rfl, rfl, s5 _ _ hr4, hrb5, ?_, fun sp hsp => ?_⟩
  · rw [rgV_length]
    exact Nat.le_trans (show ((L.length : Int) - 0).toNat + 2 ≤ 1000 by omega) (by decide)
  have eS : rgV 0 (L.length : Int) ++ [.int ((L.length : Int) + 1), .int (L.length : Int)] = (spotsT L.length).map V.int := by
    rw [rgV_id rfl]
    unfold spotsT
    rw [List.map_append]
    rfl
  rw [eS]
  have s6 := same_upd (o := .lst ((spotsT L.length).map V.int)) (Same.refl H5) hsp
  have hsp6 : (upd H5 sp (.lst ((spotsT L.length).map V.int))) sp = some (.lst ((spotsT L.length).map V.int)) := upd_same
  have s16 := s13.trans ((s4.trans s5).trans s6)
  have W6 := W3.same ((s4.trans s5).trans s6)
  revert s16 hsp6 W6
  generalize upd H5 sp (.lst ((spotsT L.length).map V.int)) = H6
  intro hsp6 s16 W6
  -- both placings
  refine ⟨_, rfl, _, rfl, fun xm dxm hxm hdxm nem => ?_⟩
  refine make_lot hxm hdxm (.inl (SqL.of (s16 _ _ hl))) (by omega) (fun z r e => by rw [negs_nil posU] at e; cases e) fun _ Hma sma Xm => ⟨rfl, ?_⟩
  refine ⟨wa, xm, n, e, (pairs L), [x], setF us, rfl, (hW.same s16).same sma, Xm, small, fun z r eF => (by rw [far0] at eF; cases eF), fun _ Hm ym smb PLm hym => ?_⟩
  have sm := sma.trans smb
  have s1m := s16.trans sm
  refine ⟨_, rfl, _, rfl, fun xo dxo hxo hdxo neo => ?_⟩
  refine make_lot hxo hdxo (.inl (SqL.of (s1m _ _ hl))) (by omega) (fun z r e => by rw [negs_nil posU] at e; cases e) fun _ Hoa soa Xo => ⟨rfl, ?_⟩
  refine ⟨w0, xo, n, x, (turned (pairs L)), [e], setF us, rfl, (W6.same sm).same soa, Xo, (by rw [turned_len]; exact small), fun z r eF => (by rw [far0] at eF; cases eF), fun _ Ho yo sob PLo hyo => ?_⟩
  have so := soa.trans sob
  have s1o := s1m.trans so
  have hsp7 := so _ _ (sm _ _ hsp6)
  have PLm' := PLm.same so
  have W7 := W6.same (sm.trans so)
  obtain ⟨dm, m1, m2, hm1, hm2, hm3⟩ := PLm'.at_
  obtain ⟨d2, o1, o2, ho1, ho2, ho3⟩ := PLo.at_
  have e1 := turned_in (es := pairs L) (e := e) (x := x) noU
  have e2 := turned_out (es := pairs L) (e := e) (x := x) noU
  rw [lp] at e1 e2
  rw [e1] at ho2
  rw [e2] at ho3
  refine ⟨_, rfl, yo, _, d2, _, _, rfl, ho1, Z.cl_Placing, Z.na_Placing_saves, rfl, _, rfl, ym, _, dm, _, _, rfl, hm1, Z.cl_Placing, Z.na_Placing_backs, rfl, _, rfl, m2, sp, _, spotsT L.length, rfl, hm3, hsp7, (by rw [spotsT_len]; omega), fun H8 t8 s8 h8 => ?_⟩
  refine ⟨_, _, .tup (ho2.ext s8) (dp_all (okV_int _)), .tup h8 (dp_all (okV_int _)), shaped_tup (okV_int _), shaped_tup (okV_int _), _, rfl, ?_⟩
  rw [eqv_self (shaped_tup (okV_int _))]
  refine iteF ?_
  refine ⟨_, rfl, yo, _, d2, _, _, rfl, s8 _ _ ho1, Z.cl_Placing, Z.na_Placing_backs, rfl, _, rfl, ym, _, dm, _, _, rfl, s8 _ _ hm1, Z.cl_Placing, Z.na_Placing_saves, rfl, _, rfl, m1, sp, _, spotsT L.length, rfl, hm2.ext s8, s8 _ _ hsp7, (by rw [spotsT_len]; omega), fun H9 t9 s9 h9 => ?_⟩
  refine ⟨_, _, .tup ((ho3.ext s8).ext s9) (dp_all (okV_int _)), .tup h9 (dp_all (okV_int _)), shaped_tup (okV_int _), shaped_tup (okV_int _), _, rfl, ?_⟩
  rw [eqv_self (shaped_tup (okV_int _))]
  refine iteF ?_
  have s89 := s8.trans s9
  have s19 := s1o.trans s89
  -- both ways
  obtain ⟨r, w1, w2⟩ := walk_turned ws e lw hwk
  rw [hlast] at w1 w2
  refine ⟨_, rfl, _, rfl, _, rfl, _, rfl, wy, _, rfl, rfl, SqL.of (s19 _ _ hwy), fun wr hwr => ?_⟩
  rw [← List.map_reverse]
  have s10 := same_upd (o := .lst (ws.reverse.map V.int)) (Same.refl H9) hwr
  have hwr10 : (upd H9 wr (.lst (ws.reverse.map V.int))) wr = some (.lst (ws.reverse.map V.int)) := upd_same
  revert s10 hwr10
  generalize upd H9 wr (.lst (ws.reverse.map V.int)) = H10
  intro s10 hwr10
  have W10 := W7.same (s89.trans s10)
  refine ⟨w0, wr, n, x, turned (pairs L), [e], ws.reverse, rfl, W10, .inl hwr10, by rw [List.length_reverse]; omega, fun l' H11 t11 wl s11 ht11 => ?_, fun l' H11 d wl _ _ => by rw [w1] at wl; cases wl⟩
  rw [w1] at wl
  obtain rfl : r = l' := congrArg Prod.fst wl
  have s1b := (s19.trans s10).trans s11
  refine ⟨_, rfl, _, rfl, wa, wy, n, e, pairs L, [x], ws, rfl, hW.same s1b, .inl (s1b _ _ hwy), by omega, fun l' H12 t12 wl s12 ht12 => ?_, fun l' H12 d wl _ _ => by rw [hwk] at wl; cases wl⟩
  rw [hwk] at wl
  obtain rfl : lw = l' := congrArg Prod.fst wl
  refine ⟨_, rfl, _, rfl, t12, _, rfl, rfl, SqT.of ht12, fun tr htr => ?_⟩
  have s13' := same_upd (o := .tup (((e :: lw).map V.int).reverse)) (Same.refl H12) htr
  refine ⟨_, _, .tup (SqT.of (s13' _ _ (s12 _ _ ht11))) (dp_all (okV_int _)), .tup (xs := (x :: r).map V.int) (SqT.of ?_) (dp_all (okV_int _)), shaped_tup (okV_int _), shaped_tup (okV_int _), ?_⟩
  · rw [upd_same, w2, List.map_reverse]
  rw [eqv_self (shaped_tup (okV_int _))]
  exact q _ ((s1b.trans s12).trans s13')
end
section
variable {P : Program} {w : World} {K : PySem.W.Frag} {mg : Str → Option Value} {base : Heap}
theorem WebAt.but {K : PySem.W.Frag} {H H' : Hp} {p wa : Addr} {b : Nat} {n : Int} {es : List Edge} {e : Int} {ys : List Int} (h : WebAt K H wa n es e ys) (P : PoolAt K H p b) (s : But1 p H H') : WebAt K H' wa n es e ys := by
  obtain ⟨xs, hp⟩ := P.lst
  obtain ⟨dx, te, tx, M, ot, h1, h2, h3, h4, h5, h6⟩ := h.at_
  exact ⟨h.few, dx, te, tx, M, ot, s _ _ (ne_of h1 hp (by intro z; cases z)) h1, s _ _ (ne_of h2 hp (by intro z; cases z)) h2, fun q hq => s _ _ (ne_of (h3 q hq) hp (by intro z; cases z)) (h3 q hq), h4, s _ _ (ne_of h5 hp (by intro z; cases z)) h5, h6⟩

theorem walk_rng' {n : Int} {es : List Edge} (rng : ∀ p ∈ es, 0 ≤ p.1 ∧ p.1 < n ∧ 0 ≤ p.2 ∧ p.2 < n) : ∀ (ws : List Int) {p : Int}, ∀ v ∈ (walkW es p ws).1, 0 ≤ v ∧ v < n
  | [], _, v, h => nomatch h
  | g :: r, p, v, h => by
    have h : v ∈ (match nextP es p g with
      | none => (([], false) : List Int × Bool)
      | some q => (q :: (walkW es q r).1, (walkW es q r).2)).1 := h
    cases e : nextP es p g with
    | none => rw [e] at h; cases h
    | some q =>
      rw [e] at h
      rcases List.mem_cons.mp h with rfl | h
      · unfold nextP at e
        by_cases g0 : 0 ≤ g
        · rw [if_pos g0] at e
          cases eq : es[g.toNat]? with
          | none => rw [eq] at e; cases e
          | some z =>
            rw [eq] at e
            have e : (if z.1 = p then some z.2 else none) = some v := e
            by_cases c : z.1 = p
            · rw [if_pos c] at e
              have := rng z (List.mem_of_getElem? eq)
              rw [← Option.some.inj e]
              exact ⟨this.2.2.1, this.2.2.2⟩
            · rw [if_neg c] at e
              cases e
        · rw [if_neg g0] at e
          cases e
      · exact walk_rng' rng r v h
theorem walk_rng {n e : Int} {es : List Edge} {xs ws lw : List Int} (g : Good n es e xs) (h : walkW es e ws = (lw, true)) : ∀ v ∈ e :: lw, 0 ≤ v ∧ v < n := fun v hv => by
  rcases List.mem_cons.mp hv with rfl | hv
  · exact ⟨g.e0, g.e1⟩
  · have := walk_rng' g.rng ws (p := e) v (by rw [h]; exact hv)
    exact this

theorem eqV_int (a b : Int) : eqV (.int a) (.int b) = decide (a = b) := by
  have h := inV_ints b [a]
  unfold inV at h
  rw [List.map_cons, List.map_nil, List.any_cons, List.any_nil, Bool.or_false] at h
  rw [Bool.eq_iff_iff] at h ⊢
  rw [decide_eq_true_iff] at h ⊢
  rw [List.mem_singleton] at h
  exact ⟨fun y => (h.mp y).symm, fun y => h.mpr y.symm⟩
/-- the edges in another order, renamed -/
def renE (c : List Int) (es : List Edge) (o : List Int) : List Edge := o.map fun g => nameE c (es.getD g.toNat (0, 0))
theorem perm_id {m : Nat} {o : List Int} (O : Ord m o) : o.Perm (idO m) := (List.perm_ext_iff_of_nodup O.nd (idO_ord m).nd).mpr fun v => by rw [O.mem, (idO_ord m).mem]
theorem all_by {α : Type} (l : List α) (d : α) : (idO l.length).map (fun g => l.getD g.toNat d) = l := by
  apply List.ext_getElem?
  intro i
  rw [List.getElem?_map]
  by_cases h : i < l.length
  · rw [idO_at h, Option.map_some, Int.toNat_natCast, List.getD_eq_getElem?_getD, List.getElem?_eq_getElem h]
    rfl
  · rw [List.getElem?_eq_none (by rw [(idO_ord _).len]; omega), List.getElem?_eq_none (by omega)]
    rfl
theorem renE_perm {c : List Int} {es : List Edge} {o : List Int} (O : Ord es.length o) : (renE c es o).Perm (es.map (nameE c)) := by
  have h := (perm_id O).map fun g => nameE c (es.getD g.toNat (0, 0))
  have e : (idO es.length).map (fun g => nameE c (es.getD g.toNat (0, 0))) = es.map (nameE c) := by
    have z := congrArg (List.map (nameE c)) (all_by es (0, 0))
    rw [List.map_map] at z
    exact z
  rw [e] at h
  exact h
theorem renE_at {c : List Int} {es : List Edge} {o : List Int} {j k : Nat} {q : Edge} (h : o[j]? = some (k : Int)) (hq : es[k]? = some q) : (renE c es o)[j]? = some (nameE c q) := by
  unfold renE
  rw [List.getElem?_map, h, Option.map_some, Int.toNat_natCast, List.getD_eq_getElem?_getD, hq]
  rfl
theorem renE_len (c : List Int) (es : List Edge) (o : List Int) : (renE c es o).length = o.length := List.length_map ..
theorem renE_out {c : List Int} {es : List Edge} {o : List Int} (O : Ord es.length o) {j : Nat} {q' : Edge} (h : (renE c es o)[j]? = some q') : ∃ (k : Nat) (q : Edge), o[j]? = some (k : Int) ∧ es[k]? = some q ∧ q' = nameE c q := by
  have lt : j < o.length := by
    have := (List.getElem?_eq_some_iff.mp h).1
    rwa [renE_len] at this
  have eo : o[j]? = some o[j] := List.getElem?_eq_getElem lt
  obtain ⟨g0, g1⟩ := O.at_ eo
  have lk : o[j].toNat < es.length := by omega
  have ek : es[o[j].toNat]? = some es[o[j].toNat] := List.getElem?_eq_getElem lk
  have eo' : o[j]? = some ((o[j].toNat : Nat) : Int) := by rw [Int.toNat_of_nonneg g0]; exact eo
  refine ⟨o[j].toNat, _, eo', ek, ?_⟩
  rw [renE_at eo' ek] at h
  exact (Option.some.inj h).symm
theorem renE_good {n e x : Int} {es : List Edge} {c o : List Int} (g : Good n es e [x]) (O : Ord n.toNat c) (P : Ord es.length o) : Good n (renE c es o) (nameBy c e) [nameBy c x] := by
  have h1 := g.n1
  obtain ⟨k, rfl⟩ : ∃ k : Nat, n = k := ⟨n.toNat, by omega⟩
  rw [Int.toNat_natCast] at O
  exact g.named O (renE_perm P) (List.pairwise_singleton ..) fun w => by simp [eq_comm]
theorem mem_named {n : Nat} {c us : List Int} (O : Ord n c) (rU : ∀ v ∈ us, 0 ≤ v ∧ v < (n : Int)) {v : Int} (v0 : 0 ≤ v) (v1 : v < (n : Int)) : nameBy c v ∈ setF (us.map (nameBy c)) ↔ v ∈ setF us := by
  rw [setF_mem, setF_mem, List.mem_map]
  constructor
  · rintro ⟨u, hu, e⟩
    have := rU u hu
    rw [← nameBy_inj O this.1 this.2 v0 v1 e]
    exact hu
  · exact fun h => ⟨v, h, rfl⟩
theorem no_named {n : Nat} {c us : List Int} (O : Ord n c) (rU : ∀ v ∈ us, 0 ≤ v ∧ v < (n : Int)) : (-1 : Int) ∉ setF (us.map (nameBy c)) := fun h => by
  rw [setF_mem, List.mem_map] at h
  obtain ⟨u, hu, e⟩ := h
  have := nameBy_rng O (rU u hu).1 (rU u hu).2
  omega
theorem dec_iff {p q : Prop} [Decidable p] [Decidable q] (h : p ↔ q) : decide p = decide q := by
  rw [Bool.eq_iff_iff, decide_eq_true_iff, decide_eq_true_iff]
  exact h
def spotsR (o : List Int) (m : Nat) : List Int := o ++ [(m : Int), (m : Int) + 1]
theorem ren_gates {n : Nat} {e x : Int} {es : List Edge} {c o us : List Int} (g : Good n es e [x]) (O : Ord n c) (P : Ord es.length o) (rU : ∀ v ∈ us, 0 ≤ v ∧ v < (n : Int)) :
    gatesF (inP (setF (us.map (nameBy c)))) (allG (renE c es o) (nameBy c e) [nameBy c x]) = movedF (gatesF (inP (setF us)) (allG es e [x])) (spotsR o es.length) ∧
    gatesF (outP (setF (us.map (nameBy c)))) (allG (renE c es o) (nameBy c e) [nameBy c x]) = movedF (gatesF (outP (setF us)) (allG es e [x])) (spotsR o es.length) := by
  have no1 : (-1 : Int) ∉ setF us := fun h => by
    have := rU _ ((setF_mem us _).mp h)
    omega
  have no2 := no_named O rU
  have e0 := mem_named O rU g.e0 g.e1
  have x0 := mem_named O rU (g.xr x List.mem_cons_self).1 (g.xr x List.mem_cons_self).2
  have ls : (spotsR o es.length).length = (allG (renE c es o) (nameBy c e) [nameBy c x]).length := by
    unfold spotsR allG
    rw [List.length_append, List.length_append, renE_len]
    rfl
  have key : ∀ (k : Nat) (q' : Edge), (allG (renE c es o) (nameBy c e) [nameBy c x])[k]? = some q' → ∃ (j : Nat) (q : Edge), (spotsR o es.length)[k]? = some (j : Int) ∧ (allG es e [x])[j]? = some q ∧ (q'.1 ∈ setF (us.map (nameBy c)) ↔ q.1 ∈ setF us) ∧ (q'.2 ∈ setF (us.map (nameBy c)) ↔ q.2 ∈ setF us) := fun k q' h => by
    have lo := P.len
    rcases allG_cases h with ⟨l, h⟩ | ⟨l, rfl⟩ | ⟨l, rfl⟩
    · obtain ⟨j, q, h1, h2, rfl⟩ := renE_out P h
      obtain ⟨a0, a1, a2, a3⟩ := g.rng q (List.mem_of_getElem? h2)
      rw [renE_len] at l
      refine ⟨j, q, ?_, ?_, mem_named O rU a0 a1, mem_named O rU a2 a3⟩
      · unfold spotsR
        rw [List.getElem?_append_left (by omega)]
        exact h1
      · rw [allG_lt (List.getElem?_eq_some_iff.mp h2).1]
        exact h2
    · rw [renE_len, lo] at l
      subst l
      refine ⟨es.length, (-1, e), ?_, allG_in, ⟨fun y => absurd y no2, fun y => absurd y no1⟩, e0⟩
      unfold spotsR
      rw [List.getElem?_append_right (by omega), lo, Nat.sub_self]
      rfl
    · rw [renE_len, lo] at l
      subst l
      refine ⟨es.length + 1, (x, -1), ?_, allG_out, x0, ⟨fun y => absurd y no2, fun y => absurd y no1⟩⟩
      unfold spotsR
      rw [List.getElem?_append_right (by omega), lo, show es.length + 1 - es.length = 1 by omega]
      show some ((es.length : Int) + 1) = _
      congr 1
  constructor
  · refine gates_moved ls fun k q' h => ?_
    obtain ⟨j, q, h1, h2, a, b⟩ := key k q' h
    refine ⟨j, q, h1, h2, ?_⟩
    unfold inP
    rw [dec_iff a, dec_iff b]
  · refine gates_moved ls fun k q' h => ?_
    obtain ⟨j, q, h1, h2, a, b⟩ := key k q' h
    refine ⟨j, q, h1, h2, ?_⟩
    unfold outP
    rw [dec_iff a, dec_iff b]
theorem pe_lidx {X : Cx} {K : PySem.W.Frag} {o e : Expr} {to : TE} {t : TA} {apos cpos : Pos} (hK : X.K = K) (ho : PE X o to) (ha : PA X [e] t) (hbase : attributeBase o "index" X.env (eval o X.env) = eval o X.env := by rfl)
    (hfew : ((backTo cpos (starEach [e] X.env)).all (fun x => !x.1) && (backToKw cpos (keywordEach [] X.env)).all (fun x => x.1.isSome) && decide ([e].length + ([] : List Keyword).length + (if ([] : List Keyword).isEmpty then 0 else 1) < 30)) = true := by rfl)
    (hline : (apos.endLine == cpos.line) = true := by rfl) (hs : starEach [e] X.env = (false, eval e X.env) :: starEach [] X.env := by rfl) (hplain : (backTo cpos (starEach [] X.env)).any (·.1) = false := by rfl) :
    PE X (.Call (.Attribute o "index" apos) [e] [] cpos) (tBM K "list" (rIndex K) to t) := by
  subst hK
  exact pe_bm PySem.F.plainAttrs_list PySem.F.slot_list_index PySem.F.type_list_index mt_index ho ha hbase hfew hline hs hplain
/-- where a number stands -/
def posOf (o : List Int) (g : Int) : Nat := o.idxOf g
theorem posOf_at {m : Nat} {o : List Int} (O : Ord m o) {g : Int} (h : g ∈ o) : o[posOf o g]? = some g ∧ ∀ k, k < posOf o g → ∀ z, o[k]? = some z → z ≠ g := by
  have lt : posOf o g < o.length := List.idxOf_lt_length_of_mem h
  have e : o[posOf o g] = g := List.getElem_idxOf lt
  refine ⟨by rw [List.getElem?_eq_getElem lt, e], fun k hk z hz y => ?_⟩
  subst y
  have e2 : o[posOf o z]? = some z := by rw [List.getElem?_eq_getElem lt, e]
  have := nd_index O.nd hz e2
  omega
theorem walk_named {n : Nat} {es : List Edge} {c o : List Int} (rng : ∀ p ∈ es, 0 ≤ p.1 ∧ p.1 < (n : Int) ∧ 0 ≤ p.2 ∧ p.2 < (n : Int)) (O : Ord n c) (P : Ord es.length o) : ∀ (ws : List Int) (p : Int) (l : List Int), walkW es p ws = (l, true) → walkW (renE c es o) (nameBy c p) (ws.map fun g => ((posOf o g : Nat) : Int)) = (l.map (nameBy c), true) ∧ ∀ g ∈ ws, g ∈ o
  | [], p, l, h => by
    have e : l = [] := (congrArg Prod.fst h).symm
    subst e
    exact ⟨rfl, fun _ z => nomatch z⟩
  | g :: ws, p, l, h => by
    have h' : (match nextP es p g with
      | none => ([], false)
      | some q => (q :: (walkW es q ws).1, (walkW es q ws).2)) = (l, true) := h
    cases e : nextP es p g with
    | none => rw [e] at h'; cases h'
    | some q =>
      rw [e] at h'
      have h1 : q :: (walkW es q ws).1 = l := congrArg Prod.fst h'
      have h2 : (walkW es q ws).2 = true := congrArg Prod.snd h'
      obtain ⟨w1, w2⟩ := walk_named rng O P ws q (walkW es q ws).1 (by rw [← h2])
      have st : 0 ≤ g ∧ es[g.toNat]? = some (p, q) := by
        unfold nextP at e
        by_cases g0 : 0 ≤ g
        · rw [if_pos g0] at e
          cases eq : es[g.toNat]? with
          | none => rw [eq] at e; cases e
          | some z =>
            rw [eq] at e
            have e : (if z.1 = p then some z.2 else none) = some q := e
            by_cases c : z.1 = p
            · rw [if_pos c] at e
              exact ⟨g0, by rw [← c, ← Option.some.inj e]⟩
            · rw [if_neg c] at e
              cases e
        · rw [if_neg g0] at e
          cases e
      have mg : g ∈ o := (P.mem g).mpr ⟨st.1, by have := (List.getElem?_eq_some_iff.mp st.2).1; omega⟩
      have at_ := (posOf_at P mg).1
      have er : (renE c es o)[posOf o g]? = some (nameBy c p, nameBy c q) := renE_at (k := g.toNat) (by rw [at_, Int.toNat_of_nonneg st.1]) st.2
      have nx : nextP (renE c es o) (nameBy c p) ((posOf o g : Nat) : Int) = some (nameBy c q) := by
        unfold nextP
        rw [if_pos (by omega), Int.toNat_natCast, er]
        exact if_pos rfl
      refine ⟨?_, fun y hy => ?_⟩
      · show (match nextP (renE c es o) (nameBy c p) ((posOf o g : Nat) : Int) with
          | none => ([], false)
          | some q => (q :: (walkW (renE c es o) q (ws.map _)).1, (walkW (renE c es o) q (ws.map _)).2)) = _
        rw [nx]
        show (nameBy c q :: (walkW (renE c es o) (nameBy c q) _).1, (walkW (renE c es o) (nameBy c q) _).2) = _
        rw [w1, ← h1]
        rfl
      · rcases List.mem_cons.mp hy with rfl | hy
        · exact mg
        · exact w2 y hy
theorem atI_name {n : Nat} {c : List Int} (O : Ord n c) {v : Int} (h0 : 0 ≤ v) (h1 : v < (n : Int)) : atI (c.map V.int) v = some (.int (nameBy c v)) := by
  have e : (c.map V.int)[v.toNat]? = some (V.int (nameBy c v)) := by rw [List.getElem?_map, nameBy_at O h0 h1]; rfl
  have := atI_nat e
  rwa [Int.toNat_of_nonneg h0] at this
def spRenamedF (K : PySem.W.Frag) : Sp := fun vs H Q _ => ∃ (p t wa l wy : Addr) (b : Nat) (n e x : Int) (L : List (Addr × Edge)) (us ws lw : List Int) (pa ga : Addr), vs = [.ref p, .ref t, .ref wa, .ref l, .ref wy] ∧ PoolAt K H p b ∧ 200 ≤ b ∧ Told H t n L e [x] pa ga ∧ Good n (pairs L) e [x] ∧ L.length ≤ 40 ∧ WebAt K H wa n (pairs L) e [x] ∧ H l = some (.lst (us.map V.int)) ∧
  us.length ≤ 24 ∧ (∀ v ∈ us, 0 ≤ v ∧ v < n) ∧ H wy = some (.lst (ws.map V.int)) ∧ ws.length ≤ 100 ∧ walkW (pairs L) e ws = (lw, true) ∧ lastP e lw = x ∧ pa ≠ p ∧ ga ≠ p ∧ l ≠ p ∧ wy ≠ p ∧ ∀ H', But1 p H H' → PoolAt K H' p (b - 200) → Q (.bl true) H'
abbrev s_renamed_fits : Stmt := top 49
theorem sc_renamed_fits : FnScope ["_law_pool_here", "_law_told", "_law_web_here", "_law_inside", "_law_way_here", "_law_count", "_law_pairs", "_law_origin", "_law_goals", "_law_names", "_law_place", "_law_order", "_law_edge", "_law_edges", "_law_other", "_law_mine", "_law_theirs", "_law_spots", "_law_moved_here"] ["_law_pool_here", "_law_told", "_law_web_here", "_law_inside", "_law_way_here"] (defScope s_renamed_fits) := ⟨rfl, rfl, rfl, by decide +kernel, rfl, by decide +kernel, by decide +kernel⟩
theorem ok_renamed_fits {fd : FuncData} (F : FunD K "_law_renamed_fits" "_law_renamed_fits" (defArgs s_renamed_fits) (defBody s_renamed_fits) (defScope s_renamed_fits) [] [] (He.ga K "_law_renamed_fits") fd) (T : TxW K mg) (Z : TxC K mg) (d_draw : Okd P w K mg base CX0 1 (He.ga K "_law_draw") ["_law_pool_here", "_law_limit"] (spDraw K)) (d_init : Okd P w K mg base CX0 5 (He.ma K (He.ga K "Web") "__init__") ["self", "places", "edges", "entry", "exits"] (spWebInit K)) (d_moved : Okd P w K mg base CX0 1 (He.ga K "_law_moved") ["_law_gates", "_law_spots"] (spMoved K)) (d_placing_of : Okd P w K mg base (L2.CX P w) 5 (He.ga K "placing_of") ["web", "lot"] (spPlacingOf K)) (d_loi : Okd P w K mg base (L2.CX P w) 3 (He.ma K (He.ga K "Lot") "__init__") ["self", "places"] (spLotInit K)) (d_places_of : Okd P w K mg base (L2.CX P w) 3 (He.ga K "places_of") ["web", "way"] (spPlacesOf K)) : FnOk P w K mg base CX0 7 (He.ga K "_law_renamed_fits") fd ["_law_pool_here", "_law_told", "_law_web_here", "_law_inside", "_law_way_here"] (spRenamedF K) := by
  obtain ⟨fd_draw, G_draw, b_draw⟩ := d_draw
  obtain ⟨fd_init, G_init, b_init⟩ := d_init
  obtain ⟨fd_moved, G_moved, b_moved⟩ := d_moved
  obtain ⟨fd_placing_of, G_placing_of, b_placing_of⟩ := d_placing_of
  obtain ⟨fd_loi, G_loi, b_loi⟩ := d_loi
  obtain ⟨fd_places_of, G_places_of, b_places_of⟩ := d_places_of
  refine F.ok sc_renamed_fits (fun vs H Q E h => by obtain ⟨p, t, wa, l, wy, b, n, e, x, L, us, ws, lw, pa, ga, rfl, _⟩ := h; rfl) (fun cdv A outer s H vs Q E hr h => ?_)
  obtain ⟨p, t, wa, l, wy, b, n, e, x, L, us, ws, lw, pa, ga, rfl, P, hb, hT, good, few, hW, hl, lu, rU, hwy, lw', hwk, hlast, hpp, hgp, hlp, hwyp, q⟩ := h
  refine ⟨_, PSs.nox (pss_cons (ps_asg (pv 1) (pg_tup rfl (pgs_cons (pg_name (i := 5) sc_renamed_fits.nd rfl (Or.inl rfl)) (pgs_cons (pg_name (i := 6) sc_renamed_fits.nd rfl (Or.inr rfl)) (pgs_cons (pg_name (i := 7) sc_renamed_fits.nd rfl (Or.inl rfl)) (pgs_cons (pg_name (i := 8) sc_renamed_fits.nd rfl (Or.inl rfl)) pgs_nil))))))
    (pss_cons (ps_set (i := 9) sc_renamed_fits.nd rfl (Or.inr rfl) (pe_lst pa_nil))
    (pss_cons (ps_for PassesOwn.never rfl (pi_range1 rfl T.n_range (pa_cons (pv 5) pa_nil)) (pg_name (i := 10) sc_renamed_fits.nd rfl (Or.inl rfl))
      (pss_one (ps_expr (pe_bm PySem.F.plainAttrs_list PySem.F.slot_list_insert PySem.F.type_list_insert mt_insert (pv 9) (pa_cons (pe_call G_draw (hr.mono (by decide)) (by rfl) T.g__law_draw T.k__law_draw b_draw .nil pass0 (pa_cons (pv 0) (pa_cons (pe_op op_add (pv 10) pe_int) pa_nil))) (pa_cons (pv 10) pa_nil))))))
    (pss_cons (ps_set (i := 11) sc_renamed_fits.nd rfl (Or.inr rfl) (pe_lst pa_nil))
    (pss_cons (ps_for PassesOwn.never rfl (pi_range1 rfl T.n_range (pa_cons (pe_callB call_len_seq (by rfl) T.n_len PySem.boot_len (pa_cons (pv 6) pa_nil)) pa_nil)) (pg_name (i := 12) sc_renamed_fits.nd rfl (Or.inl rfl))
      (pss_one (ps_expr (pe_bm PySem.F.plainAttrs_list PySem.F.slot_list_insert PySem.F.type_list_insert mt_insert (pv 11) (pa_cons (pe_call G_draw (hr.mono (by decide)) (by rfl) T.g__law_draw T.k__law_draw b_draw .nil pass0 (pa_cons (pv 0) (pa_cons (pe_op op_add (pv 12) pe_int) pa_nil))) (pa_cons (pv 12) pa_nil))))))
    (pss_cons (ps_setLc (i := 13) (own := [("_law_edge", 12)]) (g := gName 12) (tt := tYes) rfl sc_renamed_fits.nd rfl rfl (sw_true rfl rfl rfl (by decide +kernel)) (pi_list (pv 11)) (blkOk_by (own := [("_law_edge", 12)]) (N := ["_law_pool_here", "_law_told", "_law_web_here", "_law_inside", "_law_way_here", "_law_count", "_law_pairs", "_law_origin", "_law_goals", "_law_names", "_law_place", "_law_order", "_law_edge", "_law_edges", "_law_other", "_law_mine", "_law_theirs", "_law_spots", "_law_moved_here"]) (sc := defScope s_renamed_fits) (by decide +kernel)) (fun _ _ _ _ _ => (pg_name (i := 12) sc_renamed_fits.nd rfl (Or.inl rfl))) (fun _ _ _ _ _ => pts_nil) (fun _ _ _ _ _ => (pe_tup (pa_cons (pe_ix (r := rIxL K) ix_list (pv 9) (pe_ix (r := rIxT K) ix_tup (pe_ix (r := rIxL K) ix_list (pv 6) (pv 12) (fun _ _ => rfl)) pe_int (fun _ _ => rfl)) (fun _ _ => rfl)) (pa_cons (pe_ix (r := rIxL K) ix_list (pv 9) (pe_ix (r := rIxT K) ix_tup (pe_ix (r := rIxL K) ix_list (pv 6) (pv 12) (fun _ _ => rfl)) pe_int (fun _ _ => rfl)) (fun _ _ => rfl)) pa_nil)))))
    (pss_cons (ps_set (i := 14) sc_renamed_fits.nd rfl (Or.inl rfl) (pe_make T.mk_Web G_init (hr.mono (by decide)) (by rfl) T.g_Web b_init .nil pass0 (pa_cons (pv 5) (pa_cons (pv 13) (pa_cons (pe_ix ix_list (pv 9) (pv 7) (fun _ _ => rfl)) (pa_cons (pe_lst (pa_cons (pe_ix ix_list (pv 9) (pe_ix ix_list (pv 8) pe_int (fun _ _ => rfl)) (fun _ _ => rfl)) pa_nil)) pa_nil))))))
    (pss_cons (ps_set (i := 15) sc_renamed_fits.nd rfl (Or.inl rfl) (pe_call G_placing_of (hr.mono (by decide)) (by rfl) T.g_placing_of T.k_placing_of b_placing_of .nil passF (pa_cons (pv 2) (pa_cons (pe_make Z.mk_Lot G_loi (hr.mono (by decide)) (by rfl) Z.g_Lot b_loi .nil passF (pa_cons (pv 3) pa_nil)) pa_nil))))
    (pss_cons (ps_set (i := 16) sc_renamed_fits.nd rfl (Or.inl rfl) (pe_call G_placing_of (hr.mono (by decide)) (by rfl) T.g_placing_of T.k_placing_of b_placing_of .nil passF (pa_cons (pv 14) (pa_cons (pe_make Z.mk_Lot G_loi (hr.mono (by decide)) (by rfl) Z.g_Lot b_loi .nil passF (pa_cons (pe_lc (own := [("_law_place", 10)]) (g := gName 10) (tt := tYes) rfl sc_renamed_fits.nd (pi_list (pv 3)) (blkOk_by (own := [("_law_place", 10)]) (N := ["_law_pool_here", "_law_told", "_law_web_here", "_law_inside", "_law_way_here", "_law_count", "_law_pairs", "_law_origin", "_law_goals", "_law_names", "_law_place", "_law_order", "_law_edge", "_law_edges", "_law_other", "_law_mine", "_law_theirs", "_law_spots", "_law_moved_here"]) (sc := defScope s_renamed_fits) (by decide +kernel)) (fun _ _ _ _ _ => (pg_name (i := 10) sc_renamed_fits.nd rfl (Or.inl rfl))) (fun _ _ _ _ _ => pts_nil) (fun _ _ _ _ _ => (pe_ix (r := rIxL K) ix_list (pv 9) (pv 10) (fun _ _ => rfl)))) pa_nil)) pa_nil))))
    (pss_cons (ps_set (i := 17) sc_renamed_fits.nd rfl (Or.inl rfl) (pe_op op_cat (pv 11) (pe_lst (pa_cons (pe_callB call_len_seq (by rfl) T.n_len PySem.boot_len (pa_cons (pv 6) pa_nil)) (pa_cons (pe_op op_add (pe_callB call_len_seq (by rfl) T.n_len PySem.boot_len (pa_cons (pv 6) pa_nil)) pe_int) pa_nil)))))
    (pss_cons (ps_if (PW.pt (pw_or (pt_cmpR (op_neD hr.units) (pe_fld (pv 16) rfl) (pe_call G_moved (hr.mono (by decide)) (by rfl) T.g__law_moved T.k__law_moved b_moved .nil pass0 (pa_cons (pe_fld (pv 15) rfl) (pa_cons (pv 17) pa_nil))) (nomark _)) (pw_or1 (pt_cmpR (op_neD hr.units) (pe_fld (pv 16) rfl) (pe_call G_moved (hr.mono (by decide)) (by rfl) T.g__law_moved T.k__law_moved b_moved .nil pass0 (pa_cons (pe_fld (pv 15) rfl) (pa_cons (pv 17) pa_nil))) (nomark _))))) (pss_one (ps_ret pe_bl)) pss_nil)
    (pss_cons (ps_setLc (i := 18) (own := [("_law_edge", 12)]) (g := gName 12) (tt := tYes) rfl sc_renamed_fits.nd rfl rfl (sw_true rfl rfl rfl (by decide +kernel)) (pi_list (pv 4)) (blkOk_by (own := [("_law_edge", 12)]) (N := ["_law_pool_here", "_law_told", "_law_web_here", "_law_inside", "_law_way_here", "_law_count", "_law_pairs", "_law_origin", "_law_goals", "_law_names", "_law_place", "_law_order", "_law_edge", "_law_edges", "_law_other", "_law_mine", "_law_theirs", "_law_spots", "_law_moved_here"]) (sc := defScope s_renamed_fits) (by decide +kernel)) (fun _ _ _ _ _ => (pg_name (i := 12) sc_renamed_fits.nd rfl (Or.inl rfl))) (fun _ _ _ _ _ => pts_nil) (fun _ _ _ _ _ => (pe_lidx (K := K) rfl (pv 11) (pa_cons (pv 12) pa_nil))))
    (pss_one (ps_ret (pe_cmpR (op_eqD hr.units) (pe_call G_places_of (hr.mono (by decide)) (by rfl) T.g_places_of T.k_places_of b_places_of .nil passF (pa_cons (pv 14) (pa_cons (pv 18) pa_nil))) (pe_callTy call_tuple_of (by rfl) T.n_tuple (by decide +kernel) (pa_cons (pe_lc (own := [("_law_place", 10)]) (g := gName 10) (tt := tYes) rfl sc_renamed_fits.nd (pi_tup (pe_call G_places_of (hr.mono (by decide)) (by rfl) T.g_places_of T.k_places_of b_places_of .nil passF (pa_cons (pv 2) (pa_cons (pv 4) pa_nil)))) (blkOk_by (own := [("_law_place", 10)]) (N := ["_law_pool_here", "_law_told", "_law_web_here", "_law_inside", "_law_way_here", "_law_count", "_law_pairs", "_law_origin", "_law_goals", "_law_names", "_law_place", "_law_order", "_law_edge", "_law_edges", "_law_other", "_law_mine", "_law_theirs", "_law_spots", "_law_moved_here"]) (sc := defScope s_renamed_fits) (by decide +kernel)) (fun _ _ _ _ _ => (pg_name (i := 10) sc_renamed_fits.nd rfl (Or.inl rfl))) (fun _ _ _ _ _ => pts_nil) (fun _ _ _ _ _ => (pe_ix (r := rIxL K) ix_list (pv 9) (pv 10) (fun _ _ => rfl)))) pa_nil)) (nomark _)))))))))))))))), ?_⟩
  have lp : (pairs L).length = L.length := List.length_map ..
  have small : ∀ {z : Int}, 0 ≤ z → z ≤ 1000 → z.natAbs < 2 ^ 200 := fun {z} h0 h1 => Nat.lt_of_le_of_lt (show z.natAbs ≤ 1000 by omega) (by decide)
  have g0 := good.n1
  have g1 := good.n2
  have posU : ∀ v ∈ us, 0 ≤ v := fun v hv => (rU v hv).1
  have far0 : farF n (setF us) = [] := filter_none fun v hv => decide_eq_false (by have := rU v ((setF_mem us v).mp hv); omega)
  have smallG : (pairs L).length + 1 + [x].length < 60 := by rw [lp]; show L.length + 1 + 1 < 60; omega
  have n3 : (n.toNat : Int) = n := by omega
  refine ⟨_, rfl, t, _, rfl, SqT.of hT.at_, rfl, _, _, rfl, _, _, rfl, _, _, rfl, _, _, rfl, rfl, ?_⟩
  -- other names
  refine ⟨(by show 0 ≤ sizeLine; decide), fun na hna => ?_⟩
  have hnp : na ≠ p := P.ne_new hna
  refine ⟨_, rfl, n, rfl, by omega, by omega, for_range (lo := 0) (n := n.toNat) (fun i σ' H' => ∃ (v10 : Option V) (o : List Int), σ' = [some (.ref p), some (.ref t), some (.ref wa), some (.ref l), some (.ref wy), some (.int n), some (.ref pa), some (.int e), some (.ref ga), some (.ref na), v10, none, none, none, none, none, none, none, none] ∧ But1 p H H' ∧ PoolAt K H' p (b - i) ∧ H' na = some (.lst (o.map V.int)) ∧ Ord i o)
    ⟨none, [], rfl, (But1.refl p H).new hna, P.new hna, upd_same, Ord.zero⟩ ?_ ?_⟩
  · rintro i σ1 H2 hi ⟨v10, o, rfl, b2, P2, ho, O⟩
    refine ⟨_, rfl, .inl ⟨rfl, _, SqL.of ho⟩, ?_⟩
    refine ⟨_, rfl, _, rfl, _, _, rfl, rfl, p, b - i - 1, _, rfl, P2.less (by omega), by omega, small (by omega) (by omega), fun H3 d3 e0 e1 P3 B3 => ?_⟩
    have ho3 := B3.one na _ hnp ho
    refine ⟨_, rfl, na, _, d3, _, rfl, rfl, ho3, ?_, e0, by omega, ?_⟩
    · rw [List.length_map, O.len]
      exact Nat.lt_of_le_of_lt (show i ≤ 24 by omega) (by decide)
    · refine ⟨_, o.take d3.toNat ++ [(i : Int)] ++ o.drop d3.toNat, rfl, fun c u nc h => ?_, (P3.less (by omega)).set ho3 hnp, ?_, O.next (perm_ins o _ _)⟩
      · rw [upd_ne (fun z => by rw [z, hna] at h; cases h)]
        exact B3.one c u nc (b2 c u nc h)
      · rw [upd_same, ← ints_ins, show (0 + (i : Int)) = (i : Int) by omega]
  rintro σ1 H2 ⟨v10, c, rfl, b2, P2, hc, O⟩
  have fna : H na = none := hna
  -- another order
  refine ⟨(by show 0 ≤ sizeLine; decide), fun oa hoa => ?_⟩
  have hop : oa ≠ p := P2.ne_new hoa
  have hno : na ≠ oa := ne_of_none hc hoa
  have foa : H oa = none := b2.none hoa hop
  have ed2 := fun (H' : Hp) (bb : But1 p H H') => hT.but P bb hpp hgp
  refine ⟨_, rfl, pa, _, rfl, .inl (SqL.of (by rw [upd_ne (ne_of_none (ed2 _ b2).ed.at_ hoa)]; exact (ed2 _ b2).ed.at_)), ?_⟩
  rw [show (eR L).length = L.length from List.length_map ..]
  refine ⟨_, rfl, by omega, by omega, for_range (lo := 0) (n := L.length) (fun i σ' H' => ∃ (v12 : Option V) (o : List Int), σ' = [some (.ref p), some (.ref t), some (.ref wa), some (.ref l), some (.ref wy), some (.int n), some (.ref pa), some (.int e), some (.ref ga), some (.ref na), v10, some (.ref oa), v12, none, none, none, none, none, none] ∧ But1 p H H' ∧ PoolAt K H' p (b - 50 - i) ∧ H' na = some (.lst (c.map V.int)) ∧ H' oa = some (.lst (o.map V.int)) ∧ Ord i o)
    ⟨none, [], rfl, b2.new foa, (P2.less (by omega)).new hoa, by rw [upd_ne hno]; exact hc, upd_same, Ord.zero⟩ ?_ ?_⟩
  · rintro i σ1 H3 hi ⟨v12, o, rfl, b3, P3, hc3, ho, P'⟩
    refine ⟨_, rfl, .inl ⟨rfl, _, SqL.of ho⟩, ?_⟩
    refine ⟨_, rfl, _, rfl, _, _, rfl, rfl, p, b - 50 - i - 1, _, rfl, P3.less (by omega), by omega, small (by omega) (by omega), fun H4 d3 e0 e1 P4 B4 => ?_⟩
    have ho4 := B4.one oa _ hop ho
    refine ⟨_, rfl, oa, _, d3, _, rfl, rfl, ho4, ?_, e0, by omega, ?_⟩
    · rw [List.length_map, P'.len]
      exact Nat.lt_of_le_of_lt (show i ≤ 50 by omega) (by decide)
    · refine ⟨_, o.take d3.toNat ++ [(i : Int)] ++ o.drop d3.toNat, rfl, fun c u nc h => ?_, (P4.less (by omega)).set ho4 hop, ?_, ?_, P'.next (perm_ins o _ _)⟩
      · rw [upd_ne (fun z => by rw [z, foa] at h; cases h)]
        exact B4.one c u nc (b3 c u nc h)
      · rw [upd_ne hno]
        exact B4.one na _ hnp hc3
      · rw [upd_same, ← ints_ins, show (0 + (i : Int)) = (i : Int) by omega]
  rintro σ1 H3 ⟨v12, o, rfl, b3, P3, hc3, ho3, PO⟩
  rw [← lp] at PO
  have T3 := hT.but P b3 hpp hgp
  have goodR := renE_good good O PO
  have lo := PO.len
  rw [lp] at lo
  have hl3 := b3 l _ hlp hl
  have hwy3 := b3 wy _ hwyp hwy
  have W3 : WebAt K H3 wa n (pairs L) e [x] := hW.but P b3
  clear ed2 b2 P2 hc hna hoa
  -- the edges
  refine ⟨_, rfl, oa, rfl, ⟨_, SqL.of ho3⟩, fun D hD => lc_list (K := K) (a := oa) (xs := o.map V.int)
    (fun j H' => ∃ M : List (Addr × Edge), Same H3 H' ∧ H' D = some (.lst (eR M)) ∧ (∀ p ∈ M, H' p.1 = some (.tup [.int p.2.1, .int p.2.2])) ∧ pairs M = renE c (pairs L) (o.take j))
    ⟨[], same_upd (Same.refl H3) hD, upd_same, (fun _ z => nomatch z), rfl⟩ (fun j H' _ h => by obtain ⟨_, s, _⟩ := h; exact SqL.of (s _ _ ho3)) ?_ ?_⟩
  · rintro j y H4 hj ⟨M, s4, hM, hMs, eM⟩
    obtain ⟨g, hg, rfl⟩ := int_at hj
    obtain ⟨gg0, gg1⟩ := PO.at_ hg
    rw [lp] at gg1
    have lk : g.toNat < L.length := by omega
    have eL : L[g.toNat]? = some L[g.toNat] := List.getElem?_eq_getElem lk
    have eP : (pairs L)[g.toNat]? = some L[g.toNat].2 := by rw [List.getElem?_map, eL]; rfl
    have aG : atI (eR L) g = some (.ref L[g.toNat].1) := by
      have z := atI_nat (show (eR L)[g.toNat]? = some (.ref L[g.toNat].1) by rw [List.getElem?_map, eL]; rfl)
      rwa [Int.toNat_of_nonneg gg0] at z
    have tup := T3.ed.tup _ (List.getElem_mem lk)
    obtain ⟨r0, r1, r2, r3⟩ := good.rng _ (List.mem_of_getElem? eP)
    have nxt : renE c (pairs L) (o.take (j + 1)) = renE c (pairs L) (o.take j) ++ [nameE c L[g.toNat].2] := by
      rw [take_next hg]
      unfold renE
      rw [List.map_append]
      congr 1
      show [nameE c ((pairs L).getD g.toNat (0, 0))] = _
      rw [List.getD_eq_getElem?_getD, eP]
      rfl
    revert aG tup r0 r1 r2 r3 nxt
    generalize L[g.toNat] = q
    obtain ⟨qa, u, z⟩ := q
    intro aG tup r0 r1 r2 r3 nxt
    have nU := atI_name O r0 (by rw [n3]; exact r1)
    have nZ := atI_name O r2 (by rw [n3]; exact r3)
    refine ⟨rfl, _, rfl, _, rfl, _, rfl, pa, _, _, _, rfl, rfl, SqL.of (s4 _ _ T3.ed.at_), aG, qa, _, 0, .int u, rfl, rfl, SqT.of (s4 _ _ tup), rfl, na, _, _, _, rfl, rfl, SqL.of (s4 _ _ hc3), nU, ?_⟩
    refine ⟨_, rfl, _, rfl, _, rfl, pa, _, _, _, rfl, rfl, SqL.of (s4 _ _ T3.ed.at_), aG, qa, _, 1, .int z, rfl, rfl, SqT.of (s4 _ _ tup), rfl, na, _, _, _, rfl, rfl, SqL.of (s4 _ _ hc3), nZ, (by show 2 ≤ sizeLine; decide), fun tp ht => ?_⟩
    have nD : D ≠ tp := ne_of_none hM ht
    have hjl : M.length ≤ 60 := by
      have := congrArg List.length eM
      rw [List.length_map, renE_len, List.length_take] at this
      omega
    refine ⟨eR M, by rw [upd_ne nD]; exact hM, ?_, M ++ [(tp, (nameBy c u, nameBy c z))], fun b o e => ?_, ?_, fun p hp => ?_, ?_⟩
    · rw [List.length_map]
      exact Nat.lt_of_le_of_lt hjl (by decide)
    · rw [upd_ne (ne_of_none e hD), upd_ne (ne_of_none (s4 b o e) ht)]
      exact s4 b o e
    · rw [upd_same]
      show _ = some (HO.lst (List.map _ (M ++ _)))
      rw [List.map_append]
      rfl
    · rcases List.mem_append.mp hp with hp | hp
      · have h0 := hMs p hp
        rw [upd_ne (ne_of h0 hM (by intro z; cases z)), upd_ne (ne_of_none h0 ht)]
        exact h0
      · rw [List.mem_singleton.mp hp]
        rw [upd_ne nD.symm, upd_same]
    · rw [nxt]
      show List.map _ (M ++ _) = _
      rw [List.map_append, ← eM]
      rfl
  rintro H4 ⟨M, s4, hM, hMs, eM⟩
  rw [List.length_map, List.take_length] at eM
  have nE := atI_name O good.e0 (by rw [n3]; exact good.e1)
  have nX := atI_name O (good.xr x List.mem_cons_self).1 (by rw [n3]; exact (good.xr x List.mem_cons_self).2)
  have hc4 := s4 _ _ hc3
  refine ⟨_, rfl, _, rfl, _, rfl, _, rfl, na, _, _, _, rfl, rfl, SqL.of hc4, nE, _, rfl, _, rfl, ga, _, 0, .int x, rfl, rfl, SqL.of (s4 _ _ T3.go), rfl, na, _, _, _, rfl, rfl, SqL.of hc4, nX, (by show 1 ≤ sizeLine; decide), fun xa hxa => ?_⟩
  have s5 := same_upd (o := .lst [.int (nameBy c x)]) (Same.refl H4) hxa
  have hx5 : (upd H4 xa (.lst [.int (nameBy c x)])) xa = some (.lst (([nameBy c x] : List Int).map V.int)) := upd_same
  revert s5 hx5
  generalize upd H4 xa (.lst [.int (nameBy c x)]) = H5
  intro s5 hx5
  have E5 : EdgesAt H5 D M := ⟨s5 _ _ hM, fun p hp => .inr (s5 _ _ (hMs p hp))⟩
  have goodM : Good n (pairs M) (nameBy c e) [nameBy c x] := by rw [eM]; exact goodR
  refine fun w0 dx hw0 hdx ne => ?_
  refine make_web hw0 hdx ne E5 (.inl hx5) goodM fun H6 ys s6 W6 pw mem => ⟨rfl, ?_⟩
  rw [eq_only pw mem, eM] at W6
  have s36 := (s4.trans s5).trans s6
  clear goodM E5 hx5 eM hM hMs
  -- both placings
  refine ⟨_, rfl, _, rfl, fun xm dxm hxm hdxm nem => ?_⟩
  refine make_lot hxm hdxm (.inl (SqL.of (s36 _ _ hl3))) (by omega) (fun z r e => by rw [negs_nil posU] at e; cases e) fun _ Hma sma Xm => ⟨rfl, ?_⟩
  refine ⟨wa, xm, n, e, (pairs L), [x], setF us, rfl, (W3.same s36).same sma, Xm, smallG, fun z r eF => (by rw [far0] at eF; cases eF), fun _ Hm ym smb PLm hym => ?_⟩
  have sm := sma.trans smb
  have s3m := s36.trans sm
  have lR : (renE c (pairs L) o).length = L.length := by rw [renE_len]; exact lo
  refine ⟨_, rfl, _, rfl, l, rfl, ⟨_, SqL.of (s3m _ _ hl3)⟩, fun D2 hD2 => lc_list (K := K) (a := l) (xs := us.map V.int) (fun j H' => Same Hm H' ∧ H' D2 = some (.lst (((us.take j).map (nameBy c)).map V.int)))
    ⟨same_upd (Same.refl Hm) hD2, upd_same⟩ (fun j H' _ h => SqL.of (h.1 _ _ (s3m _ _ hl3))) ?_ ?_⟩
  · rintro j y H7 hj ⟨s7, h7⟩
    obtain ⟨u, hu, rfl⟩ := int_at hj
    obtain ⟨u0, u1⟩ := rU u (List.mem_of_getElem? hu)
    have nU := atI_name O u0 (by rw [n3]; exact u1)
    refine ⟨rfl, _, rfl, _, rfl, na, _, _, _, rfl, rfl, SqL.of (s7 _ _ (s3m _ _ hc3)), nU, _, h7, ?_, fun b o h => ?_, ?_⟩
    · rw [List.length_map, List.length_map, List.length_take]
      exact Nat.lt_of_le_of_lt (show min j _ ≤ 100 by omega) (by decide)
    · rw [upd_ne (ne_of_none h hD2)]
      exact s7 b o h
    · rw [upd_same, take_next hu, List.map_append, List.map_append]
      rfl
  rintro H7 ⟨s7, h7⟩
  rw [List.length_map, List.take_length] at h7
  have s37 := s3m.trans s7
  have rN : ∀ v ∈ us.map (nameBy c), 0 ≤ v ∧ v < n := fun v hv => by
    obtain ⟨u, hu, rfl⟩ := List.mem_map.mp hv
    have := nameBy_rng O (rU u hu).1 (by rw [n3]; exact (rU u hu).2)
    rw [n3] at this
    exact this
  have posN : ∀ v ∈ us.map (nameBy c), 0 ≤ v := fun v hv => (rN v hv).1
  have farN : farF n (setF (us.map (nameBy c))) = [] := filter_none fun v hv => decide_eq_false (by have := rN v ((setF_mem _ v).mp hv); omega)
  refine fun xo dxo hxo hdxo neo => ?_
  refine make_lot hxo hdxo (.inl (SqL.of h7)) (by rw [List.length_map]; omega) (fun z r e => by rw [negs_nil posN] at e; cases e) fun _ Hoa soa Xo => ⟨rfl, ?_⟩
  refine ⟨w0, xo, n, nameBy c e, renE c (pairs L) o, [nameBy c x], setF (us.map (nameBy c)), rfl, W6.same (sm.trans (s7.trans soa)), Xo, (by rw [lR]; show L.length + 1 + 1 < 60; omega), fun z r eF => (by rw [farN] at eF; cases eF), fun _ Ho yo sob PLo hyo => ?_⟩
  have so := s7.trans (soa.trans sob)
  have s3o := s3m.trans so
  have PLm' := PLm.same so
  have W7 := W6.same (sm.trans so)
  have gnat : Good (n.toNat : Int) (pairs L) e [x] := by rw [n3]; exact good
  obtain ⟨e1, e2⟩ := ren_gates (us := us) gnat O PO (fun v hv => by rw [n3]; exact rU v hv)
  rw [lp] at e1 e2
  obtain ⟨dm, m1, m2, hm1, hm2, hm3⟩ := PLm'.at_
  obtain ⟨d2, o1, o2, ho1, ho2, ho3'⟩ := PLo.at_
  rw [e1] at ho2
  rw [e2] at ho3'
  -- the spots
  refine ⟨_, rfl, _, rfl, pa, _, rfl, .inl (SqL.of (s3o _ _ T3.ed.at_)), ?_⟩
  rw [show (eR L).length = L.length from List.length_map ..]
  refine ⟨_, rfl, pa, _, rfl, .inl (SqL.of (s3o _ _ T3.ed.at_)), ?_⟩
  rw [show (eR L).length = L.length from List.length_map ..]
  refine ⟨_, _, rfl, rfl, (by show 2 ≤ sizeLine; decide), fun rb hrb => ?_⟩
  have s8 := same_upd (o := .lst [.int (L.length : Int), .int ((L.length : Int) + 1)]) (Same.refl Ho) hrb
  have hrb8 : (upd Ho rb (.lst [.int (L.length : Int), .int ((L.length : Int) + 1)])) rb = some (.lst [.int (L.length : Int), .int ((L.length : Int) + 1)]) := upd_same
  revert s8 hrb8
  generalize upd Ho rb (.lst [.int (L.length : Int), .int ((L.length : Int) + 1)]) = H8
  intro s8 hrb8
  refine ⟨oa, rb, _, _, rfl, rfl, s8 _ _ (s3o _ _ ho3), hrb8, ?_, fun sp hsp => ?_⟩
  · rw [List.length_map]
    exact Nat.le_trans (show o.length + 2 ≤ 1000 by omega) (by decide)
  have eS : o.map V.int ++ [.int (L.length : Int), .int ((L.length : Int) + 1)] = (spotsR o L.length).map V.int := by
    unfold spotsR
    rw [List.map_append]
    rfl
  rw [eS]
  have s9 := same_upd (o := .lst ((spotsR o L.length).map V.int)) (Same.refl H8) hsp
  have hsp9 : (upd H8 sp (.lst ((spotsR o L.length).map V.int))) sp = some (.lst ((spotsR o L.length).map V.int)) := upd_same
  have so9 := s8.trans s9
  have lS : (spotsR o L.length).length ≤ 1000 := by
    unfold spotsR
    rw [List.length_append]
    show o.length + 2 ≤ 1000
    omega
  revert so9 hsp9
  generalize upd H8 sp (.lst ((spotsR o L.length).map V.int)) = H9
  intro hsp9 so9
  refine ⟨_, rfl, yo, _, d2, _, _, rfl, so9 _ _ ho1, Z.cl_Placing, Z.na_Placing_saves, rfl, _, rfl, ym, _, dm, _, _, rfl, so9 _ _ hm1, Z.cl_Placing, Z.na_Placing_saves, rfl, _, rfl, m1, sp, _, spotsR o L.length, rfl, hm2.ext so9, hsp9, lS, fun H10 t10 s10 h10 => ?_⟩
  refine ⟨_, _, .tup ((ho2.ext so9).ext s10) (dp_all (okV_int _)), .tup h10 (dp_all (okV_int _)), shaped_tup (okV_int _), shaped_tup (okV_int _), _, rfl, ?_⟩
  rw [eqv_self (shaped_tup (okV_int _))]
  refine iteF ?_
  have so10 := so9.trans s10
  refine ⟨_, rfl, yo, _, d2, _, _, rfl, so10 _ _ ho1, Z.cl_Placing, Z.na_Placing_backs, rfl, _, rfl, ym, _, dm, _, _, rfl, so10 _ _ hm1, Z.cl_Placing, Z.na_Placing_backs, rfl, _, rfl, m2, sp, _, spotsR o L.length, rfl, hm3.ext so10, s10 _ _ hsp9, lS, fun H11 t11 s11 h11 => ?_⟩
  refine ⟨_, _, .tup ((ho3'.ext so10).ext s11) (dp_all (okV_int _)), .tup h11 (dp_all (okV_int _)), shaped_tup (okV_int _), shaped_tup (okV_int _), _, rfl, ?_⟩
  rw [eqv_self (shaped_tup (okV_int _))]
  refine iteF ?_
  have s311 := s3o.trans (so10.trans s11)
  have W11 := W7.same (so10.trans s11)
  -- the way
  have rngN : ∀ p ∈ pairs L, 0 ≤ p.1 ∧ p.1 < (n.toNat : Int) ∧ 0 ≤ p.2 ∧ p.2 < (n.toNat : Int) := fun p hp => by rw [n3]; exact good.rng p hp
  obtain ⟨w1, w2⟩ := walk_named rngN O PO ws e lw hwk
  refine ⟨_, rfl, wy, rfl, ⟨_, SqL.of (s311 _ _ hwy3)⟩, fun D3 hD3 => lc_list (K := K) (a := wy) (xs := ws.map V.int) (fun j H' => Same H11 H' ∧ H' D3 = some (.lst (((ws.take j).map fun g => ((posOf o g : Nat) : Int)).map V.int)))
    ⟨same_upd (Same.refl H11) hD3, upd_same⟩ (fun j H' _ h => SqL.of (h.1 _ _ (s311 _ _ hwy3))) ?_ ?_⟩
  · rintro j y H12 hj ⟨s12, h12⟩
    obtain ⟨g, hg, rfl⟩ := int_at hj
    obtain ⟨a1, a2⟩ := posOf_at PO (w2 g (List.mem_of_getElem? hg))
    have ho12 := s12 _ _ (s311 _ _ ho3)
    refine ⟨rfl, _, rfl, .inl ⟨rfl, _, SqL.of ho12⟩, _, rfl, oa, _, .int g, posOf o g, .int g, rfl, rfl, SqL.of ho12, rfl, flat_ints o, by rw [List.getElem?_map, a1]; rfl, by rw [eqV_int, decide_eq_true rfl], fun m z' hm hz => ?_, _, h12, ?_, fun b o h => ?_, ?_⟩
    · obtain ⟨z, hz', rfl⟩ := int_at hz
      rw [eqV_int, decide_eq_false (a2 m hm z hz')]
    · rw [List.length_map, List.length_map, List.length_take]
      exact Nat.lt_of_le_of_lt (show min j _ ≤ 100 by omega) (by decide)
    · rw [upd_ne (ne_of_none h hD3)]
      exact s12 b o h
    · rw [upd_same, take_next hg, List.map_append, List.map_append]
      rfl
  rintro H12 ⟨s12, h12⟩
  rw [List.length_map, List.take_length] at h12
  have s312 := s311.trans s12
  refine ⟨_, rfl, _, rfl, w0, D3, n, nameBy c e, renE c (pairs L) o, [nameBy c x], ws.map fun g => ((posOf o g : Nat) : Int), rfl, W11.same s12, .inl h12, by rw [List.length_map]; omega, fun l' H13 t13 wl s13 ht13 => ?_, fun l' H13 d wl _ _ => by rw [w1] at wl; cases wl⟩
  rw [w1] at wl
  obtain rfl : lw.map (nameBy c) = l' := congrArg Prod.fst wl
  have s313 := s312.trans s13
  refine ⟨_, rfl, _, rfl, wa, wy, n, e, pairs L, [x], ws, rfl, W3.same s313, .inl (s313 _ _ hwy3), by omega, fun l' H14 t14 wl s14 ht14 => ?_, fun l' H14 d wl _ _ => by rw [hwk] at wl; cases wl⟩
  rw [hwk] at wl
  obtain rfl : lw = l' := congrArg Prod.fst wl
  have rW : ∀ v ∈ e :: lw, 0 ≤ v ∧ v < n := walk_rng good hwk
  have s314 := s313.trans s14
  refine ⟨t14, rfl, ⟨_, SqT.of ht14⟩, fun D4 hD4 => lc_tup (K := K) (a := t14) (xs := (e :: lw).map V.int) (fun j H' => Same H14 H' ∧ H' D4 = some (.lst ((((e :: lw).take j).map (nameBy c)).map V.int)))
    ⟨same_upd (Same.refl H14) hD4, upd_same⟩ (fun j H' _ h => SqT.of (h.1 _ _ ht14)) ?_ ?_⟩
  · rintro j y H15 hj ⟨s15, h15⟩
    obtain ⟨u, hu, rfl⟩ := int_at hj
    obtain ⟨u0, u1⟩ := rW u (List.mem_of_getElem? hu)
    have nU := atI_name O u0 (by rw [n3]; exact u1)
    refine ⟨rfl, _, rfl, _, rfl, na, _, _, _, rfl, rfl, SqL.of (s15 _ _ (s314 _ _ hc3)), nU, _, h15, ?_, fun b o h => ?_, ?_⟩
    · rw [List.length_map, List.length_map, List.length_take]
      have := walk_len hwk
      exact Nat.lt_of_le_of_lt (show min j _ ≤ 200 by rw [List.length_cons]; omega) (by decide)
    · rw [upd_ne (ne_of_none h hD4)]
      exact s15 b o h
    · rw [upd_same, take_next hu, List.map_append, List.map_append]
      rfl
  rintro H15 ⟨s15, h15⟩
  rw [List.length_map, List.take_length] at h15
  refine ⟨D4, _, rfl, .inl ⟨SqL.of h15, fun c4 hc4 => ?_⟩⟩
  have s16 := s15.trans (same_upd (o := .tup (((e :: lw).map (nameBy c)).map V.int)) (Same.refl H15) hc4)
  refine ⟨_, _, .tup (SqT.of (s16 _ _ (s14 _ _ ht13))) (dp_all (okV_int _)), .tup (xs := (nameBy c e :: lw.map (nameBy c)).map V.int) (SqT.of upd_same) (dp_all (okV_int _)), shaped_tup (okV_int _), shaped_tup (okV_int _), ?_⟩
  rw [eqv_self (shaped_tup (okV_int _))]
  exact q _ (b3.trans (But1.of (s314.trans s16))) ((P3.same (s314.trans s16)).less (by omega))
end
section
variable {P : Program} {w : World} {K : PySem.W.Frag} {mg : Str → Option Value} {base : Heap}

def spLaw (K : PySem.W.Frag) : Sp := fun vs H Q _ => ∃ (a : Addr) (ns : List Int), vs = [.ref a] ∧ Scr K H a ns ∧ ∀ H', Q (.bl true) H'
abbrev s_law : Stmt := top 50
theorem sc_law : FnScope ["_law_script", "_law_pool_here", "_law_count", "_law_pairs", "_law_origin", "_law_goals", "_law_last", "_law_place", "_law_told", "_law_web_here", "_law_k", "_law_inside", "_law_way_here"] ["_law_script"] (defScope s_law) := ⟨rfl, rfl, rfl, by decide +kernel, rfl, by decide +kernel, by decide +kernel⟩
theorem ok_law {fd : FuncData} (F : FunD K "law" "law" (defArgs s_law) (defBody s_law) (defScope s_law) [] [] (He.ga K "law") fd) (T : TxW K mg) (d_pool : Okd P w K mg base CX0 1 (He.ga K "_law_pool") ["_law_script"] (spPool K)) (d_draw : Okd P w K mg base CX0 1 (He.ga K "_law_draw") ["_law_pool_here", "_law_limit"] (spDraw K)) (d_web : Okd P w K mg base CX0 2 (He.ga K "_law_web") ["_law_pool_here", "_law_most", "_law_extra"] (spDrawWeb K)) (d_ahead : Okd P w K mg base CX0 1 (He.ga K "_law_ahead") ["_law_pairs", "_law_goals"] spAhead) (d_made : Okd P w K mg base CX0 7 (He.ga K "_law_made") ["_law_told"] (spMade K)) (d_some : Okd P w K mg base CX0 2 (He.ga K "_law_some") ["_law_pool_here", "_law_count"] (spSome K)) (d_way : Okd P w K mg base CX0 2 (He.ga K "_law_way") ["_law_pool_here", "_law_told", "_law_most"] (spWayW K)) (d_turned_fits : Okd P w K mg base CX0 7 (He.ga K "_law_turned_fits") ["_law_told", "_law_web_here", "_law_inside", "_law_way_here"] (spTurnedF K)) (d_renamed_fits : Okd P w K mg base CX0 7 (He.ga K "_law_renamed_fits") ["_law_pool_here", "_law_told", "_law_web_here", "_law_inside", "_law_way_here"] (spRenamedF K)) : FnOk P w K mg base CX0 8 (He.ga K "law") fd ["_law_script"] (spLaw K) := by
  obtain ⟨fd_pool, G_pool, b_pool⟩ := d_pool
  obtain ⟨fd_draw, G_draw, b_draw⟩ := d_draw
  obtain ⟨fd_web, G_web, b_web⟩ := d_web
  obtain ⟨fd_ahead, G_ahead, b_ahead⟩ := d_ahead
  obtain ⟨fd_made, G_made, b_made⟩ := d_made
  obtain ⟨fd_some, G_some, b_some⟩ := d_some
  obtain ⟨fd_way, G_way, b_way⟩ := d_way
  obtain ⟨fd_turned_fits, G_turned_fits, b_turned_fits⟩ := d_turned_fits
  obtain ⟨fd_renamed_fits, G_renamed_fits, b_renamed_fits⟩ := d_renamed_fits
  refine F.ok sc_law (fun vs H Q E h => by obtain ⟨a, ns, rfl, _⟩ := h; rfl) (fun cdv A outer s H vs Q E hr h => ?_)
  obtain ⟨a, ns, rfl, hS, kk⟩ := h
  refine ⟨_, PSs.nox (pss_cons (ps_set (i := 1) sc_law.nd rfl (Or.inl rfl) (pe_call G_pool (hr.mono (by decide)) (by rfl) T.g__law_pool T.k__law_pool b_pool .nil pass0 (pa_cons (pv 0) pa_nil)))
    (pss_cons (ps_asg (pe_call G_web (hr.mono (by decide)) (by rfl) T.g__law_web T.k__law_web b_web .nil pass0 (pa_cons (pv 1) (pa_cons pe_int (pa_cons pe_int pa_nil)))) (pg_tup rfl (pgs_cons (pg_name (i := 2) sc_law.nd rfl (Or.inl rfl)) (pgs_cons (pg_name (i := 3) sc_law.nd rfl (Or.inl rfl)) (pgs_cons (pg_name (i := 4) sc_law.nd rfl (Or.inl rfl)) (pgs_cons (pg_name (i := 5) sc_law.nd rfl (Or.inl rfl)) pgs_nil))))))
    (pss_cons (ps_set (i := 6) sc_law.nd rfl (Or.inl rfl) (pe_ix ix_list (pv 5) pe_int (fun _ _ => rfl)))
    (pss_cons (ps_set (i := 5) sc_law.nd rfl (Or.inl rfl) (pe_lst (pa_cons (pv 6) pa_nil)))
    (pss_cons (ps_for PassesOwn.never rfl (pi_range1 rfl T.n_range (pa_cons (pv 2) pa_nil)) (pg_name (i := 7) sc_law.nd rfl (Or.inl rfl))
      (pss_one (ps_if (pt_cmpR op_notIn_seq (pv 7) (pe_call G_ahead (hr.mono (by decide)) (by rfl) T.g__law_ahead T.k__law_ahead b_ahead .nil pass0 (pa_cons (pv 3) (pa_cons (pv 5) pa_nil))) (by first | exact nomark _ | rfl)) (pss_one (ps_set (i := 3) sc_law.nd rfl (Or.inl rfl) (pe_op op_cat (pv 3) (pe_lst (pa_cons (pe_tup (pa_cons (pv 7) (pa_cons (pv 6) pa_nil))) pa_nil))))) pss_nil)))
    (pss_cons (ps_set (i := 8) sc_law.nd rfl (Or.inl rfl) (pe_tup (pa_cons (pv 2) (pa_cons (pv 3) (pa_cons (pv 4) (pa_cons (pv 5) pa_nil))))))
    (pss_cons (ps_set (i := 9) sc_law.nd rfl (Or.inl rfl) (pe_call G_made (hr.mono (by decide)) (by rfl) T.g__law_made T.k__law_made b_made .nil pass0 (pa_cons (pv 8) pa_nil)))
    (pss_cons (ps_for PassesOwn.never rfl (pi_range1 rfl T.n_range (pa_cons pe_int pa_nil)) (pg_name (i := 10) sc_law.nd rfl (Or.inl rfl))
      (pss_cons (ps_set (i := 11) sc_law.nd rfl (Or.inl rfl) (pe_call G_some (hr.mono (by decide)) (by rfl) T.g__law_some T.k__law_some b_some .nil pass0 (pa_cons (pv 1) (pa_cons (pv 2) pa_nil))))
    (pss_cons (ps_set (i := 12) sc_law.nd rfl (Or.inl rfl) (pe_call G_way (hr.mono (by decide)) (by rfl) T.g__law_way T.k__law_way b_way .nil pass0 (pa_cons (pv 1) (pa_cons (pv 8) (pa_cons (pe_call G_draw (hr.mono (by decide)) (by rfl) T.g__law_draw T.k__law_draw b_draw .nil pass0 (pa_cons (pv 1) (pa_cons pe_int pa_nil))) pa_nil)))))
    (pss_cons (ps_if (pt_not (pt_val (pe_call G_turned_fits (hr.mono (by decide)) (by rfl) T.g__law_turned_fits T.k__law_turned_fits b_turned_fits .nil pass0 (pa_cons (pv 8) (pa_cons (pv 9) (pa_cons (pv 11) (pa_cons (pv 12) pa_nil))))))) (pss_one (ps_ret pe_bl)) pss_nil)
    (pss_one (ps_if (pt_not (pt_val (pe_call G_renamed_fits (hr.mono (by decide)) (by rfl) T.g__law_renamed_fits T.k__law_renamed_fits b_renamed_fits .nil pass0 (pa_cons (pv 1) (pa_cons (pv 8) (pa_cons (pv 9) (pa_cons (pv 11) (pa_cons (pv 12) pa_nil)))))))) (pss_one (ps_ret pe_bl)) pss_nil))))))
    (pss_one (ps_ret pe_bl)))))))))), ?_⟩
  refine ⟨_, rfl, a, ns, rfl, hS, fun H1 p hp P1 hH1 => ?_⟩
  refine ⟨_, rfl, p, _, 6, 10, rfl, P1, by decide, by decide, by decide, by decide, by decide, fun H2 t n L e gs pa ga b2 P2 T2 good gnd hn hl hpp hgp hp0 hg0 ht0 => ?_⟩
  refine ⟨t, _, rfl, SqT.of T2.at_, rfl, _, _, rfl, _, _, rfl, _, _, rfl, _, _, rfl, rfl, ?_⟩
  have gn1 := good.n1
  have n3 : (n.toNat : Int) = n := by omega
  obtain ⟨x, ex⟩ : ∃ x, gs[0]? = some x := by
    cases h : gs with
    | nil => exact absurd h good.x0
    | cons y r => exact ⟨y, rfl⟩
  have rx := good.xr x (List.mem_of_getElem? ex)
  refine ⟨_, rfl, ga, _, 0, .int x, rfl, rfl, SqL.of T2.go, atI_nat (j := 0) (by rw [List.getElem?_map, ex]; rfl), ?_⟩
  refine ⟨_, rfl, (by show 1 ≤ sizeLine; decide), fun gb hgb => ?_⟩
  have hgbp : gb ≠ p := P2.ne_new hgb
  have s3 := same_upd (o := .lst [.int x]) (Same.refl H2) hgb
  have hgb3 : (upd H2 gb (.lst [.int x])) gb = some (.lst (([x] : List Int).map V.int)) := upd_same
  have P3 := P2.same s3
  have E3 := T2.ed.same s3
  clear hp0 hg0 ht0 b2 hgb
  revert s3 hgb3 P3 E3
  generalize upd H2 gb (.lst [.int x]) = H3
  intro s3 hgb3 P3 E3
  have core : Core n.toNat e (pairs L) := ⟨fun q hq => by have := good.rng q hq; omega, good.nd, by have := good.e0; have := good.e1; omega, fun v h0 h1 => good.fwd v h0 (by omega)⟩
  have aims : Aims n.toNat 0 (pairs L) [x] := ⟨by simp, fun g hg => by rw [List.mem_singleton.mp hg]; omega, by simp, fun v h0 h1 => by omega⟩
  refine ⟨_, rfl, n, rfl, by omega, by omega, for_range (lo := 0) (n := n.toNat) (fun i σ' H' => ∃ (v7 : Option V) (M : List (Addr × Edge)) (ma : Addr), σ' = [some (.ref a), some (.ref p), some (.int n), some (.ref ma), some (.int e), some (.ref gb), some (.int x), v7, none, none, none, none, none] ∧ Same H3 H' ∧ EdT H' ma M ∧ Core n.toNat e (pairs M) ∧ Aims n.toNat i (pairs M) [x] ∧ M.length ≤ L.length + i ∧ ma ≠ p)
    ⟨none, L, pa, rfl, Same.refl H3, E3, core, aims, by omega, hpp⟩ ?_ ?_⟩
  · rintro i σ1 H4 hi ⟨v7, M, ma, rfl, s4, E4, C4, A4, lM, map_⟩
    have e0 : (0 + (i : Int)) = (i : Int) := by omega
    rw [e0]
    refine ⟨_, rfl, _, rfl, _, rfl, ma, gb, M, [x], rfl, E4.edges, s4 _ _ hgb3, by omega, by show 1 < 1000; decide, fun H5 m ms s5 hm mem => ?_⟩
    refine ⟨m, _, rfl, .inl (SqL.of hm), rfl, flat_ints ms, _, rfl, ?_⟩
    rw [inV_ints]
    by_cases hv : (i : Int) ∈ ms
    · rw [decide_eq_true hv]
      exact iteF ⟨_, M, ma, rfl, s4.trans s5, E4.same s5, C4, A4.stay ((mem _).mp hv), by omega, map_⟩
    rw [decide_eq_false hv]
    refine iteT ?_
    refine ⟨_, rfl, _, rfl, _, rfl, (by show 2 ≤ sizeLine; decide), fun tp htp => ?_⟩
    have s6 := same_upd (o := .tup [.int (i : Int), .int x]) (Same.refl H5) htp
    have h6 : (upd H5 tp (.tup [.int (i : Int), .int x])) tp = some (.tup [.int (i : Int), .int x]) := upd_same
    revert s6 h6
    generalize upd H5 tp (.tup [.int (i : Int), .int x]) = H6
    intro s6 h6
    refine ⟨(by show 1 ≤ sizeLine; decide), fun la hla => ?_⟩
    have s7 := same_upd (o := .lst [.ref tp]) (Same.refl H6) hla
    have h7 : (upd H6 la (.lst [.ref tp])) la = some (.lst (eR [(tp, ((i : Int), x))])) := upd_same
    revert s7 h7
    generalize upd H6 la (.lst [.ref tp]) = H7
    intro s7 h7
    have E7 := (E4.same s5).same (s6.trans s7)
    have F7 : EdT H7 la [(tp, ((i : Int), x))] := ⟨h7, fun q hq => by rw [List.mem_singleton.mp hq]; exact s7 _ _ h6⟩
    refine ⟨ma, la, _, _, rfl, rfl, E7.at_, h7, ?_, fun c hc => ?_⟩
    · rw [List.length_map, List.length_map]
      exact Nat.le_trans (show M.length + 1 ≤ 1000 by omega) (by decide)
    have s47 := s4.trans (s5.trans (s6.trans s7))
    have no : ((i : Int), x) ∉ pairs M := fun h => hv ((mem _).mpr ⟨x, List.mem_cons_self, .one h⟩)
    have pm : (pairs (M ++ [(tp, ((i : Int), x))])).Perm (((i : Int), x) :: pairs M) := by
      show (List.map _ (M ++ _)).Perm _
      rw [List.map_append]
      exact List.perm_append_singleton _ _
    refine ⟨_, M ++ [(tp, ((i : Int), x))], c, rfl, s47.trans (same_upd (Same.refl H7) hc), E7.app F7 hc, C4.add ⟨⟨by omega, by omega⟩, by omega, by omega⟩ no pm, A4.edge List.mem_cons_self pm, by rw [List.length_append, List.length_singleton]; omega, (P3.same s47).ne_new hc⟩
  rintro σ1 H4 ⟨v7, M, ma, rfl, s4, E4, C4, A4, lM, map_⟩
  have lp : (pairs M).length = M.length := List.length_map ..
  have good4 := C4.good A4 (by omega) (by omega)
  rw [n3] at good4
  refine ⟨_, rfl, _, rfl, _, rfl, _, rfl, (by show 4 ≤ sizeLine; decide), fun tt htt => ?_⟩
  have s5 := same_upd (o := .tup [.int n, .ref ma, .int e, .ref gb]) (Same.refl H4) htt
  have T5 : Told (upd H4 tt (.tup [.int n, .ref ma, .int e, .ref gb])) tt n M e [x] ma gb := ⟨upd_same, E4.same s5, s5 _ _ (s4 _ _ hgb3)⟩
  have P5 := (P3.same s4).same s5
  clear htt E4
  revert s5 T5 P5
  generalize upd H4 tt (.tup [.int n, .ref ma, .int e, .ref gb]) = H5
  intro s5 T5 P5
  refine ⟨_, rfl, tt, n, e, M, [x], ma, gb, rfl, T5, good4, fun H6 wa ys s6 W6 pw mem => ?_⟩
  rw [eq_only pw mem] at W6
  have T6 := T5.same s6
  have P6 := P5.same s6
  refine ⟨3, rfl, by decide, by decide, for_range (lo := 0) (n := 3) (fun i σ' H' => ∃ v10 v11 v12 : Option V, σ' = [some (.ref a), some (.ref p), some (.int n), some (.ref ma), some (.int e), some (.ref gb), some (.int x), v7, some (.ref tt), some (.ref wa), v10, v11, v12] ∧ But1 p H6 H' ∧ PoolAt K H' p (999999990000 - 3000 * i))
    ⟨none, none, none, rfl, But1.refl p H6, P6.less (by decide)⟩ ?_ ?_⟩
  · rintro i σ1 H7 hi ⟨v10, v11, v12, rfl, b7, P7⟩
    refine ⟨_, rfl, _, rfl, p, _, n, rfl, P7, by omega, by omega, by omega, fun H8 l us B8 P8 hl8 up rU lu nl hl0 => ?_⟩
    have b8 := b7.trans B8
    refine ⟨_, rfl, _, rfl, _, rfl, p, 999999989799 - 3000 * i, 9, rfl, P8.less (by omega), by decide, by decide, fun H9 d d0 d1 P9 B9 => ?_⟩
    have b9 := b8.trans B9.one
    refine ⟨p, 999999989799 - 3000 * i, tt, d, n, e, M, [x], ma, gb, rfl, P9, by omega, T6.but P6 b9 map_ hgbp, good4, d0, by omega, by omega, by omega, by show 1 ≤ 24; decide, map_, hgbp, fun H10 wy ws lw B10 P10 hw10 lw10 wk wl wyp wy0 => ?_⟩
    have b10 := b9.trans B10
    have hl10 := B10 l _ nl (B9.one l _ nl hl8)
    have wl : lastP e lw = x := List.mem_singleton.mp wl
    have T10 := T6.but P6 b10 map_ hgbp
    have W10 := W6.but P6 b10
    refine ⟨_, rfl, _, rfl, _, rfl, _, rfl, tt, wa, l, wy, n, e, x, M, us, ws, lw, ma, gb, rfl, T10, good4, by omega, W10, hl10, by omega, rU, hw10, lw10, wk, wl, fun H11 s11 => ⟨_, rfl, ?_⟩⟩
    refine iteF ?_
    have b11 := b10.trans (But1.of s11)
    refine ⟨_, rfl, _, rfl, _, rfl, _, rfl, _, rfl, p, tt, wa, l, wy, 999999988799 - 3000 * i, n, e, x, M, us, ws, lw, ma, gb, rfl, (P10.same s11).less (by omega), by omega, T10.same s11, good4, by omega, W10.same s11, s11 _ _ hl10, by omega, rU, s11 _ _ hw10, lw10, wk, wl, map_, hgbp, nl, wyp, fun H12 b12 P12 => ⟨_, rfl, ?_⟩⟩
    refine iteF ?_
    exact ⟨_, _, _, rfl, b11.trans b12, P12.less (by omega)⟩
  rintro σ1 H7 ⟨v10, v11, v12, rfl, b7, P7⟩
  exact kk _
end
section
variable {P : Program} {w : World} {K : PySem.W.Frag} {mg : Str → Option Value} {base : Heap}
abbrev s__wall : Stmt := top 0
theorem sc__wall : FnScope ["k"] ["k"] (defScope s__wall) := ⟨rfl, rfl, rfl, by decide +kernel, rfl, by decide +kernel, by decide +kernel⟩
abbrev s_BadWay_init : Stmt := inClass (top 10) 0
theorem sc_BadWay_init : FnScope ["self", "index"] ["self", "index"] (defScope s_BadWay_init) := ⟨rfl, rfl, rfl, by decide +kernel, rfl, by decide +kernel, by decide +kernel⟩
theorem oki_BadWay_init {fd : FuncData} (F : FunD K "__init__" "BadWay.__init__" (defArgs s_BadWay_init) (defBody s_BadWay_init) (defScope s_BadWay_init) [] [] (He.ma K (He.ga K "BadWay") "__init__") fd) (T : OexC K (He.ga K "BadWay")) (no : PySem.W.findIn K (.ref (He.ga K "BadWay")) "index" = some none) :
    FnOk P w K mg base CX0 1 (He.ma K (He.ga K "BadWay") "__init__") fd (["self", "index"] : List Str) (spInit (He.ga K "BadWay") "index") := by
  refine F.ok sc_BadWay_init (fun vs H Q E h => ?_) (fun cdv A outer s H vs Q E hr h => ?_)
  · obtain ⟨a, v, rfl, _⟩ := h
    rfl
  · obtain ⟨a, v, rfl, ha, k⟩ := h
    refine ⟨_, pss_one (ps_ost (pv 0) (pv 1)), ?_⟩
    exact ⟨_, rfl, _, rfl, a, He.ga K "BadWay", rfl, T, no, .inl ⟨ha, fun dx n ne => k dx n ne⟩⟩
abbrev s_BadMark_init : Stmt := inClass (top 12) 0
theorem sc_BadMark_init : FnScope ["self", "number"] ["self", "number"] (defScope s_BadMark_init) := ⟨rfl, rfl, rfl, by decide +kernel, rfl, by decide +kernel, by decide +kernel⟩
theorem oki_BadMark_init {fd : FuncData} (F : FunD K "__init__" "BadMark.__init__" (defArgs s_BadMark_init) (defBody s_BadMark_init) (defScope s_BadMark_init) [] [] (He.ma K (He.ga K "BadMark") "__init__") fd) (T : OexC K (He.ga K "BadMark")) (no : PySem.W.findIn K (.ref (He.ga K "BadMark")) "number" = some none) :
    FnOk P w K mg base CX0 1 (He.ma K (He.ga K "BadMark") "__init__") fd (["self", "number"] : List Str) (spInit (He.ga K "BadMark") "number") := by
  refine F.ok sc_BadMark_init (fun vs H Q E h => ?_) (fun cdv A outer s H vs Q E hr h => ?_)
  · obtain ⟨a, v, rfl, _⟩ := h
    rfl
  · obtain ⟨a, v, rfl, ha, k⟩ := h
    refine ⟨_, pss_one (ps_ost (pv 0) (pv 1)), ?_⟩
    exact ⟨_, rfl, _, rfl, a, He.ga K "BadMark", rfl, T, no, .inl ⟨ha, fun dx n ne => k dx n ne⟩⟩
abbrev s_TwoMarks_init : Stmt := inClass (top 13) 0
theorem sc_TwoMarks_init : FnScope ["self", "number"] ["self", "number"] (defScope s_TwoMarks_init) := ⟨rfl, rfl, rfl, by decide +kernel, rfl, by decide +kernel, by decide +kernel⟩
theorem oki_TwoMarks_init {fd : FuncData} (F : FunD K "__init__" "TwoMarks.__init__" (defArgs s_TwoMarks_init) (defBody s_TwoMarks_init) (defScope s_TwoMarks_init) [] [] (He.ma K (He.ga K "TwoMarks") "__init__") fd) (T : OexC K (He.ga K "TwoMarks")) (no : PySem.W.findIn K (.ref (He.ga K "TwoMarks")) "number" = some none) :
    FnOk P w K mg base CX0 1 (He.ma K (He.ga K "TwoMarks") "__init__") fd (["self", "number"] : List Str) (spInit (He.ga K "TwoMarks") "number") := by
  refine F.ok sc_TwoMarks_init (fun vs H Q E h => ?_) (fun cdv A outer s H vs Q E hr h => ?_)
  · obtain ⟨a, v, rfl, _⟩ := h
    rfl
  · obtain ⟨a, v, rfl, ha, k⟩ := h
    refine ⟨_, pss_one (ps_ost (pv 0) (pv 1)), ?_⟩
    exact ⟨_, rfl, _, rfl, a, He.ga K "TwoMarks", rfl, T, no, .inl ⟨ha, fun dx n ne => k dx n ne⟩⟩
abbrev s_BadPlace_init : Stmt := inClass (top 11) 0
theorem sc_BadPlace_init : FnScope ["self", "number"] ["self", "number"] (defScope s_BadPlace_init) := ⟨rfl, rfl, rfl, by decide +kernel, rfl, by decide +kernel, by decide +kernel⟩
theorem oki_BadPlace_init {fd : FuncData} (F : FunD K "__init__" "BadPlace.__init__" (defArgs s_BadPlace_init) (defBody s_BadPlace_init) (defScope s_BadPlace_init) [] [] (He.ma K (He.ga K "BadPlace") "__init__") fd) (T : OexC K (He.ga K "BadPlace")) (no : PySem.W.findIn K (.ref (He.ga K "BadPlace")) "number" = some none) :
    FnOk P w K mg base CX0 1 (He.ma K (He.ga K "BadPlace") "__init__") fd (["self", "number"] : List Str) (spInit (He.ga K "BadPlace") "number") := by
  refine F.ok sc_BadPlace_init (fun vs H Q E h => ?_) (fun cdv A outer s H vs Q E hr h => ?_)
  · obtain ⟨a, v, rfl, _⟩ := h
    rfl
  · obtain ⟨a, v, rfl, ha, k⟩ := h
    refine ⟨_, pss_one (ps_ost (pv 0) (pv 1)), ?_⟩
    exact ⟨_, rfl, _, rfl, a, He.ga K "BadPlace", rfl, T, no, .inl ⟨ha, fun dx n ne => k dx n ne⟩⟩
end
def fns : List He.DefD := [
  ⟨("is_number", none), "is_number", "is_number", defArgs s_is_number, defBody s_is_number, defScope s_is_number, [], []⟩,
  ⟨("is_below", none), "is_below", "is_below", defArgs s_is_below, defBody s_is_below, defScope s_is_below, [], []⟩,
  ⟨("check_places", none), "check_places", "check_places", defArgs s_check_places, defBody s_check_places, defScope s_check_places, [], []⟩,
  ⟨("is_pair", none), "is_pair", "is_pair", defArgs s_is_pair, defBody s_is_pair, defScope s_is_pair, [], []⟩,
  ⟨("check_entry", none), "check_entry", "check_entry", defArgs s_check_entry, defBody s_check_entry, defScope s_check_entry, [], []⟩,
  ⟨("check_exits", none), "check_exits", "check_exits", defArgs s_check_exits, defBody s_check_exits, defScope s_check_exits, [], []⟩,
  ⟨("check_edges", none), "check_edges", "check_edges", defArgs s_check_edges, defBody s_check_edges, defScope s_check_edges, [], []⟩,
  ⟨("reached", none), "reached", "reached", defArgs s_reached, defBody s_reached, defScope s_reached, [], []⟩,
  ⟨("check_idle", none), "check_idle", "check_idle", defArgs s_check_idle, defBody s_check_idle, defScope s_check_idle, [], []⟩,
  ⟨("_law_pool", none), "_law_pool", "_law_pool", defArgs s_pool, defBody s_pool, defScope s_pool, [], []⟩,
  ⟨("_law_draw", none), "_law_draw", "_law_draw", defArgs s_draw, defBody s_draw, defScope s_draw, [], []⟩,
  ⟨("Web", some "__init__"), "__init__", "Web.__init__", defArgs s_Web_init, defBody s_Web_init, defScope s_Web_init, [], []⟩,
  ⟨("Web", some "__eq__"), "__eq__", "Web.__eq__", defArgs s_Web_eq, defBody s_Web_eq, defScope s_Web_eq, [], []⟩,
  ⟨("gate_pairs", none), "gate_pairs", "gate_pairs", defArgs s_gate_pairs, defBody s_gate_pairs, defScope s_gate_pairs, [], []⟩,
  ⟨("_law_ahead", none), "_law_ahead", "_law_ahead", defArgs s_ahead, defBody s_ahead, defScope s_ahead, [], []⟩,
  ⟨("_law_web", none), "_law_web", "_law_web", defArgs s_web, defBody s_web, defScope s_web, [], []⟩,
  ⟨("_law_made", none), "_law_made", "_law_made", defArgs s_made, defBody s_made, defScope s_made, [], []⟩,
  ⟨("_law_some", none), "_law_some", "_law_some", defArgs s_some, defBody s_some, defScope s_some, [], []⟩,
  ⟨("places_of", none), "places_of", "places_of", defArgs s_places_of, defBody s_places_of, defScope s_places_of, [], []⟩,
  ⟨("_law_far", none), "_law_far", "_law_far", defArgs s_far, defBody s_far, defScope s_far, [], []⟩,
  ⟨("_law_way", none), "_law_way", "_law_way", defArgs s_way, defBody s_way, defScope s_way, [], []⟩,
  ⟨("Placing", some "__init__"), "__init__", "Placing.__init__", defArgs s_Placing_init, defBody s_Placing_init, defScope s_Placing_init, [], []⟩,
  ⟨("Placing", some "__eq__"), "__eq__", "Placing.__eq__", defArgs s_Placing_eq, defBody s_Placing_eq, defScope s_Placing_eq, [], []⟩,
  ⟨("Placing", some "__len__"), "__len__", "Placing.__len__", defArgs s_Placing_len, defBody s_Placing_len, defScope s_Placing_len, [], []⟩,
  ⟨("Lot", some "__init__"), "__init__", "Lot.__init__", defArgs s_Lot_init, defBody s_Lot_init, defScope s_Lot_init, [], []⟩,
  ⟨("Lot", some "__eq__"), "__eq__", "Lot.__eq__", defArgs s_Lot_eq, defBody s_Lot_eq, defScope s_Lot_eq, [], []⟩,
  ⟨("Lot", some "__len__"), "__len__", "Lot.__len__", defArgs s_Lot_len, defBody s_Lot_len, defScope s_Lot_len, [], []⟩,
  ⟨("Lot", some "__contains__"), "__contains__", "Lot.__contains__", defArgs s_Lot_contains, defBody s_Lot_contains, defScope s_Lot_contains, [], []⟩,
  ⟨("check_lot", none), "check_lot", "check_lot", defArgs s_check_lot, defBody s_check_lot, defScope s_check_lot, [], []⟩,
  ⟨("marked_gates", none), "marked_gates", "marked_gates", defArgs s_marked_gates, defBody s_marked_gates, defScope s_marked_gates, [], []⟩,
  ⟨("placing_of", none), "placing_of", "placing_of", defArgs s_placing_of, defBody s_placing_of, defScope s_placing_of, [], []⟩,
  ⟨("_law_moved", none), "_law_moved", "_law_moved", defArgs s_moved, defBody s_moved, defScope s_moved, [], []⟩,
  ⟨("_law_turned_fits", none), "_law_turned_fits", "_law_turned_fits", defArgs s_turned_fits, defBody s_turned_fits, defScope s_turned_fits, [], []⟩,
  ⟨("_law_renamed_fits", none), "_law_renamed_fits", "_law_renamed_fits", defArgs s_renamed_fits, defBody s_renamed_fits, defScope s_renamed_fits, [], []⟩,
  ⟨("law", none), "law", "law", defArgs s_law, defBody s_law, defScope s_law, [], []⟩,
  ⟨("Lot", some "__iter__"), "__iter__", "Lot.__iter__", defArgs s_Lot_iter, defBody s_Lot_iter, defScope s_Lot_iter, [], []⟩,
  ⟨("_wall", none), "_wall", "_wall", defArgs s__wall, defBody s__wall, defScope s__wall, [], []⟩,
  ⟨("BadWay", some "__init__"), "__init__", "BadWay.__init__", defArgs s_BadWay_init, defBody s_BadWay_init, defScope s_BadWay_init, [], []⟩,
  ⟨("BadMark", some "__init__"), "__init__", "BadMark.__init__", defArgs s_BadMark_init, defBody s_BadMark_init, defScope s_BadMark_init, [], []⟩,
  ⟨("TwoMarks", some "__init__"), "__init__", "TwoMarks.__init__", defArgs s_TwoMarks_init, defBody s_TwoMarks_init, defScope s_TwoMarks_init, [], []⟩,
  ⟨("BadPlace", some "__init__"), "__init__", "BadPlace.__init__", defArgs s_BadPlace_init, defBody s_BadPlace_init, defScope s_BadPlace_init, [], []⟩]
def pqs : List PropD := [⟨"Web", "gates", ⟨("", none), "gates", "Web.gates", defArgs s_Web_gates, defBody s_Web_gates, defScope s_Web_gates, [], []⟩⟩]
def fas : List He.Fa := [.glo "_wall", .glo "is_number", .glo "is_below", .glo "check_lot", .glo "places_of", .glo "gate_pairs", .glo "check_places", .glo "check_edges", .glo "is_pair", .glo "check_entry", .glo "check_exits", .glo "check_idle", .glo "reached", .glo "placing_of", .glo "marked_gates", .glo "_law_pool", .glo "_law_draw", .glo "_law_ahead", .glo "_law_web", .glo "_law_made", .glo "_law_way", .glo "_law_far", .glo "_law_some", .glo "_law_moved", .glo "_law_turned_fits", .glo "_law_renamed_fits", .glo "law", .int "MOST_PLACES" 24, .int "MOST_EDGES" 80, .int "OUTSIDE" (-1), .free "len", .free "isinstance", .free "int", .free "bool", .free "list", .free "tuple", .free "set", .free "enumerate", .free "range", .free "sorted", .free "iter", .free "all", .free "min", .glo "Web", .cls "Web", .mkr "Web", .meth "Web" "__eq__", .glo "BadExit", .exm "BadExit" "BadExit" true, .glo "BadWay", .exm "BadWay" "BadWay" true, .noat "Web" "places", .noat "Web" "edges", .noat "Web" "entry", .noat "Web" "exits", .meth "Web" "ends", .meth "Web" "gate_in", .meth "Web" "gate_out", .glo "BadPlace", .glo "BadMark", .glo "TwoMarks", .glo "Lot", .cls "Lot", .mkr "Lot", .noat "Lot" "places", .glo "Placing", .cls "Placing", .mkr "Placing", .noat "Placing" "saves", .noat "Placing" "backs", .meth "Lot" "__iter__", .exm "BadPlace" "BadPlace" true, .free "abs", .noat "BadWay" "index", .noat "BadMark" "number", .noat "TwoMarks" "number", .noat "BadPlace" "number"]
def initB (K : PySem.W.Frag) (C : Addr) : Bool := oexB K C && (eqOB (PySem.W.findIn K (.ref C) "__init__") (some (some (.ref (He.ma K C "__init__")))) && eqVB (PySem.W.typeIn K (.ref (He.ma K C "__init__"))) (some (.type "function")))
def excB (K : PySem.W.Frag) (C : Addr) : Bool := eqOB (PySem.W.findIn K (.ref C) "__getattribute__") (some (some (.builtin "BaseException.__getattribute__"))) && (eqOB (PySem.W.findIn K (.ref C) "__getattr__") (some none) && (eqBB (PySem.W.subIn K (.ref C) (.type "BaseException")) (some true) && (PySem.W.hasDictIn K C &&
  (eqOB (PySem.W.findIn K (.ref C) "__class__") (some (some (.builtin "object.__class__"))) && (eqOB (PySem.W.specialIn K (.builtin "object.__class__") "__get__") (some (some (.builtin "getset_descriptor.__get__"))) && (eqBB (PySem.W.takesIn K (.builtin "object.__class__")) (some true) && eqBB (PySem.W.mroIn K C (.type "object")) (some true)))))))
def noB (K : PySem.W.Frag) (C : Addr) : Bool := PySem.W.excIn K C He.veBase "ValueError.__new__" && (PySem.W.keepIn K (.ref C) && (eqBB (PySem.W.subIn K (.ref C) (.type "BaseException")) (some true) && eqVB (PySem.W.typeIn K (.ref C)) (some (.type "type"))))
def insB (K : PySem.W.Frag) (C : Addr) : Bool := eqOB (PySem.W.findIn K (.ref C) "__class__") (some (some (.builtin "object.__class__"))) && (eqOB (PySem.W.specialIn K (.builtin "object.__class__") "__get__") (some (some (.builtin "getset_descriptor.__get__"))) &&
  (eqBB (PySem.W.takesIn K (.builtin "object.__class__")) (some true) && (eqBB (PySem.W.mroIn K C (.type "object")) (some true) && eqBB (PySem.W.kitOne K (.ref C) (.ref C)) (some true))))
def kindB (K : PySem.W.Frag) (x : Str) : Bool := excB K (He.ga K x) && eqBB (PySem.W.kitOne K (.ref (He.ga K x)) (.ref (He.ga K "SeatError"))) (some true)
def valsB : List V → List Value → Bool
  | [], [] => true
  | v :: vs, u :: us => He.relB v u && valsB vs us
  | _, _ => false
def tupB (K : PySem.W.Frag) (x : Str × List V) : Bool := match List.lookup (He.ga K x.1) K with
  | some ⟨.type "tuple", _, .seq its _, _⟩ => decide (its.size ≤ 1000) && valsB x.2 its.toList
  | _ => false
def neB (K : PySem.W.Frag) (C : Addr) : Bool := eqOB (PySem.W.findIn K (.ref C) "__ne__") (some (some (.builtin "object.__ne__"))) && eqBB (PySem.W.mroIn K C (.type "object")) (some true)
def ktyB (K : PySem.W.Frag) (x : Str × String × Bool) : Bool := eqBB (PySem.W.kitOne K (.ref (He.ga K x.1)) (.type x.2.1)) (some x.2.2)
def ktys : List (Str × String × Bool) := []
def nes : List Str := []
def subs : List Str := ["BadWay"]
def subB (K : PySem.W.Frag) (x : Str) : Bool := eqBB (PySem.W.subIn K (.ref (He.ga K x)) (.type "StopIteration")) (some false)
def tups : List (Str × List V) := []
def errs : List Str := ["BadWay", "BadMark", "TwoMarks", "BadPlace"]
def kinds : List Str := []
def nos : List Str := []
def inss : List Str := ["Web", "Lot", "Placing"]
def firsts : List Str := []
def exB (K : PySem.W.Frag) : Bool := (nos.all fun x => noB K (He.ga K x)) && ((errs.all fun x => errB K (He.ga K x)) && ((errs.all fun x => initB K (He.ga K x)) && ((kinds.all fun x => kindB K x) && ((inss.all fun x => insB K (He.ga K x)) && ((firsts.all fun x => PySem.W.selfFirst K (He.ga K x)) && ((tups.all fun x => tupB K x) && ((nes.all fun x => neB K (He.ga K x)) && ((ktys.all fun x => ktyB K x) && ((subs.all fun x => subB K x) && pqs.all fun q => q.ok K)))))))))
abbrev RR : PySem.W.OpenRow := PySem.W.OpenLaw.row PySem.Challenge.rw_savedseats_k11_whole_webs_turned_about
abbrev hkx : PySem.W.Hook := hookP 5 fas fns pqs exB
def obx (s : PySem.W.SharedT) : AlP := obsP 5 fas fns pqs exB (HandSHeadRun.getT s)
theorem obx_eq (s : PySem.W.SharedT) : obx s = hkx.obs s.abs := obsP_eq 5 fas fns pqs exB (HandSHeadRun.getT_eq s)
def loose : List Str := (["BadEdge", "BadEdges", "BadEntry", "BadExit", "BadMark", "BadPlace", "BadPlaces", "BadWay", "Idle", "Lot", "MOST_EDGES", "MOST_PLACES", "NoExits", "OUTSIDE", "Placing", "SeatError", "TwoMarks", "Web", "__name__", "_law_ahead"] : List Str) ++ (["_law_draw", "_law_far", "_law_made", "_law_moved", "_law_pool", "_law_renamed_fits", "_law_some", "_law_turned_fits", "_law_way", "_law_web", "_wall", "check_edges", "check_entry", "check_exits", "check_idle", "check_lot", "check_places", "gate_pairs", "is_below", "is_number"] : List Str) ++ (["is_pair", "marked_gates", "places_of", "placing_of", "reached"] : List Str)
theorem runx (w : World) : HandSHeadRun.RunEq RR (PySem.W.view RR.prog [50]) hkx obx 100000 loose w := by
  intro os
  kernel_rfl
section
variable {P : Program} {w : World} {K : PySem.W.Frag} {mg : Str → Option Value} {h : Heap}
theorem excB_ok {C : Addr} (e : excB K C = true) : ExcC K C := by
  obtain ⟨b1, b⟩ := andB e
  obtain ⟨b2, b⟩ := andB b
  obtain ⟨b3, b⟩ := andB b
  obtain ⟨b4, b⟩ := andB b
  obtain ⟨b5, b⟩ := andB b
  obtain ⟨b6, b⟩ := andB b
  obtain ⟨b7, b8⟩ := andB b
  exact ⟨of_decide_eq_true b1, of_decide_eq_true b2, of_decide_eq_true b3, b4, of_decide_eq_true b5, of_decide_eq_true b6, of_decide_eq_true b7, of_decide_eq_true b8⟩
structure Ex (K : PySem.W.Frag) : Prop where
  no : ∀ x ∈ nos, PySem.W.excIn K (He.ga K x) He.veBase "ValueError.__new__" = true ∧ PySem.W.keepIn K (.ref (He.ga K x)) = true ∧ PySem.W.subIn K (.ref (He.ga K x)) (.type "BaseException") = some true ∧ PySem.W.typeIn K (.ref (He.ga K x)) = some (.type "type")
  err : ∀ x ∈ errs, errB K (He.ga K x) = true
  init : ∀ x ∈ errs, initB K (He.ga K x) = true
  kinds : ∀ x ∈ kinds, ExcC K (He.ga K x) ∧ PySem.W.kitOne K (.ref (He.ga K x)) (.ref (He.ga K "SeatError")) = some true
  ins : ∀ x ∈ inss, insB K (He.ga K x) = true
  first : ∀ x ∈ firsts, PySem.W.selfFirst K (He.ga K x) = true
  tup : ∀ x ∈ tups, tupB K x = true
  ne : ∀ x ∈ nes, neB K (He.ga K x) = true
  kty : ∀ x ∈ ktys, ktyB K x = true
  sub : ∀ x ∈ subs, subB K x = true
  pq : ∀ q ∈ pqs, q.ok K = true
theorem ex_of (c : exB K = true) : Ex K := by
  obtain ⟨c0, c⟩ := andB c
  obtain ⟨c1, c⟩ := andB c
  obtain ⟨c2, c⟩ := andB c
  obtain ⟨c3, c⟩ := andB c
  obtain ⟨c4, c⟩ := andB c
  obtain ⟨c5, c⟩ := andB c
  obtain ⟨c6, c⟩ := andB c
  obtain ⟨c7, c⟩ := andB c
  obtain ⟨c8, c⟩ := andB c
  obtain ⟨c9, c10⟩ := andB c
  refine ⟨fun x hx => ?_, List.all_eq_true.mp c1, List.all_eq_true.mp c2, fun x hx => ?_, List.all_eq_true.mp c4, List.all_eq_true.mp c5, List.all_eq_true.mp c6, List.all_eq_true.mp c7, List.all_eq_true.mp c8, List.all_eq_true.mp c9, List.all_eq_true.mp c10⟩
  · obtain ⟨b1, b⟩ := andB (List.all_eq_true.mp c0 x hx)
    obtain ⟨b2, b⟩ := andB b
    obtain ⟨b3, b4⟩ := andB b
    exact ⟨b1, b2, of_decide_eq_true b3, of_decide_eq_true b4⟩
  · obtain ⟨k1, k2⟩ := andB (List.all_eq_true.mp c3 x hx)
    exact ⟨excB_ok k1, of_decide_eq_true k2⟩
theorem ins_of {C : Addr} (L : Cls K C) (e : insB K C = true) : C8.InsC K C := by
  obtain ⟨b1, b⟩ := andB e
  obtain ⟨b2, b⟩ := andB b
  obtain ⟨b3, b⟩ := andB b
  obtain ⟨b4, b5⟩ := andB b
  exact ⟨L, of_decide_eq_true b1, of_decide_eq_true b2, of_decide_eq_true b3, of_decide_eq_true b4, of_decide_eq_true b5⟩
theorem fn_in {x qual : Str} {params : Arguments} {body : List Stmt} {scope : Scope} {dvs : List V} {kws : List (Str × V)} {f : Addr} {fd : FuncData} (F : FunD K x qual params body scope dvs kws f fd) : PySem.W.fnIn K f = true := by
  obtain ⟨oc, od, dV, kV, doc, pm, an, cdv, ct, osl, e, lk, _⟩ := F.ex
  unfold PySem.W.fnIn
  rw [lk]
theorem prop_gates (e : exB K = true) (ep : (pqs.map fun q => fnAt K (q.g K)) = pqs.map fun q => q.d.val) : (∃ fd, FunD K "gates" "Web.gates" (defArgs s_Web_gates) (defBody s_Web_gates) (defScope s_Web_gates) [] [] (wG K) fd) ∧ PropOf K (He.ga K "Web") "gates" (wP K) (wG K) := by
  have h1 : fnAt K ((⟨"Web", "gates", ⟨("", none), "gates", "Web.gates", defArgs s_Web_gates, defBody s_Web_gates, defScope s_Web_gates, [], []⟩⟩ : PropD).g K) = (⟨"Web", "gates", ⟨("", none), "gates", "Web.gates", defArgs s_Web_gates, defBody s_Web_gates, defScope s_Web_gates, [], []⟩⟩ : PropD).d.val := (List.cons.inj ep).1
  exact PropD.funD h1 ((ex_of e).pq _ (by unfold pqs; simp))
theorem of_TxW (X : K.In h) (G : h.Ns mainGlobals mg) (c : He.SaysD fas fns K) (e : exB K = true) (ep : (pqs.map fun q => fnAt K (q.g K)) = pqs.map fun q => q.d.val) : TxW K mg where
  g__wall := He.glo_ok X G (c.fact 0 (f := .glo "_wall") rfl)
  k__wall := (c.def_ 36 rfl).elim fun _ F => F.kp
  g_is_number := He.glo_ok X G (c.fact 1 (f := .glo "is_number") rfl)
  k_is_number := (c.def_ 0 rfl).elim fun _ F => F.kp
  g_is_below := He.glo_ok X G (c.fact 2 (f := .glo "is_below") rfl)
  k_is_below := (c.def_ 1 rfl).elim fun _ F => F.kp
  g_check_lot := He.glo_ok X G (c.fact 3 (f := .glo "check_lot") rfl)
  k_check_lot := (c.def_ 28 rfl).elim fun _ F => F.kp
  g_places_of := He.glo_ok X G (c.fact 4 (f := .glo "places_of") rfl)
  k_places_of := (c.def_ 18 rfl).elim fun _ F => F.kp
  g_gate_pairs := He.glo_ok X G (c.fact 5 (f := .glo "gate_pairs") rfl)
  k_gate_pairs := (c.def_ 13 rfl).elim fun _ F => F.kp
  g_check_places := He.glo_ok X G (c.fact 6 (f := .glo "check_places") rfl)
  k_check_places := (c.def_ 2 rfl).elim fun _ F => F.kp
  g_check_edges := He.glo_ok X G (c.fact 7 (f := .glo "check_edges") rfl)
  k_check_edges := (c.def_ 6 rfl).elim fun _ F => F.kp
  g_is_pair := He.glo_ok X G (c.fact 8 (f := .glo "is_pair") rfl)
  k_is_pair := (c.def_ 3 rfl).elim fun _ F => F.kp
  g_check_entry := He.glo_ok X G (c.fact 9 (f := .glo "check_entry") rfl)
  k_check_entry := (c.def_ 4 rfl).elim fun _ F => F.kp
  g_check_exits := He.glo_ok X G (c.fact 10 (f := .glo "check_exits") rfl)
  k_check_exits := (c.def_ 5 rfl).elim fun _ F => F.kp
  g_check_idle := He.glo_ok X G (c.fact 11 (f := .glo "check_idle") rfl)
  k_check_idle := (c.def_ 8 rfl).elim fun _ F => F.kp
  g_reached := He.glo_ok X G (c.fact 12 (f := .glo "reached") rfl)
  k_reached := (c.def_ 7 rfl).elim fun _ F => F.kp
  g_placing_of := He.glo_ok X G (c.fact 13 (f := .glo "placing_of") rfl)
  k_placing_of := (c.def_ 30 rfl).elim fun _ F => F.kp
  g_marked_gates := He.glo_ok X G (c.fact 14 (f := .glo "marked_gates") rfl)
  k_marked_gates := (c.def_ 29 rfl).elim fun _ F => F.kp
  g__law_pool := He.glo_ok X G (c.fact 15 (f := .glo "_law_pool") rfl)
  k__law_pool := (c.def_ 9 rfl).elim fun _ F => F.kp
  g__law_draw := He.glo_ok X G (c.fact 16 (f := .glo "_law_draw") rfl)
  k__law_draw := (c.def_ 10 rfl).elim fun _ F => F.kp
  g__law_ahead := He.glo_ok X G (c.fact 17 (f := .glo "_law_ahead") rfl)
  k__law_ahead := (c.def_ 14 rfl).elim fun _ F => F.kp
  g__law_web := He.glo_ok X G (c.fact 18 (f := .glo "_law_web") rfl)
  k__law_web := (c.def_ 15 rfl).elim fun _ F => F.kp
  g__law_made := He.glo_ok X G (c.fact 19 (f := .glo "_law_made") rfl)
  k__law_made := (c.def_ 16 rfl).elim fun _ F => F.kp
  g__law_way := He.glo_ok X G (c.fact 20 (f := .glo "_law_way") rfl)
  k__law_way := (c.def_ 20 rfl).elim fun _ F => F.kp
  g__law_far := He.glo_ok X G (c.fact 21 (f := .glo "_law_far") rfl)
  k__law_far := (c.def_ 19 rfl).elim fun _ F => F.kp
  g__law_some := He.glo_ok X G (c.fact 22 (f := .glo "_law_some") rfl)
  k__law_some := (c.def_ 17 rfl).elim fun _ F => F.kp
  g__law_moved := He.glo_ok X G (c.fact 23 (f := .glo "_law_moved") rfl)
  k__law_moved := (c.def_ 31 rfl).elim fun _ F => F.kp
  g__law_turned_fits := He.glo_ok X G (c.fact 24 (f := .glo "_law_turned_fits") rfl)
  k__law_turned_fits := (c.def_ 32 rfl).elim fun _ F => F.kp
  g__law_renamed_fits := He.glo_ok X G (c.fact 25 (f := .glo "_law_renamed_fits") rfl)
  k__law_renamed_fits := (c.def_ 33 rfl).elim fun _ F => F.kp
  g_law := He.glo_ok X G (c.fact 26 (f := .glo "law") rfl)
  k_law := (c.def_ 34 rfl).elim fun _ F => F.kp
  c_MOST_PLACES := He.int_ok X G (c.fact 27 (f := .int "MOST_PLACES" 24) rfl)
  c_MOST_EDGES := He.int_ok X G (c.fact 28 (f := .int "MOST_EDGES" 80) rfl)
  c_OUTSIDE := He.int_ok X G (c.fact 29 (f := .int "OUTSIDE" (-1)) rfl)
  n_len := He.free_ok X G (c.fact 30 (f := .free "len") rfl)
  n_isinstance := He.free_ok X G (c.fact 31 (f := .free "isinstance") rfl)
  n_int := He.free_ok X G (c.fact 32 (f := .free "int") rfl)
  n_bool := He.free_ok X G (c.fact 33 (f := .free "bool") rfl)
  n_list := He.free_ok X G (c.fact 34 (f := .free "list") rfl)
  n_tuple := He.free_ok X G (c.fact 35 (f := .free "tuple") rfl)
  n_set := He.free_ok X G (c.fact 36 (f := .free "set") rfl)
  n_enumerate := He.free_ok X G (c.fact 37 (f := .free "enumerate") rfl)
  n_range := He.free_ok X G (c.fact 38 (f := .free "range") rfl)
  n_sorted := He.free_ok X G (c.fact 39 (f := .free "sorted") rfl)
  n_iter := He.free_ok X G (c.fact 40 (f := .free "iter") rfl)
  n_all := He.free_ok X G (c.fact 41 (f := .free "all") rfl)
  n_min := He.free_ok X G (c.fact 42 (f := .free "min") rfl)
  g_Web := He.glo_ok X G (c.fact 43 (f := .glo "Web") rfl)
  cl_Web := He.cls_ok (c.fact 44 (f := .cls "Web") rfl)
  mk_Web := He.mkr_ok (c.fact 45 (f := .mkr "Web") rfl)
  ins_Web := ins_of (He.cls_ok (c.fact 44 (f := .cls "Web") rfl)) ((ex_of e).ins "Web" (by decide +kernel))
  eq_Web := (He.meth_ok (c.fact 46 (f := .meth "Web" "__eq__") rfl)).at_
  eqf_Web := (He.meth_ok (c.fact 46 (f := .meth "Web" "__eq__") rfl)).fn
  pr_gates := (prop_gates e ep).2
  g_BadExit := He.glo_ok X G (c.fact 47 (f := .glo "BadExit") rfl)
  x_BadExit := He.exm_ok (c.fact 48 (f := .exm "BadExit" "BadExit" true) rfl)
  g_BadWay := He.glo_ok X G (c.fact 49 (f := .glo "BadWay") rfl)
  s_BadWay := of_decide_eq_true ((ex_of e).sub "BadWay" (by decide +kernel))
  x_BadWay := He.exm_ok (c.fact 50 (f := .exm "BadWay" "BadWay" true) rfl)
  na_places := He.noat_ok (c.fact 51 (f := .noat "Web" "places") rfl)
  na_edges := He.noat_ok (c.fact 52 (f := .noat "Web" "edges") rfl)
  na_entry := He.noat_ok (c.fact 53 (f := .noat "Web" "entry") rfl)
  na_exits := He.noat_ok (c.fact 54 (f := .noat "Web" "exits") rfl)
  m_ends := He.meth_ok (c.fact 55 (f := .meth "Web" "ends") rfl)
  m_gate_in := He.meth_ok (c.fact 56 (f := .meth "Web" "gate_in") rfl)
  m_gate_out := He.meth_ok (c.fact 57 (f := .meth "Web" "gate_out") rfl)
theorem of_TxC (X : K.In h) (G : h.Ns mainGlobals mg) (c : He.SaysD fas fns K) (e : exB K = true) (ep : (pqs.map fun q => fnAt K (q.g K)) = pqs.map fun q => q.d.val) : TxC K mg where
  g_is_number := He.glo_ok X G (c.fact 1 (f := .glo "is_number") rfl)
  k_is_number := (c.def_ 0 rfl).elim fun _ F => F.kp
  n_isinstance := He.free_ok X G (c.fact 31 (f := .free "isinstance") rfl)
  n_int := He.free_ok X G (c.fact 32 (f := .free "int") rfl)
  n_bool := He.free_ok X G (c.fact 33 (f := .free "bool") rfl)
  n_list := He.free_ok X G (c.fact 34 (f := .free "list") rfl)
  n_tuple := He.free_ok X G (c.fact 35 (f := .free "tuple") rfl)
  n_set := He.free_ok X G (c.fact 36 (f := .free "set") rfl)
  n_sorted := He.free_ok X G (c.fact 39 (f := .free "sorted") rfl)
  n_len := He.free_ok X G (c.fact 30 (f := .free "len") rfl)
  n_iter := He.free_ok X G (c.fact 40 (f := .free "iter") rfl)
  g_BadPlace := He.glo_ok X G (c.fact 58 (f := .glo "BadPlace") rfl)
  g_BadMark := He.glo_ok X G (c.fact 59 (f := .glo "BadMark") rfl)
  g_TwoMarks := He.glo_ok X G (c.fact 60 (f := .glo "TwoMarks") rfl)
  g_Lot := He.glo_ok X G (c.fact 61 (f := .glo "Lot") rfl)
  cl_Lot := He.cls_ok (c.fact 62 (f := .cls "Lot") rfl)
  ins_Lot := ins_of (He.cls_ok (c.fact 62 (f := .cls "Lot") rfl)) ((ex_of e).ins "Lot" (by decide +kernel))
  mk_Lot := He.mkr_ok (c.fact 63 (f := .mkr "Lot") rfl)
  na_places := He.noat_ok (c.fact 64 (f := .noat "Lot" "places") rfl)
  na_Lot_places := He.noat_ok (c.fact 64 (f := .noat "Lot" "places") rfl)
  g_Placing := He.glo_ok X G (c.fact 65 (f := .glo "Placing") rfl)
  cl_Placing := He.cls_ok (c.fact 66 (f := .cls "Placing") rfl)
  ins_Placing := ins_of (He.cls_ok (c.fact 66 (f := .cls "Placing") rfl)) ((ex_of e).ins "Placing" (by decide +kernel))
  mk_Placing := He.mkr_ok (c.fact 67 (f := .mkr "Placing") rfl)
  na_saves := He.noat_ok (c.fact 68 (f := .noat "Placing" "saves") rfl)
  na_Placing_saves := He.noat_ok (c.fact 68 (f := .noat "Placing" "saves") rfl)
  na_backs := He.noat_ok (c.fact 69 (f := .noat "Placing" "backs") rfl)
  na_Placing_backs := He.noat_ok (c.fact 69 (f := .noat "Placing" "backs") rfl)
  o_Lot_iter := ⟨(He.meth_ok (c.fact 70 (f := .meth "Lot" "__iter__") rfl)).at_, (He.meth_ok (c.fact 70 (f := .meth "Lot" "__iter__") rfl)).fn⟩
  x_BadPlace := He.exm_ok (c.fact 71 (f := .exm "BadPlace" "BadPlace" true) rfl)
theorem i_BadWay (c : He.SaysD fas fns K) (e : exB K = true) (base : Heap) : ErrI P w K mg base (He.ga K "BadWay") "index" := by
  obtain ⟨fd, F⟩ := c.def_ 37 (d := ⟨("BadWay", some "__init__"), "__init__", "BadWay.__init__", defArgs s_BadWay_init, defBody s_BadWay_init, defScope s_BadWay_init, [], []⟩) rfl
  have E := errB_ok ((ex_of e).err "BadWay" (by decide +kernel))
  obtain ⟨b1, b⟩ := andB ((ex_of e).init "BadWay" (by decide +kernel))
  obtain ⟨b2, b3⟩ := andB b
  have no := He.noat_ok (c.fact 73 (f := .noat "BadWay" "index") rfl)
  exact ⟨E, E.oex b1, no, _, fd, of_decide_eq_true b2, of_decide_eq_true b3, oki_BadWay_init F (E.oex b1) no, FunD.bindsN (ps := ["self", "index"]) F fun _ _ _ _ _ _ us hl => match us, hl with | [_, _], _ => rfl⟩
theorem i_BadMark (c : He.SaysD fas fns K) (e : exB K = true) (base : Heap) : ErrI P w K mg base (He.ga K "BadMark") "number" := by
  obtain ⟨fd, F⟩ := c.def_ 38 (d := ⟨("BadMark", some "__init__"), "__init__", "BadMark.__init__", defArgs s_BadMark_init, defBody s_BadMark_init, defScope s_BadMark_init, [], []⟩) rfl
  have E := errB_ok ((ex_of e).err "BadMark" (by decide +kernel))
  obtain ⟨b1, b⟩ := andB ((ex_of e).init "BadMark" (by decide +kernel))
  obtain ⟨b2, b3⟩ := andB b
  have no := He.noat_ok (c.fact 74 (f := .noat "BadMark" "number") rfl)
  exact ⟨E, E.oex b1, no, _, fd, of_decide_eq_true b2, of_decide_eq_true b3, oki_BadMark_init F (E.oex b1) no, FunD.bindsN (ps := ["self", "number"]) F fun _ _ _ _ _ _ us hl => match us, hl with | [_, _], _ => rfl⟩
theorem i_TwoMarks (c : He.SaysD fas fns K) (e : exB K = true) (base : Heap) : ErrI P w K mg base (He.ga K "TwoMarks") "number" := by
  obtain ⟨fd, F⟩ := c.def_ 39 (d := ⟨("TwoMarks", some "__init__"), "__init__", "TwoMarks.__init__", defArgs s_TwoMarks_init, defBody s_TwoMarks_init, defScope s_TwoMarks_init, [], []⟩) rfl
  have E := errB_ok ((ex_of e).err "TwoMarks" (by decide +kernel))
  obtain ⟨b1, b⟩ := andB ((ex_of e).init "TwoMarks" (by decide +kernel))
  obtain ⟨b2, b3⟩ := andB b
  have no := He.noat_ok (c.fact 75 (f := .noat "TwoMarks" "number") rfl)
  exact ⟨E, E.oex b1, no, _, fd, of_decide_eq_true b2, of_decide_eq_true b3, oki_TwoMarks_init F (E.oex b1) no, FunD.bindsN (ps := ["self", "number"]) F fun _ _ _ _ _ _ us hl => match us, hl with | [_, _], _ => rfl⟩
theorem i_BadPlace (c : He.SaysD fas fns K) (e : exB K = true) (base : Heap) : ErrI P w K mg base (He.ga K "BadPlace") "number" := by
  obtain ⟨fd, F⟩ := c.def_ 40 (d := ⟨("BadPlace", some "__init__"), "__init__", "BadPlace.__init__", defArgs s_BadPlace_init, defBody s_BadPlace_init, defScope s_BadPlace_init, [], []⟩) rfl
  have E := errB_ok ((ex_of e).err "BadPlace" (by decide +kernel))
  obtain ⟨b1, b⟩ := andB ((ex_of e).init "BadPlace" (by decide +kernel))
  obtain ⟨b2, b3⟩ := andB b
  have no := He.noat_ok (c.fact 76 (f := .noat "BadPlace" "number") rfl)
  exact ⟨E, E.oex b1, no, _, fd, of_decide_eq_true b2, of_decide_eq_true b3, oki_BadPlace_init F (E.oex b1) no, FunD.bindsN (ps := ["self", "number"]) F fun _ _ _ _ _ _ us hl => match us, hl with | [_, _], _ => rfl⟩
theorem facts {f : Addr} (X : K.In h) (G : h.Ns mainGlobals mg) (hfa : mg ("law" : Str) = some (.ref f)) (c : He.SaysD fas fns K) (e : exB K = true) (ep : (pqs.map fun q => fnAt K (q.g K)) = pqs.map fun q => q.d.val) :
    ∃ fd : FuncData, (∀ (s : Shared) (v : Value), BindsTo s fd ⟨[v], []⟩ [("_law_script", v)]) ∧ ∀ base : Heap, K.In base → base.Ns mainGlobals mg → FnOk P w K mg base CX0 8 f fd ["_law_script"] (spLaw K) := by
  obtain ⟨fd_is_number, F_is_number⟩ := c.def_ 0 (d := ⟨("is_number", none), "is_number", "is_number", defArgs s_is_number, defBody s_is_number, defScope s_is_number, [], []⟩) rfl
  obtain ⟨fd_is_below, F_is_below⟩ := c.def_ 1 (d := ⟨("is_below", none), "is_below", "is_below", defArgs s_is_below, defBody s_is_below, defScope s_is_below, [], []⟩) rfl
  obtain ⟨fd_check_places, F_check_places⟩ := c.def_ 2 (d := ⟨("check_places", none), "check_places", "check_places", defArgs s_check_places, defBody s_check_places, defScope s_check_places, [], []⟩) rfl
  obtain ⟨fd_is_pair, F_is_pair⟩ := c.def_ 3 (d := ⟨("is_pair", none), "is_pair", "is_pair", defArgs s_is_pair, defBody s_is_pair, defScope s_is_pair, [], []⟩) rfl
  obtain ⟨fd_check_entry, F_check_entry⟩ := c.def_ 4 (d := ⟨("check_entry", none), "check_entry", "check_entry", defArgs s_check_entry, defBody s_check_entry, defScope s_check_entry, [], []⟩) rfl
  obtain ⟨fd_check_exits, F_check_exits⟩ := c.def_ 5 (d := ⟨("check_exits", none), "check_exits", "check_exits", defArgs s_check_exits, defBody s_check_exits, defScope s_check_exits, [], []⟩) rfl
  obtain ⟨fd_check_edges, F_check_edges⟩ := c.def_ 6 (d := ⟨("check_edges", none), "check_edges", "check_edges", defArgs s_check_edges, defBody s_check_edges, defScope s_check_edges, [], []⟩) rfl
  obtain ⟨fd_reached, F_reached⟩ := c.def_ 7 (d := ⟨("reached", none), "reached", "reached", defArgs s_reached, defBody s_reached, defScope s_reached, [], []⟩) rfl
  obtain ⟨fd_check_idle, F_check_idle⟩ := c.def_ 8 (d := ⟨("check_idle", none), "check_idle", "check_idle", defArgs s_check_idle, defBody s_check_idle, defScope s_check_idle, [], []⟩) rfl
  obtain ⟨fd_pool, F_pool⟩ := c.def_ 9 (d := ⟨("_law_pool", none), "_law_pool", "_law_pool", defArgs s_pool, defBody s_pool, defScope s_pool, [], []⟩) rfl
  obtain ⟨fd_draw, F_draw⟩ := c.def_ 10 (d := ⟨("_law_draw", none), "_law_draw", "_law_draw", defArgs s_draw, defBody s_draw, defScope s_draw, [], []⟩) rfl
  obtain ⟨fd_Web_init, F_Web_init⟩ := c.def_ 11 (d := ⟨("Web", some "__init__"), "__init__", "Web.__init__", defArgs s_Web_init, defBody s_Web_init, defScope s_Web_init, [], []⟩) rfl
  obtain ⟨fd_Web_eq, F_Web_eq⟩ := c.def_ 12 (d := ⟨("Web", some "__eq__"), "__eq__", "Web.__eq__", defArgs s_Web_eq, defBody s_Web_eq, defScope s_Web_eq, [], []⟩) rfl
  obtain ⟨⟨fd_Web_gates, F_Web_gates⟩, _⟩ := prop_gates e ep
  obtain ⟨fd_gate_pairs, F_gate_pairs⟩ := c.def_ 13 (d := ⟨("gate_pairs", none), "gate_pairs", "gate_pairs", defArgs s_gate_pairs, defBody s_gate_pairs, defScope s_gate_pairs, [], []⟩) rfl
  obtain ⟨fd_ahead, F_ahead⟩ := c.def_ 14 (d := ⟨("_law_ahead", none), "_law_ahead", "_law_ahead", defArgs s_ahead, defBody s_ahead, defScope s_ahead, [], []⟩) rfl
  obtain ⟨fd_web, F_web⟩ := c.def_ 15 (d := ⟨("_law_web", none), "_law_web", "_law_web", defArgs s_web, defBody s_web, defScope s_web, [], []⟩) rfl
  obtain ⟨fd_made, F_made⟩ := c.def_ 16 (d := ⟨("_law_made", none), "_law_made", "_law_made", defArgs s_made, defBody s_made, defScope s_made, [], []⟩) rfl
  obtain ⟨fd_some, F_some⟩ := c.def_ 17 (d := ⟨("_law_some", none), "_law_some", "_law_some", defArgs s_some, defBody s_some, defScope s_some, [], []⟩) rfl
  obtain ⟨fd_places_of, F_places_of⟩ := c.def_ 18 (d := ⟨("places_of", none), "places_of", "places_of", defArgs s_places_of, defBody s_places_of, defScope s_places_of, [], []⟩) rfl
  obtain ⟨fd_far, F_far⟩ := c.def_ 19 (d := ⟨("_law_far", none), "_law_far", "_law_far", defArgs s_far, defBody s_far, defScope s_far, [], []⟩) rfl
  obtain ⟨fd_way, F_way⟩ := c.def_ 20 (d := ⟨("_law_way", none), "_law_way", "_law_way", defArgs s_way, defBody s_way, defScope s_way, [], []⟩) rfl
  obtain ⟨fd_Placing_init, F_Placing_init⟩ := c.def_ 21 (d := ⟨("Placing", some "__init__"), "__init__", "Placing.__init__", defArgs s_Placing_init, defBody s_Placing_init, defScope s_Placing_init, [], []⟩) rfl
  obtain ⟨fd_Placing_eq, F_Placing_eq⟩ := c.def_ 22 (d := ⟨("Placing", some "__eq__"), "__eq__", "Placing.__eq__", defArgs s_Placing_eq, defBody s_Placing_eq, defScope s_Placing_eq, [], []⟩) rfl
  obtain ⟨fd_Placing_len, F_Placing_len⟩ := c.def_ 23 (d := ⟨("Placing", some "__len__"), "__len__", "Placing.__len__", defArgs s_Placing_len, defBody s_Placing_len, defScope s_Placing_len, [], []⟩) rfl
  obtain ⟨fd_Lot_init, F_Lot_init⟩ := c.def_ 24 (d := ⟨("Lot", some "__init__"), "__init__", "Lot.__init__", defArgs s_Lot_init, defBody s_Lot_init, defScope s_Lot_init, [], []⟩) rfl
  obtain ⟨fd_Lot_eq, F_Lot_eq⟩ := c.def_ 25 (d := ⟨("Lot", some "__eq__"), "__eq__", "Lot.__eq__", defArgs s_Lot_eq, defBody s_Lot_eq, defScope s_Lot_eq, [], []⟩) rfl
  obtain ⟨fd_Lot_len, F_Lot_len⟩ := c.def_ 26 (d := ⟨("Lot", some "__len__"), "__len__", "Lot.__len__", defArgs s_Lot_len, defBody s_Lot_len, defScope s_Lot_len, [], []⟩) rfl
  obtain ⟨fd_Lot_contains, F_Lot_contains⟩ := c.def_ 27 (d := ⟨("Lot", some "__contains__"), "__contains__", "Lot.__contains__", defArgs s_Lot_contains, defBody s_Lot_contains, defScope s_Lot_contains, [], []⟩) rfl
  obtain ⟨fd_check_lot, F_check_lot⟩ := c.def_ 28 (d := ⟨("check_lot", none), "check_lot", "check_lot", defArgs s_check_lot, defBody s_check_lot, defScope s_check_lot, [], []⟩) rfl
  obtain ⟨fd_marked_gates, F_marked_gates⟩ := c.def_ 29 (d := ⟨("marked_gates", none), "marked_gates", "marked_gates", defArgs s_marked_gates, defBody s_marked_gates, defScope s_marked_gates, [], []⟩) rfl
  obtain ⟨fd_placing_of, F_placing_of⟩ := c.def_ 30 (d := ⟨("placing_of", none), "placing_of", "placing_of", defArgs s_placing_of, defBody s_placing_of, defScope s_placing_of, [], []⟩) rfl
  obtain ⟨fd_moved, F_moved⟩ := c.def_ 31 (d := ⟨("_law_moved", none), "_law_moved", "_law_moved", defArgs s_moved, defBody s_moved, defScope s_moved, [], []⟩) rfl
  obtain ⟨fd_turned_fits, F_turned_fits⟩ := c.def_ 32 (d := ⟨("_law_turned_fits", none), "_law_turned_fits", "_law_turned_fits", defArgs s_turned_fits, defBody s_turned_fits, defScope s_turned_fits, [], []⟩) rfl
  obtain ⟨fd_renamed_fits, F_renamed_fits⟩ := c.def_ 33 (d := ⟨("_law_renamed_fits", none), "_law_renamed_fits", "_law_renamed_fits", defArgs s_renamed_fits, defBody s_renamed_fits, defScope s_renamed_fits, [], []⟩) rfl
  obtain ⟨fd_law, F_law⟩ := c.def_ 34 (d := ⟨("law", none), "law", "law", defArgs s_law, defBody s_law, defScope s_law, [], []⟩) rfl
  have T0 := of_TxW X G c e ep
  have T1 := of_TxC X G c e ep
  have hlaw := He.glo_ok X G (c.fact 26 (f := .glo "law") rfl)
  have q := hfa.symm.trans hlaw
  cases q
  have b := FunD.bindsA (ps := ["_law_script"]) F_law fun _ _ _ _ _ _ us hl => match us, hl with | [_], _ => rfl
  refine ⟨fd_law, fun s v => b s [v] rfl, fun base _ _ => ?_⟩
  have I_BadWay : ErrI P w K mg base (He.ga K "BadWay") "index" := i_BadWay c e base
  have I_BadMark : ErrI P w K mg base (He.ga K "BadMark") "number" := i_BadMark c e base
  have I_TwoMarks : ErrI P w K mg base (He.ga K "TwoMarks") "number" := i_TwoMarks c e base
  have I_BadPlace : ErrI P w K mg base (He.ga K "BadPlace") "number" := i_BadPlace c e base
  obtain ⟨fd_iter_Lot, F_iter_Lot⟩ := c.def_ 35 (d := ⟨("Lot", some "__iter__"), "__iter__", "Lot.__iter__", defArgs s_Lot_iter, defBody s_Lot_iter, defScope s_Lot_iter, [], []⟩) rfl
  have G_iter_Lot := okn_Lot_iter (P := P) (w := w) (mg := mg) (base := base) F_iter_Lot T1
  have b_iter_Lot := FunD.bindsN (ps := ["self"]) F_iter_Lot fun _ _ _ _ _ _ us hl => match us, hl with | [_], _ => rfl
  have d_is_number : Okd P w K mg base CX0 1 (He.ga K "is_number") ["value"] spIsNum := ⟨_, ok_is_number F_is_number T0, FunD.bindsN F_is_number fun _ _ _ _ _ _ us hl => match us, hl with | [_], _ => rfl⟩
  have d_reached : Okd P w K mg base CX0 1 (He.ga K "reached") ["edges", "starts"] spReached := ⟨_, ok_reached F_reached T0, FunD.bindsN F_reached fun _ _ _ _ _ _ us hl => match us, hl with | [_, _], _ => rfl⟩
  have d_pool : Okd P w K mg base CX0 1 (He.ga K "_law_pool") ["_law_script"] (spPool K) := ⟨_, ok_pool F_pool , FunD.bindsN F_pool fun _ _ _ _ _ _ us hl => match us, hl with | [_], _ => rfl⟩
  have d_draw : Okd P w K mg base CX0 1 (He.ga K "_law_draw") ["_law_pool_here", "_law_limit"] (spDraw K) := ⟨_, ok_draw F_draw ⟨He.free_ok X G (c.fact 30 (f := .free "len") rfl), He.free_ok X G (c.fact 72 (f := .free "abs") rfl), He.free_ok X G (c.fact 32 (f := .free "int") rfl)⟩, FunD.bindsN F_draw fun _ _ _ _ _ _ us hl => match us, hl with | [_, _], _ => rfl⟩
  have d_Web_eq : Okd P w K mg base CX0 1 (He.ma K (He.ga K "Web") "__eq__") ["self", "other"] (spWebEq K) := ⟨_, ok_Web_eq F_Web_eq T0, FunD.bindsN F_Web_eq fun _ _ _ _ _ _ us hl => match us, hl with | [_, _], _ => rfl⟩
  have d_Web_gates : Okd P w K mg base CX0 1 (wG K) ["self"] (spGates K) := ⟨_, ok_Web_gates F_Web_gates T0, FunD.bindsN F_Web_gates fun _ _ _ _ _ _ us hl => match us, hl with | [_], _ => rfl⟩
  have d_gate_pairs : Okd P w K mg base CX0 1 (He.ga K "gate_pairs") ["web"] (spPairs K) := ⟨_, ok_gate_pairs F_gate_pairs T0, FunD.bindsN F_gate_pairs fun _ _ _ _ _ _ us hl => match us, hl with | [_], _ => rfl⟩
  have d_ahead : Okd P w K mg base CX0 1 (He.ga K "_law_ahead") ["_law_pairs", "_law_goals"] spAhead := ⟨_, ok_ahead F_ahead T0, FunD.bindsN F_ahead fun _ _ _ _ _ _ us hl => match us, hl with | [_, _], _ => rfl⟩
  have d_far : Okd P w K mg base CX0 1 (He.ga K "_law_far") ["_law_told", "_law_place"] spFarW := ⟨_, ok_far F_far T0, FunD.bindsN F_far fun _ _ _ _ _ _ us hl => match us, hl with | [_, _], _ => rfl⟩
  have d_Placing_eq : Okd P w K mg base CX0 1 (He.ma K (He.ga K "Placing") "__eq__") ["self", "other"] (spPlEq K) := ⟨_, ok_Placing_eq F_Placing_eq T1, FunD.bindsN F_Placing_eq fun _ _ _ _ _ _ us hl => match us, hl with | [_, _], _ => rfl⟩
  have d_Placing_len : Okd P w K mg base CX0 1 (He.ma K (He.ga K "Placing") "__len__") ["self"] (spPlLen K) := ⟨_, ok_Placing_len F_Placing_len T1, FunD.bindsN F_Placing_len fun _ _ _ _ _ _ us hl => match us, hl with | [_], _ => rfl⟩
  have d_Lot_eq : Okd P w K mg base CX0 1 (He.ma K (He.ga K "Lot") "__eq__") ["self", "other"] (spLotEq K) := ⟨_, ok_Lot_eq F_Lot_eq T1, FunD.bindsN F_Lot_eq fun _ _ _ _ _ _ us hl => match us, hl with | [_, _], _ => rfl⟩
  have d_Lot_len : Okd P w K mg base CX0 1 (He.ma K (He.ga K "Lot") "__len__") ["self"] (spLotLen K) := ⟨_, ok_Lot_len F_Lot_len T1, FunD.bindsN F_Lot_len fun _ _ _ _ _ _ us hl => match us, hl with | [_], _ => rfl⟩
  have d_Lot_contains : Okd P w K mg base CX0 1 (He.ma K (He.ga K "Lot") "__contains__") ["self", "place"] (spLotIn K) := ⟨_, ok_Lot_contains F_Lot_contains T1, FunD.bindsN F_Lot_contains fun _ _ _ _ _ _ us hl => match us, hl with | [_, _], _ => rfl⟩
  have d_check_lot : Okd P w K mg base (L2.CX P w) 3 (He.ga K "check_lot") ["web", "lot"] (spChkLot K) := ⟨_, ok_check_lot F_check_lot T0 T1 I_BadPlace G_iter_Lot b_iter_Lot, FunD.bindsN F_check_lot fun _ _ _ _ _ _ us hl => match us, hl with | [_, _], _ => rfl⟩
  have d_moved : Okd P w K mg base CX0 1 (He.ga K "_law_moved") ["_law_gates", "_law_spots"] (spMoved K) := ⟨_, ok_moved F_moved T0, FunD.bindsN F_moved fun _ _ _ _ _ _ us hl => match us, hl with | [_, _], _ => rfl⟩
  have d_is_below : Okd P w K mg base CX0 2 (He.ga K "is_below") ["value", "limit"] spBelow := ⟨_, ok_is_below F_is_below T0 d_is_number, FunD.bindsN F_is_below fun _ _ _ _ _ _ us hl => match us, hl with | [_, _], _ => rfl⟩
  have d_check_places : Okd P w K mg base CX0 2 (He.ga K "check_places") ["places"] spChkPlaces := ⟨_, ok_check_places F_check_places T0 d_is_number, FunD.bindsN F_check_places fun _ _ _ _ _ _ us hl => match us, hl with | [_], _ => rfl⟩
  have d_check_idle : Okd P w K mg base CX0 2 (He.ga K "check_idle") ["places", "edges", "entry", "exits"] spChkIdle := ⟨_, ok_check_idle F_check_idle T0 d_reached, FunD.bindsN F_check_idle fun _ _ _ _ _ _ us hl => match us, hl with | [_, _, _, _], _ => rfl⟩
  have d_web : Okd P w K mg base CX0 2 (He.ga K "_law_web") ["_law_pool_here", "_law_most", "_law_extra"] (spDrawWeb K) := ⟨_, ok_web F_web T0 d_draw d_ahead, FunD.bindsN F_web fun _ _ _ _ _ _ us hl => match us, hl with | [_, _, _], _ => rfl⟩
  have d_some : Okd P w K mg base CX0 2 (He.ga K "_law_some") ["_law_pool_here", "_law_count"] (spSome K) := ⟨_, ok_some F_some T0 d_draw, FunD.bindsN F_some fun _ _ _ _ _ _ us hl => match us, hl with | [_, _], _ => rfl⟩
  have d_way : Okd P w K mg base CX0 2 (He.ga K "_law_way") ["_law_pool_here", "_law_told", "_law_most"] (spWayW K) := ⟨_, ok_way F_way T0 d_draw d_far, FunD.bindsN F_way fun _ _ _ _ _ _ us hl => match us, hl with | [_, _, _], _ => rfl⟩
  have d_Placing_init : Okd P w K mg base (L2.CX P w) 3 (He.ma K (He.ga K "Placing") "__init__") ["self", "saves", "backs"] (spPlInit K) := ⟨_, ok_Placing_init F_Placing_init T1 I_BadMark I_TwoMarks d_is_number, FunD.bindsN F_Placing_init fun _ _ _ _ _ _ us hl => match us, hl with | [_, _, _], _ => rfl⟩
  have d_Lot_init : Okd P w K mg base (L2.CX P w) 3 (He.ma K (He.ga K "Lot") "__init__") ["self", "places"] (spLotInit K) := ⟨_, ok_Lot_init F_Lot_init T1 I_BadPlace d_is_number, FunD.bindsN F_Lot_init fun _ _ _ _ _ _ us hl => match us, hl with | [_, _], _ => rfl⟩
  have d_marked_gates : Okd P w K mg base (L2.CX P w) 4 (He.ga K "marked_gates") ["web", "lot"] (spMarked K) := ⟨_, ok_marked_gates F_marked_gates T0 T1 d_check_lot d_gate_pairs, FunD.bindsN F_marked_gates fun _ _ _ _ _ _ us hl => match us, hl with | [_, _], _ => rfl⟩
  have d_is_pair : Okd P w K mg base CX0 3 (He.ga K "is_pair") ["places", "edge"] spIsPair := ⟨_, ok_is_pair F_is_pair T0 d_is_below, FunD.bindsN F_is_pair fun _ _ _ _ _ _ us hl => match us, hl with | [_, _], _ => rfl⟩
  have d_check_entry : Okd P w K mg base CX0 3 (He.ga K "check_entry") ["places", "entry"] spChkEntry := ⟨_, ok_check_entry F_check_entry T0 d_is_below, FunD.bindsN F_check_entry fun _ _ _ _ _ _ us hl => match us, hl with | [_, _], _ => rfl⟩
  have d_check_exits : Okd P w K mg base CX0 3 (He.ga K "check_exits") ["places", "exits"] spChkExits := ⟨_, ok_check_exits F_check_exits T0 d_is_below, FunD.bindsN F_check_exits fun _ _ _ _ _ _ us hl => match us, hl with | [_, _], _ => rfl⟩
  have d_places_of : Okd P w K mg base (L2.CX P w) 3 (He.ga K "places_of") ["web", "way"] (spPlacesOf K) := ⟨_, ok_places_of F_places_of T0 I_BadWay d_is_below, FunD.bindsN F_places_of fun _ _ _ _ _ _ us hl => match us, hl with | [_, _], _ => rfl⟩
  have d_placing_of : Okd P w K mg base (L2.CX P w) 5 (He.ga K "placing_of") ["web", "lot"] (spPlacingOf K) := ⟨_, ok_placing_of F_placing_of T0 T1 d_marked_gates d_Placing_init, FunD.bindsN F_placing_of fun _ _ _ _ _ _ us hl => match us, hl with | [_, _], _ => rfl⟩
  have d_check_edges : Okd P w K mg base CX0 4 (He.ga K "check_edges") ["places", "edges"] spChkEdges := ⟨_, ok_check_edges F_check_edges T0 d_is_pair, FunD.bindsN F_check_edges fun _ _ _ _ _ _ us hl => match us, hl with | [_, _], _ => rfl⟩
  have d_Web_init : Okd P w K mg base CX0 5 (He.ma K (He.ga K "Web") "__init__") ["self", "places", "edges", "entry", "exits"] (spWebInit K) := ⟨_, ok_Web_init F_Web_init T0 d_check_places d_check_edges d_check_entry d_check_exits d_check_idle, FunD.bindsN F_Web_init fun _ _ _ _ _ _ us hl => match us, hl with | [_, _, _, _, _], _ => rfl⟩
  have d_made : Okd P w K mg base CX0 7 (He.ga K "_law_made") ["_law_told"] (spMade K) := ⟨_, ok_made F_made T0 d_Web_init, FunD.bindsN F_made fun _ _ _ _ _ _ us hl => match us, hl with | [_], _ => rfl⟩
  have d_turned_fits : Okd P w K mg base CX0 7 (He.ga K "_law_turned_fits") ["_law_told", "_law_web_here", "_law_inside", "_law_way_here"] (spTurnedF K) := ⟨_, ok_turned_fits F_turned_fits T0 T1 d_Web_init d_moved d_placing_of d_Lot_init d_places_of, FunD.bindsN F_turned_fits fun _ _ _ _ _ _ us hl => match us, hl with | [_, _, _, _], _ => rfl⟩
  have d_renamed_fits : Okd P w K mg base CX0 7 (He.ga K "_law_renamed_fits") ["_law_pool_here", "_law_told", "_law_web_here", "_law_inside", "_law_way_here"] (spRenamedF K) := ⟨_, ok_renamed_fits F_renamed_fits T0 T1 d_draw d_Web_init d_moved d_placing_of d_Lot_init d_places_of, FunD.bindsN F_renamed_fits fun _ _ _ _ _ _ us hl => match us, hl with | [_, _, _, _, _], _ => rfl⟩
  exact ok_law F_law T0 d_pool d_draw d_web d_ahead d_made d_some d_way d_turned_fits d_renamed_fits
end
end Kx
open PySem PySem.W PyProof.Rows
set_option maxRecDepth 100000 in
set_option maxHeartbeats 0 in
theorem PySem.Challenge.cw_savedseats_k11_whole_webs_turned_about_holds : PySem.Challenge.rw_savedseats_k11_whole_webs_turned_about.Holds := by
  w_on; o_law
  refine HandSHeadRun.head_any (r := OpenLaw.row PySem.Challenge.rw_savedseats_k11_whole_webs_turned_about) (q := view (OpenLaw.row PySem.Challenge.rw_savedseats_k11_whole_webs_turned_about).prog [50]) (H := Kx.hkx) (ob := Kx.obx) (M := 100000) (loose := Kx.loose) (d := HandSHeadRun.topDef (OpenLaw.row PySem.Challenge.rw_savedseats_k11_whole_webs_turned_about).prog 50) (kwd := []) Kx.obx_eq
    (by kernel_rfl) (fun s => by kernel_rfl) Kx.runx (by kernel_rfl) (by kernel_rfl) (by kernel_rfl) (by rfl) (by first | assumption | decide +kernel) (by decide +kernel) ⟨rfl, rfl, rfl, rfl, rfl, by decide +kernel⟩ ?hw ?hc
  case hw => w_witness2
  case hc =>
    refine L2.walk_ofE (l := PySem.Challenge.rw_savedseats_k11_whole_webs_turned_about) (n := 63) (k := 8) (x := "_law_script") (CX := L2.CX0) rfl (by decide) (by kernel_rfl) ⟨rfl, by decide, by decide⟩ ?F (fun _ _ _ _ z => z)
    intro w mg fa h Y G hmg0
    obtain ⟨K, KX, c, ep⟩ := Y
    have hmg : mg ("law" : PySem.Str) = some (.ref fa) := by
      have e : (HandSHeadRun.topDef (OpenLaw.row PySem.Challenge.rw_savedseats_k11_whole_webs_turned_about).prog 50).name = ("law" : PySem.Str) := by kernel_rfl
      rw [← e]
      exact hmg0
    obtain ⟨fd, hb, hF⟩ := Kx.facts (P := (PySem.Challenge.rw_savedseats_k11_whole_webs_turned_about).prog) (w := w) KX G hmg c.t.d c.more ep
    exact ⟨K, fd, Kx.spLaw K, KX, hb, fun H a ns hl hO hS => ⟨a, ns, rfl, Kx.Scr.of hO hS, fun _ => rfl⟩, hF⟩
