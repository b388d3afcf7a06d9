import PyProof.Rows.All
import Wide.All
import OpenK.AllK
import Wide.FinOn
import KE.KExcIs
import HandS.ForExc
import HandS.ForMost
import HandS.ExcInit
import HandS.ExcField
import HandS.ExcValue
import HandS.IsInst
import HandS.TryMany
import HandS.Style
import HandS.Wide
import HandS.EndBits
import HandS.Head2
import HandS.HeadHook2
import HandS.HeadEnd
import HandS.Walk
import KE.SortData
import KE.DataMinMax
import HandS.SortKw
import HandS.Defaults
import HandS.MakeKw
import PySem.Challenge.RW_unmetcells_k18_whole_meetings_of_marks
set_option Elab.async false
set_option linter.all false
set_option maxRecDepth 100000
set_option maxHeartbeats 4000000
/-! Own rules: exceptions held as values. -/
namespace Uc
open PySem PySem.Spec PyProof.Rows L2

/-- all that is asked of an own exception class at C (over ValueError, at any depth) -/
structure EC (K : PySem.W.Frag) (C : Addr) : Prop where
  ox : OexC K C
  xf : XfC K C
  cl : (PySem.W.clsIn K C).isSome = true
  at_ : PySem.W.findIn K (.ref C) "__class__" = some (some (.builtin "object.__class__"))
  sp : PySem.W.specialIn K (.builtin "object.__class__") "__get__" = some (some (.builtin "getset_descriptor.__get__"))
  tk : PySem.W.takesIn K (.builtin "object.__class__") = some true
  mo : PySem.W.mroIn K C (.type "object") = some true

def ocB (K : PySem.W.Frag) (C : Addr) : Bool := match K.lookup C with
  | some ⟨.type "type", _, .cls cd, sl⟩ => (match cd.mro, sl.toList with
    | .ref D :: bm, [_, _, _, _, some (.builtin n), _] => decide (D = C) && (decide (n = "ValueError.__new__") && (!cd.hasDel && (cd.hasDict && PySem.HandSPX.refsVE bm)))
    | _, _ => false)
  | _ => false

theorem ocB_ok {K : PySem.W.Frag} {C : Addr} (h : ocB K C = true) :
    ∃ nm q N bs bm sn sub ab col dd k0 k1 k2 k3 k5, K.lookup C = some (excClassObj nm q C N bs bm true sn sub ab col dd k0 k1 k2 k3 k5 "ValueError.__new__") ∧ PySem.HandSPX.refsVE bm = true := by
  unfold ocB at h
  split at h
  · rename_i dd cd sl ho
    split at h
    · rename_i D bm k0 k1 k2 k3 n k5 hm hs
      simp only [Bool.and_eq_true, decide_eq_true_eq, Bool.not_eq_true'] at h
      obtain ⟨e1, e2, hdel, hd1, hr⟩ := h
      obtain ⟨nm, bs, mro, ns, qn, hd, sn, sub, ab, col, del⟩ := cd
      dsimp only at hm hdel hd1
      subst hm hdel hd1 e1 e2
      have es : sl = #[k0, k1, k2, k3, some (.builtin "ValueError.__new__"), k5] := by
        obtain ⟨l⟩ := sl
        have hs' : l = _ := hs
        rw [hs']
      subst es
      exact ⟨nm, qn, ns, bs, bm, sn, sub, ab, col, dd, k0, k1, k2, k3, k5, ho, hr⟩
    · cases h
  · cases h

def ecB (K : PySem.W.Frag) (C : Addr) : Bool :=
  ocB K C && (He.eqO (PySem.W.findIn K (.ref C) "__setattr__") (some (some (.builtin "object.__setattr__"))) && (decide (PySem.W.subIn K (.ref C) (.type "BaseException") = some true) &&
  (decide (PySem.W.typeIn K (.ref C) = some (.type "type")) && (PySem.W.keepIn K (.ref C) && (xfB K C && ((PySem.W.clsIn K C).isSome &&
  (He.eqO (PySem.W.findIn K (.ref C) "__class__") (some (some (.builtin "object.__class__"))) && (decide (PySem.W.specialIn K (.builtin "object.__class__") "__get__" = some (some (.builtin "getset_descriptor.__get__"))) &&
  (decide (PySem.W.takesIn K (.builtin "object.__class__") = some true) && decide (PySem.W.mroIn K C (.type "object") = some true))))))))))

theorem ecB_ok {K : PySem.W.Frag} {C : Addr} (h : ecB K C = true) : EC K C := by
  unfold ecB at h
  simp only [Bool.and_eq_true, decide_eq_true_eq] at h
  obtain ⟨h1, h2, h3, h4, h5, h6, h7, h8, h9, h10, h11⟩ := h
  exact ⟨⟨ocB_ok h1, He.eqO_ok h2, h3, h4, h5⟩, xfB_ok h6, h7, He.eqO_ok h8, h9, h10, h11⟩

/-- an exception value: an object at a of the class at C, its own dict (none, or at d with the fields) -/
inductive ExAt (H : Hp) (a C : Addr) : Option (Addr × List (Str × V)) → Prop where
  | bare (h : H a = some (exo a C none)) : ExAt H a C none
  | full {d : Addr} {fs : List (Str × V)} (h : H a = some (exo a C (some d))) (hd : H d = some (exd d fs)) : ExAt H a C (some (d, fs))

theorem ExAt.keep {H H' : Hp} {a C : Addr} {o} (k : ∀ b u, H b = some u → H' b = some u) (h : ExAt H a C o) : ExAt H' a C o := by
  cases h with
  | bare h => exact .bare (k _ _ h)
  | full h hd => exact .full (k _ _ h) (k _ _ hd)

theorem ExAt.inst {X : Cx} {pins : List (Addr × Obj)} {σ : L2.St} {H : Hp} {s : Shared} {a C : Addr} {o} (I : Inv X pins σ H s) (h : ExAt H a C o) :
    ∃ ox od, PySem.W.InstAt s.heap a ox C od ∧ (∀ d fs, o = some (d, fs) → ∃ (mA : Str → Option Value) (oD : Obj), od = some oD ∧ (∀ f, RelO (fs.lookup f) (mA f)) ∧ ∀ f, PySem.W.lookIn f oD = some (mA f)) := by
  cases h with
  | bare h =>
    obtain ⟨t, e⟩ := exo_at I.hok h
    exact ⟨_, none, ⟨e, rfl, rfl, True.intro⟩, fun _ _ z => nomatch z⟩
  | full h hd =>
    obtain ⟨t, e⟩ := exo_at I.hok h
    obtain ⟨mA, hns, hr⟩ := exd_at I.hok hd
    obtain ⟨oD, ho, hl⟩ := lookIn_ns hns
    refine ⟨_, some oD, ⟨e, rfl, rfl, ho⟩, fun d fs z => ?_⟩
    cases z
    exact ⟨mA, oD, rfl, hr, hl⟩

/-- isinstance(e, c), e an exception that is tracked -/
def rIsX (K : PySem.W.Frag) : List V → Hp → VK → Prop := fun xs H Q => ∃ (a C : Addr) (o : Option (Addr × List (Str × V))) (c : V) (cv : Value) (b : Bool), xs = [.ref a, c] ∧ ExAt H a C o ∧ EC K C ∧ ClsV c cv ∧ PySem.W.kitOne K (.ref C) cv = some b ∧ Q (.bl b) H
theorem call_isX {X : Cx} : CallR X (.builtin "isinstance") (rIsX X.K) := by
  intro pins s σ H xs us Q I r h
  obtain ⟨a, C, o, c, cv, b, rfl, he, ec, hc, e, q⟩ := h
  obtain ⟨u1, u2, rfl, r1, r2⟩ := vals2 r
  have e2 := hc.eq r2
  subst e2
  obtain rfl : u1 = Value.ref a := r1
  obtain ⟨ox, od, J, _⟩ := he.inst I
  exact PySem.W.kia_one (PySem.W.kitx_exc ec.cl ec.xf.ga ec.xf.gg ec.xf.exC ec.at_ ec.sp ec.tk ec.mo) I.kIn J e (fun z => nomatch z) fun tk => ⟨.bl b, H, I.tok tk, rfl, q⟩

/-- e.f, e a tracked exception -/
def tXfV (K : PySem.W.Frag) (f : Str) (te : TE) : TE := fun σ H Q => te σ H fun x H1 => ∃ (a C d : Addr) (fs : List (Str × V)) (v : V), x = .ref a ∧ ExAt H1 a C (some (d, fs)) ∧ EC K C ∧ PySem.W.findIn K (.ref C) f = some none ∧ fs.lookup f = some v ∧ Q v H1
theorem pe_xfV {X : Cx} {e : Expr} {te : TE} {pos : Pos} {f : Str} (he : PE X e te) (hb : attributeBase e f X.env (eval e X.env) = eval e X.env := by rfl) : PE X (.Attribute e f pos) (tXfV X.K f te) := by
  refine ⟨fun pins s σ H Q I h => ?_⟩
  refine attr_of hb (thn (he.run pins s σ H _ I h) fun u s1 hh => ?_)
  obtain ⟨x, H1, I1, rx, a, C, d, fs, v, ex, ha, ec, hno, l, q⟩ := hh
  subst ex
  obtain rfl : u = Value.ref a := rx
  obtain ⟨ox, od, J, hf⟩ := ha.inst I1
  obtain ⟨mA, oD, rfl, hr, hl⟩ := hf d fs rfl
  obtain ⟨w, hw, rw'⟩ := RelO.some_of (v := v) (o := mA f) (by rw [← l]; exact hr f)
  exact HandSPX.exc_get I1.kIn J ec.xf.ga ec.xf.gg ec.xf.exC (PySem.W.findObj_own ec.xf.hdC hno rfl (by rw [hl, hw])) (handed_of rw') ⟨v, H1, I1.tok _, rw', q⟩

/-- C(e, ..): an exception of an own class with its own __init__, as a value -/
def tMkV (C : Addr) (sp : Sp) (ta : TA) : TE := fun σ H Q => ta σ H fun vs H1 => vs.length ≤ 1000 ∧ ∀ a, H1 a = none → sp (.ref a :: vs) (upd H1 a (exo a C none)) (fun v H2 => v = .non ∧ Q (.ref a) H2) (fun _ _ _ => False)
section
variable {X : Cx} {e : Expr} {es : List Expr} {ta : TA} {p pos : Pos}
theorem pe_oexV {CX : CXT} {x : Str} {C fI : Addr} {k : Nat} {fd : FuncData} {ps : List Str} {sp : Sp} (T : OexC X.K C) (iC : PySem.W.findIn X.K (.ref C) "__init__" = some (some (.ref fI))) (tI : PySem.W.typeIn X.K (.ref fI) = some (.type "function"))
    (F : FnOk X.prog X.w X.K X.mg X.base CX k fI fd ps sp) (hr : Room (k + 1) X.A) (hb : Binds X.K fd ps []) (hx : Passes CX X (fun _ _ _ => False)) (hg : Gl X x) (hm : X.mg x = some (.ref C)) (ha : PA X (e :: es) ta)
    (hdb : (x == ("__debug__" : Str)) = false := by decide) (he : starEach (e :: es) X.env = (false, eval e X.env) :: starEach es X.env := by rfl) (hpl : (backTo pos (starEach es X.env)).any (·.1) = false := by rfl) :
    PE X (.Call (.Name x p) (e :: es) [] pos) (tMkV C sp ta) := by
  refine ⟨fun pins s σ H Q I h => ?_⟩
  obtain ⟨nm, q, N, bs, bm, sn, sub, ab, col, dd, k0, k1, k2, k3, k5, hC, hbm⟩ := T.cls
  refine wpAny_Call_Name_kw (ld_glob I hg hm ?_ hdb)
  refine PySem.W.callWith_K (h₀ := X.base) I.ok.mod.kin T.kC (thn (ha.run pos pins s σ H _ I h) fun us s1 hh => ?_) he hpl
  obtain ⟨vs, H1, I1, r1, hz, q1⟩ := hh
  refine ⟨I1.kIn, ?_⟩
  show wpAny _ _ (call (.ref C) us) _ _ _
  obtain ⟨hp, g, dr, tk, os⟩ := s1
  have up : hp.objs.size ≤ hp.objs.size + 1 := Nat.le_succ _
  have hq := q1 (hp.objs.size + 1) (I1.hok.fresh up)
  have old : ∀ b o, hp.get? b = some o → ((hp.push (PySem.W.kdv_tup us)).push (PySem.HandSPX.excO C hp.objs.size)).get? b = some o := fun b o z => Heap.get?_push_of_some _ (Heap.get?_push_of_some _ z)
  have new : ((hp.push (PySem.W.kdv_tup us)).push (PySem.HandSPX.excO C hp.objs.size)).get? (hp.objs.size + 1) = some (PySem.HandSPX.excO C hp.objs.size) := by heap_get
  have I2 := I1.laid (t' := tk) (a := hp.objs.size + 1) (o := exo (hp.objs.size + 1) C none) old up (exo_ok new)
  have r2 : Vals (V.ref (hp.objs.size + 1) :: vs) (Value.ref (hp.objs.size + 1) :: us) := .cons rfl r1
  have hl : (Value.ref (hp.objs.size + 1) :: us ++ []).length = ps.length := by
    rw [List.append_nil, ← r2.length]
    exact F.len _ _ _ _ hq
  have hus : us.length ≤ sizeLine := by
    have z := Paired.length r1
    rw [sizeLine_eq]
    omega
  have hbb := hb _ (Value.ref (hp.objs.size + 1) :: us) I2.kIn hl
  rw [List.append_nil] at hbb
  refine wpAny_call (PySem.HandSPX.call_own PySem.F.excBase_ValueError (fun Y => PySem.HandSPX.refsVE_contains Y bm hbm) (I1.kIn _ _ hC) (PySem.W.looks_findIn I1.kIn iC) (fun self => PySem.W.bind_fn I1.kIn self tI) hus ?_)
  refine codeAny_mono (F.run _ X.stack _ _ ⟨Value.ref (hp.objs.size + 1) :: us, []⟩ _ _ _ (fun _ _ _ => False) (hr.make C us []) (I2.env0.make C us []) hbb r2 hq) fun r s' hq' => ?_
  cases r with
  | error er => exact hx pins σ _ _ er s' I2 hq'
  | ok fl =>
    cases fl with
    | ret u =>
      obtain ⟨v, H2, I3, rv, ev, q3⟩ := I2.after hq'
      subst ev
      exact ⟨rv, V.ref (hp.objs.size + 1), H2, I3, rfl, q3⟩
    | next => exact False.elim hq'
    | brk => exact False.elim hq'
    | cont => exact False.elim hq'
/-- C(): an own exception class without own __init__, as a value -/
theorem pe_oexV0 {x : Str} {C : Addr} {bmB : List Value} {B newId initId : String} (F : ExcBaseFacts B newId initId bmB) (q : PySem.W.excIn X.K C bmB newId = true) (kC : PySem.W.keepIn X.K (.ref C) = true) (hg : Gl X x) (hm : X.mg x = some (.ref C))
    (hdb : (x == ("__debug__" : Str)) = false := by decide) :
    PE X (.Call (.Name x p) [] [] pos) (fun _ H Q => ∀ a, H a = none → Q (.ref a) (upd H a (exo a C none))) := by
  refine ⟨fun pins s σ H Q I h => ?_⟩
  refine wpAny_Call_Name_kw (ld_glob I hg hm ?_ hdb)
  refine PySem.W.callWith_K0 I.kIn kC ?_
  obtain ⟨hp, g, dr, tk, os⟩ := s
  obtain ⟨bm, N, nm, qn, bs, hdct, sn, sub, ab, col, dd, k0, k1, k2, k3, k5, mN, hC, hN, hni, T⟩ := exc_obj I.kIn q
  refine wpAny_call_exc_subT F T hC hN hni (fun h' a hm' => ?_) (Nat.zero_le _)
  obtain ⟨t, ht, _, _⟩ := hm'.there
  have hn : H a = none := I.hok.gone hm'.new
  exact ⟨.ref a, upd H a (exo a C none), I.laidN hm'.keeps hm'.new hn (exo_ok ht), rfl, h a hn⟩
end
end Uc

set_option Elab.async false
set_option linter.all false
set_option maxRecDepth 100000
set_option maxHeartbeats 4000000
namespace Uc
open PySem PySem.Spec PyProof.Rows L2
/-! ### a Hook with one more Bool of one's own -/
def obsU (B : PySem.W.Frag → Bool) (fn : List He.DefD) (K : PySem.W.Frag) : He.AlD := ((fn.all fun d => d.ok K) && B K, fn.map fun d => He.fnW K d.at_)
def obsUG (n : Nat) (B : PySem.W.Frag → Bool) (fn : List He.DefD) (g : Addr → Option Obj) : He.AlD := obsU B fn (He.frG g (He.asD g n))
structure SaysU (B : PySem.W.Frag → Bool) (fn : List He.DefD) (K : PySem.W.Frag) : Prop where
  b : B K = true
  d : He.SaysD [] fn K
theorem saysU_of {B : PySem.W.Frag → Bool} {fn : List He.DefD} {K : PySem.W.Frag} (e : obsU B fn K = He.valD fn) : SaysU B fn K := by
  have e1 : ((fn.all fun d => d.ok K) && B K) = true := congrArg (fun z : He.AlD => z.1) e
  have e2 : fn.map (fun d => He.fnW K d.at_) = fn.map He.DefD.val := congrArg (fun z : He.AlD => z.2) e
  obtain ⟨h1, h2⟩ := Bool.and_eq_true_iff.mp e1
  refine ⟨h2, ?_⟩
  show ((([] : List He.Fa).all fun f => f.ok K) && fn.all fun d => d.ok K, fn.map fun d => He.fnW K d.at_) = (true, fn.map He.DefD.val)
  rw [h1, e2]
  rfl
def hookU (n : Nat) (B : PySem.W.Frag → Bool) (fn : List He.DefD) : PySem.W.Hook where
  α := He.AlD
  obs := fun s => obsUG n B fn s.heap.get?
  val := fun _ => He.valD fn
  says := fun _ h => ∃ K : PySem.W.Frag, K.In h ∧ SaysU B fn K
  of := fun _ _ e => ⟨_, He.frG_in, saysU_of e⟩
  keeps := fun _ _ _ ⟨K, hK, c⟩ k => ⟨K, PySem.W.Frag.In.keeps hK k, c⟩
theorem obsUG_eq {n : Nat} {B : PySem.W.Frag → Bool} {fn : List He.DefD} {g : Addr → Option Obj} {s : Shared} (h : ∀ a, g a = s.heap.get? a) : obsUG n B fn g = (hookU n B fn).obs s := by
  have e : g = s.heap.get? := funext h
  rw [e] <;> rfl
/-- the end of a law over such a head, the script's bits told -/
theorem walk_ofU {l : PySem.W.OpenLaw} {n k : Nat} {q : Program} {loose : List Str} {XP : (Str → Option Value) → Heap → Prop} {YP : World → Heap → Prop} {d : DefRec} {CX : World → CXT} {x : Str}
    (hn : l.most = some n) (hn2 : n ≤ sizeLine) (hdf : d.params.defaults = []) (hr : Room k callerA)
    (F : ∀ (w : World) (mg : Str → Option Value) (fa : Addr) (h : Heap), YP w h → h.Ns mainGlobals mg → mg d.name = some (.ref fa) →
      ∃ (K : PySem.W.Frag) (fd : FuncData) (sp : Sp), K.In h ∧ (∀ (s : Shared) (u : Value), BindsTo s fd ⟨[u], []⟩ [(x, u)]) ∧
        (∀ (H : Hp) (a : Addr) (ns : List Int), ns.length ≤ n → (∀ z ∈ ns, Builtin.Int.intBits z ≤ 1048576) → Only H → SqL K H a (ns.map V.int) → sp [.ref a] H (fun v _ => v = .bl true) fun _ _ _ => False) ∧
        ∀ base : Heap, K.In base → base.Ns mainGlobals mg → FnOk l.prog w K mg base (CX w) k fa fd [x] sp)
    (hCX : ∀ (w : World) (H : Hp) (s : Shared) (e : Value) (s' : Shared), CX w [] H s (fun _ _ _ => False) e s' → False) :
    PySem.W.WalkO q loose XP YP l.row.toRowW d [] (fun f vs => PySem.call f vs) := by
  refine Att.attach_callB hn hdf fun w s₀ s₁ mg mb fa o pm cd doc a vs ns G Y ho hd hcd hmg hobj hints hlen hbits hg => ?_
  obtain ⟨K, fd, sp, KX, hb, hsp, hF⟩ := F w mg fa _ Y G.T.g hmg
  exact law_call KX G.T.g G.T.b G.T.builtins G.T.nolimit hg hobj hints (Nat.le_trans hlen hn2) hr hF hb (fun H hO hS => hsp H a ns hlen hbits hO hS) fun H e s' => hCX w H s₁ e s'
end Uc

set_option Elab.async false
set_option linter.all false
set_option maxRecDepth 100000
set_option maxHeartbeats 4000000
/-! Values described: a logic of what the code does, without addresses. -/
namespace Uc
open PySem PySem.Spec PyProof.Rows L2

/-- what a value is, whatever its address -/
inductive D where
  | non | bl (b : Bool) | int (i : Int) | str (s : Str)
  | lst (xs : List D) | tup (xs : List D)
  | zlst (xs : List D)
  | exc (C : Addr) (fs : List (Str × D))
  | held (a C : Addr) (od : Option Addr) (fs : List (Str × D))
  | at_ (v : V)
  | ins (C : Addr) (fs : List (Str × D))

mutual
/-- v is d in the heap H; nothing of it stands at an address of M (those may change) -/
inductive Rp (K : PySem.W.Frag) (M : Addr → Prop) (H : Hp) : V → D → Prop
  | non : Rp K M H .non .non
  | bl (b : Bool) : Rp K M H (.bl b) (.bl b)
  | int (i : Int) : Rp K M H (.int i) (.int i)
  | str (s : Str) : Rp K M H (.str s) (.str s)
  | at_ (v : V) : Rp K M H v (.at_ v)
  | lst {a : Addr} {xs : List V} {ds : List D} : ¬ M a → H a = some (.lst xs) → RpA K M H xs ds → Rp K M H (.ref a) (.lst ds)
  | zlst {a : Addr} {o : Obj} {xs : List V} {ds : List D} : ¬ M a → H a = some (.frz o (.lst xs)) → RpA K M H xs ds → Rp K M H (.ref a) (.zlst ds)
  | zlstK {a : Addr} {xs : List V} {ds : List D} : SqL K (fun _ => none) a xs → RpA K M H xs ds → Rp K M H (.ref a) (.zlst ds)
  | tup {a : Addr} {xs : List V} {ds : List D} : ¬ M a → H a = some (.tup xs) → RpA K M H xs ds → Rp K M H (.ref a) (.tup ds)
  | tupK {a : Addr} {xs : List V} {ds : List D} : SqT K (fun _ => none) a xs → RpA K M H xs ds → Rp K M H (.ref a) (.tup ds)
  | exc0 {a C : Addr} : ¬ M a → ExAt H a C none → Rp K M H (.ref a) (.exc C [])
  | exc {a C d : Addr} {fs : List (Str × V)} {ds : List (Str × D)} : ¬ M a → ¬ M d → ExAt H a C (some (d, fs)) → RpF K M H fs ds → Rp K M H (.ref a) (.exc C ds)
  | held0 (a C : Addr) : Rp K M H (.ref a) (.held a C none [])
  | held {a C d : Addr} {fv : List (Str × V)} {fs : List (Str × D)} : ¬ M d → H d = some (.xd fv) → RpF K M H fv fs → Rp K M H (.ref a) (.held a C (some d) fs)
  | ins {a C dx : Addr} {fs : List (Str × V)} {ds : List (Str × D)} : ¬ M a → H a = some (.ins C dx fs) → RpF K M H fs ds → Rp K M H (.ref a) (.ins C ds)
inductive RpA (K : PySem.W.Frag) (M : Addr → Prop) (H : Hp) : List V → List D → Prop
  | nil : RpA K M H [] []
  | cons {v : V} {vs : List V} {d : D} {ds : List D} : Rp K M H v d → RpA K M H vs ds → RpA K M H (v :: vs) (d :: ds)
inductive RpF (K : PySem.W.Frag) (M : Addr → Prop) (H : Hp) : List (Str × V) → List (Str × D) → Prop
  | nil : RpF K M H [] []
  | cons {f : Str} {v : V} {vs : List (Str × V)} {d : D} {ds : List (Str × D)} : Rp K M H v d → RpF K M H vs ds → RpF K M H ((f, v) :: vs) ((f, d) :: ds)
end

/-- what stands beside M stays -/
def Gr (M : Addr → Prop) (H H' : Hp) : Prop := ∀ b o, ¬ M b → H b = some o → H' b = some o
theorem Gr.refl (M : Addr → Prop) (H : Hp) : Gr M H H := fun _ _ _ h => h
theorem Gr.trans {M : Addr → Prop} {H H1 H2 : Hp} (a : Gr M H H1) (b : Gr M H1 H2) : Gr M H H2 := fun c o n h => b c o n (a c o n h)
theorem Gr.rd {M : Addr → Prop} {H H' : Hp} {a : Addr} {u : HO} (g : Gr M H H') (n : ¬ M a) (h : Rd H a u) : Rd H' a u := by
  rcases h with h | ⟨o, h⟩
  · exact .inl (g _ _ n h)
  · exact .inr ⟨o, g _ _ n h⟩

section
variable {K : PySem.W.Frag} {M M' : Addr → Prop} {H H' : Hp}
theorem ExAt.keepM {a C : Addr} {o : Option (Addr × List (Str × V))} (g : Gr M H H') (h1 : ¬ M a) (h2 : ∀ d fs, o = some (d, fs) → ¬ M d) (h : ExAt H a C o) : ExAt H' a C o := by
  cases h with
  | bare h => exact .bare (g _ _ h1 h)
  | full h hd => exact .full (g _ _ h1 h) (g _ _ (h2 _ _ rfl) hd)
mutual
theorem Rp.mono (g : Gr M H H') : ∀ {v : V} {d : D}, Rp K M H v d → Rp K M H' v d
  | _, _, .non => .non
  | _, _, .bl b => .bl b
  | _, _, .int i => .int i
  | _, _, .str s => .str s
  | _, _, .at_ v => .at_ v
  | _, _, .lst n r h => .lst n (g _ _ n r) (RpA.mono g h)
  | _, _, .zlst n r h => .zlst n (g _ _ n r) (RpA.mono g h)
  | _, _, .zlstK r h => .zlstK r (RpA.mono g h)
  | _, _, .tup n r h => .tup n (g _ _ n r) (RpA.mono g h)
  | _, _, .tupK r h => .tupK r (RpA.mono g h)
  | _, _, .exc0 n h => .exc0 n (h.keepM g n fun _ _ z => nomatch z)
  | _, _, .exc n n2 h r => .exc n n2 (h.keepM g n fun _ _ z => by cases z; exact n2) (RpF.mono g r)
  | _, _, .held0 a C => .held0 a C
  | _, _, .held n e r => .held n (g _ _ n e) (RpF.mono g r)
  | _, _, .ins n e r => .ins n (g _ _ n e) (RpF.mono g r)
theorem RpA.mono (g : Gr M H H') : ∀ {vs : List V} {ds : List D}, RpA K M H vs ds → RpA K M H' vs ds
  | _, _, .nil => .nil
  | _, _, .cons h t => .cons (Rp.mono g h) (RpA.mono g t)
theorem RpF.mono (g : Gr M H H') : ∀ {vs : List (Str × V)} {ds : List (Str × D)}, RpF K M H vs ds → RpF K M H' vs ds
  | _, _, .nil => .nil
  | _, _, .cons h t => .cons (Rp.mono g h) (RpF.mono g t)
end
/-! fewer things that may change -/
mutual
theorem Rp.wid (w : ∀ a, M' a → M a) : ∀ {v : V} {d : D}, Rp K M H v d → Rp K M' H v d
  | _, _, .non => .non
  | _, _, .bl b => .bl b
  | _, _, .int i => .int i
  | _, _, .str s => .str s
  | _, _, .at_ v => .at_ v
  | _, _, .lst n r h => .lst (fun z => n (w _ z)) r (RpA.wid w h)
  | _, _, .zlst n r h => .zlst (fun z => n (w _ z)) r (RpA.wid w h)
  | _, _, .zlstK r h => .zlstK r (RpA.wid w h)
  | _, _, .tup n r h => .tup (fun z => n (w _ z)) r (RpA.wid w h)
  | _, _, .tupK r h => .tupK r (RpA.wid w h)
  | _, _, .exc0 n h => .exc0 (fun z => n (w _ z)) h
  | _, _, .exc n n2 h r => .exc (fun z => n (w _ z)) (fun z => n2 (w _ z)) h (RpF.wid w r)
  | _, _, .held0 a C => .held0 a C
  | _, _, .held n e r => .held (fun z => n (w _ z)) e (RpF.wid w r)
  | _, _, .ins n e r => .ins (fun z => n (w _ z)) e (RpF.wid w r)
theorem RpA.wid (w : ∀ a, M' a → M a) : ∀ {vs : List V} {ds : List D}, RpA K M H vs ds → RpA K M' H vs ds
  | _, _, .nil => .nil
  | _, _, .cons h t => .cons (Rp.wid w h) (RpA.wid w t)
theorem RpF.wid (w : ∀ a, M' a → M a) : ∀ {vs : List (Str × V)} {ds : List (Str × D)}, RpF K M H vs ds → RpF K M' H vs ds
  | _, _, .nil => .nil
  | _, _, .cons h t => .cons (Rp.wid w h) (RpF.wid w t)
end
/-- more things that may change, none of which is tracked here -/
theorem rd_some {a : Addr} {u : HO} (h : Rd H a u) : ∃ o, H a = some o := by
  rcases h with h | ⟨o, h⟩
  · exact ⟨_, h⟩
  · exact ⟨_, h⟩
theorem ExAt.some {a C : Addr} {o : Option (Addr × List (Str × V))} (h : ExAt H a C o) : (∃ u, H a = Option.some u) ∧ ∀ d fs, o = Option.some (d, fs) → ∃ u, H d = Option.some u := by
  cases h with
  | bare h => exact ⟨⟨_, h⟩, fun _ _ z => nomatch z⟩
  | full h hd => exact ⟨⟨_, h⟩, fun _ _ z => by cases z; exact ⟨_, hd⟩⟩
mutual
theorem Rp.nar (w : ∀ a, M' a → M a ∨ H a = none) : ∀ {v : V} {d : D}, Rp K M H v d → Rp K M' H v d
  | _, _, .non => .non
  | _, _, .bl b => .bl b
  | _, _, .int i => .int i
  | _, _, .str s => .str s
  | _, _, .at_ v => .at_ v
  | _, _, .lst n r h => .lst (fun z => (w _ z).elim n fun q => by rw [q] at r; cases r) r (RpA.nar w h)
  | _, _, .zlst n r h => .zlst (fun z => (w _ z).elim n fun q => by rw [q] at r; cases r) r (RpA.nar w h)
  | _, _, .zlstK r h => .zlstK r (RpA.nar w h)
  | _, _, .tup n r h => .tup (fun z => (w _ z).elim n fun q => by rw [q] at r; cases r) r (RpA.nar w h)
  | _, _, .tupK r h => .tupK r (RpA.nar w h)
  | _, _, .exc0 n h => .exc0 (fun z => (w _ z).elim n fun q => by obtain ⟨o, e⟩ := h.some.1; rw [q] at e; cases e) h
  | _, _, .exc n n2 h r => .exc (fun z => (w _ z).elim n fun q => by obtain ⟨o, e⟩ := h.some.1; rw [q] at e; cases e) (fun z => (w _ z).elim n2 fun q => by obtain ⟨o, e⟩ := h.some.2 _ _ rfl; rw [q] at e; cases e) h (RpF.nar w r)
  | _, _, .held0 a C => .held0 a C
  | _, _, .held n e r => .held (fun z => (w _ z).elim n fun q => by rw [q] at e; cases e) e (RpF.nar w r)
  | _, _, .ins n e r => .ins (fun z => (w _ z).elim n fun q => by rw [q] at e; cases e) e (RpF.nar w r)
theorem RpA.nar (w : ∀ a, M' a → M a ∨ H a = none) : ∀ {vs : List V} {ds : List D}, RpA K M H vs ds → RpA K M' H vs ds
  | _, _, .nil => .nil
  | _, _, .cons h t => .cons (Rp.nar w h) (RpA.nar w t)
theorem RpF.nar (w : ∀ a, M' a → M a ∨ H a = none) : ∀ {vs : List (Str × V)} {ds : List (Str × D)}, RpF K M H vs ds → RpF K M' H vs ds
  | _, _, .nil => .nil
  | _, _, .cons h t => .cons (Rp.nar w h) (RpF.nar w t)
end
theorem RpA.length : ∀ {vs : List V} {ds : List D}, RpA K M H vs ds → vs.length = ds.length
  | _, _, .nil => rfl
  | _, _, .cons _ t => congrArg (· + 1) (RpA.length t)
theorem RpA.append : ∀ {vs ws : List V} {ds es : List D}, RpA K M H vs ds → RpA K M H ws es → RpA K M H (vs ++ ws) (ds ++ es)
  | _, _, _, _, .nil, s => s
  | _, _, _, _, .cons h t, s => .cons h (RpA.append t s)
theorem RpA.get : ∀ {vs : List V} {ds : List D} {i : Nat} {d : D}, RpA K M H vs ds → ds[i]? = some d → ∃ v, vs[i]? = some v ∧ Rp K M H v d
  | _, _, _, _, .nil, e => by simp at e
  | _, _, 0, _, .cons h _, e => by simp at e; subst e; exact ⟨_, rfl, h⟩
  | _, _, i + 1, d, .cons _ t, e => by
    obtain ⟨v, h1, h2⟩ := RpA.get (i := i) (d := d) t (by simpa using e)
    exact ⟨v, by simpa using h1, h2⟩
theorem RpA.getV : ∀ {vs : List V} {ds : List D} {i : Nat} {v : V}, RpA K M H vs ds → vs[i]? = some v → ∃ d, ds[i]? = some d ∧ Rp K M H v d
  | _, _, _, _, .nil, e => by simp at e
  | _, _, 0, _, .cons h _, e => by simp at e; subst e; exact ⟨_, rfl, h⟩
  | _, _, i + 1, d, .cons _ t, e => by
    obtain ⟨v, h1, h2⟩ := RpA.getV (i := i) (v := d) t (by simpa using e)
    exact ⟨v, by simpa using h1, h2⟩
theorem Rp.lst_inv {v : V} {ds : List D} (r : Rp K M H v (.lst ds)) : ∃ a xs, v = .ref a ∧ ¬ M a ∧ H a = some (.lst xs) ∧ RpA K M H xs ds := by
  cases r with
  | lst n e s => exact ⟨_, _, rfl, n, e, s⟩
theorem sqL_const {K : PySem.W.Frag} {H : Hp} {a : Addr} {xs : List V} (e : SqL K (fun _ => none) a xs) : SqL K H a xs := by
  rcases e with (e | ⟨o, e⟩) | e
  · cases e
  · cases e
  · exact .inr e
theorem Rp.seq_inv {v : V} {d : D} {ds : List D} (r : Rp K M H v d) (e : d = .lst ds ∨ d = .zlst ds) : ∃ a xs, v = .ref a ∧ ((¬ M a ∧ ∃ u, H a = some u ∧ (u = .lst xs ∨ ∃ o, u = .frz o (.lst xs))) ∨ SqL K (fun _ => none) a xs) ∧ RpA K M H xs ds := by
  rcases e with rfl | rfl
  · cases r with
    | lst n e s => exact ⟨_, _, rfl, .inl ⟨n, _, e, .inl rfl⟩, s⟩
  · cases r with
    | zlst n e s => exact ⟨_, _, rfl, .inl ⟨n, _, e, .inr ⟨_, rfl⟩⟩, s⟩
    | zlstK e s => exact ⟨_, _, rfl, .inr e, s⟩
theorem sqL_of {a : Addr} {xs : List V} {u : HO} (e : H a = some u) (k : u = .lst xs ∨ ∃ o, u = .frz o (.lst xs)) : SqL K H a xs := by
  rcases k with rfl | ⟨o, rfl⟩
  · exact SqL.of e
  · exact .inl (.inr ⟨o, e⟩)
theorem Rp.tup_inv {v : V} {ds : List D} (r : Rp K M H v (.tup ds)) : ∃ a xs, v = .ref a ∧ SqT K H a xs ∧ RpA K M H xs ds := by
  cases r with
  | tup n e s => exact ⟨_, _, rfl, SqT.of e, s⟩
  | tupK e s =>
    refine ⟨_, _, rfl, ?_, s⟩
    rcases e with (e | ⟨o, e⟩) | e
    · cases e
    · cases e
    · exact .inr e
theorem Rp.int_inv {v : V} {i : Int} (r : Rp K M H v (.int i)) : v = .int i := by cases r; rfl
theorem Rp.bl_inv {v : V} {i : Bool} (r : Rp K M H v (.bl i)) : v = .bl i := by cases r; rfl
theorem Rp.str_inv {v : V} {i : Str} (r : Rp K M H v (.str i)) : v = .str i := by cases r; rfl
theorem Rp.non_inv {v : V} (r : Rp K M H v .non) : v = .non := by cases r; rfl
theorem Rp.at_inv {v u : V} (r : Rp K M H v (.at_ u)) : v = u := by cases r; rfl
theorem Rp.ins_inv {v : V} {C : Addr} {fs : List (Str × D)} (r : Rp K M H v (.ins C fs)) : ∃ a dx fv, v = .ref a ∧ ¬ M a ∧ H a = some (.ins C dx fv) ∧ RpF K M H fv fs := by
  cases r with
  | ins n e s => exact ⟨_, _, _, rfl, n, e, s⟩
theorem RpF.look : ∀ {vs : List (Str × V)} {ds : List (Str × D)} {f : Str} {d : D}, RpF K M H vs ds → ds.lookup f = some d → ∃ v, vs.lookup f = some v ∧ Rp K M H v d
  | _, _, _, _, .nil, e => nomatch e
  | _, _, f, d, .cons (f := g) h t, e => by
    rw [lookup_put] at *
    by_cases q : f = g
    · subst q
      have e2 : List.lookup f ((f, _) :: _) = some d := e
      simp [List.lookup] at e2
      subst e2
      exact ⟨_, if_pos rfl, h⟩
    · have q2 : (f == g) = false := by simpa using q
      have e2 : List.lookup f ((g, _) :: _) = some d := e
      simp [List.lookup, q2] at e2
      obtain ⟨v, h1, h2⟩ := RpF.look t e2
      exact ⟨v, by rw [if_neg q]; exact h1, h2⟩
end
end Uc

set_option Elab.async false
set_option linter.all false
set_option maxRecDepth 100000
set_option maxHeartbeats 4000000
namespace Uc
open PySem PySem.Spec PyProof.Rows L2

theorem szOf {n : Nat} (h : n ≤ 100000) : n ≤ sizeLine := Nat.le_trans h (by decide)
theorem szLt {n : Nat} (h : n < 100000) : n < sizeLine := Nat.lt_of_lt_of_le h (by decide)
/-- what a slot holds: nothing, a value that stays, a list of one's own that may still change -/
inductive Sl where | no | val (d : D) | own (ds : List D)

/-- the law's hand: where it stands, its cells -/
structure Hd where
  p : Addr
  l : Addr
  cs : List Int
/-- the law's hand stands: its cells, three numbers -/
def HandAt (M : Addr → Prop) (H : Hp) (q : Hd) : Prop :=
  M q.p ∧ ∃ (i rest tot : Int), H q.p = some (.lst [.ref q.l, .int i, .int rest, .int tot]) ∧ H q.l = some (.lst (q.cs.map V.int)) ∧ ¬ M q.l ∧ 0 ≤ i
def HandOk (h : Option Hd) (M : Addr → Prop) (H : Hp) : Prop := ∀ q, h = some q → HandAt M H q
/-- b is not the hand -/
def NH (h : Option Hd) (b : Addr) : Prop := ∀ q, h = some q → b ≠ q.p
/-- the hand alone has changed -/
def Gh (h : Option Hd) (H H' : Hp) : Prop := ∀ b o, NH h b → H b = some o → H' b = some o
theorem Gh.refl (h : Option Hd) (H : Hp) : Gh h H H := fun _ _ _ e => e
theorem Gh.trans {h : Option Hd} {H H1 H2 : Hp} (a : Gh h H H1) (b : Gh h H1 H2) : Gh h H H2 := fun c o n e => b c o n (a c o n e)
theorem Gh.gr {h : Option Hd} {M : Addr → Prop} {H H0 H' : Hp} (k : HandOk h M H0) (g : Gh h H H') : Gr M H H' := fun b o n e => g b o (fun q z y => n (by rw [y]; exact (k q z).1)) e
theorem Gh.all {h : Option Hd} {H H' : Hp} (e : ∀ b o, H b = some o → H' b = some o) : Gh h H H' := fun b o _ q => e b o q
theorem Gh.new {h : Option Hd} {H : Hp} {p : Addr} {o : HO} (n : H p = none) : Gh h H (upd H p o) := fun b u _ e => by
  rw [upd_ne (ne_of_none e n)]
  exact e
def Live (M : Addr → Prop) (H : Hp) : Prop := ∀ a, M a → ∃ o, H a = some o
theorem Live.new {M : Addr → Prop} {H : Hp} {p : Addr} (l : Live M H) (n : H p = none) : ¬ M p := fun z => by
  obtain ⟨o, e⟩ := l p z
  rw [n] at e
  cases e

/-- a state: what the slots hold; B: what its caller may change; F: what stays through -/
structure SD (K : PySem.W.Frag) (h : Option Hd) (B : Addr → Prop) (F : Addr → HO → Prop) (G : V → D → Prop) (M : Addr → Prop) (H : Hp) (σ : L2.St) (δ : List Sl) : Prop where
  len : σ.length = δ.length
  val : ∀ (i : Nat) (d : D), δ[i]? = some (Sl.val d) → ∃ v, σ[i]? = some (some v) ∧ Rp K M H v d
  own : ∀ (i : Nat) (ds : List D), δ[i]? = some (Sl.own ds) → ∃ p xs, σ[i]? = some (some (.ref p)) ∧ M p ∧ NH h p ∧ H p = some (.lst xs) ∧ RpA K M H xs ds ∧ ¬ B p ∧ ∀ o, ¬ F p o
  dis : ∀ (i j : Nat) (ds es : List D) (p : Addr), i ≠ j → δ[i]? = some (Sl.own ds) → δ[j]? = some (Sl.own es) → σ[i]? = some (some (.ref p)) → σ[j]? ≠ some (some (.ref p))
  hand : HandOk h M H
  live : Live M H
  fk : ∀ b o, F b o → H b = some o
  fh : ∀ b o, F b o → NH h b
  gk : ∀ v d, G v d → Rp K M H v d
  mb : ∀ a, B a → M a

section
variable {K : PySem.W.Frag} {h : Option Hd} {B : Addr → Prop} {F : Addr → HO → Prop} {G : V → D → Prop} {M : Addr → Prop} {H H' : Hp} {σ : L2.St} {δ : List Sl}
theorem nh_or (h : Option Hd) (b : Addr) : NH h b ∨ ∃ q, h = some q ∧ b = q.p := by
  cases h with
  | none => exact .inl fun q z => nomatch z
  | some q =>
    by_cases e : b = q.p
    · exact .inr ⟨q, rfl, e⟩
    · exact .inl fun q' z => by cases z; exact e
theorem Gh.live (l : Live M H) (k : HandOk h M H') (g : Gh h H H') : Live M H' := fun a z => by
  obtain ⟨o, e⟩ := l a z
  rcases nh_or h a with q | ⟨q, rfl, rfl⟩
  · exact ⟨o, g a o q e⟩
  · obtain ⟨_, i, rest, tot, hp, _⟩ := k q rfl
    exact ⟨_, hp⟩
theorem SD.step (S : SD K h B F G M H σ δ) (g : Gh h H H') (k : HandOk h M H') : SD K h B F G M H' σ δ where
  len := S.len
  val := fun i d e => by
    obtain ⟨v, e1, r⟩ := S.val i d e
    exact ⟨v, e1, r.mono (g.gr S.hand)⟩
  own := fun i ds e => by
    obtain ⟨p, xs, e1, mp, np, hp, r, z⟩ := S.own i ds e
    exact ⟨p, xs, e1, mp, np, g p _ np hp, r.mono (g.gr S.hand), z⟩
  dis := S.dis
  hand := k
  live := g.live S.live k
  fk := fun b o e => g b o (S.fh b o e) (S.fk b o e)
  fh := S.fh
  gk := fun v d z => (S.gk v d z).mono (g.gr S.hand)
  mb := S.mb
theorem handOk_all (k : HandOk h M H) (e : ∀ b o, H b = some o → H' b = some o) : HandOk h M H' := fun p q => by
  obtain ⟨mp, i, rest, tot, h1, h2, h3, h4⟩ := k p q
  exact ⟨mp, i, rest, tot, e _ _ h1, e _ _ h2, h3, h4⟩
theorem SD.all (S : SD K h B F G M H σ δ) (e : ∀ b o, H b = some o → H' b = some o) : SD K h B F G M H' σ δ := S.step (Gh.all e) (handOk_all S.hand e)
/-- an address that is free behind was free ahead -/
theorem Gh.free (S : SD K h B F G M H' σ δ) (g : Gh h H H') {p : Addr} (hp : H' p = none) : H p = none := by
  cases z : H p with
  | none => rfl
  | some o =>
    rcases nh_or h p with y | ⟨q, rfl, rfl⟩
    · rw [g p o y z] at hp
      cases hp
    · obtain ⟨_, i, rest, tot, e1, _⟩ := S.hand q rfl
      rw [hp] at e1
      cases e1
theorem new_all {p : Addr} {o : HO} (n : H p = none) : ∀ b u, H b = some u → (upd H p o) b = some u := fun b u e => by
  rw [upd_ne (ne_of_none e n)]
  exact e
end

theorem rpA_new {K : PySem.W.Frag} {M : Addr → Prop} {H : Hp} {p : Addr} {o : HO} {xs : List V} {ds : List D} (n : H p = none) (r : RpA K M H xs ds) : RpA K (fun a => M a ∨ a = p) (upd H p o) xs ds :=
  (r.nar (M' := fun a => M a ∨ a = p) fun a z => z.elim .inl fun y => .inr (by rw [y]; exact n)).mono fun b u nb e => by rw [upd_ne (ne_of_none e n)]; exact e
/-- an expression's, a test's, an argument list's, a block's own reading -/
def eS (X : Cx) (e : Expr) : TE := fun σ H Q => ∀ pins s, Inv X pins σ H s → wpAny (model X.prog X.w) X.A (eval e X.env) (EP X pins σ Q) X.xe s
def tS (X : Cx) (e : Expr) : TT := fun σ H Q => ∀ pins s, Inv X pins σ H s → wpAny (model X.prog X.w) X.A (isTrue e X.env (eval e X.env)) (TP X pins σ Q) X.xe s
def wS (X : Cx) (e : Expr) : TT := fun σ H Q => ∀ whole pins s, Inv X pins σ H s → wpAny (model X.prog X.w) X.A (isTrue e X.env whole) (TP X pins σ Q) X.xe s
def aS (X : Cx) (es : List Expr) : TA := fun σ H Q => ∀ pos pins s, Inv X pins σ H s → wpAny (model X.prog X.w) X.A (spliced (backTo pos (starEach es X.env))) (AP X pins σ Q) X.xe s
def sS (X : Cx) (st : Stmt) : TS := fun D σ H => ∀ pins s, Inv X pins σ H s → wpAny (model X.prog X.w) X.A (exec st X.env) (SP X pins D) X.xe s
def bS (X : Cx) (st : List Stmt) : TS := fun D σ H => ∀ pins s, Inv X pins σ H s → wpAny (model X.prog X.w) X.A (execs st X.env) (SP X pins D) X.xe s
section
variable {X : Cx} {e : Expr} {es : List Expr} {st : Stmt} {b : List Stmt} {σ : L2.St} {H : Hp}
theorem peS : PE X e (eS X e) := ⟨fun pins s _ _ _ I h => h pins s I⟩
theorem ptS : PT X e (tS X e) := ⟨fun pins s _ _ _ I h => h pins s I⟩
theorem pwS : PW X e (wS X e) := ⟨fun w pins s _ _ _ I h => h w pins s I⟩
theorem paS : PA X es (aS X es) := ⟨fun pos pins s _ _ _ I h => h pos pins s I⟩
theorem psS : PS X st (sS X st) := ⟨fun pins s _ _ _ I h => h pins s I⟩
theorem pbS : PSs X b (bS X b) := ⟨fun pins s _ _ _ I h => h pins s I⟩
theorem eS_of {t : TE} {Q : VK} (p : PE X e t) (h : t σ H Q) : eS X e σ H Q := fun pins s I => p.run pins s σ H Q I h
theorem tS_of {t : TT} {Q : Bool → Hp → Prop} (p : PT X e t) (h : t σ H Q) : tS X e σ H Q := fun pins s I => p.run pins s σ H Q I h
theorem wS_of {t : TT} {Q : Bool → Hp → Prop} (p : PW X e t) (h : t σ H Q) : wS X e σ H Q := fun w pins s I => p.run w pins s σ H Q I h
theorem aS_of {t : TA} {Q : List V → Hp → Prop} (p : PA X es t) (h : t σ H Q) : aS X es σ H Q := fun pos pins s I => p.run pos pins s σ H Q I h
theorem sS_of {t : TS} {D : Ends} (p : PS X st t) (h : t D σ H) : sS X st D σ H := fun pins s I => p.run pins s σ H D I h
theorem bS_of {t : TS} {D : Ends} (p : PSs X b t) (h : t D σ H) : bS X b D σ H := fun pins s I => p.run pins s σ H D I h
end

/-- how an exception stands behind the code: its class, its fields -/
def ExcD (K : PySem.W.Frag) (M : Addr → Prop) (H : Hp) (fs : List (Str × D)) : Option Addr → Prop
  | none => fs = []
  | some d => ¬ M d ∧ ∃ fv, H d = some (.xd fv) ∧ RpF K M H fv fs

/-- what may come of an expression: Φ of its value; Ψ of what is raised -/
structure WE (X : Cx) (h : Option Hd) (e : Expr) (δ : List Sl) (Φ : D → Prop) (Ψ : Addr → List (Str × D) → Prop) : Prop where
  run : ∀ (B : Addr → Prop) (F : Addr → HO → Prop) (G : V → D → Prop) (M : Addr → Prop) (σ : L2.St) (H : Hp) (Q : VK) (W : WX), Takes X W → SD X.K h B F G M H σ δ →
    (∀ v H' d, Gh h H H' → SD X.K h B F G M H' σ δ → Rp X.K M H' v d → Φ d → Q v H') →
    (∀ C od H' fs, Gh h H H' → SD X.K h B F G M H' σ δ → ExcD X.K M H' fs od → Ψ C fs → W (.ref C) od σ H') → eS X e σ H Q
structure WT (X : Cx) (h : Option Hd) (e : Expr) (δ : List Sl) (Φ : Bool → Prop) (Ψ : Addr → List (Str × D) → Prop) : Prop where
  run : ∀ (B : Addr → Prop) (F : Addr → HO → Prop) (G : V → D → Prop) (M : Addr → Prop) (σ : L2.St) (H : Hp) (Q : Bool → Hp → Prop) (W : WX), Takes X W → SD X.K h B F G M H σ δ →
    (∀ b H', Gh h H H' → SD X.K h B F G M H' σ δ → Φ b → Q b H') →
    (∀ C od H' fs, Gh h H H' → SD X.K h B F G M H' σ δ → ExcD X.K M H' fs od → Ψ C fs → W (.ref C) od σ H') → tS X e σ H Q
structure WW (X : Cx) (h : Option Hd) (e : Expr) (δ : List Sl) (Φ : Bool → Prop) (Ψ : Addr → List (Str × D) → Prop) : Prop where
  run : ∀ (B : Addr → Prop) (F : Addr → HO → Prop) (G : V → D → Prop) (M : Addr → Prop) (σ : L2.St) (H : Hp) (Q : Bool → Hp → Prop) (W : WX), Takes X W → SD X.K h B F G M H σ δ →
    (∀ b H', Gh h H H' → SD X.K h B F G M H' σ δ → Φ b → Q b H') →
    (∀ C od H' fs, Gh h H H' → SD X.K h B F G M H' σ δ → ExcD X.K M H' fs od → Ψ C fs → W (.ref C) od σ H') → wS X e σ H Q
structure WA (X : Cx) (h : Option Hd) (es : List Expr) (δ : List Sl) (Φ : List D → Prop) (Ψ : Addr → List (Str × D) → Prop) : Prop where
  run : ∀ (B : Addr → Prop) (F : Addr → HO → Prop) (G : V → D → Prop) (M : Addr → Prop) (σ : L2.St) (H : Hp) (Q : List V → Hp → Prop) (W : WX), Takes X W → SD X.K h B F G M H σ δ →
    (∀ vs H' ds, Gh h H H' → SD X.K h B F G M H' σ δ → RpA X.K M H' vs ds → Φ ds → Q vs H') →
    (∀ C od H' fs, Gh h H H' → SD X.K h B F G M H' σ δ → ExcD X.K M H' fs od → Ψ C fs → W (.ref C) od σ H') → aS X es σ H Q
/-- .. where the value is a new list, which may be one's own -/
structure WF (X : Cx) (h : Option Hd) (e : Expr) (δ : List Sl) (Φ : List D → Prop) (Ψ : Addr → List (Str × D) → Prop) : Prop where
  run : ∀ (B : Addr → Prop) (F : Addr → HO → Prop) (G : V → D → Prop) (M : Addr → Prop) (σ : L2.St) (H : Hp) (Q : VK) (W : WX), Takes X W → SD X.K h B F G M H σ δ →
    (∀ p H' xs ds, Gh h H H' → SD X.K h B F G M H' σ δ → H p = none → H' p = some (.lst xs) → RpA X.K (fun a => M a ∨ a = p) H' xs ds → Φ ds → Q (.ref p) H') →
    (∀ C od H' fs, Gh h H H' → SD X.K h B F G M H' σ δ → ExcD X.K M H' fs od → Ψ C fs → W (.ref C) od σ H') → eS X e σ H Q

section
variable {X : Cx} {h : Option Hd} {δ : List Sl} {Φ : D → Prop} {Ψ : Addr → List (Str × D) → Prop} {a b e : Expr} {es : List Expr} {pos : Pos}

theorem WE.mono {Φ' : D → Prop} (w : WE X h e δ Φ Ψ) (k : ∀ d, Φ d → Φ' d) : WE X h e δ Φ' Ψ := .mk fun B F G M σ H Q W tk S q x => w.run B F G M σ H Q W tk S (fun v H' d g S' r f => q v H' d g S' r (k d f)) x
theorem WF.we (w : WF X h e δ (fun ds => Φ (.lst ds)) Ψ) : WE X h e δ Φ Ψ := .mk fun B F G M σ H Q W tk S q x =>
  w.run B F G M σ H Q W tk S (fun p H' xs ds g S' n hp r f => q (.ref p) H' (.lst ds) g S' (.lst (S.live.new n) hp (r.wid fun _ z => .inl z)) f) x

/-! ### names, constants -/
theorem we_var {x : Str} (i : Nat) (d : D) (hd : δ[i]? = some (Sl.val d)) (k : Φ d) (hN : X.N[i]? = some x := by rfl)
    (hv : Vis X.env.scope x := by first | exact Or.inl rfl | exact Or.inr (Or.inl rfl) | exact Or.inr (Or.inr rfl)) (h1 : (x == ("__debug__" : Str)) = false := by decide) (h2 : (x == ("__classdict__" : Str)) = false := by decide) : WE X h (.Name x pos) δ Φ Ψ := .mk fun B F G M σ H Q W tk S q _ => by
  obtain ⟨v, e, r⟩ := S.val i d hd
  exact eS_of (pe_var hN hv h1 h2) ⟨v, e, q v H d (Gh.refl _ _) S r k⟩
theorem we_int {i : Int} {j : Nat} (k : Φ (.int i)) : WE X h (.Constant (.int i) j pos) δ Φ Ψ := .mk fun B F G M σ H Q W tk S q _ => eS_of pe_int (q _ H _ (Gh.refl _ _) S (.int i) k)
theorem we_bl {i : Bool} {j : Nat} (k : Φ (.bl i)) : WE X h (.Constant (.bool i) j pos) δ Φ Ψ := .mk fun B F G M σ H Q W tk S q _ => eS_of pe_bl (q _ H _ (Gh.refl _ _) S (.bl i) k)
theorem we_non {j : Nat} (k : Φ .non) : WE X h (.Constant .none j pos) δ Φ Ψ := .mk fun B F G M σ H Q W tk S q _ => eS_of pe_non (q _ H _ (Gh.refl _ _) S .non k)
theorem we_str {i : Str} {j : Nat} (k : Φ (.str i)) : WE X h (.Constant (.str i) j pos) δ Φ Ψ := .mk fun B F G M σ H Q W tk S q _ => eS_of pe_str (q _ H _ (Gh.refl _ _) S (.str i) k)
/-- a class, a def, as a value -/
theorem we_glob {x : Str} (v : V) (u : Value) (hm : X.mg x = some u) (r : RelV v u) (k : Φ (.at_ v)) (hg : Gl X x := by rfl) (hd : (x == ("__debug__" : Str)) = false := by decide) : WE X h (.Name x pos) δ Φ Ψ := .mk fun B F G M σ H Q W tk S q _ =>
  eS_of (pe_glob hg hm r hd) (q v H _ (Gh.refl _ _) S (.at_ v) k)
theorem we_ty {x : Str} (n : String) (hm : X.mg x = none) (k : Φ (.at_ (.ty n))) (hv : bootBuiltins x = some (.type n) := by decide +kernel) (hg : Gl X x := by rfl) (hn : x ≠ "__name__" := by decide) (hd : (x == ("__debug__" : Str)) = false := by decide) : WE X h (.Name x pos) δ Φ Ψ := .mk fun B F G M σ H Q W tk S q _ =>
  eS_of (pe_bltn hg hm hv (v := .ty n) rfl hn hd) (q (.ty n) H _ (Gh.refl _ _) S (.at_ _) k)

/-! ### arguments, displays -/
theorem wa_nil {Φ : List D → Prop} (k : Φ []) : WA X h [] δ Φ Ψ := .mk fun B F G M σ H Q W tk S q _ => aS_of pa_nil (q [] H [] (Gh.refl _ _) S .nil k)
theorem wa_cons {Φ : List D → Prop} (w : WE X h e δ (fun d => WA X h es δ (fun ds => Φ (d :: ds)) Ψ) Ψ) (hs : starEach (e :: es) X.env = (false, eval e X.env) :: starEach es X.env := by rfl) : WA X h (e :: es) δ Φ Ψ := .mk fun B F G M σ H Q W tk S q x =>
  aS_of (pa_cons peS paS hs) (w.run B F G M σ H _ W tk S (fun v H1 d g1 S1 r1 wr => wr.run B F G M σ H1 _ W tk S1 (fun vs H2 ds g2 S2 r2 k => q (v :: vs) H2 (d :: ds) (g1.trans g2) S2 (.cons (r1.mono (g2.gr S1.hand)) r2) k)
    (fun C od H2 fs g2 S2 ed f => x C od H2 fs (g1.trans g2) S2 ed f)) x)
theorem we_tup {j : Nat} (w : WA X h es δ (fun ds => ds.length ≤ 100000 ∧ Φ (.tup ds)) Ψ) : WE X h (.Tuple es j pos) δ Φ Ψ := .mk fun B F G M σ H Q W tk S q x =>
  eS_of (pe_tup paS) (w.run B F G M σ H _ W tk S (fun vs H1 ds g S1 r ⟨hl, k⟩ => ⟨by rw [r.length]; exact szOf hl, fun p hp =>
    q (.ref p) _ (.tup ds) (g.trans (Gh.new hp)) (S1.all (new_all hp)) (.tup (S1.live.new hp) upd_same (r.mono (Gh.gr S1.hand (Gh.new (h := h) hp)))) k⟩) x)
theorem wf_lst {Φ : List D → Prop} (w : WA X h es δ (fun ds => ds.length ≤ 100000 ∧ Φ ds) Ψ) : WF X h (.List es pos) δ Φ Ψ := .mk fun B F G M σ H Q W tk S q x =>
  eS_of (pe_lst paS) (w.run B F G M σ H _ W tk S (fun vs H1 ds g S1 r ⟨hl, k⟩ => ⟨by rw [r.length]; exact szOf hl, fun p hp => by
    have hn : H p = none := Gh.free S1 g hp
    exact q p _ vs ds (g.trans (Gh.new hp)) (S1.all (new_all hp)) hn upd_same (rpA_new hp r) k⟩) x)
theorem we_lst (w : WA X h es δ (fun ds => ds.length ≤ 100000 ∧ Φ (.lst ds)) Ψ) : WE X h (.List es pos) δ Φ Ψ := WF.we (wf_lst w)
end
end Uc

set_option Elab.async false
set_option linter.all false
set_option maxRecDepth 100000
set_option maxHeartbeats 4000000
namespace Uc
open PySem PySem.Spec PyProof.Rows L2

abbrev Ans (X : Cx) (h : Option Hd) (B : Addr → Prop) (F : Addr → HO → Prop) (G : V → D → Prop) (M : Addr → Prop) (H : Hp) (σ : L2.St) (δ : List Sl) (Φ : D → Prop) (Q : VK) : Prop :=
  ∀ v H' d, Gh h H H' → SD X.K h B F G M H' σ δ → Rp X.K M H' v d → Φ d → Q v H'
abbrev Out (X : Cx) (h : Option Hd) (B : Addr → Prop) (F : Addr → HO → Prop) (G : V → D → Prop) (M : Addr → Prop) (H : Hp) (σ : L2.St) (δ : List Sl) (Ψ : Addr → List (Str × D) → Prop) (W : WX) : Prop :=
  ∀ C od H' fs, Gh h H H' → SD X.K h B F G M H' σ δ → ExcD X.K M H' fs od → Ψ C fs → W (.ref C) od σ H'
section
variable {X : Cx} {h : Option Hd} {B : Addr → Prop} {F : Addr → HO → Prop} {G : V → D → Prop} {M : Addr → Prop} {H H1 : Hp} {σ : L2.St} {δ : List Sl} {Φ : D → Prop} {Ψ : Addr → List (Str × D) → Prop} {Q : VK} {W : WX}
theorem Ans.now (q : Ans X h B F G M H σ δ Φ Q) (S : SD X.K h B F G M H σ δ) {v : V} {d : D} (r : Rp X.K M H v d) (k : Φ d) : Q v H := q v H d (Gh.refl _ _) S r k
theorem Ans.on (q : Ans X h B F G M H σ δ Φ Q) (g : Gh h H H1) : Ans X h B F G M H1 σ δ Φ Q := fun v H' d g' S r k => q v H' d (g.trans g') S r k
theorem Out.on (q : Out X h B F G M H σ δ Ψ W) (g : Gh h H H1) : Out X h B F G M H1 σ δ Ψ W := fun C od H' fs g' S e f => q C od H' fs (g.trans g') S e f
theorem Ans.lst (q : Ans X h B F G M H σ δ Φ Q) (S : SD X.K h B F G M H σ δ) {p : Addr} (hp : H p = none) {xs : List V} {ds : List D} (r : RpA X.K M H xs ds) (k : Φ (.lst ds)) : Q (.ref p) (upd H p (.lst xs)) :=
  q (.ref p) _ (.lst ds) (Gh.new hp) (S.all (new_all hp)) (.lst (S.live.new hp) upd_same (r.mono (Gh.gr S.hand (Gh.new (h := h) hp)))) k
theorem Ans.tup (q : Ans X h B F G M H σ δ Φ Q) (S : SD X.K h B F G M H σ δ) {p : Addr} (hp : H p = none) {xs : List V} {ds : List D} (r : RpA X.K M H xs ds) (k : Φ (.tup ds)) : Q (.ref p) (upd H p (.tup xs)) :=
  q (.ref p) _ (.tup ds) (Gh.new hp) (S.all (new_all hp)) (.tup (S.live.new hp) upd_same (r.mono (Gh.gr S.hand (Gh.new (h := h) hp)))) k
end

/-! ### operators -/
def OpS (X : Cx) (h : Option Hd) (r : R2) (S : D → D → (D → Prop) → Prop) : Prop :=
  ∀ (B : Addr → Prop) (F : Addr → HO → Prop) (G : V → D → Prop) (M : Addr → Prop) (σ : L2.St) (δ : List Sl) (H : Hp) (x y : V) (dx dy : D) (Q : VK) (Φ : D → Prop), SD X.K h B F G M H σ δ → Rp X.K M H x dx → Rp X.K M H y dy → S dx dy Φ → Ans X h B F G M H σ δ Φ Q → r x y H Q
section
variable {X : Cx} {h : Option Hd} {δ : List Sl} {Φ : D → Prop} {Ψ : Addr → List (Str × D) → Prop} {a b c e : Expr} {es : List Expr} {pos : Pos} {r : R2} {S : D → D → (D → Prop) → Prop}
theorem we_op {op : Operator} (ho : OpR X (binaryOp op) r) (hS : OpS X h r S) (w : WE X h a δ (fun x => WE X h b δ (fun y => S x y Φ) Ψ) Ψ) : WE X h (.BinOp a op b pos) δ Φ Ψ := .mk fun B F G M σ H Q W tk S0 q x =>
  eS_of (pe_op ho peS peS) (w.run B F G M σ H _ W tk S0 (fun v H1 d g1 S1 r1 w2 => w2.run B F G M σ H1 _ W tk S1 (fun u H2 d2 g2 S2 r2 k => hS B F G M σ δ H2 v u d d2 Q Φ S2 (r1.mono (g2.gr S1.hand)) r2 k (Ans.on q (g1.trans g2))) (Out.on x g1)) x)
theorem we_cmp {op : CmpOp} (ho : OpR X (compareOp op) r) (hS : OpS X h r S) (w : WE X h a δ (fun x => WE X h b δ (fun y => S x y Φ) Ψ) Ψ) (hm : behindInMarks op b = false) : WE X h (.Compare a [op] [b] pos) δ Φ Ψ := .mk fun B F G M σ H Q W tk S0 q x =>
  eS_of (pe_cmpR ho peS peS hm) (w.run B F G M σ H _ W tk S0 (fun v H1 d g1 S1 r1 w2 => w2.run B F G M σ H1 _ W tk S1 (fun u H2 d2 g2 S2 r2 k => hS B F G M σ δ H2 v u d d2 Q Φ S2 (r1.mono (g2.gr S1.hand)) r2 k (Ans.on q (g1.trans g2))) (Out.on x g1)) x)

/-- two ints -/
def sI (C : Int → Int → Prop) (g : Int → Int → D) : D → D → (D → Prop) → Prop
  | .int i, .int j, Φ => C i j ∧ Φ (g i j)
  | _, _, _ => False
theorem opS_I {C : Int → Int → Prop} {g : Int → Int → Int} : OpS X h (rI C fun i j => .int (g i j)) (sI C fun i j => .int (g i j)) := fun B F G M σ δ H x y dx dy Q Φ S r1 r2 k q => by
  cases r1 <;> cases r2 <;> first | exact False.elim k | exact ⟨_, _, rfl, rfl, k.1, Ans.now q S (.int _) k.2⟩
theorem opS_I0 {g : Int → Int → Int} : OpS X h (rI0 fun i j => .int (g i j)) (sI (fun _ _ => True) fun i j => .int (g i j)) := fun B F G M σ δ H x y dx dy Q Φ S r1 r2 k q => by
  cases r1 <;> cases r2 <;> first | exact False.elim k | exact ⟨_, _, rfl, rfl, Ans.now q S (.int _) k.2⟩
theorem opS_B0 {g : Int → Int → Bool} : OpS X h (rI0 fun i j => .bl (g i j)) (sI (fun _ _ => True) fun i j => .bl (g i j)) := fun B F G M σ δ H x y dx dy Q Φ S r1 r2 k q => by
  cases r1 <;> cases r2 <;> first | exact False.elim k | exact ⟨_, _, rfl, rfl, Ans.now q S (.bl _) k.2⟩
theorem we_sub (w : WE X h a δ (fun x => WE X h b δ (fun y => sI (fun _ _ => True) (fun i j => .int (i - j)) x y Φ) Ψ) Ψ) : WE X h (.BinOp a .Sub b pos) δ Φ Ψ := we_op op_sub opS_I0 w
theorem we_mul (w : WE X h a δ (fun x => WE X h b δ (fun y => sI CMul (fun i j => .int (i * j)) x y Φ) Ψ) Ψ) : WE X h (.BinOp a .Mult b pos) δ Φ Ψ := we_op op_mul opS_I w
theorem we_div (w : WE X h a δ (fun x => WE X h b δ (fun y => sI CDivW (fun i j => .int (i / j)) x y Φ) Ψ) Ψ) : WE X h (.BinOp a .FloorDiv b pos) δ Φ Ψ := we_op op_fdivW opS_I w
theorem we_mod (w : WE X h a δ (fun x => WE X h b δ (fun y => sI (fun _ j => 0 < j) (fun i j => .int (i % j)) x y Φ) Ψ) Ψ) : WE X h (.BinOp a .Mod b pos) δ Φ Ψ := we_op op_mod opS_I w
theorem we_pow (w : WE X h a δ (fun x => WE X h b δ (fun y => sI CPow (fun i j => .int (i ^ j.toNat)) x y Φ) Ψ) Ψ) : WE X h (.BinOp a .Pow b pos) δ Φ Ψ := we_op op_pow opS_I w
/-- + of ints, of texts, of lists -/
def sAdd : D → D → (D → Prop) → Prop
  | .int i, .int j, Φ => Φ (.int (i + j))
  | .str s, .str t, Φ => s.length + t.length ≤ sizeLine ∧ Φ (.str (s ++ t))
  | .lst xs, .lst ys, Φ => xs.length + ys.length ≤ 100000 ∧ Φ (.lst (xs ++ ys))
  | .tup (x :: xs), .tup (y :: ys), Φ => xs.length + ys.length ≤ 90000 ∧ Φ (.tup (x :: xs ++ y :: ys))
  | _, _, _ => False
theorem we_add (w : WE X h a δ (fun x => WE X h b δ (fun y => sAdd x y Φ) Ψ) Ψ) : WE X h (.BinOp a .Add b pos) δ Φ Ψ := by
  refine we_op (op_add.or (op_add_str.or (op_cat.or op_catT))) (fun B F G M σ δ H x y dx dy Q Φ S r1 r2 k q => ?_) w
  cases dx with
  | int i => cases dy with
    | int j =>
      obtain rfl := r1.int_inv
      obtain rfl := r2.int_inv
      exact .inl ⟨i, j, rfl, rfl, Ans.now q S (.int _) k⟩
    | _ => exact False.elim k
  | str s => cases dy with
    | str t =>
      obtain rfl := r1.str_inv
      obtain rfl := r2.str_inv
      exact .inr (.inl ⟨s, t, rfl, rfl, k.1, Ans.now q S (.str _) k.2⟩)
    | _ => exact False.elim k
  | lst ds => cases dy with
    | lst es =>
      obtain ⟨a, xs, rfl, n1, e1, s1⟩ := r1.lst_inv
      obtain ⟨b, ys, rfl, n2, e2, s2⟩ := r2.lst_inv
      exact .inr (.inr (.inl ⟨a, b, xs, ys, rfl, rfl, e1, e2, szOf (by rw [s1.length, s2.length]; exact k.1), fun p hp => Ans.lst q S hp (s1.append s2) k.2⟩))
    | _ => exact False.elim k
  | tup ds => cases dy with
    | tup es =>
      obtain ⟨a, xs, rfl, e1, s1⟩ := r1.tup_inv
      obtain ⟨b, ys, rfl, e2, s2⟩ := r2.tup_inv
      cases s1 with
      | nil => exact False.elim k
      | cons hx tx => cases s2 with
        | nil => exact False.elim k
        | cons hy ty =>
          refine .inr (.inr (.inr ⟨a, b, _, _, rfl, rfl, e1, e2, by simp, szOf (by have l1 := tx.length; have l2 := ty.length; have := k.1; simp only [List.length_cons]; omega), fun z => by simp at z, fun _ p hp => Ans.tup q S hp (RpA.append (.cons hx tx) (.cons hy ty)) k.2⟩))
    | _ => cases ds <;> exact False.elim k
  | _ => cases dy <;> exact False.elim k

/-! ### comparisons -/
theorem we_lt (w : WE X h a δ (fun x => WE X h b δ (fun y => sI (fun _ _ => True) (fun i j => .bl (decide (i < j))) x y Φ) Ψ) Ψ) : WE X h (.Compare a [.Lt] [b] pos) δ Φ Ψ := we_cmp op_lt opS_B0 w (nomark _)
theorem we_le (w : WE X h a δ (fun x => WE X h b δ (fun y => sI (fun _ _ => True) (fun i j => .bl (decide (i ≤ j))) x y Φ) Ψ) Ψ) : WE X h (.Compare a [.LtE] [b] pos) δ Φ Ψ := we_cmp op_le opS_B0 w (nomark _)
theorem we_gt (w : WE X h a δ (fun x => WE X h b δ (fun y => sI (fun _ _ => True) (fun i j => .bl (decide (j < i))) x y Φ) Ψ) Ψ) : WE X h (.Compare a [.Gt] [b] pos) δ Φ Ψ := we_cmp op_gt opS_B0 w (nomark _)
theorem we_ge (w : WE X h a δ (fun x => WE X h b δ (fun y => sI (fun _ _ => True) (fun i j => .bl (decide (j ≤ i))) x y Φ) Ψ) Ψ) : WE X h (.Compare a [.GtE] [b] pos) δ Φ Ψ := we_cmp op_ge opS_B0 w (nomark _)
/-- scalars -/
def sEq : D → D → (Bool → Prop) → Prop
  | .int i, .int j, Φ => Φ (decide (i = j))
  | .bl i, .bl j, Φ => Φ (decide (i = j))
  | .str i, .str j, Φ => Φ (decide (i = j))
  | .non, .non, Φ => Φ true
  | .non, .int _, Φ => Φ false
  | .int _, .non, Φ => Φ false
  | .non, .str _, Φ => Φ false
  | .str _, .non, Φ => Φ false
  | .int _, .str _, Φ => Φ false
  | .str _, .int _, Φ => Φ false
  | _, _, _ => False
theorem dec_iff {p q : Prop} [Decidable p] [Decidable q] (h : p ↔ q) : decide p = decide q := by
  by_cases hp : p
  · rw [decide_eq_true hp, decide_eq_true (h.mp hp)]
  · rw [decide_eq_false hp, decide_eq_false fun z => hp (h.mpr z)]
theorem opS_eqB (M : Addr → Prop) (H : Hp) (x y : V) (dx dy : D) (Φ : Bool → Prop) (r1 : Rp X.K M H x dx) (r2 : Rp X.K M H y dy) (k : sEq dx dy Φ) : scal x y = true ∧ Φ (decide (x = y)) := by
  cases dx with
  | int i => cases dy with
    | int j =>
      obtain rfl := r1.int_inv
      obtain rfl := r2.int_inv
      exact ⟨rfl, by rw [dec_iff (q := i = j) ⟨fun z => V.int.inj z, fun z => by rw [z]⟩]; exact k⟩
    | non => cases r1; cases r2; exact ⟨rfl, k⟩
    | str _ => cases r1; cases r2; exact ⟨rfl, k⟩
    | _ => exact False.elim k
  | bl i => cases dy with
    | bl j =>
      obtain rfl := r1.bl_inv
      obtain rfl := r2.bl_inv
      exact ⟨rfl, by rw [dec_iff (q := i = j) ⟨fun z => V.bl.inj z, fun z => by rw [z]⟩]; exact k⟩
    | _ => exact False.elim k
  | str i => cases dy with
    | str j =>
      obtain rfl := r1.str_inv
      obtain rfl := r2.str_inv
      exact ⟨rfl, by rw [dec_iff (q := i = j) ⟨fun z => V.str.inj z, fun z => by rw [z]⟩]; exact k⟩
    | non => cases r1; cases r2; exact ⟨rfl, k⟩
    | int _ => cases r1; cases r2; exact ⟨rfl, k⟩
    | _ => exact False.elim k
  | non => cases dy with
    | non => cases r1; cases r2; exact ⟨rfl, k⟩
    | int _ => cases r1; cases r2; exact ⟨rfl, k⟩
    | str _ => cases r1; cases r2; exact ⟨rfl, k⟩
    | _ => exact False.elim k
  | _ => cases dy <;> exact False.elim k
theorem opS_eq : OpS X h rEq (fun x y Φ => sEq x y fun b => Φ (.bl b)) := fun B F G M σ δ H x y dx dy Q Φ S r1 r2 k q =>
  let z := opS_eqB (X := X) M H x y dx dy (fun b => Φ (.bl b)) r1 r2 k
  ⟨z.1, Ans.now q S (.bl _) z.2⟩
theorem opS_ne : OpS X h rNe (fun x y Φ => sEq x y fun b => Φ (.bl (!b))) := fun B F G M σ δ H x y dx dy Q Φ S r1 r2 k q =>
  let z := opS_eqB (X := X) M H x y dx dy (fun b => Φ (.bl (!b))) r1 r2 k
  ⟨z.1, Ans.now q S (.bl _) z.2⟩
theorem we_eq (w : WE X h a δ (fun x => WE X h b δ (fun y => sEq x y fun k => Φ (.bl k)) Ψ) Ψ) : WE X h (.Compare a [.Eq] [b] pos) δ Φ Ψ := we_cmp op_eq opS_eq w (nomark _)
theorem we_ne (w : WE X h a δ (fun x => WE X h b δ (fun y => sEq x y fun k => Φ (.bl (!k))) Ψ) Ψ) : WE X h (.Compare a [.NotEq] [b] pos) δ Φ Ψ := we_cmp op_ne opS_ne w (nomark _)
/-! data of any depth -/
mutual
def D.py : D → Option PyData
  | .non => some .none
  | .bl b => some (.bool b)
  | .int i => some (.int i)
  | .str s => some (.str s)
  | .lst xs => (D.pyA xs).map .list
  | .tup xs => (D.pyA xs).map .tuple
  | .zlst _ => none
  | .exc _ _ => none
  | .held _ _ _ _ => none
  | .at_ _ => none
  | .ins _ _ => none
def D.pyA : List D → Option (List PyData)
  | [] => some []
  | x :: xs => match D.py x, D.pyA xs with
    | some y, some ys => some (y :: ys)
    | _, _ => none
end
mutual
theorem rp_dp {K : PySem.W.Frag} {M : Addr → Prop} {H : Hp} : ∀ {v : V} {d : D}, Rp K M H v d → ∀ {p : PyData}, d.py = some p → Dp K H v p
  | _, _, .non, _, e => by unfold D.py at e; cases e; exact .non
  | _, _, .bl b, _, e => by unfold D.py at e; cases e; exact .bl b
  | _, _, .int b, _, e => by unfold D.py at e; cases e; exact .int b
  | _, _, .str b, _, e => by unfold D.py at e; cases e; exact .str b
  | _, _, .at_ v, _, e => by unfold D.py at e; cases e
  | _, _, .lst n q h, _, e => by
    unfold D.py at e
    obtain ⟨ps, e1, rfl⟩ := Option.map_eq_some_iff.mp e
    exact .lst (SqL.of q) (rp_dpA h e1)
  | _, _, .zlst _ _ _, _, e => by unfold D.py at e; cases e
  | _, _, .zlstK _ _, _, e => by unfold D.py at e; cases e
  | _, _, .tup n q h, _, e => by
    unfold D.py at e
    obtain ⟨ps, e1, rfl⟩ := Option.map_eq_some_iff.mp e
    exact .tup (SqT.of q) (rp_dpA h e1)
  | _, _, .tupK q h, _, e => by
    unfold D.py at e
    obtain ⟨ps, e1, rfl⟩ := Option.map_eq_some_iff.mp e
    refine .tup ?_ (rp_dpA h e1)
    rcases q with (q | ⟨o, q⟩) | q
    · cases q
    · cases q
    · exact .inr q
  | _, _, .exc0 _ _, _, e => by unfold D.py at e; cases e
  | _, _, .exc _ _ _ _, _, e => by unfold D.py at e; cases e
  | _, _, .held0 _ _, _, e => by unfold D.py at e; cases e
  | _, _, .held _ _ _, _, e => by unfold D.py at e; cases e
  | _, _, .ins _ _ _, _, e => by unfold D.py at e; cases e
theorem rp_dpA {K : PySem.W.Frag} {M : Addr → Prop} {H : Hp} : ∀ {vs : List V} {ds : List D}, RpA K M H vs ds → ∀ {ps : List PyData}, D.pyA ds = some ps → DpAll K H vs ps
  | _, _, .nil, _, e => by unfold D.pyA at e; cases e; exact .nil
  | _, _, .cons h t, _, e => by
    unfold D.pyA at e
    split at e
    · rename_i y ys e1 e2
      cases e
      exact .cons (rp_dp h e1) (rp_dpA t e2)
    · cases e
end
/-- == of data -/
def sEqD (x y : D) (Φ : Bool → Prop) : Prop := ∃ p q, x.py = some p ∧ y.py = some q ∧ SeqAt.shaped p = true ∧ SeqAt.shaped q = true ∧ Φ (PyData.eqv p q)
theorem we_eqD {n : Nat} (hr : Room n X.A) (w : WE X h a δ (fun x => WE X h b δ (fun y => sEqD x y fun k => Φ (.bl k)) Ψ) Ψ) : WE X h (.Compare a [.Eq] [b] pos) δ Φ Ψ :=
  we_cmp (S := fun x y Φ => sEqD x y fun k => Φ (.bl k)) (op_eqD hr.units) (fun B F G M σ δ H x y dx dy Q Φ S r1 r2 ⟨p, q', e1, e2, s1, s2, k⟩ q => ⟨p, q', rp_dp r1 e1, rp_dp r2 e2, s1, s2, Ans.now q S (.bl _) k⟩) w (nomark _)
theorem we_neD {n : Nat} (hr : Room n X.A) (w : WE X h a δ (fun x => WE X h b δ (fun y => sEqD x y fun k => Φ (.bl (!k))) Ψ) Ψ) : WE X h (.Compare a [.NotEq] [b] pos) δ Φ Ψ :=
  we_cmp (S := fun x y Φ => sEqD x y fun k => Φ (.bl (!k))) (op_neD hr.units) (fun B F G M σ δ H x y dx dy Q Φ S r1 r2 ⟨p, q', e1, e2, s1, s2, k⟩ q => ⟨p, q', rp_dp r1 e1, rp_dp r2 e2, s1, s2, Ans.now q S (.bl _) k⟩) w (nomark _)
end
end Uc

set_option Elab.async false
set_option linter.all false
set_option maxRecDepth 100000
set_option maxHeartbeats 4000000
namespace Uc
open PySem PySem.Spec PyProof.Rows L2
section
variable {X : Cx} {h : Option Hd} {δ : List Sl} {Φ : D → Prop} {Φb : Bool → Prop} {Ψ : Addr → List (Str × D) → Prop} {a b c e : Expr} {es : List Expr} {pos p : Pos} {r : R2} {S : D → D → (D → Prop) → Prop}

/-! ### tests -/
theorem wt_cmp {op : CmpOp} (ho : OpR X (compareOp op) r) (hS : OpS X h r S) (w : WE X h a δ (fun x => WE X h b δ (fun y => S x y (fun d => ∃ k, d = .bl k ∧ Φb k)) Ψ) Ψ) (hm : behindInMarks op b = false) : WT X h (.Compare a [op] [b] pos) δ Φb Ψ := .mk fun B F G M σ H Q W tk S0 q x =>
  tS_of (pt_cmpR ho peS peS hm) (w.run B F G M σ H _ W tk S0 (fun v H1 d g1 S1 r1 w2 => w2.run B F G M σ H1 _ W tk S1 (fun u H2 d2 g2 S2 r2 k =>
    hS B F G M σ δ H2 v u d d2 (fun z H' => ∃ k, z = .bl k ∧ Q k H') _ S2 (r1.mono (g2.gr S1.hand)) r2 k (fun z H3 d3 g3 S3 r3 ⟨k3, e3, f3⟩ => by
      subst e3
      obtain rfl := r3.bl_inv
      exact ⟨k3, rfl, q k3 H3 ((g1.trans g2).trans g3) S3 f3⟩)) (Out.on x g1)) x)
theorem wt_val (w : WE X h e δ (fun d => ∃ k, d = .bl k ∧ Φb k) Ψ) (he : ∀ whole, isTrue e X.env whole = (do let v ← whole; standAt e.pos; holding [v] (truthy v)) := by intro _; rfl) : WT X h e δ Φb Ψ := .mk fun B F G M σ H Q W tk S0 q x =>
  tS_of (pt_val peS he) (w.run B F G M σ H _ W tk S0 (fun v H1 d g1 S1 r1 ⟨k, e1, f⟩ => by
    subst e1
    obtain rfl := r1.bl_inv
    exact ⟨k, rfl, q k H1 g1 S1 f⟩) x)
theorem wt_lt (w : WE X h a δ (fun x => WE X h b δ (fun y => sI (fun _ _ => True) (fun i j => .bl (decide (i < j))) x y (fun d => ∃ k, d = .bl k ∧ Φb k)) Ψ) Ψ) : WT X h (.Compare a [.Lt] [b] pos) δ Φb Ψ := wt_cmp op_lt opS_B0 w (nomark _)
theorem wt_le (w : WE X h a δ (fun x => WE X h b δ (fun y => sI (fun _ _ => True) (fun i j => .bl (decide (i ≤ j))) x y (fun d => ∃ k, d = .bl k ∧ Φb k)) Ψ) Ψ) : WT X h (.Compare a [.LtE] [b] pos) δ Φb Ψ := wt_cmp op_le opS_B0 w (nomark _)
theorem wt_gt (w : WE X h a δ (fun x => WE X h b δ (fun y => sI (fun _ _ => True) (fun i j => .bl (decide (j < i))) x y (fun d => ∃ k, d = .bl k ∧ Φb k)) Ψ) Ψ) : WT X h (.Compare a [.Gt] [b] pos) δ Φb Ψ := wt_cmp op_gt opS_B0 w (nomark _)
theorem wt_ge (w : WE X h a δ (fun x => WE X h b δ (fun y => sI (fun _ _ => True) (fun i j => .bl (decide (j ≤ i))) x y (fun d => ∃ k, d = .bl k ∧ Φb k)) Ψ) Ψ) : WT X h (.Compare a [.GtE] [b] pos) δ Φb Ψ := wt_cmp op_ge opS_B0 w (nomark _)
theorem wt_eq (w : WE X h a δ (fun x => WE X h b δ (fun y => sEq x y Φb) Ψ) Ψ) : WT X h (.Compare a [.Eq] [b] pos) δ Φb Ψ :=
  wt_cmp (S := fun x y Φ => sEq x y fun b => Φ (.bl b)) op_eq opS_eq (w.mono fun d k => k.mono fun d2 k2 => by
    cases d <;> cases d2 <;> first | exact False.elim k2 | exact ⟨_, rfl, k2⟩) (nomark _)
theorem wt_ne (w : WE X h a δ (fun x => WE X h b δ (fun y => sEq x y fun k => Φb (!k)) Ψ) Ψ) : WT X h (.Compare a [.NotEq] [b] pos) δ Φb Ψ :=
  wt_cmp (S := fun x y Φ => sEq x y fun b => Φ (.bl (!b))) op_ne opS_ne (w.mono fun d k => k.mono fun d2 k2 => by
    cases d <;> cases d2 <;> first | exact False.elim k2 | exact ⟨_, rfl, k2⟩) (nomark _)
theorem wt_eqD {n : Nat} (hr : Room n X.A) (w : WE X h a δ (fun x => WE X h b δ (fun y => sEqD x y Φb) Ψ) Ψ) : WT X h (.Compare a [.Eq] [b] pos) δ Φb Ψ :=
  wt_cmp (S := fun x y Φ => sEqD x y fun k => Φ (.bl k)) (op_eqD hr.units) (fun B F G M σ δ H x y dx dy Q Φ S r1 r2 ⟨p, q', e1, e2, s1, s2, k⟩ q => ⟨p, q', rp_dp r1 e1, rp_dp r2 e2, s1, s2, Ans.now q S (.bl _) k⟩)
    (w.mono fun d k => k.mono fun d2 ⟨p, q', e1, e2, s1, s2, k⟩ => ⟨p, q', e1, e2, s1, s2, ⟨_, rfl, k⟩⟩) (nomark _)
theorem wt_neD {n : Nat} (hr : Room n X.A) (w : WE X h a δ (fun x => WE X h b δ (fun y => sEqD x y fun k => Φb (!k)) Ψ) Ψ) : WT X h (.Compare a [.NotEq] [b] pos) δ Φb Ψ :=
  wt_cmp (S := fun x y Φ => sEqD x y fun k => Φ (.bl (!k))) (op_neD hr.units) (fun B F G M σ δ H x y dx dy Q Φ S r1 r2 ⟨p, q', e1, e2, s1, s2, k⟩ q => ⟨p, q', rp_dp r1 e1, rp_dp r2 e2, s1, s2, Ans.now q S (.bl _) k⟩)
    (w.mono fun d k => k.mono fun d2 ⟨p, q', e1, e2, s1, s2, k⟩ => ⟨p, q', e1, e2, s1, s2, ⟨_, rfl, k⟩⟩) (nomark _)
theorem wt_w (w : WW X h e δ Φb Ψ) : WT X h e δ Φb Ψ := .mk fun B F G M σ H Q W tk S0 q x => tS_of pwS.pt (w.run B F G M σ H Q W tk S0 q x)
theorem ww_and1 (w : WT X h a δ Φb Ψ) : WW X h (.BoolOp .And [a] pos) δ Φb Ψ := .mk fun B F G M σ H Q W tk S0 q x => wS_of (pw_and1 ptS) (w.run B F G M σ H Q W tk S0 q x)
theorem ww_or1 (w : WT X h a δ Φb Ψ) : WW X h (.BoolOp .Or [a] pos) δ Φb Ψ := .mk fun B F G M σ H Q W tk S0 q x => wS_of (pw_or1 ptS) (w.run B F G M σ H Q W tk S0 q x)
theorem ww_and (w : WT X h a δ (fun k => if k = true then WW X h (.BoolOp .And (b :: es) pos) δ Φb Ψ else Φb false) Ψ) : WW X h (.BoolOp .And (a :: b :: es) pos) δ Φb Ψ := .mk fun B F G M σ H Q W tk S0 q x =>
  wS_of (pw_and ptS pwS) (w.run B F G M σ H _ W tk S0 (fun k H1 g1 S1 f => by
    cases k with
    | true => exact f.run B F G M σ H1 Q W tk S1 (fun k2 H2 g2 S2 f2 => q k2 H2 (g1.trans g2) S2 f2) (Out.on x g1)
    | false => exact q false H1 g1 S1 f) x)
theorem ww_or (w : WT X h a δ (fun k => if k = true then Φb true else WW X h (.BoolOp .Or (b :: es) pos) δ Φb Ψ) Ψ) : WW X h (.BoolOp .Or (a :: b :: es) pos) δ Φb Ψ := .mk fun B F G M σ H Q W tk S0 q x =>
  wS_of (pw_or ptS pwS) (w.run B F G M σ H _ W tk S0 (fun k H1 g1 S1 f => by
    cases k with
    | false => exact f.run B F G M σ H1 Q W tk S1 (fun k2 H2 g2 S2 f2 => q k2 H2 (g1.trans g2) S2 f2) (Out.on x g1)
    | true => exact q true H1 g1 S1 f) x)
theorem wt_not (w : WT X h a δ (fun k => Φb (!k)) Ψ) : WT X h (.UnaryOp .Not a pos) δ Φb Ψ := .mk fun B F G M σ H Q W tk S0 q x =>
  tS_of (pt_not ptS) (w.run B F G M σ H _ W tk S0 (fun k H1 g1 S1 f => q (!k) H1 g1 S1 f) x)
/-- and, or, not as values -/
theorem we_one {op : BoolOp} (w : WE X h a δ Φ Ψ) : WE X h (.BoolOp op [a] pos) δ Φ Ψ := .mk fun B F G M σ H Q W tk S0 q x => eS_of (pe_one peS) (w.run B F G M σ H Q W tk S0 q x)
theorem we_and (w : WE X h a δ (fun d => ∃ k, d = .bl k ∧ if k = true then WE X h (.BoolOp .And (b :: es) pos) δ Φ Ψ else Φ (.bl false)) Ψ) : WE X h (.BoolOp .And (a :: b :: es) pos) δ Φ Ψ := .mk fun B F G M σ H Q W tk S0 q x =>
  eS_of (pe_and peS peS) (w.run B F G M σ H _ W tk S0 (fun v H1 d g1 S1 r1 ⟨k, e1, f⟩ => by
    subst e1
    obtain rfl := r1.bl_inv
    refine ⟨k, rfl, ?_⟩
    cases k with
    | true => exact f.run B F G M σ H1 Q W tk S1 (Ans.on q g1) (Out.on x g1)
    | false => exact q _ H1 _ g1 S1 (.bl false) f) x)
theorem we_or (w : WE X h a δ (fun d => ∃ k, d = .bl k ∧ if k = true then Φ (.bl true) else WE X h (.BoolOp .Or (b :: es) pos) δ Φ Ψ) Ψ) : WE X h (.BoolOp .Or (a :: b :: es) pos) δ Φ Ψ := .mk fun B F G M σ H Q W tk S0 q x =>
  eS_of (pe_or peS peS) (w.run B F G M σ H _ W tk S0 (fun v H1 d g1 S1 r1 ⟨k, e1, f⟩ => by
    subst e1
    obtain rfl := r1.bl_inv
    refine ⟨k, rfl, ?_⟩
    cases k with
    | false => exact f.run B F G M σ H1 Q W tk S1 (Ans.on q g1) (Out.on x g1)
    | true => exact q _ H1 _ g1 S1 (.bl true) f) x)
theorem we_not (w : WE X h a δ (fun d => ∃ k, d = .bl k ∧ Φ (.bl (!k))) Ψ) : WE X h (.UnaryOp .Not a pos) δ Φ Ψ := .mk fun B F G M σ H Q W tk S0 q x =>
  eS_of (pe_not peS) (w.run B F G M σ H _ W tk S0 (fun v H1 d g1 S1 r1 ⟨k, e1, f⟩ => by
    subst e1
    obtain rfl := r1.bl_inv
    exact ⟨k, rfl, q _ H1 _ g1 S1 (.bl _) f⟩) x)
theorem we_ifx (w : WT X h c δ (fun k => if k = true then WE X h a δ Φ Ψ else WE X h b δ Φ Ψ) Ψ) : WE X h (.IfExp c a b pos) δ Φ Ψ := .mk fun B F G M σ H Q W tk S0 q x =>
  eS_of (pe_ifExp ptS peS peS) (w.run B F G M σ H _ W tk S0 (fun k H1 g1 S1 f => by
    cases k with
    | true => exact f.run B F G M σ H1 Q W tk S1 (Ans.on q g1) (Out.on x g1)
    | false => exact f.run B F G M σ H1 Q W tk S1 (Ans.on q g1) (Out.on x g1)) x)

/-! ### subscripts -/
def sIx : D → D → (D → Prop) → Prop
  | .lst xs, .int i, Φ => ∃ d, atI xs i = some d ∧ Φ d
  | .tup xs, .int i, Φ => ∃ d, atI xs i = some d ∧ Φ d
  | .str z, .int i, Φ => ∃ c, z.length ≤ sizeLine ∧ atI z.cps.toList i = some c ∧ Φ (.str ⟨#[c]⟩)
  | _, _, _ => False
theorem atI_rp {K : PySem.W.Frag} {M : Addr → Prop} {H : Hp} {vs : List V} {ds : List D} {i : Int} {d : D} (r : RpA K M H vs ds) (e : atI ds i = some d) : ∃ v, atI vs i = some v ∧ Rp K M H v d := by
  unfold atI at e ⊢
  rw [r.length]
  cases q : ixN ds.length i with
  | none => rw [q] at e; cases e
  | some j =>
    rw [q] at e
    exact r.get e
theorem we_ix (w : WE X h a δ (fun x => WE X h b δ (fun y => sIx x y Φ) Ψ) Ψ) (hs : PlainIx b := by intro _ _; rfl) : WE X h (.Subscript a b pos) δ Φ Ψ := .mk fun B F G M σ H Q W tk S0 q x =>
  eS_of (pe_ix ix_seq peS peS hs) (w.run B F G M σ H _ W tk S0 (fun v H1 d g1 S1 r1 w2 => w2.run B F G M σ H1 _ W tk S1 (fun u H2 d2 g2 S2 r2 k => by
    have r1' := r1.mono (g2.gr S1.hand)
    have q' := Ans.on q (g1.trans g2)
    cases d with
    | lst xs => cases d2 with
      | int i =>
        obtain ⟨d3, e3, k⟩ := k
        obtain ⟨l, vs, rfl, n1, e1, s1⟩ := r1'.lst_inv
        obtain rfl := r2.int_inv
        obtain ⟨z, e4, r4⟩ := atI_rp s1 e3
        exact .inl ⟨l, vs, i, z, rfl, rfl, SqL.of e1, e4, Ans.now q' S2 r4 k⟩
      | _ => exact False.elim k
    | tup xs => cases d2 with
      | int i =>
        obtain ⟨d3, e3, k⟩ := k
        obtain ⟨l, vs, rfl, e1, s1⟩ := r1'.tup_inv
        obtain rfl := r2.int_inv
        obtain ⟨z, e4, r4⟩ := atI_rp s1 e3
        exact .inr (.inl ⟨l, vs, i, z, rfl, rfl, e1, e4, Ans.now q' S2 r4 k⟩)
      | _ => exact False.elim k
    | str z => cases d2 with
      | int i =>
        obtain ⟨c, hl, e3, k⟩ := k
        obtain rfl := r1'.str_inv
        obtain rfl := r2.int_inv
        exact .inr (.inr ⟨z, i, c, rfl, rfl, hl, e3, Ans.now q' S2 (.str _) k⟩)
      | _ => exact False.elim k
    | _ => cases d2 <;> exact False.elim k) (Out.on x g1)) x)

/-! ### calls of built-ins -/
def CalS (X : Cx) (h : Option Hd) (r : List V → Hp → VK → Prop) (S : List D → (D → Prop) → Prop) : Prop :=
  ∀ (B : Addr → Prop) (F : Addr → HO → Prop) (G : V → D → Prop) (M : Addr → Prop) (σ : L2.St) (δ : List Sl) (H : Hp) (vs : List V) (ds : List D) (Q : VK) (Φ : D → Prop), SD X.K h B F G M H σ δ → RpA X.K M H vs ds → S ds Φ → Ans X h B F G M H σ δ Φ Q → r vs H Q
theorem we_callB {x : Str} {id : String} {rc : List V → Hp → VK → Prop} {Sc : List D → (D → Prop) → Prop} (hc : CallR X (.builtin id) rc) (hS : CalS X h rc Sc) (hm : X.mg x = none) (w : WA X h (e :: es) δ (fun ds => Sc ds Φ) Ψ) (hv : bootBuiltins x = some (.builtin id)) (hg : Gl X x := by rfl)
    (hn : x ≠ "__name__" := by decide) (hdb : (x == ("__debug__" : Str)) = false := by decide) (he : starEach (e :: es) X.env = (false, eval e X.env) :: starEach es X.env := by rfl) (hpl : (backTo pos (starEach es X.env)).any (·.1) = false := by rfl) : WE X h (.Call (.Name x p) (e :: es) [] pos) δ Φ Ψ := .mk fun B F G M σ H Q W tk S0 q x =>
  eS_of (pe_callB hc hg hm hv paS hn hdb he hpl) (w.run B F G M σ H _ W tk S0 (fun vs H1 ds g1 S1 r1 k => hS B F G M σ δ H1 vs ds Q Φ S1 r1 k (Ans.on q g1)) x)
theorem we_callT {x : Str} {id : String} {rc : List V → Hp → VK → Prop} {Sc : List D → (D → Prop) → Prop} (hc : CallR X (.type id) rc) (hS : CalS X h rc Sc) (hm : X.mg x = none) (w : WA X h (e :: es) δ (fun ds => Sc ds Φ) Ψ) (hv : bootBuiltins x = some (.type id)) (hg : Gl X x := by rfl)
    (hn : x ≠ "__name__" := by decide) (hdb : (x == ("__debug__" : Str)) = false := by decide) (he : starEach (e :: es) X.env = (false, eval e X.env) :: starEach es X.env := by rfl) (hpl : (backTo pos (starEach es X.env)).any (·.1) = false := by rfl) : WE X h (.Call (.Name x p) (e :: es) [] pos) δ Φ Ψ := .mk fun B F G M σ H Q W tk S0 q x =>
  eS_of (pe_callTy hc hg hm hv paS hn hdb he hpl) (w.run B F G M σ H _ W tk S0 (fun vs H1 ds g1 S1 r1 k => hS B F G M σ δ H1 vs ds Q Φ S1 r1 k (Ans.on q g1)) x)
theorem rpA_one {K : PySem.W.Frag} {M : Addr → Prop} {H : Hp} {vs : List V} {d : D} (r : RpA K M H vs [d]) : ∃ v, vs = [v] ∧ Rp K M H v d := by
  cases r with
  | cons h t => cases t; exact ⟨_, rfl, h⟩
theorem rpA_two {K : PySem.W.Frag} {M : Addr → Prop} {H : Hp} {vs : List V} {d d' : D} (r : RpA K M H vs [d, d']) : ∃ v v', vs = [v, v'] ∧ Rp K M H v d ∧ Rp K M H v' d' := by
  cases r with
  | cons h t =>
    obtain ⟨v', rfl, r'⟩ := rpA_one t
    exact ⟨_, _, rfl, h, r'⟩
def sLen : List D → (D → Prop) → Prop
  | [.lst xs], Φ => Φ (.int xs.length)
  | [.tup xs], Φ => Φ (.int xs.length)
  | [.str z], Φ => z.length ≤ sizeLine ∧ Φ (.int z.length)
  | _, _ => False
theorem calS_len : CalS X h (fun xs H Q => ∃ x n, xs = [x] ∧ LenV X.K x H n ∧ Q (.int n) H) sLen := fun B F G M σ δ H vs ds Q Φ S r k q => by
  match ds, k with
  | [.lst xs], k =>
    obtain ⟨v, rfl, r5⟩ := rpA_one r
    obtain ⟨l, ys, rfl, n1, e1, s1⟩ := r5.lst_inv
    exact ⟨_, _, rfl, .inl ⟨_, SqL.of e1, rfl⟩, Ans.now q S (.int _) (by rw [s1.length]; exact k)⟩
  | [.tup xs], k =>
    obtain ⟨v, rfl, r5⟩ := rpA_one r
    obtain ⟨l, ys, rfl, e1, s1⟩ := r5.tup_inv
    exact ⟨_, _, rfl, .inr ⟨_, e1, rfl⟩, Ans.now q S (.int _) (by rw [s1.length]; exact k)⟩
  | [.str z], k =>
    obtain ⟨v, rfl, r5⟩ := rpA_one r
    obtain rfl := r5.str_inv
    exact ⟨_, _, rfl, ⟨k.1, rfl⟩, Ans.now q S (.int _) k.2⟩
def sInt : List D → (D → Prop) → Prop
  | [.int i], Φ => Φ (.int i)
  | [.bl b], Φ => Φ (.int (if b then 1 else 0))
  | _, _ => False
theorem calS_int : CalS X h (fun xs H Q => (∃ i, xs = [.int i] ∧ Q (.int i) H) ∨ ∃ k, xs = [.bl k] ∧ Q (.int (if k then 1 else 0)) H) sInt := fun B F G M σ δ H vs ds Q Φ S r k q => by
  match ds, k with
  | [.int i], k =>
    obtain ⟨v, rfl, r5⟩ := rpA_one r
    obtain rfl := r5.int_inv
    exact .inl ⟨i, rfl, Ans.now q S (.int _) k⟩
  | [.bl b], k =>
    obtain ⟨v, rfl, r5⟩ := rpA_one r
    obtain rfl := r5.bl_inv
    exact .inr ⟨b, rfl, Ans.now q S (.int _) k⟩
end
end Uc

set_option Elab.async false
set_option linter.all false
set_option maxRecDepth 100000
set_option maxHeartbeats 4000000
namespace Uc
open PySem PySem.Spec PyProof.Rows L2

/-! ### own defs -/
abbrev PSp := Option Hd → List D → (D → Prop) → (Addr → List (Str × D) → Prop) → Prop
/-- the promise of a def, by descriptions -/
def spD (K : PySem.W.Frag) (S : PSp) : Sp := fun vs H Q E => ∃ (h : Option Hd) (B : Addr → Prop) (ds : List D) (Φ : D → Prop) (Ψ : Addr → List (Str × D) → Prop),
  RpA K B H vs ds ∧ HandOk h B H ∧ Live B H ∧ S h ds Φ Ψ ∧ (∀ v H' d, Gh h H H' → HandOk h B H' → Rp K B H' v d → Φ d → Q v H') ∧
    (∀ C od H' fs, Gh h H H' → HandOk h B H' → ExcD K B H' fs od → Ψ C fs → E (.ref C) od H')
section
variable {X : Cx} {h : Option Hd} {δ : List Sl} {Φ : D → Prop} {Ψ : Addr → List (Str × D) → Prop} {a b c e : Expr} {es : List Expr} {pos p : Pos}
theorem Gh.none {H H' : Hp} (g : Gh none H H') : Gh h H H' := fun b o _ z => g b o (fun q y => nomatch y) z
theorem we_call {x : Str} {k : Nat} {f : Addr} {fd : FuncData} {ps : List Str} {S : PSp} (h' : Option Hd) (hh : h' = h ∨ h' = none) (F : FnOk X.prog X.w X.K X.mg X.base (L2.CX X.prog X.w) k f fd ps (spD X.K S)) (hr : Room k X.A) (hm : X.mg x = some (.ref f)) (hk : PySem.W.keepIn X.K (.ref f) = true) (hb : Binds X.K fd ps [])
    (w : WA X h (e :: es) δ (fun ds => S h' ds Φ Ψ) Ψ) (hg : Gl X x := by rfl) (hdb : (x == ("__debug__" : Str)) = false := by decide) (he : starEach (e :: es) X.env = (false, eval e X.env) :: starEach es X.env := by rfl) (hpl : (backTo pos (starEach es X.env)).any (·.1) = false := by rfl) :
    WE X h (.Call (.Name x p) (e :: es) [] pos) δ Φ Ψ := .mk fun B F0 G M σ H Q W tk S0 q x0 => by
  refine eS_of (pe_callS (E := L2.WE W) F hr hg hm hk hb (fun σ => passAt tk σ) paS hdb he hpl) (w.run B F0 G M σ H _ W tk S0 (fun vs H1 ds g1 S1 r1 s1 => ?_) x0)
  have hand' : HandOk h' M H1 := by
    rcases hh with z | z
    · rw [z]; exact S1.hand
    · rw [z]; exact fun p y => nomatch y
  have back : ∀ {H' : Hp}, Gh h' H1 H' → HandOk h' M H' → Gh h H1 H' ∧ HandOk h M H' := fun {H'} g k => by
    rcases hh with z | z
    · rw [z] at g k; exact ⟨g, k⟩
    · rw [z] at g; exact ⟨g.none, handOk_all S1.hand fun b o y => g b o (fun q w => nomatch w) y⟩
  exact ⟨h', M, ds, Φ, Ψ, r1, hand', S1.live, s1, fun v H' d g k r f => q v H' d (g1.trans (back g k).1) (S1.step (back g k).1 (back g k).2) r f,
    fun C od H' fs g k ed f => x0 C od H' fs (g1.trans (back g k).1) (S1.step (back g k).1 (back g k).2) ed f⟩

/-! ### isinstance -/
inductive TyD (K : PySem.W.Frag) : D → Value → Prop
  | non : TyD K .non (.type "NoneType")
  | bl (b : Bool) : TyD K (.bl b) (.type "bool")
  | int (i : Int) : TyD K (.int i) (.type "int")
  | str (s : Str) : TyD K (.str s) (.type "str")
  | lst (xs : List D) : TyD K (.lst xs) (.type "list")
  | tup (xs : List D) : TyD K (.tup xs) (.type "tuple")
/-- isinstance(x, c) -/
def sIsi (K : PySem.W.Frag) (ds : List D) (Φ : D → Prop) : Prop := ∃ (x : D) (c : V) (cv : Value) (b : Bool), ds = [x, .at_ c] ∧ ClsV c cv ∧
  ((∃ t, TyD K x t ∧ PySem.W.kitOne K t cv = some b) ∨ (∃ C fs, x = .exc C fs ∧ EC K C ∧ PySem.W.kitOne K (.ref C) cv = some b)) ∧ Φ (.bl b)
theorem callR_or {f : Value} {r r' : List V → Hp → VK → Prop} (h1 : CallR X f r) (h2 : CallR X f r') : CallR X f (fun vs H Q => r vs H Q ∨ r' vs H Q) := by
  intro pins s σ H xs us Q I rv h
  rcases h with h | h
  · exact h1 pins s σ H xs us Q I rv h
  · exact h2 pins s σ H xs us Q I rv h
theorem tyD_of {K : PySem.W.Frag} {M : Addr → Prop} {H : Hp} {v : V} {x : D} {t : Value} (r : Rp K M H v x) (ty : TyD K x t) : TyX K H v t := by
  cases ty with
  | non => cases r; exact .base .non
  | bl b => cases r; exact .base (.bl b)
  | int i => cases r; exact .base (.int i)
  | str s => cases r; exact .base (.str s)
  | lst xs =>
    obtain ⟨a, vs, rfl, _, e, _⟩ := r.lst_inv
    exact .base (.lst e)
  | tup xs =>
    cases r with
    | tup n e s => exact .base (.tup e)
    | tupK e s =>
      rcases e with (e | ⟨o, e⟩) | ⟨o, its, n, e1, e2, _⟩
      · cases e
      · cases e
      · exact .kTuple e1 e2
theorem exAt_of {K : PySem.W.Frag} {M : Addr → Prop} {H : Hp} {v : V} {C : Addr} {fs : List (Str × D)} (r : Rp K M H v (.exc C fs)) : ∃ a o, v = .ref a ∧ ExAt H a C o ∧ (fs = [] ∧ o = none ∨ ∃ d fv, o = some (d, fv) ∧ RpF K M H fv fs) := by
  cases r with
  | exc0 n h => exact ⟨_, _, rfl, h, .inl ⟨rfl, rfl⟩⟩
  | exc n n2 h r => exact ⟨_, _, rfl, h, .inr ⟨_, _, rfl, r⟩⟩
theorem calS_isi : CalS X h (fun vs H Q => rIsi X.K vs H Q ∨ rIsX X.K vs H Q) (sIsi X.K) := fun B F G M σ δ H vs ds Q Φ S r k q => by
  obtain ⟨x, c, cv, b, rfl, hc, k1, k2⟩ := k
  obtain ⟨v, v', rfl, r1, r2⟩ := rpA_two r
  obtain rfl := r2.at_inv
  rcases k1 with ⟨t, ty, e⟩ | ⟨C, fs, rfl, ec, e⟩
  · exact .inl ⟨v, v', t, cv, b, rfl, hc, tyD_of r1 ty, e, Ans.now q S (.bl b) k2⟩
  · obtain ⟨a, o, rfl, he, _⟩ := exAt_of r1
    exact .inr ⟨a, C, o, v', cv, b, rfl, he, ec, hc, e, Ans.now q S (.bl b) k2⟩
theorem we_isi {x : Str} (hx : x = "isinstance") (hm : X.mg x = none) (w : WA X h (e :: es) δ (fun ds => sIsi X.K ds Φ) Ψ) (hg : Gl X x := by rfl) (hn : x ≠ "__name__" := by decide) (hdb : (x == ("__debug__" : Str)) = false := by decide)
    (he : starEach (e :: es) X.env = (false, eval e X.env) :: starEach es X.env := by rfl) (hpl : (backTo pos (starEach es X.env)).any (·.1) = false := by rfl) : WE X h (.Call (.Name x p) (e :: es) [] pos) δ Φ Ψ :=
  we_callB (callR_or call_isi call_isX) calS_isi hm w (by rw [hx]; decide +kernel) hg hn hdb he hpl
theorem we_len {x : Str} (hx : x = "len") (hm : X.mg x = none) (w : WA X h (e :: es) δ (fun ds => sLen ds Φ) Ψ) (hg : Gl X x := by rfl) (hn : x ≠ "__name__" := by decide) (hdb : (x == ("__debug__" : Str)) = false := by decide)
    (he : starEach (e :: es) X.env = (false, eval e X.env) :: starEach es X.env := by rfl) (hpl : (backTo pos (starEach es X.env)).any (·.1) = false := by rfl) : WE X h (.Call (.Name x p) (e :: es) [] pos) δ Φ Ψ :=
  we_callB call_len calS_len hm w (by rw [hx]; decide +kernel) hg hn hdb he hpl
theorem we_intc {x : Str} (hx : x = "int") (hm : X.mg x = none) (w : WA X h (e :: es) δ (fun ds => sInt ds Φ) Ψ) (hg : Gl X x := by rfl) (hn : x ≠ "__name__" := by decide) (hdb : (x == ("__debug__" : Str)) = false := by decide)
    (he : starEach (e :: es) X.env = (false, eval e X.env) :: starEach es X.env := by rfl) (hpl : (backTo pos (starEach es X.env)).any (·.1) = false := by rfl) : WE X h (.Call (.Name x p) (e :: es) [] pos) δ Φ Ψ :=
  we_callT call_int1 calS_int hm w (by rw [hx]; decide +kernel) hg hn hdb he hpl
/-- tuple(a new list) -/
def sTuple : List D → (D → Prop) → Prop
  | [.lst xs], Φ => Φ (.tup xs)
  | [.tup xs], Φ => Φ (.tup xs)
  | _, _ => False

/-! ### exceptions as values -/
theorem we_xf {f : Str} (w : WE X h e δ (fun d => ∃ C fs dv, d = .exc C fs ∧ fs ≠ [] ∧ EC X.K C ∧ PySem.W.findIn X.K (.ref C) f = some none ∧ fs.lookup f = some dv ∧ Φ dv) Ψ) (hb : attributeBase e f X.env (eval e X.env) = eval e X.env := by rfl) : WE X h (.Attribute e f pos) δ Φ Ψ := .mk fun B F G M σ H Q W tk S0 q x =>
  eS_of (pe_xfV peS hb) (w.run B F G M σ H _ W tk S0 (fun v H1 d g1 S1 r1 ⟨C, fs, dv, e1, ne, ec, hf, hl, k⟩ => by
    subst e1
    obtain ⟨a, o, rfl, he, hx⟩ := exAt_of r1
    rcases hx with ⟨z, _⟩ | ⟨d, fv, rfl, rf⟩
    · exact absurd z ne
    · obtain ⟨u, hu, ru⟩ := rf.look hl
      exact ⟨a, C, d, fv, u, rfl, he, ec, hf, hu, Ans.now (Ans.on q g1) S1 ru k⟩) x)
/-- what an own __init__ that stores its arguments promises -/
def spIni (K : PySem.W.Frag) (ns : List Str) : Sp := fun vs H Q _ => ∃ (a C : Addr) (ws : List V), vs = .ref a :: ws ∧ ws.length = ns.length ∧ OexC K C ∧ (∀ f ∈ ns, PySem.W.findIn K (.ref C) f = some none) ∧ H a = some (exo a C none) ∧
  ∀ (d : Addr) (fv : List (Str × V)) (H' : Hp), H d = none → d ≠ a → (∀ b o, b ≠ a → H b = some o → H' b = some o) → ExAt H' a C (some (d, fv)) → fv = (ns.zip ws).reverse → Q .non H'
theorem rpF_zip {K : PySem.W.Frag} {M : Addr → Prop} {H : Hp} : ∀ {ns : List Str} {ws : List V} {ds : List D}, RpA K M H ws ds → RpF K M H (ns.zip ws) (ns.zip ds)
  | [], _, _, _ => .nil
  | _ :: _, _, _, .nil => .nil
  | _ :: _, _, _, .cons h t => .cons h (rpF_zip t)
theorem rpF_append {K : PySem.W.Frag} {M : Addr → Prop} {H : Hp} : ∀ {a b : List (Str × V)} {c d : List (Str × D)}, RpF K M H a c → RpF K M H b d → RpF K M H (a ++ b) (c ++ d)
  | _, _, _, _, .nil, s => s
  | _, _, _, _, .cons h t, s => .cons h (rpF_append t s)
theorem rpF_rev {K : PySem.W.Frag} {M : Addr → Prop} {H : Hp} : ∀ {a : List (Str × V)} {c : List (Str × D)}, RpF K M H a c → RpF K M H a.reverse c.reverse
  | _, _, .nil => .nil
  | _, _, .cons h t => by
    rw [List.reverse_cons, List.reverse_cons]
    exact rpF_append (rpF_rev t) (.cons h .nil)
theorem we_mk {x : Str} {C fI : Addr} {k : Nat} {fd : FuncData} {ps : List Str} {ns : List Str} (ec : EC X.K C) (iC : PySem.W.findIn X.K (.ref C) "__init__" = some (some (.ref fI))) (tI : PySem.W.typeIn X.K (.ref fI) = some (.type "function"))
    (F : FnOk X.prog X.w X.K X.mg X.base (L2.CX X.prog X.w) k fI fd ps (spIni X.K ns)) (hr : Room (k + 1) X.A) (hb : Binds X.K fd ps []) (hm : X.mg x = some (.ref C)) (hf : ∀ f ∈ ns, PySem.W.findIn X.K (.ref C) f = some none)
    (w : WA X h (e :: es) δ (fun ds => ds.length = ns.length ∧ ds.length ≤ 1000 ∧ Φ (.exc C (ns.zip ds).reverse)) Ψ) (hg : Gl X x := by rfl) (hdb : (x == ("__debug__" : Str)) = false := by decide) (he : starEach (e :: es) X.env = (false, eval e X.env) :: starEach es X.env := by rfl) (hpl : (backTo pos (starEach es X.env)).any (·.1) = false := by rfl) :
    WE X h (.Call (.Name x p) (e :: es) [] pos) δ Φ Ψ := .mk fun B F0 G M σ H Q W tk S0 q x0 => by
  refine eS_of (pe_oexV ec.ox iC tI F hr hb passL hg hm paS hdb he hpl) (w.run B F0 G M σ H _ W tk S0 (fun vs H1 ds g1 S1 r1 ⟨h1, h2, k⟩ => ?_) x0)
  have hl := r1.length
  refine ⟨by omega, fun a ha => ⟨a, C, vs, rfl, by omega, ec.ox, hf, upd_same, fun d fv H' hd hda kp he efv => ⟨rfl, ?_⟩⟩⟩
  subst efv
  have all : ∀ b o, H1 b = some o → H' b = some o := fun b o z => kp b o (ne_of_none z ha) (by rw [upd_ne (ne_of_none z ha)]; exact z)
  have hd1 : H1 d = none := by rw [upd_ne hda] at hd; exact hd
  have r1' := r1.mono (Gh.gr S1.hand (Gh.all (h := h) all))
  exact q _ H' _ (g1.trans (Gh.all all)) (S1.all all) (.exc (S1.live.new ha) (S1.live.new hd1) he (rpF_rev (rpF_zip r1'))) k
theorem we_mk0 {x : Str} {C : Addr} (q0 : PySem.W.excIn X.K C He.veBase "ValueError.__new__" = true) (kC : PySem.W.keepIn X.K (.ref C) = true) (hm : X.mg x = some (.ref C)) (k : Φ (.exc C [])) (hg : Gl X x := by rfl) (hdb : (x == ("__debug__" : Str)) = false := by decide) :
    WE X h (.Call (.Name x p) [] [] pos) δ Φ Ψ := .mk fun B F0 G M σ H Q W tk S0 q x0 =>
  eS_of (pe_oexV0 PySem.F.excBase_ValueError q0 kC hg hm hdb) fun a ha => q _ _ _ (Gh.new ha) (S0.all (new_all ha)) (.exc0 (S0.live.new ha) (.bare upd_same)) k
end
end Uc

set_option Elab.async false
set_option linter.all false
set_option maxRecDepth 100000
set_option maxHeartbeats 4000000
namespace Uc
open PySem PySem.Spec PyProof.Rows L2

/-- what is wanted behind a statement -/
structure Po where
  nx : List Sl → Prop
  rt : D → Prop
  bk : List Sl → Prop := fun _ => False
  ct : List Sl → Prop := fun _ => False
  ex : List Sl → Addr → List (Str × D) → Prop
structure EndsOk (X : Cx) (h : Option Hd) (B : Addr → Prop) (F : Addr → HO → Prop) (G : V → D → Prop) (P : Po) (D : Ends) (W : WX) : Prop where
  nx : ∀ M σ H δ, SD X.K h B F G M H σ δ → P.nx δ → D.nx σ H
  rt : ∀ M σ H δ v d, SD X.K h B F G M H σ δ → Rp X.K M H v d → P.rt d → D.rt v H
  bk : ∀ M σ H δ, SD X.K h B F G M H σ δ → P.bk δ → D.bk σ H
  ct : ∀ M σ H δ, SD X.K h B F G M H σ δ → P.ct δ → D.ct σ H
  ex : ∀ M σ H δ C od fs, SD X.K h B F G M H σ δ → ExcD X.K M H fs od → P.ex δ C fs → W (.ref C) od σ H
structure WS (X : Cx) (h : Option Hd) (st : Stmt) (δ : List Sl) (P : Po) : Prop where
  run : ∀ (B : Addr → Prop) (F : Addr → HO → Prop) (G : V → D → Prop) (M : Addr → Prop) (σ : L2.St) (H : Hp) (D : Ends) (W : WX), Takes X W → SD X.K h B F G M H σ δ → EndsOk X h B F G P D W → sS X st D σ H
structure WB (X : Cx) (h : Option Hd) (st : List Stmt) (δ : List Sl) (P : Po) : Prop where
  run : ∀ (B : Addr → Prop) (F : Addr → HO → Prop) (G : V → D → Prop) (M : Addr → Prop) (σ : L2.St) (H : Hp) (D : Ends) (W : WX), Takes X W → SD X.K h B F G M H σ δ → EndsOk X h B F G P D W → bS X st D σ H

section
variable {K : PySem.W.Frag} {h : Option Hd} {B : Addr → Prop} {F : Addr → HO → Prop} {G : V → D → Prop} {M : Addr → Prop} {H H' : Hp} {σ : L2.St} {δ : List Sl}
theorem slot_set {α : Type} {l : List α} {i j : Nat} {a b : α} (e : (l.set i a)[j]? = some b) : (j = i ∧ b = a ∧ i < l.length) ∨ (j ≠ i ∧ l[j]? = some b) := by
  by_cases q : j = i
  · subst q
    by_cases hl : j < l.length
    · rw [List.getElem?_set_self hl] at e
      exact .inl ⟨rfl, (Option.some.inj e).symm, hl⟩
    · rw [List.getElem?_eq_none (by simpa using hl)] at e
      cases e
  · rw [List.getElem?_set_ne (Ne.symm q)] at e
    exact .inr ⟨q, e⟩
theorem SD.setV {v : V} {d : D} (S : SD K h B F G M H σ δ) (i : Nat) (r : Rp K M H v d) : SD K h B F G M H (σ.set i (some v)) (δ.set i (.val d)) where
  len := by rw [List.length_set, List.length_set]; exact S.len
  val := fun j d' e => by
    rcases slot_set e with ⟨rfl, e1, hl⟩ | ⟨ne, e1⟩
    · cases e1
      exact ⟨v, List.getElem?_set_self (by rw [S.len]; exact hl), r⟩
    · obtain ⟨u, e2, r2⟩ := S.val j d' e1
      exact ⟨u, by rw [List.getElem?_set_ne (Ne.symm ne)]; exact e2, r2⟩
  own := fun j ds e => by
    rcases slot_set e with ⟨rfl, e1, hl⟩ | ⟨ne, e1⟩
    · cases e1
    · obtain ⟨p, xs, e2, z⟩ := S.own j ds e1
      exact ⟨p, xs, by rw [List.getElem?_set_ne (Ne.symm ne)]; exact e2, z⟩
  dis := fun j l ds es p ne e1 e2 e3 e4 => by
    rcases slot_set e1 with ⟨rfl, q1, _⟩ | ⟨n1, q1⟩
    · cases q1
    · rcases slot_set e2 with ⟨rfl, q2, _⟩ | ⟨n2, q2⟩
      · cases q2
      · rw [List.getElem?_set_ne (Ne.symm n1)] at e3
        rw [List.getElem?_set_ne (Ne.symm n2)] at e4
        exact S.dis j l ds es p ne q1 q2 e3 e4
  hand := S.hand
  live := S.live
  fk := S.fk
  fh := S.fh
  gk := S.gk
  mb := S.mb
/-- a slot forgotten -/
theorem SD.setN {o : Option V} (S : SD K h B F G M H σ δ) (i : Nat) : SD K h B F G M H (σ.set i o) (δ.set i .no) where
  len := by rw [List.length_set, List.length_set]; exact S.len
  val := fun j d' e => by
    rcases slot_set e with ⟨rfl, e1, hl⟩ | ⟨ne, e1⟩
    · cases e1
    · obtain ⟨u, e2, r2⟩ := S.val j d' e1
      exact ⟨u, by rw [List.getElem?_set_ne (Ne.symm ne)]; exact e2, r2⟩
  own := fun j ds e => by
    rcases slot_set e with ⟨rfl, e1, hl⟩ | ⟨ne, e1⟩
    · cases e1
    · obtain ⟨p, xs, e2, z⟩ := S.own j ds e1
      exact ⟨p, xs, by rw [List.getElem?_set_ne (Ne.symm ne)]; exact e2, z⟩
  dis := fun j l ds es p ne e1 e2 e3 e4 => by
    rcases slot_set e1 with ⟨rfl, q1, _⟩ | ⟨n1, q1⟩
    · cases q1
    · rcases slot_set e2 with ⟨rfl, q2, _⟩ | ⟨n2, q2⟩
      · cases q2
      · rw [List.getElem?_set_ne (Ne.symm n1)] at e3
        rw [List.getElem?_set_ne (Ne.symm n2)] at e4
        exact S.dis j l ds es p ne q1 q2 e3 e4
  hand := S.hand
  live := S.live
  fk := S.fk
  fh := S.fh
  gk := S.gk
  mb := S.mb
/-- a new list becomes one's own: p was free at H0, and all of the state stood there -/
theorem SD.setO {p : Addr} {xs : List V} {ds : List D} {H0 : Hp} (S0 : SD K h B F G M H0 σ δ) (S : SD K h B F G M H σ δ) (g : Gh h H0 H) (n : H0 p = none) (hp : H p = some (.lst xs)) (nr : RpA K (fun a => M a ∨ a = p) H xs ds) (i : Nat) :
    SD K h B F G (fun a => M a ∨ a = p) H (σ.set i (some (V.ref p))) (δ.set i (.own ds)) :=
  have w : ∀ a, (M a ∨ a = p) → M a ∨ H0 a = none := fun a z => z.elim .inl fun y => .inr (by rw [y]; exact n)
  have gg : Gr (fun a => M a ∨ a = p) H0 H := fun b o nb e => g.gr S0.hand b o (fun z => nb (.inl z)) e
  have all : ∀ v d, Rp K M H0 v d → Rp K (fun a => M a ∨ a = p) H v d := fun v d r => (r.nar w).mono gg
  have allA : ∀ v d, RpA K M H0 v d → RpA K (fun a => M a ∨ a = p) H v d := fun v d r => (r.nar w).mono gg
  {
  len := by rw [List.length_set, List.length_set]; exact S.len
  val := fun j d' e => by
    rcases slot_set e with ⟨rfl, e1, hl⟩ | ⟨ne, e1⟩
    · cases e1
    · obtain ⟨u, e2, r2⟩ := S0.val j d' e1
      exact ⟨u, by rw [List.getElem?_set_ne (Ne.symm ne)]; exact e2, all _ _ r2⟩
  own := fun j ds' e => by
    rcases slot_set e with ⟨rfl, e1, hl⟩ | ⟨ne, e1⟩
    · cases e1
      refine ⟨p, xs, List.getElem?_set_self (by rw [S.len]; exact hl), .inr rfl, fun q z y => ?_, hp, nr, fun z => S0.live.new n (S0.mb p z), fun o z => ?_⟩
      · exact S0.live.new n (by rw [y]; exact (S0.hand q z).1)
      · have y := S0.fk p o z
        rw [n] at y
        cases y
    · obtain ⟨p', xs', e2, m, nh, hp', r', z⟩ := S0.own j ds' e1
      exact ⟨p', xs', by rw [List.getElem?_set_ne (Ne.symm ne)]; exact e2, .inl m, nh, g p' _ nh hp', allA _ _ r', z⟩
  dis := fun j l ds1 es p1 ne e1 e2 e3 e4 => by
    have old : ∀ k ds2, δ[k]? = some (Sl.own ds2) → σ[k]? ≠ some (some (V.ref p)) := fun k ds2 q z => by
      obtain ⟨p', xs', e5, m, _⟩ := S0.own k ds2 q
      rw [z] at e5
      cases e5
      exact S0.live.new n m
    rcases slot_set e1 with ⟨rfl, q1, hl⟩ | ⟨n1, q1⟩
    · rw [List.getElem?_set_self (by rw [S.len]; exact hl)] at e3
      cases e3
      rcases slot_set e2 with ⟨rfl, q2, _⟩ | ⟨n2, q2⟩
      · exact ne rfl
      · rw [List.getElem?_set_ne (Ne.symm n2)] at e4
        exact old _ _ q2 e4
    · rw [List.getElem?_set_ne (Ne.symm n1)] at e3
      rcases slot_set e2 with ⟨rfl, q2, hl⟩ | ⟨n2, q2⟩
      · rw [List.getElem?_set_self (by rw [S.len]; exact hl)] at e4
        cases e4
        exact old _ _ q1 e3
      · rw [List.getElem?_set_ne (Ne.symm n2)] at e4
        exact S0.dis j l ds1 es p1 ne q1 q2 e3 e4
  hand := fun q e => by
    obtain ⟨mq, i', rest, tot, h1, h2, h3, h4⟩ := S.hand q e
    obtain ⟨_, _, _, _, _, k2, _⟩ := S0.hand q e
    exact ⟨.inl mq, i', rest, tot, h1, h2, fun z => z.elim h3 fun y => ne_of_none k2 n y, h4⟩
  live := fun a z => z.elim (S.live a) fun y => by rw [y]; exact ⟨_, hp⟩
  fk := S.fk
  fh := S.fh
  gk := fun v d z => all v d (S0.gk v d z)
  mb := fun a z => .inl (S.mb a z) }
end
end Uc

set_option Elab.async false
set_option linter.all false
set_option maxRecDepth 100000
set_option maxHeartbeats 4000000
namespace Uc
open PySem PySem.Spec PyProof.Rows L2
section
variable {X : Cx} {h : Option Hd} {δ : List Sl} {P : Po} {a b c e : Expr} {es : List Expr} {pos p : Pos} {st : Stmt} {rest body orelse : List Stmt}
theorem wb_nil (k : P.nx δ) : WB X h [] δ P := .mk fun B F G M σ H D W tk S E => bS_of pss_nil (E.nx M σ H δ S k)
theorem wb_cons (w : WS X h st δ { P with nx := fun δ' => WB X h rest δ' P }) : WB X h (st :: rest) δ P := .mk fun B F G M σ H D W tk S E =>
  bS_of (pss_cons psS pbS) (w.run B F G M σ H { D with nx := bS X rest D } W tk S ⟨fun M' σ' H' δ' S' w' => w'.run B F G M' σ' H' D W tk S' E, E.rt, E.bk, E.ct, E.ex⟩)
theorem wb_mono {P' : Po} (w : WB X h rest δ P) (h1 : ∀ δ, P.nx δ → P'.nx δ) (h2 : ∀ d, P.rt d → P'.rt d) (h3 : ∀ δ, P.bk δ → P'.bk δ) (h4 : ∀ δ, P.ct δ → P'.ct δ) (h5 : ∀ δ C fs, P.ex δ C fs → P'.ex δ C fs) : WB X h rest δ P' := .mk fun B F G M σ H D W tk S E =>
  w.run B F G M σ H D W tk S ⟨fun M σ H δ S k => E.nx M σ H δ S (h1 δ k), fun M σ H δ v d S r k => E.rt M σ H δ v d S r (h2 d k), fun M σ H δ S k => E.bk M σ H δ S (h3 δ k), fun M σ H δ S k => E.ct M σ H δ S (h4 δ k), fun M σ H δ C od fs S x k => E.ex M σ H δ C od fs S x (h5 δ C fs k)⟩
theorem out_of {B : Addr → Prop} {F : Addr → HO → Prop} {G : V → D → Prop} {M : Addr → Prop} {σ : L2.St} {H : Hp} {D : Ends} {W : WX} (E : EndsOk X h B F G P D W) : Out X h B F G M H σ δ (P.ex δ) W := fun C od H' fs g S ed k => E.ex M σ H' δ C od fs S ed k
/-- x = e -/
theorem ws_set {x : Str} {p' : Pos} (i : Nat) (hN : X.N.Nodup) (w : WE X h e δ (fun d => P.nx (δ.set i (.val d))) (P.ex δ)) (hi : X.N[i]? = some x := by rfl) (hx : Loc X.env.scope x := by first | exact Or.inl rfl | exact Or.inr rfl) (hs : swapsWith e (some (.Name x p')) pos.line X.env = pure false := by rfl)
    (hf : X.fn x = true ∨ X.env.scope.names.lookup x = some .local := by first | exact .inl rfl | exact .inr rfl) : WS X h (.Assign [.Name x p'] e pos) δ P := .mk fun B F G M σ H D W tk S E =>
  sS_of (ps_set hN hi hx peS hs hf) (w.run B F G M σ H _ W tk S (fun v H1 d g1 S1 r1 k => E.nx M _ H1 _ (S1.setV i r1) k) (out_of E))
/-- x = a new list, one's own -/
theorem ws_own {x : Str} {p' : Pos} (i : Nat) (hN : X.N.Nodup) (w : WF X h e δ (fun ds => P.nx (δ.set i (.own ds))) (P.ex δ)) (hi : X.N[i]? = some x := by rfl) (hx : Loc X.env.scope x := by first | exact Or.inl rfl | exact Or.inr rfl) (hs : swapsWith e (some (.Name x p')) pos.line X.env = pure false := by rfl)
    (hf : X.fn x = true ∨ X.env.scope.names.lookup x = some .local := by first | exact .inl rfl | exact .inr rfl) : WS X h (.Assign [.Name x p'] e pos) δ P := .mk fun B F G M σ H D W tk S E =>
  sS_of (ps_set hN hi hx peS hs hf) (w.run B F G M σ H _ W tk S (fun p H1 xs ds g1 S1 n hp nr k => E.nx _ _ H1 _ (SD.setO S S1 g1 n hp nr i) k) (out_of E))
theorem ws_ret (w : WE X h e δ P.rt (P.ex δ)) : WS X h (.Return (some e) pos) δ P := .mk fun B F G M σ H D W tk S E =>
  sS_of (ps_ret peS) (w.run B F G M σ H _ W tk S (fun v H1 d g1 S1 r1 k => E.rt M σ H1 δ v d S1 r1 k) (out_of E))
theorem ws_retN (k : P.rt .non) : WS X h (.Return none pos) δ P := .mk fun B F G M σ H D W tk S E => sS_of ps_retN (E.rt M σ H δ _ _ S .non k)
theorem ws_if (w : WT X h c δ (fun k => if k = true then WB X h body δ P else WB X h orelse δ P) (P.ex δ)) : WS X h (.If c body orelse pos) δ P := .mk fun B F G M σ H D W tk S E =>
  sS_of (ps_if ptS pbS pbS) (w.run B F G M σ H _ W tk S (fun k H1 g1 S1 f => by
    cases k with
    | true => exact f.run B F G M σ H1 D W tk S1 E
    | false => exact f.run B F G M σ H1 D W tk S1 E) (out_of E))
theorem ws_drop (w : WE X h e δ (fun _ => P.nx δ) (P.ex δ)) (hs : swapsWith e none pos.line X.env = pure false := by rfl) : WS X h (.Expr e pos) δ P := .mk fun B F G M σ H D W tk S E =>
  sS_of (ps_expr peS hs) (w.run B F G M σ H _ W tk S (fun v H1 d g1 S1 r1 k => E.nx M σ H1 δ S1 k) (out_of E))
theorem ws_pass (k : P.nx δ) : WS X h (.Pass pos) δ P := .mk fun B F G M σ H D W tk S E => sS_of ps_pass (E.nx M σ H δ S k)
theorem ws_break (k : P.bk δ) : WS X h (.Break pos) δ P := .mk fun B F G M σ H D W tk S E => sS_of ps_break (E.bk M σ H δ S k)
theorem ws_cont (k : P.ct δ) : WS X h (.Continue pos) δ P := .mk fun B F G M σ H D W tk S E => sS_of ps_continue (E.ct M σ H δ S k)
/-- one's own list given over: it stays from here on -/
theorem SD.give {K : PySem.W.Frag} {B : Addr → Prop} {F : Addr → HO → Prop} {G : V → D → Prop} {M : Addr → Prop} {H : Hp} {σ : L2.St} {i : Nat} {ds : List D} (S : SD K h B F G M H σ δ) (hi : δ[i]? = some (Sl.own ds)) : ∃ M', SD K h B F G M' H σ (δ.set i (.val (.lst ds))) ∧ ∀ a, M' a → M a := by
  obtain ⟨p, xs, e1, mp, np, hp, r, nb, nf⟩ := S.own i ds hi
  have w : ∀ a, (M a ∧ a ≠ p) → M a := fun a z => z.1
  refine ⟨fun a => M a ∧ a ≠ p, ⟨by rw [List.length_set]; exact S.len, fun j d' e => ?_, fun j ds' e => ?_, fun j l ds1 es p1 ne e1 e2 e3 e4 => ?_, fun q e => ?_, fun a z => S.live a z.1, S.fk, S.fh, fun v d z => (S.gk v d z).wid w, fun a z => ⟨S.mb a z, fun y => nb (by rw [← y]; exact z)⟩⟩, w⟩
  · rcases slot_set e with ⟨rfl, q1, hl⟩ | ⟨ne, q1⟩
    · cases q1
      exact ⟨.ref p, e1, .lst (fun z => z.2 rfl) hp (r.wid w)⟩
    · obtain ⟨u, e2, r2⟩ := S.val j d' q1
      exact ⟨u, e2, r2.wid w⟩
  · rcases slot_set e with ⟨rfl, q1, hl⟩ | ⟨ne, q1⟩
    · cases q1
    · obtain ⟨p', xs', e2, m, nh, hp', r', z⟩ := S.own j ds' q1
      refine ⟨p', xs', e2, ⟨m, fun y => ?_⟩, nh, hp', r'.wid w, z⟩
      subst y
      exact S.dis i j ds ds' p' (Ne.symm ne) hi q1 e1 e2
  · rcases slot_set e1 with ⟨rfl, q1, _⟩ | ⟨n1, q1⟩
    · cases q1
    · rcases slot_set e2 with ⟨rfl, q2, _⟩ | ⟨n2, q2⟩
      · cases q2
      · exact S.dis j l ds1 es p1 ne q1 q2 e3 e4
  · obtain ⟨mq, i', rest, tot, h1, h2, h3, h4⟩ := S.hand q e
    exact ⟨⟨mq, fun y => np q e y.symm⟩, i', rest, tot, h1, h2, fun z => h3 z.1, h4⟩
theorem wb_give {i : Nat} {ds : List D} (hi : δ[i]? = some (Sl.own ds)) (w : WB X h rest (δ.set i (.val (.lst ds))) P) : WB X h rest δ P := .mk fun B F G M σ H D W tk S E => by
  obtain ⟨M', S', _⟩ := S.give hi
  exact w.run B F G M' σ H D W tk S' E
theorem ws_give {i : Nat} {ds : List D} (hi : δ[i]? = some (Sl.own ds)) (w : WS X h st (δ.set i (.val (.lst ds))) P) : WS X h st δ P := .mk fun B F G M σ H D W tk S E => by
  obtain ⟨M', S', _⟩ := S.give hi
  exact w.run B F G M' σ H D W tk S' E
/-- one's own list changed in place -/
theorem SD.chg {K : PySem.W.Frag} {B : Addr → Prop} {F : Addr → HO → Prop} {G : V → D → Prop} {M : Addr → Prop} {H : Hp} {σ : L2.St} {i : Nat} {ds es : List D} {q : Addr} {xs ys : List V} (S : SD K h B F G M H σ δ) (hi : δ[i]? = some (Sl.own ds)) (eq : σ[i]? = some (some (V.ref q))) (r : RpA K M H ys es) :
    SD K h B F G M (upd H q (.lst ys)) σ (δ.set i (.own es)) := by
  obtain ⟨p, xs0, e1, mp, np, hp, r0, nb, nf⟩ := S.own i ds hi
  rw [eq] at e1
  cases e1
  have gr : Gr M H (upd H q (.lst ys)) := fun b o n e => by rw [upd_ne (fun z => n (by rw [z]; exact mp))]; exact e
  refine ⟨by rw [List.length_set]; exact S.len, fun j d' e => ?_, fun j ds' e => ?_, fun j l ds1 es1 p1 ne e1 e2 e3 e4 => ?_, fun z e => ?_, fun a z => ?_, fun b o z => ?_, S.fh, fun v d z => (S.gk v d z).mono gr, S.mb⟩
  · rcases slot_set e with ⟨rfl, q1, hl⟩ | ⟨ne, q1⟩
    · cases q1
    · obtain ⟨u, e2, r2⟩ := S.val j d' q1
      exact ⟨u, e2, r2.mono gr⟩
  · rcases slot_set e with ⟨rfl, q1, hl⟩ | ⟨ne, q1⟩
    · cases q1
      exact ⟨q, ys, eq, mp, np, upd_same, r.mono gr, nb, nf⟩
    · obtain ⟨p', xs', e2, m, nh, hp', r', z⟩ := S.own j ds' q1
      refine ⟨p', xs', e2, m, nh, ?_, r'.mono gr, z⟩
      rw [upd_ne (fun y => S.dis i j ds ds' q (Ne.symm ne) hi q1 eq (by rw [e2, y]))]
      exact hp'
  · rcases slot_set e1 with ⟨rfl, q1, _⟩ | ⟨n1, q1⟩
    · rcases slot_set e2 with ⟨rfl, q2, _⟩ | ⟨n2, q2⟩
      · exact absurd rfl ne
      · exact S.dis _ _ ds es1 p1 ne hi q2 e3 e4
    · rcases slot_set e2 with ⟨rfl, q2, _⟩ | ⟨n2, q2⟩
      · exact S.dis _ _ ds1 ds p1 ne q1 hi e3 e4
      · exact S.dis j l ds1 es1 p1 ne q1 q2 e3 e4
  · obtain ⟨mz, i', rest, tot, h1, h2, h3, h4⟩ := S.hand z e
    refine ⟨mz, i', rest, tot, ?_, ?_, h3, h4⟩
    · rw [upd_ne (fun y => np z e y.symm)]; exact h1
    · rw [upd_ne (fun y => h3 (by rw [y]; exact mp))]; exact h2
  · by_cases y : a = q
    · exact ⟨_, by rw [y]; exact upd_same⟩
    · obtain ⟨o, e⟩ := S.live a z
      exact ⟨o, by rw [upd_ne y]; exact e⟩
  · rw [upd_ne (fun y => nf o (by rw [← y]; exact z))]
    exact S.fk b o z
/-- x.append(e), x one's own -/
theorem ws_app {x m : Str} {p1 p2 p3 : Pos} (i : Nat) (ds : List D) (hi : δ[i]? = some (Sl.own ds)) (hz : ds.length < 100000) (w : WE X h e δ (fun d => P.nx (δ.set i (.own (ds ++ [d])))) (P.ex δ))
    (hpe : PE X (.Call (.Attribute (.Name x p1) m p2) [e] [] p3) (tBM X.K "list" rAppend (tVar i) (tCons (eS X e) tNil)) := by exact pe_bm PySem.F.plainAttrs_list PySem.F.slot_list_append PySem.F.type_list_append mt_append (pv _) (pa_cons peS pa_nil))
    (hs : swapsWith (.Call (.Attribute (.Name x p1) m p2) [e] [] p3) none pos.line X.env = pure false := by rfl) :
    WS X h (.Expr (.Call (.Attribute (.Name x p1) m p2) [e] [] p3) pos) δ P := .mk fun B F G M σ H D W tk S E => by
  obtain ⟨q, xs, e1, mq, nq, hq, r, nb, nf⟩ := S.own i ds hi
  refine sS_of (ps_expr hpe hs) ⟨_, e1, .inl ⟨rfl, xs, SqL.of hq⟩, w.run B F G M σ H _ W tk S (fun v H1 d g1 S1 r1 k => ?_) (out_of E)⟩
  have hq1 := g1 q _ nq hq
  exact ⟨q, xs, v, rfl, rfl, hq1, szLt (by rw [r.length]; exact hz), E.nx M σ _ _ (S1.chg (xs := xs) hi e1 ((r.mono (g1.gr S.hand)).append (.cons r1 .nil))) k⟩
/-- a def keeps its promise by its body -/
def startD (n : Nat) (ds : List D) : List Sl := ds.map Sl.val ++ List.replicate (n - ds.length) .no
theorem startD_val {n : Nat} {ds : List D} {i : Nat} {s : Sl} (e : (startD n ds)[i]? = some s) : (∃ d, ds[i]? = some d ∧ s = .val d) ∨ s = .no := by
  unfold startD at e
  rw [List.getElem?_append] at e
  split at e
  · rename_i hl
    rw [List.getElem?_map] at e
    cases q : ds[i]? with
    | none => rw [q] at e; cases e
    | some d => rw [q] at e; exact .inl ⟨d, rfl, (Option.some.inj e).symm⟩
  · rename_i hl
    rw [List.getElem?_replicate] at e
    split at e
    · exact .inr (Option.some.inj e).symm
    · cases e
end
theorem okD {Pg : Program} {w : World} {K : PySem.W.Frag} {mg : Str → Option Value} {base : Heap} {x qual : Str} {params : Arguments} {body : List Stmt} {scope : Scope} {f : Addr} {fd : FuncData} {N ps : List Str} {k : Nat} {S : PSp}
    {dvs0 : List V} {kws0 : List (Str × V)} (Fn : FunD K x qual params body scope dvs0 kws0 f fd) (Sc : FnScope N ps scope) (len : ∀ h ds Φ Ψ, S h ds Φ Ψ → ds.length = ps.length)
    (hb : ∀ (X : Cx) (h : Option Hd) (ds : List D) (Φ : D → Prop) (Ψ : Addr → List (Str × D) → Prop) (cdv : Value) (A : Around) (outer : List Env) (s : Shared) (H : Hp) (E : XK), Room k (A.deeper (envOfC qual scope s.heap.objs.size f cdv)) → S h ds Φ Ψ →
      X = cxOf (L2.CX Pg w) Pg w K mg base N qual scope f cdv A outer s H E → WB (cxOf (L2.CX Pg w) Pg w K mg base N qual scope f cdv A outer s H E) h body (startD N.length ds) { nx := fun _ => Φ .non, rt := Φ, ex := fun _ => Ψ }) :
    FnOk Pg w K mg base (L2.CX Pg w) (k + 1) f fd ps (spD K S) := by
  refine Fn.ok Sc (fun vs H Q E hp => ?_) (fun cdv A outer s H vs Q E hr hp => ⟨bS _ _, pbS, ?_⟩)
  · obtain ⟨h, B, ds, Φ, Ψ, r, _, _, s1, _⟩ := hp
    rw [r.length]
    exact len h ds Φ Ψ s1
  · obtain ⟨h, B, ds, Φ, Ψ, r, hand, live, s1, q, x0⟩ := hp
    refine (hb _ h ds Φ Ψ cdv A outer s H E hr s1 rfl).run B (fun b o => NH h b ∧ H b = some o) (fun _ _ => False) B _ H _ (fun cls d _ H' => E cls d H') (takes_of rfl rfl rfl rfl) ?_ ?_
    · have hl := r.length
      refine ⟨?_, fun i d e => ?_, fun i ds' e => ?_, fun i j ds1 es p ne e1 => ?_, hand, live, fun b o z => z.2, fun b o z => z.1, fun _ _ z => z.elim, fun a z => z⟩
      · unfold L2.start startD
        rw [List.length_append, List.length_append, List.length_map, List.length_map, List.length_replicate, List.length_replicate, hl]
      · rcases startD_val e with ⟨d', e1, e2⟩ | e2
        · cases e2
          obtain ⟨v, hv, rv⟩ := r.get e1
          refine ⟨v, ?_, rv⟩
          unfold L2.start
          have hi : i < vs.length := (List.getElem?_eq_some_iff.mp hv).1
          rw [List.getElem?_append, if_pos (by rw [List.length_map]; exact hi), List.getElem?_map, hv]
          rfl
        · cases e2
      · rcases startD_val e with ⟨d', e1, e2⟩ | e2
        · cases e2
        · cases e2
      · rcases startD_val e1 with ⟨d', e1, e2⟩ | e2
        · cases e2
        · cases e2
    · have fin : ∀ {M : Addr → Prop} {σ : L2.St} {H' : Hp} {δ : List Sl}, SD K h B (fun b o => NH h b ∧ H b = some o) (fun _ _ => False) M H' σ δ → Gh h H H' ∧ HandOk h B H' := fun {M σ H' δ} S' => by
        refine ⟨fun b o n e => S'.fk b o ⟨n, e⟩, fun z e => ?_⟩
        obtain ⟨mz, i, rest, tot, h1, h2, h3, h4⟩ := S'.hand z e
        exact ⟨(hand z e).1, i, rest, tot, h1, h2, fun y => h3 (S'.mb _ y), h4⟩
      refine ⟨fun M σ H' δ S' k => q .non H' .non (fin S').1 (fin S').2 .non k, fun M σ H' δ v d S' r' k => q v H' d (fin S').1 (fin S').2 (r'.wid S'.mb) k, fun M σ H' δ S' k => False.elim k, fun M σ H' δ S' k => False.elim k, fun M σ H' δ C od fs S' ed k => ?_⟩
      refine x0 C od H' fs (fin S').1 (fin S').2 ?_ k
      cases od with
      | none => exact ed
      | some d =>
        obtain ⟨n, fv, e, rf⟩ := ed
        exact ⟨fun z => n (S'.mb _ z), fv, e, rf.wid S'.mb⟩
end Uc

set_option Elab.async false
set_option linter.all false
set_option maxRecDepth 100000
set_option maxHeartbeats 4000000
namespace Uc
open PySem PySem.Spec PyProof.Rows L2
section
variable {K : PySem.W.Frag} {h : Option Hd} {B : Addr → Prop} {F : Addr → HO → Prop} {G : V → D → Prop} {M : Addr → Prop} {H H' H1 : Hp} {σ : L2.St} {δ : List Sl}
theorem SD.subF {F' : Addr → HO → Prop} {G' : V → D → Prop} (S : SD K h B F' G' M H σ δ) (w : ∀ b o, F b o → F' b o) (w2 : ∀ v d, G v d → G' v d) : SD K h B F G M H σ δ :=
  ⟨S.len, S.val, fun i ds e => by
    obtain ⟨p, xs, e1, m, n, hp, r, nb, nf⟩ := S.own i ds e
    exact ⟨p, xs, e1, m, n, hp, r, nb, fun o z => nf o (w _ _ z)⟩, S.dis, S.hand, S.live, fun b o z => S.fk b o (w _ _ z), fun b o z => S.fh b o (w _ _ z), fun v d z => S.gk v d (w2 v d z), S.mb⟩
theorem SD.addF {a : Addr} {u : HO} (S : SD K h B F G M H σ δ) (n : ¬ M a) (e : H a = some u) : SD K h B (fun b o => F b o ∨ (b = a ∧ o = u)) G M H σ δ :=
  ⟨S.len, S.val, fun i ds e => by
    obtain ⟨p, xs, e1, m, n', hp, r, nb, nf⟩ := S.own i ds e
    exact ⟨p, xs, e1, m, n', hp, r, nb, fun o z => z.elim (nf o) fun y => n (by rw [← y.1]; exact m)⟩, S.dis, S.hand, S.live, fun b o z => z.elim (S.fk b o) fun y => by rw [y.1, y.2]; exact e,
    fun b o z => z.elim (S.fh b o) fun y q e' w => n (by rw [← y.1, w]; exact (S.hand q e').1), S.gk, S.mb⟩
theorem SD.addG {v : V} {d : D} (S : SD K h B F G M H σ δ) (r : Rp K M H v d) : SD K h B F (fun u e => G u e ∨ (u = v ∧ e = d)) M H σ δ :=
  ⟨S.len, S.val, S.own, S.dis, S.hand, S.live, S.fk, S.fh, fun u e z => z.elim (S.gk u e) fun y => by rw [y.1, y.2]; exact r, S.mb⟩
/-- a new list that is being made at p -/
theorem SD.up {p : Addr} (S : SD K h B F G M H1 σ δ) (n : H1 p = none) (g : Gh h H1 H') (k : HandOk h (fun a => M a ∨ a = p) H') (lv : ∃ o, H' p = some o) : SD K h B F G (fun a => M a ∨ a = p) H' σ δ :=
  have w : ∀ a, (M a ∨ a = p) → M a ∨ H1 a = none := fun a z => z.elim .inl fun y => .inr (by rw [y]; exact n)
  have gg : Gr (fun a => M a ∨ a = p) H1 H' := fun b o nb e => g.gr S.hand b o (fun z => nb (.inl z)) e
  have k0 : HandOk h M H' := fun q e => by
    obtain ⟨m, i, rest, tot, h1, h2, h3, h4⟩ := k q e
    exact ⟨(S.hand q e).1, i, rest, tot, h1, h2, fun z => h3 (.inl z), h4⟩
  ⟨S.len, fun i d e => by
    obtain ⟨v, e1, r⟩ := S.val i d e
    exact ⟨v, e1, (r.nar w).mono gg⟩, fun i ds e => by
    obtain ⟨q, xs, e1, m, nh, hp, r, nb, nf⟩ := S.own i ds e
    exact ⟨q, xs, e1, .inl m, nh, g q _ nh hp, (r.nar w).mono gg, nb, nf⟩, S.dis, k, fun a z => z.elim (g.live S.live k0 a) fun y => by rw [y]; exact lv, fun b o z => g b o (S.fh b o z) (S.fk b o z), S.fh, fun v d z => ((S.gk v d z).nar w).mono gg, fun a z => .inl (S.mb a z)⟩
end
section
variable {X : Cx} {h : Option Hd} {δ : List Sl} {P : Po} {Ψ : Addr → List (Str × D) → Prop} {a b c e : Expr} {es : List Expr} {pos p : Pos} {st : Stmt} {rest body orelse : List Stmt}
theorem ends_sub {B : Addr → Prop} {F F' : Addr → HO → Prop} {G G' : V → D → Prop} {D : Ends} {W : WX} (E : EndsOk X h B F G P D W) (w : ∀ b o, F b o → F' b o) (w2 : ∀ v d, G v d → G' v d) : EndsOk X h B F' G' P D W :=
  ⟨fun M σ H δ S k => E.nx M σ H δ (S.subF w w2) k, fun M σ H δ v d S r k => E.rt M σ H δ v d (S.subF w w2) r k, fun M σ H δ S k => E.bk M σ H δ (S.subF w w2) k, fun M σ H δ S k => E.ct M σ H δ (S.subF w w2) k, fun M σ H δ C od fs S x k => E.ex M σ H δ C od fs (S.subF w w2) x k⟩
/-! ### for over a range -/
theorem ws_forR1 {x : Str} {px pr pc : Pos} (i : Nat) (I : Nat → List Sl → Prop) (hp : PassesOwn (model X.prog X.w) X.A X.env X.xe) (hN : X.N.Nodup) (hm : X.mg "range" = none)
    (w : WE X h a δ (fun d => ∃ n : Int, d = .int n ∧ n ≤ 1000000 ∧ -1000000 ≤ n ∧ I 0 δ ∧ (∀ (k : Nat) (δ' : List Sl), (k : Int) < n → I k δ' → WB X h body (δ'.set i (.val (.int (k : Int)))) { P with nx := I (k + 1), ct := I (k + 1), bk := P.nx }) ∧ ∀ δ', I n.toNat δ' → P.nx δ') (P.ex δ))
    (hc : X.calm = true := by rfl) (hg : Gl X "range" := by rfl) (hi : X.N[i]? = some x := by rfl) (hx : Loc X.env.scope x := by first | exact Or.inl rfl | exact Or.inr rfl) (hf : X.fn x = true ∨ X.env.scope.names.lookup x = some .local := by first | exact .inl rfl | exact .inr rfl)
    (hs : starEach [a] X.env = [(false, eval a X.env)] := by rfl) (hfs : ∀ y, foldedSetIterable (.Call (.Name "range" pr) [a] [] pc) X.env y = pure y := by intro _; rfl) :
    WS X h (.For (.Name x px) (.Call (.Name "range" pr) [a] [] pc) body [] pos) δ P := .mk fun B F G M σ H D W tk S E => by
  refine sS_of (ps_for hp hc (pi_range1 hg hm (pa_cons peS pa_nil hs) hs) (pg_name hN hi hx hf) pbS hfs) ?_
  refine w.run B F G M σ H _ W tk S (fun v H1 d g1 S1 r1 ⟨n, e1, b1, b2, i0, turn, fin⟩ => ?_) (out_of E)
  subst e1
  obtain rfl := r1.int_inv
  refine ⟨n, rfl, by omega, by omega, for_range (lo := 0) (n := n.toNat) (fun k σ' H' => ∃ M' δ', SD X.K h B F G M' H' σ' δ' ∧ I k δ') ⟨M, δ, S1, i0⟩ (fun k σ' H' hk hI => ?_) (fun σ' H' hI => ?_)⟩
  · obtain ⟨M', δ', S', hI⟩ := hI
    have t := turn k δ' (by omega) hI
    have e0 : (0 : Int) + (k : Int) = (k : Int) := Int.zero_add _
    show bS X body _ (σ'.set i (some (V.int (0 + (k : Int))))) H'
    rw [e0]
    exact t.run B F G M' _ H' _ W tk (S'.setV i (.int _)) ⟨fun M2 σ2 H2 δ2 S2 k2 => ⟨M2, δ2, S2, k2⟩, E.rt, E.nx, fun M2 σ2 H2 δ2 S2 k2 => ⟨M2, δ2, S2, k2⟩, E.ex⟩
  · obtain ⟨M', δ', S', hI⟩ := hI
    exact E.nx M' σ' H' δ' S' (fin δ' hI)
/-! ### for over a list, a tuple that stands -/
theorem ws_forL {x : Str} {px : Pos} (i : Nat) (I : Nat → List Sl → Prop) (hp : PassesOwn (model X.prog X.w) X.A X.env X.xe) (hN : X.N.Nodup)
    (w : WE X h e δ (fun d => ∃ ds, d = .lst ds ∧ I 0 δ ∧ (∀ (k : Nat) (δ' : List Sl) (d : D), ds[k]? = some d → I k δ' → WB X h body (δ'.set i (.val d)) { P with nx := I (k + 1), ct := I (k + 1), bk := P.nx }) ∧ ∀ δ', I ds.length δ' → P.nx δ') (P.ex δ))
    (hc : X.calm = true := by rfl) (hi : X.N[i]? = some x := by rfl) (hx : Loc X.env.scope x := by first | exact Or.inl rfl | exact Or.inr rfl) (hf : X.fn x = true ∨ X.env.scope.names.lookup x = some .local := by first | exact .inl rfl | exact .inr rfl)
    (hfs : ∀ y, foldedSetIterable e X.env y = pure y := by intro _; rfl) : WS X h (.For (.Name x px) e body [] pos) δ P := .mk fun B F G M σ H D W tk S E => by
  refine sS_of (ps_for hp hc (pi_list peS) (pg_name hN hi hx hf) pbS hfs) ?_
  refine w.run B F G M σ H _ W tk S (fun v H1 d g1 S1 r1 ⟨ds, e1, i0, turn, fin⟩ => ?_) (out_of E)
  subst e1
  obtain ⟨q, vs, rfl, nq, hq, rv⟩ := r1.lst_inv
  have S1F := (S1.addF nq hq).addG r1
  have E' := ends_sub (F' := fun b o => F b o ∨ (b = q ∧ o = .lst vs)) (G' := fun u e => G u e ∨ (u = .ref q ∧ e = .lst ds)) E (fun b o z => .inl z) fun u e z => .inl z
  refine ⟨q, rfl, ⟨vs, SqL.of hq⟩, for_list (xs := vs) (fun k σ' H' => ∃ M' δ', SD X.K h B (fun b o => F b o ∨ (b = q ∧ o = .lst vs)) (fun u e => G u e ∨ (u = .ref q ∧ e = .lst ds)) M' H' σ' δ' ∧ I k δ') ⟨M, δ, S1F, i0⟩ (fun k σ' H' _ ⟨M', δ', S', _⟩ => SqL.of (S'.fk _ _ (.inr ⟨rfl, rfl⟩))) (fun k v σ' H' hk hI => ?_) (fun σ' H' hI => ?_)⟩
  · obtain ⟨M', δ', S', hI⟩ := hI
    obtain ⟨q', vs', e2, _, hq', rv'⟩ := (S'.gk _ _ (.inr ⟨rfl, rfl⟩)).lst_inv
    cases e2
    rw [S'.fk _ _ (.inr ⟨rfl, rfl⟩)] at hq'
    cases hq'
    obtain ⟨d, hd, rd⟩ := rv'.getV hk
    exact (turn k δ' d hd hI).run B _ _ M' _ H' _ W tk (S'.setV i rd) ⟨fun M2 σ2 H2 δ2 S2 k2 => ⟨M2, δ2, S2, k2⟩, E'.rt, E'.nx, fun M2 σ2 H2 δ2 S2 k2 => ⟨M2, δ2, S2, k2⟩, E'.ex⟩
  · obtain ⟨M', δ', S', hI⟩ := hI
    rw [rv.length] at hI
    exact E'.nx M' σ' H' δ' S' (fin δ' hI)

/-! ### a comprehension over a range -/
theorem wf_lcR {x : Str} {px pr pc : Pos} {elt : Expr} {scope : Scope} (i : Nat) (I : Nat → List D → Prop) (hN : X.N.Nodup) (hm : X.mg "range" = none) (ok : BlkOk X.N X.env.scope scope [(x, i)])
    (w : WE X h a δ (fun d => ∃ n : Int, d = .int n ∧ n ≤ 90000 ∧ -90000 ≤ n ∧ I 0 [] ∧ (∀ (k : Nat) (acc : List D), (k : Int) < n → I k acc → ∀ (s0 : Shared) (H0 : Hp) (C : Addr) (cl : List (Str × Addr)) (fp : List Addr),
      WE (X.blk s0 H0 scope (compEnvC scope cl C X.env) fp) h elt ((δ.set i .no).set i (.val (.int (k : Int)))) (fun d => I (k + 1) (acc ++ [d])) (fun _ _ => False)) ∧ ∀ acc, acc.length = n.toNat → I n.toNat acc → Φ acc) Ψ)
    (hgi : X.N[i]? = some x := by rfl) (hgx : scope.names.lookup x = some .local := by rfl)
    (hc : X.calm = true := by rfl) (hg : Gl X "range" := by rfl) (hs : starEach [a] X.env = [(false, eval a X.env)] := by rfl) (hfs : ∀ y, foldedSetIterable (.Call (.Name "range" pr) [a] [] pc) X.env y = pure y := by intro _; rfl) :
    WF X h (.ListComp elt [⟨.Name x px, .Call (.Name "range" pr) [a] [] pc, [], 0⟩] scope pos) δ Φ Ψ := .mk fun B F G M σ H Q W tk S q x0 => by
  let te : TE := fun σ H Q => ∀ (s0 : Shared) (H0 : Hp) (C : Addr) (cl : List (Str × Addr)) (fp : List Addr), eS (X.blk s0 H0 scope (compEnvC scope cl C X.env) fp) elt σ H Q
  have hg' : ∀ (s : Shared) (H : Hp) (C : Addr) (cl : List (Str × Addr)) (fp : List Addr), PG (X.blk s H scope (compEnvC scope cl C X.env) fp) (.Name x px) (gName i) := fun _ _ _ _ _ => pg_name hN hgi (Or.inl (lookup_relabel_local hgx)) (.inr (lookup_relabel_local hgx))
  refine eS_of (pe_lc (te := te) hc hN (pi_range1 hg hm (pa_cons peS pa_nil hs) hs) ok hg' (fun _ _ _ _ _ => pts_nil) (fun s0 H0 C cl fp => ⟨fun pins s σ H Q I hh => hh s0 H0 C cl fp pins s I⟩) hfs) ?_
  refine w.run B F G M σ H _ W tk S (fun v H1 d g1 S1 r1 ⟨n, e1, b1, b2, i0, turn, fin⟩ => ?_) x0
  subst e1
  obtain rfl := r1.int_inv
  refine ⟨n, rfl, by omega, by omega, fun Dl hD => lc_range (lo := 0) (n := n.toNat) (fun k H' => ∃ xs acc, Gh h H1 H' ∧ HandOk h (fun a => M a ∨ a = Dl) H' ∧ H' Dl = some (.lst xs) ∧ RpA X.K (fun a => M a ∨ a = Dl) H' xs acc ∧ acc.length = k ∧ I k acc) ?_ (fun k H' hk hI => ?_) (fun H' hI => ?_)⟩
  · refine ⟨[], [], Gh.new hD, fun z e => ?_, upd_same, .nil, rfl, i0⟩
    obtain ⟨m, i', rest, tot, h1, h2, h3, h4⟩ := S1.hand z e
    exact ⟨.inl m, i', rest, tot, by rw [upd_ne (ne_of_none h1 hD)]; exact h1, by rw [upd_ne (ne_of_none h2 hD)]; exact h2, fun y => y.elim h3 (ne_of_none h2 hD), h4⟩
  · obtain ⟨xs, acc, gH, hand', hxs, rxs, hl, hI⟩ := hI
    have e0 : (0 : Int) + (k : Int) = (k : Int) := Int.zero_add _
    show wipe ((wipe σ [i]).set i (some (V.int (0 + (k : Int))))) [i] = wipe σ [i] ∧ te ((wipe σ [i]).set i (some (V.int (0 + (k : Int))))) H' _
    rw [e0]
    refine ⟨by show ((σ.set i none).set i (some (V.int (k : Int)))).set i none = σ.set i none; rw [List.set_set, List.set_set], fun s0 H0 C cl fp => ?_⟩
    have S2 : SD X.K h B F G (fun a => M a ∨ a = Dl) H' ((wipe σ [i]).set i (some (V.int (k : Int)))) ((δ.set i .no).set i (.val (.int (k : Int)))) :=
      SD.up ((S1.setN (o := none) i).setV i (.int (k : Int))) hD gH hand' ⟨_, hxs⟩
    have own' : ∀ j ds p, ((δ.set i .no).set i (.val (.int (k : Int))))[j]? = some (Sl.own ds) → ((wipe σ [i]).set i (some (V.int (k : Int))))[j]? = some (some (V.ref p)) → p ≠ Dl := fun j ds p z1 z2 y => by
      obtain ⟨p', xs', e5, _, _, hp', _⟩ := ((S1.setN (o := none) i).setV i (.int (k : Int))).own j ds z1
      have e6 : some (some (V.ref p)) = some (some (V.ref p')) := z2.symm.trans e5
      cases e6
      exact ne_of_none hp' hD y
    -- the list so far as a fact that stays
    have S3 : SD X.K h B (fun b o => F b o ∨ (b = Dl ∧ o = .lst xs)) G (fun a => M a ∨ a = Dl) H' ((wipe σ [i]).set i (some (V.int (k : Int)))) ((δ.set i .no).set i (.val (.int (k : Int)))) :=
      ⟨S2.len, S2.val, fun j ds z => by
        obtain ⟨p', xs', e5, m, nh, hp', r', nb, nf⟩ := S2.own j ds z
        exact ⟨p', xs', e5, m, nh, hp', r', nb, fun o y => y.elim (nf o) fun y => own' j ds p' z e5 y.1⟩, S2.dis, S2.hand, S2.live, fun b o z => z.elim (S2.fk b o) fun y => by rw [y.1, y.2]; exact hxs,
        fun b o z => z.elim (S2.fh b o) fun y z2 e2 w2 => by
          obtain ⟨_, _, _, _, h1, _⟩ := S1.hand z2 e2
          exact ne_of_none h1 hD (by rw [← y.1, w2]), S2.gk, S2.mb⟩
    refine (turn k acc (by omega) hI s0 H0 C cl fp).run B _ G _ _ H' _ (fun _ _ _ _ => False) takes0 S3 (fun v H4 d g4 S4 r4 hI' => ?_) (fun C od H' fs g S ed f => f.elim)
    have hx4 := S4.fk _ _ (.inr ⟨rfl, rfl⟩)
    refine ⟨xs, hx4, szLt (by rw [rxs.length, hl]; omega), xs ++ [v], acc ++ [d], ?_, fun z e => ?_, upd_same, ?_, by simp [hl], hI'⟩
    · intro b o nb z
      rw [upd_ne (ne_of_none z hD)]
      exact g4 b o nb (gH b o nb z)
    · obtain ⟨m, i', rest, tot, h1, h2, h3, h4⟩ := S4.hand z e
      exact ⟨m, i', rest, tot, by
        rw [upd_ne fun y => ?_]
        · exact h1
        · obtain ⟨_, _, _, _, k1, _⟩ := S1.hand z e
          exact ne_of_none k1 hD y, by rw [upd_ne (fun y => h3 (.inr y))]; exact h2, h3, h4⟩
    · have gr : Gr (fun a => M a ∨ a = Dl) H4 (upd H4 Dl (.lst (xs ++ [v]))) := fun b o nb z => by rw [upd_ne (fun y => nb (.inr y))]; exact z
      exact ((rxs.mono (g4.gr S3.hand)).append (.cons r4 .nil)).mono gr
  · obtain ⟨xs, acc, gH, hand', hxs, rxs, hl, hI⟩ := hI
    have hand0 : HandOk h M H' := fun z e => by
      obtain ⟨m, i', rest, tot, h1, h2, h3, h4⟩ := hand' z e
      exact ⟨(S1.hand z e).1, i', rest, tot, h1, h2, fun y => h3 (.inl y), h4⟩
    exact q Dl H' xs acc (g1.trans gH) (S1.step gH hand0) (Gh.free S1 g1 hD) hxs rxs (fin acc hl hI)

/-! ### tuple(..), [..] * n -/
theorem calS_tuple : CalS X h (fun xs H Q => ∃ p ys, xs = [.ref p] ∧ ((SqL X.K H p ys ∧ ∀ l, H l = none → Q (.ref l) (upd H l (.tup ys))) ∨ (SqT X.K H p ys ∧ Q (.ref p) H))) sTuple := fun B F G M σ δ H vs ds Q Φ S r k q => by
  match ds, k with
  | [.lst xs], k =>
    obtain ⟨v, rfl, r5⟩ := rpA_one r
    obtain ⟨l, ys, rfl, n1, e1, s1⟩ := r5.lst_inv
    exact ⟨l, ys, rfl, .inl ⟨SqL.of e1, fun t ht => Ans.tup q S ht s1 k⟩⟩
  | [.tup xs], k =>
    obtain ⟨v, rfl, r5⟩ := rpA_one r
    obtain ⟨l, ys, rfl, e1, s1⟩ := r5.tup_inv
    exact ⟨l, ys, rfl, .inr ⟨e1, Ans.now q S r5 k⟩⟩
theorem we_tuple {x : Str} {Φ : D → Prop} (hx : x = "tuple") (hm : X.mg x = none) (w : WA X h (e :: es) δ (fun ds => sTuple ds Φ) Ψ) (hg : Gl X x := by rfl) (hn : x ≠ "__name__" := by decide) (hdb : (x == ("__debug__" : Str)) = false := by decide)
    (he : starEach (e :: es) X.env = (false, eval e X.env) :: starEach es X.env := by rfl) (hpl : (backTo pos (starEach es X.env)).any (·.1) = false := by rfl) : WE X h (.Call (.Name x p) (e :: es) [] pos) δ Φ Ψ :=
  we_callT call_tuple_of calS_tuple hm w (by rw [hx]; decide +kernel) hg hn hdb he hpl
theorem rpA_flat {K : PySem.W.Frag} {M : Addr → Prop} {H : Hp} {xs : List V} {ds : List D} (r : RpA K M H xs ds) : ∀ n : Nat, RpA K M H (List.replicate n xs).flatten (List.replicate n ds).flatten
  | 0 => .nil
  | n + 1 => by
    rw [List.replicate_succ, List.replicate_succ, List.flatten_cons, List.flatten_cons]
    exact r.append (rpA_flat r n)
def sRep : D → D → (D → Prop) → Prop
  | .lst xs, .int k, Φ => 0 ≤ k ∧ k ≤ 10000 ∧ xs.length ≤ 1000 ∧ Φ (.lst (List.replicate k.toNat xs).flatten)
  | _, _, _ => False
theorem we_rep {Φ : D → Prop} (w : WE X h a δ (fun x => WE X h b δ (fun y => sRep x y Φ) Ψ) Ψ) : WE X h (.BinOp a .Mult b pos) δ Φ Ψ :=
  we_op (S := sRep) op_rep (fun B F G M σ δ H x y dx dy Q Φ S r1 r2 k q => by
    cases dx with
    | lst xs => cases dy with
      | int j =>
        obtain ⟨l, ys, rfl, n1, e1, s1⟩ := r1.lst_inv
        obtain rfl := r2.int_inv
        obtain ⟨k1, k2, k3, k⟩ := k
        refine ⟨l, j, ys, rfl, rfl, e1, by omega, by omega, ?_, fun t ht => Ans.lst q S ht (rpA_flat s1 _) k⟩
        have z := s1.length
        have z2 : ys.length * j.toNat ≤ 1000 * 10000 := Nat.mul_le_mul (by omega) (by omega)
        exact Nat.le_trans z2 (by decide)
      | _ => exact False.elim k
    | _ => cases dy <;> exact False.elim k) w

/-! ### several names at once -/
inductive NamesAt (X : Cx) : List Expr → List Nat → Prop
  | nil : NamesAt X [] []
  | cons {x : Str} {p : Pos} {es : List Expr} {i : Nat} {is : List Nat} (hi : X.N[i]? = some x) (hx : Loc X.env.scope x) (hf : X.fn x = true ∨ X.env.scope.names.lookup x = some .local) (t : NamesAt X es is) : NamesAt X (.Name x p :: es) (i :: is)
def gNames : List Nat → TGs
  | [] => gNil
  | i :: is => gCons (gName i) (gNames is)
theorem pgs_names (hN : X.N.Nodup) : ∀ {es : List Expr} {is : List Nat}, NamesAt X es is → PGs X es (gNames is)
  | _, _, .nil => pgs_nil
  | _, _, .cons hi hx hf t => pgs_cons (pg_name hN hi hx hf) (pgs_names hN t)
def setAll : List Sl → List Nat → List D → List Sl
  | δ, i :: is, d :: ds => setAll (δ.set i (.val d)) is ds
  | δ, _, _ => δ
theorem setAll_ok {K : PySem.W.Frag} {B : Addr → Prop} {F : Addr → HO → Prop} {G : V → D → Prop} {M : Addr → Prop} {H : Hp} {R : L2.St → Hp → Prop} : ∀ {is : List Nat} {vs : List V} {ds : List D} {σ : L2.St} {δ : List Sl}, SD K h B F G M H σ δ → RpA K M H vs ds → vs.length = is.length →
    (∀ σ', SD K h B F G M H σ' (setAll δ is ds) → R σ' H) → gNames is vs σ H R
  | [], _, _, σ, δ, S, .nil, _, k => ⟨rfl, k σ S⟩
  | [], _, _, σ, δ, S, .cons _ _, e, k => by cases e
  | i :: is, _, _, σ, δ, S, .nil, e, k => by cases e
  | i :: is, _, _, σ, δ, S, .cons r t, e, k => ⟨_, _, rfl, setAll_ok (S.setV i r) t (by simpa using e) k⟩
/-- a, b, .. = a tuple -/
theorem ws_unp {es : List Expr} {kt : Nat} {pt : Pos} (is : List Nat) (hN : X.N.Nodup) (na : NamesAt X es is) (w : WE X h e δ (fun d => ∃ ds, d = .tup ds ∧ ds.length = is.length ∧ P.nx (setAll δ is ds)) (P.ex δ)) (hn : (assignEach es X.env).length = is.length := by rfl)
    (hst : (assignEach es X.env).findIdx? (·.1) = none := by rfl) (hc : X.calm = true := by rfl) (hs : swapsWithSole [.Tuple es kt pt] e pos.line X.env = pure false := by rfl) (hw : swappedStores [.Tuple es kt pt] e X.env = pure none := by rfl)
    (h1 : (assignEach [.Tuple es kt pt] X.env).map (·.2) = [assign (.Tuple es kt pt) X.env] := by rfl) : WS X h (.Assign [.Tuple es kt pt] e pos) δ P := .mk fun B F G M σ H D W tk S E =>
  sS_of (ps_asg peS (pg_tup (n := is.length) hc (pgs_names hN na) hn hst) hs hw h1) (w.run B F G M σ H _ W tk S (fun v H1 d g1 S1 r1 ⟨ds, e1, hl, k⟩ => by
    subst e1
    obtain ⟨t, vs, rfl, ht, rv⟩ := r1.tup_inv
    exact ⟨t, vs, rfl, ht, by rw [rv.length, hl], setAll_ok S1 rv (by rw [rv.length, hl]) fun σ' S' => E.nx M σ' H1 _ S' k⟩) (out_of E))
/-- a, b, c = x, y, z -/
theorem ws_par3 {x y z : Str} {px py pz pt : Pos} {kt k2 : Nat} {pt2 : Pos} (i j l : Nat) (hN : X.N.Nodup) (w : WA X h [a, b, c] δ (fun ds => ∃ d1 d2 d3, ds = [d1, d2, d3] ∧ P.nx (((δ.set i (.val d1)).set j (.val d2)).set l (.val d3))) (P.ex δ))
    (hw : swappedStores [.Tuple [.Name x px, .Name y py, .Name z pz] kt pt] (.Tuple [a, b, c] k2 pt2) X.env = pure (some [x, y, z])) (hij : i ≠ j := by decide) (hil : i ≠ l := by decide) (hjl : j ≠ l := by decide) (hi : X.N[i]? = some x := by rfl) (hj : X.N[j]? = some y := by rfl) (hl : X.N[l]? = some z := by rfl) (hc : X.calm = true := by rfl)
    (hx : X.env.scope.names.lookup x = some .local := by rfl) (hy : X.env.scope.names.lookup y = some .local := by rfl) (hz : X.env.scope.names.lookup z = some .local := by rfl)
    (hs : swapsWithSole [.Tuple [.Name x px, .Name y py, .Name z pz] kt pt] (.Tuple [a, b, c] k2 pt2) pos.line X.env = pure false := by rfl) :
    WS X h (.Assign [.Tuple [.Name x px, .Name y py, .Name z pz] kt pt] (.Tuple [a, b, c] k2 pt2) pos) δ P := .mk fun B F G M σ H D W tk S E =>
  sS_of (ps_par3 hc hN hi hj hl hij hil hjl hx hy hz paS hw hs) (w.run B F G M σ H _ W tk S (fun vs H1 ds g1 S1 r1 ⟨d1, d2, d3, e1, k⟩ => by
    subst e1
    cases r1 with
    | cons r1 t1 => cases t1 with
      | cons r2 t2 =>
        obtain ⟨v3, rfl, r3⟩ := rpA_one t2
        exact ⟨_, _, _, rfl, E.nx M _ H1 _ (((S1.setV i r1).setV j r2).setV l r3) k⟩) (out_of E))
end
end Uc

set_option Elab.async false
set_option linter.all false
set_option maxRecDepth 100000
set_option maxHeartbeats 4000000
namespace Uc
open PySem PySem.Spec PyProof.Rows L2
/-! ### try: .. except X0 ..: (never taken) except X as n: suite -/
def wAs2 (K : PySem.W.Frag) (c0 c : Value) (i : Nat) (ts : Addr → Value → Option Addr → TS) (D : Ends) : WX := fun cls d σ H =>
  PySem.W.exmOne K cls c0 = some false ∧ wAs K c i ts (fun _ _ _ _ => False) D cls d σ H
section
variable {X : Cx} {x x0 n : Str} {c c0 : Value} {i : Nat} {body suite su0 : List Stmt} {b₀ : Stmt} {nm0 : Option Str} {np np0 pos pos' pos0 : Pos} {tb : WX → TS} {ts : Addr → Value → Option Addr → TS}
theorem ps_try_as2 (h1 : X.stack = X.env :: X.outer) (h2 : X.env.frame = some X.env.locals) (hN : X.N.Nodup) (hi : X.N[i]? = some n) (hk : X.env.kindOf n = some .local) (hc : Names X x c) (hc0 : Names X x0 c0)
    (hb : ∀ (W : WX) (pn : List (Addr × Obj)) (xe : Value → Shared → Prop), Takes (X.tr pn xe) W → PassesOwn (model X.prog X.w) X.A X.env xe → PSs (X.tr pn xe) body (tb W))
    (hS : ∀ (a : Addr) (oe : Obj) (cls : Value) (d : Option Addr) (pn : List (Addr × Obj)), Zc cls d oe → (∃ vs, oe.data = .fields vs) → PSs (X.suite a ((a, oe) :: pn)) (b₀ :: suite) (ts a cls d)) :
    PS X (.Try body [.ExceptHandler (some (.Name x0 np0)) nm0 su0 pos0, .ExceptHandler (some (.Name x np)) (some n) (b₀ :: suite) pos'] [] [] pos) (fun D σ H => tb (wAs2 X.K c0 c i ts D) D σ H) := by
  refine ⟨fun pins s σ H D I hh => ?_⟩
  have okX := I.ok
  have frm : X.A.frames = some (X.env :: X.outer) := by
    rw [okX.frames, h1]
  refine wpAny_Try_except ?_
  have run := (hb (wAs2 X.K c0 c i ts D) (X.pn ++ pins) (fun e s₁ => wpAny (model X.prog X.w) X.A (noteFrame e X.env) (fun _ s₂ => wpAny (model X.prog X.w) X.A (setFlight e none) (fun _ s₃ =>
      wpAny (model X.prog X.w) X.A (handleBy e X.env [.ExceptHandler (some (.Name x0 np0)) nm0 su0 pos0, .ExceptHandler (some (.Name x np)) (some n) (b₀ :: suite) pos']) (SP X pins D) X.xe s₃) X.xe s₂) X.xe s₁) ?_ PassesOwn.looking).run [] s σ H D (I.toTry _) hh
  · refine wpAny_mono run (fun f s1 z => ?_) (fun e s1 z => z)
    cases f with
    | next =>
      obtain ⟨σ2, H2, J, q⟩ := z
      exact wpAny_execs_nil ⟨σ2, H2, J.ofTry okX, q⟩
    | brk => obtain ⟨σ2, H2, J, q⟩ := z; exact ⟨σ2, H2, J.ofTry okX, q⟩
    | cont => obtain ⟨σ2, H2, J, q⟩ := z; exact ⟨σ2, H2, J.ofTry okX, q⟩
    | ret u => obtain ⟨v, σ2, H2, J, r, q⟩ := z; exact ⟨v, σ2, H2, J.ofTry okX, r, q⟩
  · intro u s9 air
    obtain ⟨a, B, sI, pn2, σ2, H2, cls, d, rfl, J0, nb, up, sky, na, os, ag, hno0, b, hb1, yes, no⟩ := air
    have J : Inv X pins σ2 H2 sI := J0.ofTry okX
    have sky2 : Sky B (X.env :: X.outer) a (Zc cls d) X.env.locals s9.heap := by
      rw [← h1]
      exact sky
    show wpAny (model X.prog X.w) X.A (noteFrame (.ref a) X.env) _ _ _
    refine Sky.land Zc.steady frm h2 sky2 fun g3 fl3 up3 => ?_
    have J3 : Inv X pins σ2 H2 { s9 with heap := g3 } := J.landed nb fl3.1 (up.trans up3) os ag
    obtain ⟨o3, v3, e3, z3, d3⟩ := fl3.there
    have nfr : a ∉ frs (X.env :: X.outer) := fun hm => by
      obtain ⟨_, o', e', hnf⟩ := fl3.2.2.1.mem hm
      rw [e3] at e'
      cases e'
      exact hnf _ d3
    have nL : a ≠ X.env.locals := fun z => nfr (List.mem_filterMap.mpr ⟨X.env, List.mem_cons_self, by rw [h2, z]⟩)
    have nF : a ∉ X.fs := fun hm => by
      obtain ⟨e, he, q⟩ := List.mem_filterMap.mp hm
      exact nfr (List.mem_filterMap.mpr ⟨e, List.mem_cons_of_mem _ he, q⟩)
    have S3 := J3.suite e3 d3 na nL nF
    have look : ∀ {y : Str} {cv : Value} {py : Pos} {Q E : Value → Shared → Prop}, Names X y cv → Q cv { s9 with heap := g3 } → wpAny (model X.prog X.w) (X.A.mark (some (.ref a))) (eval (.Name y py) X.env) Q E { s9 with heap := g3 } := fun {y cv py Q E} hy q => by
      obtain ⟨hg, hdbg, hm | ⟨hm, hv, hnn⟩⟩ := hy
      · exact ld_glob (X := X.suite a ((a, o3) :: (X.pn ++ pins))) S3 hg hm q hdbg
      · exact ld_blt (X := X.suite a ((a, o3) :: (X.pn ++ pins))) S3 hg hm hv q hnn hdbg
    have LT : PySem.W.Looks (model X.prog X.w) g3 (typeOf (.ref a)) cls := fun A Q E s k q => wpAny_typeOf_ref (k _ _ e3) (by rw [z3.1]; exact q)
    have M0 := PySem.W.exm_one (M := model X.prog X.w) J3.kIn LT hno0
    have M1 := PySem.W.exm_one (M := model X.prog X.w) J3.kIn LT hb1
    -- the first clause: not taken
    refine wpAny_handleBy_cons (codeAny_handlers_test ?_) (by intro q; cases q)
    refine look hc0 (M0.here ?_)
    show wpAny _ X.A (handleBy (.ref a) X.env [.ExceptHandler (some (.Name x np)) (some n) (b₀ :: suite) pos']) _ _ _
    refine wpAny_handleBy_cons (codeAny_handlers_test ?_) (by intro q; cases q)
    refine look hc (M1.here ?_)
    cases b with
    | false => exact (no rfl).elim
    | true =>
      refine codeAny_handlers_suite_as ?_
      refine HandSPX.lands_againZ fl3 fun g4 fl4 up4 => ?_
      have J4 : Inv X pins σ2 H2 { s9 with heap := g4 } := J.landed nb fl4.1 ((up.trans up3).trans up4) os ag
      obtain ⟨o4, v4, e4, z4, d4⟩ := fl4.there
      refine store_ok (X := X.suite a ((a, o4) :: (X.pn ++ pins))) (v := .ref a) (J4.suite e4 d4 na nL nF) hN hi (.inl hk) rfl (fun s5 S5 => ?_) (.inr hk)
      have fin : ∀ {σ6 : L2.St} {H6 : Hp} {Q : Shared → Prop} {s6 : Shared}, Inv (X.suite a ((a, o4) :: (X.pn ++ pins))) [] σ6 H6 s6 → (∀ s7, Inv X pins (σ6.set i none) H6 s7 → Q s7) →
          wpAny (model X.prog X.w) X.A (do bindName X.env n .none; unbindBehindTheSuite X.env n pos') (fun _ s7 => Q s7) X.xe s6 := fun {σ6 H6 Q s6} S6 q => gone_ok (S6.unsuite okX) hN hi hk q
      refine wpAny_mono ((hS a o4 cls d (X.pn ++ pins) z4 ⟨_, d4⟩).run [] s5 _ H2 _ S5 (yes rfl a na)) (fun f s6 z => ?_) (fun _ _ z => False.elim z)
      cases f with
      | next => obtain ⟨σ6, H6, S6, q⟩ := z; exact fin S6 fun s7 J7 => ⟨_, _, J7, q⟩
      | brk => obtain ⟨σ6, H6, S6, q⟩ := z; exact fin S6 fun s7 J7 => ⟨_, _, J7, q⟩
      | cont => obtain ⟨σ6, H6, S6, q⟩ := z; exact fin S6 fun s7 J7 => ⟨_, _, J7, q⟩
      | ret u => obtain ⟨v6, σ6, H6, S6, r6, q⟩ := z; exact fin S6 fun s7 J7 => ⟨_, _, _, J7, r6, q⟩
end
section
variable {X : Cx} {h : Option Hd} {δ : List Sl} {P : Po} {a b c e : Expr} {es : List Expr} {pos p : Pos}
/-- the suite, for an error of the class at C with these fields -/
def Hnd (X : Cx) (h : Option Hd) (bs : List Stmt) (i : Nat) (P : Po) (δ' : List Sl) (C : Addr) (fs : List (Str × D)) : Prop :=
  ∀ (a : Addr) (oe : Obj) (od : Option Addr) (pn : List (Addr × Obj)), Zc (.ref C) od oe → (∃ vs, oe.data = .fields vs) →
    WB (X.suite a ((a, oe) :: pn)) h bs (δ'.set i (.val (.held a C od fs))) ⟨fun δ2 => P.nx (δ2.set i .no), P.rt, fun δ2 => P.bk (δ2.set i .no), fun δ2 => P.ct (δ2.set i .no), fun _ _ _ => False⟩
/-- try: .. except X0 (not taken) .. except X as n: suite (taken for what the body raises) -/
theorem ws_try2 {x x0 n : Str} {c c0 : Value} {body suite su0 : List Stmt} {b₀ : Stmt} {nm0 : Option Str} {np np0 pos' pos0 : Pos} (i : Nat) (hN : X.N.Nodup) (hc : Names X x c) (hc0 : Names X x0 c0)
    (w : ∀ (pn : List (Addr × Obj)) (xe : Value → Shared → Prop), PassesOwn (model X.prog X.w) X.A X.env xe → WB (X.tr pn xe) h body δ ⟨P.nx, P.rt, P.bk, P.ct, fun δ' C fs => PySem.W.exmOne X.K (.ref C) c0 = some false ∧ PySem.W.exmOne X.K (.ref C) c = some true ∧ Hnd X h (b₀ :: suite) i P δ' C fs⟩)
    (h1 : X.stack = X.env :: X.outer := by rfl) (h2 : X.env.frame = some X.env.locals := by rfl) (hi : X.N[i]? = some n := by rfl) (hk : X.env.kindOf n = some .local := by rfl) :
    WS X h (.Try body [.ExceptHandler (some (.Name x0 np0)) nm0 su0 pos0, .ExceptHandler (some (.Name x np)) (some n) (b₀ :: suite) pos'] [] [] pos) δ P := .mk fun B F G M σ H D W tk S E => by
  let ts : Addr → Value → Option Addr → TS := fun a cls od D σ H => ∀ (oe : Obj) (pn : List (Addr × Obj)), Zc cls od oe → (∃ vs, oe.data = .fields vs) → bS (X.suite a ((a, oe) :: pn)) (b₀ :: suite) D σ H
  let tb : WX → TS := fun W D σ H => ∀ (pn : List (Addr × Obj)) (xe : Value → Shared → Prop), Takes (X.tr pn xe) W → PassesOwn (model X.prog X.w) X.A X.env xe → bS (X.tr pn xe) body D σ H
  refine sS_of (ps_try_as2 (tb := tb) (ts := ts) h1 h2 hN hi hk hc hc0 (fun W pn xe t po => ⟨fun pins s σ H D I hh => hh pn xe t po pins s I⟩) (fun a oe cls d pn z f => ⟨fun pins s σ H D I hh => hh oe pn z f pins s I⟩)) ?_
  intro pn xe t po
  refine (w pn xe po).run B F G M σ H D _ t S ⟨E.nx, E.rt, E.bk, E.ct, fun M2 σ2 H2 δ2 C od fs S2 ed ⟨k0, k1, k2⟩ => ⟨k0, true, k1, fun _ a ha => ?_, fun z => nomatch z⟩⟩
  intro oe pn2 zc zf
  have held : Rp X.K M2 H2 (.ref a) (.held a C od fs) := by
    cases od with
    | none => cases (show fs = [] from ed); exact .held0 a C
    | some d => obtain ⟨n, fv, e, r⟩ := ed; exact .held n e r
  refine (k2 a oe od pn2 zc zf).run B F G M2 _ H2 _ (fun _ _ _ _ => False) takes0 (S2.setV i held) ⟨fun M3 σ3 H3 δ3 S3 k3 => E.nx M3 _ H3 _ (S3.setN i) k3, fun M3 σ3 H3 δ3 v d S3 r3 k3 => E.rt M3 _ H3 δ3 v d S3 r3 k3, fun M3 σ3 H3 δ3 S3 k3 => E.bk M3 _ H3 _ (S3.setN i) k3, fun M3 σ3 H3 δ3 S3 k3 => E.ct M3 _ H3 _ (S3.setN i) k3, fun _ _ _ _ _ _ _ _ _ z => z⟩
/-- raise C(e, ..) -/
theorem ws_raise {x : Str} {C fI : Addr} {k : Nat} {fd : FuncData} {ps : List Str} {ns : List Str} {p2 : Pos} (ec : EC X.K C) (iC : PySem.W.findIn X.K (.ref C) "__init__" = some (some (.ref fI))) (tI : PySem.W.typeIn X.K (.ref fI) = some (.type "function"))
    (Fn : FnOk X.prog X.w X.K X.mg X.base (L2.CX X.prog X.w) k fI fd ps (spIni X.K ns)) (hr : Room (k + 1) X.A) (hb : Binds X.K fd ps []) (hm : X.mg x = some (.ref C)) (hf : ∀ f ∈ ns, PySem.W.findIn X.K (.ref C) f = some none)
    (w : WA X h (e :: es) δ (fun ds => ds.length = ns.length ∧ ds.length ≤ 1000 ∧ P.ex δ C (ns.zip ds).reverse) (P.ex δ)) (hc : X.calm = true := by rfl) (hg : Gl X x := by rfl) (hdb : (x == ("__debug__" : Str)) = false := by decide)
    (he : starEach (e :: es) X.env = (false, eval e X.env) :: starEach es X.env := by rfl) (hpl : (backTo pos (starEach es X.env)).any (·.1) = false := by rfl) :
    WS X h (.Raise (some (.Call (.Name x p) (e :: es) [] pos)) none p2) δ P := .mk fun B F0 G M σ H D W tk S0 E => by
  refine sS_of (ps_raise hc tk (pmk_oex (dvs := []) ec.ox iC tI Fn hr hb .nil passL hg hm paS hdb he hpl)) (w.run B F0 G M σ H _ W tk S0 (fun vs H1 ds g1 S1 r1 ⟨h1, h2, kk⟩ => ?_) (out_of E))
  have hl := r1.length
  refine ⟨by omega, fun a ha => ?_⟩
  rw [List.append_nil]
  refine ⟨a, C, vs, rfl, by omega, ec.ox, hf, upd_same, fun d fv H' hd hda kp hx efv => ⟨rfl, ?_⟩⟩
  have hd1 : H1 d = none := by rw [upd_ne hda] at hd; exact hd
  cases hx with
  | full hx1 hx2 =>
    subst efv
    refine ⟨d, _, hx1, hx2, hd1, ?_⟩
    have all : ∀ b o, H1 b = some o → (upd (L2.del H' a) d (.xd (ns.zip vs).reverse)) b = some o := fun b o z => by
      rw [upd_ne (ne_of_none z hd1), L2.del_ne (ne_of_none z ha)]
      exact kp b o (ne_of_none z ha) (by rw [upd_ne (ne_of_none z ha)]; exact z)
    have r1' := r1.mono (Gh.gr S1.hand (Gh.all (h := h) all))
    exact E.ex M σ _ δ C (some d) _ (S1.all all) ⟨S1.live.new hd1, _, upd_same, rpF_rev (rpF_zip r1')⟩ kk
/-- raise C() -/
theorem ws_raise0 {x : Str} {C : Addr} {p2 : Pos} (ec : EC X.K C) (q0 : PySem.W.excIn X.K C He.veBase "ValueError.__new__" = true) (hm : X.mg x = some (.ref C)) (kk : P.ex δ C []) (hc : X.calm = true := by rfl) (hg : Gl X x := by rfl) (hdb : (x == ("__debug__" : Str)) = false := by decide) :
    WS X h (.Raise (some (.Call (.Name x p) [] [] pos)) none p2) δ P := .mk fun B F0 G M σ H D W tk S0 E => by
  refine sS_of (ps_raise hc tk (e := .Call (.Name x p) [] [] pos) (t := fun _ H Q => Q (.ref C) none H) ?_) (E.ex M σ H δ C none [] S0 rfl kk)
  intro pins s σ H Q I hh
  refine wpAny_Call_Name_kw (ld_glob I hg hm ?_ hdb)
  refine PySem.W.callWith_K0 I.kIn ec.ox.kC ?_
  obtain ⟨hp, g, dr, tk, os⟩ := s
  obtain ⟨bm, N, nm, qn, bs, hdct, sn, sub, ab, col, dd, k0, k1, k2, k3, k5, mN, hC, hN, hni, T⟩ := exc_obj I.kIn q0
  refine wpAny_call_exc_subT PySem.F.excBase_ValueError T hC hN hni (fun h' a hm' => ?_) (Nat.zero_le _)
  exact mk_of I hm' (raises_own ec.ox.exC ec.ox.tyC) hh (I.hok.gone hm'.new)
/-- e.f, e the error that the suite holds -/
theorem we_held {a : Addr} {oe : Obj} {pn : List (Addr × Obj)} {C : Addr} {od : Option Addr} {fs : List (Str × D)} {n f : Str} {dv : D} {Φ : D → Prop} {Ψ : Addr → List (Str × D) → Prop} {pa pb : Pos} (i : Nat) (ec : EC X.K C) (hno : PySem.W.findIn X.K (.ref C) f = some none) (hz : Zc (.ref C) od oe) (hfv : ∃ vs, oe.data = .fields vs)
    (hd : δ[i]? = some (.val (.held a C od fs))) (hl : fs.lookup f = some dv) (k : Φ dv) (hN : X.N[i]? = some n := by rfl) (hv : Vis X.env.scope n := by first | exact Or.inl rfl | exact Or.inr (Or.inl rfl) | exact Or.inr (Or.inr rfl))
    (h1 : (n == ("__debug__" : Str)) = false := by decide) (h2 : (n == ("__classdict__" : Str)) = false := by decide) (hb : attributeBase (.Name n pa) f X.env (eval (.Name n pa) X.env) = eval (.Name n pa) X.env := by rfl) :
    WE (X.suite a ((a, oe) :: pn)) h (.Attribute (.Name n pa) f pb) δ Φ Ψ := .mk fun B F G M σ H Q W tk S q x0 => by
  obtain ⟨v, e, r⟩ := S.val i _ hd
  cases r with
  | held0 => cases hl
  | held nm e2 rf =>
    obtain ⟨u, hu, ru⟩ := rf.look hl
    exact eS_of (pe_xf ec.xf hno hz hfv (pe_var (X := X.suite a ((a, oe) :: pn)) hN hv h1 h2) hb) ⟨_, e, rfl, rfl, _, _, u, rfl, e2, hu, Ans.now q S ru k⟩
/-- isinstance(e, c), e the error that the suite holds -/
def rIsH (K : PySem.W.Frag) (a C : Addr) (od : Option Addr) : List V → Hp → VK → Prop := fun xs H Q => ∃ (c : V) (cv : Value) (b : Bool), xs = [.ref a, c] ∧ ClsV c cv ∧ (∀ d, od = some d → ∃ fv, H d = some (.xd fv)) ∧ PySem.W.kitOne K (.ref C) cv = some b ∧ Q (.bl b) H
theorem call_isH {X : Cx} {a C : Addr} {od : Option Addr} {oe : Obj} {pn : List (Addr × Obj)} (ec : EC X.K C) (hz : Zc (.ref C) od oe) (hf : ∃ vs, oe.data = .fields vs) : CallR (X.suite a ((a, oe) :: pn)) (.builtin "isinstance") (rIsH X.K a C od) := by
  intro pins s σ H xs us Q I r hh
  obtain ⟨c, cv, b, rfl, hc, hd, e, q⟩ := hh
  obtain ⟨u1, u2, rfl, r1, r2⟩ := vals2 r
  have e2 := hc.eq r2
  subst e2
  obtain rfl : u1 = Value.ref a := r1
  obtain ⟨hget, _⟩ := I.pin (a, oe) (List.mem_append.mpr (.inl List.mem_cons_self))
  obtain ⟨vs, hv⟩ := hf
  have nc : PySem.W.notCls oe = true := by
    unfold PySem.W.notCls
    rw [hv]
  have J : ∃ oD, PySem.W.InstAt s.heap a oe C oD := by
    cases od with
    | none => exact ⟨none, hget, hz.1, nc, by rw [hz.2]; trivial⟩
    | some d =>
      obtain ⟨fv, ed⟩ := hd d rfl
      obtain ⟨mA, hns, _⟩ := (show ObjOk X.prog X.w H s.heap d (.xd fv) from I.hok d _ ed)
      obtain ⟨oD, ho, _⟩ := lookIn_ns hns
      exact ⟨some oD, hget, hz.1, nc, by rw [hz.2]; exact ho⟩
  obtain ⟨oD, J⟩ := J
  exact PySem.W.kia_one (PySem.W.kitx_exc ec.cl ec.xf.ga ec.xf.gg ec.xf.exC ec.at_ ec.sp ec.tk ec.mo) I.kIn J e (fun z => nomatch z) fun tk => ⟨.bl b, H, I.tok tk, rfl, q⟩
theorem we_heldI {a : Addr} {oe : Obj} {pn : List (Addr × Obj)} {C : Addr} {od : Option Addr} {fs : List (Str × D)} {n x : Str} {Φ : D → Prop} {Ψ : Addr → List (Str × D) → Prop} {pa pb px : Pos} {ce : Expr} (i : Nat) (cv : V) (cu : Value) (bb : Bool) (ec : EC X.K C) (hz : Zc (.ref C) od oe) (hfv : ∃ vs, oe.data = .fields vs)
    (hd : δ[i]? = some (.val (.held a C od fs))) (hcv : ClsV cv cu) (hkit : PySem.W.kitOne X.K (.ref C) cu = some bb) (hce : ∀ Φ' : D → Prop, Φ' (.at_ cv) → WE (X.suite a ((a, oe) :: pn)) h ce δ Φ' Ψ) (k : Φ (.bl bb)) (hx : x = "isinstance") (hm : X.mg x = none) (hN : X.N[i]? = some n := by rfl)
    (hv : Vis X.env.scope n := by first | exact Or.inl rfl | exact Or.inr (Or.inl rfl) | exact Or.inr (Or.inr rfl)) (h1 : (n == ("__debug__" : Str)) = false := by decide) (h2 : (n == ("__classdict__" : Str)) = false := by decide) (hg : Gl X x := by rfl) (hn : x ≠ "__name__" := by decide) (hdb : (x == ("__debug__" : Str)) = false := by decide)
    (he1 : starEach [.Name n pa, ce] X.env = (false, eval (.Name n pa) X.env) :: starEach [ce] X.env := by rfl) (he2 : starEach [ce] X.env = (false, eval ce X.env) :: starEach [] X.env := by rfl) (hpl : (backTo pb (starEach [ce] X.env)).any (·.1) = false := by rfl) :
    WE (X.suite a ((a, oe) :: pn)) h (.Call (.Name x px) [.Name n pa, ce] [] pb) δ Φ Ψ := .mk fun B F G M σ H Q W tk S q x0 => by
  obtain ⟨v, e, r⟩ := S.val i _ hd
  refine eS_of (pe_callB (X := X.suite a ((a, oe) :: pn)) (call_isH ec hz hfv) hg hm (by rw [hx]; decide +kernel) (pa_cons (pe_var (X := X.suite a ((a, oe) :: pn)) hN hv h1 h2) (pa_cons peS pa_nil he2) he1) hn hdb he1 hpl) ⟨v, e, ?_⟩
  refine (hce (fun d => d = .at_ cv) rfl).run B F G M σ H _ W tk S (fun u H1 d g1 S1 r1 ed => ?_) x0
  subst ed
  obtain rfl := r1.at_inv
  have r' := r.mono (g1.gr S.hand)
  have ev : v = .ref a := by cases r <;> rfl
  subst ev
  refine ⟨u, cu, bb, rfl, hcv, fun d z => ?_, hkit, Ans.now (Ans.on q g1) S1 (.bl bb) k⟩
  subst z
  cases r' with
  | held _ e2 _ => exact ⟨_, e2⟩
end
end Uc

set_option Elab.async false
set_option linter.all false
set_option maxRecDepth 100000
set_option maxHeartbeats 4000000
namespace Uc
open PySem PySem.Spec PyProof.Rows L2
section
variable {X : Cx} {h : Option Hd} {δ : List Sl} {Φ : D → Prop} {Ψ : Addr → List (Str × D) → Prop} {es : List Expr}
theorem sI_go {C : Int → Int → Prop} {g : Int → Int → D} {i j : Int} (hc : C i j) (k : Φ (g i j)) : sI C g (.int i) (.int j) Φ := ⟨hc, k⟩
theorem sAdd_int {i j : Int} (k : Φ (.int (i + j))) : sAdd (.int i) (.int j) Φ := k
theorem sAdd_str {i j : Str} (hl : i.length + j.length ≤ sizeLine) (k : Φ (.str (i ++ j))) : sAdd (.str i) (.str j) Φ := ⟨hl, k⟩
theorem sAdd_lst {i j : List D} (hl : i.length + j.length ≤ 100000) (k : Φ (.lst (i ++ j))) : sAdd (.lst i) (.lst j) Φ := ⟨hl, k⟩
theorem sInt_int {i : Int} (k : Φ (.int i)) : sInt [.int i] Φ := k
theorem sLen_lst {i : List D} (k : Φ (.int i.length)) : sLen [.lst i] Φ := k
theorem sLen_tup {i : List D} (k : Φ (.int i.length)) : sLen [.tup i] Φ := k
theorem sIx_lst {xs : List D} {i : Int} {d : D} (e : atI xs i = some d) (k : Φ d) : sIx (.lst xs) (.int i) Φ := ⟨d, e, k⟩
theorem sIx_tup {xs : List D} {i : Int} {d : D} (e : atI xs i = some d) (k : Φ d) : sIx (.tup xs) (.int i) Φ := ⟨d, e, k⟩
theorem sIx_str {z : Str} {i : Int} {c : Nat} (hl : z.length ≤ sizeLine) (e : atI z.cps.toList i = some c) (k : Φ (.str ⟨#[c]⟩)) : sIx (.str z) (.int i) Φ := ⟨c, hl, e, k⟩
theorem cmulR {i j : Int} (h1 : -(2 ^ 64) < j) (h2 : j < 2 ^ 64) : CMul i j := .inr ⟨h1, h2⟩
theorem cmulL {i j : Int} (h1 : -(2 ^ 64) < i) (h2 : i < 2 ^ 64) : CMul i j := .inl ⟨h1, h2⟩
theorem posI {j : Int} (h : 0 < j) : (0 : Int) < j := h
theorem cdivW {i j : Int} (h0 : 0 < j) (h1 : j < 2 ^ 64) : CDivW i j := wide_div h0 (b := 64) (by omega) (by decide) (by decide)
theorem cpow {i j : Int} (h0 : 0 ≤ j) (h1 : j ≤ 1000000) (h2 : i.natAbs < 2 ^ 64) : CPow i j := ⟨h0, h1, h2⟩
end
end Uc

set_option Elab.async false
set_option linter.all false
set_option maxRecDepth 100000
set_option maxHeartbeats 4000000
namespace Uc
open PySem PySem.Spec PyProof.Rows L2
section
variable {X : Cx} {h : Option Hd} {δ : List Sl} {P : Po} {Φ : D → Prop} {Ψ : Addr → List (Str × D) → Prop} {a b c e : Expr} {es : List Expr} {pos p : Pos} {st : Stmt} {rest body orelse : List Stmt}
/-- a list that is walked stays, and its items -/
theorem SD.addS {K : PySem.W.Frag} {B : Addr → Prop} {F : Addr → HO → Prop} {G : V → D → Prop} {M : Addr → Prop} {H : Hp} {σ : L2.St} {v : V} {d : D} {ds : List D} (S : SD K h B F G M H σ δ) (r : Rp K M H v d) (e : d = .lst ds ∨ d = .zlst ds) :
    ∃ (a : Addr) (vs : List V) (Fx : Addr → HO → Prop), v = .ref a ∧ vs.length = ds.length ∧ (∀ H', (∀ b o, Fx b o → H' b = some o) → SqL K H' a vs) ∧ SD K h B (fun b o => F b o ∨ Fx b o) (fun u e => G u e ∨ ∃ k : Nat, vs[k]? = some u ∧ ds[k]? = some e) M H σ δ := by
  obtain ⟨a, vs, rfl, c, rv⟩ := r.seq_inv e
  have addG : ∀ {F' : Addr → HO → Prop}, SD K h B F' G M H σ δ → SD K h B F' (fun u e => G u e ∨ ∃ k : Nat, vs[k]? = some u ∧ ds[k]? = some e) M H σ δ := fun {F'} S' =>
    ⟨S'.len, S'.val, S'.own, S'.dis, S'.hand, S'.live, S'.fk, S'.fh, fun u e z => z.elim (S'.gk u e) fun ⟨k, h1, h2⟩ => by
      obtain ⟨u', hu, ru⟩ := rv.get h2
      rw [h1] at hu
      cases hu
      exact ru, S'.mb⟩
  rcases c with ⟨na, u, hu, isl⟩ | c
  · exact ⟨a, vs, fun b o => b = a ∧ o = u, rfl, rv.length, fun H' k => sqL_of (k a u ⟨rfl, rfl⟩) isl, addG (S.addF na hu)⟩
  · exact ⟨a, vs, fun _ _ => False, rfl, rv.length, fun H' _ => sqL_const c, addG ⟨S.len, S.val, fun i ds e => by
      obtain ⟨p, xs, e1, m, nh, hp, r', nb, nf⟩ := S.own i ds e
      exact ⟨p, xs, e1, m, nh, hp, r', nb, fun o z => z.elim (nf o) id⟩, S.dis, S.hand, S.live, fun b o z => z.elim (S.fk b o) False.elim, fun b o z => z.elim (S.fh b o) False.elim, S.gk, S.mb⟩⟩
/-- for k, x in enumerate(e) -/
theorem ws_forEn {x y : Str} {px py pt pn pc : Pos} {kt : Nat} (i j : Nat) (I : Nat → List Sl → Prop) (hp : PassesOwn (model X.prog X.w) X.A X.env X.xe) (hN : X.N.Nodup) (hm : X.mg "enumerate" = none)
    (w : WE X h e δ (fun d => ∃ ds, (d = .lst ds ∨ d = .zlst ds) ∧ I 0 δ ∧ (∀ (k : Nat) (δ' : List Sl) (d : D), ds[k]? = some d → I k δ' → WB X h body ((δ'.set i (.val (.int (k : Int)))).set j (.val d)) { P with nx := I (k + 1), ct := I (k + 1), bk := P.nx }) ∧ ∀ δ', I ds.length δ' → P.nx δ') (P.ex δ))
    (hc : X.calm = true := by rfl) (hg : Gl X "enumerate" := by rfl) (hs : starEach [e] X.env = [(false, eval e X.env)] := by rfl) (hi : X.N[i]? = some x := by rfl) (hj : X.N[j]? = some y := by rfl) (hx : Loc X.env.scope x := by first | exact Or.inl rfl | exact Or.inr rfl) (hy : Loc X.env.scope y := by first | exact Or.inl rfl | exact Or.inr rfl)
    (hf : X.fn x = true ∨ X.env.scope.names.lookup x = some .local := by first | exact .inl rfl | exact .inr rfl) (hf2 : X.fn y = true ∨ X.env.scope.names.lookup y = some .local := by first | exact .inl rfl | exact .inr rfl)
    (hn : (assignEach [.Name x px, .Name y py] X.env).length = 2 := by rfl) (hst : (assignEach [.Name x px, .Name y py] X.env).findIdx? (·.1) = none := by rfl)
    (hfs : ∀ y, foldedSetIterable (.Call (.Name "enumerate" pn) [e] [] pc) X.env y = pure y := by intro _; rfl) : WS X h (.For (.Tuple [.Name x px, .Name y py] kt pt) (.Call (.Name "enumerate" pn) [e] [] pc) body [] pos) δ P := .mk fun B F G M σ H D W tk S E => by
  have na : NamesAt X [.Name x px, .Name y py] [i, j] := .cons hi hx hf (.cons hj hy hf2 .nil)
  refine sS_of (ps_for hp hc (pi_enum hg hm (pa_cons peS pa_nil hs) hs) (pg_tup (n := 2) hc (pgs_names hN na) hn hst) pbS hfs) ?_
  refine w.run B F G M σ H _ W tk S (fun v H1 d g1 S1 r1 ⟨ds, e1, i0, turn, fin⟩ => ?_) (out_of E)
  obtain ⟨q, vs, Fx, rfl, hln, sq, S1F⟩ := S1.addS r1 e1
  have E' := ends_sub (F' := fun b o => F b o ∨ Fx b o) (G' := fun u e => G u e ∨ ∃ k : Nat, vs[k]? = some u ∧ ds[k]? = some e) E (fun b o z => .inl z) fun u e z => .inl z
  refine ⟨q, vs, rfl, sq _ fun b o z => S1F.fk b o (.inr z), ?_⟩
  show ∃ W : Nat → Nat → L2.St → Hp → Prop, _
  refine for_it (walk_enum (xs := vs)) (fun k σ' H' => ∃ M' δ', SD X.K h B (fun b o => F b o ∨ Fx b o) (fun u e => G u e ∨ ∃ k : Nat, vs[k]? = some u ∧ ds[k]? = some e) M' H' σ' δ' ∧ I k δ') ⟨M, δ, S1F, i0⟩ (fun k σ' H' _ ⟨M', δ', S', _⟩ => sq _ fun b o z => S'.fk b o (.inr z)) (fun k v σ' H' H'' hk hI hY => ?_) (fun σ' H' hI => ?_)
  · obtain ⟨M', δ', S', hI⟩ := hI
    obtain ⟨T, x1, x2, rfl, hT, rfl, hx1, hx2⟩ := hY
    cases hx1
    have ST := S'.all (new_all (o := .tup [.int (k : Int), x2]) hT)
    obtain ⟨d', hd⟩ : ∃ d', ds[k]? = some d' := ⟨_, List.getElem?_eq_getElem (by have := (List.getElem?_eq_some_iff.mp hx2).1; omega)⟩
    have rd : Rp X.K M' _ x2 d' := ST.gk _ _ (.inr ⟨k, hx2, hd⟩)
    refine ⟨T, _, rfl, SqT.of upd_same, rfl, ?_⟩
    refine setAll_ok (ds := [.int (k : Int), d']) ST (.cons (.int (k : Int)) (.cons rd .nil)) rfl fun σ2 S2 => ?_
    refine (turn k δ' d' hd hI).run B _ _ M' _ _ _ W tk S2 ?_
    exact ⟨fun M2 σ2 H2 δ2 S2 k2 => ⟨M2, δ2, S2, k2⟩, E'.rt, E'.nx, fun M2 σ2 H2 δ2 S2 k2 => ⟨M2, δ2, S2, k2⟩, E'.ex⟩
  · obtain ⟨M', δ', S', hI⟩ := hI
    rw [hln] at hI
    exact E'.nx M' σ' H' δ' S' (fin δ' hI)
/-- abs -/
def sAbs : List D → (D → Prop) → Prop
  | [.int i], Φ => Φ (.int (if i < 0 then -i else i))
  | _, _ => False
theorem calS_abs : CalS X h (fun xs H Q => ∃ i, xs = [.int i] ∧ Q (.int (if i < 0 then -i else i)) H) sAbs := fun B F G M σ δ H vs ds Q Φ S r k q => by
  match ds, k with
  | [.int i], k =>
    obtain ⟨v, rfl, r5⟩ := rpA_one r
    obtain rfl := r5.int_inv
    exact ⟨i, rfl, Ans.now q S (.int _) k⟩
theorem we_abs {x : Str} (hx : x = "abs") (hm : X.mg x = none) (w : WA X h (e :: es) δ (fun ds => sAbs ds Φ) Ψ) (hg : Gl X x := by rfl) (hn : x ≠ "__name__" := by decide) (hdb : (x == ("__debug__" : Str)) = false := by decide)
    (he : starEach (e :: es) X.env = (false, eval e X.env) :: starEach es X.env := by rfl) (hpl : (backTo pos (starEach es X.env)).any (·.1) = false := by rfl) : WE X h (.Call (.Name x p) (e :: es) [] pos) δ Φ Ψ :=
  we_callB call_abs calS_abs hm w (by rw [hx]; decide +kernel) hg hn hdb he hpl
theorem sAbs_int {i : Int} (k : Φ (.int (if i < 0 then -i else i))) : sAbs [.int i] Φ := k
/-- [elt for x in e] -/
theorem wf_lcL {Φ : List D → Prop} {x : Str} {px : Pos} {elt : Expr} {scope : Scope} (i : Nat) (I : Nat → List D → Prop) (hN : X.N.Nodup) (ok : BlkOk X.N X.env.scope scope [(x, i)])
    (w : WE X h e δ (fun d => ∃ ds, (d = .lst ds ∨ d = .zlst ds) ∧ ds.length ≤ 90000 ∧ I 0 [] ∧ (∀ (k : Nat) (d : D) (acc : List D), ds[k]? = some d → I k acc → ∀ (s0 : Shared) (H0 : Hp) (C : Addr) (cl : List (Str × Addr)) (fp : List Addr),
      WE (X.blk s0 H0 scope (compEnvC scope cl C X.env) fp) h elt ((δ.set i .no).set i (.val d)) (fun d => I (k + 1) (acc ++ [d])) (fun _ _ => False)) ∧ ∀ acc, acc.length = ds.length → I ds.length acc → Φ acc) Ψ)
    (hgi : X.N[i]? = some x := by rfl) (hgx : scope.names.lookup x = some .local := by rfl)
    (hc : X.calm = true := by rfl) (hfs : ∀ y, foldedSetIterable e X.env y = pure y := by intro _; rfl) :
    WF X h (.ListComp elt [⟨.Name x px, e, [], 0⟩] scope pos) δ Φ Ψ := .mk fun B F G M σ H Q W tk S q x0 => by
  let te : TE := fun σ H Q => ∀ (s0 : Shared) (H0 : Hp) (C : Addr) (cl : List (Str × Addr)) (fp : List Addr), eS (X.blk s0 H0 scope (compEnvC scope cl C X.env) fp) elt σ H Q
  have hg' : ∀ (s : Shared) (H : Hp) (C : Addr) (cl : List (Str × Addr)) (fp : List Addr), PG (X.blk s H scope (compEnvC scope cl C X.env) fp) (.Name x px) (gName i) := fun _ _ _ _ _ => pg_name hN hgi (Or.inl (lookup_relabel_local hgx)) (.inr (lookup_relabel_local hgx))
  refine eS_of (pe_lc (te := te) hc hN (pi_list peS) ok hg' (fun _ _ _ _ _ => pts_nil) (fun s0 H0 C cl fp => ⟨fun pins s σ H Q I hh => hh s0 H0 C cl fp pins s I⟩) hfs) ?_
  refine w.run B F G M σ H _ W tk S (fun v H1 d g1 S1 r1 ⟨ds, e1, b1, i0, turn, fin⟩ => ?_) x0
  obtain ⟨a0, vs, Fx, rfl, hln, sq, S1F⟩ := S1.addS r1 e1
  refine ⟨a0, rfl, ⟨vs, sq _ fun b o z => S1F.fk b o (.inr z)⟩, fun Dl hD => lc_list (xs := vs) (fun k H' => ∃ xs acc, Gh h H1 H' ∧ HandOk h (fun a => M a ∨ a = Dl) H' ∧ H' Dl = some (.lst xs) ∧ RpA X.K (fun a => M a ∨ a = Dl) H' xs acc ∧ acc.length = k ∧ I k acc) ?_ (fun k H' hk hI => ?_) (fun k v H' hk hI => ?_) (fun H' hI => ?_)⟩
  · refine ⟨[], [], Gh.new hD, fun z e => ?_, upd_same, .nil, rfl, i0⟩
    obtain ⟨m, i', rest, tot, h1, h2, h3, h4⟩ := S1.hand z e
    exact ⟨.inl m, i', rest, tot, by rw [upd_ne (ne_of_none h1 hD)]; exact h1, by rw [upd_ne (ne_of_none h2 hD)]; exact h2, fun y => y.elim h3 (ne_of_none h2 hD), h4⟩
  · obtain ⟨xs, acc, gH, _⟩ := hI
    exact sq _ fun b o z => gH b o (S1F.fh b o (.inr z)) (S1F.fk b o (.inr z))
  · obtain ⟨xs, acc, gH, hand', hxs, rxs, hl, hI⟩ := hI
    have hkl : k < vs.length := (List.getElem?_eq_some_iff.mp hk).1
    obtain ⟨d, hd⟩ : ∃ d', ds[k]? = some d' := ⟨_, List.getElem?_eq_getElem (by omega)⟩
    have rd' : Rp X.K M H1 v d := S1F.gk _ _ (.inr ⟨k, hk, hd⟩)
    show wipe ((wipe σ [i]).set i (some v)) [i] = wipe σ [i] ∧ te ((wipe σ [i]).set i (some v)) H' _
    refine ⟨by show ((σ.set i none).set i (some v)).set i none = σ.set i none; rw [List.set_set, List.set_set], fun s0 H0 C cl fp => ?_⟩
    have S2 : SD X.K h B F G (fun a => M a ∨ a = Dl) H' ((wipe σ [i]).set i (some v)) ((δ.set i .no).set i (.val d)) :=
      SD.up ((S1.setN (o := none) i).setV i rd') hD gH hand' ⟨_, hxs⟩
    have own' : ∀ j ds p, ((δ.set i .no).set i (.val d))[j]? = some (Sl.own ds) → ((wipe σ [i]).set i (some v))[j]? = some (some (V.ref p)) → p ≠ Dl := fun j ds p z1 z2 y => by
      obtain ⟨p', xs', e5, _, _, hp', _⟩ := ((S1.setN (o := none) i).setV i rd').own j ds z1
      have e6 : some (some (V.ref p)) = some (some (V.ref p')) := z2.symm.trans e5
      cases e6
      exact ne_of_none hp' hD y
    have S3 : SD X.K h B (fun b o => F b o ∨ (b = Dl ∧ o = .lst xs)) G (fun a => M a ∨ a = Dl) H' ((wipe σ [i]).set i (some v)) ((δ.set i .no).set i (.val d)) :=
      ⟨S2.len, S2.val, fun j ds z => by
        obtain ⟨p', xs', e5, m, nh, hp', r', nb, nf⟩ := S2.own j ds z
        exact ⟨p', xs', e5, m, nh, hp', r', nb, fun o y => y.elim (nf o) fun y => own' j ds p' z e5 y.1⟩, S2.dis, S2.hand, S2.live, fun b o z => z.elim (S2.fk b o) fun y => by rw [y.1, y.2]; exact hxs,
        fun b o z => z.elim (S2.fh b o) fun y z2 e2 w2 => by
          obtain ⟨_, _, _, _, h1, _⟩ := S1.hand z2 e2
          exact ne_of_none h1 hD (by rw [← y.1, w2]), S2.gk, S2.mb⟩
    refine (turn k d acc hd hI s0 H0 C cl fp).run B _ G _ _ H' _ (fun _ _ _ _ => False) takes0 S3 (fun v H4 d g4 S4 r4 hI' => ?_) (fun C od H' fs g S ed f => f.elim)
    have hx4 := S4.fk _ _ (.inr ⟨rfl, rfl⟩)
    refine ⟨xs, hx4, szLt (by rw [rxs.length, hl]; omega), xs ++ [v], acc ++ [d], ?_, fun z e => ?_, upd_same, ?_, by simp [hl], hI'⟩
    · intro b o nb z
      rw [upd_ne (ne_of_none z hD)]
      exact g4 b o nb (gH b o nb z)
    · obtain ⟨m, i', rest, tot, h1, h2, h3, h4⟩ := S4.hand z e
      exact ⟨m, i', rest, tot, by
        rw [upd_ne fun y => ?_]
        · exact h1
        · obtain ⟨_, _, _, _, k1, _⟩ := S1.hand z e
          exact ne_of_none k1 hD y, by rw [upd_ne (fun y => h3 (.inr y))]; exact h2, h3, h4⟩
    · have gr : Gr (fun a => M a ∨ a = Dl) H4 (upd H4 Dl (.lst (xs ++ [v]))) := fun b o nb z => by rw [upd_ne (fun y => nb (.inr y))]; exact z
      exact ((rxs.mono (g4.gr S3.hand)).append (.cons r4 .nil)).mono gr
  · obtain ⟨xs, acc, gH, hand', hxs, rxs, hl, hI⟩ := hI
    have hand0 : HandOk h M H' := fun z e => by
      obtain ⟨m, i', rest, tot, h1, h2, h3, h4⟩ := hand' z e
      exact ⟨(S1.hand z e).1, i', rest, tot, h1, h2, fun y => h3 (.inl y), h4⟩
    rw [hln] at hl hI
    exact q Dl H' xs acc (g1.trans gH) (S1.step gH hand0) (Gh.free S1 g1 hD) hxs rxs (fin acc hl hI)

/-! ### the hand comes -/
/-- what `_law_hand` promises: a new hand -/
def spHand (K : PySem.W.Frag) : Sp := fun vs H Q _ => ∃ (M : Addr → Prop) (is : List Int), RpA K M H vs [.zlst (is.map D.int)] ∧ is.length ≤ 90000 ∧
  ∀ (q : Hd) (tot : Int) (H' : Hp), H q.p = none → H q.l = none → q.p ≠ q.l → H' q.p = some (.lst [.ref q.l, .int 0, .int 0, .int tot]) → H' q.l = some (.lst (q.cs.map V.int)) → (∀ b o, H b = some o → H' b = some o) → Q (.ref q.p) H'
theorem SD.hnd {K : PySem.W.Frag} {B : Addr → Prop} {F : Addr → HO → Prop} {G : V → D → Prop} {M : Addr → Prop} {H H' : Hp} {σ : L2.St} {q : Hd} {tot : Int} (S : SD K none B F G M H σ δ) (n1 : H q.p = none) (n2 : H q.l = none) (ne : q.p ≠ q.l)
    (e1 : H' q.p = some (.lst [.ref q.l, .int 0, .int 0, .int tot])) (e2 : H' q.l = some (.lst (q.cs.map V.int))) (kp : ∀ b o, H b = some o → H' b = some o) : SD K (some q) B F G (fun a => M a ∨ a = q.p) H' σ δ :=
  have w : ∀ a, (M a ∨ a = q.p) → M a ∨ H a = none := fun a z => z.elim .inl fun y => .inr (by rw [y]; exact n1)
  have gg : Gr (fun a => M a ∨ a = q.p) H H' := fun b o nb e => kp b o e
  {
  len := S.len
  val := fun i d e => by
    obtain ⟨v, e1, r⟩ := S.val i d e
    exact ⟨v, e1, (r.nar w).mono gg⟩
  own := fun i ds e => by
    obtain ⟨p, xs, e1, mp, np, hp, r, z⟩ := S.own i ds e
    exact ⟨p, xs, e1, .inl mp, fun z y => by cases y; exact ne_of_none hp n1, kp _ _ hp, (r.nar w).mono gg, z⟩
  dis := S.dis
  hand := fun z y => by
    cases y
    exact ⟨.inr rfl, 0, 0, tot, e1, e2, fun y => y.elim (S.live.new n2) fun z => ne z.symm, Int.le_refl 0⟩
  live := fun a z => z.elim (fun y => let ⟨o, e⟩ := S.live a y; ⟨o, kp _ _ e⟩) fun y => by rw [y]; exact ⟨_, e1⟩
  fk := fun b o e => kp b o (S.fk b o e)
  fh := fun b o e z y => by cases y; exact ne_of_none (S.fk b o e) n1
  gk := fun v d z => ((S.gk v d z).nar w).mono gg
  mb := fun a z => .inl (S.mb a z) }
theorem SD.noh {K : PySem.W.Frag} {B : Addr → Prop} {F : Addr → HO → Prop} {G : V → D → Prop} {M : Addr → Prop} {H : Hp} {σ : L2.St} (S : SD K h B F G M H σ δ) : SD K none B F G M H σ δ where
  len := S.len
  val := S.val
  own := fun i ds e => by
    obtain ⟨p, xs, e1, mp, np, z⟩ := S.own i ds e
    exact ⟨p, xs, e1, mp, fun z y => (nomatch y), z⟩
  dis := S.dis
  hand := fun z y => nomatch y
  live := S.live
  fk := S.fk
  fh := fun b o e z y => nomatch y
  gk := S.gk
  mb := S.mb
/-- x = _law_hand(e); the rest with the hand -/
theorem wb_hand {x y : Str} {p' pos2 : Pos} {k : Nat} {f : Addr} {fd : FuncData} {ps : List Str} (i : Nat) (hN : X.N.Nodup) (Fn : FnOk X.prog X.w X.K X.mg X.base (L2.CX X.prog X.w) k f fd ps (spHand X.K)) (hr : Room k X.A) (hm : X.mg x = some (.ref f)) (hk : PySem.W.keepIn X.K (.ref f) = true) (hb : Binds X.K fd ps [])
    (w : WE X none e δ (fun d => ∃ is : List Int, d = .zlst (is.map D.int) ∧ is.length ≤ 90000 ∧ ∀ q : Hd, WB X (some q) rest (δ.set i (.val (.at_ (.ref q.p)))) P) (P.ex δ))
    (hg : Gl X x := by rfl) (hdb : (x == ("__debug__" : Str)) = false := by decide) (he : starEach [e] X.env = [(false, eval e X.env)] := by rfl) (hpl : (backTo pos (starEach [] X.env)).any (·.1) = false := by rfl)
    (hi : X.N[i]? = some y := by rfl) (hx : Loc X.env.scope y := by first | exact Or.inl rfl | exact Or.inr rfl) (hs : swapsWith (.Call (.Name x p) [e] [] pos) (some (.Name y p')) pos2.line X.env = pure false := by rfl)
    (hf : X.fn y = true ∨ X.env.scope.names.lookup y = some .local := by first | exact .inl rfl | exact .inr rfl) : WB X none (.Assign [.Name y p'] (.Call (.Name x p) [e] [] pos) pos2 :: rest) δ P := .mk fun B F G M σ H D W tk S E => by
  refine bS_of (pss_cons (ps_set hN hi hx (pe_callS (E := L2.WE W) Fn hr hg hm hk hb (fun σ => passAt tk σ) (pa_cons peS pa_nil he) hdb he hpl) hs hf) pbS) ?_
  refine w.run B F G M σ H _ W tk S (fun v H1 d g1 S1 r1 ⟨is, e1, hl, k⟩ => ?_) (out_of E)
  subst e1
  refine ⟨M, is, .cons r1 .nil, hl, fun q tot H' n1 n2 ne e1 e2 kp => ?_⟩
  exact (k q).run B F G _ _ H' D W tk ((SD.hnd S1 n1 n2 ne e1 e2 kp).setV i (.at_ _)) ⟨fun M σ H δ S k => E.nx M σ H δ S.noh k, fun M σ H δ v d S r k => E.rt M σ H δ v d S.noh r k, fun M σ H δ S k => E.bk M σ H δ S.noh k, fun M σ H δ S k => E.ct M σ H δ S.noh k, fun M σ H δ C od fs S x k => E.ex M σ H δ C od fs S.noh x k⟩
theorem wb_lit {δ' : List Sl} (e : δ = δ') (w : WB X h rest δ' P) : WB X h rest δ P := by rw [e]; exact w
end
/-! ### data that == takes -/
def Fine (d : D) (n : Nat) : Prop := ∃ p, d.py = some p ∧ p.canLay0 = true ∧ p.depth ≤ n
theorem Fine.mono {d : D} {n m : Nat} (f : Fine d n) (h : n ≤ m) : Fine d m := let ⟨p, e, c, l⟩ := f; ⟨p, e, c, Nat.le_trans l h⟩
theorem Fine.int (i : Int) (n : Nat) : Fine (.int i) n := ⟨.int i, by unfold D.py; rfl, by unfold PyData.canLay0; rfl, by unfold PyData.depth; omega⟩
theorem Fine.bl (i : Bool) (n : Nat) : Fine (.bl i) n := ⟨.bool i, by unfold D.py; rfl, by unfold PyData.canLay0; rfl, by unfold PyData.depth; omega⟩
theorem Fine.non (n : Nat) : Fine .non n := ⟨.none, by unfold D.py; rfl, by unfold PyData.canLay0; rfl, by unfold PyData.depth; omega⟩
theorem Fine.str {s : Str} (h : PyData.canLay0 (.str s) = true) (n : Nat) : Fine (.str s) n := ⟨.str s, by unfold D.py; rfl, h, by unfold PyData.depth; omega⟩
theorem fineA {n : Nat} : ∀ {ds : List D}, (∀ d ∈ ds, Fine d n) → ∃ ps, D.pyA ds = some ps ∧ PyData.canLayAll0 ps = true ∧ PyData.depthAll ps ≤ n
  | [], _ => ⟨[], by unfold D.pyA; rfl, by unfold PyData.canLayAll0; rfl, by unfold PyData.depthAll; omega⟩
  | d :: ds, h => by
    obtain ⟨p, e1, c1, l1⟩ := h d List.mem_cons_self
    obtain ⟨ps, e2, c2, l2⟩ := fineA fun x hx => h x (List.mem_cons_of_mem _ hx)
    refine ⟨p :: ps, by unfold D.pyA; rw [e1, e2], by unfold PyData.canLayAll0; rw [c1, c2]; rfl, by unfold PyData.depthAll; omega⟩
theorem Fine.lst {ds : List D} {n : Nat} (h : ∀ d ∈ ds, Fine d n) : Fine (.lst ds) (n + 1) := by
  obtain ⟨ps, e, c, l⟩ := fineA h
  exact ⟨.list ps, by unfold D.py; rw [e]; rfl, by unfold PyData.canLay0; exact c, by unfold PyData.depth; omega⟩
theorem Fine.tup {ds : List D} {n : Nat} (h : ∀ d ∈ ds, Fine d n) : Fine (.tup ds) (n + 1) := by
  obtain ⟨ps, e, c, l⟩ := fineA h
  exact ⟨.tuple ps, by unfold D.py; rw [e]; rfl, by unfold PyData.canLay0; exact c, by unfold PyData.depth; omega⟩
theorem sEqD_self {d : D} {Φ : Bool → Prop} (f : Fine d 64) (k : Φ true) : sEqD d d Φ := by
  obtain ⟨p, e, c, l⟩ := f
  have sh : SeqAt.shaped p = true := by
    show (p.canLay0 && decide (p.depth ≤ 64)) = true
    rw [c, decide_eq_true l]
    rfl
  exact ⟨p, p, e, e, sh, sh, by rw [SeqAt.eqv_refl p c]; exact k⟩
theorem canLay_str {s : Str} : PyData.canLay0 (.str s) = s.cps.all (· < 0x110000) := by unfold PyData.canLay0; rfl
theorem canLay_app {s t : Str} (h1 : PyData.canLay0 (.str s) = true) (h2 : PyData.canLay0 (.str t) = true) : PyData.canLay0 (.str (s ++ t)) = true := by
  rw [canLay_str] at *
  rw [PySem.Str.cps_append, Array.all_append, h1, h2]
  rfl
end Uc

set_option Elab.async false
set_option linter.all false
set_option maxRecDepth 100000
set_option maxHeartbeats 4000000
/-! Comprehensions with tests, over lists, tuples, ranges; stored or as values; loops over tuples, range(a, b); while. -/
namespace Uc
open PySem PySem.Spec PyProof.Rows L2
section
variable {X : Cx} {h : Option Hd} {δ : List Sl} {P : Po} {Φ : D → Prop} {Ψ : Addr → List (Str × D) → Prop} {a b c e : Expr} {es : List Expr} {pos p : Pos} {st : Stmt} {rest body orelse : List Stmt}
theorem Rp.tup_inv2 {K : PySem.W.Frag} {M : Addr → Prop} {H : Hp} {v : V} {ds : List D} (r : Rp K M H v (.tup ds)) : ∃ a xs, v = .ref a ∧ ((¬ M a ∧ H a = some (.tup xs)) ∨ SqT K (fun _ => none) a xs) ∧ RpA K M H xs ds := by
  cases r with
  | tup n e s => exact ⟨_, _, rfl, .inl ⟨n, e⟩, s⟩
  | tupK e s => exact ⟨_, _, rfl, .inr e, s⟩
theorem sqT_const {K : PySem.W.Frag} {H : Hp} {a : Addr} {xs : List V} (e : SqT K (fun _ => none) a xs) : SqT K H a xs := by
  rcases e with (e | ⟨o, e⟩) | e
  · cases e
  · cases e
  · exact .inr e
/-- a tuple that is walked stays, and its items -/
theorem SD.addT {K : PySem.W.Frag} {B : Addr → Prop} {F : Addr → HO → Prop} {G : V → D → Prop} {M : Addr → Prop} {H : Hp} {σ : L2.St} {v : V} {ds : List D} (S : SD K h B F G M H σ δ) (r : Rp K M H v (.tup ds)) :
    ∃ (a : Addr) (vs : List V) (Fx : Addr → HO → Prop), v = .ref a ∧ vs.length = ds.length ∧ (∀ H', (∀ b o, Fx b o → H' b = some o) → SqT K H' a vs) ∧ SD K h B (fun b o => F b o ∨ Fx b o) (fun u e => G u e ∨ ∃ k : Nat, vs[k]? = some u ∧ ds[k]? = some e) M H σ δ := by
  obtain ⟨a, vs, rfl, c, rv⟩ := r.tup_inv2
  have addG : ∀ {F' : Addr → HO → Prop}, SD K h B F' G M H σ δ → SD K h B F' (fun u e => G u e ∨ ∃ k : Nat, vs[k]? = some u ∧ ds[k]? = some e) M H σ δ := fun {F'} S' =>
    ⟨S'.len, S'.val, S'.own, S'.dis, S'.hand, S'.live, S'.fk, S'.fh, fun u e z => z.elim (S'.gk u e) fun ⟨k, h1, h2⟩ => by
      obtain ⟨u', hu, ru⟩ := rv.get h2
      rw [h1] at hu
      cases hu
      exact ru, S'.mb⟩
  rcases c with ⟨na, hu⟩ | c
  · exact ⟨a, vs, fun b o => b = a ∧ o = .tup vs, rfl, rv.length, fun H' k => SqT.of (k a _ ⟨rfl, rfl⟩), addG (S.addF na hu)⟩
  · exact ⟨a, vs, fun _ _ => False, rfl, rv.length, fun H' _ => sqT_const c, addG ⟨S.len, S.val, fun i ds e => by
      obtain ⟨p, xs, e1, m, nh, hp, r', nb, nf⟩ := S.own i ds e
      exact ⟨p, xs, e1, m, nh, hp, r', nb, fun o z => z.elim (nf o) id⟩, S.dis, S.hand, S.live, fun b o z => z.elim (S.fk b o) False.elim, fun b o z => z.elim (S.fh b o) False.elim, S.gk, S.mb⟩⟩

/-! ### the turn of a comprehension -/
/-- what stands while a comprehension is under way: the list so far at Dl -/
def LcP (X : Cx) (h : Option Hd) (M : Addr → Prop) (H1 : Hp) (Dl : Addr) (I : Nat → List D → Prop) (k : Nat) (H' : Hp) : Prop :=
  ∃ xs acc, Gh h H1 H' ∧ HandOk h (fun a => M a ∨ a = Dl) H' ∧ H' Dl = some (.lst xs) ∧ RpA X.K (fun a => M a ∨ a = Dl) H' xs acc ∧ acc.length ≤ k ∧ I k acc
/-- an expression, a test within the block -/
def eB (X : Cx) (scope : Scope) (elt : Expr) : TE := fun σ H Q => ∀ (s0 : Shared) (H0 : Hp) (C : Addr) (cl : List (Str × Addr)) (fp : List Addr), eS (X.blk s0 H0 scope (compEnvC scope cl C X.env) fp) elt σ H Q
def tB1 (X : Cx) (scope : Scope) (c : Expr) : TT := fun σ H Q => ∀ (s0 : Shared) (H0 : Hp) (C : Addr) (cl : List (Str × Addr)) (fp : List Addr), tS (X.blk s0 H0 scope (compEnvC scope cl C X.env) fp) c σ H Q
def tBs (X : Cx) (scope : Scope) : List Expr → TT
  | [c] => tB1 X scope c
  | _ => tYes
/-- what is asked of the tests and the item of a turn -/
def Turn (X : Cx) (h : Option Hd) (scope : Scope) (ifs : List Expr) (elt : Expr) (δ' : List Sl) (I : Nat → List D → Prop) (k : Nat) (acc : List D) : Prop :=
  match ifs with
  | [c] => ∀ (s0 : Shared) (H0 : Hp) (C : Addr) (cl : List (Str × Addr)) (fp : List Addr), WT (X.blk s0 H0 scope (compEnvC scope cl C X.env) fp) h c δ' (fun b => if b = true then
      (∀ (s0 : Shared) (H0 : Hp) (C : Addr) (cl : List (Str × Addr)) (fp : List Addr), WE (X.blk s0 H0 scope (compEnvC scope cl C X.env) fp) h elt δ' (fun d => I (k + 1) (acc ++ [d])) (fun _ _ => False)) else I (k + 1) acc) (fun _ _ => False)
  | _ => ∀ (s0 : Shared) (H0 : Hp) (C : Addr) (cl : List (Str × Addr)) (fp : List Addr), WE (X.blk s0 H0 scope (compEnvC scope cl C X.env) fp) h elt δ' (fun d => I (k + 1) (acc ++ [d])) (fun _ _ => False)
theorem lc_first {B : Addr → Prop} {F : Addr → HO → Prop} {G : V → D → Prop} {M : Addr → Prop} {H1 : Hp} {σ : L2.St} {Dl : Addr} {I : Nat → List D → Prop} (S1 : SD X.K h B F G M H1 σ δ) (hD : H1 Dl = none) (i0 : I 0 []) : LcP X h M H1 Dl I 0 (upd H1 Dl (.lst [])) := by
  refine ⟨[], [], Gh.new hD, fun z e => ?_, upd_same, .nil, Nat.le_refl _, i0⟩
  obtain ⟨m, i', rest, tot, h1, h2, h3, h4⟩ := S1.hand z e
  exact ⟨.inl m, i', rest, tot, by rw [upd_ne (ne_of_none h1 hD)]; exact h1, by rw [upd_ne (ne_of_none h2 hD)]; exact h2, fun y => y.elim h3 (ne_of_none h2 hD), h4⟩
theorem lc_turn {B : Addr → Prop} {F : Addr → HO → Prop} {G : V → D → Prop} {M : Addr → Prop} {H1 H' : Hp} {σ : L2.St} {Dl : Addr} {I : Nat → List D → Prop} {scope : Scope} {ifs : List Expr} {elt : Expr} {k i : Nat} {v : V} {d : D}
    (S1 : SD X.K h B F G M H1 σ δ) (hD : H1 Dl = none) (rd : Rp X.K M H1 v d) (hk : k < 90000) (hI : LcP X h M H1 Dl I k H') (one : ifs = [] ∨ ∃ c, ifs = [c])
    (turn : ∀ acc, acc.length ≤ k → I k acc → Turn X h scope ifs elt ((δ.set i .no).set i (.val d)) I k acc) :
    tBs X scope ifs ((wipe σ [i]).set i (some v)) H' fun b H3 => if b = true then eB X scope elt ((wipe σ [i]).set i (some v)) H3 fun y H4 => ∃ acc, H4 Dl = some (.lst acc) ∧ acc.length < sizeLine ∧ LcP X h M H1 Dl I (k + 1) (upd H4 Dl (.lst (acc ++ [y]))) else LcP X h M H1 Dl I (k + 1) H3 := by
  obtain ⟨xs, acc, gH, hand', hxs, rxs, hl, hI⟩ := hI
  have S2 : SD X.K h B F G (fun a => M a ∨ a = Dl) H' ((wipe σ [i]).set i (some v)) ((δ.set i .no).set i (.val d)) :=
    SD.up ((S1.setN (o := none) i).setV i rd) hD gH hand' ⟨_, hxs⟩
  have own' : ∀ j ds p, ((δ.set i .no).set i (.val d))[j]? = some (Sl.own ds) → ((wipe σ [i]).set i (some v))[j]? = some (some (V.ref p)) → p ≠ Dl := fun j ds p z1 z2 y => by
    obtain ⟨p', xs', e5, _, _, hp', _⟩ := ((S1.setN (o := none) i).setV i rd).own j ds z1
    have e6 : some (some (V.ref p)) = some (some (V.ref p')) := z2.symm.trans e5
    cases e6
    exact ne_of_none hp' hD y
  have S3 : SD X.K h B (fun b o => F b o ∨ (b = Dl ∧ o = .lst xs)) G (fun a => M a ∨ a = Dl) H' ((wipe σ [i]).set i (some v)) ((δ.set i .no).set i (.val d)) :=
    ⟨S2.len, S2.val, fun j ds z => by
      obtain ⟨p', xs', e5, m, nh, hp', r', nb, nf⟩ := S2.own j ds z
      exact ⟨p', xs', e5, m, nh, hp', r', nb, fun o y => y.elim (nf o) fun y => own' j ds p' z e5 y.1⟩, S2.dis, S2.hand, S2.live, fun b o z => z.elim (S2.fk b o) fun y => by rw [y.1, y.2]; exact hxs,
      fun b o z => z.elim (S2.fh b o) fun y z2 e2 w2 => by
        obtain ⟨_, _, _, _, h1, _⟩ := S1.hand z2 e2
        exact ne_of_none h1 hD (by rw [← y.1, w2]), S2.gk, S2.mb⟩
  have item : ∀ {H3 : Hp}, Gh h H' H3 → SD X.K h B (fun b o => F b o ∨ (b = Dl ∧ o = .lst xs)) G (fun a => M a ∨ a = Dl) H3 ((wipe σ [i]).set i (some v)) ((δ.set i .no).set i (.val d)) →
      (∀ (s0 : Shared) (H0 : Hp) (C : Addr) (cl : List (Str × Addr)) (fp : List Addr), WE (X.blk s0 H0 scope (compEnvC scope cl C X.env) fp) h elt ((δ.set i .no).set i (.val d)) (fun d => I (k + 1) (acc ++ [d])) (fun _ _ => False)) →
      eB X scope elt ((wipe σ [i]).set i (some v)) H3 fun y H4 => ∃ acc, H4 Dl = some (.lst acc) ∧ acc.length < sizeLine ∧ LcP X h M H1 Dl I (k + 1) (upd H4 Dl (.lst (acc ++ [y]))) := fun {H3} g3 S3' tr s0 H0 C cl fp => by
    refine (tr s0 H0 C cl fp).run B _ G _ _ H3 _ (fun _ _ _ _ => False) takes0 S3' (fun v H4 d g4 S4 r4 hI' => ?_) (fun C od H' fs g S ed f => f.elim)
    have hx4 := S4.fk _ _ (.inr ⟨rfl, rfl⟩)
    refine ⟨xs, hx4, szLt (by rw [rxs.length]; omega), xs ++ [v], acc ++ [d], ?_, fun z e => ?_, upd_same, ?_, by simp; omega, hI'⟩
    · intro b o nb z
      rw [upd_ne (ne_of_none z hD)]
      exact g4 b o nb (g3 b o nb (gH b o nb z))
    · obtain ⟨m, i', rest, tot, h1, h2, h3, h4⟩ := S4.hand z e
      exact ⟨m, i', rest, tot, by
        rw [upd_ne fun y => ?_]
        · exact h1
        · obtain ⟨_, _, _, _, k1, _⟩ := S1.hand z e
          exact ne_of_none k1 hD y, by rw [upd_ne (fun y => h3 (.inr y))]; exact h2, h3, h4⟩
    · have gr : Gr (fun a => M a ∨ a = Dl) H4 (upd H4 Dl (.lst (xs ++ [v]))) := fun b o nb z => by rw [upd_ne (fun y => nb (.inr y))]; exact z
      exact ((rxs.mono ((g3.trans g4).gr S3.hand)).append (.cons r4 .nil)).mono gr
  have tr := turn acc hl hI
  rcases one with rfl | ⟨c, rfl⟩
  · exact item (Gh.refl _ _) S3 tr
  · intro s0 H0 C cl fp
    refine (tr s0 H0 C cl fp).run B _ G _ _ H' _ (fun _ _ _ _ => False) takes0 S3 (fun b H3 g3 S3' f => ?_) (fun C od H' fs g S ed f => f.elim)
    cases b with
    | true => exact item g3 S3' f
    | false =>
      exact ⟨xs, acc, gH.trans g3, S3'.hand, S3'.fk _ _ (.inr ⟨rfl, rfl⟩), rxs.mono (g3.gr S3.hand), by omega, f⟩
theorem tests_ok {scope : Scope} {ifs : List Expr} (one : ifs = [] ∨ ∃ c, ifs = [c]) : ∀ (s : Shared) (H : Hp) (C : Addr) (cl : List (Str × Addr)) (fp : List Addr), PTs (X.blk s H scope (compEnvC scope cl C X.env) fp) ifs (tBs X scope ifs) := fun s H C cl fp => by
  rcases one with rfl | ⟨c, rfl⟩
  · exact pts_nil
  · exact pts_one ⟨fun pins s' σ H' Q I hh => hh s H C cl fp pins s' I⟩
theorem elt_ok {scope : Scope} {elt : Expr} : ∀ (s : Shared) (H : Hp) (C : Addr) (cl : List (Str × Addr)) (fp : List Addr), PE (X.blk s H scope (compEnvC scope cl C X.env) fp) elt (eB X scope elt) := fun s0 H0 C cl fp => ⟨fun pins s σ H Q I hh => hh s0 H0 C cl fp pins s I⟩

/-- a comprehension's reading -/
structure WL (X : Cx) (h : Option Hd) (wi : TI) (i : Nat) (scope : Scope) (ifs : List Expr) (elt : Expr) (δ : List Sl) (Φ : List D → Prop) (Ψ : Addr → List (Str × D) → Prop) : Prop where
  run : ∀ (B : Addr → Prop) (F : Addr → HO → Prop) (G : V → D → Prop) (M : Addr → Prop) (σ : L2.St) (H : Hp) (Q : VK) (W : WX), Takes X W → SD X.K h B F G M H σ δ →
    (∀ p H' xs ds, Gh h H H' → SD X.K h B F G M H' σ δ → H p = none → H' p = some (.lst xs) → RpA X.K (fun a => M a ∨ a = p) H' xs ds → Φ ds → Q (.ref p) H') →
    (∀ C od H' fs, Gh h H H' → SD X.K h B F G M H' σ δ → ExcD X.K M H' fs od → Ψ C fs → W (.ref C) od σ H') → tLc wi (gName i) (tBs X scope ifs) (eB X scope elt) [i] σ H Q
/-- what is asked of a walked sequence: its items, the invariant -/
def Walks (X : Cx) (h : Option Hd) (i : Nat) (scope : Scope) (ifs : List Expr) (elt : Expr) (δ : List Sl) (Φ : List D → Prop) (ds : List D) : Prop :=
  ds.length ≤ 90000 ∧ ∃ I : Nat → List D → Prop, I 0 [] ∧ (∀ (k : Nat) (d : D) (acc : List D), ds[k]? = some d → acc.length ≤ k → I k acc → Turn X h scope ifs elt ((δ.set i .no).set i (.val d)) I k acc) ∧ ∀ acc, acc.length ≤ ds.length → I ds.length acc → Φ acc
theorem lc_end {B : Addr → Prop} {F : Addr → HO → Prop} {G : V → D → Prop} {M : Addr → Prop} {H H1 H' : Hp} {σ : L2.St} {Dl : Addr} {I : Nat → List D → Prop} {k : Nat} {Φ : List D → Prop} {Q : VK} (S1 : SD X.K h B F G M H1 σ δ) (g1 : Gh h H H1) (hD : H1 Dl = none)
    (q : ∀ p H' xs ds, Gh h H H' → SD X.K h B F G M H' σ δ → H p = none → H' p = some (.lst xs) → RpA X.K (fun a => M a ∨ a = p) H' xs ds → Φ ds → Q (.ref p) H') (hI : LcP X h M H1 Dl I k H') (fin : ∀ acc, acc.length ≤ k → I k acc → Φ acc) : Q (.ref Dl) H' := by
  obtain ⟨xs, acc, gH, hand', hxs, rxs, hl, hI⟩ := hI
  have hand0 : HandOk h M H' := fun z e => by
    obtain ⟨m, i', rest, tot, h1, h2, h3, h4⟩ := hand' z e
    exact ⟨(S1.hand z e).1, i', rest, tot, h1, h2, fun y => h3 (.inl y), h4⟩
  exact q Dl H' xs acc (g1.trans gH) (S1.step gH hand0) (Gh.free S1 g1 hD) hxs rxs (fin acc hl hI)
/-- over a list -/
theorem wl_list {Φ : List D → Prop} {elt : Expr} {scope : Scope} {ifs : List Expr} (i : Nat) (one : ifs = [] ∨ ∃ c, ifs = [c]) (w : WE X h e δ (fun d => ∃ ds, (d = .lst ds ∨ d = .zlst ds) ∧ Walks X h i scope ifs elt δ Φ ds) Ψ) : WL X h (iList X.K (eS X e)) i scope ifs elt δ Φ Ψ := .mk fun B F G M σ H Q W tk S q x0 => by
  refine w.run B F G M σ H _ W tk S (fun v H1 d g1 S1 r1 ⟨ds, e1, b1, I, i0, turn, fin⟩ => ?_) x0
  obtain ⟨a0, vs, Fx, rfl, hln, sq, S1F⟩ := S1.addS r1 e1
  refine ⟨a0, rfl, ⟨vs, sq _ fun b o z => S1F.fk b o (.inr z)⟩, fun Dl hD => lc_list (xs := vs) (LcP X h M H1 Dl I) (lc_first S1 hD i0) (fun k H' hk hI => ?_) (fun k v H' hk hI => ?_) (fun H' hI => ?_)⟩
  · obtain ⟨xs, acc, gH, _⟩ := hI
    exact sq _ fun b o z => gH b o (S1F.fh b o (.inr z)) (S1F.fk b o (.inr z))
  · have hkl : k < vs.length := (List.getElem?_eq_some_iff.mp hk).1
    obtain ⟨d, hd⟩ : ∃ d', ds[k]? = some d' := ⟨_, List.getElem?_eq_getElem (by omega)⟩
    have rd' : Rp X.K M H1 v d := S1F.gk _ _ (.inr ⟨k, hk, hd⟩)
    show wipe ((wipe σ [i]).set i (some v)) [i] = wipe σ [i] ∧ _
    refine ⟨by show ((σ.set i none).set i (some v)).set i none = σ.set i none; rw [List.set_set, List.set_set], ?_⟩
    exact lc_turn S1 hD rd' (by omega) hI one fun acc hl hA => turn k d acc hd hl hA
  · rw [hln] at hI
    exact lc_end S1 g1 hD q hI fin
/-- over a tuple -/
theorem wl_tup {Φ : List D → Prop} {elt : Expr} {scope : Scope} {ifs : List Expr} (i : Nat) (one : ifs = [] ∨ ∃ c, ifs = [c]) (w : WE X h e δ (fun d => ∃ ds, d = .tup ds ∧ Walks X h i scope ifs elt δ Φ ds) Ψ) : WL X h (iTup X.K (eS X e)) i scope ifs elt δ Φ Ψ := .mk fun B F G M σ H Q W tk S q x0 => by
  refine w.run B F G M σ H _ W tk S (fun v H1 d g1 S1 r1 ⟨ds, e1, b1, I, i0, turn, fin⟩ => ?_) x0
  subst e1
  obtain ⟨a0, vs, Fx, rfl, hln, sq, S1F⟩ := S1.addT r1
  refine ⟨a0, rfl, ⟨vs, sq _ fun b o z => S1F.fk b o (.inr z)⟩, fun Dl hD => lc_tup (xs := vs) (LcP X h M H1 Dl I) (lc_first S1 hD i0) (fun k H' hk hI => ?_) (fun k v H' hk hI => ?_) (fun H' hI => ?_)⟩
  · obtain ⟨xs, acc, gH, _⟩ := hI
    exact sq _ fun b o z => gH b o (S1F.fh b o (.inr z)) (S1F.fk b o (.inr z))
  · have hkl : k < vs.length := (List.getElem?_eq_some_iff.mp hk).1
    obtain ⟨d, hd⟩ : ∃ d', ds[k]? = some d' := ⟨_, List.getElem?_eq_getElem (by omega)⟩
    have rd' : Rp X.K M H1 v d := S1F.gk _ _ (.inr ⟨k, hk, hd⟩)
    show wipe ((wipe σ [i]).set i (some v)) [i] = wipe σ [i] ∧ _
    refine ⟨by show ((σ.set i none).set i (some v)).set i none = σ.set i none; rw [List.set_set, List.set_set], ?_⟩
    exact lc_turn S1 hD rd' (by omega) hI one fun acc hl hA => turn k d acc hd hl hA
  · rw [hln] at hI
    exact lc_end S1 g1 hD q hI fin
/-- over range(n) -/
theorem wl_rng {Φ : List D → Prop} {elt : Expr} {scope : Scope} {ifs : List Expr} (i : Nat) (one : ifs = [] ∨ ∃ c, ifs = [c]) (w : WE X h a δ (fun d => ∃ n : Int, d = .int n ∧ -90000 ≤ n ∧ n ≤ 90000 ∧ Walks X h i scope ifs elt δ Φ ((List.range n.toNat).map fun (k : Nat) => D.int (k : Int))) Ψ) (hs : starEach [a] X.env = [(false, eval a X.env)] := by rfl) :
    WL X h (iRng1 (tCons (eS X a) tNil)) i scope ifs elt δ Φ Ψ := .mk fun B F G M σ H Q W tk S q x0 => by
  refine w.run B F G M σ H _ W tk S (fun v H1 d g1 S1 r1 ⟨n, e1, b1, b2, b3, I, i0, turn, fin⟩ => ?_) x0
  subst e1
  obtain rfl := r1.int_inv
  have hln : ((List.range n.toNat).map fun (k : Nat) => D.int (k : Int)).length = n.toNat := by rw [List.length_map, List.length_range]
  refine ⟨n, rfl, by omega, by omega, fun Dl hD => lc_range (lo := 0) (n := n.toNat) (LcP X h M H1 Dl I) (lc_first S1 hD i0) (fun k H' hk hI => ?_) (fun H' hI => ?_)⟩
  · have e0 : (0 : Int) + (k : Int) = (k : Int) := Int.zero_add _
    show wipe ((wipe σ [i]).set i (some (V.int (0 + (k : Int))))) [i] = wipe σ [i] ∧ _
    rw [e0]
    refine ⟨by show ((σ.set i none).set i (some (V.int (k : Int)))).set i none = σ.set i none; rw [List.set_set, List.set_set], ?_⟩
    exact lc_turn S1 hD (.int (k : Int)) (by omega) hI one fun acc hl hA => turn k _ acc (by rw [List.getElem?_map, List.getElem?_range hk]; rfl) hl hA
  · rw [hln] at fin
    exact lc_end S1 g1 hD q hI fin
/-- the comprehension as a value -/
theorem wf_lc {Φ : List D → Prop} {x : Str} {px : Pos} {elt iter : Expr} {scope : Scope} {ifs : List Expr} {wi : TI} (i : Nat) (hN : X.N.Nodup) (ok : BlkOk X.N X.env.scope scope [(x, i)]) (pi : PI X (.Name x px) iter wi) (w : WL X h wi i scope ifs elt δ Φ Ψ) (one : ifs = [] ∨ ∃ c, ifs = [c])
    (hgi : X.N[i]? = some x := by rfl) (hgx : scope.names.lookup x = some .local := by rfl) (hc : X.calm = true := by rfl) (hfs : ∀ y, foldedSetIterable iter X.env y = pure y := by intro _; rfl) :
    WF X h (.ListComp elt [⟨.Name x px, iter, ifs, 0⟩] scope pos) δ Φ Ψ := .mk fun B F G M σ H Q W tk S q x0 => by
  have hg' : ∀ (s : Shared) (H : Hp) (C : Addr) (cl : List (Str × Addr)) (fp : List Addr), PG (X.blk s H scope (compEnvC scope cl C X.env) fp) (.Name x px) (gName i) := fun _ _ _ _ _ => pg_name hN hgi (Or.inl (lookup_relabel_local hgx)) (.inr (lookup_relabel_local hgx))
  exact eS_of (pe_lc hc hN pi ok hg' (tests_ok one) elt_ok hfs) (w.run B F G M σ H Q W tk S q x0)
/-- y = [..], one's own -/
theorem ws_lcO {x y : Str} {px py spos : Pos} {elt iter : Expr} {scope : Scope} {ifs : List Expr} {wi : TI} (j i : Nat) (hN : X.N.Nodup) (ok : BlkOk X.N X.env.scope scope [(x, i)]) (pi : PI X (.Name x px) iter wi) (w : WL X h wi i scope ifs elt δ (fun ds => P.nx (δ.set j (.own ds))) (P.ex δ)) (one : ifs = [] ∨ ∃ c, ifs = [c])
    (hsw : swapsWith (.ListComp elt [⟨.Name x px, iter, ifs, 0⟩] scope pos) (some (.Name y py)) spos.line X.env = pure true) (hy : X.N[j]? = some y := by rfl) (hyl : X.env.scope.names.lookup y = some .local := by rfl)
    (hgi : X.N[i]? = some x := by rfl) (hgx : scope.names.lookup x = some .local := by rfl) (hc : X.calm = true := by rfl) (hfs : ∀ y, foldedSetIterable iter X.env y = pure y := by intro _; rfl) :
    WS X h (.Assign [.Name y py] (.ListComp elt [⟨.Name x px, iter, ifs, 0⟩] scope pos) spos) δ P := .mk fun B F G M σ H D W tk S E => by
  have hg' : ∀ (s : Shared) (H : Hp) (C : Addr) (cl : List (Str × Addr)) (fp : List Addr), PG (X.blk s H scope (compEnvC scope cl C X.env) fp) (.Name x px) (gName i) := fun _ _ _ _ _ => pg_name hN hgi (Or.inl (lookup_relabel_local hgx)) (.inr (lookup_relabel_local hgx))
  refine sS_of (ps_setLc hc hN hy hyl hsw pi ok hg' (tests_ok one) elt_ok hfs) ?_
  refine w.run B F G M σ H _ W tk S (fun p H1 xs ds g1 S1 n hp nr k => ?_) (out_of E)
  exact E.nx _ _ H1 _ (SD.setO S S1 g1 n hp nr j) k
/-- y = [..], given -/
theorem ws_lcV {x y : Str} {px py spos : Pos} {elt iter : Expr} {scope : Scope} {ifs : List Expr} {wi : TI} (j i : Nat) (hN : X.N.Nodup) (ok : BlkOk X.N X.env.scope scope [(x, i)]) (pi : PI X (.Name x px) iter wi) (w : WL X h wi i scope ifs elt δ (fun ds => P.nx (δ.set j (.val (.lst ds)))) (P.ex δ)) (one : ifs = [] ∨ ∃ c, ifs = [c])
    (hsw : swapsWith (.ListComp elt [⟨.Name x px, iter, ifs, 0⟩] scope pos) (some (.Name y py)) spos.line X.env = pure true) (hy : X.N[j]? = some y := by rfl) (hyl : X.env.scope.names.lookup y = some .local := by rfl)
    (hgi : X.N[i]? = some x := by rfl) (hgx : scope.names.lookup x = some .local := by rfl) (hc : X.calm = true := by rfl) (hfs : ∀ y, foldedSetIterable iter X.env y = pure y := by intro _; rfl) :
    WS X h (.Assign [.Name y py] (.ListComp elt [⟨.Name x px, iter, ifs, 0⟩] scope pos) spos) δ P := .mk fun B F G M σ H D W tk S E => by
  have hg' : ∀ (s : Shared) (H : Hp) (C : Addr) (cl : List (Str × Addr)) (fp : List Addr), PG (X.blk s H scope (compEnvC scope cl C X.env) fp) (.Name x px) (gName i) := fun _ _ _ _ _ => pg_name hN hgi (Or.inl (lookup_relabel_local hgx)) (.inr (lookup_relabel_local hgx))
  refine sS_of (ps_setLc hc hN hy hyl hsw pi ok hg' (tests_ok one) elt_ok hfs) ?_
  refine w.run B F G M σ H _ W tk S (fun p H1 xs ds g1 S1 n hp nr k => ?_) (out_of E)
  exact E.nx _ _ H1 _ (S1.setV j (.lst (S.live.new n) hp (nr.wid fun _ z => .inl z))) k
end
end Uc

set_option Elab.async false
set_option linter.all false
set_option maxRecDepth 100000
set_option maxHeartbeats 4000000
/-! Bits, is None, in, sorted and min of texts, extend, own instances, defaults, while, loops over tuples and range(a, b). -/
namespace Uc
open PySem PySem.Spec PyProof.Rows L2
section
variable {X : Cx} {h : Option Hd} {δ : List Sl} {P : Po} {Φ : D → Prop} {Φb : Bool → Prop} {Ψ : Addr → List (Str × D) → Prop} {a b c e : Expr} {es : List Expr} {pos p : Pos} {st : Stmt} {rest body orelse : List Stmt}
/-! ### bits -/
theorem we_band (w : WE X h a δ (fun x => WE X h b δ (fun y => sI (fun _ _ => True) (fun i j => .int (Builtin.bitAnd i j)) x y Φ) Ψ) Ψ) : WE X h (.BinOp a .BitAnd b pos) δ Φ Ψ := we_op op_and opS_I0 w
theorem we_shr (w : WE X h a δ (fun x => WE X h b δ (fun y => sI (fun _ j => 0 ≤ j) (fun i j => .int (i / 2 ^ j.toNat)) x y Φ) Ψ) Ψ) : WE X h (.BinOp a .RShift b pos) δ Φ Ψ := we_op op_shr opS_I w
/-! ### is None -/
def sIsN : D → (Bool → Prop) → Prop
  | .non, Φ => Φ true
  | .at_ v, Φ => Φ (decide (v = .non))
  | _, Φ => Φ false
theorem sIsN_ok {K : PySem.W.Frag} {M : Addr → Prop} {H : Hp} {v : V} {d : D} {Φ : Bool → Prop} (r : Rp K M H v d) (k : sIsN d Φ) : Φ (decide (v = .non)) := by
  cases r <;> exact k
theorem wt_isN {j : Nat} {p' : Pos} (w : WE X h a δ (fun d => sIsN d Φb) Ψ) : WT X h (.Compare a [.Is] [.Constant .none j p'] pos) δ Φb Ψ := .mk fun B F G M σ H Q W tk S q x =>
  tS_of (pt_cmpR op_isN peS pe_non (nomark _)) (w.run B F G M σ H _ W tk S (fun v H1 d g1 S1 r1 k => ⟨rfl, _, rfl, q _ H1 g1 S1 (sIsN_ok r1 k)⟩) x)
theorem wt_notN {j : Nat} {p' : Pos} (w : WE X h a δ (fun d => sIsN d fun k => Φb (!k)) Ψ) : WT X h (.Compare a [.IsNot] [.Constant .none j p'] pos) δ Φb Ψ := .mk fun B F G M σ H Q W tk S q x =>
  tS_of (pt_cmpR op_notN peS pe_non (nomark _)) (w.run B F G M σ H _ W tk S (fun v H1 d g1 S1 r1 k => ⟨rfl, _, rfl, q _ H1 g1 S1 (sIsN_ok (Φ := fun k => Φb (!k)) r1 k)⟩) x)
theorem we_isN {j : Nat} {p' : Pos} (w : WE X h a δ (fun d => sIsN d fun k => Φ (.bl k)) Ψ) : WE X h (.Compare a [.Is] [.Constant .none j p'] pos) δ Φ Ψ := .mk fun B F G M σ H Q W tk S q x =>
  eS_of (pe_cmp (pc_isN peS) rfl) (w.run B F G M σ H _ W tk S (fun v H1 d g1 S1 r1 k => q _ H1 _ g1 S1 (.bl _) (sIsN_ok (Φ := fun k => Φ (.bl k)) r1 k)) x)
theorem we_notN {j : Nat} {p' : Pos} (w : WE X h a δ (fun d => sIsN d fun k => Φ (.bl (!k))) Ψ) : WE X h (.Compare a [.IsNot] [.Constant .none j p'] pos) δ Φ Ψ := .mk fun B F G M σ H Q W tk S q x =>
  eS_of (pe_cmp (pc_notN peS) rfl) (w.run B F G M σ H _ W tk S (fun v H1 d g1 S1 r1 k => q _ H1 _ g1 S1 (.bl _) (sIsN_ok (Φ := fun k => Φ (.bl (!k))) r1 k)) x)
/-! ### s in texts -/
theorem flat_strs {ss : List Str} : (ss.map V.str).all flatV = true := by
  rw [List.all_eq_true]
  intro x hx
  obtain ⟨s, _, rfl⟩ := List.mem_map.mp hx
  rfl
theorem inV_strs {s : Str} {ss : List Str} : inV (.str s) (ss.map V.str) = decide (s ∈ ss) := by
  unfold inV
  by_cases hs : s ∈ ss
  · rw [decide_eq_true hs, List.any_eq_true]
    exact ⟨.str s, List.mem_map.mpr ⟨s, hs, rfl⟩, by show (s == s) = true; simp⟩
  · rw [decide_eq_false hs, List.any_eq_false]
    intro x hx
    obtain ⟨t, ht, rfl⟩ := List.mem_map.mp hx
    show ¬ ((t == s) = true)
    intro z
    exact hs (by rw [← eq_of_beq z]; exact ht)
theorem rpA_strs {K : PySem.W.Frag} {M : Addr → Prop} {H : Hp} : ∀ {ss : List Str} {vs : List V}, RpA K M H vs (ss.map D.str) → vs = ss.map V.str
  | [], _, .nil => rfl
  | i :: is, _, .cons h t => by rw [rpA_strs t, h.str_inv]; rfl
def sInS (x y : D) (Φ : Bool → Prop) : Prop := ∃ (s : Str) (ss : List Str), x = .str s ∧ (y = .lst (ss.map D.str) ∨ y = .tup (ss.map D.str)) ∧ Φ (decide (s ∈ ss))
theorem opS_inS {B : Addr → Prop} {F : Addr → HO → Prop} {G : V → D → Prop} {M : Addr → Prop} {σ : L2.St} {H : Hp} {x y : V} {dx dy : D} {Q : VK} (r1 : Rp X.K M H x dx) (r2 : Rp X.K M H y dy) (k : sInS dx dy (fun b => Q (.bl b) H)) : rIn X.K false x y H Q := by
  obtain ⟨s, ss, rfl, hy, k⟩ := k
  obtain rfl := r1.str_inv
  rcases hy with rfl | rfl
  · obtain ⟨a, xs, rfl, n, e, s1⟩ := r2.lst_inv
    obtain rfl := rpA_strs s1
    exact ⟨a, _, rfl, .inl (SqL.of e), rfl, flat_strs, by rw [inV_strs]; exact k⟩
  · obtain ⟨a, xs, rfl, e, s1⟩ := r2.tup_inv
    obtain rfl := rpA_strs s1
    exact ⟨a, _, rfl, .inr e, rfl, flat_strs, by rw [inV_strs]; exact k⟩
theorem wt_in (w : WE X h a δ (fun x => WE X h b δ (fun y => sInS x y Φb) Ψ) Ψ) (hm : behindInMarks .In b = false := by rfl) : WT X h (.Compare a [.In] [b] pos) δ Φb Ψ := .mk fun B F G M σ H Q W tk S0 q x =>
  tS_of (pt_cmpR op_in_seq peS peS hm) (w.run B F G M σ H _ W tk S0 (fun v H1 d g1 S1 r1 w2 => w2.run B F G M σ H1 _ W tk S1 (fun u H2 d2 g2 S2 r2 k =>
    opS_inS (B := B) (F := F) (G := G) (σ := σ) (r1.mono (g2.gr S1.hand)) r2 (by
      obtain ⟨s, ss, e1, e2, k⟩ := k
      exact ⟨s, ss, e1, e2, _, rfl, q _ H2 (g1.trans g2) S2 k⟩)) (Out.on x g1)) x)
/-- .. in one's own list -/
theorem wt_inO {y : Str} {p2 : Pos} (j : Nat) (ss : List Str) (hj : δ[j]? = some (Sl.own (ss.map D.str))) (w : WE X h a δ (fun x => ∃ s, x = .str s ∧ Φb (decide (s ∈ ss))) Ψ) (hN : X.N[j]? = some y := by rfl)
    (hv : Vis X.env.scope y := by first | exact Or.inl rfl | exact Or.inr (Or.inl rfl) | exact Or.inr (Or.inr rfl)) (h1 : (y == ("__debug__" : Str)) = false := by decide) (h2 : (y == ("__classdict__" : Str)) = false := by decide) (hm : behindInMarks .In (.Name y p2) = false := by rfl) : WT X h (.Compare a [.In] [.Name y p2] pos) δ Φb Ψ := .mk fun B F G M σ H Q W tk S0 q x =>
  tS_of (pt_cmpR op_in_seq peS (pe_var hN hv h1 h2) hm) (w.run B F G M σ H _ W tk S0 (fun v H1 d g1 S1 r1 ⟨s, e1, k⟩ => by
    subst e1
    obtain rfl := r1.str_inv
    obtain ⟨q', xs, e1, mq, nq, hq, r, nb, nf⟩ := S1.own j _ hj
    obtain rfl := rpA_strs r
    exact ⟨_, e1, q', _, rfl, .inl (SqL.of hq), rfl, flat_strs, _, rfl, q _ H1 g1 S1 (by rw [inV_strs]; exact k)⟩) x)
/-! ### sorted -/
def pyOf (d : D) : PyData := d.py.getD .none
def pyLe (a b : D) : Bool := PySem.W.dataLe false pyOf a b
def rSortD (K : PySem.W.Frag) : List V → Hp → VK → Prop := fun vs H Q => ∃ (a : Addr) (bs : List (V × D)), vs = [.ref a] ∧ SqL K H a (bs.map (·.1)) ∧ (∀ b ∈ bs, Dp K H b.1 (pyOf b.2)) ∧ PySem.W.AllAlike (bs.map fun b => pyOf b.2) ∧ PySem.W.Sortable (bs.map fun b => pyOf b.2) ∧ bs.length ≤ 100000 ∧
  (∀ b ∈ bs, (pyOf b.2).depth ≤ 60) ∧ ∀ p, H p = none → Q (.ref p) (upd H p (.lst ((bs.mergeSort (PySem.W.dataLe false fun b => pyOf b.2)).map (·.1))))
theorem eachIs_vals {R : Value → V × D → Prop} (hR : ∀ v b, R v b → RelV b.1 v) : ∀ {out : List Value} {bs : List (V × D)}, PySem.W.EachIs R out bs → Vals (bs.map (·.1)) out
  | _, _, .nil => .nil
  | _, _, .cons h t => .cons (hR _ _ h) (eachIs_vals hR t)
theorem cr_sortD {n : Nat} (hr : Room n X.A) : CallR X (.builtin "sorted") (rSortD X.K) := by
  intro pins s σ H vs us Q I r hh
  obtain ⟨a, bs, rfl, hs, hd, al, so, hl, dp, q⟩ := hh
  obtain ⟨its, rv, hl2, _⟩ := I.list hs
  rw [Vals.ref1 r]
  have hun := hr.units
  have each : ∀ (bs : List (V × D)) (its : List Value), Vals (bs.map (·.1)) its → PySem.W.EachIs (fun v b => RelV b.1 v) its bs := fun bs => by
    induction bs with
    | nil => intro its r; cases r; exact .nil
    | cons b bs ih => intro its r; cases r with | cons h t => exact .cons h (ih _ t)
  have e1 := each bs its rv
  have each2 : ∀ (bs : List (V × D)) (its : List Value), (∀ b ∈ bs, Dp X.K H b.1 (pyOf b.2)) → Vals (bs.map (·.1)) its → PySem.W.EachIs (fun v b => ∃ as, Reads s.heap v (pyOf b.2) as) its bs := fun bs => by
    induction bs with
    | nil => intro its _ r; cases r; exact .nil
    | cons b bs ih => intro its hd r; cases r with | cons h t => exact .cons (Dp.reads I _ _ _ (hd b List.mem_cons_self) h) (ih _ (fun x hx => hd x (List.mem_cons_of_mem _ hx)) t)
  have e2 := each2 bs its hd rv
  refine PySem.W.sorted_data (enc := fun b : V × D => pyOf b.2) (R := fun v b => RelV b.1 v) (by simpa using hl2.isList) e1 e2 al so (szOf hl) (fun b hb => by have := dp b hb; omega) fun out h1 h2 => ?_
  obtain ⟨ep, he'⟩ := PyProof.Rows.sortedAll_at s.heap its (List.toArray out)
  have hv := eachIs_vals (fun _ _ z => z) h2
  have hlen : ((bs.mergeSort (PySem.W.dataLe false fun b => pyOf b.2)).map (·.1)).length ≤ sizeLine := by rw [List.length_map, List.length_mergeSort]; exact szOf hl
  exact ⟨.ref _, upd H (s.heap.objs.size + 1) (.lst ((bs.mergeSort (PySem.W.dataLe false fun b => pyOf b.2)).map (·.1))), I.laid (t' := s.toks) (fun _ _ => PyProof.Rows.sortedAll_old) (Nat.le_succ _) ⟨hlen, out, ep, hv, by simpa using he'⟩, rfl, q _ (I.hok.fresh (Nat.le_succ _))⟩
/-- sorted of a list -/
def sSorted : List D → (D → Prop) → Prop
  | [.lst ds], Φ => (∀ d ∈ ds, ∃ p, d.py = some p ∧ p.depth ≤ 60) ∧ PySem.W.AllAlike (ds.map pyOf) ∧ PySem.W.Sortable (ds.map pyOf) ∧ ds.length ≤ 100000 ∧ Φ (.lst (ds.mergeSort pyLe))
  | _, _ => False
theorem rpA_zip {K : PySem.W.Frag} {M : Addr → Prop} {H : Hp} : ∀ {vs : List V} {ds : List D}, RpA K M H vs ds → ∃ bs : List (V × D), bs.map (·.1) = vs ∧ bs.map (·.2) = ds ∧ ∀ b ∈ bs, Rp K M H b.1 b.2
  | _, _, .nil => ⟨[], rfl, rfl, fun b hb => nomatch hb⟩
  | _, _, .cons (v := v) (d := d) h t => by
    obtain ⟨bs, e1, e2, hb⟩ := rpA_zip t
    refine ⟨(v, d) :: bs, by rw [List.map_cons, e1], by rw [List.map_cons, e2], fun b hx => ?_⟩
    rcases List.mem_cons.mp hx with rfl | hx
    · exact h
    · exact hb b hx
theorem rpA_of {K : PySem.W.Frag} {M : Addr → Prop} {H : Hp} : ∀ {bs : List (V × D)}, (∀ b ∈ bs, Rp K M H b.1 b.2) → RpA K M H (bs.map (·.1)) (bs.map (·.2))
  | [], _ => .nil
  | b :: bs, hb => .cons (hb b List.mem_cons_self) (rpA_of fun x hx => hb x (List.mem_cons_of_mem _ hx))
theorem calS_sorted : CalS X h (rSortD X.K) sSorted := fun B F G M σ δ H vs ds Q Φ S r k q => by
  match ds, k with
  | [.lst ds], ⟨k1, k2, k3, k4, k5⟩ =>
    obtain ⟨v, rfl, r5⟩ := rpA_one r
    obtain ⟨l, xs, rfl, n1, e1, s1⟩ := r5.lst_inv
    obtain ⟨bs, eb1, eb2, hb⟩ := rpA_zip s1
    have em : bs.map (fun b => pyOf b.2) = ds.map pyOf := by rw [← eb2, List.map_map]; rfl
    have hpy : ∀ b ∈ bs, ∃ p, b.2.py = some p ∧ p.depth ≤ 60 := fun b hx => k1 b.2 (by rw [← eb2]; exact List.mem_map.mpr ⟨b, hx, rfl⟩)
    refine ⟨l, bs, rfl, by rw [eb1]; exact SqL.of e1, fun b hx => ?_, by rw [em]; exact k2, by rw [em]; exact k3, by rw [← List.length_map (f := fun b : V × D => b.2), eb2]; exact k4, fun b hx => ?_, fun p hp => ?_⟩
    · obtain ⟨p, ep, _⟩ := hpy b hx
      have : pyOf b.2 = p := by unfold pyOf; rw [ep]; rfl
      rw [this]
      exact rp_dp (hb b hx) ep
    · obtain ⟨p, ep, hd⟩ := hpy b hx
      have : pyOf b.2 = p := by unfold pyOf; rw [ep]; rfl
      rw [this]
      exact hd
    · have es : (bs.mergeSort (PySem.W.dataLe false fun b : V × D => pyOf b.2)).map (·.2) = ds.mergeSort pyLe := by
        rw [← eb2]
        exact PySem.W.sort_maps (fun b : V × D => b.2) fun x _ y _ => rfl
      have rs : RpA X.K M H ((bs.mergeSort (PySem.W.dataLe false fun b : V × D => pyOf b.2)).map (·.1)) (ds.mergeSort pyLe) := by
        rw [← es]
        exact rpA_of fun b hx => hb b (List.mem_mergeSort.mp hx)
      exact Ans.lst q S hp rs k5
theorem we_sorted {n : Nat} (hr : Room n X.A) {x : Str} (hx : x = "sorted") (hm : X.mg x = none) (w : WA X h (e :: es) δ (fun ds => sSorted ds Φ) Ψ) (hg : Gl X x := by rfl) (hn : x ≠ "__name__" := by decide) (hdb : (x == ("__debug__" : Str)) = false := by decide)
    (he : starEach (e :: es) X.env = (false, eval e X.env) :: starEach es X.env := by rfl) (hpl : (backTo pos (starEach es X.env)).any (·.1) = false := by rfl) : WE X h (.Call (.Name x p) (e :: es) [] pos) δ Φ Ψ :=
  we_callB (cr_sortD hr) calS_sorted hm w (by rw [hx]; decide +kernel) hg hn hdb he hpl
end
end Uc

set_option Elab.async false
set_option linter.all false
set_option maxRecDepth 100000
set_option maxHeartbeats 4000000
namespace Uc
open PySem PySem.Spec PyProof.Rows L2
section
variable {X : Cx} {h : Option Hd} {δ : List Sl} {P : Po} {Φ : D → Prop} {Φb : Bool → Prop} {Ψ : Addr → List (Str × D) → Prop} {a b c e e2 : Expr} {es : List Expr} {pos p : Pos} {st : Stmt} {rest body orelse : List Stmt}
/-! ### the least of texts -/
theorem minD_strs : ∀ (ys : List Str) (y : Str), ∃ m, m ∈ y :: ys ∧ PySem.W.minD (.str y) (ys.map .str) = .str m ∧ ∀ s ∈ y :: ys, m.cps.toList ≤ s.cps.toList
  | [], y => ⟨y, List.mem_cons_self, rfl, fun s hs => by rw [List.mem_singleton.mp hs]; exact List.le_refl _⟩
  | z :: ys, y => by
    by_cases hz : z.cps.toList < y.cps.toList
    · obtain ⟨m, hm, e, hl⟩ := minD_strs ys z
      refine ⟨m, List.mem_cons_of_mem _ hm, ?_, fun s hs => ?_⟩
      · rw [← e]
        show PySem.W.minD (if PySem.W.dataLt (.str z) (.str y) then .str z else .str y) (ys.map .str) = _
        rw [PySem.W.dataLt_str, decide_eq_true hz]
        rfl
      · rcases List.mem_cons.mp hs with rfl | hs
        · exact List.le_trans (hl z List.mem_cons_self) (List.le_of_lt hz)
        · exact hl s hs
    · obtain ⟨m, hm, e, hl⟩ := minD_strs ys y
      refine ⟨m, ?_, ?_, fun s hs => ?_⟩
      · rcases List.mem_cons.mp hm with rfl | hm
        · exact List.mem_cons_self
        · exact List.mem_cons_of_mem _ (List.mem_cons_of_mem _ hm)
      · rw [← e]
        show PySem.W.minD (if PySem.W.dataLt (.str z) (.str y) then .str z else .str y) (ys.map .str) = _
        rw [PySem.W.dataLt_str, decide_eq_false hz]
        rfl
      · rcases List.mem_cons.mp hs with rfl | hs
        · exact hl s List.mem_cons_self
        · rcases List.mem_cons.mp hs with rfl | hs
          · exact List.le_trans (hl y List.mem_cons_self) (List.not_lt.mp hz)
          · exact hl s (List.mem_cons_of_mem _ hs)
theorem alike_strs (ss : List Str) : PySem.W.AlikeAll (ss.map PyData.str) := by
  refine ⟨fun x hx y hy => ?_, fun x hx z => ?_⟩
  · obtain ⟨s, _, rfl⟩ := List.mem_map.mp hx
    obtain ⟨t, _, rfl⟩ := List.mem_map.mp hy
    rfl
  · obtain ⟨s, _, rfl⟩ := List.mem_map.mp hx
    cases z
theorem depth_strs : ∀ ss : List Str, PyData.depthAll (ss.map PyData.str) = 0
  | [] => by unfold PyData.depthAll; rfl
  | s :: ss => by
    show PyData.depthAll (.str s :: ss.map .str) = 0
    unfold PyData.depthAll
    rw [depth_strs ss]
    unfold PyData.depth
    rfl
theorem dpA_strs {K : PySem.W.Frag} {H : Hp} : ∀ ss : List Str, DpAll K H (ss.map V.str) (ss.map PyData.str)
  | [] => .nil
  | s :: ss => .cons (.str s) (dpA_strs ss)
def rMinS (K : PySem.W.Frag) : List V → List V → Hp → VK → Prop := fun vs zs H Q => ∃ (a : Addr) (ss : List Str) (d : V), vs = [.ref a] ∧ zs = [d] ∧ SqL K H a (ss.map V.str) ∧ (ss = [] → Q d H) ∧ ∀ m, m ∈ ss → (∀ s ∈ ss, m.cps.toList ≤ s.cps.toList) → Q (.str m) H
theorem cr_minS {n : Nat} (hr : Room n X.A) : CallRK X (.builtin "min") [Str.ofString "default"] (rMinS X.K) := by
  intro pins s σ H vs zs us ws Q I r rz hh
  obtain ⟨a, ss, d, rfl, rfl, hs, q0, q⟩ := hh
  obtain ⟨its, rv, hl2, _⟩ := I.list hs
  obtain ⟨w1, rfl, e1⟩ := vals1 rz
  rw [Vals.ref1 r]
  have hun := hr.units
  obtain ⟨as, hra⟩ := Dp.readsAll I (ss.map PyData.str) _ its (dpA_strs ss) rv
  refine PySem.W.min_list_default (vs := its.toArray) (xs := ss.map .str) hr.hd (by simpa using hl2.isList) (by simpa using hra) (alike_strs ss) (by rw [depth_strs]; omega) (fun he h' tk hk => ?_) fun y ys i v h' tk bs he hv hrd hk => ?_
  · refine ⟨d, H, I.kept hk, e1, q0 ?_⟩
    cases ss with
    | nil => rfl
    | cons _ _ => cases he
  · cases ss with
    | nil => cases he
    | cons z zs =>
      cases he
      obtain ⟨m, hm, em, hle⟩ := minD_strs zs z
      rw [em] at hrd
      cases hrd
      exact ⟨.str m, H, I.kept hk, ⟨_, rfl⟩, q m hm hle⟩
/-- min(a list of texts, default = e) -/
theorem we_minS {n : Nat} (hr : Room n X.A) {x : Str} {kpos : Pos} {nm : Str} (hx : x = "min") (hm : X.mg x = none) (w : WE X h e δ (fun d => ∃ ss : List Str, d = .lst (ss.map D.str) ∧ WE X h e2 δ (fun d2 => (ss = [] → Φ d2) ∧ ∀ m, m ∈ ss → (∀ s ∈ ss, m.cps.toList ≤ s.cps.toList) → Φ (.str m)) Ψ) Ψ) (hg : Gl X x := by rfl) (hn : x ≠ "__name__" := by decide) (hdb : (x == ("__debug__" : Str)) = false := by decide) (hs : starEach [e] X.env = (false, eval e X.env) :: starEach [] X.env := by rfl)
    (he : backTo pos (starEach [e] X.env) = (false, eval e X.env) :: backTo pos (starEach [] X.env) := by rfl) (hpl : (backTo pos (starEach [e] X.env)).any (·.1) = false := by rfl)
    (hall : (backToKw pos (keywordEach [⟨some nm, e2, kpos⟩] X.env)).all (·.1.isSome) = true := by rfl) (hnone : (backToKw pos (keywordEach [⟨some nm, e2, kpos⟩] X.env)).any (·.1.isNone) = false := by rfl) (hks : (backToKw pos (keywordEach [⟨some nm, e2, kpos⟩] X.env)).filterMap (·.1) = [Str.ofString "default"] := by rfl) :
    WE X h (.Call (.Name x p) [e] [⟨some nm, e2, kpos⟩] pos) δ Φ Ψ := .mk fun B F G M σ H Q W tk S0 q x0 => by
  refine eS_of (pe_callBK (cr_minS hr) hg hm (by rw [hx]; decide +kernel) (pa_cons peS pa_nil hs) (pk_cons peS pk_nil) hn hdb he hpl hall hnone hks) (w.run B F G M σ H _ W tk S0 (fun v H1 d g1 S1 r1 ⟨ss, e1, w2⟩ => ?_) x0)
  subst e1
  refine w2.run B F G M σ H1 _ W tk S1 (fun v2 H2 d2 g2 S2 r2 ⟨k0, k⟩ => ?_) (Out.on x0 g1)
  obtain ⟨l, xs, rfl, n1, e1, s1⟩ := (r1.mono (g2.gr S1.hand)).lst_inv
  obtain rfl := rpA_strs s1
  exact ⟨l, ss, v2, rfl, rfl, SqL.of e1, fun z => q _ H2 _ (g1.trans g2) S2 r2 (k0 z), fun m hm hle => q _ H2 _ (g1.trans g2) S2 (.str m) (k m hm hle)⟩
/-! ### x.extend(a list), x one's own -/
theorem ws_ext {x m : Str} {p1 p2 p3 : Pos} (i : Nat) (ds : List D) (hi : δ[i]? = some (Sl.own ds)) (w : WE X h e δ (fun d => ∃ es, d = .lst es ∧ ds.length + es.length ≤ 100000 ∧ P.nx (δ.set i (.own (ds ++ es)))) (P.ex δ))
    (hpe : PE X (.Call (.Attribute (.Name x p1) m p2) [e] [] p3) (tBM X.K "list" rExtend (tVar i) (tCons (eS X e) tNil)) := by exact pe_bm PySem.F.plainAttrs_list PySem.F.slot_list_extend PySem.F.type_list_extend mt_extend (pv _) (pa_cons peS pa_nil))
    (hs : swapsWith (.Call (.Attribute (.Name x p1) m p2) [e] [] p3) none pos.line X.env = pure false := by rfl) :
    WS X h (.Expr (.Call (.Attribute (.Name x p1) m p2) [e] [] p3) pos) δ P := .mk fun B F G M σ H D W tk S E => by
  obtain ⟨q, xs, e1, mq, nq, hq, r, nb, nf⟩ := S.own i ds hi
  refine sS_of (ps_expr hpe hs) ⟨_, e1, .inl ⟨rfl, xs, SqL.of hq⟩, w.run B F G M σ H _ W tk S (fun v H1 d g1 S1 r1 ⟨es, ed, hl, k⟩ => ?_) (out_of E)⟩
  subst ed
  have hq1 := g1 q _ nq hq
  obtain ⟨l, ys, rfl, n1, el, s1⟩ := r1.lst_inv
  exact ⟨q, l, xs, ys, rfl, rfl, hq1, el, szOf (by rw [r.length, s1.length]; exact hl), E.nx M σ _ _ (S1.chg (xs := xs) hi e1 ((r.mono (g1.gr S.hand)).append s1)) k⟩
/-! ### own instances -/
/-- what an own __init__ that stores its arguments promises -/
def spIns (K : PySem.W.Frag) (ns : List Str) : Sp := fun vs H Q _ => ∃ (a C dx : Addr) (ws : List V), vs = .ref a :: ws ∧ ws.length = ns.length ∧ Cls K C ∧ (∀ f ∈ ns, NoAttr K C f) ∧ H a = some (.ins C dx []) ∧
  ∀ (H' : Hp), (∀ b o, b ≠ a → H b = some o → H' b = some o) → H' a = some (.ins C dx (ns.zip ws)) → Q .non H'
theorem we_new {x : Str} {C fI : Addr} {k : Nat} {fd : FuncData} {ps : List Str} {ns : List Str} (Mk0 : Mk X.K C fI) (hc : Cls X.K C) (hf : ∀ f ∈ ns, NoAttr X.K C f)
    (F : FnOk X.prog X.w X.K X.mg X.base (L2.CX X.prog X.w) k fI fd ps (spIns X.K ns)) (hr : Room (k + 1) X.A) (hb : Binds X.K fd ps []) (hm : X.mg x = some (.ref C))
    (w : WA X h (e :: es) δ (fun ds => ds.length = ns.length ∧ Φ (.ins C (ns.zip ds))) Ψ) (hg : Gl X x := by rfl) (hdb : (x == ("__debug__" : Str)) = false := by decide) (he : starEach (e :: es) X.env = (false, eval e X.env) :: starEach es X.env := by rfl) (hpl : (backTo pos (starEach es X.env)).any (·.1) = false := by rfl) :
    WE X h (.Call (.Name x p) (e :: es) [] pos) δ Φ Ψ := .mk fun B F0 G M σ H Q W tk S0 q x0 => by
  refine eS_of (pe_make (E := E0) Mk0 F hr hg hm hb .nil passL paS hdb he hpl) (w.run B F0 G M σ H _ W tk S0 (fun vs H1 ds g1 S1 r1 ⟨h1, kk⟩ => ?_) x0)
  intro x dx hx hdx ne
  have hl := r1.length
  refine ⟨x, C, dx, vs, by rw [List.append_nil], by omega, hc, hf, upd_same, fun H' kp hx' => ⟨rfl, ?_⟩⟩
  have all : ∀ b o, H1 b = some o → H' b = some o := fun b o z => kp b o (ne_of_none z hx) (by rw [upd_ne (ne_of_none z hx), upd_ne (ne_of_none z hdx)]; exact z)
  have r1' := r1.mono (Gh.gr S1.hand (Gh.all (h := h) all))
  exact q _ H' _ (g1.trans (Gh.all all)) (S1.all all) (.ins (S1.live.new hx) hx' (rpF_zip r1')) kk
/-- e.f -/
theorem we_fld {f : Str} (w : WE X h e δ (fun d => ∃ C fs dv, d = .ins C fs ∧ Cls X.K C ∧ NoAttr X.K C f ∧ fs.lookup f = some dv ∧ Φ dv) Ψ) (hb : attributeBase e f X.env (eval e X.env) = eval e X.env := by rfl) : WE X h (.Attribute e f pos) δ Φ Ψ := .mk fun B F G M σ H Q W tk S q x =>
  eS_of (pe_fld peS hb) (w.run B F G M σ H _ W tk S (fun v H1 d g1 S1 r1 ⟨C, fs, dv, e1, hc, hf, hl, k⟩ => by
    subst e1
    obtain ⟨a, dx, fv, rfl, na, ha, rf⟩ := r1.ins_inv
    obtain ⟨u, hu, ru⟩ := rf.look hl
    exact ⟨a, C, dx, fv, u, rfl, ha, hc, hf, hu, Ans.now (Ans.on q g1) S1 ru k⟩) x)
/-- {}: any value -/
theorem we_dnew (k : ∀ v, Φ (.at_ v)) : WE X h (.Dict [] [] pos) δ Φ Ψ := .mk fun B F G M σ H Q W tk S q _ =>
  eS_of pe_dnewK fun p hp => q _ _ _ (Gh.new hp) (S.all (new_all hp)) (.at_ _) (k _)
/-! ### calls with defaults, with a keyword -/
theorem we_callD {x : Str} {k : Nat} {f : Addr} {fd : FuncData} {ps : List Str} {S : PSp} {dvs : List V} {dus : List Value} {dds : List D} (h' : Option Hd) (hh : h' = h ∨ h' = none) (F : FnOk X.prog X.w X.K X.mg X.base (L2.CX X.prog X.w) k f fd ps (spD X.K S)) (hr : Room k X.A) (hm : X.mg x = some (.ref f)) (hk : PySem.W.keepIn X.K (.ref f) = true) (hb : Binds X.K fd ps dus) (hd : Vals dvs dus)
    (hdd : ∀ M H, RpA X.K M H dvs dds) (w : WA X h (e :: es) δ (fun ds => S h' (ds ++ dds) Φ fun _ _ => False) Ψ) (hg : Gl X x := by rfl) (hdb : (x == ("__debug__" : Str)) = false := by decide) (he : starEach (e :: es) X.env = (false, eval e X.env) :: starEach es X.env := by rfl) (hpl : (backTo pos (starEach es X.env)).any (·.1) = false := by rfl) :
    WE X h (.Call (.Name x p) (e :: es) [] pos) δ Φ Ψ := .mk fun B F0 G M σ H Q W tk S0 q x0 => by
  refine eS_of (pe_call (E := E0) F hr hg hm hk hb hd passL paS hdb he hpl) (w.run B F0 G M σ H _ W tk S0 (fun vs H1 ds g1 S1 r1 s1 => ?_) x0)
  have hand' : HandOk h' M H1 := by
    rcases hh with z | z
    · rw [z]; exact S1.hand
    · rw [z]; exact fun p y => nomatch y
  have back : ∀ {H' : Hp}, Gh h' H1 H' → HandOk h' M H' → Gh h H1 H' ∧ HandOk h M H' := fun {H'} g k => by
    rcases hh with z | z
    · rw [z] at g k; exact ⟨g, k⟩
    · rw [z] at g; exact ⟨g.none, handOk_all S1.hand fun b o y => g b o (fun q w => nomatch w) y⟩
  exact ⟨h', M, ds ++ dds, Φ, fun _ _ => False, r1.append (hdd M H1), hand', S1.live, s1, fun v H' d g k r f => q v H' d (g1.trans (back g k).1) (S1.step (back g k).1 (back g k).2) r f,
    fun C od H' fs g k ed f => f.elim⟩
theorem we_callK1 {x nm : Str} {kpos : Pos} {k : Nat} {f : Addr} {fd : FuncData} {ps : List Str} {S : PSp} {g : List Value → List Value → List Value} {gV : List V → List V → List V} (h' : Option Hd) (hh : h' = h ∨ h' = none) (F : FnOk X.prog X.w X.K X.mg X.base (L2.CX X.prog X.w) k f fd ps (spD X.K S)) (hr : Room k X.A) (hm : X.mg x = some (.ref f)) (hk : PySem.W.keepIn X.K (.ref f) = true)
    (hb : KBn X.K fd ps 1 [nm] g gV) (hgV : ∀ u v, gV [u] [v] = [u, v])
    (w : WE X h e δ (fun d => WE X h e2 δ (fun d2 => S h' [d, d2] Φ fun _ _ => False) Ψ) Ψ) (hg : Gl X x := by rfl) (hdb : (x == ("__debug__" : Str)) = false := by decide) (he : starEach [e] X.env = (false, eval e X.env) :: starEach [] X.env := by rfl)
    (hall : (backToKw pos (keywordEach [⟨some nm, e2, kpos⟩] X.env)).all (·.1.isSome) = true := by rfl) (hks : (backToKw pos (keywordEach [⟨some nm, e2, kpos⟩] X.env)).filterMap (·.1) = [nm] := by rfl)
    (hpl : ((backTo pos (starEach [e] X.env)).any (·.1) || (backToKw pos (keywordEach [⟨some nm, e2, kpos⟩] X.env)).any (·.1.isNone)) = false := by rfl) :
    WE X h (.Call (.Name x p) [e] [⟨some nm, e2, kpos⟩] pos) δ Φ Ψ := .mk fun B F0 G M σ H Q W tk S0 q x0 => by
  refine eS_of (pe_callN (E := E0) F hr hg hm hk hb passL (pa_cons peS pa_nil he) (pk_cons peS pk_nil) hall hks hdb he hpl) (w.run B F0 G M σ H _ W tk S0 (fun v H1 d g1 S1 r1 w2 => ?_) x0)
  refine w2.run B F0 G M σ H1 _ W tk S1 (fun v2 H2 d2 g2 S2 r2 s1 => ?_) (Out.on x0 g1)
  have hand' : HandOk h' M H2 := by
    rcases hh with z | z
    · rw [z]; exact S2.hand
    · rw [z]; exact fun p y => nomatch y
  have back : ∀ {H' : Hp}, Gh h' H2 H' → HandOk h' M H' → Gh h H2 H' ∧ HandOk h M H' := fun {H'} g k => by
    rcases hh with z | z
    · rw [z] at g k; exact ⟨g, k⟩
    · rw [z] at g; exact ⟨g.none, handOk_all S2.hand fun b o y => g b o (fun q w => nomatch w) y⟩
  refine ⟨rfl, rfl, ?_⟩
  rw [hgV]
  exact ⟨h', M, [d, d2], Φ, fun _ _ => False, .cons (r1.mono (g2.gr S1.hand)) (.cons r2 .nil), hand', S2.live, s1, fun v H' d g k r f => q v H' d ((g1.trans g2).trans (back g k).1) (S2.step (back g k).1 (back g k).2) r f,
    fun C od H' fs g k ed f => f.elim⟩
/-! ### while -/
theorem ws_while (I : List Sl → Prop) (μ : List Sl → Nat) (hp : PassesOwn (model X.prog X.w) X.A X.env X.xe) (i0 : I δ)
    (turn : ∀ δ', I δ' → WT X h c δ' (fun b => if b = true then WB X h body δ' { P with nx := fun δ2 => I δ2 ∧ μ δ2 < μ δ', ct := fun δ2 => I δ2 ∧ μ δ2 < μ δ', bk := P.nx } else P.nx δ') (P.ex δ')) : WS X h (.While c body [] pos) δ P := .mk fun B F G M σ H D W tk S E => by
  refine sS_of (ps_while hp ptS pbS) ?_
  refine ⟨fun m σ H => ∃ M δ', SD X.K h B F G M H σ δ' ∧ I δ' ∧ m = μ δ', ⟨_, M, δ, S, i0, rfl⟩, ?_⟩
  rintro m σ1 H1 ⟨M1, δ1, S1, hI, rfl⟩
  refine (turn δ1 hI).run B F G M1 σ1 H1 _ W tk S1 (fun k H2 g2 S2 f => ?_) (fun C od H' fs g S' ed f => E.ex M1 σ1 H' δ1 C od fs S' ed f)
  cases k with
  | false => exact E.nx M1 σ1 H2 δ1 S2 f
  | true =>
    show ∃ N : L2.St → Hp → Prop, _ ∧ bS X body _ σ1 H2
    refine ⟨fun σ' H' => ∃ M' δ', SD X.K h B F G M' H' σ' δ' ∧ I δ' ∧ μ δ' < μ δ1, fun σ' H' ⟨M', δ', S', hI', hl⟩ => ⟨_, hl, M', δ', S', hI', rfl⟩, ?_⟩
    exact f.run B F G M1 σ1 H2 _ W tk S2 ⟨fun M' σ' H' δ' S' k => ⟨M', δ', S', k⟩, E.rt, E.nx, fun M' σ' H' δ' S' k => ⟨M', δ', S', k⟩, E.ex⟩
/-! ### for over range(a, b), over a tuple -/
theorem ws_forR2 {x : Str} {px pr pc : Pos} (i : Nat) (I : Int → List Sl → Prop) (hp : PassesOwn (model X.prog X.w) X.A X.env X.xe) (hN : X.N.Nodup) (hm : X.mg "range" = none)
    (w : WA X h [a, b] δ (fun ds => ∃ lo hi : Int, ds = [.int lo, .int hi] ∧ -1000000 ≤ lo ∧ lo ≤ 1000000 ∧ -1000000 ≤ hi ∧ hi ≤ 1000000 ∧ I lo δ ∧ (∀ (k : Int) (δ' : List Sl), lo ≤ k → k < hi → I k δ' → WB X h body (δ'.set i (.val (.int k))) { P with nx := I (k + 1), ct := I (k + 1), bk := P.nx }) ∧ ∀ δ' k, I k δ' → (hi ≤ lo → k = lo) → (lo ≤ hi → k = hi) → P.nx δ') (P.ex δ))
    (hc : X.calm = true := by rfl) (hg : Gl X "range" := by rfl) (hi : X.N[i]? = some x := by rfl) (hx : Loc X.env.scope x := by first | exact Or.inl rfl | exact Or.inr rfl) (hf : X.fn x = true ∨ X.env.scope.names.lookup x = some .local := by first | exact .inl rfl | exact .inr rfl)
    (hs : starEach [a, b] X.env = [(false, eval a X.env), (false, eval b X.env)] := by rfl) (hs2 : starEach [b] X.env = [(false, eval b X.env)] := by rfl) (hfs : ∀ y, foldedSetIterable (.Call (.Name "range" pr) [a, b] [] pc) X.env y = pure y := by intro _; rfl) :
    WS X h (.For (.Name x px) (.Call (.Name "range" pr) [a, b] [] pc) body [] pos) δ P := .mk fun B F G M σ H D W tk S E => by
  refine sS_of (ps_for hp hc (pi_range2 hg hm paS hs hs2) (pg_name hN hi hx hf) pbS hfs) ?_
  refine w.run B F G M σ H _ W tk S (fun vs H1 ds g1 S1 r1 ⟨lo, hi', e1, b1, b2, b3, b4, i0, turn, fin⟩ => ?_) (out_of E)
  subst e1
  obtain ⟨v1, v2, rfl, q1, q2⟩ := rpA_two r1
  obtain rfl := q1.int_inv
  obtain rfl := q2.int_inv
  refine ⟨lo, hi', rfl, ⟨by omega, by omega, by omega, by omega⟩, for_range (lo := lo) (n := (hi' - lo).toNat) (fun k σ' H' => ∃ M' δ', SD X.K h B F G M' H' σ' δ' ∧ I (lo + (k : Int)) δ') ⟨M, δ, S1, by simpa using i0⟩ (fun k σ' H' hk hI => ?_) (fun σ' H' hI => ?_)⟩
  · obtain ⟨M', δ', S', hI⟩ := hI
    have t := turn (lo + (k : Int)) δ' (by omega) (by omega) hI
    have ek : lo + ((k + 1 : Nat) : Int) = lo + (k : Int) + 1 := by omega
    refine t.run B F G M' _ H' _ W tk (S'.setV i (.int _)) ⟨fun M2 σ2 H2 δ2 S2 k2 => ⟨M2, δ2, S2, ?_⟩, E.rt, E.nx, fun M2 σ2 H2 δ2 S2 k2 => ⟨M2, δ2, S2, ?_⟩, E.ex⟩
    · rw [ek]; exact k2
    · rw [ek]; exact k2
  · obtain ⟨M', δ', S', hI⟩ := hI
    exact E.nx M' σ' H' δ' S' (fin δ' _ hI (fun z => by omega) (fun z => by omega))
theorem ws_forT {x : Str} {px : Pos} (i : Nat) (I : Nat → List Sl → Prop) (hp : PassesOwn (model X.prog X.w) X.A X.env X.xe) (hN : X.N.Nodup)
    (w : WE X h e δ (fun d => ∃ ds, d = .tup ds ∧ I 0 δ ∧ (∀ (k : Nat) (δ' : List Sl) (d : D), ds[k]? = some d → I k δ' → WB X h body (δ'.set i (.val d)) { P with nx := I (k + 1), ct := I (k + 1), bk := P.nx }) ∧ ∀ δ', I ds.length δ' → P.nx δ') (P.ex δ))
    (hc : X.calm = true := by rfl) (hi : X.N[i]? = some x := by rfl) (hx : Loc X.env.scope x := by first | exact Or.inl rfl | exact Or.inr rfl) (hf : X.fn x = true ∨ X.env.scope.names.lookup x = some .local := by first | exact .inl rfl | exact .inr rfl)
    (hfs : ∀ y, foldedSetIterable e X.env y = pure y := by intro _; rfl) : WS X h (.For (.Name x px) e body [] pos) δ P := .mk fun B F G M σ H D W tk S E => by
  refine sS_of (ps_for hp hc (pi_tup peS) (pg_name hN hi hx hf) pbS hfs) ?_
  refine w.run B F G M σ H _ W tk S (fun v H1 d g1 S1 r1 ⟨ds, e1, i0, turn, fin⟩ => ?_) (out_of E)
  subst e1
  obtain ⟨q, vs, Fx, rfl, hln, sq, S1F⟩ := S1.addT r1
  have E' := ends_sub (F' := fun b o => F b o ∨ Fx b o) (G' := fun u e => G u e ∨ ∃ k : Nat, vs[k]? = some u ∧ ds[k]? = some e) E (fun b o z => .inl z) fun u e z => .inl z
  refine ⟨q, rfl, ⟨vs, sq _ fun b o z => S1F.fk b o (.inr z)⟩, for_tup (xs := vs) (fun k σ' H' => ∃ M' δ', SD X.K h B (fun b o => F b o ∨ Fx b o) (fun u e => G u e ∨ ∃ k : Nat, vs[k]? = some u ∧ ds[k]? = some e) M' H' σ' δ' ∧ I k δ') ⟨M, δ, S1F, i0⟩ (fun k σ' H' _ ⟨M', δ', S', _⟩ => sq _ fun b o z => S'.fk b o (.inr z)) (fun k v σ' H' hk hI => ?_) (fun σ' H' hI => ?_)⟩
  · obtain ⟨M', δ', S', hI⟩ := hI
    obtain ⟨d', hd⟩ : ∃ d', ds[k]? = some d' := ⟨_, List.getElem?_eq_getElem (by have := (List.getElem?_eq_some_iff.mp hk).1; omega)⟩
    have rd : Rp X.K M' _ v d' := S'.gk _ _ (.inr ⟨k, hk, hd⟩)
    exact (turn k δ' d' hd hI).run B _ _ M' _ H' _ W tk (S'.setV i rd) ⟨fun M2 σ2 H2 δ2 S2 k2 => ⟨M2, δ2, S2, k2⟩, E'.rt, E'.nx, fun M2 σ2 H2 δ2 S2 k2 => ⟨M2, δ2, S2, k2⟩, E'.ex⟩
  · obtain ⟨M', δ', S', hI⟩ := hI
    rw [hln] at hI
    exact E'.nx M' σ' H' δ' S' (fin δ' hI)
end
end Uc
namespace Uc
open PySem PySem.Spec PyProof.Rows L2
def clsB (K : PySem.W.Frag) (C : Addr) : Bool := PySem.W.plainGet K C Str.empty && (PySem.W.hasDictIn K C && (PySem.W.plainOver K C && He.eqO (PySem.W.findIn K (.ref C) "__setattr__") (some (some (.builtin "object.__setattr__")))))
theorem clsB_ok {K : PySem.W.Frag} {C : Addr} (h : clsB K C = true) : Cls K C := by
  unfold clsB at h
  simp only [Bool.and_eq_true] at h
  exact ⟨h.1, h.2.1, h.2.2.1, He.eqO_ok h.2.2.2⟩
def mkB (K : PySem.W.Frag) (C f : Addr) : Bool := PySem.W.makesIn K C && (He.eqO (PySem.W.findIn K (.ref C) "__init__") (some (some (.ref f))) && (PySem.W.isFn K (.ref f) && PySem.W.keepIn K (.ref C)))
theorem mkB_ok {K : PySem.W.Frag} {C f : Addr} (h : mkB K C f = true) : Mk K C f := by
  unfold mkB at h
  simp only [Bool.and_eq_true] at h
  exact ⟨h.1, He.eqO_ok h.2.1, h.2.2.1, h.2.2.2⟩
end Uc

set_option Elab.async false
set_option linter.all false
set_option maxRecDepth 100000
set_option maxHeartbeats 4000000
namespace Uc
open PySem PySem.Spec PyProof.Rows L2
section
variable {X : Cx} {h : Option Hd} {δ : List Sl} {P : Po} {Φ : D → Prop} {Φb : Bool → Prop} {Ψ : Addr → List (Str × D) → Prop} {a b c e e2 : Expr} {es : List Expr} {pos p p2 : Pos}
/-- a datum's built-in class -/
def tyN : D → Option String
  | .non => some "NoneType"
  | .bl _ => some "bool"
  | .int _ => some "int"
  | .str _ => some "str"
  | .lst _ => some "list"
  | .tup _ => some "tuple"
  | _ => none
theorem tyN_ok {K : PySem.W.Frag} : ∀ {d : D} {n : String}, tyN d = some n → TyD K d (.type n)
  | .non, _, e => by cases e; exact .non
  | .bl _, _, e => by cases e; exact .bl _
  | .int _, _, e => by cases e; exact .int _
  | .str _, _, e => by cases e; exact .str _
  | .lst _, _, e => by cases e; exact .lst _
  | .tup _, _, e => by cases e; exact .tup _
  | .zlst _, _, e => by cases e
  | .exc _ _, _, e => by cases e
  | .held _ _ _ _, _, e => by cases e
  | .at_ _, _, e => by cases e
  | .ins _ _, _, e => by cases e
/-- isinstance of the six -/
def isiB (n m : String) : Bool := n == m || (n == "bool" && m == "int")
theorem kit_b (K : PySem.W.Frag) {n m : String} (hn : n ∈ ["NoneType", "bool", "int", "str", "list", "tuple"]) (hm : m ∈ ["bool", "int", "str", "list", "tuple"]) : PySem.W.kitOne K (.type n) (.type m) = some (isiB n m) := by
  revert hn hm
  simp only [List.mem_cons, List.not_mem_nil, or_false]
  rintro (rfl | rfl | rfl | rfl | rfl | rfl) (rfl | rfl | rfl | rfl | rfl) <;> exact kit_ty (by decide +kernel)
/-- isinstance(e, T), T built in -/
theorem we_isTy {x T : Str} (m : String) (hx : x = "isinstance") (hm : X.mg x = none) (hT : X.mg T = none) (hmem : m ∈ ["bool", "int", "str", "list", "tuple"]) (w : WE X h e δ (fun d => ∃ n, tyN d = some n ∧ n ∈ ["NoneType", "bool", "int", "str", "list", "tuple"] ∧ Φ (.bl (isiB n m))) Ψ) (hv : bootBuiltins T = some (.type m) := by decide +kernel)
    (hg : Gl X x := by rfl) (hgT : Gl X T := by rfl) (hn : x ≠ "__name__" := by decide) (hnT : T ≠ "__name__" := by decide) (hdb : (x == ("__debug__" : Str)) = false := by decide) (hdbT : (T == ("__debug__" : Str)) = false := by decide)
    (he : starEach [e, .Name T p2] X.env = (false, eval e X.env) :: starEach [.Name T p2] X.env := by rfl) (he2 : starEach [.Name T p2] X.env = (false, eval (.Name T p2) X.env) :: starEach [] X.env := by rfl) (hpl : (backTo pos (starEach [.Name T p2] X.env)).any (·.1) = false := by rfl) :
    WE X h (.Call (.Name x p) [e, .Name T p2] [] pos) δ Φ Ψ := by
  refine we_isi hx hm (wa_cons (w.mono fun d ⟨n, e1, hn', k⟩ => ?_) he) hg hn hdb he hpl
  refine wa_cons (we_ty m hT ?_ hv hgT hnT hdbT) he2
  exact wa_nil ⟨d, _, _, _, rfl, .ty _, .inl ⟨_, tyN_ok e1, kit_b _ hn' hmem⟩, k⟩
/-! ### the least of texts, as a datum -/
def leS (a b : Str) : Bool := decide (a.cps.toList ≤ b.cps.toList)
theorem leS_trans (a b c : Str) (h1 : leS a b = true) (h2 : leS b c = true) : leS a c = true := decide_eq_true (List.le_trans (of_decide_eq_true h1) (of_decide_eq_true h2))
theorem leS_total (a b : Str) : (leS a b || leS b a) = true := by
  rcases List.le_total a.cps.toList b.cps.toList with h | h
  · unfold leS; rw [decide_eq_true h]; rfl
  · unfold leS; rw [decide_eq_true h]; exact Bool.or_true _
theorem leS_anti {a b : Str} (h1 : leS a b = true) (h2 : leS b a = true) : a = b := by
  have e : a.cps.toList = b.cps.toList := List.le_antisymm (of_decide_eq_true h1) (of_decide_eq_true h2)
  exact PySem.W.str_of_cps e
def leastD (L : List Str) : D := match L.mergeSort leS with
  | [] => .non
  | m :: _ => .str m
theorem leastD_nil : leastD [] = .non := by unfold leastD; rw [List.mergeSort_nil]
theorem leastD_of {L : List Str} {m : Str} (hm : m ∈ L) (hl : ∀ s ∈ L, leS m s = true) : leastD L = .str m := by
  have hp := List.pairwise_mergeSort (le := leS) leS_trans leS_total L
  unfold leastD
  cases q : L.mergeSort leS with
  | nil =>
    have : m ∈ L.mergeSort leS := List.mem_mergeSort.mpr hm
    rw [q] at this
    cases this
  | cons z zs =>
    rw [q] at hp
    have hz : z ∈ L := List.mem_mergeSort.mp (by rw [q]; exact List.mem_cons_self)
    have hm' : m ∈ z :: zs := by rw [← q]; exact List.mem_mergeSort.mpr hm
    have h1 : leS z m = true := by
      rcases List.mem_cons.mp hm' with rfl | hm'
      · exact decide_eq_true (List.le_refl _)
      · exact (List.pairwise_cons.mp hp).1 m hm'
    exact congrArg D.str (leS_anti h1 (hl z hz))
theorem leastD_ex {L : List Str} (h : L ≠ []) : ∃ m, m ∈ L ∧ ∀ s ∈ L, leS m s = true := by
  have hp := List.pairwise_mergeSort (le := leS) leS_trans leS_total L
  cases q : L.mergeSort leS with
  | nil =>
    have hl := List.length_mergeSort (le := leS) L
    rw [q] at hl
    exact absurd (List.eq_nil_of_length_eq_zero hl.symm) h
  | cons z zs =>
    rw [q] at hp
    refine ⟨z, List.mem_mergeSort.mp (by rw [q]; exact List.mem_cons_self), fun s hs => ?_⟩
    have hs' : s ∈ z :: zs := by rw [← q]; exact List.mem_mergeSort.mpr hs
    rcases List.mem_cons.mp hs' with rfl | hs'
    · exact decide_eq_true (List.le_refl _)
    · exact (List.pairwise_cons.mp hp).1 s hs'
theorem leastD_same {L L' : List Str} (h : ∀ s, s ∈ L ↔ s ∈ L') : leastD L = leastD L' := by
  cases L with
  | nil =>
    cases L' with
    | nil => rfl
    | cons z zs => exact absurd ((h z).mpr List.mem_cons_self) (fun y => nomatch y)
  | cons z zs =>
    obtain ⟨m, hm, hl⟩ := leastD_ex (L := z :: zs) (by intro y; cases y)
    rw [leastD_of hm hl, leastD_of ((h m).mp hm) fun s hs => hl s ((h s).mpr hs)]
theorem sort_strs (L : List Str) : (L.map D.str).mergeSort pyLe = (L.mergeSort leS).map D.str := by
  refine (PySem.W.sort_maps D.str fun a _ b _ => ?_).symm
  have e := congrFun (congrFun (PySem.W.dataLe_str (fun s : Str => s)) a) b
  exact e.symm
end
section
variable {X : Cx} {h : Option Hd} {δ : List Sl} {Ψ : Addr → List (Str × D) → Prop} {a b c e : Expr}
theorem WT.mono {Φ Φ' : Bool → Prop} (w : WT X h e δ Φ Ψ) (k : ∀ b, Φ b → Φ' b) : WT X h e δ Φ' Ψ := .mk fun B F G M σ H Q W tk S q x => w.run B F G M σ H Q W tk S (fun b H' g S' f => q b H' g S' (k b f)) x
theorem iteD {p : Prop} [Decidable p] {A B : Prop} (h1 : p → A) (h2 : ¬ p → B) : if decide p = true then A else B := by
  by_cases q : p
  · rw [if_pos (decide_eq_true q)]; exact h1 q
  · rw [if_neg (by simpa using q)]; exact h2 q
theorem iteND {p : Prop} [Decidable p] {A B : Prop} (h1 : ¬ p → A) (h2 : p → B) : if (!decide p) = true then A else B := by
  by_cases q : p
  · rw [decide_eq_true q]; exact h2 q
  · rw [decide_eq_false q]; exact h1 q
theorem take_succ_of {α : Type} {L : List α} {k : Nat} {x : α} (h : L[k]? = some x) : L.take (k + 1) = L.take k ++ [x] := by
  rw [List.take_add_one, h]
  rfl
/-- [g x for x in L if p x] -/
theorem walks_filter {α : Type} {i : Nat} {scope : Scope} {elt : Expr} {Φ : List D → Prop} (enc g : α → D) (L : List α) (p : α → Bool) (hl : L.length ≤ 90000)
    (test : ∀ x ∈ L, ∀ (s0 : Shared) (H0 : Hp) (C : Addr) (cl : List (Str × Addr)) (fp : List Addr), WT (X.blk s0 H0 scope (compEnvC scope cl C X.env) fp) h c ((δ.set i .no).set i (.val (enc x))) (fun b => b = p x) (fun _ _ => False))
    (item : ∀ x ∈ L, p x = true → ∀ (s0 : Shared) (H0 : Hp) (C : Addr) (cl : List (Str × Addr)) (fp : List Addr), WE (X.blk s0 H0 scope (compEnvC scope cl C X.env) fp) h elt ((δ.set i .no).set i (.val (enc x))) (fun d => d = g x) (fun _ _ => False))
    (fin : Φ ((L.filter p).map g)) : Walks X h i scope [c] elt δ Φ (L.map enc) := by
  refine ⟨by rw [List.length_map]; exact hl, fun k acc => acc = ((L.take k).filter p).map g, by show _ = _; rw [List.take_zero]; rfl, fun k d acc hk hl' hI => ?_, fun acc _ hI => ?_⟩
  · obtain ⟨x, hx, rfl⟩ := Option.map_eq_some_iff.mp (by rw [← List.getElem?_map]; exact hk)
    have hm := List.mem_of_getElem? hx
    subst hI
    intro s0 H0 C cl fp
    refine (test x hm s0 H0 C cl fp).mono fun b hb => ?_
    subst hb
    cases q : p x with
    | true =>
      intro s1 H1 C1 cl1 fp1
      refine (item x hm q s1 H1 C1 cl1 fp1).mono fun d hd => ?_
      subst hd
      rw [take_succ_of hx, List.filter_append, List.map_append, List.filter_cons_of_pos q]
      rfl
    | false =>
      show _ = _
      rw [take_succ_of hx, List.filter_append, List.map_append, List.filter_cons_of_neg (by rw [q]; decide)]
      exact (List.append_nil _).symm
  · rw [List.length_map, List.take_length] at hI
    rw [hI]
    exact fin
/-- [g x for x in L] -/
theorem walks_map {α : Type} {i : Nat} {scope : Scope} {elt : Expr} {Φ : List D → Prop} (enc g : α → D) (L : List α) (hl : L.length ≤ 90000)
    (item : ∀ x ∈ L, ∀ (s0 : Shared) (H0 : Hp) (C : Addr) (cl : List (Str × Addr)) (fp : List Addr), WE (X.blk s0 H0 scope (compEnvC scope cl C X.env) fp) h elt ((δ.set i .no).set i (.val (enc x))) (fun d => d = g x) (fun _ _ => False))
    (fin : Φ (L.map g)) : Walks X h i scope [] elt δ Φ (L.map enc) := by
  refine ⟨by rw [List.length_map]; exact hl, fun k acc => acc = (L.take k).map g, by show _ = _; rw [List.take_zero]; rfl, fun k d acc hk hl' hI => ?_, fun acc _ hI => ?_⟩
  · obtain ⟨x, hx, rfl⟩ := Option.map_eq_some_iff.mp (by rw [← List.getElem?_map]; exact hk)
    have hm := List.mem_of_getElem? hx
    subst hI
    intro s0 H0 C cl fp
    refine (item x hm s0 H0 C cl fp).mono fun d hd => ?_
    subst hd
    rw [take_succ_of hx, List.map_append]
    rfl
  · rw [List.length_map, List.take_length] at hI
    rw [hI]
    exact fin
end
section
variable {Pg : Program} {w : World} {K : PySem.W.Frag} {mg : Str → Option Value} {base : Heap}
/-- a def, as a call of it is walked -/
structure Ok (Pg : Program) (w : World) (K : PySem.W.Frag) (mg : Str → Option Value) (base : Heap) (x : Str) (k : Nat) (ps : List Str) (sp : Sp) : Prop where
  ex : ∃ (f : Addr) (fd : FuncData), mg x = some (.ref f) ∧ PySem.W.keepIn K (.ref f) = true ∧ L2.Binds K fd ps [] ∧ FnOk Pg w K mg base (L2.CX Pg w) k f fd ps sp
theorem we_ok {X : Cx} {h : Option Hd} {δ : List Sl} {Φ : D → Prop} {Ψ : Addr → List (Str × D) → Prop} {e : Expr} {es : List Expr} {p pos : Pos} {x : Str} {k : Nat} {ps : List Str} {S : PSp} (O : Ok X.prog X.w X.K X.mg X.base x k ps (spD X.K S)) (h' : Option Hd) (hh : h' = h ∨ h' = none) (hr : Room k X.A)
    (w : WA X h (e :: es) δ (fun ds => S h' ds Φ Ψ) Ψ) (hg : Gl X x := by rfl) (hdb : (x == ("__debug__" : Str)) = false := by decide) (he : starEach (e :: es) X.env = (false, eval e X.env) :: starEach es X.env := by rfl) (hpl : (backTo pos (starEach es X.env)).any (·.1) = false := by rfl) :
    WE X h (.Call (.Name x p) (e :: es) [] pos) δ Φ Ψ := by
  obtain ⟨f, fd, hm, hk, hb, F⟩ := O.ex
  exact we_call h' hh F hr hm hk hb w hg hdb he hpl
end
theorem sTuple_lst {xs : List D} {Φ : D → Prop} (k : Φ (.tup xs)) : sTuple [.lst xs] Φ := k
theorem sTuple_tup {xs : List D} {Φ : D → Prop} (k : Φ (.tup xs)) : sTuple [.tup xs] Φ := k
end Uc

set_option Elab.async false
set_option linter.all false
set_option maxRecDepth 100000
set_option maxHeartbeats 4000000
namespace U18
open PySem PySem.Spec PyProof.Rows L2 Uc
def top (i : Nat) : Stmt := PySem.Challenge.pw_unmetcells_k18_whole_meetings_of_marks.main.body.getD i (.Pass ⟨0, 0, 0, 0⟩)
abbrev s_Run_init : Stmt := inClass (top 2) 0
abbrev s_meeting_of : Stmt := top 3
abbrev s_meetings_in : Stmt := top 4
abbrev s_l_mix : Stmt := top 6
abbrev s_l_hand : Stmt := top 7
abbrev s_l_draw : Stmt := top 8
abbrev s_l_exact : Stmt := top 9
abbrev s_l_meets : Stmt := top 10
abbrev s_l_drawn_names : Stmt := top 11
abbrev s_l_some : Stmt := top 12
abbrev s_l_least_met : Stmt := top 13
abbrev s_law : Stmt := top 14
def d_Run_init : He.DefD := ⟨("Run", some "__init__"), "__init__", "Run.__init__", defArgs s_Run_init, defBody s_Run_init, defScope s_Run_init, [], []⟩
def d_meeting_of : He.DefD := ⟨("meeting_of", none), "meeting_of", "meeting_of", defArgs s_meeting_of, defBody s_meeting_of, defScope s_meeting_of, [], []⟩
def d_meetings_in : He.DefD := ⟨("meetings_in", none), "meetings_in", "meetings_in", defArgs s_meetings_in, defBody s_meetings_in, defScope s_meetings_in, [.int 0], []⟩
def d_l_mix : He.DefD := ⟨("_law_mix", none), "_law_mix", "_law_mix", defArgs s_l_mix, defBody s_l_mix, defScope s_l_mix, [], []⟩
def d_l_hand : He.DefD := ⟨("_law_hand", none), "_law_hand", "_law_hand", defArgs s_l_hand, defBody s_l_hand, defScope s_l_hand, [], []⟩
def d_l_draw : He.DefD := ⟨("_law_draw", none), "_law_draw", "_law_draw", defArgs s_l_draw, defBody s_l_draw, defScope s_l_draw, [], []⟩
def d_l_exact : He.DefD := ⟨("_law_exact", none), "_law_exact", "_law_exact", defArgs s_l_exact, defBody s_l_exact, defScope s_l_exact, [], []⟩
def d_l_meets : He.DefD := ⟨("_law_meets", none), "_law_meets", "_law_meets", defArgs s_l_meets, defBody s_l_meets, defScope s_l_meets, [], []⟩
def d_l_drawn_names : He.DefD := ⟨("_law_drawn_names", none), "_law_drawn_names", "_law_drawn_names", defArgs s_l_drawn_names, defBody s_l_drawn_names, defScope s_l_drawn_names, [], []⟩
def d_l_some : He.DefD := ⟨("_law_some", none), "_law_some", "_law_some", defArgs s_l_some, defBody s_l_some, defScope s_l_some, [], []⟩
def d_l_least_met : He.DefD := ⟨("_law_least_met", none), "_law_least_met", "_law_least_met", defArgs s_l_least_met, defBody s_l_least_met, defScope s_l_least_met, [], []⟩
def d_law : He.DefD := ⟨("law", none), "law", "law", defArgs s_law, defBody s_law, defScope s_law, [], []⟩
def globs : List Str := (["Run", "meeting_of", "meetings_in", "_law_mix", "_law_hand", "_law_draw", "_law_exact", "_law_meets", "_law_drawn_names", "_law_some", "_law_least_met", "law"] : List Str)
def frees : List Str := (["int", "abs", "len", "range", "enumerate", "isinstance", "tuple", "sorted", "min", "max", "bool", "str", "list", "set", "dict"] : List Str) ++ (["zip", "sum", "any", "all"] : List Str)
def loose : List PySem.Str := (["_wall", "Run", "meeting_of", "meetings_in", "_law_mix", "_law_hand", "_law_draw", "_law_exact", "_law_meets", "_law_drawn_names", "_law_some", "_law_least_met"] : List PySem.Str)
def fn : List He.DefD := [d_Run_init, d_meeting_of, d_meetings_in, d_l_mix, d_l_hand, d_l_draw, d_l_exact, d_l_meets, d_l_drawn_names, d_l_some, d_l_least_met, d_law]
def clss : List (Str × List Str) := [("Run", ["entries", "marks", "cells"])]
/-- what the head must say -/
def B (K : PySem.W.Frag) : Bool :=
  (globs.all fun x => He.eqO (PySem.W.nsIn K mainGlobals x) (some (some (.ref (He.ga K x))))) &&
  ((frees.all fun x => He.eqO (PySem.W.nsIn K mainGlobals x) (some none)) &&
  (clss.all fun z => mkB K (He.ga K z.1) (He.ma K (He.ga K z.1) "__init__") && (clsB K (He.ga K z.1) && z.2.all fun f => He.eqO (PySem.W.findIn K (.ref (He.ga K z.1)) f) (some none))))
structure Txt (K : PySem.W.Frag) (mg : Str → Option Value) : Prop where
  g : ∀ x ∈ globs, mg x = some (.ref (He.ga K x))
  fr : ∀ x ∈ frees, mg x = none
  cls : ∀ z ∈ clss, Mk K (He.ga K z.1) (He.ma K (He.ga K z.1) "__init__") ∧ Cls K (He.ga K z.1) ∧ ∀ f ∈ z.2, NoAttr K (He.ga K z.1) f
theorem txt_of {K : PySem.W.Frag} {h : Heap} {mg : Str → Option Value} (X : K.In h) (Gn : h.Ns mainGlobals mg) (b : B K = true) : Txt K mg := by
  unfold B at b
  simp only [Bool.and_eq_true, List.all_eq_true] at b
  obtain ⟨b1, b2, b3⟩ := b
  exact ⟨fun x hx => PySem.W.mg_of X Gn (He.eqO_ok (b1 x hx)), fun x hx => PySem.W.mg_none_of X Gn (He.eqO_ok (b2 x hx)), fun z hz => ⟨mkB_ok (b3 z hz).1, clsB_ok (b3 z hz).2.1, fun f hf => He.eqO_ok ((b3 z hz).2.2 f hf)⟩⟩
abbrev FnP (K : PySem.W.Frag) (x : Str) (st : Stmt) (f : Addr) (fd : FuncData) : Prop := FunD K x x (defArgs st) (defBody st) (defScope st) [] [] f fd
end U18

set_option Elab.async false
set_option linter.all false
set_option maxRecDepth 100000
set_option maxHeartbeats 4000000
namespace U18
open PySem PySem.Spec PyProof.Rows L2 Uc
/-! steps: a name; an expression; a side condition -/
local macro_rules | `(tactic| walk_at "uv") => `(tactic| first
  | refine we_var 0 _ rfl ?_ | refine we_var 1 _ rfl ?_ | refine we_var 2 _ rfl ?_ | refine we_var 3 _ rfl ?_ | refine we_var 4 _ rfl ?_ | refine we_var 5 _ rfl ?_ | refine we_var 6 _ rfl ?_
  | refine we_var 7 _ rfl ?_ | refine we_var 8 _ rfl ?_ | refine we_var 9 _ rfl ?_ | refine we_var 10 _ rfl ?_ | refine we_var 11 _ rfl ?_ | refine we_var 12 _ rfl ?_ | refine we_var 13 _ rfl ?_)
local macro_rules | `(tactic| walk_at "us") => `(tactic| first
  | with_reducible exact trivial
  | ((with_reducible refine posI ?_); first | decide | omega)
  | ((with_reducible refine cmulR ?_ ?_) <;> decide)
  | ((with_reducible refine cmulL ?_ ?_) <;> omega)
  | ((with_reducible refine cmulR ?_ ?_) <;> omega)
  | ((with_reducible refine cdivW ?_ ?_) <;> first | decide | omega)
  | ((with_reducible refine cpow ?_ ?_ ?_) <;> decide))
local macro_rules | `(tactic| walk_at "ue") => `(tactic| first
  | with_reducible refine wa_nil ?_ | refine wa_cons ?_ | with_reducible refine we_int ?_ | with_reducible refine we_str ?_ | with_reducible refine we_bl ?_ | with_reducible refine we_non ?_ | walk_at "uv"
  | with_reducible refine we_add ?_ | with_reducible refine we_sub ?_ | with_reducible refine we_mul ?_ | with_reducible refine we_div ?_ | with_reducible refine we_mod ?_ | with_reducible refine we_pow ?_
  | with_reducible refine sAdd_int ?_ | with_reducible refine sInt_int ?_ | with_reducible refine sLen_lst ?_ | with_reducible refine sLen_tup ?_ | ((with_reducible refine sI_go ?c ?_); (case c => walk_at "us")))
section
variable {Pg : Program} {w : World} {K : PySem.W.Frag} {mg : Str → Option Value} {base : Heap} {f : Addr} {fd : FuncData}
abbrev nMix : List Str := ["_law_number", "_law_turn", "_law_once", "_law_twice"]
theorem scMix : FnScope nMix ["_law_number", "_law_turn"] (defScope s_l_mix) := ⟨rfl, rfl, rfl, by decide +kernel, rfl, by decide +kernel, by decide +kernel⟩
/-- two ints to an int from 0 on -/
def S_mix : PSp := fun _ ds Φ _ => ∃ a b : Int, ds = [.int a, .int b] ∧ ∀ r : Int, 0 ≤ r → Φ (.int r)
theorem ok_mix (T : Txt K mg) (Fn : FnP K "_law_mix" s_l_mix f fd) : FnOk Pg w K mg base (L2.CX Pg w) 1 f fd ["_law_number", "_law_turn"] (spD K S_mix) := by
  refine okD Fn scMix (fun h ds Φ Ψ ⟨a, b, e, _⟩ => by rw [e]; rfl) fun X h ds Φ Ψ cdv A outer s H E hr hS hX => ?_
  obtain ⟨a, b, rfl, k⟩ := hS
  have mi : mg "int" = none := T.fr _ (by decide +kernel)
  refine wb_cons (ws_set 2 scMix.nd ?_)
  repeat first | walk_at "ue" | refine we_intc rfl mi ?_
  refine wb_cons (ws_set 3 scMix.nd ?_)
  repeat first | walk_at "ue" | refine we_intc rfl mi ?_
  refine wb_cons (ws_ret ?_)
  repeat first | walk_at "ue" | refine we_intc rfl mi ?_
  refine k _ ?_
  omega
end
end U18


set_option Elab.async false
set_option linter.all false
set_option maxRecDepth 100000
set_option maxHeartbeats 4000000
namespace U18
open PySem PySem.Spec PyProof.Rows L2 Uc
/-! steps: a name; an expression; a side condition -/
local macro_rules | `(tactic| walk_at "uv") => `(tactic| first
  | refine we_var 0 _ rfl ?_ | refine we_var 1 _ rfl ?_ | refine we_var 2 _ rfl ?_ | refine we_var 3 _ rfl ?_ | refine we_var 4 _ rfl ?_ | refine we_var 5 _ rfl ?_ | refine we_var 6 _ rfl ?_
  | refine we_var 7 _ rfl ?_ | refine we_var 8 _ rfl ?_ | refine we_var 9 _ rfl ?_ | refine we_var 10 _ rfl ?_ | refine we_var 11 _ rfl ?_ | refine we_var 12 _ rfl ?_ | refine we_var 13 _ rfl ?_)
local macro_rules | `(tactic| walk_at "us") => `(tactic| first
  | with_reducible exact trivial
  | ((with_reducible refine posI ?_); first | decide | omega)
  | ((with_reducible refine cmulR ?_ ?_) <;> decide)
  | ((with_reducible refine cmulL ?_ ?_) <;> omega)
  | ((with_reducible refine cmulR ?_ ?_) <;> omega)
  | ((with_reducible refine cdivW ?_ ?_) <;> first | decide | omega)
  | ((with_reducible refine cpow ?_ ?_ ?_) <;> decide))
local macro_rules | `(tactic| walk_at "ue") => `(tactic| first
  | with_reducible refine wa_nil ?_ | refine wa_cons ?_ | with_reducible refine we_int ?_ | with_reducible refine we_str ?_ | with_reducible refine we_bl ?_ | with_reducible refine we_non ?_ | walk_at "uv"
  | with_reducible refine we_add ?_ | with_reducible refine we_sub ?_ | with_reducible refine we_mul ?_ | with_reducible refine we_div ?_ | with_reducible refine we_mod ?_ | with_reducible refine we_pow ?_
  | with_reducible refine sAdd_int ?_ | with_reducible refine sInt_int ?_ | with_reducible refine sLen_lst ?_ | with_reducible refine sLen_tup ?_ | ((with_reducible refine sI_go ?c ?_); (case c => walk_at "us")))
section
variable {Pg : Program} {w : World} {K : PySem.W.Frag} {mg : Str → Option Value} {base : Heap} {f fM : Addr} {fd fdM : FuncData}
abbrev nDraw : List Str := ["_law_hand_here", "_law_many", "_law_cell", "_law_rest"]
theorem scDraw : FnScope nDraw ["_law_hand_here", "_law_many"] (defScope s_l_draw) := ⟨rfl, rfl, rfl, by decide +kernel, rfl, by decide +kernel, by decide +kernel⟩
/-- the hand and a number above 0 to a number below -/
def S_draw : PSp := fun h ds Φ _ => ∃ (q : Hd) (n : Int), h = some q ∧ ds = [.at_ (.ref q.p), .int n] ∧ 0 < n ∧ n < 2 ^ 64 ∧ ∀ r : Int, 0 ≤ r → r < n → Φ (.int r)
theorem ok_draw (T : Txt K mg) (Fn : FnP K "_law_draw" s_l_draw f fd) (FM : FnP K "_law_mix" s_l_mix fM fdM) (gM : mg "_law_mix" = some (.ref fM)) : FnOk Pg w K mg base (L2.CX Pg w) 2 f fd ["_law_hand_here", "_law_many"] (spD K S_draw) := by
  have GM : FnOk Pg w K mg base (L2.CX Pg w) 1 fM fdM ["_law_number", "_law_turn"] (spD K S_mix) := ok_mix T FM
  have bM : L2.Binds K fdM ["_law_number", "_law_turn"] [] := FM.bindsN fun _ _ _ _ _ _ us hl => match us, hl with | [_, _], _ => rfl
  have mi : mg "int" = none := T.fr _ (by decide +kernel)
  have ml : mg "len" = none := T.fr _ (by decide +kernel)
  have bi : bootBuiltins "int" = some (.type "int") := by decide +kernel
  refine Fn.ok scDraw (fun vs H Q E hp => ?_) (fun cdv A outer s H vs Q E hr hp => ?_)
  · obtain ⟨h, B, ds, Φ, Ψ, r, _, _, ⟨q, n, _, e, _⟩, _⟩ := hp
    rw [r.length, e]
    rfl
  · obtain ⟨h, B, ds, Φ, Ψ, r, hand, live, ⟨q, n, rfl, rfl, n0, n1, k⟩, done, _⟩ := hp
    obtain ⟨v1, v2, rfl, r1, r2⟩ := rpA_two r
    obtain rfl := r1.at_inv
    obtain rfl := r2.int_inv
    obtain ⟨mq, i, rest, tot, h1, h2, h3, h4⟩ := hand q rfl
    have hr1 : Room 1 _ := hr
    -- the end: a number below n, the hand with new numbers
    have nl : q.l ≠ q.p := fun z => h3 (by rw [z]; exact mq)
    have fin : ∀ (H2 : Hp) (i' rest' tot' x : Int), 0 ≤ i' → (∀ b o, (upd H q.p (.lst [.ref q.l, .int i', .int rest', .int tot'])) b = some o → H2 b = some o) → Q (.int (x % n)) H2 := fun H2 i' rest' tot' x hi hk => by
      refine done _ _ (.int (x % n)) (fun b o nb e => hk b o (by rw [upd_ne (nb q rfl)]; exact e)) (fun q' e => ?_) (.int _) (k _ (Int.emod_nonneg _ (by omega)) (Int.emod_lt_of_pos _ n0))
      cases e
      exact ⟨mq, i', rest', tot', hk _ _ upd_same, hk _ _ (by rw [upd_ne nl]; exact h2), h3, hi⟩
    -- a draw's mix
    have mix : ∀ (H' : Hp) (a b : Int) (Q' : VK), (∀ r H2, (∀ c o, H' c = some o → H2 c = some o) → Q' (.int r) H2) → spD K S_mix [.int a, .int b] H' Q' E0 := fun H' a b Q' kk => by
      refine ⟨none, fun _ => False, [.int a, .int b], fun d => ∃ r : Int, d = .int r, fun _ _ => False, .cons (.int a) (.cons (.int b) .nil), (fun _ z => nomatch z), (fun _ z => z.elim), ⟨a, b, rfl, fun r _ => ⟨r, rfl⟩⟩, ?_, fun _ _ _ _ _ _ _ z => z.elim⟩
      intro v H2 d g _ rr e
      obtain ⟨r, rfl⟩ := e
      obtain rfl := rr.int_inv
      exact kk r H2 fun c o z => g c o (fun _ y => nomatch y) z
    have hl2 : ∀ (o : HO), (upd H q.p o) q.l = some (.lst (q.cs.map V.int)) := fun o => by rw [upd_ne nl]; exact h2
    let X : Cx := cxOf (L2.CX Pg w) Pg w K mg base nDraw "_law_draw" (defScope s_l_draw) f cdv A outer s H E
    let D0 : Ends := { nx := fun x H' => Q V.non H', rt := Q }
    have tail : ∀ (H1 : Hp) (x : Option V) (i' rest' : Int), 0 ≤ i' → H1 q.p = some (.lst [.ref q.l, .int i', .int rest', .int tot]) → (∀ b o, b ≠ q.p → H b = some o → H1 b = some o) → bS X ((defBody s_l_draw).tail) D0 [some (.ref q.p), some (.int n), x, none] H1 := by
      intro H1 x i' rest' hi' e1 kp
      refine bS_of (X := X) (b := (defBody s_l_draw).tail) (by exact (pss_cons (ps_if (pt_cmpR op_gt (pe_ix ix_list (pv 0) pe_int (fun _ _ => rfl)) pe_int (nomark _))
        (pss_cons (ps_set (i := 3) scDraw.nd rfl (Or.inl rfl) (pe_ix ix_list (pv 0) pe_int (fun _ _ => rfl)))
        (pss_cons (ps_asg (pe_op op_fdivW (pv 3) (pv 1)) (pg_sub (pv 0) pe_int set_list))
        (pss_one (ps_ret (pe_op op_mod (pe_callTy call_int1 rfl mi bi (pa_cons (pv 3) pa_nil)) (pv 1)))))) pss_nil)
        (pss_cons (ps_asg (pe_op op_mod (pe_callTy call_int1 rfl mi bi (pa_cons (pe_op op_add (pe_ix ix_list (pv 0) pe_int (fun _ _ => rfl)) pe_int) pa_nil)) pe_int) (pg_sub (pv 0) pe_int set_list))
        (pss_one (ps_ret (pe_op op_mod (pe_callTy call_int1 rfl mi bi (pa_cons (pe_call GM hr1 rfl gM FM.kp bM .nil passL (pa_cons (pe_ix ix_list (pv 0) pe_int (fun _ _ => rfl)) (pa_cons (pe_ix ix_list (pv 0) pe_int (fun _ _ => rfl)) pa_nil))) pa_nil)) (pv 1))))))) ?_
      refine ⟨_, rfl, q.p, _, 2, .int rest', rfl, rfl, SqL.of e1, rfl, ?_⟩
      refine ⟨_, _, rfl, rfl, _, rfl, ?_⟩
      refine ite2 (fun z1 => ?_) (fun z1 => ?_)
      · refine ⟨_, rfl, q.p, _, 2, .int rest', rfl, rfl, SqL.of e1, rfl, ?_⟩
        refine ⟨_, rfl, _, rfl, _, _, rfl, rfl, cdivW n0 n1, ?_⟩
        refine ⟨_, rfl, q.p, _, 2, 2, rfl, rfl, e1, rfl, ?_⟩
        refine ⟨_, rfl, .inl ⟨_, rfl, ?_⟩⟩
        refine ⟨_, rfl, _, _, rfl, rfl, n0, ?_⟩
        exact fin _ i' _ tot _ hi' fun b o e => by
          by_cases eb : b = q.p
          · rw [eb] at e ⊢
            rw [upd_same] at e ⊢
            exact e
          · rw [upd_ne eb] at e ⊢
            exact kp b o eb e
      · refine ⟨_, rfl, q.p, _, 3, .int tot, rfl, rfl, SqL.of e1, rfl, ?_⟩
        refine ⟨_, _, rfl, rfl, .inl ⟨_, rfl, ?_⟩⟩
        refine ⟨_, _, rfl, rfl, (by show (0 : Int) < _; decide), ?_⟩
        refine ⟨_, rfl, q.p, _, 3, 3, rfl, rfl, e1, rfl, ?_⟩
        refine ⟨_, rfl, q.p, _, 3, .int _, rfl, rfl, SqL.of upd_same, rfl, ?_⟩
        refine ⟨_, rfl, q.p, _, 1, .int i', rfl, rfl, SqL.of upd_same, rfl, ?_⟩
        refine mix _ _ _ _ fun r H2 hk => ?_
        refine .inl ⟨_, rfl, ?_⟩
        refine ⟨_, rfl, _, _, rfl, rfl, n0, ?_⟩
        exact fin _ i' rest' _ _ hi' fun b o e => by
          refine hk b o ?_
          by_cases eb : b = q.p
          · rw [eb] at e ⊢
            rw [upd_same] at e ⊢
            exact e
          · rw [upd_ne eb] at e ⊢
            exact kp b o eb e
    refine ⟨_, pss_cons (ps_if (PW.pt (pw_and (pt_cmpR op_eq (pe_ix ix_list (pv 0) pe_int (fun _ _ => rfl)) pe_int (nomark _)) (pw_and1 (pt_cmpR op_lt (pe_ix ix_list (pv 0) pe_int (fun _ _ => rfl)) (pe_callB call_len rfl ml boot_len (pa_cons (pe_ix ix_list (pv 0) pe_int (fun _ _ => rfl)) pa_nil)) (nomark _)))))
      (pss_cons (ps_set (i := 2) scDraw.nd rfl (Or.inl rfl) (pe_ix ix_list (pe_ix ix_list (pv 0) pe_int (fun _ _ => rfl)) (pe_ix ix_list (pv 0) pe_int (fun _ _ => rfl)) (fun _ _ => rfl)))
      (pss_cons (ps_asg (pe_op op_add (pe_ix ix_list (pv 0) pe_int (fun _ _ => rfl)) pe_int) (pg_sub (pv 0) pe_int set_list))
      (pss_cons (ps_if (pt_cmpR op_lt (pv 2) (pe_op op_pow pe_int pe_int) (nomark _))
        (pss_one (ps_ret (pe_op op_mod (pe_callTy call_int1 rfl mi bi (pa_cons (pe_call GM hr1 rfl gM FM.kp bM .nil passL (pa_cons (pe_op op_mod (pe_callTy call_int1 rfl mi bi (pa_cons (pv 2) pa_nil)) pe_int) (pa_cons (pe_ix ix_list (pv 0) pe_int (fun _ _ => rfl)) pa_nil))) pa_nil)) (pv 1)))) pss_nil)
      (pss_one (ps_asg (pv 2) (pg_sub (pv 0) pe_int set_list)))))) pss_nil) pbS, ?_⟩
    have same : ∀ b o, b ≠ q.p → H b = some o → H b = some o := fun _ _ _ e => e
    refine ⟨_, rfl, q.p, _, 2, .int rest, rfl, rfl, SqL.of h1, rfl, ?_⟩
    refine ⟨rfl, _, rfl, ?_⟩
    refine ite2 (fun z0 => ?_) (fun z0 => ?_)
    · have e0 : rest = 0 := by simpa using z0
      subst e0
      refine ⟨_, rfl, q.p, _, 1, .int i, rfl, rfl, SqL.of h1, rfl, ?_⟩
      refine ⟨_, rfl, q.p, _, 0, .ref q.l, rfl, rfl, SqL.of h1, rfl, ?_⟩
      refine ⟨_, _, rfl, .inl ⟨_, SqL.of h2, rfl⟩, ?_⟩
      refine ⟨_, _, rfl, rfl, _, rfl, ?_⟩
      refine ite2 (fun z1 => ?_) (fun z1 => ?_)
      · have il : i < q.cs.length := by simpa using z1
        obtain ⟨j, rfl⟩ := Int.eq_ofNat_of_zero_le h4
        obtain ⟨c, ec⟩ : ∃ c, q.cs[j]? = some c := ⟨_, List.getElem?_eq_getElem (by omega)⟩
        refine ⟨_, rfl, q.p, _, 0, .ref q.l, rfl, rfl, SqL.of h1, rfl, ?_⟩
        refine ⟨_, rfl, q.p, _, 1, .int j, rfl, rfl, SqL.of h1, rfl, ?_⟩
        refine ⟨q.l, _, j, .int c, rfl, rfl, SqL.of h2, ?_, ?_⟩
        · exact atI_nat (by rw [List.getElem?_map, ec]; rfl)
        refine ⟨_, rfl, q.p, _, 1, .int j, rfl, rfl, SqL.of h1, rfl, ?_⟩
        refine ⟨_, _, rfl, rfl, ?_⟩
        refine ⟨_, rfl, q.p, _, 1, 1, rfl, rfl, h1, rfl, ?_⟩
        refine ⟨_, rfl, _, _, rfl, rfl, cpow (by decide) (by decide) (by decide), ?_⟩
        refine ⟨_, _, rfl, rfl, _, rfl, ?_⟩
        refine ite2 (fun z2 => ?_) (fun z2 => ?_)
        · refine ⟨_, rfl, .inl ⟨_, rfl, ?_⟩⟩
          refine ⟨_, _, rfl, rfl, (by show (0 : Int) < _; decide), ?_⟩
          refine ⟨_, rfl, q.p, _, 1, .int _, rfl, rfl, SqL.of upd_same, rfl, ?_⟩
          refine mix _ _ _ _ fun r H2 hk => ?_
          refine .inl ⟨_, rfl, ?_⟩
          refine ⟨_, rfl, _, _, rfl, rfl, n0, ?_⟩
          exact fin _ _ 0 tot _ (by omega) fun b o e => hk b o e
        · refine ⟨_, rfl, _, rfl, q.p, _, 2, 2, rfl, rfl, upd_same, rfl, ?_⟩
          refine tail _ _ (j + 1) c (by omega) upd_same fun b o nb e => ?_
          rw [upd_ne nb, upd_ne nb]
          exact e
      · exact tail H none i 0 h4 h1 same
    · exact tail H none i rest h4 h1 same
end
section
variable {Pg : Program} {w : World} {K : PySem.W.Frag} {mg : Str → Option Value} {base : Heap} {f fD : Addr} {fd fdD : FuncData}
/-- a call of the draw, in any def -/
theorem we_draw {X : Cx} {q : Hd} {δ : List Sl} {Φ : D → Prop} {Ψ : Addr → List (Str × D) → Prop} {a b : Expr} {p pos : Pos} (FD : FnP X.K "_law_draw" s_l_draw fD fdD) (F : FnOk X.prog X.w X.K X.mg X.base (L2.CX X.prog X.w) 2 fD fdD ["_law_hand_here", "_law_many"] (spD X.K S_draw)) (hm : X.mg "_law_draw" = some (.ref fD)) (hr : Room 2 X.A)
    (w : WA X (some q) [a, b] δ (fun ds => ∃ n : Int, ds = [.at_ (.ref q.p), .int n] ∧ 0 < n ∧ n < 2 ^ 64 ∧ ∀ r : Int, 0 ≤ r → r < n → Φ (.int r)) Ψ) (hg : Gl X "_law_draw" := by rfl) (he : starEach [a, b] X.env = (false, eval a X.env) :: starEach [b] X.env := by rfl) (hpl : (backTo pos (starEach [b] X.env)).any (·.1) = false := by rfl) : WE X (some q) (.Call (.Name "_law_draw" p) [a, b] [] pos) δ Φ Ψ := by
  have bM : L2.Binds X.K fdD ["_law_hand_here", "_law_many"] [] := FD.bindsN fun _ _ _ _ _ _ us hl => match us, hl with | [_, _], _ => rfl
  refine we_call (some q) (.inl rfl) F hr hm FD.kp bM ?_ hg (by decide) he hpl
  exact .mk fun B F G M σ H Q W tk S0 q' x => w.run B F G M σ H Q W tk S0 (fun vs H' ds g S r ⟨n, e, h1, h2, k⟩ => q' vs H' ds g S r ⟨q, n, rfl, e, h1, h2, k⟩) x
end
end U18

set_option Elab.async false
set_option linter.all false
set_option maxRecDepth 100000
set_option maxHeartbeats 4000000
namespace U18
open PySem PySem.Spec PyProof.Rows L2 Uc
/-! steps: a name; an expression; a side condition -/
local macro_rules | `(tactic| walk_at "uv") => `(tactic| first
  | refine we_var 0 _ rfl ?_ | refine we_var 1 _ rfl ?_ | refine we_var 2 _ rfl ?_ | refine we_var 3 _ rfl ?_ | refine we_var 4 _ rfl ?_ | refine we_var 5 _ rfl ?_ | refine we_var 6 _ rfl ?_
  | refine we_var 7 _ rfl ?_ | refine we_var 8 _ rfl ?_ | refine we_var 9 _ rfl ?_ | refine we_var 10 _ rfl ?_ | refine we_var 11 _ rfl ?_ | refine we_var 12 _ rfl ?_ | refine we_var 13 _ rfl ?_)
local macro_rules | `(tactic| walk_at "us") => `(tactic| first
  | with_reducible exact trivial
  | ((with_reducible refine posI ?_); first | decide | omega)
  | ((with_reducible refine cmulR ?_ ?_) <;> decide)
  | ((with_reducible refine cmulL ?_ ?_) <;> omega)
  | ((with_reducible refine cmulR ?_ ?_) <;> omega)
  | ((with_reducible refine cdivW ?_ ?_) <;> first | decide | omega)
  | ((with_reducible refine cpow ?_ ?_ ?_) <;> decide))
local macro_rules | `(tactic| walk_at "ue") => `(tactic| first
  | with_reducible refine wa_nil ?_ | refine wa_cons ?_ | with_reducible refine we_int ?_ | with_reducible refine we_str ?_ | with_reducible refine we_bl ?_ | with_reducible refine we_non ?_ | walk_at "uv"
  | with_reducible refine we_add ?_ | with_reducible refine we_sub ?_ | with_reducible refine we_mul ?_ | with_reducible refine we_div ?_ | with_reducible refine we_mod ?_ | with_reducible refine we_pow ?_
  | with_reducible refine sAdd_int ?_ | with_reducible refine sInt_int ?_ | with_reducible refine sLen_lst ?_ | with_reducible refine sLen_tup ?_ | ((with_reducible refine sI_go ?c ?_); (case c => walk_at "us")))
section
variable {Pg : Program} {w : World} {K : PySem.W.Frag} {mg : Str → Option Value} {base : Heap} {f fD : Addr} {fd fdD : FuncData}
abbrev nHand : List Str := ["_law_script", "_law_total", "_law_k", "_law_cell"]
theorem scHand : FnScope nHand ["_law_script"] (defScope s_l_hand) := ⟨rfl, rfl, rfl, by decide +kernel, rfl, by decide +kernel, by decide +kernel⟩
theorem rpA_ints {K : PySem.W.Frag} {M : Addr → Prop} {H : Hp} : ∀ {is : List Int} {vs : List V}, RpA K M H vs (is.map D.int) → vs = is.map V.int
  | [], _, .nil => rfl
  | i :: is, _, .cons h t => by rw [rpA_ints t, h.int_inv]; rfl
theorem ok_hand (T : Txt K mg) (Fn : FnP K "_law_hand" s_l_hand f fd) : FnOk Pg w K mg base (L2.CX Pg w) 1 f fd ["_law_script"] (spHand K) := by
  have me : mg "enumerate" = none := T.fr _ (by decide +kernel)
  have ma : mg "abs" = none := T.fr _ (by decide +kernel)
  have mi : mg "int" = none := T.fr _ (by decide +kernel)
  refine Fn.ok scHand (fun vs H Q E hp => ?_) (fun cdv A outer s H vs Q E hr hp => ?_)
  · obtain ⟨M, is, r, _⟩ := hp
    rw [r.length]
    rfl
  · obtain ⟨M, is, r, hl, done⟩ := hp
    obtain ⟨v, rfl, rv⟩ := rpA_one r
    let X : Cx := cxOf (L2.CX Pg w) Pg w K mg base nHand "_law_hand" (defScope s_l_hand) f cdv A outer s H E
    refine ⟨_, pss_cons psS (pss_cons psS (pss_one (ps_ret (pe_lst (pa_cons peS (pa_cons pe_int (pa_cons pe_int (pa_cons (pv 1) pa_nil)))))))), ?_⟩
    have S0 : SD K none (fun _ => False) (fun b o => H b = some o) (fun _ _ => False) (fun _ => False) H (L2.start nHand [v]) [.val (.zlst (is.map D.int)), .no, .no, .no] := by
      refine ⟨rfl, fun i d e => ?_, fun i d e => ?_, fun i j ds es p ne e => ?_, fun _ z => (nomatch z), fun _ z => z.elim, fun b o e => e, fun _ _ _ _ z => (nomatch z), fun _ _ z => z.elim, fun _ z => z.elim⟩
      · match i, e with
        | 0, e => cases e; exact ⟨v, rfl, rv.wid fun _ z => z.elim⟩
        | 1, e => cases e
        | 2, e => cases e
        | 3, e => cases e
        | n + 4, e => simp at e
      · match i, e with
        | 0, e => cases e
        | 1, e => cases e
        | 2, e => cases e
        | 3, e => cases e
        | n + 4, e => simp at e
      · match i, e with
        | 0, e => cases e
        | 1, e => cases e
        | 2, e => cases e
        | 3, e => cases e
        | n + 4, e => simp at e
    have tk : Takes X (fun cls d _ H' => E cls d H') := takes_of rfl rfl rfl rfl
    refine (ws_set (X := X) (P := ⟨fun δ => δ = [.val (.zlst (is.map D.int)), .val (.int 7), .no, .no], fun _ => False, fun _ => False, fun _ => False, fun _ _ _ => False⟩) 1 scHand.nd (we_int rfl)).run _ _ _ _ _ H _ _ tk S0 ⟨fun M1 σ1 H1 δ1 S1 e1 => ?_, fun _ _ _ _ _ _ _ _ z => z.elim, fun _ _ _ _ _ z => z.elim, fun _ _ _ _ _ z => z.elim, fun _ _ _ _ _ _ _ _ _ z => z.elim⟩
    subst e1
    refine (ws_forEn (X := X) (P := ⟨fun δ => ∃ (t : Int) (x y : Sl), δ = [.val (.zlst (is.map D.int)), .val (.int t), x, y], fun _ => False, fun _ => False, fun _ => False, fun _ _ _ => False⟩) 2 3 (fun k δ => ∃ (t : Int) (x y : Sl), δ = [.val (.zlst (is.map D.int)), .val (.int t), x, y]) (passes_of rfl) scHand.nd me (we_var 0 _ rfl ?_)).run _ _ _ _ _ H1 _ _ tk S1 ⟨fun M2 σ2 H2 δ2 S2 e2 => ?_, fun _ _ _ _ _ _ _ _ z => z.elim, fun _ _ _ _ _ z => z.elim, fun _ _ _ _ _ z => z.elim, fun _ _ _ _ _ _ _ _ _ z => z.elim⟩
    · refine ⟨_, .inr rfl, ⟨_, _, _, rfl⟩, fun k δ d hd ⟨t, x, y, e⟩ => ?_, fun δ z => z⟩
      subst e
      have hk : k < is.length := by have := (List.getElem?_eq_some_iff.mp hd).1; simpa using this
      obtain ⟨c, rfl⟩ : ∃ c : Int, d = .int c := by
        rw [List.getElem?_map] at hd
        obtain ⟨c, _, e⟩ := Option.map_eq_some_iff.mp hd
        exact ⟨c, e.symm⟩
      refine wb_cons (ws_set 1 scHand.nd ?_)
      repeat first | walk_at "ue" | refine we_intc rfl mi ?_
      exact wb_nil ⟨_, _, _, rfl⟩
    · obtain ⟨t, x, y, rfl⟩ := e2
      refine (wf_lcL (X := X) (Φ := fun ds => ∃ cs : List Int, ds = cs.map D.int) (Ψ := fun _ _ => False) 3 (fun k acc => ∃ cs : List Int, acc = cs.map D.int) scHand.nd (blkOk_by (by show blkC nHand (defScope s_l_hand) _ _ = true; decide +kernel)) (we_var 0 _ rfl ?_)).run _ _ _ _ _ H2 _ _ tk S2 (fun l H3 xs ds g3 S3 n3 hl3 r3 ⟨cs, e3⟩ => ?_) (fun _ _ _ _ _ _ _ z => z.elim)
      · refine ⟨_, .inr rfl, by simpa using hl, ⟨[], rfl⟩, fun k d acc hd ⟨cs, e⟩ s0 H0 C cl fp => ?_, fun acc _ z => z⟩
        obtain ⟨c, rfl⟩ : ∃ c : Int, d = .int c := by
          rw [List.getElem?_map] at hd
          obtain ⟨c, _, e⟩ := Option.map_eq_some_iff.mp hd
          exact ⟨c, e.symm⟩
        refine we_abs rfl ma ?_
        repeat first | walk_at "ue" | refine we_intc rfl mi ?_
        refine sAbs_int ⟨cs ++ [if c < 0 then -c else c], ?_⟩
        rw [e, List.map_append]
        rfl
      · subst e3
        have xe := rpA_ints r3
        subst xe
        obtain ⟨vt, et, rt⟩ := S3.val 1 _ rfl
        obtain rfl := rt.int_inv
        refine ⟨_, et, ?_⟩
        refine ⟨szOf (by show 4 ≤ 100000; decide), fun p hp => ?_⟩
        have n0 : ∀ b, H2 b = none → H b = none := fun b z => by
          cases y : H b with
          | none => rfl
          | some o => rw [S2.fk b o y] at z; cases z
        have n03 : ∀ b, H3 b = none → H b = none := fun b z => by
          cases y : H b with
          | none => rfl
          | some o => rw [S3.fk b o y] at z; cases z
        refine done ⟨p, l, cs⟩ t _ (n03 p hp) (n0 l n3) (fun z => ne_of_none hl3 hp z.symm) upd_same (by rw [upd_ne (ne_of_none hl3 hp)]; exact hl3) fun b o z => ?_
        rw [upd_ne (ne_of_none (S3.fk b o z) hp)]
        exact S3.fk b o z
end
end U18


set_option Elab.async false
set_option linter.all false
set_option maxRecDepth 100000
set_option maxHeartbeats 4000000
namespace U18
open PySem PySem.Spec PyProof.Rows L2 Uc
/-! steps: a name; an expression; a side condition -/
local macro_rules | `(tactic| walk_at "uv") => `(tactic| first
  | refine we_var 0 _ rfl ?_ | refine we_var 1 _ rfl ?_ | refine we_var 2 _ rfl ?_ | refine we_var 3 _ rfl ?_ | refine we_var 4 _ rfl ?_ | refine we_var 5 _ rfl ?_ | refine we_var 6 _ rfl ?_
  | refine we_var 7 _ rfl ?_ | refine we_var 8 _ rfl ?_ | refine we_var 9 _ rfl ?_ | refine we_var 10 _ rfl ?_ | refine we_var 11 _ rfl ?_ | refine we_var 12 _ rfl ?_ | refine we_var 13 _ rfl ?_)
local macro_rules | `(tactic| walk_at "us") => `(tactic| first
  | with_reducible exact trivial
  | ((with_reducible refine posI ?_); first | decide | omega)
  | ((with_reducible refine cmulR ?_ ?_) <;> decide)
  | ((with_reducible refine cmulL ?_ ?_) <;> omega)
  | ((with_reducible refine cmulR ?_ ?_) <;> omega)
  | ((with_reducible refine cdivW ?_ ?_) <;> first | decide | omega)
  | ((with_reducible refine cpow ?_ ?_ ?_) <;> decide))
local macro_rules | `(tactic| walk_at "ue") => `(tactic| first
  | with_reducible refine wa_nil ?_ | refine wa_cons ?_ | with_reducible refine we_int ?_ | with_reducible refine we_str ?_ | with_reducible refine we_bl ?_ | with_reducible refine we_non ?_ | walk_at "uv"
  | with_reducible refine we_add ?_ | with_reducible refine we_sub ?_ | with_reducible refine we_mul ?_ | with_reducible refine we_div ?_ | with_reducible refine we_mod ?_ | with_reducible refine we_pow ?_
  | with_reducible refine sAdd_int ?_ | with_reducible refine sInt_int ?_ | with_reducible refine sLen_lst ?_ | with_reducible refine sLen_tup ?_ | ((with_reducible refine sI_go ?c ?_); (case c => walk_at "us")))
section
variable {Pg : Program} {w : World} {K : PySem.W.Frag} {mg : Str → Option Value} {base : Heap} {f : Addr} {fd : FuncData}
abbrev nIni : List Str := ["self", "entries", "marks", "cells"]
abbrev fIni : List Str := ["entries", "marks", "cells"]
theorem scIni : FnScope nIni nIni (defScope s_Run_init) := ⟨rfl, rfl, rfl, by decide +kernel, rfl, by decide +kernel, by decide +kernel⟩
theorem ok_ini (Fn : FunD K "__init__" "Run.__init__" (defArgs s_Run_init) (defBody s_Run_init) (defScope s_Run_init) [] [] f fd) : FnOk Pg w K mg base (L2.CX Pg w) 1 f fd nIni (spIns K fIni) := by
  refine Fn.ok scIni (fun vs H Q E hp => ?_) (fun cdv A outer s H vs Q E hr hp => ?_)
  · obtain ⟨a, C, dx, ws, rfl, hl, _⟩ := hp
    show ws.length + 1 = 4
    rw [hl]
    rfl
  · obtain ⟨a, C, dx, ws, rfl, hl, hc, hf, ha, done⟩ := hp
    obtain ⟨x, y, z, rfl⟩ : ∃ x y z, ws = [x, y, z] := by
      match ws, hl with
      | [x, y, z], _ => exact ⟨x, y, z, rfl⟩
    refine ⟨_, pss_cons (ps_fld (pv 0) (pv 1) rfl) (pss_cons (ps_fld (pv 0) (pv 2) rfl) (pss_one (ps_fld (pv 0) (pv 3) rfl))), ?_⟩
    refine ⟨_, rfl, _, rfl, a, C, dx, [], rfl, ha, hc, hf _ (by decide), by decide, ?_⟩
    refine ⟨_, rfl, _, rfl, a, C, dx, _, rfl, upd_same, hc, hf _ (by decide), by show 1 < 1000; decide, ?_⟩
    refine ⟨_, rfl, _, rfl, a, C, dx, _, rfl, upd_same, hc, hf _ (by decide), by show 2 < 1000; decide, ?_⟩
    refine done _ (fun b o nb e => ?_) upd_same
    rw [upd_ne nb, upd_ne nb, upd_ne nb]
    exact e
/-! ### exact -/
/-- data that the law holds exact: None, whole numbers, texts, tuples of these to the depth n -/
inductive Dat : Nat → D → Prop
  | non (n : Nat) : Dat n .non
  | int (n : Nat) (i : Int) : Dat n (.int i)
  | str (n : Nat) (s : Str) : Dat n (.str s)
  | tup {n : Nat} {ds : List D} (h : ∀ d ∈ ds, Dat n d) (hl : ds.length ≤ 90000) : Dat (n + 1) (.tup ds)
def S_exact (n : Nat) : PSp := fun _ ds Φ _ => ∃ d, Dat n d ∧ ds = [d, d] ∧ Φ (.bl true)
abbrev nExact : List Str := ["_law_told", "_law_due", "_law_k"]
theorem scExact : FnScope nExact ["_law_told", "_law_due"] (defScope s_l_exact) := ⟨rfl, rfl, rfl, by decide +kernel, rfl, by decide +kernel, by decide +kernel⟩
abbrev cxE (Pg : Program) (w : World) (K : PySem.W.Frag) (mg : Str → Option Value) (base : Heap) (f : Addr) (cdv : Value) (A : Around) (outer : List Env) (s : Shared) (H : Hp) (E : XK) : Cx := cxOf (L2.CX Pg w) Pg w K mg base nExact "_law_exact" (defScope s_l_exact) f cdv A outer s H E
/-- a datum that is no tuple -/
theorem wb_exact0 (T : Txt K mg) {n : Nat} {cdv : Value} {A : Around} {outer : List Env} {s : Shared} {H : Hp} {E : XK} {h : Option Hd} {d : D} {Φ : D → Prop} {Ψ : Addr → List (Str × D) → Prop} (hr : Room n (A.deeper (envOfC "_law_exact" (defScope s_l_exact) s.heap.objs.size f cdv))) (hd : d = .non ∨ (∃ i, d = .int i) ∨ ∃ z, d = .str z) (k : Φ (.bl true)) :
    WB (cxE Pg w K mg base f cdv A outer s H E) h (defBody s_l_exact) [.val d, .val d, .no] { nx := fun _ => Φ .non, rt := Φ, ex := fun _ => Ψ } := by
  have mi : mg "isinstance" = none := T.fr _ (by decide +kernel)
  have mtup : mg "tuple" = none := T.fr _ (by decide +kernel)
  have mb : mg "bool" = none := T.fr _ (by decide +kernel)
  have ms : mg "str" = none := T.fr _ (by decide +kernel)
  have mint : mg "int" = none := T.fr _ (by decide +kernel)
  rcases hd with rfl | ⟨i, rfl⟩ | ⟨z, rfl⟩
  · refine wb_cons (ws_if (wt_val (we_isTy "tuple" rfl mi mtup (by decide) (we_var 1 _ rfl ⟨_, rfl, by decide, _, rfl, wb_nil ?_⟩))))
    refine wb_cons (ws_if (wt_isN (we_var 1 _ rfl ?_)))
    exact wb_cons (ws_ret (we_isN (we_var 0 _ rfl k)))
  · refine wb_cons (ws_if (wt_val (we_isTy "tuple" rfl mi mtup (by decide) (we_var 1 _ rfl ⟨_, rfl, by decide, _, rfl, wb_nil ?_⟩))))
    refine wb_cons (ws_if (wt_isN (we_var 1 _ rfl (wb_nil ?_))))
    refine wb_cons (ws_if (wt_val (we_isTy "bool" rfl mi mb (by decide) (we_var 1 _ rfl ⟨_, rfl, by decide, _, rfl, wb_nil ?_⟩))))
    refine wb_cons (ws_if (wt_val (we_isTy "str" rfl mi ms (by decide) (we_var 1 _ rfl ⟨_, rfl, by decide, _, rfl, wb_nil ?_⟩))))
    refine wb_cons (ws_ret (we_and (we_isTy "int" rfl mi mint (by decide) (we_var 0 _ rfl ⟨_, rfl, by decide, _, rfl, ?_⟩))))
    refine we_and (we_not (we_isTy "bool" rfl mi mb (by decide) (we_var 0 _ rfl ⟨_, rfl, by decide, _, rfl, _, rfl, ?_⟩)))
    refine we_one (we_eq (we_var 0 _ rfl (we_var 1 _ rfl ?_)))
    show Φ (.bl (decide (i = i)))
    rw [decide_eq_true rfl]
    exact k
  · refine wb_cons (ws_if (wt_val (we_isTy "tuple" rfl mi mtup (by decide) (we_var 1 _ rfl ⟨_, rfl, by decide, _, rfl, wb_nil ?_⟩))))
    refine wb_cons (ws_if (wt_isN (we_var 1 _ rfl (wb_nil ?_))))
    refine wb_cons (ws_if (wt_val (we_isTy "bool" rfl mi mb (by decide) (we_var 1 _ rfl ⟨_, rfl, by decide, _, rfl, wb_nil ?_⟩))))
    refine wb_cons (ws_if (wt_val (we_isTy "str" rfl mi ms (by decide) (we_var 1 _ rfl ⟨_, rfl, by decide, _, rfl, ?_⟩))))
    refine wb_cons (ws_ret (we_and (we_isTy "str" rfl mi ms (by decide) (we_var 0 _ rfl ⟨_, rfl, by decide, _, rfl, ?_⟩))))
    refine we_one (we_eq (we_var 0 _ rfl (we_var 1 _ rfl ?_)))
    show Φ (.bl (decide (z = z)))
    rw [decide_eq_true rfl]
    exact k
theorem ok_exact (T : Txt K mg) (Fn : FnP K "_law_exact" s_l_exact f fd) (g : mg "_law_exact" = some (.ref f)) : ∀ n : Nat, FnOk Pg w K mg base (L2.CX Pg w) (n + 1) f fd ["_law_told", "_law_due"] (spD K (S_exact n)) := by
  have mi : mg "isinstance" = none := T.fr _ (by decide +kernel)
  have mtup : mg "tuple" = none := T.fr _ (by decide +kernel)
  have ml : mg "len" = none := T.fr _ (by decide +kernel)
  have mr : mg "range" = none := T.fr _ (by decide +kernel)
  have bE : L2.Binds K fd ["_law_told", "_law_due"] [] := Fn.bindsN fun _ _ _ _ _ _ us hl => match us, hl with | [_, _], _ => rfl
  intro n
  induction n with
  | zero =>
    refine okD Fn scExact (fun h ds Φ Ψ ⟨d, _, e, _⟩ => by rw [e]; rfl) fun X h ds Φ Ψ cdv A outer s H E hr hS hX => ?_
    obtain ⟨d, dat, rfl, k⟩ := hS
    refine wb_lit (δ' := [_, _, _]) rfl (wb_exact0 T hr ?_ k)
    cases dat with
    | non => exact .inl rfl
    | int i => exact .inr (.inl ⟨_, rfl⟩)
    | str i => exact .inr (.inr ⟨_, rfl⟩)
  | succ n ih =>
    refine okD Fn scExact (fun h ds Φ Ψ ⟨d, _, e, _⟩ => by rw [e]; rfl) fun X h ds Φ Ψ cdv A outer s H E hr hS hX => ?_
    obtain ⟨d, dat, rfl, k⟩ := hS
    refine wb_lit (δ' := [_, _, _]) rfl ?_
    cases dat with
    | non => exact wb_exact0 T hr (.inl rfl) k
    | int i => exact wb_exact0 T hr (.inr (.inl ⟨_, rfl⟩)) k
    | str i => exact wb_exact0 T hr (.inr (.inr ⟨_, rfl⟩)) k
    | @tup _ ds hd hl =>
      refine wb_cons (ws_if (wt_val (we_isTy "tuple" rfl mi mtup (by decide) (we_var 1 _ rfl ⟨_, rfl, by decide, _, rfl, ?_⟩))))
      refine wb_cons (ws_if (wt_w (ww_or (wt_not (wt_val (we_isTy "tuple" rfl mi mtup (by decide) (we_var 0 _ rfl ⟨_, rfl, by decide, _, rfl, ?_⟩)))))))
      refine ww_or1 (wt_ne (we_len rfl ml (wa_cons (we_var 0 _ rfl (wa_nil ?_)))))
      refine we_len rfl ml (wa_cons (we_var 1 _ rfl (wa_nil ?_)))
      show (if (!decide ((ds.length : Int) = (ds.length : Int))) = true then _ else _)
      rw [decide_eq_true rfl]
      refine wb_nil ?_

      refine wb_cons (ws_ret (we_eqD hr (WF.we (wf_lc (wi := iRng1 (tCons (eS _ _) tNil)) 2 scExact.nd (blkOk_by (by show blkC nExact (defScope s_l_exact) _ _ = true; decide +kernel)) (pi_range1 rfl mr (pa_cons peS pa_nil rfl)) (wl_rng 2 (.inr ⟨_, rfl⟩) ?_) (.inr ⟨_, rfl⟩)))))
      refine we_len rfl ml (wa_cons (we_var 1 _ rfl (wa_nil ⟨_, rfl, by omega, by omega, ?_, fun _ acc => acc = [], rfl, fun k' d acc hk hl' hI => ?_, fun acc _ hI => ?_⟩)))
      · rw [List.length_map, List.length_range]
        omega
      · intro s0 H0 C cl fp
        obtain ⟨kl, e1⟩ := List.getElem?_eq_some_iff.mp hk
        rw [List.length_map, List.length_range] at kl
        rw [List.getElem_map, List.getElem_range] at e1
        subst e1
        obtain ⟨x, hx⟩ : ∃ x, ds[k']? = some x := ⟨_, List.getElem?_eq_getElem (by omega)⟩
        refine wt_not (wt_val (we_call none (.inr rfl) ih hr g Fn.kp bE (wa_cons (we_ix (we_var 0 _ rfl (we_var 2 _ rfl (sIx_tup (atI_nat hx) ?_)))))))
        refine wa_cons (we_ix (we_var 1 _ rfl (we_var 2 _ rfl (sIx_tup (atI_nat hx) (wa_nil ⟨x, hd x (List.mem_of_getElem? hx), rfl, _, rfl, ?_⟩)))))
        exact hI
      · subst hI
        refine we_lst (wa_nil ⟨by decide, sEqD_self (Fine.mono (Fine.lst (n := 0) (ds := []) (fun x hx => by cases hx)) (by decide)) k⟩)
end
end U18

set_option Elab.async false
set_option linter.all false
set_option maxRecDepth 100000
set_option maxHeartbeats 4000000
namespace U18
open PySem PySem.Spec PyProof.Rows L2 Uc
/-! steps: a name; an expression; a side condition -/
local macro_rules | `(tactic| walk_at "uv") => `(tactic| first
  | refine we_var 0 _ rfl ?_ | refine we_var 1 _ rfl ?_ | refine we_var 2 _ rfl ?_ | refine we_var 3 _ rfl ?_ | refine we_var 4 _ rfl ?_ | refine we_var 5 _ rfl ?_ | refine we_var 6 _ rfl ?_
  | refine we_var 7 _ rfl ?_ | refine we_var 8 _ rfl ?_ | refine we_var 9 _ rfl ?_ | refine we_var 10 _ rfl ?_ | refine we_var 11 _ rfl ?_ | refine we_var 12 _ rfl ?_ | refine we_var 13 _ rfl ?_)
local macro_rules | `(tactic| walk_at "us") => `(tactic| first
  | with_reducible exact trivial
  | ((with_reducible refine posI ?_); first | decide | omega)
  | ((with_reducible refine cmulR ?_ ?_) <;> decide)
  | ((with_reducible refine cmulL ?_ ?_) <;> omega)
  | ((with_reducible refine cmulR ?_ ?_) <;> omega)
  | ((with_reducible refine cdivW ?_ ?_) <;> first | decide | omega)
  | ((with_reducible refine cpow ?_ ?_ ?_) <;> decide))
local macro_rules | `(tactic| walk_at "ue") => `(tactic| first
  | with_reducible refine wa_nil ?_ | refine wa_cons ?_ | with_reducible refine we_int ?_ | with_reducible refine we_str ?_ | with_reducible refine we_bl ?_ | with_reducible refine we_non ?_ | walk_at "uv"
  | with_reducible refine we_add ?_ | with_reducible refine we_sub ?_ | with_reducible refine we_mul ?_ | with_reducible refine we_div ?_ | with_reducible refine we_mod ?_ | with_reducible refine we_pow ?_
  | with_reducible refine sAdd_int ?_ | with_reducible refine sInt_int ?_ | with_reducible refine sLen_lst ?_ | with_reducible refine sLen_tup ?_ | ((with_reducible refine sI_go ?c ?_); (case c => walk_at "us")))
section
variable {Pg : Program} {w : World} {K : PySem.W.Frag} {mg : Str → Option Value} {base : Heap} {f fM : Addr} {fd fdM : FuncData}
def strsT (L : List Str) : D := .tup (L.map D.str)
def inB (A B : List Str) (s : Str) : Bool := decide (s ∈ A) || decide (s ∈ B)
abbrev nMeets : List Str := ["_law_reads", "_law_writes", "_law_others", "_law_written", "_law_both", "_law_name"]
abbrev pMeets : List Str := ["_law_reads", "_law_writes", "_law_others", "_law_written"]
theorem scMeets : FnScope nMeets pMeets (defScope s_l_meets) := ⟨rfl, rfl, rfl, by decide +kernel, rfl, by decide +kernel, by decide +kernel⟩
def meets (R W O V : List Str) : List Str := W.filter (inB O V) ++ V.filter (inB R W)
def S_meets : PSp := fun _ ds Φ _ => ∃ R W O V : List Str, ds = [strsT R, strsT W, strsT O, strsT V] ∧ R.length ≤ 5 ∧ W.length ≤ 5 ∧ O.length ≤ 5 ∧ V.length ≤ 5 ∧ Φ (.lst ((meets R W O V).map D.str))
theorem ok_meets (Fn : FnP K "_law_meets" s_l_meets f fd) : FnOk Pg w K mg base (L2.CX Pg w) 1 f fd pMeets (spD K S_meets) := by
  refine okD Fn scMeets (fun h ds Φ Ψ ⟨R, W, O, V, e, _⟩ => by rw [e]; rfl) fun X h ds Φ Ψ cdv A outer s H E hr hS hX => ?_
  obtain ⟨R, W, O, V, rfl, lR, lW, lO, lV, k⟩ := hS
  refine wb_lit (δ' := [.val (strsT R), .val (strsT W), .val (strsT O), .val (strsT V), .no, .no]) rfl ?_
  refine wb_cons (ws_lcV (wi := iTup _ (eS _ _)) 4 5 scMeets.nd (blkOk_by (by show blkC nMeets (defScope s_l_meets) _ _ = true; decide +kernel)) (pi_tup peS) (wl_tup 5 (.inr ⟨_, rfl⟩) (we_var 1 _ rfl ⟨_, rfl, ?_⟩)) (.inr ⟨_, rfl⟩) (sw_true rfl rfl rfl (by decide +kernel)))
  refine walks_filter D.str D.str W (inB O V) (by omega) (fun z hz s0 H0 C cl fp => ?_) (fun z hz _ s0 H0 C cl fp => we_var 5 _ rfl rfl) ?_
  · refine wt_w (ww_or (wt_in (we_var 5 _ rfl (we_var 2 _ rfl ⟨z, O, rfl, .inr rfl, ?_⟩))))
    refine iteD (fun q => ?_) (fun q => ?_)
    · show true = _
      unfold inB
      rw [decide_eq_true q]
      rfl
    · refine ww_or1 (wt_in (we_var 5 _ rfl (we_var 3 _ rfl ⟨z, V, rfl, .inr rfl, ?_⟩)))
      unfold inB
      rw [decide_eq_false q]
      rfl
  · refine wb_lit (δ' := [.val (strsT R), .val (strsT W), .val (strsT O), .val (strsT V), .val (.lst ((W.filter (inB O V)).map D.str)), .no]) rfl ?_
    refine wb_cons (ws_ret (we_add (we_var 4 _ rfl (WF.we (wf_lc (wi := iTup _ (eS _ _)) 5 scMeets.nd (blkOk_by (by show blkC nMeets (defScope s_l_meets) _ _ = true; decide +kernel)) (pi_tup peS) (wl_tup 5 (.inr ⟨_, rfl⟩) (we_var 3 _ rfl ⟨_, rfl, ?_⟩)) (.inr ⟨_, rfl⟩))))))
    refine walks_filter D.str D.str V (inB R W) (by omega) (fun z hz s0 H0 C cl fp => ?_) (fun z hz _ s0 H0 C cl fp => we_var 5 _ rfl rfl) ?_
    · refine wt_w (ww_or (wt_in (we_var 5 _ rfl (we_var 0 _ rfl ⟨z, R, rfl, .inr rfl, ?_⟩))))
      refine iteD (fun q => ?_) (fun q => ?_)
      · show true = _
        unfold inB
        rw [decide_eq_true q]
        rfl
      · refine ww_or1 (wt_in (we_var 5 _ rfl (we_var 1 _ rfl ⟨z, W, rfl, .inr rfl, ?_⟩)))
        unfold inB
        rw [decide_eq_false q]
        rfl
    · refine sAdd_lst ?_ ?_
      · rw [List.length_map, List.length_map]
        have h1 := List.length_filter_le (inB O V) W
        have h2 := List.length_filter_le (inB R W) V
        omega
      · rw [← List.map_append]
        exact k
/-! ### meeting_of -/
def markT (m : List Str × List Str) : D := .tup [strsT m.1, strsT m.2]
abbrev nMof : List Str := ["one", "other", "names", "name"]
theorem scMof : FnScope nMof ["one", "other"] (defScope s_meeting_of) := ⟨rfl, rfl, rfl, by decide +kernel, rfl, by decide +kernel, by decide +kernel⟩
def met (a b : List Str × List Str) : List Str := a.2.filter (inB b.1 b.2) ++ b.2.filter fun s => decide (s ∈ a.1)
def few (a : List Str × List Str) : Prop := a.1.length ≤ 5 ∧ a.2.length ≤ 5
def S_mof : PSp := fun _ ds Φ _ => ∃ a b : List Str × List Str, ds = [markT a, markT b] ∧ few a ∧ few b ∧ Φ (leastD (met a b))
theorem ok_mof (T : Txt K mg) (Fn : FnP K "meeting_of" s_meeting_of f fd) : FnOk Pg w K mg base (L2.CX Pg w) 1 f fd ["one", "other"] (spD K S_mof) := by
  have mm : mg "min" = none := T.fr _ (by decide +kernel)
  refine okD Fn scMof (fun h ds Φ Ψ ⟨a, b, e, _⟩ => by rw [e]; rfl) fun X h ds Φ Ψ cdv A outer s H E hr hS hX => ?_
  obtain ⟨a, b, rfl, la, lb, k⟩ := hS
  refine wb_lit (δ' := [.val (markT a), .val (markT b), .no, .no]) rfl ?_
  refine wb_cons (ws_lcO (wi := iTup _ (eS _ _)) 2 3 scMof.nd (blkOk_by (by show blkC nMof (defScope s_meeting_of) _ _ = true; decide +kernel)) (pi_tup peS) (wl_tup 3 (.inr ⟨_, rfl⟩) (we_ix (we_var 0 _ rfl (we_int (sIx_tup (d := strsT a.2) rfl ⟨_, rfl, ?_⟩))))) (.inr ⟨_, rfl⟩) (sw_true rfl rfl rfl (by decide +kernel)))
  refine walks_filter D.str D.str a.2 (inB b.1 b.2) (by have := la.2; omega) (fun z hz s0 H0 C cl fp => ?_) (fun z hz _ s0 H0 C cl fp => we_var 3 _ rfl rfl) ?_
  · refine wt_w (ww_or (wt_in (we_var 3 _ rfl (we_ix (we_var 1 _ rfl (we_int (sIx_tup (d := strsT b.1) rfl ⟨z, b.1, rfl, .inr rfl, ?_⟩)))))))
    refine iteD (fun q => ?_) (fun q => ?_)
    · show true = _
      unfold inB
      rw [decide_eq_true q]
      rfl
    · refine ww_or1 (wt_in (we_var 3 _ rfl (we_ix (we_var 1 _ rfl (we_int (sIx_tup (d := strsT b.2) rfl ⟨z, b.2, rfl, .inr rfl, ?_⟩))))))
      unfold inB
      rw [decide_eq_false q]
      rfl
  · refine wb_lit (δ' := [.val (markT a), .val (markT b), .own ((a.2.filter (inB b.1 b.2)).map D.str), .no]) rfl ?_
    refine wb_cons (ws_ext 2 _ rfl (WF.we (wf_lc (wi := iTup _ (eS _ _)) 3 scMof.nd (blkOk_by (by show blkC nMof (defScope s_meeting_of) _ _ = true; decide +kernel)) (pi_tup peS) (wl_tup 3 (.inr ⟨_, rfl⟩) (we_ix (we_var 1 _ rfl (we_int (sIx_tup (d := strsT b.2) rfl ⟨_, rfl, ?_⟩))))) (.inr ⟨_, rfl⟩))))
    refine walks_filter D.str D.str b.2 (fun s => decide (s ∈ a.1)) (by have := lb.2; omega) (fun z hz s0 H0 C cl fp => ?_) (fun z hz _ s0 H0 C cl fp => we_var 3 _ rfl rfl) ?_
    · exact wt_in (we_var 3 _ rfl (we_ix (we_var 0 _ rfl (we_int (sIx_tup (d := strsT a.1) rfl ⟨z, a.1, rfl, .inr rfl, rfl⟩)))))
    · refine ⟨_, rfl, ?_, ?_⟩
      · rw [List.length_map, List.length_map]
        have h1 := List.length_filter_le (inB b.1 b.2) a.2
        have h2 := List.length_filter_le (fun s => decide (s ∈ a.1)) b.2
        have := la.2
        have := lb.2
        omega
      · rw [← List.map_append]
        refine wb_give (i := 2) rfl ?_
        refine wb_lit (δ' := [.val (markT a), .val (markT b), .val (.lst ((met a b).map D.str)), .no]) rfl ?_
        refine wb_cons (ws_ret (we_minS hr rfl mm (we_var 2 _ rfl ⟨_, rfl, we_non ⟨fun z => ?_, fun m hm hl => ?_⟩⟩)))
        · rw [z, leastD_nil] at k
          exact k
        · rw [leastD_of hm fun s hs => decide_eq_true (hl s hs)] at k
          exact k
/-! ### least_met -/
abbrev nLm : List Str := ["_law_one", "_law_other", "_law_both"]
theorem scLm : FnScope nLm ["_law_one", "_law_other"] (defScope s_l_least_met) := ⟨rfl, rfl, rfl, by decide +kernel, rfl, by decide +kernel, by decide +kernel⟩
def lets (L : List Str) : Prop := ∀ s ∈ L, PyData.canLay0 (.str s) = true
def good (a : List Str × List Str) : Prop := few a ∧ lets a.1 ∧ lets a.2
theorem met_same (a b : List Str × List Str) (s : Str) : s ∈ meets a.1 a.2 b.1 b.2 ↔ s ∈ met a b := by
  unfold meets met inB
  simp only [List.mem_append, List.mem_filter, Bool.or_eq_true, decide_eq_true_eq]
  constructor
  · rintro (⟨h1, h2⟩ | ⟨h1, h2 | h2⟩)
    · exact .inl ⟨h1, h2⟩
    · exact .inr ⟨h1, h2⟩
    · exact .inl ⟨h2, .inr h1⟩
  · rintro (⟨h1, h2⟩ | ⟨h1, h2⟩)
    · exact .inl ⟨h1, h2⟩
    · exact .inr ⟨h1, .inl h2⟩
def S_lm : PSp := fun _ ds Φ _ => ∃ a b : List Str × List Str, ds = [markT a, markT b] ∧ good a ∧ good b ∧ Φ (leastD (met a b))
theorem fine_strs {L : List Str} (h : lets L) (n : Nat) : ∀ d ∈ L.map D.str, Fine d n := fun d hd => by
  obtain ⟨s, hs, rfl⟩ := List.mem_map.mp hd
  exact Fine.str (h s hs) n
theorem ok_lm (T : Txt K mg) (Fn : FnP K "_law_least_met" s_l_least_met f fd) (FM : FnP K "_law_meets" s_l_meets fM fdM) (gM : mg "_law_meets" = some (.ref fM)) : FnOk Pg w K mg base (L2.CX Pg w) 2 f fd ["_law_one", "_law_other"] (spD K S_lm) := by
  have mso : mg "sorted" = none := T.fr _ (by decide +kernel)
  have GM : FnOk Pg w K mg base (L2.CX Pg w) 1 fM fdM pMeets (spD K S_meets) := ok_meets FM
  have bM : L2.Binds K fdM pMeets [] := FM.bindsN fun _ _ _ _ _ _ us hl => match us, hl with | [_, _, _, _], _ => rfl
  refine okD Fn scLm (fun h ds Φ Ψ ⟨a, b, e, _⟩ => by rw [e]; rfl) fun X h ds Φ Ψ cdv A outer s H E hr hS hX => ?_
  obtain ⟨a, b, rfl, ga, gb, k⟩ := hS
  refine wb_lit (δ' := [.val (markT a), .val (markT b), .no]) rfl ?_
  refine wb_cons (ws_set 2 scLm.nd (we_sorted hr rfl mso (wa_cons (we_call none (.inr rfl) GM hr gM FM.kp bM ?_))))
  refine wa_cons (we_ix (we_var 0 _ rfl (we_int (sIx_tup (d := strsT a.1) rfl ?_))))
  refine wa_cons (we_ix (we_var 0 _ rfl (we_int (sIx_tup (d := strsT a.2) rfl ?_))))
  refine wa_cons (we_ix (we_var 1 _ rfl (we_int (sIx_tup (d := strsT b.1) rfl ?_))))
  refine wa_cons (we_ix (we_var 1 _ rfl (we_int (sIx_tup (d := strsT b.2) rfl ?_))))
  refine wa_nil ⟨_, _, _, _, rfl, ga.1.1, ga.1.2, gb.1.1, gb.1.2, wa_nil ⟨fun d hd => ?_, ?_, ?_, ?_, ?_⟩⟩
  · obtain ⟨z, _, rfl⟩ := List.mem_map.mp hd
    exact ⟨.str z, rfl, by unfold PyData.depth; omega⟩
  · intro d hd d' hd'
    obtain ⟨z, hz, rfl⟩ := List.mem_map.mp hd
    obtain ⟨z', hz', rfl⟩ := List.mem_map.mp hd'
    obtain ⟨s, _, rfl⟩ := List.mem_map.mp hz
    obtain ⟨s', _, rfl⟩ := List.mem_map.mp hz'
    rfl
  · refine .inr fun d hd => ?_
    obtain ⟨z, hz, rfl⟩ := List.mem_map.mp hd
    obtain ⟨s, _, rfl⟩ := List.mem_map.mp hz
    exact ⟨fun z => (nomatch z), fun _ z => (nomatch z)⟩
  · rw [List.length_map]
    unfold meets
    rw [List.length_append]
    have h1 := List.length_filter_le (inB b.1 b.2) a.2
    have h2 := List.length_filter_le (inB a.1 a.2) b.2
    have := ga.1.2
    have := gb.1.2
    omega
  · rw [sort_strs]
    rw [← leastD_same (met_same a b)] at k
    have hlet : lets ((meets a.1 a.2 b.1 b.2).mergeSort leS) := fun s hs => by
      have hs' := List.mem_mergeSort.mp hs
      rcases List.mem_append.mp hs' with hs' | hs'
      · exact ga.2.2 s (List.mem_filter.mp hs').1
      · exact gb.2.2 s (List.mem_filter.mp hs').1
    unfold leastD at k
    generalize (meets a.1 a.2 b.1 b.2).mergeSort leS = L at k hlet ⊢
    refine wb_lit (δ' := [.val (markT a), .val (markT b), .val (.lst (L.map D.str))]) rfl ?_
    cases L with
    | nil =>
      refine wb_cons (ws_ret (we_ifx (wt_neD hr (we_var 2 _ rfl (we_lst (wa_nil ⟨by decide, ?_⟩))))))
      refine sEqD_self (Fine.mono (Fine.lst (n := 0) (ds := []) (fun x hx => by cases hx)) (by decide)) ?_
      exact we_non k
    | cons m ms =>
      refine wb_cons (ws_ret (we_ifx (wt_neD hr (we_var 2 _ rfl (we_lst (wa_nil ⟨by decide, ?_⟩))))))
      obtain ⟨p1, e1, c1, d1⟩ := Fine.mono (Fine.lst (fine_strs hlet 0)) (show 0 + 1 ≤ 64 by decide)
      obtain ⟨p2, e2, c2, d2⟩ := Fine.mono (Fine.lst (n := 0) (ds := []) (fun x hx => by cases hx)) (show 0 + 1 ≤ 64 by decide)
      refine ⟨p1, p2, e1, e2, ?_, ?_, ?_⟩
      · show (p1.canLay0 && decide (p1.depth ≤ 64)) = true
        rw [c1, decide_eq_true d1]
        rfl
      · show (p2.canLay0 && decide (p2.depth ≤ 64)) = true
        rw [c2, decide_eq_true d2]
        rfl
      · have ne : PyData.eqv p1 p2 = false := by
          have e2' : p2 = .list [] := by
            have z : (D.lst ([] : List D)).py = some (.list []) := by unfold D.py D.pyA; rfl
            rw [z] at e2
            exact (Option.some.inj e2).symm
          subst e2'
          unfold D.py at e1
          obtain ⟨ps, hp, rfl⟩ := Option.map_eq_some_iff.mp e1
          show PyData.eqv (.list ps) (.list []) = false
          cases ps with
          | nil =>
            rw [List.map_cons] at hp
            unfold D.pyA at hp
            split at hp
            · cases hp
            · cases hp
          | cons y ys => unfold PyData.eqv; rfl
        rw [ne]
        exact we_ix (we_var 2 _ rfl (we_int (sIx_lst (d := .str m) (show atI _ ((0 : Nat) : Int) = _ from atI_nat rfl) k)))
end
end U18

set_option Elab.async false
set_option linter.all false
set_option maxRecDepth 100000
set_option maxHeartbeats 4000000
namespace U18
open PySem PySem.Spec PyProof.Rows L2 Uc
/-! steps: a name; an expression; a side condition -/
local macro_rules | `(tactic| walk_at "uv") => `(tactic| first
  | refine we_var 0 _ rfl ?_ | refine we_var 1 _ rfl ?_ | refine we_var 2 _ rfl ?_ | refine we_var 3 _ rfl ?_ | refine we_var 4 _ rfl ?_ | refine we_var 5 _ rfl ?_ | refine we_var 6 _ rfl ?_
  | refine we_var 7 _ rfl ?_ | refine we_var 8 _ rfl ?_ | refine we_var 9 _ rfl ?_ | refine we_var 10 _ rfl ?_ | refine we_var 11 _ rfl ?_ | refine we_var 12 _ rfl ?_ | refine we_var 13 _ rfl ?_)
local macro_rules | `(tactic| walk_at "us") => `(tactic| first
  | with_reducible exact trivial
  | ((with_reducible refine posI ?_); first | decide | omega)
  | ((with_reducible refine cmulR ?_ ?_) <;> decide)
  | ((with_reducible refine cmulL ?_ ?_) <;> omega)
  | ((with_reducible refine cmulR ?_ ?_) <;> omega)
  | ((with_reducible refine cdivW ?_ ?_) <;> first | decide | omega)
  | ((with_reducible refine cpow ?_ ?_ ?_) <;> decide))
local macro_rules | `(tactic| walk_at "ue") => `(tactic| first
  | with_reducible refine wa_nil ?_ | refine wa_cons ?_ | with_reducible refine we_int ?_ | with_reducible refine we_str ?_ | with_reducible refine we_bl ?_ | with_reducible refine we_non ?_ | walk_at "uv"
  | with_reducible refine we_add ?_ | with_reducible refine we_sub ?_ | with_reducible refine we_mul ?_ | with_reducible refine we_div ?_ | with_reducible refine we_mod ?_ | with_reducible refine we_pow ?_
  | with_reducible refine sAdd_int ?_ | with_reducible refine sInt_int ?_ | with_reducible refine sLen_lst ?_ | with_reducible refine sLen_tup ?_ | ((with_reducible refine sI_go ?c ?_); (case c => walk_at "us")))
section
variable {Pg : Program} {w : World} {K : PySem.W.Frag} {mg : Str → Option Value} {base : Heap} {f fD : Addr} {fd fdD : FuncData}
def slLen : Option Sl → Nat
  | some (Sl.val (D.str t)) => t.length
  | _ => 0
abbrev lettersS : Str := "abcdefghijklmnopqrstuvwxyz0123456789 "
abbrev nNames : List Str := ["_law_hand_here", "_law_letters", "_law_found", "_law_k", "_law_name", "_law_step"]
theorem scNames : FnScope nNames ["_law_hand_here"] (defScope s_l_drawn_names) := ⟨rfl, rfl, rfl, by decide +kernel, rfl, by decide +kernel, by decide +kernel⟩
def S_names : PSp := fun h ds Φ _ => ∃ q : Hd, h = some q ∧ ds = [.at_ (.ref q.p)] ∧ ∀ ss : List Str, ss.length = 5 → lets ss → Φ (.lst (ss.map D.str))
theorem letters_at {j : Nat} (h : j < 37) : ∃ c, lettersS.cps.toList[j]? = some c ∧ c < 0x110000 := by
  have e : lettersS.cps.toList.length = 37 := by decide +kernel
  have hall : ∀ x ∈ lettersS.cps.toList, x < 0x110000 := by decide +kernel
  exact ⟨_, List.getElem?_eq_getElem (by omega), hall _ (List.getElem_mem _)⟩
theorem sign_lay {c : Nat} (h : c < 0x110000) : PyData.canLay0 (.str ⟨#[c]⟩) = true := by
  rw [canLay_str]
  show (#[c] : Array Nat).all (· < 0x110000) = true
  simp [h]
theorem ok_names (T : Txt K mg) (Fn : FnP K "_law_drawn_names" s_l_drawn_names f fd) (FD : FnP K "_law_draw" s_l_draw fD fdD) (GD : FnOk Pg w K mg base (L2.CX Pg w) 2 fD fdD ["_law_hand_here", "_law_many"] (spD K S_draw)) (gD : mg "_law_draw" = some (.ref fD)) : FnOk Pg w K mg base (L2.CX Pg w) 3 f fd ["_law_hand_here"] (spD K S_names) := by
  have mr : mg "range" = none := T.fr _ (by decide +kernel)
  have mso : mg "sorted" = none := T.fr _ (by decide +kernel)
  refine okD Fn scNames (fun h ds Φ Ψ ⟨q, _, e, _⟩ => by rw [e]; rfl) fun X h ds Φ Ψ cdv A outer s H E hr hS hX => ?_
  obtain ⟨q, rfl, rfl, k⟩ := hS
  have l1 : ∀ c : Nat, (⟨#[c]⟩ : Str).length = 1 := fun _ => rfl
  have e37 : lettersS.length = 37 := by decide +kernel
  refine wb_lit (δ' := [.val (.at_ (.ref q.p)), .no, .no, .no, .no, .no]) rfl ?_
  refine wb_cons (ws_set 1 scNames.nd (we_str ?_))
  refine wb_cons (ws_own 2 scNames.nd (wf_lst (wa_nil ⟨by decide, ?_⟩)))
  refine wb_lit (δ' := [.val (.at_ (.ref q.p)), .val (.str lettersS), .own [], .no, .no, .no]) rfl ?_
  refine wb_cons (ws_forR1 3 (fun i δ => ∃ (ss : List Str) (x y z : Sl), (ss.length = i ∧ lets ss ∧ ∀ s ∈ ss, s.length ≤ 4 + i) ∧ δ = [.val (.at_ (.ref q.p)), .val (.str lettersS), .own (ss.map D.str), x, y, z]) (passes_of rfl) scNames.nd mr (we_int ⟨5, rfl, by decide, by decide, ⟨[], _, _, _, ⟨rfl, (fun _ z => nomatch z), fun _ z => nomatch z⟩, rfl⟩, fun i δ' hi ⟨ss, x, y, z, ⟨hl, hlets, hlen⟩, e⟩ => ?_, fun δ' ⟨ss, x, y, z, ⟨hl, hlets, hlen⟩, e⟩ => ?_⟩))
  · subst e
    refine wb_lit (δ' := [.val (.at_ (.ref q.p)), .val (.str lettersS), .own (ss.map D.str), .val (.int i), y, z]) rfl ?_
    refine wb_cons (ws_set 4 scNames.nd (we_str ?_))
    refine wb_lit (δ' := [.val (.at_ (.ref q.p)), .val (.str lettersS), .own (ss.map D.str), .val (.int i), .val (.str ""), z]) rfl ?_
    refine wb_cons (ws_forR1 5 (fun j δ => ∃ (t : Str) (x : Sl), (t.length ≤ j ∧ PyData.canLay0 (.str t) = true) ∧ δ = [.val (.at_ (.ref q.p)), .val (.str lettersS), .own (ss.map D.str), .val (.int i), .val (.str t), x]) (passes_of rfl) scNames.nd mr (we_add (we_int (we_draw FD GD gD hr ?_))))
    repeat walk_at "ue"
    refine ⟨_, rfl, by decide, by decide, fun r r0 r4 => ?_⟩
    refine ⟨_, rfl, by omega, by omega, ⟨"", _, ⟨by decide, by rw [canLay_str]; decide +kernel⟩, rfl⟩, fun j δ' hj ⟨t, x, ⟨ht, hs⟩, e⟩ => ?_, fun δ' ⟨t, x, ⟨ht, hs⟩, e⟩ => ?_⟩
    · subst e
      refine wb_lit (δ' := [.val (.at_ (.ref q.p)), .val (.str lettersS), .own (ss.map D.str), .val (.int i), .val (.str t), .val (.int j)]) rfl ?_
      refine wb_cons (ws_set 4 scNames.nd (we_add (we_var 4 _ rfl (we_ix (we_var 1 _ rfl (we_draw FD GD gD hr ?_))))))
      repeat walk_at "ue"
      refine ⟨_, rfl, by decide, by decide, fun r2 r20 r26 => ?_⟩
      obtain ⟨j2, rfl⟩ := Int.eq_ofNat_of_zero_le r20
      obtain ⟨c, ec, hc⟩ := letters_at (j := j2) (by omega)
      refine sIx_str (szOf (by rw [e37]; decide)) (atI_nat ec) ?_
      refine sAdd_str (szOf (by rw [l1]; omega)) ?_
      refine wb_nil ⟨_, _, ⟨?_, canLay_app hs (sign_lay hc)⟩, rfl⟩
      rw [PySem.Str.length_append, l1]
      omega
    · subst e
      have ht4 : t.length ≤ 4 := by omega
      refine wb_cons (ws_while (fun δ => ∃ t : Str, (t.length ≤ 4 + (i + 1) ∧ PyData.canLay0 (.str t) = true) ∧ δ = [.val (.at_ (.ref q.p)), .val (.str lettersS), .own (ss.map D.str), .val (.int i), .val (.str t), x]) (fun δ => 4 + i + 2 - slLen δ[4]?) (passes_of rfl) ⟨t, ⟨by omega, hs⟩, rfl⟩ fun δ' ⟨t, ⟨ht, hs⟩, e⟩ => ?_)
      subst e
      refine wt_inO 2 ss rfl (we_var 4 _ rfl ⟨t, rfl, ?_⟩)
      refine iteD (fun hm => ?_) (fun hm => ?_)
      · have ht' := hlen t hm
        refine wb_cons (ws_set 4 scNames.nd (we_add (we_var 4 _ rfl (we_ix (we_var 1 _ rfl (we_var 3 _ rfl ?_))))))
        obtain ⟨c, ec, hc⟩ := letters_at (j := i) (by omega)
        refine sIx_str (szOf (by rw [e37]; decide)) (atI_nat ec) ?_
        refine sAdd_str (szOf (by rw [l1]; omega)) ?_
        refine wb_nil ⟨⟨_, ⟨?_, canLay_app hs (sign_lay hc)⟩, rfl⟩, ?_⟩
        · rw [PySem.Str.length_append, l1]
          omega
        · show 4 + i + 2 - (t ++ _).length < 4 + i + 2 - t.length
          rw [PySem.Str.length_append, l1]
          omega
      · refine wb_cons (ws_app 2 (ss.map D.str) rfl (by rw [List.length_map]; omega) (we_var 4 _ rfl (wb_nil ⟨ss ++ [t], _, _, _, ⟨by simp [hl], fun s hs' => ?_, fun s hs' => ?_⟩, by rw [List.map_append]; rfl⟩)))
        · rcases List.mem_append.mp hs' with hs' | hs'
          · exact hlets s hs'
          · rw [List.mem_singleton.mp hs']; exact hs
        · rcases List.mem_append.mp hs' with hs' | hs'
          · have := hlen s hs'; omega
          · rw [List.mem_singleton.mp hs']; exact ht
  · subst e
    have h5 : ss.length = 5 := hl
    refine wb_give (i := 2) rfl ?_
    refine wb_lit (δ' := [.val (.at_ (.ref q.p)), .val (.str lettersS), .val (.lst (ss.map D.str)), x, y, z]) rfl ?_
    refine wb_cons (ws_ret (we_sorted hr rfl mso (wa_cons (we_var 2 _ rfl (wa_nil ⟨fun d hd => ?_, ?_, ?_, by rw [List.length_map, h5]; decide, ?_⟩)))))
    · obtain ⟨z, _, rfl⟩ := List.mem_map.mp hd
      exact ⟨.str z, rfl, by unfold PyData.depth; omega⟩
    · intro d hd d' hd'
      obtain ⟨z, hz, rfl⟩ := List.mem_map.mp hd
      obtain ⟨z', hz', rfl⟩ := List.mem_map.mp hd'
      obtain ⟨s, _, rfl⟩ := List.mem_map.mp hz
      obtain ⟨s', _, rfl⟩ := List.mem_map.mp hz'
      rfl
    · refine .inr fun d hd => ?_
      obtain ⟨z, hz, rfl⟩ := List.mem_map.mp hd
      obtain ⟨s, _, rfl⟩ := List.mem_map.mp hz
      exact ⟨fun z => (nomatch z), fun _ z => (nomatch z)⟩
    · rw [sort_strs]
      exact k _ (by rw [List.length_mergeSort]; exact h5) fun s hs => hlets s (List.mem_mergeSort.mp hs)
/-! ### some -/
abbrev nSome : List Str := ["_law_hand_here", "_law_names", "_law_bits", "_law_k"]
theorem scSome : FnScope nSome ["_law_hand_here", "_law_names"] (defScope s_l_some) := ⟨rfl, rfl, rfl, by decide +kernel, rfl, by decide +kernel, by decide +kernel⟩
def S_some : PSp := fun h ds Φ _ => ∃ (q : Hd) (ss : List Str), h = some q ∧ ds = [.at_ (.ref q.p), .lst (ss.map D.str)] ∧ ss.length = 5 ∧ lets ss ∧ ∀ L : List Str, L.length ≤ 5 → lets L → Φ (strsT L)
theorem ok_some (T : Txt K mg) (Fn : FnP K "_law_some" s_l_some f fd) (FD : FnP K "_law_draw" s_l_draw fD fdD) (GD : FnOk Pg w K mg base (L2.CX Pg w) 2 fD fdD ["_law_hand_here", "_law_many"] (spD K S_draw)) (gD : mg "_law_draw" = some (.ref fD)) : FnOk Pg w K mg base (L2.CX Pg w) 3 f fd ["_law_hand_here", "_law_names"] (spD K S_some) := by
  have mr : mg "range" = none := T.fr _ (by decide +kernel)
  have mt : mg "tuple" = none := T.fr _ (by decide +kernel)
  refine okD Fn scSome (fun h ds Φ Ψ ⟨q, ss, _, e, _⟩ => by rw [e]; rfl) fun X h ds Φ Ψ cdv A outer s H E hr hS hX => ?_
  obtain ⟨q, ss, rfl, rfl, h5, hlets, k⟩ := hS
  refine wb_lit (δ' := [.val (.at_ (.ref q.p)), .val (.lst (ss.map D.str)), .no, .no]) rfl ?_
  refine wb_cons (ws_set 2 scSome.nd (we_draw FD GD gD hr ?_))
  repeat walk_at "ue"
  refine ⟨_, rfl, by decide, by decide, fun b b0 b32 => ?_⟩
  have rest : ∀ b : Int, WB (cxOf (L2.CX Pg w) Pg w K mg base nSome "_law_some" (defScope s_l_some) f cdv A outer s H E) (some q) ((defBody s_l_some).drop 2) [.val (.at_ (.ref q.p)), .val (.lst (ss.map D.str)), .val (.int b), .no] { nx := fun _ => Φ .non, rt := Φ, ex := fun _ => Ψ } := fun b => by
    refine wb_cons (ws_ret (we_tuple rfl mt (wa_cons (WF.we (wf_lc (wi := iRng1 (tCons (eS _ _) tNil)) 3 scSome.nd (blkOk_by (by show blkC nSome (defScope s_l_some) _ _ = true; decide +kernel)) (pi_range1 rfl mr (pa_cons peS pa_nil rfl)) (wl_rng 3 (.inr ⟨_, rfl⟩) (we_int ⟨5, rfl, by decide, by decide, ?_⟩)) (.inr ⟨_, rfl⟩))))))
    refine walks_filter (fun (k : Nat) => D.int (k : Int)) (fun k => D.str (ss.getD k "")) (List.range 5) (fun k => decide (Builtin.bitAnd (b / 2 ^ (k : Int).toNat) 1 = 1)) (by decide) (fun k' hk' s0 H0 C cl fp => ?_) (fun k' hk' _ s0 H0 C cl fp => ?_) ?_
    · refine wt_eq (we_band (we_shr (we_var 2 _ rfl (we_var 3 _ rfl (sI_go (Int.natCast_nonneg _) ?_)))))
      refine we_int (sI_go trivial (we_int ?_))
      rfl
    · have hk5 := List.mem_range.mp hk'
      have e : ss[k']? = some (ss.getD k' "") := by rw [List.getD_eq_getElem?_getD, List.getElem?_eq_getElem (by omega)]; rfl
      exact we_ix (we_var 1 _ rfl (we_var 3 _ rfl (sIx_lst (atI_nat (by rw [List.getElem?_map, e]; rfl)) rfl)))
    · refine wa_nil ?_
      have em : ((List.range 5).filter fun k : Nat => decide (Builtin.bitAnd (b / 2 ^ (k : Int).toNat) 1 = 1)).map (fun k => D.str (ss.getD k "")) = (((List.range 5).filter fun k : Nat => decide (Builtin.bitAnd (b / 2 ^ (k : Int).toNat) 1 = 1)).map fun k => ss.getD k "").map D.str := by
        rw [List.map_map]
        rfl
      rw [em]
      refine k _ ?_ ?_
      · rw [List.length_map]
        exact Nat.le_trans (List.length_filter_le _ _) (by rw [List.length_range]; exact Nat.le_refl 5)
      · intro s hs
        obtain ⟨k', hk', rfl⟩ := List.mem_map.mp hs
        have hk5 := List.mem_range.mp (List.mem_filter.mp hk').1
        rw [List.getD_eq_getElem?_getD, List.getElem?_eq_getElem (by omega)]
        exact hlets _ (List.getElem_mem _)
  refine wb_lit (δ' := [.val (.at_ (.ref q.p)), .val (.lst (ss.map D.str)), .val (.int b), .no]) rfl ?_
  refine wb_cons (ws_if (wt_gt (we_draw FD GD gD hr ?_)))
  repeat walk_at "ue"
  refine ⟨_, rfl, by decide, by decide, fun r2 r20 r23 => ?_⟩
  refine we_int (sI_go trivial ⟨_, rfl, ?_⟩)
  refine iteD (fun _ => ?_) (fun _ => wb_nil (rest b))
  refine wb_cons (ws_set 2 scSome.nd (we_band (we_var 2 _ rfl (we_draw FD GD gD hr ?_))))
  repeat walk_at "ue"
  refine ⟨_, rfl, by decide, by decide, fun r3 _ _ => sI_go trivial (wb_nil (rest _))⟩
end
end U18

set_option Elab.async false
set_option linter.all false
set_option maxRecDepth 100000
set_option maxHeartbeats 4000000
namespace U18
open PySem PySem.Spec PyProof.Rows L2 Uc
/-! steps: a name; an expression; a side condition -/
local macro_rules | `(tactic| walk_at "uv") => `(tactic| first
  | refine we_var 0 _ rfl ?_ | refine we_var 1 _ rfl ?_ | refine we_var 2 _ rfl ?_ | refine we_var 3 _ rfl ?_ | refine we_var 4 _ rfl ?_ | refine we_var 5 _ rfl ?_ | refine we_var 6 _ rfl ?_
  | refine we_var 7 _ rfl ?_ | refine we_var 8 _ rfl ?_ | refine we_var 9 _ rfl ?_ | refine we_var 10 _ rfl ?_ | refine we_var 11 _ rfl ?_ | refine we_var 12 _ rfl ?_ | refine we_var 13 _ rfl ?_)
local macro_rules | `(tactic| walk_at "us") => `(tactic| first
  | with_reducible exact trivial
  | ((with_reducible refine posI ?_); first | decide | omega)
  | ((with_reducible refine cmulR ?_ ?_) <;> decide)
  | ((with_reducible refine cmulL ?_ ?_) <;> omega)
  | ((with_reducible refine cmulR ?_ ?_) <;> omega)
  | ((with_reducible refine cdivW ?_ ?_) <;> first | decide | omega)
  | ((with_reducible refine cpow ?_ ?_ ?_) <;> decide))
local macro_rules | `(tactic| walk_at "ue") => `(tactic| first
  | with_reducible refine wa_nil ?_ | refine wa_cons ?_ | with_reducible refine we_int ?_ | with_reducible refine we_str ?_ | with_reducible refine we_bl ?_ | with_reducible refine we_non ?_ | walk_at "uv"
  | with_reducible refine we_add ?_ | with_reducible refine we_sub ?_ | with_reducible refine we_mul ?_ | with_reducible refine we_div ?_ | with_reducible refine we_mod ?_ | with_reducible refine we_pow ?_
  | with_reducible refine sAdd_int ?_ | with_reducible refine sInt_int ?_ | with_reducible refine sLen_lst ?_ | with_reducible refine sLen_tup ?_ | ((with_reducible refine sI_go ?c ?_); (case c => walk_at "us")))
/-! the rows of meetings, as the law and the program list them -/
abbrev Mark : Type := List Str × List Str
abbrev Ent : Type := Int × Int × Int
def entT (e : Ent) : D := .tup [.int e.1, .int e.2.1, .int e.2.2]
def isNon : D → Bool
  | .non => true
  | _ => false
def whoOf (es : List Ent) (i : Nat) : Int := (es.getD i (0, 0, 0)).1
def cellOf (ms : List Mark) (i j : Nat) : D := leastD (met (ms.getD i ([], [])) (ms.getD j ([], [])))
def rowD (ms : List Mark) (i j : Nat) : D := .tup [.int i, .int j, cellOf ms i j]
def gOk (es : List Ent) (ms : List Mark) (i j : Nat) : Bool := decide (i < j) && (!decide (whoOf es i = whoOf es j) && !isNon (cellOf ms i j))
def rowsTo (es : List Ent) (ms : List Mark) (i j : Nat) : List D := ((List.range j).filter (gOk es ms i)).map (rowD ms i)
def accTo (es : List Ent) (ms : List Mark) (n b i : Nat) : List D := (List.range i).flatMap fun i' => if i' < b then [] else rowsTo es ms i' n
theorem rowsTo_nil {es : List Ent} {ms : List Mark} {i j : Nat} (h : j ≤ i + 1) : rowsTo es ms i j = [] := by
  unfold rowsTo
  rw [List.filter_eq_nil_iff.mpr]
  · rfl
  · intro k hk
    have := List.mem_range.mp hk
    unfold gOk
    rw [decide_eq_false (by omega)]
    exact Bool.false_ne_true
theorem rowsTo_succ {es : List Ent} {ms : List Mark} {i j : Nat} : rowsTo es ms i (j + 1) = rowsTo es ms i j ++ if gOk es ms i j = true then [rowD ms i j] else [] := by
  unfold rowsTo
  rw [List.range_succ, List.filter_append, List.map_append]
  congr 1
  cases q : gOk es ms i j with
  | true => rw [List.filter_cons_of_pos q]; rfl
  | false => rw [List.filter_cons_of_neg (by rw [q]; decide)]; rfl
theorem accTo_succ {es : List Ent} {ms : List Mark} {n b i : Nat} : accTo es ms n b (i + 1) = accTo es ms n b i ++ if i < b then [] else rowsTo es ms i n := by
  unfold accTo
  rw [List.range_succ, List.flatMap_append]
  congr 1
  exact List.append_nil _
theorem accTo_nil {es : List Ent} {ms : List Mark} {n b : Nat} : ∀ {i : Nat}, i ≤ b → accTo es ms n b i = []
  | 0, _ => rfl
  | i + 1, h => by rw [accTo_succ, accTo_nil (by omega), if_pos (by omega)]; rfl
theorem rowsTo_len {es : List Ent} {ms : List Mark} {i j : Nat} : (rowsTo es ms i j).length ≤ j := by
  unfold rowsTo
  rw [List.length_map]
  exact Nat.le_trans (List.length_filter_le _ _) (by rw [List.length_range]; exact Nat.le_refl j)
theorem accTo_len {es : List Ent} {ms : List Mark} {n b : Nat} : ∀ {i : Nat}, (accTo es ms n b i).length ≤ i * n
  | 0 => by show 0 ≤ _; omega
  | i + 1 => by
    rw [accTo_succ, List.length_append, Nat.succ_mul]
    have h1 := accTo_len (es := es) (ms := ms) (n := n) (b := b) (i := i)
    have h2 := rowsTo_len (es := es) (ms := ms) (i := i) (j := n)
    split
    · simp; omega
    · omega
theorem leastD_form (L : List Str) : leastD L = .non ∨ ∃ m, leastD L = .str m := by
  unfold leastD
  split
  · exact .inl rfl
  · exact .inr ⟨_, rfl⟩
theorem getD_of {α : Type} {L : List α} {i : Nat} {x d : α} (h : L[i]? = some x) : L.getD i d = x := by rw [List.getD_eq_getElem?_getD, h]; rfl
section
variable {Pg : Program} {w : World} {K : PySem.W.Frag} {mg : Str → Option Value} {base : Heap} {f fM : Addr} {fd fdM : FuncData}
def runF (es : List Ent) (ms : List Mark) (x : D) : List (Str × D) := [("entries", .tup (es.map entT)), ("marks", .tup (ms.map markT)), ("cells", x)]
def runD (K : PySem.W.Frag) (es : List Ent) (ms : List Mark) (x : D) : D := .ins (He.ga K "Run") (runF es ms x)
abbrev nMin : List Str := ["run", "begin", "found", "at", "later", "cell"]
theorem scMin : FnScope nMin ["run", "begin"] (defScope s_meetings_in) := ⟨rfl, rfl, rfl, by decide +kernel, rfl, by decide +kernel, by decide +kernel⟩
def S_min (K : PySem.W.Frag) : PSp := fun _ ds Φ _ => ∃ (es : List Ent) (ms : List Mark) (x : D) (b : Nat), ds = [runD K es ms x, .int b] ∧ es.length = ms.length ∧ ms.length ≤ 12 ∧ b ≤ 1000 ∧ (∀ m ∈ ms, few m) ∧ Φ (.tup (accTo es ms ms.length b ms.length))
theorem run_fld {K : PySem.W.Frag} (T : Txt K mg) : Cls K (He.ga K "Run") ∧ ∀ f ∈ fIni, NoAttr K (He.ga K "Run") f := by
  have z := T.cls ("Run", fIni) (by decide +kernel)
  exact z.2
theorem look_e (es : List Ent) (ms : List Mark) (x : D) : List.lookup ("entries" : Str) (runF es ms x) = some (D.tup (es.map entT)) := by rfl
theorem look_m (es : List Ent) (ms : List Mark) (x : D) : List.lookup ("marks" : Str) (runF es ms x) = some (D.tup (ms.map markT)) := by rfl
theorem ok_min (T : Txt K mg) (Fn : FunD K "meetings_in" "meetings_in" (defArgs s_meetings_in) (defBody s_meetings_in) (defScope s_meetings_in) [.int 0] [] f fd) (FM : FnP K "meeting_of" s_meeting_of fM fdM) (gM : mg "meeting_of" = some (.ref fM)) : FnOk Pg w K mg base (L2.CX Pg w) 2 f fd ["run", "begin"] (spD K (S_min K)) := by
  have mr : mg "range" = none := T.fr _ (by decide +kernel)
  have mt : mg "tuple" = none := T.fr _ (by decide +kernel)
  have ml : mg "len" = none := T.fr _ (by decide +kernel)
  have GM : FnOk Pg w K mg base (L2.CX Pg w) 1 fM fdM ["one", "other"] (spD K S_mof) := ok_mof T FM
  have bM : L2.Binds K fdM ["one", "other"] [] := FM.bindsN fun _ _ _ _ _ _ us hl => match us, hl with | [_, _], _ => rfl
  obtain ⟨hC, hNo⟩ := run_fld T
  refine okD Fn scMin (fun h ds Φ Ψ ⟨es, ms, x, b, e, _⟩ => by rw [e]; rfl) fun X h ds Φ Ψ cdv A outer s H E hr hS hX => ?_
  obtain ⟨es, ms, x, b, rfl, hl, h12, hb, hfew, k⟩ := hS
  have small : ∀ i, i ≤ 12 → i * ms.length ≤ 144 := fun i hi => Nat.le_trans (Nat.mul_le_mul hi h12) (by decide)
  refine wb_lit (δ' := [.val (runD K es ms x), .val (.int b), .no, .no, .no, .no]) rfl ?_
  refine wb_cons (ws_own 2 scMin.nd (wf_lst (wa_nil ⟨by decide, ?_⟩)))
  refine wb_lit (δ' := [.val (runD K es ms x), .val (.int b), .own [], .no, .no, .no]) rfl ?_
  refine wb_cons (ws_forR2 3 (fun k δ => ∃ (i : Nat) (y z u : Sl), k = (i : Int) ∧ b ≤ i ∧ δ = [.val (runD K es ms x), .val (.int b), .own (accTo es ms ms.length b i), y, z, u]) (passes_of rfl) scMin.nd mr (wa_cons (we_var 1 _ rfl ?_)))
  refine wa_cons (we_len rfl ml (wa_cons (we_fld (we_var 0 _ rfl ⟨_, _, _, rfl, hC, hNo _ (by decide), look_e es ms x, wa_nil ?_⟩))))
  refine wa_nil ⟨(b : Int), ((es.map entT).length : Int), rfl, by omega, by omega, by rw [List.length_map]; omega, by rw [List.length_map]; omega, ⟨b, _, _, _, rfl, Nat.le_refl _, by rw [accTo_nil (Nat.le_refl b)]⟩, fun k' δ' h1 h2 ⟨i, y, z, u, ek, hbi, e⟩ => ?_, fun δ' k' ⟨i, y, z, u, ek, hbi, e⟩ hA hB => ?_⟩
  · subst e
    subst ek
    rw [List.length_map] at h2
    have hi : i < ms.length := by omega
    refine wb_lit (δ' := [.val (runD K es ms x), .val (.int b), .own (accTo es ms ms.length b i), .val (.int i), z, u]) rfl ?_
    refine wb_cons (ws_forR2 4 (fun k δ => ∃ (j : Nat) (z u : Sl), k = (j : Int) ∧ δ = [.val (runD K es ms x), .val (.int b), .own (accTo es ms ms.length b i ++ rowsTo es ms i j), .val (.int i), z, u]) (passes_of rfl) scMin.nd mr (wa_cons (we_add (we_var 3 _ rfl (we_int (sAdd_int ?_))))))
    refine wa_cons (we_len rfl ml (wa_cons (we_fld (we_var 0 _ rfl ⟨_, _, _, rfl, hC, hNo _ (by decide), look_e es ms x, wa_nil ?_⟩))))
    refine wa_nil ⟨(i : Int) + 1, ((es.map entT).length : Int), rfl, by omega, by omega, by rw [List.length_map]; omega, by rw [List.length_map]; omega, ⟨i + 1, _, _, by omega, by rw [rowsTo_nil (Nat.le_refl _), List.append_nil]⟩, fun k' δ' h3 h4 ⟨j, z, u, ek, e⟩ => ?_, fun δ' k' ⟨j, z, u, ek, e⟩ hA hB => ?_⟩
    · subst e
      subst ek
      rw [List.length_map] at h4
      have hj : j < ms.length := by omega
      have hij : i < j := by omega
      obtain ⟨ei, hei⟩ : ∃ x, es[i]? = some x := ⟨_, List.getElem?_eq_getElem (by omega)⟩
      obtain ⟨ej, hej⟩ : ∃ x, es[j]? = some x := ⟨_, List.getElem?_eq_getElem (by omega)⟩
      obtain ⟨mi, hmi⟩ : ∃ x, ms[i]? = some x := ⟨_, List.getElem?_eq_getElem (by omega)⟩
      obtain ⟨mj, hmj⟩ : ∃ x, ms[j]? = some x := ⟨_, List.getElem?_eq_getElem (by omega)⟩
      have wi : whoOf es i = ei.1 := by unfold whoOf; rw [getD_of hei]
      have wj : whoOf es j = ej.1 := by unfold whoOf; rw [getD_of hej]
      have cij : cellOf ms i j = leastD (met mi mj) := by unfold cellOf; rw [getD_of hmi, getD_of hmj]
      refine wb_lit (δ' := [.val (runD K es ms x), .val (.int b), .own (accTo es ms ms.length b i ++ rowsTo es ms i j), .val (.int i), .val (.int j), u]) rfl ?_
      refine wb_cons (ws_if (wt_ne (we_ix (we_ix (we_fld (we_var 0 _ rfl ⟨_, _, _, rfl, hC, hNo _ (by decide), look_e es ms x, we_var 3 _ rfl (sIx_tup (d := entT ei) (atI_nat (by rw [List.getElem?_map, hei]; rfl)) (we_int (sIx_tup (d := .int ei.1) rfl ?_)))⟩))))))
      refine we_ix (we_ix (we_fld (we_var 0 _ rfl ⟨_, _, _, rfl, hC, hNo _ (by decide), look_e es ms x, we_var 4 _ rfl (sIx_tup (d := entT ej) (atI_nat (by rw [List.getElem?_map, hej]; rfl)) (we_int (sIx_tup (d := .int ej.1) rfl ?_)))⟩)))
      refine iteND (fun hw => ?_) (fun hw => wb_nil ?_)
      · refine wb_cons (ws_set 5 scMin.nd (we_call none (.inr rfl) GM hr gM FM.kp bM (wa_cons (we_ix (we_fld (we_var 0 _ rfl ⟨_, _, _, rfl, hC, hNo _ (by decide), look_m es ms x, we_var 3 _ rfl (sIx_tup (d := markT mi) (atI_nat (by rw [List.getElem?_map, hmi]; rfl)) ?_)⟩))))))
        refine wa_cons (we_ix (we_fld (we_var 0 _ rfl ⟨_, _, _, rfl, hC, hNo _ (by decide), look_m es ms x, we_var 4 _ rfl (sIx_tup (d := markT mj) (atI_nat (by rw [List.getElem?_map, hmj]; rfl)) ?_)⟩)))
        refine wa_nil ⟨mi, mj, rfl, hfew mi (List.mem_of_getElem? hmi), hfew mj (List.mem_of_getElem? hmj), ?_⟩
        rw [← cij]
        refine wb_lit (δ' := [.val (runD K es ms x), .val (.int b), .own (accTo es ms ms.length b i ++ rowsTo es ms i j), .val (.int i), .val (.int j), .val (cellOf ms i j)]) rfl ?_
        refine wb_cons (ws_if (wt_notN (we_var 5 _ rfl ?_)))
        have gq : gOk es ms i j = !isNon (cellOf ms i j) := by
          unfold gOk
          rw [decide_eq_true hij, wi, wj, decide_eq_false hw]
          rfl
        rcases leastD_form (met mi mj) with q | ⟨m, q⟩
        · rw [cij, q] at gq ⊢
          have er : rowsTo es ms i (j + 1) = rowsTo es ms i j := by
            rw [rowsTo_succ, gq]
            exact List.append_nil _
          exact wb_nil (wb_nil (wb_nil ⟨j + 1, _, _, by omega, by rw [er]⟩))
        · have ec : cellOf ms i j = .str m := cij.trans q
          rw [ec] at gq
          rw [ec]
          refine wb_cons (ws_app 2 (accTo es ms ms.length b i ++ rowsTo es ms i j) rfl ?_ (we_tup (wa_cons (we_var 3 _ rfl (wa_cons (we_var 4 _ rfl (wa_cons (we_var 5 _ rfl (wa_nil ⟨by show 3 ≤ 100000; decide, ?_⟩)))))))))
          · rw [List.length_append]
            have z1 := accTo_len (es := es) (ms := ms) (n := ms.length) (b := b) (i := i)
            have z2 := rowsTo_len (es := es) (ms := ms) (i := i) (j := j)
            have z3 := small i (by omega)
            omega
          · have er : rowsTo es ms i (j + 1) = rowsTo es ms i j ++ [.tup [.int i, .int j, .str m]] := by
              rw [rowsTo_succ, gq]
              unfold rowD
              rw [ec]
              rfl
            exact wb_nil (wb_nil (wb_nil ⟨j + 1, _, _, by omega, by rw [er, ← List.append_assoc]; rfl⟩))
      · have gq : gOk es ms i j = false := by
          unfold gOk
          rw [wi, wj, decide_eq_true hw]
          exact Bool.and_false _
        have er : rowsTo es ms i (j + 1) = rowsTo es ms i j := by
          rw [rowsTo_succ, gq]
          exact List.append_nil _
        exact wb_nil ⟨j + 1, _, _, by omega, by rw [er]⟩
    · subst e
      rw [List.length_map] at hA hB
      have ej : j = ms.length := by
        have := hB (by omega)
        omega
      subst ej
      exact wb_nil ⟨i + 1, _, _, _, by omega, by omega, by rw [accTo_succ, if_neg (by omega)]⟩
  · subst e
    rw [List.length_map] at hA hB
    have ei : accTo es ms ms.length b i = accTo es ms ms.length b ms.length := by
      by_cases q : b ≤ ms.length
      · have := hB (by omega)
        rw [show i = ms.length from by omega]
      · have := hA (by omega)
        rw [show i = b from by omega, accTo_nil (Nat.le_refl b), accTo_nil (by omega)]
    rw [ei]
    refine wb_give (i := 2) rfl ?_
    refine wb_lit (δ' := [.val (runD K es ms x), .val (.int b), .val (.lst (accTo es ms ms.length b ms.length)), y, z, u]) rfl ?_
    exact wb_cons (ws_ret (we_tuple rfl mt (wa_cons (we_var 2 _ rfl (wa_nil k)))))
end
end U18

set_option Elab.async false
set_option linter.all false
set_option maxRecDepth 100000
set_option maxHeartbeats 4000000
namespace U18
open PySem PySem.Spec PyProof.Rows L2 Uc
section
variable {Pg : Program} {w : World} {K : PySem.W.Frag} {mg : Str → Option Value} {base : Heap} {f fM : Addr} {fd fdM : FuncData}
theorem b_min2 (F : FunD K "meetings_in" "meetings_in" (defArgs s_meetings_in) (defBody s_meetings_in) (defScope s_meetings_in) [.int 0] [] f fd) : L2.Binds K fd ["run", "begin"] [] := by
  obtain ⟨ds, r, b⟩ := F.binds1 (ps := ["run", "begin"]) 2 1 (by intro z; cases z) rfl fun T kV doc pm an cdv ct us its h1 h2 => by
    match us, h1, its, h2 with
    | [u1, u2], _, [d], _ => exact ⟨_, rfl, rfl⟩
  cases r
  exact b
theorem b_min1 (F : FunD K "meetings_in" "meetings_in" (defArgs s_meetings_in) (defBody s_meetings_in) (defScope s_meetings_in) [.int 0] [] f fd) : ∃ ds, Vals [V.int 0] ds ∧ L2.Binds K fd ["run", "begin"] ds := by
  obtain ⟨ds, r, b⟩ := F.binds1 (ps := ["run", "begin"]) 1 0 (by intro z; cases z) rfl fun T kV doc pm an cdv ct us its h1 h2 => by
    match us, h1, its, h2 with
    | [u1], _, [d], _ => exact ⟨_, rfl, rfl⟩
  exact ⟨ds, r, b⟩
theorem b_minK (F : FunD K "meetings_in" "meetings_in" (defArgs s_meetings_in) (defBody s_meetings_in) (defScope s_meetings_in) [.int 0] [] f fd) : ∃ g : List Value → List Value → List Value, KBn K fd ["run", "begin"] 1 ["begin"] g (fun us ws => us ++ ws) := by
  obtain ⟨its, b⟩ := F.kbindsD (ps := ["run", "begin"]) 1 ["begin"] (fun us _ ws => us ++ ws) (by intro z; cases z) (fun r1 _ r3 => r1.append r3) fun T kV doc pm an cdv ct us its ws h1 h2 h3 => by
    match us, h1, its, h2, ws, h3 with
    | [u1], _, [d], _, [v], _ => exact ⟨_, rfl, rfl⟩
  exact ⟨_, b⟩
end
end U18

set_option Elab.async false
set_option linter.all false
set_option maxRecDepth 100000
set_option maxHeartbeats 4000000
namespace U18
open PySem PySem.Spec PyProof.Rows L2 Uc
/-! steps: a name; an expression; a side condition -/
local macro_rules | `(tactic| walk_at "uv") => `(tactic| first
  | refine we_var 0 _ rfl ?_ | refine we_var 1 _ rfl ?_ | refine we_var 2 _ rfl ?_ | refine we_var 3 _ rfl ?_ | refine we_var 4 _ rfl ?_ | refine we_var 5 _ rfl ?_ | refine we_var 6 _ rfl ?_
  | refine we_var 7 _ rfl ?_ | refine we_var 8 _ rfl ?_ | refine we_var 9 _ rfl ?_ | refine we_var 10 _ rfl ?_ | refine we_var 11 _ rfl ?_ | refine we_var 12 _ rfl ?_ | refine we_var 13 _ rfl ?_)
local macro_rules | `(tactic| walk_at "us") => `(tactic| first
  | with_reducible exact trivial
  | ((with_reducible refine posI ?_); first | decide | omega)
  | ((with_reducible refine cmulR ?_ ?_) <;> decide)
  | ((with_reducible refine cmulL ?_ ?_) <;> omega)
  | ((with_reducible refine cmulR ?_ ?_) <;> omega)
  | ((with_reducible refine cdivW ?_ ?_) <;> first | decide | omega)
  | ((with_reducible refine cpow ?_ ?_ ?_) <;> decide))
local macro_rules | `(tactic| walk_at "ue") => `(tactic| first
  | with_reducible refine wa_nil ?_ | refine wa_cons ?_ | with_reducible refine we_int ?_ | with_reducible refine we_str ?_ | with_reducible refine we_bl ?_ | with_reducible refine we_non ?_ | walk_at "uv"
  | with_reducible refine we_add ?_ | with_reducible refine we_sub ?_ | with_reducible refine we_mul ?_ | with_reducible refine we_div ?_ | with_reducible refine we_mod ?_ | with_reducible refine we_pow ?_
  | with_reducible refine sAdd_int ?_ | with_reducible refine sInt_int ?_ | with_reducible refine sLen_lst ?_ | with_reducible refine sLen_tup ?_ | ((with_reducible refine sI_go ?c ?_); (case c => walk_at "us")))
section
variable {Pg : Program} {w : World} {K : PySem.W.Frag} {mg : Str → Option Value} {base : Heap} {f : Addr} {fd : FuncData}
abbrev nLaw : List Str := ["_law_script", "_law_hand_here", "_law_names", "_law_few", "_law_entries", "_law_marks", "_law_k", "_law_who", "_law_run", "_law_due", "_law_i", "_law_j", "_law_cell", "_law_begin", "_law_row"]
theorem scLaw : FnScope nLaw ["_law_script"] (defScope s_law) := ⟨rfl, rfl, rfl, by decide +kernel, rfl, by decide +kernel, by decide +kernel⟩
def S_law : PSp := fun h ds Φ _ => ∃ ns : List Int, h = none ∧ ds = [.zlst (ns.map D.int)] ∧ ns.length ≤ 90000 ∧ Φ (.bl true)
theorem dat_least (L : List Str) (n : Nat) : Dat n (leastD L) := by
  rcases leastD_form L with q | ⟨m, q⟩
  · rw [q]; exact .non n
  · rw [q]; exact .str n m
theorem dat_row (ms : List Mark) (i j : Nat) : Dat 1 (rowD ms i j) := by
  refine .tup (fun d hd => ?_) (by show 3 ≤ 90000; decide)
  rcases List.mem_cons.mp hd with rfl | hd
  · exact .int _ _
  · rcases List.mem_cons.mp hd with rfl | hd
    · exact .int _ _
    · rw [List.mem_singleton.mp hd]
      exact dat_least _ _
theorem mem_rows {es : List Ent} {ms : List Mark} {i j : Nat} {d : D} (h : d ∈ rowsTo es ms i j) : ∃ j', d = rowD ms i j' := by
  unfold rowsTo at h
  obtain ⟨j', _, rfl⟩ := List.mem_map.mp h
  exact ⟨j', rfl⟩
theorem mem_acc {es : List Ent} {ms : List Mark} {n b i : Nat} {d : D} (h : d ∈ accTo es ms n b i) : ∃ i' j', d = rowD ms i' j' := by
  unfold accTo at h
  obtain ⟨i', _, hd⟩ := List.mem_flatMap.mp h
  split at hd
  · cases hd
  · obtain ⟨j', e⟩ := mem_rows hd
    exact ⟨i', j', e⟩
theorem dat_acc (es : List Ent) (ms : List Mark) (b : Nat) (h : ms.length ≤ 12) : Dat 2 (.tup (accTo es ms ms.length b ms.length)) := by
  refine .tup (fun d hd => ?_) ?_
  · obtain ⟨i, j, rfl⟩ := mem_acc hd
    exact dat_row _ _ _
  · have z1 := accTo_len (es := es) (ms := ms) (n := ms.length) (b := b) (i := ms.length)
    have z2 : ms.length * ms.length ≤ 12 * 12 := Nat.mul_le_mul h h
    omega
/-- the rows from b on -/
def fromB (b : Nat) : D → Bool
  | .tup (.int i :: _) => decide ((b : Int) ≤ i)
  | _ => false
theorem rows_from {es : List Ent} {ms : List Mark} {i j b : Nat} : (rowsTo es ms i j).filter (fromB b) = if i < b then [] else rowsTo es ms i j := by
  split
  · refine List.filter_eq_nil_iff.mpr fun d hd => ?_
    obtain ⟨j', rfl⟩ := mem_rows hd
    show ¬ decide ((b : Int) ≤ (i : Int)) = true
    rw [decide_eq_true_eq]
    omega
  · refine List.filter_eq_self.mpr fun d hd => ?_
    obtain ⟨j', rfl⟩ := mem_rows hd
    show decide ((b : Int) ≤ (i : Int)) = true
    rw [decide_eq_true_eq]
    omega
theorem acc_from {es : List Ent} {ms : List Mark} {n b : Nat} : ∀ i : Nat, (accTo es ms n 0 i).filter (fromB b) = accTo es ms n b i
  | 0 => rfl
  | i + 1 => by
    rw [accTo_succ, List.filter_append, acc_from i, accTo_succ, if_neg (Nat.not_lt_zero i), rows_from]
theorem ok_law (T : Txt K mg) (Fn : FnP K "law" s_law f fd) (oHand : Ok Pg w K mg base "_law_hand" 1 ["_law_script"] (spHand K)) (oDraw : Ok Pg w K mg base "_law_draw" 2 ["_law_hand_here", "_law_many"] (spD K S_draw))
    (oNames : Ok Pg w K mg base "_law_drawn_names" 3 ["_law_hand_here"] (spD K S_names)) (oSome : Ok Pg w K mg base "_law_some" 3 ["_law_hand_here", "_law_names"] (spD K S_some)) (oLm : Ok Pg w K mg base "_law_least_met" 2 ["_law_one", "_law_other"] (spD K S_lm))
    (oMof : Ok Pg w K mg base "meeting_of" 1 ["one", "other"] (spD K S_mof)) (oEx : ∀ n, Ok Pg w K mg base "_law_exact" (n + 1) ["_law_told", "_law_due"] (spD K (S_exact n)))
    {fm : Addr} {fdm : FuncData} (FMin : FunD K "meetings_in" "meetings_in" (defArgs s_meetings_in) (defBody s_meetings_in) (defScope s_meetings_in) [.int 0] [] fm fdm) (gMin : mg "meetings_in" = some (.ref fm)) (GMin : FnOk Pg w K mg base (L2.CX Pg w) 2 fm fdm ["run", "begin"] (spD K (S_min K)))
    {fi : Addr} {fdi : FuncData} (FIni : FunD K "__init__" "Run.__init__" (defArgs s_Run_init) (defBody s_Run_init) (defScope s_Run_init) [] [] (He.ma K (He.ga K "Run") "__init__") fdi) (GIni : FnOk Pg w K mg base (L2.CX Pg w) 1 (He.ma K (He.ga K "Run") "__init__") fdi nIni (spIns K fIni)) :
    FnOk Pg w K mg base (L2.CX Pg w) 4 f fd ["_law_script"] (spD K S_law) := by
  have mr : mg "range" = none := T.fr _ (by decide +kernel)
  have mt : mg "tuple" = none := T.fr _ (by decide +kernel)
  have ml : mg "len" = none := T.fr _ (by decide +kernel)
  have gRun : mg "Run" = some (.ref (He.ga K "Run")) := T.g _ (by decide +kernel)
  have hMk := (T.cls ("Run", fIni) (by decide +kernel)).1
  obtain ⟨hC, hNo⟩ := run_fld T
  have bIni : L2.Binds K fdi nIni [] := FIni.bindsN fun _ _ _ _ _ _ us hl => match us, hl with | [_, _, _, _], _ => rfl
  have bMin := b_min2 FMin
  obtain ⟨dus, hdus, bMin1⟩ := b_min1 FMin
  obtain ⟨gK, bMinK⟩ := b_minK FMin
  refine okD Fn scLaw (fun h ds Φ Ψ ⟨ns, _, e, _⟩ => by rw [e]; rfl) fun X h ds Φ Ψ cdv A0 outer s H E hr hS hX => ?_
  obtain ⟨ns, rfl, rfl, hl, k⟩ := hS
  have hr2 : Room 2 _ := hr.mono (by decide : 2 ≤ 3)
  have hr1 : Room 1 _ := hr.mono (by decide : 1 ≤ 3)
  obtain ⟨fH, fdH, hmH, hkH, hbH, FH⟩ := oHand.ex
  refine wb_hand 1 scLaw.nd FH hr1 hmH hkH hbH (we_var 0 _ rfl ⟨ns, rfl, hl, fun q => ?_⟩)
  refine wb_lit (δ' := [.val (.zlst (ns.map D.int)), .val (.at_ (.ref q.p)), .no, .no, .no, .no, .no, .no, .no, .no, .no, .no, .no, .no, .no]) rfl ?_
  refine wb_cons (ws_set 2 scLaw.nd (we_ok oNames (some q) (.inl rfl) hr (wa_cons (we_var 1 _ rfl (wa_nil ⟨q, rfl, rfl, fun ss h5 hlets => ?_⟩)))))
  refine wb_lit (δ' := [.val (.zlst (ns.map D.int)), .val (.at_ (.ref q.p)), .val (.lst (ss.map D.str)), .no, .no, .no, .no, .no, .no, .no, .no, .no, .no, .no, .no]) rfl ?_
  refine wb_cons (ws_set 3 scLaw.nd (we_add (we_int (we_ok oDraw (some q) (.inl rfl) hr2 (wa_cons (we_var 1 _ rfl (wa_cons (we_int (wa_nil ⟨q, _, rfl, rfl, by decide, by decide, fun few0 f0 f2 => ?_⟩)))))))))
  refine sAdd_int ?_
  refine wb_lit (δ' := [.val (.zlst (ns.map D.int)), .val (.at_ (.ref q.p)), .val (.lst (ss.map D.str)), .val (.int (2 + few0)), .no, .no, .no, .no, .no, .no, .no, .no, .no, .no, .no]) rfl ?_
  refine wb_cons (ws_own 4 scLaw.nd (wf_lst (wa_nil ⟨by decide, ?_⟩)))
  refine wb_cons (ws_own 5 scLaw.nd (wf_lst (wa_nil ⟨by decide, ?_⟩)))
  refine wb_lit (δ' := [.val (.zlst (ns.map D.int)), .val (.at_ (.ref q.p)), .val (.lst (ss.map D.str)), .val (.int (2 + few0)), .own [], .own [], .no, .no, .no, .no, .no, .no, .no, .no, .no]) rfl ?_
  refine wb_cons (ws_forR1 6 (fun i δ => ∃ (es : List Ent) (ms : List Mark) (x y : Sl), (es.length = i ∧ ms.length = i ∧ ∀ m ∈ ms, good m) ∧ δ = [.val (.zlst (ns.map D.int)), .val (.at_ (.ref q.p)), .val (.lst (ss.map D.str)), .val (.int (2 + few0)), .own (es.map entT), .own (ms.map markT), x, y, .no, .no, .no, .no, .no, .no, .no]) (passes_of rfl) scLaw.nd mr (we_ok oDraw (some q) (.inl rfl) hr2 (wa_cons (we_var 1 _ rfl (wa_cons (we_int (wa_nil ⟨q, _, rfl, rfl, by decide, by decide, fun n n0 n13 => ?_⟩)))))))
  refine ⟨n, rfl, by omega, by omega, ⟨[], [], _, _, ⟨rfl, rfl, fun _ z => nomatch z⟩, rfl⟩, fun i δ' hi ⟨es, ms, x, y, ⟨le, lm, hg⟩, e⟩ => ?_, fun δ' ⟨es, ms, x, y, ⟨le, lm, hg⟩, e⟩ => ?_⟩
  · subst e
    have turn : ∀ who : Int, WB (cxOf (L2.CX Pg w) Pg w K mg base nLaw "law" (defScope s_law) f cdv A0 outer s H E) (some q) (match (defBody s_law).getD 5 (.Pass ⟨0, 0, 0, 0⟩) with | .For _ _ b _ _ => b.drop 1 | _ => [])
        [.val (.zlst (ns.map D.int)), .val (.at_ (.ref q.p)), .val (.lst (ss.map D.str)), .val (.int (2 + few0)), .own (es.map entT), .own (ms.map markT), .val (.int i), .val (.int who), .no, .no, .no, .no, .no, .no, .no]
        { nx := fun δ => ∃ (es : List Ent) (ms : List Mark) (x y : Sl), (es.length = i + 1 ∧ ms.length = i + 1 ∧ ∀ m ∈ ms, good m) ∧ δ = [.val (.zlst (ns.map D.int)), .val (.at_ (.ref q.p)), .val (.lst (ss.map D.str)), .val (.int (2 + few0)), .own (es.map entT), .own (ms.map markT), x, y, .no, .no, .no, .no, .no, .no, .no], rt := Φ, ex := fun _ => Ψ } := fun who => by
      refine wb_cons (ws_app 4 (es.map entT) rfl (by rw [List.length_map]; omega) (we_tup (wa_cons (we_var 7 _ rfl (wa_cons (we_ok oDraw (some q) (.inl rfl) hr2 (wa_cons (we_var 1 _ rfl (wa_cons (we_int (wa_nil ⟨q, _, rfl, rfl, by decide, by decide, fun c c0 c4 => ?_⟩)))))))))))
      refine wa_cons (we_ok oDraw (some q) (.inl rfl) hr2 (wa_cons (we_var 1 _ rfl (wa_cons (we_int (wa_nil ⟨q, _, rfl, rfl, by decide, by decide, fun a a0 a3 => ?_⟩))))))
      refine wa_nil ⟨by show 3 ≤ 100000; decide, ?_⟩
      refine wb_lit (δ' := [.val (.zlst (ns.map D.int)), .val (.at_ (.ref q.p)), .val (.lst (ss.map D.str)), .val (.int (2 + few0)), .own ((es ++ [(who, c, a)]).map entT), .own (ms.map markT), .val (.int i), .val (.int who), .no, .no, .no, .no, .no, .no, .no]) (by rw [List.map_append]; rfl) ?_
      refine wb_cons (ws_app 5 (ms.map markT) rfl (by rw [List.length_map]; omega) (we_tup (wa_cons (we_ok oSome (some q) (.inl rfl) hr (wa_cons (we_var 1 _ rfl (wa_cons (we_var 2 _ rfl (wa_nil ⟨q, ss, rfl, rfl, h5, hlets, fun L1 l1 t1 => ?_⟩)))))))))
      refine wa_cons (we_ok oSome (some q) (.inl rfl) hr (wa_cons (we_var 1 _ rfl (wa_cons (we_var 2 _ rfl (wa_nil ⟨q, ss, rfl, rfl, h5, hlets, fun L2 l2 t2 => ?_⟩))))))
      refine wa_nil ⟨by show 2 ≤ 100000; decide, ?_⟩
      refine wb_nil ⟨es ++ [(who, c, a)], ms ++ [(L1, L2)], _, _, ⟨by simp [le], by simp [lm], fun m hm => ?_⟩, by rw [List.map_append (f := markT)]; rfl⟩
      rcases List.mem_append.mp hm with hm | hm
      · exact hg m hm
      · rw [List.mem_singleton.mp hm]
        exact ⟨⟨l1, l2⟩, t1, t2⟩
    refine wb_lit (δ' := [.val (.zlst (ns.map D.int)), .val (.at_ (.ref q.p)), .val (.lst (ss.map D.str)), .val (.int (2 + few0)), .own (es.map entT), .own (ms.map markT), .val (.int i), y, .no, .no, .no, .no, .no, .no, .no]) rfl ?_
    refine wb_cons (ws_set 7 scLaw.nd (we_ifx (wt_eq (we_ok oDraw (some q) (.inl rfl) hr2 (wa_cons (we_var 1 _ rfl (wa_cons (we_int (wa_nil ⟨q, _, rfl, rfl, by decide, by decide, fun r r0 r4 => ?_⟩)))))))))
    refine we_int ?_
    refine iteD (fun _ => ?_) (fun _ => ?_)
    · exact we_ok oDraw (some q) (.inl rfl) hr2 (wa_cons (we_var 1 _ rfl (wa_cons (we_int (wa_nil ⟨q, _, rfl, rfl, by decide, by decide, fun who _ _ => wb_lit rfl (wb_mono (turn who) (fun _ z => z) (fun _ z => z) (fun _ z => z.elim) (fun _ z => z.elim) (fun _ _ _ z => z))⟩)))))
    · exact we_ok oDraw (some q) (.inl rfl) hr2 (wa_cons (we_var 1 _ rfl (wa_cons (we_var 3 _ rfl (wa_nil ⟨q, _, rfl, rfl, by omega, by omega, fun who _ _ => wb_lit rfl (wb_mono (turn who) (fun _ z => z) (fun _ z => z) (fun _ z => z.elim) (fun _ z => z.elim) (fun _ _ _ z => z))⟩)))))
  · subst e
    refine wb_give (i := 4) rfl (wb_give (i := 5) rfl ?_)
    refine wb_lit (δ' := [.val (.zlst (ns.map D.int)), .val (.at_ (.ref q.p)), .val (.lst (ss.map D.str)), .val (.int (2 + few0)), .val (.lst (es.map entT)), .val (.lst (ms.map markT)), x, y, .no, .no, .no, .no, .no, .no, .no]) rfl ?_
    have h12 : ms.length ≤ 12 := by omega
    have hlen : es.length = ms.length := by omega
    have hfew : ∀ m ∈ ms, few m := fun m hm => (hg m hm).1
    have small : ∀ i, i ≤ 12 → i * ms.length ≤ 144 := fun i hi => Nat.le_trans (Nat.mul_le_mul hi h12) (by decide)
    refine wb_cons (ws_set 8 scLaw.nd (we_new hMk hC hNo GIni hr2 bIni gRun (wa_cons (we_tuple rfl mt (wa_cons (we_var 4 _ rfl (wa_nil ?_)))))))
    refine wa_cons (we_tuple rfl mt (wa_cons (we_var 5 _ rfl (wa_nil ?_))))
    refine wa_cons (we_dnew fun v => wa_nil ⟨rfl, ?_⟩)
    refine wb_lit (δ' := [.val (.zlst (ns.map D.int)), .val (.at_ (.ref q.p)), .val (.lst (ss.map D.str)), .val (.int (2 + few0)), .val (.lst (es.map entT)), .val (.lst (ms.map markT)), x, y, .val (runD K es ms (.at_ v)), .no, .no, .no, .no, .no, .no]) rfl ?_
    refine wb_cons (ws_own 9 scLaw.nd (wf_lst (wa_nil ⟨by decide, ?_⟩)))
    refine wb_lit (δ' := [.val (.zlst (ns.map D.int)), .val (.at_ (.ref q.p)), .val (.lst (ss.map D.str)), .val (.int (2 + few0)), .val (.lst (es.map entT)), .val (.lst (ms.map markT)), x, y, .val (runD K es ms (.at_ v)), .own [], .no, .no, .no, .no, .no]) rfl ?_
    refine wb_cons (ws_forR1 10 (fun i δ => ∃ a b c : Sl, δ = [.val (.zlst (ns.map D.int)), .val (.at_ (.ref q.p)), .val (.lst (ss.map D.str)), .val (.int (2 + few0)), .val (.lst (es.map entT)), .val (.lst (ms.map markT)), x, y, .val (runD K es ms (.at_ v)), .own (accTo es ms ms.length 0 i), a, b, c, .no, .no]) (passes_of rfl) scLaw.nd mr (we_len rfl ml (wa_cons (we_var 4 _ rfl (wa_nil ⟨_, rfl, by rw [List.length_map]; omega, by omega, ⟨_, _, _, rfl⟩, fun i δ' hi ⟨a, b, c, e⟩ => ?_, fun δ' ⟨a, b, c, e⟩ => ?_⟩)))))
    · subst e
      rw [List.length_map] at hi
      refine wb_lit (δ' := [.val (.zlst (ns.map D.int)), .val (.at_ (.ref q.p)), .val (.lst (ss.map D.str)), .val (.int (2 + few0)), .val (.lst (es.map entT)), .val (.lst (ms.map markT)), x, y, .val (runD K es ms (.at_ v)), .own (accTo es ms ms.length 0 i), .val (.int i), b, c, .no, .no]) rfl ?_
      refine wb_cons (ws_forR1 11 (fun j δ => ∃ b c : Sl, δ = [.val (.zlst (ns.map D.int)), .val (.at_ (.ref q.p)), .val (.lst (ss.map D.str)), .val (.int (2 + few0)), .val (.lst (es.map entT)), .val (.lst (ms.map markT)), x, y, .val (runD K es ms (.at_ v)), .own (accTo es ms ms.length 0 i ++ rowsTo es ms i j), .val (.int i), b, c, .no, .no]) (passes_of rfl) scLaw.nd mr (we_len rfl ml (wa_cons (we_var 4 _ rfl (wa_nil ⟨_, rfl, by rw [List.length_map]; omega, by omega, ⟨_, _, by rw [rowsTo_nil (Nat.zero_le _), List.append_nil]⟩, fun j δ' hj ⟨b, c, e⟩ => ?_, fun δ' ⟨b, c, e⟩ => ?_⟩)))))
      · subst e
        rw [List.length_map] at hj
        obtain ⟨ei, hei⟩ : ∃ x, es[i]? = some x := ⟨_, List.getElem?_eq_getElem (by omega)⟩
        obtain ⟨ej, hej⟩ : ∃ x, es[j]? = some x := ⟨_, List.getElem?_eq_getElem (by omega)⟩
        obtain ⟨mi, hmi⟩ : ∃ x, ms[i]? = some x := ⟨_, List.getElem?_eq_getElem (by omega)⟩
        obtain ⟨mj, hmj⟩ : ∃ x, ms[j]? = some x := ⟨_, List.getElem?_eq_getElem (by omega)⟩
        have wi : whoOf es i = ei.1 := by unfold whoOf; rw [getD_of hei]
        have wj : whoOf es j = ej.1 := by unfold whoOf; rw [getD_of hej]
        have cij : cellOf ms i j = leastD (met mi mj) := by unfold cellOf; rw [getD_of hmi, getD_of hmj]
        have gmi := hg mi (List.mem_of_getElem? hmi)
        have gmj := hg mj (List.mem_of_getElem? hmj)
        refine wb_lit (δ' := [.val (.zlst (ns.map D.int)), .val (.at_ (.ref q.p)), .val (.lst (ss.map D.str)), .val (.int (2 + few0)), .val (.lst (es.map entT)), .val (.lst (ms.map markT)), x, y, .val (runD K es ms (.at_ v)), .own (accTo es ms ms.length 0 i ++ rowsTo es ms i j), .val (.int i), .val (.int j), c, .no, .no]) rfl ?_
        refine wb_cons (ws_set 12 scLaw.nd (we_ok oLm none (.inr rfl) hr2 (wa_cons (we_ix (we_var 5 _ rfl (we_var 10 _ rfl (sIx_lst (d := markT mi) (atI_nat (by rw [List.getElem?_map, hmi]; rfl)) ?_)))))))
        refine wa_cons (we_ix (we_var 5 _ rfl (we_var 11 _ rfl (sIx_lst (d := markT mj) (atI_nat (by rw [List.getElem?_map, hmj]; rfl)) ?_))))
        refine wa_nil ⟨mi, mj, rfl, gmi, gmj, ?_⟩
        rw [← cij]
        refine wb_lit (δ' := [.val (.zlst (ns.map D.int)), .val (.at_ (.ref q.p)), .val (.lst (ss.map D.str)), .val (.int (2 + few0)), .val (.lst (es.map entT)), .val (.lst (ms.map markT)), x, y, .val (runD K es ms (.at_ v)), .own (accTo es ms ms.length 0 i ++ rowsTo es ms i j), .val (.int i), .val (.int j), .val (cellOf ms i j), .no, .no]) rfl ?_
        refine wb_cons (ws_if (wt_not (wt_val (we_ok (oEx 0) none (.inr rfl) hr1 (wa_cons (we_ok oMof none (.inr rfl) hr1 (wa_cons (we_ix (we_var 5 _ rfl (we_var 10 _ rfl (sIx_lst (d := markT mi) (atI_nat (by rw [List.getElem?_map, hmi]; rfl)) ?_)))))))))))
        refine wa_cons (we_ix (we_var 5 _ rfl (we_var 11 _ rfl (sIx_lst (d := markT mj) (atI_nat (by rw [List.getElem?_map, hmj]; rfl)) ?_))))
        refine wa_nil ⟨mi, mj, rfl, gmi.1, gmj.1, ?_⟩
        rw [← cij]
        refine wa_cons (we_var 12 _ rfl (wa_nil ⟨_, cij ▸ dat_least _ 0, rfl, true, rfl, ?_⟩))
        refine wb_nil ?_
        refine wb_cons (ws_if (wt_w (ww_and (wt_lt (we_var 10 _ rfl (we_var 11 _ rfl (sI_go trivial ⟨_, rfl, ?_⟩)))))))
        have same : gOk es ms i j = false → rowsTo es ms i (j + 1) = rowsTo es ms i j := fun z => by
          rw [rowsTo_succ, z]
          exact List.append_nil _
        refine iteD (fun hij => ?_) (fun hij => ?_)
        · have hij' : i < j := by omega
          have gq : gOk es ms i j = (!decide (ei.1 = ej.1) && !isNon (cellOf ms i j)) := by
            unfold gOk
            rw [decide_eq_true hij', wi, wj]
            rfl
          refine ww_and (wt_notN (we_var 12 _ rfl ?_))
          rcases leastD_form (met mi mj) with z | ⟨m, z⟩
          · have ec : cellOf ms i j = .non := cij.trans z
            rw [ec] at gq ⊢
            refine wb_nil (wb_nil ⟨_, _, by rw [same (gq.trans (Bool.and_false _))]⟩)
          · have ec : cellOf ms i j = .str m := cij.trans z
            rw [ec] at gq ⊢
            refine ww_and1 (wt_ne (we_ix (we_ix (we_var 4 _ rfl (we_var 10 _ rfl (sIx_lst (d := entT ei) (atI_nat (by rw [List.getElem?_map, hei]; rfl)) (we_int (sIx_tup (d := .int ei.1) rfl ?_))))))))
            refine we_ix (we_ix (we_var 4 _ rfl (we_var 11 _ rfl (sIx_lst (d := entT ej) (atI_nat (by rw [List.getElem?_map, hej]; rfl)) (we_int (sIx_tup (d := .int ej.1) rfl ?_))))))
            refine iteND (fun hw => ?_) (fun hw => ?_)
            · rw [decide_eq_false hw] at gq
              have er : rowsTo es ms i (j + 1) = rowsTo es ms i j ++ [.tup [.int i, .int j, .str m]] := by
                rw [rowsTo_succ, gq]
                unfold rowD
                rw [ec]
                rfl
              refine wb_cons (ws_app 9 (accTo es ms ms.length 0 i ++ rowsTo es ms i j) rfl ?_ (we_tup (wa_cons (we_var 10 _ rfl (wa_cons (we_var 11 _ rfl (wa_cons (we_var 12 _ rfl (wa_nil ⟨by show 3 ≤ 100000; decide, ?_⟩)))))))))
              · rw [List.length_append]
                have z1 := accTo_len (es := es) (ms := ms) (n := ms.length) (b := 0) (i := i)
                have z2 := rowsTo_len (es := es) (ms := ms) (i := i) (j := j)
                have z3 := small i (by omega)
                omega
              · exact wb_nil (wb_nil ⟨_, _, by rw [er, ← List.append_assoc]; rfl⟩)
            · rw [decide_eq_true hw] at gq
              exact wb_nil (wb_nil ⟨_, _, by rw [same (gq.trans (Bool.false_and _))]⟩)
        · have gq : gOk es ms i j = false := by
            unfold gOk
            rw [decide_eq_false (by omega)]
            rfl
          exact wb_nil (wb_nil ⟨_, _, by rw [same gq]⟩)
      · subst e
        exact wb_nil ⟨_, _, _, by rw [accTo_succ, if_neg (Nat.not_lt_zero i), List.length_map, hlen]; rfl⟩
    · subst e
      have el : (es.map entT).length = ms.length := by rw [List.length_map]; exact hlen
      refine wb_give (i := 9) rfl ?_
      refine wb_lit (δ' := [.val (.zlst (ns.map D.int)), .val (.at_ (.ref q.p)), .val (.lst (ss.map D.str)), .val (.int (2 + few0)), .val (.lst (es.map entT)), .val (.lst (ms.map markT)), x, y, .val (runD K es ms (.at_ v)), .val (.lst (accTo es ms ms.length 0 ms.length)), a, b, c, .no, .no]) (by show _ = _; rw [Int.toNat_natCast, el]; rfl) ?_
      refine wb_cons (ws_if (wt_not (wt_val (we_ok (oEx 2) none (.inr rfl) hr (wa_cons (we_callD none (.inr rfl) GMin hr2 gMin FMin.kp bMin1 hdus (dds := [.int 0]) (fun _ _ => .cons (.int 0) .nil) (wa_cons (we_var 8 _ rfl (wa_nil ⟨es, ms, _, 0, rfl, hlen, h12, by decide, hfew, ?_⟩)))))))))
      refine wa_cons (we_tuple rfl mt (wa_cons (we_var 9 _ rfl (wa_nil ?_))))
      refine wa_nil ⟨_, dat_acc es ms 0 h12, rfl, true, rfl, wb_nil ?_⟩
      refine wb_cons (ws_forR1 13 (fun i δ => ∃ b' : Sl, δ = [.val (.zlst (ns.map D.int)), .val (.at_ (.ref q.p)), .val (.lst (ss.map D.str)), .val (.int (2 + few0)), .val (.lst (es.map entT)), .val (.lst (ms.map markT)), x, y, .val (runD K es ms (.at_ v)), .val (.lst (accTo es ms ms.length 0 ms.length)), a, b, c, b', .no]) (passes_of rfl) scLaw.nd mr (we_add (we_len rfl ml (wa_cons (we_var 4 _ rfl (wa_nil (we_int (sAdd_int ⟨_, rfl, by rw [List.length_map]; omega, by omega, ⟨_, rfl⟩, fun i δ' hi ⟨b', e⟩ => ?_, fun δ' ⟨b', e⟩ => ?_⟩))))))))
      · subst e
        rw [List.length_map] at hi
        refine wb_lit (δ' := [.val (.zlst (ns.map D.int)), .val (.at_ (.ref q.p)), .val (.lst (ss.map D.str)), .val (.int (2 + few0)), .val (.lst (es.map entT)), .val (.lst (ms.map markT)), x, y, .val (runD K es ms (.at_ v)), .val (.lst (accTo es ms ms.length 0 ms.length)), a, b, c, .val (.int i), .no]) rfl ?_
        refine wb_cons (ws_if (wt_not (wt_val (we_ok (oEx 2) none (.inr rfl) hr (wa_cons (we_call none (.inr rfl) GMin hr2 gMin FMin.kp bMin (wa_cons (we_var 8 _ rfl (wa_cons (we_var 13 _ rfl (wa_nil ⟨es, ms, _, i, rfl, hlen, h12, by omega, hfew, ?_⟩)))))))))))
        refine wa_cons (we_tuple rfl mt (wa_cons (WF.we (wf_lc (wi := iList _ (eS _ _)) 14 scLaw.nd (blkOk_by (by show blkC nLaw (defScope s_law) _ _ = true; decide +kernel)) (pi_list peS) (wl_list 14 (.inr ⟨_, rfl⟩) (we_var 9 _ rfl ⟨_, .inl rfl, ?_⟩)) (.inr ⟨_, rfl⟩)))))
        have wk := fun (X : Cx) (h : Option Hd) (scope : Scope) (c elt : Expr) (δ : List Sl) (Φ : List D → Prop) => walks_filter (X := X) (h := h) (i := 14) (scope := scope) (c := c) (elt := elt) (δ := δ) (Φ := Φ) (fun d : D => d) (fun d : D => d) (accTo es ms ms.length 0 ms.length) (fromB i)
        simp only [List.map_id'] at wk
        refine wk _ _ _ _ _ _ _ ?_ (fun d hd s0 H0 C cl fp => ?_) (fun d hd _ s0 H0 C cl fp => we_var 14 _ rfl rfl) ?_
        · have z1 := accTo_len (es := es) (ms := ms) (n := ms.length) (b := 0) (i := ms.length)
          have z3 := small ms.length h12
          omega
        · obtain ⟨i', j', rfl⟩ := mem_acc hd
          exact wt_ge (we_ix (we_var 14 _ rfl (we_int (sIx_tup (d := .int i') rfl (we_var 13 _ rfl (sI_go trivial ⟨_, rfl, rfl⟩))))))
        · rw [acc_from]
          refine wa_nil ?_
          exact wa_nil ⟨_, dat_acc es ms i h12, rfl, true, rfl, wb_nil (wb_nil ⟨_, rfl⟩)⟩
      · subst e
        have fe : Fine (.tup (es.map entT)) 2 := by
          refine Fine.tup fun d hd => ?_
          obtain ⟨e, _, rfl⟩ := List.mem_map.mp hd
          refine Fine.tup fun y hy => ?_
          rcases List.mem_cons.mp hy with rfl | hy
          · exact Fine.int _ _
          · rcases List.mem_cons.mp hy with rfl | hy
            · exact Fine.int _ _
            · rw [List.mem_singleton.mp hy]
              exact Fine.int _ _
        have fm : Fine (.tup (ms.map markT)) 3 := by
          refine Fine.tup fun d hd => ?_
          obtain ⟨m, hm, rfl⟩ := List.mem_map.mp hd
          refine Fine.tup fun y hy => ?_
          rcases List.mem_cons.mp hy with rfl | hy
          · exact Fine.tup (fine_strs (hg m hm).2.1 0)
          · rw [List.mem_singleton.mp hy]
            exact Fine.tup (fine_strs (hg m hm).2.2 0)
        refine wb_cons (ws_ret (we_and (we_ok (oEx 2) none (.inr rfl) hr (wa_cons (we_callK1 none (.inr rfl) GMin hr2 gMin FMin.kp bMinK (fun _ _ => rfl) (we_var 8 _ rfl (we_int ⟨es, ms, _, 0, rfl, hlen, h12, by decide, hfew, ?_⟩)))))))
        refine wa_cons (we_tuple rfl mt (wa_cons (we_var 9 _ rfl (wa_nil ?_))))
        refine wa_nil ⟨_, dat_acc es ms 0 h12, rfl, true, rfl, ?_⟩
        refine we_and (we_eqD hr (we_fld (we_var 8 _ rfl ⟨_, _, _, rfl, hC, hNo _ (by decide), look_e es ms _, we_tuple rfl mt (wa_cons (we_var 4 _ rfl (wa_nil ?_)))⟩)))
        refine sTuple_lst (sEqD_self (Fine.mono fe (by decide)) ⟨true, rfl, ?_⟩)
        refine we_one (we_eqD hr (we_fld (we_var 8 _ rfl ⟨_, _, _, rfl, hC, hNo _ (by decide), look_m es ms _, we_tuple rfl mt (wa_cons (we_var 5 _ rfl (wa_nil ?_)))⟩)))
        exact sTuple_lst (sEqD_self (Fine.mono fm (by decide)) k)
end
end U18

set_option Elab.async false
set_option linter.all false
set_option maxRecDepth 100000
set_option maxHeartbeats 0
namespace U18
open PySem PySem.Spec PyProof.Rows L2 Uc
abbrev R : PySem.W.OpenRow := PySem.W.OpenLaw.row PySem.Challenge.rw_unmetcells_k18_whole_meetings_of_marks
abbrev hk : PySem.W.Hook := hookU 5 B fn
def ob (s : PySem.W.SharedT) : He.AlD := obsUG 5 B fn (HandSHeadRun.getT s)
theorem run (w : World) : HandSHeadRun.RunEq R (PySem.W.view R.prog [14]) hk ob 60000 loose w := by
  intro os
  kernel_rfl
end U18

set_option Elab.async false
set_option linter.all false
set_option maxRecDepth 100000
set_option maxHeartbeats 4000000
namespace U18
open PySem PySem.Spec PyProof.Rows L2 Uc
theorem ob_eq (s : PySem.W.SharedT) : ob s = hk.obs s.abs := obsUG_eq (HandSHeadRun.getT_eq s)
theorem facts {Pg : Program} {w : World} {h : Heap} {mg : Str → Option Value} {fa : Addr} {K : PySem.W.Frag} (X : K.In h) (G : h.Ns mainGlobals mg) (hfa : mg ("law" : Str) = some (.ref fa)) (c : SaysU B fn K) :
    ∃ fd : FuncData, (∀ (s : Shared) (v : Value), BindsTo s fd ⟨[v], []⟩ [("_law_script", v)]) ∧ ∀ base : Heap, K.In base → base.Ns mainGlobals mg → FnOk Pg w K mg base (L2.CX Pg w) 4 fa fd ["_law_script"] (spD K S_law) := by
  have T : Txt K mg := txt_of X G c.b
  obtain ⟨fd_ini, F_ini⟩ := c.d.def_ 0 (d := d_Run_init) rfl
  obtain ⟨fd_mof, F_mof⟩ := c.d.def_ 1 (d := d_meeting_of) rfl
  have g_mof : mg "meeting_of" = some (.ref (He.ga K "meeting_of")) := T.g _ (by decide +kernel)
  obtain ⟨fd_min, F_min⟩ := c.d.def_ 2 (d := d_meetings_in) rfl
  have g_min : mg "meetings_in" = some (.ref (He.ga K "meetings_in")) := T.g _ (by decide +kernel)
  obtain ⟨fd_mix, F_mix⟩ := c.d.def_ 3 (d := d_l_mix) rfl
  have g_mix : mg "_law_mix" = some (.ref (He.ga K "_law_mix")) := T.g _ (by decide +kernel)
  obtain ⟨fd_hand, F_hand⟩ := c.d.def_ 4 (d := d_l_hand) rfl
  have g_hand : mg "_law_hand" = some (.ref (He.ga K "_law_hand")) := T.g _ (by decide +kernel)
  obtain ⟨fd_draw, F_draw⟩ := c.d.def_ 5 (d := d_l_draw) rfl
  have g_draw : mg "_law_draw" = some (.ref (He.ga K "_law_draw")) := T.g _ (by decide +kernel)
  obtain ⟨fd_exact, F_exact⟩ := c.d.def_ 6 (d := d_l_exact) rfl
  have g_exact : mg "_law_exact" = some (.ref (He.ga K "_law_exact")) := T.g _ (by decide +kernel)
  obtain ⟨fd_meets, F_meets⟩ := c.d.def_ 7 (d := d_l_meets) rfl
  have g_meets : mg "_law_meets" = some (.ref (He.ga K "_law_meets")) := T.g _ (by decide +kernel)
  obtain ⟨fd_names, F_names⟩ := c.d.def_ 8 (d := d_l_drawn_names) rfl
  have g_names : mg "_law_drawn_names" = some (.ref (He.ga K "_law_drawn_names")) := T.g _ (by decide +kernel)
  obtain ⟨fd_some, F_some⟩ := c.d.def_ 9 (d := d_l_some) rfl
  have g_some : mg "_law_some" = some (.ref (He.ga K "_law_some")) := T.g _ (by decide +kernel)
  obtain ⟨fd_lm, F_lm⟩ := c.d.def_ 10 (d := d_l_least_met) rfl
  have g_lm : mg "_law_least_met" = some (.ref (He.ga K "_law_least_met")) := T.g _ (by decide +kernel)
  obtain ⟨fd, F⟩ := c.d.def_ 11 (d := d_law) rfl
  have e := hfa.symm.trans (T.g "law" (by decide +kernel))
  cases e
  have b := FunD.bindsA (ps := ["_law_script"]) F fun _ _ _ _ _ _ us hl => match us, hl with | [_], _ => rfl
  refine ⟨fd, fun s v => b s [v] rfl, fun base _ _ => ?_⟩
  have GD : FnOk Pg w K mg base (L2.CX Pg w) 2 (He.ga K "_law_draw") fd_draw ["_law_hand_here", "_law_many"] (spD K S_draw) := ok_draw T F_draw F_mix g_mix
  exact ok_law T F ⟨⟨_, _, g_hand, F_hand.kp, (F_hand.bindsN fun _ _ _ _ _ _ us hl => match us, hl with | [_], _ => rfl), ok_hand T F_hand⟩⟩ ⟨⟨_, _, g_draw, F_draw.kp, (F_draw.bindsN fun _ _ _ _ _ _ us hl => match us, hl with | [_, _], _ => rfl), GD⟩⟩
    ⟨⟨_, _, g_names, F_names.kp, (F_names.bindsN fun _ _ _ _ _ _ us hl => match us, hl with | [_], _ => rfl), ok_names T F_names F_draw GD g_draw⟩⟩ ⟨⟨_, _, g_some, F_some.kp, (F_some.bindsN fun _ _ _ _ _ _ us hl => match us, hl with | [_, _], _ => rfl), ok_some T F_some F_draw GD g_draw⟩⟩
    ⟨⟨_, _, g_lm, F_lm.kp, (F_lm.bindsN fun _ _ _ _ _ _ us hl => match us, hl with | [_, _], _ => rfl), ok_lm T F_lm F_meets g_meets⟩⟩ ⟨⟨_, _, g_mof, F_mof.kp, (F_mof.bindsN fun _ _ _ _ _ _ us hl => match us, hl with | [_, _], _ => rfl), ok_mof T F_mof⟩⟩
    (fun n => ⟨⟨_, _, g_exact, F_exact.kp, (F_exact.bindsN fun _ _ _ _ _ _ us hl => match us, hl with | [_, _], _ => rfl), ok_exact T F_exact g_exact n⟩⟩) F_min g_min (ok_min T F_min F_mof g_mof) (fi := 0) F_ini (ok_ini F_ini)
end U18
open PySem PySem.W PySem.Calls PyProof.Rows
theorem PySem.Challenge.cw_unmetcells_k18_whole_meetings_of_marks_holds : PySem.Challenge.rw_unmetcells_k18_whole_meetings_of_marks.Holds := by
  w_on; o_law
  refine HandSHeadRun.head_any (r := OpenLaw.row PySem.Challenge.rw_unmetcells_k18_whole_meetings_of_marks) (q := view (OpenLaw.row PySem.Challenge.rw_unmetcells_k18_whole_meetings_of_marks).prog [14]) (H := U18.hk) (ob := U18.ob) (M := 60000) (loose := U18.loose) (d := HandSHeadRun.topDef (OpenLaw.row PySem.Challenge.rw_unmetcells_k18_whole_meetings_of_marks).prog 14) (kwd := []) U18.ob_eq
    (by kernel_rfl) (fun s => by kernel_rfl) U18.run (by kernel_rfl) (by kernel_rfl) (by kernel_rfl) (by rfl) (by first | assumption | decide +kernel) (by decide +kernel) ⟨rfl, rfl, rfl, rfl, rfl, by decide +kernel⟩ ?hw ?hc
  case hw => w_witness2
  case hc =>
    refine Uc.walk_ofU (l := PySem.Challenge.rw_unmetcells_k18_whole_meetings_of_marks) (n := 63) (k := 4) (x := "_law_script") (CX := fun w => L2.CX (PySem.Challenge.rw_unmetcells_k18_whole_meetings_of_marks).prog w) rfl (by decide) (by kernel_rfl) ⟨rfl, by decide, by decide⟩ ?F (fun _ _ _ _ _ z => by obtain ⟨_, _, _, _, _, _, _, _, _, _, _, _, h⟩ := z; exact h)
    intro w mg fa h Y G hmg0
    obtain ⟨K, KX, c⟩ := Y
    have hmg : mg ("law" : PySem.Str) = some (.ref fa) := by
      have e : (HandSHeadRun.topDef (OpenLaw.row PySem.Challenge.rw_unmetcells_k18_whole_meetings_of_marks).prog 14).name = ("law" : PySem.Str) := by kernel_rfl
      rw [← e]
      exact hmg0
    obtain ⟨fd, hb, hF⟩ := U18.facts (Pg := (PySem.Challenge.rw_unmetcells_k18_whole_meetings_of_marks).prog) (w := w) KX G hmg c
    refine ⟨K, fd, Uc.spD K U18.S_law, KX, hb, fun H a ns hl _ hO hS => ?_, hF⟩
    have isR : ∀ ns : List Int, Uc.RpA K (fun _ => False) H (ns.map L2.V.int) (ns.map Uc.D.int) := fun ns => by
      induction ns with
      | nil => exact .nil
      | cons i ns ih => exact .cons (.int i) ih
    have rs : Uc.Rp K (fun _ => False) H (.ref a) (.zlst (ns.map Uc.D.int)) := by
      rcases hS with (hS | ⟨o, hS⟩) | hS
      · rcases hO a with z | ⟨o, xs, z⟩
        · rw [hS] at z; cases z
        · rw [hS] at z; cases z
      · exact .zlst id hS (isR ns)
      · exact .zlstK (.inr hS) (isR ns)
    exact ⟨none, fun _ => False, [.zlst (ns.map Uc.D.int)], fun d => d = .bl true, fun _ _ => False, .cons rs .nil, fun _ z => (nomatch z), fun _ z => z.elim, ⟨ns, rfl, rfl, Nat.le_trans hl (by decide), rfl⟩, fun v H' d _ _ r e => by subst e; exact r.bl_inv, fun _ _ _ _ _ _ _ z => z⟩
