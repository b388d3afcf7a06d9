import PyProof.Rows.All
import Wide.All
import OpenK.AllK
import Wide.FinOn
import KE.KExcIs
import HandS.ForExc
import HandS.ForMost
import HandS.ExcInit
import HandS.ExcField
import HandS.ExcValue
import HandS.IsInst
import HandS.TryMany
import HandS.Style
import HandS.Wide
import HandS.EndBits
import HandS.Head2
import HandS.HeadHook2
import HandS.HeadEnd
import HandS.Strs
import HandS.Walk
import KE.SortData
import KE.DataMinMax
import HandS.SortKw
import HandS.Defaults
import HandS.MakeKw
import HandS.More
import KE.KEqNest
import KE.GoesEnum
import KE.GoesMore
import HandS.SetBool
import HandS.TupSets
import PyProof.InstNe
import HandS.OwnEq
import HandS.SetKeys
import HandS.DictComp
import HandS.DictTup
import PyProof.DictMoreH
import HandS.HeadHook3
import PySem.Challenge.RW_unmetcells_k95_whole_results_equal_by_al
set_option Elab.async false
set_option linter.all false
set_option maxRecDepth 100000
set_option maxHeartbeats 4000000
/-! Own rules: exceptions held as values. -/
namespace Uc
open PySem PySem.Spec PyProof.Rows L2

/-- all that is asked of an own exception class at C (over ValueError, at any depth) -/
structure EC (K : PySem.W.Frag) (C : Addr) : Prop where
  ox : OexC K C
  xf : XfC K C
  cl : (PySem.W.clsIn K C).isSome = true
  at_ : PySem.W.findIn K (.ref C) "__class__" = some (some (.builtin "object.__class__"))
  sp : PySem.W.specialIn K (.builtin "object.__class__") "__get__" = some (some (.builtin "getset_descriptor.__get__"))
  tk : PySem.W.takesIn K (.builtin "object.__class__") = some true
  mo : PySem.W.mroIn K C (.type "object") = some true

def ocB (K : PySem.W.Frag) (C : Addr) : Bool := match K.lookup C with
  | some ⟨.type "type", _, .cls cd, sl⟩ => (match cd.mro, sl.toList with
    | .ref D :: bm, [_, _, _, _, some (.builtin n), _] => decide (D = C) && (decide (n = "ValueError.__new__") && (!cd.hasDel && (cd.hasDict && PySem.HandSPX.refsVE bm)))
    | _, _ => false)
  | _ => false

theorem ocB_ok {K : PySem.W.Frag} {C : Addr} (h : ocB K C = true) :
    ∃ nm q N bs bm sn sub ab col dd k0 k1 k2 k3 k5, K.lookup C = some (excClassObj nm q C N bs bm true sn sub ab col dd k0 k1 k2 k3 k5 "ValueError.__new__") ∧ PySem.HandSPX.refsVE bm = true := by
  unfold ocB at h
  split at h
  · rename_i dd cd sl ho
    split at h
    · rename_i D bm k0 k1 k2 k3 n k5 hm hs
      simp only [Bool.and_eq_true, decide_eq_true_eq, Bool.not_eq_true'] at h
      obtain ⟨e1, e2, hdel, hd1, hr⟩ := h
      obtain ⟨nm, bs, mro, ns, qn, hd, sn, sub, ab, col, del⟩ := cd
      dsimp only at hm hdel hd1
      subst hm hdel hd1 e1 e2
      have es : sl = #[k0, k1, k2, k3, some (.builtin "ValueError.__new__"), k5] := by
        obtain ⟨l⟩ := sl
        have hs' : l = _ := hs
        rw [hs']
      subst es
      exact ⟨nm, qn, ns, bs, bm, sn, sub, ab, col, dd, k0, k1, k2, k3, k5, ho, hr⟩
    · cases h
  · cases h

def ecB (K : PySem.W.Frag) (C : Addr) : Bool :=
  ocB K C && (He.eqO (PySem.W.findIn K (.ref C) "__setattr__") (some (some (.builtin "object.__setattr__"))) && (decide (PySem.W.subIn K (.ref C) (.type "BaseException") = some true) &&
  (decide (PySem.W.typeIn K (.ref C) = some (.type "type")) && (PySem.W.keepIn K (.ref C) && (xfB K C && ((PySem.W.clsIn K C).isSome &&
  (He.eqO (PySem.W.findIn K (.ref C) "__class__") (some (some (.builtin "object.__class__"))) && (decide (PySem.W.specialIn K (.builtin "object.__class__") "__get__" = some (some (.builtin "getset_descriptor.__get__"))) &&
  (decide (PySem.W.takesIn K (.builtin "object.__class__") = some true) && decide (PySem.W.mroIn K C (.type "object") = some true))))))))))

theorem ecB_ok {K : PySem.W.Frag} {C : Addr} (h : ecB K C = true) : EC K C := by
  unfold ecB at h
  simp only [Bool.and_eq_true, decide_eq_true_eq] at h
  obtain ⟨h1, h2, h3, h4, h5, h6, h7, h8, h9, h10, h11⟩ := h
  exact ⟨⟨ocB_ok h1, He.eqO_ok h2, h3, h4, h5⟩, xfB_ok h6, h7, He.eqO_ok h8, h9, h10, h11⟩

/-- an exception value: an object at a of the class at C, its own dict (none, or at d with the fields) -/
inductive ExAt (H : Hp) (a C : Addr) : Option (Addr × List (Str × V)) → Prop where
  | bare (h : H a = some (exo a C none)) : ExAt H a C none
  | full {d : Addr} {fs : List (Str × V)} (h : H a = some (exo a C (some d))) (hd : H d = some (exd d fs)) : ExAt H a C (some (d, fs))

theorem ExAt.keep {H H' : Hp} {a C : Addr} {o} (k : ∀ b u, H b = some u → H' b = some u) (h : ExAt H a C o) : ExAt H' a C o := by
  cases h with
  | bare h => exact .bare (k _ _ h)
  | full h hd => exact .full (k _ _ h) (k _ _ hd)

theorem ExAt.inst {X : Cx} {pins : List (Addr × Obj)} {σ : L2.St} {H : Hp} {s : Shared} {a C : Addr} {o} (I : Inv X pins σ H s) (h : ExAt H a C o) :
    ∃ ox od, PySem.W.InstAt s.heap a ox C od ∧ (∀ d fs, o = some (d, fs) → ∃ (mA : Str → Option Value) (oD : Obj), od = some oD ∧ (∀ f, RelO (fs.lookup f) (mA f)) ∧ ∀ f, PySem.W.lookIn f oD = some (mA f)) := by
  cases h with
  | bare h =>
    obtain ⟨t, e⟩ := exo_at I.hok h
    exact ⟨_, none, ⟨e, rfl, rfl, True.intro⟩, fun _ _ z => nomatch z⟩
  | full h hd =>
    obtain ⟨t, e⟩ := exo_at I.hok h
    obtain ⟨mA, hns, hr⟩ := exd_at I.hok hd
    obtain ⟨oD, ho, hl⟩ := lookIn_ns hns
    refine ⟨_, some oD, ⟨e, rfl, rfl, ho⟩, fun d fs z => ?_⟩
    cases z
    exact ⟨mA, oD, rfl, hr, hl⟩

/-- isinstance(e, c), e an exception that is tracked -/
def rIsX (K : PySem.W.Frag) : List V → Hp → VK → Prop := fun xs H Q => ∃ (a C : Addr) (o : Option (Addr × List (Str × V))) (c : V) (cv : Value) (b : Bool), xs = [.ref a, c] ∧ ExAt H a C o ∧ EC K C ∧ ClsV c cv ∧ PySem.W.kitOne K (.ref C) cv = some b ∧ Q (.bl b) H
theorem call_isX {X : Cx} : CallR X (.builtin "isinstance") (rIsX X.K) := by
  intro pins s σ H xs us Q I r h
  obtain ⟨a, C, o, c, cv, b, rfl, he, ec, hc, e, q⟩ := h
  obtain ⟨u1, u2, rfl, r1, r2⟩ := vals2 r
  have e2 := hc.eq r2
  subst e2
  obtain rfl : u1 = Value.ref a := r1
  obtain ⟨ox, od, J, _⟩ := he.inst I
  exact PySem.W.kia_one (PySem.W.kitx_exc ec.cl ec.xf.ga ec.xf.gg ec.xf.exC ec.at_ ec.sp ec.tk ec.mo) I.kIn J e (fun z => nomatch z) fun tk => ⟨.bl b, H, I.tok tk, rfl, q⟩

/-- e.f, e a tracked exception -/
def tXfV (K : PySem.W.Frag) (f : Str) (te : TE) : TE := fun σ H Q => te σ H fun x H1 => ∃ (a C d : Addr) (fs : List (Str × V)) (v : V), x = .ref a ∧ ExAt H1 a C (some (d, fs)) ∧ EC K C ∧ PySem.W.findIn K (.ref C) f = some none ∧ fs.lookup f = some v ∧ Q v H1
theorem pe_xfV {X : Cx} {e : Expr} {te : TE} {pos : Pos} {f : Str} (he : PE X e te) (hb : attributeBase e f X.env (eval e X.env) = eval e X.env := by rfl) : PE X (.Attribute e f pos) (tXfV X.K f te) := by
  refine ⟨fun pins s σ H Q I h => ?_⟩
  refine attr_of hb (thn (he.run pins s σ H _ I h) fun u s1 hh => ?_)
  obtain ⟨x, H1, I1, rx, a, C, d, fs, v, ex, ha, ec, hno, l, q⟩ := hh
  subst ex
  obtain rfl : u = Value.ref a := rx
  obtain ⟨ox, od, J, hf⟩ := ha.inst I1
  obtain ⟨mA, oD, rfl, hr, hl⟩ := hf d fs rfl
  obtain ⟨w, hw, rw'⟩ := RelO.some_of (v := v) (o := mA f) (by rw [← l]; exact hr f)
  exact HandSPX.exc_get I1.kIn J ec.xf.ga ec.xf.gg ec.xf.exC (PySem.W.findObj_own ec.xf.hdC hno rfl (by rw [hl, hw])) (handed_of rw') ⟨v, H1, I1.tok _, rw', q⟩

/-- C(e, ..): an exception of an own class with its own __init__, as a value -/
def tMkV (C : Addr) (sp : Sp) (ta : TA) : TE := fun σ H Q => ta σ H fun vs H1 => vs.length ≤ 1000 ∧ ∀ a, H1 a = none → sp (.ref a :: vs) (upd H1 a (exo a C none)) (fun v H2 => v = .non ∧ Q (.ref a) H2) (fun _ _ _ => False)
section
variable {X : Cx} {e : Expr} {es : List Expr} {ta : TA} {p pos : Pos}
theorem pe_oexV {CX : CXT} {x : Str} {C fI : Addr} {k : Nat} {fd : FuncData} {ps : List Str} {sp : Sp} (T : OexC X.K C) (iC : PySem.W.findIn X.K (.ref C) "__init__" = some (some (.ref fI))) (tI : PySem.W.typeIn X.K (.ref fI) = some (.type "function"))
    (F : FnOk X.prog X.w X.K X.mg X.base CX k fI fd ps sp) (hr : Room (k + 1) X.A) (hb : Binds X.K fd ps []) (hx : Passes CX X (fun _ _ _ => False)) (hg : Gl X x) (hm : X.mg x = some (.ref C)) (ha : PA X (e :: es) ta)
    (hdb : (x == ("__debug__" : Str)) = false := by decide) (he : starEach (e :: es) X.env = (false, eval e X.env) :: starEach es X.env := by rfl) (hpl : (backTo pos (starEach es X.env)).any (·.1) = false := by rfl) :
    PE X (.Call (.Name x p) (e :: es) [] pos) (tMkV C sp ta) := by
  refine ⟨fun pins s σ H Q I h => ?_⟩
  obtain ⟨nm, q, N, bs, bm, sn, sub, ab, col, dd, k0, k1, k2, k3, k5, hC, hbm⟩ := T.cls
  refine wpAny_Call_Name_kw (ld_glob I hg hm ?_ hdb)
  refine PySem.W.callWith_K (h₀ := X.base) I.ok.mod.kin T.kC (thn (ha.run pos pins s σ H _ I h) fun us s1 hh => ?_) he hpl
  obtain ⟨vs, H1, I1, r1, hz, q1⟩ := hh
  refine ⟨I1.kIn, ?_⟩
  show wpAny _ _ (call (.ref C) us) _ _ _
  obtain ⟨hp, g, dr, tk, os⟩ := s1
  have up : hp.objs.size ≤ hp.objs.size + 1 := Nat.le_succ _
  have hq := q1 (hp.objs.size + 1) (I1.hok.fresh up)
  have old : ∀ b o, hp.get? b = some o → ((hp.push (PySem.W.kdv_tup us)).push (PySem.HandSPX.excO C hp.objs.size)).get? b = some o := fun b o z => Heap.get?_push_of_some _ (Heap.get?_push_of_some _ z)
  have new : ((hp.push (PySem.W.kdv_tup us)).push (PySem.HandSPX.excO C hp.objs.size)).get? (hp.objs.size + 1) = some (PySem.HandSPX.excO C hp.objs.size) := by heap_get
  have I2 := I1.laid (t' := tk) (a := hp.objs.size + 1) (o := exo (hp.objs.size + 1) C none) old up (exo_ok new)
  have r2 : Vals (V.ref (hp.objs.size + 1) :: vs) (Value.ref (hp.objs.size + 1) :: us) := .cons rfl r1
  have hl : (Value.ref (hp.objs.size + 1) :: us ++ []).length = ps.length := by
    rw [List.append_nil, ← r2.length]
    exact F.len _ _ _ _ hq
  have hus : us.length ≤ sizeLine := by
    have z := Paired.length r1
    rw [sizeLine_eq]
    omega
  have hbb := hb _ (Value.ref (hp.objs.size + 1) :: us) I2.kIn hl
  rw [List.append_nil] at hbb
  refine wpAny_call (PySem.HandSPX.call_own PySem.F.excBase_ValueError (fun Y => PySem.HandSPX.refsVE_contains Y bm hbm) (I1.kIn _ _ hC) (PySem.W.looks_findIn I1.kIn iC) (fun self => PySem.W.bind_fn I1.kIn self tI) hus ?_)
  refine codeAny_mono (F.run _ X.stack _ _ ⟨Value.ref (hp.objs.size + 1) :: us, []⟩ _ _ _ (fun _ _ _ => False) (hr.make C us []) (I2.env0.make C us []) hbb r2 hq) fun r s' hq' => ?_
  cases r with
  | error er => exact hx pins σ _ _ er s' I2 hq'
  | ok fl =>
    cases fl with
    | ret u =>
      obtain ⟨v, H2, I3, rv, ev, q3⟩ := I2.after hq'
      subst ev
      exact ⟨rv, V.ref (hp.objs.size + 1), H2, I3, rfl, q3⟩
    | next => exact False.elim hq'
    | brk => exact False.elim hq'
    | cont => exact False.elim hq'
/-- C(): an own exception class without own __init__, as a value -/
theorem pe_oexV0 {x : Str} {C : Addr} {bmB : List Value} {B newId initId : String} (F : ExcBaseFacts B newId initId bmB) (q : PySem.W.excIn X.K C bmB newId = true) (kC : PySem.W.keepIn X.K (.ref C) = true) (hg : Gl X x) (hm : X.mg x = some (.ref C))
    (hdb : (x == ("__debug__" : Str)) = false := by decide) :
    PE X (.Call (.Name x p) [] [] pos) (fun _ H Q => ∀ a, H a = none → Q (.ref a) (upd H a (exo a C none))) := by
  refine ⟨fun pins s σ H Q I h => ?_⟩
  refine wpAny_Call_Name_kw (ld_glob I hg hm ?_ hdb)
  refine PySem.W.callWith_K0 I.kIn kC ?_
  obtain ⟨hp, g, dr, tk, os⟩ := s
  obtain ⟨bm, N, nm, qn, bs, hdct, sn, sub, ab, col, dd, k0, k1, k2, k3, k5, mN, hC, hN, hni, T⟩ := exc_obj I.kIn q
  refine wpAny_call_exc_subT F T hC hN hni (fun h' a hm' => ?_) (Nat.zero_le _)
  obtain ⟨t, ht, _, _⟩ := hm'.there
  have hn : H a = none := I.hok.gone hm'.new
  exact ⟨.ref a, upd H a (exo a C none), I.laidN hm'.keeps hm'.new hn (exo_ok ht), rfl, h a hn⟩
end
end Uc

set_option Elab.async false
set_option linter.all false
set_option maxRecDepth 100000
set_option maxHeartbeats 4000000
namespace Uc
open PySem PySem.Spec PyProof.Rows L2
/-! ### a Hook with one more Bool of one's own -/
def obsU (B : PySem.W.Frag → Bool) (fn : List He.DefD) (K : PySem.W.Frag) : He.AlD := ((fn.all fun d => d.ok K) && B K, fn.map fun d => He.fnW K d.at_)
def obsUG (n : Nat) (B : PySem.W.Frag → Bool) (fn : List He.DefD) (g : Addr → Option Obj) : He.AlD := obsU B fn (He.frG g (He.asD g n))
structure SaysU (B : PySem.W.Frag → Bool) (fn : List He.DefD) (K : PySem.W.Frag) : Prop where
  b : B K = true
  d : He.SaysD [] fn K
theorem saysU_of {B : PySem.W.Frag → Bool} {fn : List He.DefD} {K : PySem.W.Frag} (e : obsU B fn K = He.valD fn) : SaysU B fn K := by
  have e1 : ((fn.all fun d => d.ok K) && B K) = true := congrArg (fun z : He.AlD => z.1) e
  have e2 : fn.map (fun d => He.fnW K d.at_) = fn.map He.DefD.val := congrArg (fun z : He.AlD => z.2) e
  obtain ⟨h1, h2⟩ := Bool.and_eq_true_iff.mp e1
  refine ⟨h2, ?_⟩
  show ((([] : List He.Fa).all fun f => f.ok K) && fn.all fun d => d.ok K, fn.map fun d => He.fnW K d.at_) = (true, fn.map He.DefD.val)
  rw [h1, e2]
  rfl
def hookU (n : Nat) (B : PySem.W.Frag → Bool) (fn : List He.DefD) : PySem.W.Hook where
  α := He.AlD
  obs := fun s => obsUG n B fn s.heap.get?
  val := fun _ => He.valD fn
  says := fun _ h => ∃ K : PySem.W.Frag, K.In h ∧ SaysU B fn K
  of := fun _ _ e => ⟨_, He.frG_in, saysU_of e⟩
  keeps := fun _ _ _ ⟨K, hK, c⟩ k => ⟨K, PySem.W.Frag.In.keeps hK k, c⟩
theorem obsUG_eq {n : Nat} {B : PySem.W.Frag → Bool} {fn : List He.DefD} {g : Addr → Option Obj} {s : Shared} (h : ∀ a, g a = s.heap.get? a) : obsUG n B fn g = (hookU n B fn).obs s := by
  have e : g = s.heap.get? := funext h
  rw [e] <;> rfl
/-- the end of a law over such a head, the script's bits told -/
theorem walk_ofU {l : PySem.W.OpenLaw} {n k : Nat} {q : Program} {loose : List Str} {XP : (Str → Option Value) → Heap → Prop} {YP : World → Heap → Prop} {d : DefRec} {CX : World → CXT} {x : Str}
    (hn : l.most = some n) (hn2 : n ≤ sizeLine) (hdf : d.params.defaults = []) (hr : Room k callerA)
    (F : ∀ (w : World) (mg : Str → Option Value) (fa : Addr) (h : Heap), YP w h → h.Ns mainGlobals mg → mg d.name = some (.ref fa) →
      ∃ (K : PySem.W.Frag) (fd : FuncData) (sp : Sp), K.In h ∧ (∀ (s : Shared) (u : Value), BindsTo s fd ⟨[u], []⟩ [(x, u)]) ∧
        (∀ (H : Hp) (a : Addr) (ns : List Int), ns.length ≤ n → (∀ z ∈ ns, Builtin.Int.intBits z ≤ 1048576) → Only H → SqL K H a (ns.map V.int) → sp [.ref a] H (fun v _ => v = .bl true) fun _ _ _ => False) ∧
        ∀ base : Heap, K.In base → base.Ns mainGlobals mg → FnOk l.prog w K mg base (CX w) k fa fd [x] sp)
    (hCX : ∀ (w : World) (H : Hp) (s : Shared) (e : Value) (s' : Shared), CX w [] H s (fun _ _ _ => False) e s' → False) :
    PySem.W.WalkO q loose XP YP l.row.toRowW d [] (fun f vs => PySem.call f vs) := by
  refine Att.attach_callB hn hdf fun w s₀ s₁ mg mb fa o pm cd doc a vs ns G Y ho hd hcd hmg hobj hints hlen hbits hg => ?_
  obtain ⟨K, fd, sp, KX, hb, hsp, hF⟩ := F w mg fa _ Y G.T.g hmg
  exact law_call KX G.T.g G.T.b G.T.builtins G.T.nolimit hg hobj hints (Nat.le_trans hlen hn2) hr hF hb (fun H hO hS => hsp H a ns hlen hbits hO hS) fun H e s' => hCX w H s₁ e s'
end Uc

set_option Elab.async false
set_option linter.all false
set_option maxRecDepth 100000
set_option maxHeartbeats 4000000
/-! Values described: a logic of what the code does, without addresses. -/
namespace Ud
open PySem PySem.Spec PyProof.Rows L2 Uc

/-- what a value is, whatever its address -/
inductive D where
  | non | bl (b : Bool) | int (i : Int) | str (s : Str)
  | lst (xs : List D) | tup (xs : List D)
  | zlst (xs : List D)
  | exc (C : Str) (fs : List (Str × D))
  | held (a : Addr) (C : Str) (od : Option Addr) (fs : List (Str × D))
  | at_ (v : V)
  | cls (C : Str)
  | ins (C : Str) (fs : List (Str × D))
  | dk (ks : List Key) (xs : List D)
  | dt (ks : List (List Key)) (xs : List D)

mutual
/-- v is d in the heap H; nothing of it stands at an address of M (those may change) -/
inductive Rp (K : PySem.W.Frag) (M : Addr → Prop) (H : Hp) : V → D → Prop
  | non : Rp K M H .non .non
  | bl (b : Bool) : Rp K M H (.bl b) (.bl b)
  | int (i : Int) : Rp K M H (.int i) (.int i)
  | str (s : Str) : Rp K M H (.str s) (.str s)
  | at_ (v : V) : Rp K M H v (.at_ v)
  | lst {a : Addr} {xs : List V} {ds : List D} : ¬ M a → H a = some (.lst xs) → RpA K M H xs ds → Rp K M H (.ref a) (.lst ds)
  | zlst {a : Addr} {o : Obj} {xs : List V} {ds : List D} : ¬ M a → H a = some (.frz o (.lst xs)) → RpA K M H xs ds → Rp K M H (.ref a) (.zlst ds)
  | zlstK {a : Addr} {xs : List V} {ds : List D} : SqL K (fun _ => none) a xs → RpA K M H xs ds → Rp K M H (.ref a) (.zlst ds)
  | tup {a : Addr} {xs : List V} {ds : List D} : ¬ M a → H a = some (.tup xs) → RpA K M H xs ds → Rp K M H (.ref a) (.tup ds)
  | tupK {a : Addr} {xs : List V} {ds : List D} : SqT K (fun _ => none) a xs → RpA K M H xs ds → Rp K M H (.ref a) (.tup ds)
  | exc0 {a : Addr} {C : Str} : ¬ M a → ExAt H a (He.ga K C) none → Rp K M H (.ref a) (.exc C [])
  | exc {a d : Addr} {C : Str} {fs : List (Str × V)} {ds : List (Str × D)} : ¬ M a → ¬ M d → ExAt H a (He.ga K C) (some (d, fs)) → RpF K M H fs ds → Rp K M H (.ref a) (.exc C ds)
  | held0 (a : Addr) (C : Str) : Rp K M H (.ref a) (.held a C none [])
  | held {a d : Addr} {C : Str} {fv : List (Str × V)} {fs : List (Str × D)} : ¬ M d → H d = some (.xd fv) → RpF K M H fv fs → Rp K M H (.ref a) (.held a C (some d) fs)
  | cls (C : Str) : Rp K M H (.ref (He.ga K C)) (.cls C)
  | ins {a dx : Addr} {C : Str} {fs : List (Str × V)} {ds : List (Str × D)} : ¬ M a → H a = some (.ins (He.ga K C) dx fs) → RpF K M H fs ds → Rp K M H (.ref a) (.ins C ds)
  | dk {a : Addr} {kv : List (Key × V)} {ds : List D} : ¬ M a → H a = some (.dK kv) → RpA K M H (kv.map Prod.snd) ds → Rp K M H (.ref a) (.dk (kv.map Prod.fst) ds)
  | dt {a : Addr} {kv : List (List Key × V)} {ds : List D} : ¬ M a → H a = some (.dT kv) → RpA K M H (kv.map Prod.snd) ds → Rp K M H (.ref a) (.dt (kv.map Prod.fst) ds)
inductive RpA (K : PySem.W.Frag) (M : Addr → Prop) (H : Hp) : List V → List D → Prop
  | nil : RpA K M H [] []
  | cons {v : V} {vs : List V} {d : D} {ds : List D} : Rp K M H v d → RpA K M H vs ds → RpA K M H (v :: vs) (d :: ds)
inductive RpF (K : PySem.W.Frag) (M : Addr → Prop) (H : Hp) : List (Str × V) → List (Str × D) → Prop
  | nil : RpF K M H [] []
  | cons {f : Str} {v : V} {vs : List (Str × V)} {d : D} {ds : List (Str × D)} : Rp K M H v d → RpF K M H vs ds → RpF K M H ((f, v) :: vs) ((f, d) :: ds)
end

/-- what stands beside M stays -/
def Gr (M : Addr → Prop) (H H' : Hp) : Prop := ∀ b o, ¬ M b → H b = some o → H' b = some o
theorem Gr.refl (M : Addr → Prop) (H : Hp) : Gr M H H := fun _ _ _ h => h
theorem Gr.trans {M : Addr → Prop} {H H1 H2 : Hp} (a : Gr M H H1) (b : Gr M H1 H2) : Gr M H H2 := fun c o n h => b c o n (a c o n h)
theorem Gr.rd {M : Addr → Prop} {H H' : Hp} {a : Addr} {u : HO} (g : Gr M H H') (n : ¬ M a) (h : Rd H a u) : Rd H' a u := by
  rcases h with h | ⟨o, h⟩
  · exact .inl (g _ _ n h)
  · exact .inr ⟨o, g _ _ n h⟩

section
variable {K : PySem.W.Frag} {M M' : Addr → Prop} {H H' : Hp}
theorem _root_.Uc.ExAt.keepM {a C : Addr} {o : Option (Addr × List (Str × V))} (g : Gr M H H') (h1 : ¬ M a) (h2 : ∀ d fs, o = some (d, fs) → ¬ M d) (h : ExAt H a C o) : ExAt H' a C o := by
  cases h with
  | bare h => exact .bare (g _ _ h1 h)
  | full h hd => exact .full (g _ _ h1 h) (g _ _ (h2 _ _ rfl) hd)
mutual
theorem Rp.mono (g : Gr M H H') : ∀ {v : V} {d : D}, Rp K M H v d → Rp K M H' v d
  | _, _, .non => .non
  | _, _, .bl b => .bl b
  | _, _, .int i => .int i
  | _, _, .str s => .str s
  | _, _, .at_ v => .at_ v
  | _, _, .lst n r h => .lst n (g _ _ n r) (RpA.mono g h)
  | _, _, .zlst n r h => .zlst n (g _ _ n r) (RpA.mono g h)
  | _, _, .zlstK r h => .zlstK r (RpA.mono g h)
  | _, _, .tup n r h => .tup n (g _ _ n r) (RpA.mono g h)
  | _, _, .tupK r h => .tupK r (RpA.mono g h)
  | _, _, .exc0 n h => .exc0 n (h.keepM g n fun _ _ z => nomatch z)
  | _, _, .exc n n2 h r => .exc n n2 (h.keepM g n fun _ _ z => by cases z; exact n2) (RpF.mono g r)
  | _, _, .held0 a C => .held0 a C
  | _, _, .held n e r => .held n (g _ _ n e) (RpF.mono g r)
  | _, _, .ins n e r => .ins n (g _ _ n e) (RpF.mono g r)
  | _, _, .cls C => .cls C
  | _, _, .dk n e r => .dk n (g _ _ n e) (RpA.mono g r)
  | _, _, .dt n e r => .dt n (g _ _ n e) (RpA.mono g r)
theorem RpA.mono (g : Gr M H H') : ∀ {vs : List V} {ds : List D}, RpA K M H vs ds → RpA K M H' vs ds
  | _, _, .nil => .nil
  | _, _, .cons h t => .cons (Rp.mono g h) (RpA.mono g t)
theorem RpF.mono (g : Gr M H H') : ∀ {vs : List (Str × V)} {ds : List (Str × D)}, RpF K M H vs ds → RpF K M H' vs ds
  | _, _, .nil => .nil
  | _, _, .cons h t => .cons (Rp.mono g h) (RpF.mono g t)
end
/-! fewer things that may change -/
mutual
theorem Rp.wid (w : ∀ a, M' a → M a) : ∀ {v : V} {d : D}, Rp K M H v d → Rp K M' H v d
  | _, _, .non => .non
  | _, _, .bl b => .bl b
  | _, _, .int i => .int i
  | _, _, .str s => .str s
  | _, _, .at_ v => .at_ v
  | _, _, .lst n r h => .lst (fun z => n (w _ z)) r (RpA.wid w h)
  | _, _, .zlst n r h => .zlst (fun z => n (w _ z)) r (RpA.wid w h)
  | _, _, .zlstK r h => .zlstK r (RpA.wid w h)
  | _, _, .tup n r h => .tup (fun z => n (w _ z)) r (RpA.wid w h)
  | _, _, .tupK r h => .tupK r (RpA.wid w h)
  | _, _, .exc0 n h => .exc0 (fun z => n (w _ z)) h
  | _, _, .exc n n2 h r => .exc (fun z => n (w _ z)) (fun z => n2 (w _ z)) h (RpF.wid w r)
  | _, _, .held0 a C => .held0 a C
  | _, _, .held n e r => .held (fun z => n (w _ z)) e (RpF.wid w r)
  | _, _, .ins n e r => .ins (fun z => n (w _ z)) e (RpF.wid w r)
  | _, _, .cls C => .cls C
  | _, _, .dk n e r => .dk (fun z => n (w _ z)) e (RpA.wid w r)
  | _, _, .dt n e r => .dt (fun z => n (w _ z)) e (RpA.wid w r)
theorem RpA.wid (w : ∀ a, M' a → M a) : ∀ {vs : List V} {ds : List D}, RpA K M H vs ds → RpA K M' H vs ds
  | _, _, .nil => .nil
  | _, _, .cons h t => .cons (Rp.wid w h) (RpA.wid w t)
theorem RpF.wid (w : ∀ a, M' a → M a) : ∀ {vs : List (Str × V)} {ds : List (Str × D)}, RpF K M H vs ds → RpF K M' H vs ds
  | _, _, .nil => .nil
  | _, _, .cons h t => .cons (Rp.wid w h) (RpF.wid w t)
end
/-- more things that may change, none of which is tracked here -/
theorem rd_some {a : Addr} {u : HO} (h : Rd H a u) : ∃ o, H a = some o := by
  rcases h with h | ⟨o, h⟩
  · exact ⟨_, h⟩
  · exact ⟨_, h⟩
theorem _root_.Uc.ExAt.some {a C : Addr} {o : Option (Addr × List (Str × V))} (h : ExAt H a C o) : (∃ u, H a = Option.some u) ∧ ∀ d fs, o = Option.some (d, fs) → ∃ u, H d = Option.some u := by
  cases h with
  | bare h => exact ⟨⟨_, h⟩, fun _ _ z => nomatch z⟩
  | full h hd => exact ⟨⟨_, h⟩, fun _ _ z => by cases z; exact ⟨_, hd⟩⟩
mutual
theorem Rp.nar (w : ∀ a, M' a → M a ∨ H a = none) : ∀ {v : V} {d : D}, Rp K M H v d → Rp K M' H v d
  | _, _, .non => .non
  | _, _, .bl b => .bl b
  | _, _, .int i => .int i
  | _, _, .str s => .str s
  | _, _, .at_ v => .at_ v
  | _, _, .lst n r h => .lst (fun z => (w _ z).elim n fun q => by rw [q] at r; cases r) r (RpA.nar w h)
  | _, _, .zlst n r h => .zlst (fun z => (w _ z).elim n fun q => by rw [q] at r; cases r) r (RpA.nar w h)
  | _, _, .zlstK r h => .zlstK r (RpA.nar w h)
  | _, _, .tup n r h => .tup (fun z => (w _ z).elim n fun q => by rw [q] at r; cases r) r (RpA.nar w h)
  | _, _, .tupK r h => .tupK r (RpA.nar w h)
  | _, _, .exc0 n h => .exc0 (fun z => (w _ z).elim n fun q => by obtain ⟨o, e⟩ := h.some.1; rw [q] at e; cases e) h
  | _, _, .exc n n2 h r => .exc (fun z => (w _ z).elim n fun q => by obtain ⟨o, e⟩ := h.some.1; rw [q] at e; cases e) (fun z => (w _ z).elim n2 fun q => by obtain ⟨o, e⟩ := h.some.2 _ _ rfl; rw [q] at e; cases e) h (RpF.nar w r)
  | _, _, .held0 a C => .held0 a C
  | _, _, .held n e r => .held (fun z => (w _ z).elim n fun q => by rw [q] at e; cases e) e (RpF.nar w r)
  | _, _, .ins n e r => .ins (fun z => (w _ z).elim n fun q => by rw [q] at e; cases e) e (RpF.nar w r)
  | _, _, .cls C => .cls C
  | _, _, .dk n e r => .dk (fun z => (w _ z).elim n fun q => by rw [q] at e; cases e) e (RpA.nar w r)
  | _, _, .dt n e r => .dt (fun z => (w _ z).elim n fun q => by rw [q] at e; cases e) e (RpA.nar w r)
theorem RpA.nar (w : ∀ a, M' a → M a ∨ H a = none) : ∀ {vs : List V} {ds : List D}, RpA K M H vs ds → RpA K M' H vs ds
  | _, _, .nil => .nil
  | _, _, .cons h t => .cons (Rp.nar w h) (RpA.nar w t)
theorem RpF.nar (w : ∀ a, M' a → M a ∨ H a = none) : ∀ {vs : List (Str × V)} {ds : List (Str × D)}, RpF K M H vs ds → RpF K M' H vs ds
  | _, _, .nil => .nil
  | _, _, .cons h t => .cons (Rp.nar w h) (RpF.nar w t)
end
theorem RpA.length : ∀ {vs : List V} {ds : List D}, RpA K M H vs ds → vs.length = ds.length
  | _, _, .nil => rfl
  | _, _, .cons _ t => congrArg (· + 1) (RpA.length t)
theorem RpA.append : ∀ {vs ws : List V} {ds es : List D}, RpA K M H vs ds → RpA K M H ws es → RpA K M H (vs ++ ws) (ds ++ es)
  | _, _, _, _, .nil, s => s
  | _, _, _, _, .cons h t, s => .cons h (RpA.append t s)
theorem RpA.get : ∀ {vs : List V} {ds : List D} {i : Nat} {d : D}, RpA K M H vs ds → ds[i]? = some d → ∃ v, vs[i]? = some v ∧ Rp K M H v d
  | _, _, _, _, .nil, e => by simp at e
  | _, _, 0, _, .cons h _, e => by simp at e; subst e; exact ⟨_, rfl, h⟩
  | _, _, i + 1, d, .cons _ t, e => by
    obtain ⟨v, h1, h2⟩ := RpA.get (i := i) (d := d) t (by simpa using e)
    exact ⟨v, by simpa using h1, h2⟩
theorem RpA.getV : ∀ {vs : List V} {ds : List D} {i : Nat} {v : V}, RpA K M H vs ds → vs[i]? = some v → ∃ d, ds[i]? = some d ∧ Rp K M H v d
  | _, _, _, _, .nil, e => by simp at e
  | _, _, 0, _, .cons h _, e => by simp at e; subst e; exact ⟨_, rfl, h⟩
  | _, _, i + 1, d, .cons _ t, e => by
    obtain ⟨v, h1, h2⟩ := RpA.getV (i := i) (v := d) t (by simpa using e)
    exact ⟨v, by simpa using h1, h2⟩
theorem Rp.lst_inv {v : V} {ds : List D} (r : Rp K M H v (.lst ds)) : ∃ a xs, v = .ref a ∧ ¬ M a ∧ H a = some (.lst xs) ∧ RpA K M H xs ds := by
  cases r with
  | lst n e s => exact ⟨_, _, rfl, n, e, s⟩
theorem sqL_const {K : PySem.W.Frag} {H : Hp} {a : Addr} {xs : List V} (e : SqL K (fun _ => none) a xs) : SqL K H a xs := by
  rcases e with (e | ⟨o, e⟩) | e
  · cases e
  · cases e
  · exact .inr e
theorem Rp.seq_inv {v : V} {d : D} {ds : List D} (r : Rp K M H v d) (e : d = .lst ds ∨ d = .zlst ds) : ∃ a xs, v = .ref a ∧ ((¬ M a ∧ ∃ u, H a = some u ∧ (u = .lst xs ∨ ∃ o, u = .frz o (.lst xs))) ∨ SqL K (fun _ => none) a xs) ∧ RpA K M H xs ds := by
  rcases e with rfl | rfl
  · cases r with
    | lst n e s => exact ⟨_, _, rfl, .inl ⟨n, _, e, .inl rfl⟩, s⟩
  · cases r with
    | zlst n e s => exact ⟨_, _, rfl, .inl ⟨n, _, e, .inr ⟨_, rfl⟩⟩, s⟩
    | zlstK e s => exact ⟨_, _, rfl, .inr e, s⟩
theorem sqL_of {a : Addr} {xs : List V} {u : HO} (e : H a = some u) (k : u = .lst xs ∨ ∃ o, u = .frz o (.lst xs)) : SqL K H a xs := by
  rcases k with rfl | ⟨o, rfl⟩
  · exact SqL.of e
  · exact .inl (.inr ⟨o, e⟩)
theorem Rp.tup_inv {v : V} {ds : List D} (r : Rp K M H v (.tup ds)) : ∃ a xs, v = .ref a ∧ SqT K H a xs ∧ RpA K M H xs ds := by
  cases r with
  | tup n e s => exact ⟨_, _, rfl, SqT.of e, s⟩
  | tupK e s =>
    refine ⟨_, _, rfl, ?_, s⟩
    rcases e with (e | ⟨o, e⟩) | e
    · cases e
    · cases e
    · exact .inr e
theorem Rp.int_inv {v : V} {i : Int} (r : Rp K M H v (.int i)) : v = .int i := by cases r; rfl
theorem Rp.bl_inv {v : V} {i : Bool} (r : Rp K M H v (.bl i)) : v = .bl i := by cases r; rfl
theorem Rp.str_inv {v : V} {i : Str} (r : Rp K M H v (.str i)) : v = .str i := by cases r; rfl
theorem Rp.non_inv {v : V} (r : Rp K M H v .non) : v = .non := by cases r; rfl
theorem Rp.at_inv {v u : V} (r : Rp K M H v (.at_ u)) : v = u := by cases r; rfl
theorem Rp.ins_inv {v : V} {C : Str} {fs : List (Str × D)} (r : Rp K M H v (.ins C fs)) : ∃ a dx fv, v = .ref a ∧ ¬ M a ∧ H a = some (.ins (He.ga K C) dx fv) ∧ RpF K M H fv fs := by
  cases r with
  | ins n e s => exact ⟨_, _, _, rfl, n, e, s⟩
theorem Rp.dk_inv {v : V} {ks : List Key} {ds : List D} (r : Rp K M H v (.dk ks ds)) : ∃ a kv, v = .ref a ∧ ¬ M a ∧ H a = some (.dK kv) ∧ kv.map Prod.fst = ks ∧ RpA K M H (kv.map Prod.snd) ds := by
  cases r with
  | dk n e s => exact ⟨_, _, rfl, n, e, rfl, s⟩
theorem Rp.dt_inv {v : V} {ks : List (List Key)} {ds : List D} (r : Rp K M H v (.dt ks ds)) : ∃ a kv, v = .ref a ∧ ¬ M a ∧ H a = some (.dT kv) ∧ kv.map Prod.fst = ks ∧ RpA K M H (kv.map Prod.snd) ds := by
  cases r with
  | dt n e s => exact ⟨_, _, rfl, n, e, rfl, s⟩
theorem Rp.cls_inv {v : V} {C : Str} (r : Rp K M H v (.cls C)) : v = .ref (He.ga K C) := by cases r; rfl
theorem RpF.look : ∀ {vs : List (Str × V)} {ds : List (Str × D)} {f : Str} {d : D}, RpF K M H vs ds → ds.lookup f = some d → ∃ v, vs.lookup f = some v ∧ Rp K M H v d
  | _, _, _, _, .nil, e => nomatch e
  | _, _, f, d, .cons (f := g) h t, e => by
    rw [lookup_put] at *
    by_cases q : f = g
    · subst q
      have e2 : List.lookup f ((f, _) :: _) = some d := e
      simp [List.lookup] at e2
      subst e2
      exact ⟨_, if_pos rfl, h⟩
    · have q2 : (f == g) = false := by simpa using q
      have e2 : List.lookup f ((g, _) :: _) = some d := e
      simp [List.lookup, q2] at e2
      obtain ⟨v, h1, h2⟩ := RpF.look t e2
      exact ⟨v, by rw [if_neg q]; exact h1, h2⟩
end
end Ud

set_option Elab.async false
set_option linter.all false
set_option maxRecDepth 100000
set_option maxHeartbeats 4000000
namespace Ud
open PySem PySem.Spec PyProof.Rows L2 Uc

theorem szOf {n : Nat} (h : n ≤ 100000) : n ≤ sizeLine := Nat.le_trans h (by decide)
theorem szLt {n : Nat} (h : n < 100000) : n < sizeLine := Nat.lt_of_lt_of_le h (by decide)
/-- what a slot holds: nothing, a value that stays, a list of one's own that may still change -/
inductive OD where | l (ds : List D) | k (ks : List Key) (ds : List D) | s (b : Bool) (ks : List Int) | t (ks : List (List Key)) (ds : List D)
inductive Sl where | no | val (d : D) | own (o : OD) | hand | self (C : Str) (fs : List (Str × D))
def OD.d : OD → D
  | .l ds => .lst ds
  | .k ks ds => .dk ks ds
  | .s _ _ => .non
  | .t ks ds => .dt ks ds
def OD.giv : OD → Bool
  | .s _ _ => false
  | _ => true
/-- what one's own thing holds -/
def OH (K : PySem.W.Frag) (M : Addr → Prop) (H : Hp) (p : Addr) (u : HO) : OD → Prop
  | .l ds => ∃ xs, u = .lst xs ∧ RpA K M H xs ds
  | .k ks ds => ∃ kv, u = .dK kv ∧ kv.map Prod.fst = ks ∧ RpA K M H (kv.map Prod.snd) ds
  | .s b ks => ∃ w : World, w.params.followText "set-order" = b ∧ u = SetO w p (fun j => decide (j ∈ ks)) ks.length ∧ ks.Nodup
  | .t ks ds => ∃ kv, u = .dT kv ∧ kv.map Prod.fst = ks ∧ RpA K M H (kv.map Prod.snd) ds
section
variable {K : PySem.W.Frag} {M M' : Addr → Prop} {H H' : Hp} {p : Addr} {u : HO}
theorem OH.mono (g : Gr M H H') : ∀ {o : OD}, OH K M H p u o → OH K M H' p u o
  | .l _, ⟨xs, e, r⟩ => ⟨xs, e, r.mono g⟩
  | .k _ _, ⟨kv, e, e2, r⟩ => ⟨kv, e, e2, r.mono g⟩
  | .s _ _, z => z
  | .t _ _, ⟨kv, e, e2, r⟩ => ⟨kv, e, e2, r.mono g⟩
theorem OH.wid (w : ∀ a, M' a → M a) : ∀ {o : OD}, OH K M H p u o → OH K M' H p u o
  | .l _, ⟨xs, e, r⟩ => ⟨xs, e, r.wid w⟩
  | .k _ _, ⟨kv, e, e2, r⟩ => ⟨kv, e, e2, r.wid w⟩
  | .s _ _, z => z
  | .t _ _, ⟨kv, e, e2, r⟩ => ⟨kv, e, e2, r.wid w⟩
theorem OH.nar (w : ∀ a, M' a → M a ∨ H a = none) : ∀ {o : OD}, OH K M H p u o → OH K M' H p u o
  | .l _, ⟨xs, e, r⟩ => ⟨xs, e, r.nar w⟩
  | .k _ _, ⟨kv, e, e2, r⟩ => ⟨kv, e, e2, r.nar w⟩
  | .s _ _, z => z
  | .t _ _, ⟨kv, e, e2, r⟩ => ⟨kv, e, e2, r.nar w⟩
/-- given over: a value -/
theorem OH.rp (n : ¬ M p) (e : H p = some u) : ∀ {o : OD}, OH K M H p u o → o.giv = true → Rp K M H (.ref p) o.d
  | .l _, ⟨xs, eu, r⟩, _ => .lst n (by rw [e, eu]) r
  | .k _ _, ⟨kv, eu, e2, r⟩, _ => by subst e2; exact .dk n (by rw [e, eu]) r
  | .t _ _, ⟨kv, eu, e2, r⟩, _ => by subst e2; exact .dt n (by rw [e, eu]) r
  | .s _ _, _, z => nomatch z
end

/-- a thing that calls may change: where it stands, what holds of it, what stands beside it; the law's hand, or the instance that is being made -/
structure Hd where
  p : Addr
  law : Bool
  I : HO → Prop
  J : Addr → HO → Prop
def HandAt (M : Addr → Prop) (H : Hp) (q : Hd) : Prop :=
  M q.p ∧ (∃ o, H q.p = some o ∧ q.I o) ∧ ∀ l o, q.J l o → H l = some o ∧ ¬ M l
def HandOk (h : Option Hd) (M : Addr → Prop) (H : Hp) : Prop := ∀ q, h = some q → HandAt M H q
/-- b is not the hand -/
def NH (h : Option Hd) (b : Addr) : Prop := ∀ q, h = some q → b ≠ q.p
/-- b is not the law's hand -/
def NL (h : Option Hd) (b : Addr) : Prop := ∀ q, h = some q → q.law = true → b ≠ q.p
theorem NH.nl {h : Option Hd} {b : Addr} (n : NH h b) : NL h b := fun q e _ => n q e
def LawOk (h : Option Hd) : Prop := ∀ q, h = some q → q.law = true
theorem NL.nh {h : Option Hd} {b : Addr} (l : LawOk h) (n : NL h b) : NH h b := fun q e => n q e (l q e)
/-- the law's hand alone has changed -/
def Gh (h : Option Hd) (H H' : Hp) : Prop := ∀ b o, NL h b → H b = some o → H' b = some o
theorem Gh.refl (h : Option Hd) (H : Hp) : Gh h H H := fun _ _ _ e => e
theorem Gh.trans {h : Option Hd} {H H1 H2 : Hp} (a : Gh h H H1) (b : Gh h H1 H2) : Gh h H H2 := fun c o n e => b c o n (a c o n e)
theorem Gh.gr {h : Option Hd} {M : Addr → Prop} {H H0 H' : Hp} (k : HandOk h M H0) (g : Gh h H H') : Gr M H H' := fun b o n e => g b o (fun q z _ y => n (by rw [y]; exact (k q z).1)) e
theorem Gh.all {h : Option Hd} {H H' : Hp} (e : ∀ b o, H b = some o → H' b = some o) : Gh h H H' := fun b o _ q => e b o q
theorem Gh.new {h : Option Hd} {H : Hp} {p : Addr} {o : HO} (n : H p = none) : Gh h H (upd H p o) := fun b u _ e => by
  rw [upd_ne (ne_of_none e n)]
  exact e
def Live (M : Addr → Prop) (H : Hp) : Prop := ∀ a, M a → ∃ o, H a = some o
theorem Live.new {M : Addr → Prop} {H : Hp} {p : Addr} (l : Live M H) (n : H p = none) : ¬ M p := fun z => by
  obtain ⟨o, e⟩ := l p z
  rw [n] at e
  cases e

/-- a state: what the slots hold; B: what its caller may change; F: what stays through -/
structure SD (K : PySem.W.Frag) (h : Option Hd) (B : Addr → Prop) (F : Addr → HO → Prop) (G : V → D → Prop) (M : Addr → Prop) (H : Hp) (σ : L2.St) (δ : List Sl) : Prop where
  len : σ.length = δ.length
  val : ∀ (i : Nat) (d : D), δ[i]? = some (Sl.val d) → ∃ v, σ[i]? = some (some v) ∧ Rp K M H v d
  own : ∀ (i : Nat) (ds : OD), δ[i]? = some (Sl.own ds) → ∃ p xs, σ[i]? = some (some (.ref p)) ∧ M p ∧ NH h p ∧ H p = some xs ∧ OH K M H p xs ds ∧ ¬ B p ∧ ∀ o, ¬ F p o
  hnd : ∀ (i : Nat), δ[i]? = some Sl.hand → ∃ q, h = some q ∧ q.law = true ∧ σ[i]? = some (some (.ref q.p))
  slf : ∀ (i : Nat) (C : Str) (fs : List (Str × D)), δ[i]? = some (Sl.self C fs) → ∃ q, h = some q ∧ q.law = false ∧ σ[i]? = some (some (.ref q.p)) ∧ ∃ dx fv, H q.p = some (.ins (He.ga K C) dx fv) ∧ RpF K M H fv fs
  dis : ∀ (i j : Nat) (ds es : OD) (p : Addr), i ≠ j → δ[i]? = some (Sl.own ds) → δ[j]? = some (Sl.own es) → σ[i]? = some (some (.ref p)) → σ[j]? ≠ some (some (.ref p))
  hand : HandOk h M H
  live : Live M H
  fk : ∀ b o, F b o → H b = some o
  fh : ∀ b o, F b o → NH h b
  gk : ∀ v d, G v d → Rp K M H v d
  mb : ∀ a, B a → M a

section
variable {K : PySem.W.Frag} {h : Option Hd} {B : Addr → Prop} {F : Addr → HO → Prop} {G : V → D → Prop} {M : Addr → Prop} {H H' : Hp} {σ : L2.St} {δ : List Sl}
theorem nh_or (h : Option Hd) (b : Addr) : NH h b ∨ ∃ q, h = some q ∧ b = q.p := by
  cases h with
  | none => exact .inl fun q z => nomatch z
  | some q =>
    by_cases e : b = q.p
    · exact .inr ⟨q, rfl, e⟩
    · exact .inl fun q' z => by cases z; exact e
theorem Gh.live (l : Live M H) (k : HandOk h M H') (g : Gh h H H') : Live M H' := fun a z => by
  obtain ⟨o, e⟩ := l a z
  rcases nh_or h a with q | ⟨q, rfl, rfl⟩
  · exact ⟨o, g a o q.nl e⟩
  · obtain ⟨_, ⟨o, hp, _⟩, _⟩ := k q rfl
    exact ⟨_, hp⟩
theorem SD.step (S : SD K h B F G M H σ δ) (g : Gh h H H') (k : HandOk h M H') : SD K h B F G M H' σ δ where
  len := S.len
  val := fun i d e => by
    obtain ⟨v, e1, r⟩ := S.val i d e
    exact ⟨v, e1, r.mono (g.gr S.hand)⟩
  own := fun i ds e => by
    obtain ⟨p, xs, e1, mp, np, hp, r, z⟩ := S.own i ds e
    exact ⟨p, xs, e1, mp, np, g p _ np.nl hp, r.mono (g.gr S.hand), z⟩
  hnd := S.hnd
  slf := fun i C fs e => by
    obtain ⟨q, hq, ql, e1, dx, fv, e2, r⟩ := S.slf i C fs e
    exact ⟨q, hq, ql, e1, dx, fv, g _ _ (fun q' hq' l => by rw [hq] at hq'; cases hq'; rw [ql] at l; cases l) e2, r.mono (g.gr S.hand)⟩
  dis := S.dis
  hand := k
  live := g.live S.live k
  fk := fun b o e => g b o (S.fh b o e).nl (S.fk b o e)
  fh := S.fh
  gk := fun v d z => (S.gk v d z).mono (g.gr S.hand)
  mb := S.mb
theorem handOk_all (k : HandOk h M H) (e : ∀ b o, H b = some o → H' b = some o) : HandOk h M H' := fun p q => by
  obtain ⟨mp, ⟨o, h1, h2⟩, h3⟩ := k p q
  exact ⟨mp, ⟨o, e _ _ h1, h2⟩, fun l o z => ⟨e _ _ (h3 l o z).1, (h3 l o z).2⟩⟩
theorem SD.all (S : SD K h B F G M H σ δ) (e : ∀ b o, H b = some o → H' b = some o) : SD K h B F G M H' σ δ := S.step (Gh.all e) (handOk_all S.hand e)
/-- an address that is free behind was free ahead -/
theorem Gh.free (S : SD K h B F G M H' σ δ) (g : Gh h H H') {p : Addr} (hp : H' p = none) : H p = none := by
  cases z : H p with
  | none => rfl
  | some o =>
    rcases nh_or h p with y | ⟨q, rfl, rfl⟩
    · rw [g p o y.nl z] at hp
      cases hp
    · obtain ⟨_, ⟨o, e1, _⟩, _⟩ := S.hand q rfl
      rw [hp] at e1
      cases e1
/-- a new thing beside the hand -/
theorem HandOk.up {Dl : Addr} {u : HO} (k : HandOk h M H) (hD : H Dl = none) : HandOk h (fun a => M a ∨ a = Dl) (upd H Dl u) := fun q e => by
  obtain ⟨m, ⟨o, h1, h2⟩, h3⟩ := k q e
  exact ⟨.inl m, ⟨o, by rw [upd_ne (ne_of_none h1 hD)]; exact h1, h2⟩, fun l o z => ⟨by rw [upd_ne (ne_of_none (h3 l o z).1 hD)]; exact (h3 l o z).1, fun y => y.elim (h3 l o z).2 (ne_of_none (h3 l o z).1 hD)⟩⟩
/-- one's own thing written -/
theorem HandOk.put {p : Addr} {u : HO} (k : HandOk h M H) (mp : M p) (np : NH h p) : HandOk h M (upd H p u) := fun q e => by
  obtain ⟨m, ⟨o, h1, h2⟩, h3⟩ := k q e
  exact ⟨m, ⟨o, by rw [upd_ne (fun y => np q e y.symm)]; exact h1, h2⟩, fun l o z => ⟨by rw [upd_ne (fun y => (h3 l o z).2 (by rw [y]; exact mp))]; exact (h3 l o z).1, (h3 l o z).2⟩⟩
/-- fewer things that may change -/
theorem HandOk.down {M' : Addr → Prop} (k : HandOk h M H) (w : ∀ a, M' a → M a) (m : ∀ q, h = some q → M' q.p) : HandOk h M' H := fun q e => by
  obtain ⟨_, h1, h3⟩ := k q e
  exact ⟨m q e, h1, fun l o z => ⟨(h3 l o z).1, fun y => (h3 l o z).2 (w _ y)⟩⟩
theorem new_all {p : Addr} {o : HO} (n : H p = none) : ∀ b u, H b = some u → (upd H p o) b = some u := fun b u e => by
  rw [upd_ne (ne_of_none e n)]
  exact e
end

theorem rpA_new {K : PySem.W.Frag} {M : Addr → Prop} {H : Hp} {p : Addr} {o : HO} {xs : List V} {ds : List D} (n : H p = none) (r : RpA K M H xs ds) : RpA K (fun a => M a ∨ a = p) (upd H p o) xs ds :=
  (r.nar (M' := fun a => M a ∨ a = p) fun a z => z.elim .inl fun y => .inr (by rw [y]; exact n)).mono fun b u nb e => by rw [upd_ne (ne_of_none e n)]; exact e
/-- an expression's, a test's, an argument list's, a block's own reading -/
def eS (X : Cx) (e : Expr) : TE := fun σ H Q => ∀ pins s, Inv X pins σ H s → wpAny (model X.prog X.w) X.A (eval e X.env) (EP X pins σ Q) X.xe s
def tS (X : Cx) (e : Expr) : TT := fun σ H Q => ∀ pins s, Inv X pins σ H s → wpAny (model X.prog X.w) X.A (isTrue e X.env (eval e X.env)) (TP X pins σ Q) X.xe s
def wS (X : Cx) (e : Expr) : TT := fun σ H Q => ∀ whole pins s, Inv X pins σ H s → wpAny (model X.prog X.w) X.A (isTrue e X.env whole) (TP X pins σ Q) X.xe s
def aS (X : Cx) (es : List Expr) : TA := fun σ H Q => ∀ pos pins s, Inv X pins σ H s → wpAny (model X.prog X.w) X.A (spliced (backTo pos (starEach es X.env))) (AP X pins σ Q) X.xe s
def sS (X : Cx) (st : Stmt) : TS := fun D σ H => ∀ pins s, Inv X pins σ H s → wpAny (model X.prog X.w) X.A (exec st X.env) (SP X pins D) X.xe s
def bS (X : Cx) (st : List Stmt) : TS := fun D σ H => ∀ pins s, Inv X pins σ H s → wpAny (model X.prog X.w) X.A (execs st X.env) (SP X pins D) X.xe s
section
variable {X : Cx} {e : Expr} {es : List Expr} {st : Stmt} {b : List Stmt} {σ : L2.St} {H : Hp}
theorem peS : PE X e (eS X e) := ⟨fun pins s _ _ _ I h => h pins s I⟩
theorem ptS : PT X e (tS X e) := ⟨fun pins s _ _ _ I h => h pins s I⟩
theorem pwS : PW X e (wS X e) := ⟨fun w pins s _ _ _ I h => h w pins s I⟩
theorem paS : PA X es (aS X es) := ⟨fun pos pins s _ _ _ I h => h pos pins s I⟩
theorem psS : PS X st (sS X st) := ⟨fun pins s _ _ _ I h => h pins s I⟩
theorem pbS : PSs X b (bS X b) := ⟨fun pins s _ _ _ I h => h pins s I⟩
theorem eS_of {t : TE} {Q : VK} (p : PE X e t) (h : t σ H Q) : eS X e σ H Q := fun pins s I => p.run pins s σ H Q I h
theorem tS_of {t : TT} {Q : Bool → Hp → Prop} (p : PT X e t) (h : t σ H Q) : tS X e σ H Q := fun pins s I => p.run pins s σ H Q I h
theorem wS_of {t : TT} {Q : Bool → Hp → Prop} (p : PW X e t) (h : t σ H Q) : wS X e σ H Q := fun w pins s I => p.run w pins s σ H Q I h
theorem aS_of {t : TA} {Q : List V → Hp → Prop} (p : PA X es t) (h : t σ H Q) : aS X es σ H Q := fun pos pins s I => p.run pos pins s σ H Q I h
theorem sS_of {t : TS} {D : Ends} (p : PS X st t) (h : t D σ H) : sS X st D σ H := fun pins s I => p.run pins s σ H D I h
theorem bS_of {t : TS} {D : Ends} (p : PSs X b t) (h : t D σ H) : bS X b D σ H := fun pins s I => p.run pins s σ H D I h
end

/-- how an exception stands behind the code: its class, its fields -/
def ExcD (K : PySem.W.Frag) (M : Addr → Prop) (H : Hp) (fs : List (Str × D)) : Option Addr → Prop
  | none => fs = []
  | some d => ¬ M d ∧ ∃ fv, H d = some (.xd fv) ∧ RpF K M H fv fs

/-- what may come of an expression: Φ of its value; Ψ of what is raised -/
structure WE (X : Cx) (h : Option Hd) (e : Expr) (δ : List Sl) (Φ : D → Prop) (Ψ : Str → List (Str × D) → Prop) : Prop where
  run : ∀ (B : Addr → Prop) (F : Addr → HO → Prop) (G : V → D → Prop) (M : Addr → Prop) (σ : L2.St) (H : Hp) (Q : VK) (W : WX), Takes X W → SD X.K h B F G M H σ δ →
    (∀ v H' d, Gh h H H' → SD X.K h B F G M H' σ δ → Rp X.K M H' v d → Φ d → Q v H') →
    (∀ C od H' fs, Gh h H H' → SD X.K h B F G M H' σ δ → ExcD X.K M H' fs od → Ψ C fs → W (.ref (He.ga X.K C)) od σ H') → eS X e σ H Q
structure WT (X : Cx) (h : Option Hd) (e : Expr) (δ : List Sl) (Φ : Bool → Prop) (Ψ : Str → List (Str × D) → Prop) : Prop where
  run : ∀ (B : Addr → Prop) (F : Addr → HO → Prop) (G : V → D → Prop) (M : Addr → Prop) (σ : L2.St) (H : Hp) (Q : Bool → Hp → Prop) (W : WX), Takes X W → SD X.K h B F G M H σ δ →
    (∀ b H', Gh h H H' → SD X.K h B F G M H' σ δ → Φ b → Q b H') →
    (∀ C od H' fs, Gh h H H' → SD X.K h B F G M H' σ δ → ExcD X.K M H' fs od → Ψ C fs → W (.ref (He.ga X.K C)) od σ H') → tS X e σ H Q
structure WW (X : Cx) (h : Option Hd) (e : Expr) (δ : List Sl) (Φ : Bool → Prop) (Ψ : Str → List (Str × D) → Prop) : Prop where
  run : ∀ (B : Addr → Prop) (F : Addr → HO → Prop) (G : V → D → Prop) (M : Addr → Prop) (σ : L2.St) (H : Hp) (Q : Bool → Hp → Prop) (W : WX), Takes X W → SD X.K h B F G M H σ δ →
    (∀ b H', Gh h H H' → SD X.K h B F G M H' σ δ → Φ b → Q b H') →
    (∀ C od H' fs, Gh h H H' → SD X.K h B F G M H' σ δ → ExcD X.K M H' fs od → Ψ C fs → W (.ref (He.ga X.K C)) od σ H') → wS X e σ H Q
structure WA (X : Cx) (h : Option Hd) (es : List Expr) (δ : List Sl) (Φ : List D → Prop) (Ψ : Str → List (Str × D) → Prop) : Prop where
  run : ∀ (B : Addr → Prop) (F : Addr → HO → Prop) (G : V → D → Prop) (M : Addr → Prop) (σ : L2.St) (H : Hp) (Q : List V → Hp → Prop) (W : WX), Takes X W → SD X.K h B F G M H σ δ →
    (∀ vs H' ds, Gh h H H' → SD X.K h B F G M H' σ δ → RpA X.K M H' vs ds → Φ ds → Q vs H') →
    (∀ C od H' fs, Gh h H H' → SD X.K h B F G M H' σ δ → ExcD X.K M H' fs od → Ψ C fs → W (.ref (He.ga X.K C)) od σ H') → aS X es σ H Q
/-- .. where the value is a new list, which may be one's own -/
structure WF (X : Cx) (h : Option Hd) (e : Expr) (δ : List Sl) (Φ : List D → Prop) (Ψ : Str → List (Str × D) → Prop) : Prop where
  run : ∀ (B : Addr → Prop) (F : Addr → HO → Prop) (G : V → D → Prop) (M : Addr → Prop) (σ : L2.St) (H : Hp) (Q : VK) (W : WX), Takes X W → SD X.K h B F G M H σ δ →
    (∀ p H' xs ds, Gh h H H' → SD X.K h B F G M H' σ δ → H p = none → H' p = some (.lst xs) → RpA X.K (fun a => M a ∨ a = p) H' xs ds → Φ ds → Q (.ref p) H') →
    (∀ C od H' fs, Gh h H H' → SD X.K h B F G M H' σ δ → ExcD X.K M H' fs od → Ψ C fs → W (.ref (He.ga X.K C)) od σ H') → eS X e σ H Q

section
variable {X : Cx} {h : Option Hd} {δ : List Sl} {Φ : D → Prop} {Ψ : Str → List (Str × D) → Prop} {a b e : Expr} {es : List Expr} {pos : Pos}

theorem WE.mono {Φ' : D → Prop} (w : WE X h e δ Φ Ψ) (k : ∀ d, Φ d → Φ' d) : WE X h e δ Φ' Ψ := .mk fun B F G M σ H Q W tk S q x => w.run B F G M σ H Q W tk S (fun v H' d g S' r f => q v H' d g S' r (k d f)) x
theorem WF.we (w : WF X h e δ (fun ds => Φ (.lst ds)) Ψ) : WE X h e δ Φ Ψ := .mk fun B F G M σ H Q W tk S q x =>
  w.run B F G M σ H Q W tk S (fun p H' xs ds g S' n hp r f => q (.ref p) H' (.lst ds) g S' (.lst (S.live.new n) hp (r.wid fun _ z => .inl z)) f) x

/-! ### names, constants -/
theorem we_var {x : Str} (i : Nat) (d : D) (hd : δ[i]? = some (Sl.val d)) (k : Φ d) (hN : X.N[i]? = some x := by rfl)
    (hv : Vis X.env.scope x := by first | exact Or.inl rfl | exact Or.inr (Or.inl rfl) | exact Or.inr (Or.inr rfl)) (h1 : (x == ("__debug__" : Str)) = false := by decide) (h2 : (x == ("__classdict__" : Str)) = false := by decide) : WE X h (.Name x pos) δ Φ Ψ := .mk fun B F G M σ H Q W tk S q _ => by
  obtain ⟨v, e, r⟩ := S.val i d hd
  exact eS_of (pe_var hN hv h1 h2) ⟨v, e, q v H d (Gh.refl _ _) S r k⟩
theorem we_int {i : Int} {j : Nat} (k : Φ (.int i)) : WE X h (.Constant (.int i) j pos) δ Φ Ψ := .mk fun B F G M σ H Q W tk S q _ => eS_of pe_int (q _ H _ (Gh.refl _ _) S (.int i) k)
theorem we_bl {i : Bool} {j : Nat} (k : Φ (.bl i)) : WE X h (.Constant (.bool i) j pos) δ Φ Ψ := .mk fun B F G M σ H Q W tk S q _ => eS_of pe_bl (q _ H _ (Gh.refl _ _) S (.bl i) k)
theorem we_non {j : Nat} (k : Φ .non) : WE X h (.Constant .none j pos) δ Φ Ψ := .mk fun B F G M σ H Q W tk S q _ => eS_of pe_non (q _ H _ (Gh.refl _ _) S .non k)
theorem we_str {i : Str} {j : Nat} (k : Φ (.str i)) : WE X h (.Constant (.str i) j pos) δ Φ Ψ := .mk fun B F G M σ H Q W tk S q _ => eS_of pe_str (q _ H _ (Gh.refl _ _) S (.str i) k)
/-- a class, a def, as a value -/
theorem we_glob {x : Str} (v : V) (u : Value) (hm : X.mg x = some u) (r : RelV v u) (k : Φ (.at_ v)) (hg : Gl X x := by rfl) (hd : (x == ("__debug__" : Str)) = false := by decide) : WE X h (.Name x pos) δ Φ Ψ := .mk fun B F G M σ H Q W tk S q _ =>
  eS_of (pe_glob hg hm r hd) (q v H _ (Gh.refl _ _) S (.at_ v) k)
theorem we_ty {x : Str} (n : String) (hm : X.mg x = none) (k : Φ (.at_ (.ty n))) (hv : bootBuiltins x = some (.type n) := by decide +kernel) (hg : Gl X x := by rfl) (hn : x ≠ "__name__" := by decide) (hd : (x == ("__debug__" : Str)) = false := by decide) : WE X h (.Name x pos) δ Φ Ψ := .mk fun B F G M σ H Q W tk S q _ =>
  eS_of (pe_bltn hg hm hv (v := .ty n) rfl hn hd) (q (.ty n) H _ (Gh.refl _ _) S (.at_ _) k)

/-! ### arguments, displays -/
theorem wa_nil {Φ : List D → Prop} (k : Φ []) : WA X h [] δ Φ Ψ := .mk fun B F G M σ H Q W tk S q _ => aS_of pa_nil (q [] H [] (Gh.refl _ _) S .nil k)
theorem wa_cons {Φ : List D → Prop} (w : WE X h e δ (fun d => WA X h es δ (fun ds => Φ (d :: ds)) Ψ) Ψ) (hs : starEach (e :: es) X.env = (false, eval e X.env) :: starEach es X.env := by rfl) : WA X h (e :: es) δ Φ Ψ := .mk fun B F G M σ H Q W tk S q x =>
  aS_of (pa_cons peS paS hs) (w.run B F G M σ H _ W tk S (fun v H1 d g1 S1 r1 wr => wr.run B F G M σ H1 _ W tk S1 (fun vs H2 ds g2 S2 r2 k => q (v :: vs) H2 (d :: ds) (g1.trans g2) S2 (.cons (r1.mono (g2.gr S1.hand)) r2) k)
    (fun C od H2 fs g2 S2 ed f => x C od H2 fs (g1.trans g2) S2 ed f)) x)
theorem we_tup {j : Nat} (w : WA X h es δ (fun ds => ds.length ≤ 100000 ∧ Φ (.tup ds)) Ψ) : WE X h (.Tuple es j pos) δ Φ Ψ := .mk fun B F G M σ H Q W tk S q x =>
  eS_of (pe_tup paS) (w.run B F G M σ H _ W tk S (fun vs H1 ds g S1 r ⟨hl, k⟩ => ⟨by rw [r.length]; exact szOf hl, fun p hp =>
    q (.ref p) _ (.tup ds) (g.trans (Gh.new hp)) (S1.all (new_all hp)) (.tup (S1.live.new hp) upd_same (r.mono (Gh.gr S1.hand (Gh.new (h := h) hp)))) k⟩) x)
theorem wf_lst {Φ : List D → Prop} (w : WA X h es δ (fun ds => ds.length ≤ 100000 ∧ Φ ds) Ψ) : WF X h (.List es pos) δ Φ Ψ := .mk fun B F G M σ H Q W tk S q x =>
  eS_of (pe_lst paS) (w.run B F G M σ H _ W tk S (fun vs H1 ds g S1 r ⟨hl, k⟩ => ⟨by rw [r.length]; exact szOf hl, fun p hp => by
    have hn : H p = none := Gh.free S1 g hp
    exact q p _ vs ds (g.trans (Gh.new hp)) (S1.all (new_all hp)) hn upd_same (rpA_new hp r) k⟩) x)
theorem we_lst (w : WA X h es δ (fun ds => ds.length ≤ 100000 ∧ Φ (.lst ds)) Ψ) : WE X h (.List es pos) δ Φ Ψ := WF.we (wf_lst w)
end
end Ud

set_option Elab.async false
set_option linter.all false
set_option maxRecDepth 100000
set_option maxHeartbeats 4000000
namespace Ud
open PySem PySem.Spec PyProof.Rows L2 Uc

abbrev Ans (X : Cx) (h : Option Hd) (B : Addr → Prop) (F : Addr → HO → Prop) (G : V → D → Prop) (M : Addr → Prop) (H : Hp) (σ : L2.St) (δ : List Sl) (Φ : D → Prop) (Q : VK) : Prop :=
  ∀ v H' d, Gh h H H' → SD X.K h B F G M H' σ δ → Rp X.K M H' v d → Φ d → Q v H'
abbrev Out (X : Cx) (h : Option Hd) (B : Addr → Prop) (F : Addr → HO → Prop) (G : V → D → Prop) (M : Addr → Prop) (H : Hp) (σ : L2.St) (δ : List Sl) (Ψ : Str → List (Str × D) → Prop) (W : WX) : Prop :=
  ∀ C od H' fs, Gh h H H' → SD X.K h B F G M H' σ δ → ExcD X.K M H' fs od → Ψ C fs → W (.ref (He.ga X.K C)) od σ H'
section
variable {X : Cx} {h : Option Hd} {B : Addr → Prop} {F : Addr → HO → Prop} {G : V → D → Prop} {M : Addr → Prop} {H H1 : Hp} {σ : L2.St} {δ : List Sl} {Φ : D → Prop} {Ψ : Str → List (Str × D) → Prop} {Q : VK} {W : WX}
theorem Ans.now (q : Ans X h B F G M H σ δ Φ Q) (S : SD X.K h B F G M H σ δ) {v : V} {d : D} (r : Rp X.K M H v d) (k : Φ d) : Q v H := q v H d (Gh.refl _ _) S r k
theorem Ans.on (q : Ans X h B F G M H σ δ Φ Q) (g : Gh h H H1) : Ans X h B F G M H1 σ δ Φ Q := fun v H' d g' S r k => q v H' d (g.trans g') S r k
theorem Out.on (q : Out X h B F G M H σ δ Ψ W) (g : Gh h H H1) : Out X h B F G M H1 σ δ Ψ W := fun C od H' fs g' S e f => q C od H' fs (g.trans g') S e f
theorem Ans.lst (q : Ans X h B F G M H σ δ Φ Q) (S : SD X.K h B F G M H σ δ) {p : Addr} (hp : H p = none) {xs : List V} {ds : List D} (r : RpA X.K M H xs ds) (k : Φ (.lst ds)) : Q (.ref p) (upd H p (.lst xs)) :=
  q (.ref p) _ (.lst ds) (Gh.new hp) (S.all (new_all hp)) (.lst (S.live.new hp) upd_same (r.mono (Gh.gr S.hand (Gh.new (h := h) hp)))) k
theorem Ans.tup (q : Ans X h B F G M H σ δ Φ Q) (S : SD X.K h B F G M H σ δ) {p : Addr} (hp : H p = none) {xs : List V} {ds : List D} (r : RpA X.K M H xs ds) (k : Φ (.tup ds)) : Q (.ref p) (upd H p (.tup xs)) :=
  q (.ref p) _ (.tup ds) (Gh.new hp) (S.all (new_all hp)) (.tup (S.live.new hp) upd_same (r.mono (Gh.gr S.hand (Gh.new (h := h) hp)))) k
end

/-! ### operators -/
def OpS (X : Cx) (h : Option Hd) (r : R2) (S : D → D → (D → Prop) → Prop) : Prop :=
  ∀ (B : Addr → Prop) (F : Addr → HO → Prop) (G : V → D → Prop) (M : Addr → Prop) (σ : L2.St) (δ : List Sl) (H : Hp) (x y : V) (dx dy : D) (Q : VK) (Φ : D → Prop), SD X.K h B F G M H σ δ → Rp X.K M H x dx → Rp X.K M H y dy → S dx dy Φ → Ans X h B F G M H σ δ Φ Q → r x y H Q
section
variable {X : Cx} {h : Option Hd} {δ : List Sl} {Φ : D → Prop} {Ψ : Str → List (Str × D) → Prop} {a b c e : Expr} {es : List Expr} {pos : Pos} {r : R2} {S : D → D → (D → Prop) → Prop}
theorem we_op {op : Operator} (ho : OpR X (binaryOp op) r) (hS : OpS X h r S) (w : WE X h a δ (fun x => WE X h b δ (fun y => S x y Φ) Ψ) Ψ) : WE X h (.BinOp a op b pos) δ Φ Ψ := .mk fun B F G M σ H Q W tk S0 q x =>
  eS_of (pe_op ho peS peS) (w.run B F G M σ H _ W tk S0 (fun v H1 d g1 S1 r1 w2 => w2.run B F G M σ H1 _ W tk S1 (fun u H2 d2 g2 S2 r2 k => hS B F G M σ δ H2 v u d d2 Q Φ S2 (r1.mono (g2.gr S1.hand)) r2 k (Ans.on q (g1.trans g2))) (Out.on x g1)) x)
theorem we_cmp {op : CmpOp} (ho : OpR X (compareOp op) r) (hS : OpS X h r S) (w : WE X h a δ (fun x => WE X h b δ (fun y => S x y Φ) Ψ) Ψ) (hm : behindInMarks op b = false) : WE X h (.Compare a [op] [b] pos) δ Φ Ψ := .mk fun B F G M σ H Q W tk S0 q x =>
  eS_of (pe_cmpR ho peS peS hm) (w.run B F G M σ H _ W tk S0 (fun v H1 d g1 S1 r1 w2 => w2.run B F G M σ H1 _ W tk S1 (fun u H2 d2 g2 S2 r2 k => hS B F G M σ δ H2 v u d d2 Q Φ S2 (r1.mono (g2.gr S1.hand)) r2 k (Ans.on q (g1.trans g2))) (Out.on x g1)) x)

/-- two ints -/
def sI (C : Int → Int → Prop) (g : Int → Int → D) : D → D → (D → Prop) → Prop
  | .int i, .int j, Φ => C i j ∧ Φ (g i j)
  | _, _, _ => False
theorem opS_I {C : Int → Int → Prop} {g : Int → Int → Int} : OpS X h (rI C fun i j => .int (g i j)) (sI C fun i j => .int (g i j)) := fun B F G M σ δ H x y dx dy Q Φ S r1 r2 k q => by
  cases r1 <;> cases r2 <;> first | exact False.elim k | exact ⟨_, _, rfl, rfl, k.1, Ans.now q S (.int _) k.2⟩
theorem opS_I0 {g : Int → Int → Int} : OpS X h (rI0 fun i j => .int (g i j)) (sI (fun _ _ => True) fun i j => .int (g i j)) := fun B F G M σ δ H x y dx dy Q Φ S r1 r2 k q => by
  cases r1 <;> cases r2 <;> first | exact False.elim k | exact ⟨_, _, rfl, rfl, Ans.now q S (.int _) k.2⟩
theorem opS_B0 {g : Int → Int → Bool} : OpS X h (rI0 fun i j => .bl (g i j)) (sI (fun _ _ => True) fun i j => .bl (g i j)) := fun B F G M σ δ H x y dx dy Q Φ S r1 r2 k q => by
  cases r1 <;> cases r2 <;> first | exact False.elim k | exact ⟨_, _, rfl, rfl, Ans.now q S (.bl _) k.2⟩
theorem we_sub (w : WE X h a δ (fun x => WE X h b δ (fun y => sI (fun _ _ => True) (fun i j => .int (i - j)) x y Φ) Ψ) Ψ) : WE X h (.BinOp a .Sub b pos) δ Φ Ψ := we_op op_sub opS_I0 w
theorem we_mul (w : WE X h a δ (fun x => WE X h b δ (fun y => sI CMul (fun i j => .int (i * j)) x y Φ) Ψ) Ψ) : WE X h (.BinOp a .Mult b pos) δ Φ Ψ := we_op op_mul opS_I w
theorem we_div (w : WE X h a δ (fun x => WE X h b δ (fun y => sI CDivW (fun i j => .int (i / j)) x y Φ) Ψ) Ψ) : WE X h (.BinOp a .FloorDiv b pos) δ Φ Ψ := we_op op_fdivW opS_I w
theorem we_mod (w : WE X h a δ (fun x => WE X h b δ (fun y => sI (fun _ j => 0 < j) (fun i j => .int (i % j)) x y Φ) Ψ) Ψ) : WE X h (.BinOp a .Mod b pos) δ Φ Ψ := we_op op_mod opS_I w
theorem we_pow (w : WE X h a δ (fun x => WE X h b δ (fun y => sI CPow (fun i j => .int (i ^ j.toNat)) x y Φ) Ψ) Ψ) : WE X h (.BinOp a .Pow b pos) δ Φ Ψ := we_op op_pow opS_I w
/-- + of ints, of texts, of lists -/
def sAdd : D → D → (D → Prop) → Prop
  | .int i, .int j, Φ => Φ (.int (i + j))
  | .str s, .str t, Φ => s.length + t.length ≤ sizeLine ∧ Φ (.str (s ++ t))
  | .lst xs, .lst ys, Φ => xs.length + ys.length ≤ 100000 ∧ Φ (.lst (xs ++ ys))
  | .tup (x :: xs), .tup ys, Φ => xs.length + ys.length ≤ 90000 ∧ Φ (.tup (x :: xs ++ ys))
  | _, _, _ => False
theorem we_add (w : WE X h a δ (fun x => WE X h b δ (fun y => sAdd x y Φ) Ψ) Ψ) : WE X h (.BinOp a .Add b pos) δ Φ Ψ := by
  refine we_op (op_add.or (op_add_str.or (op_cat.or op_catT))) (fun B F G M σ δ H x y dx dy Q Φ S r1 r2 k q => ?_) w
  cases dx with
  | int i => cases dy with
    | int j =>
      obtain rfl := r1.int_inv
      obtain rfl := r2.int_inv
      exact .inl ⟨i, j, rfl, rfl, Ans.now q S (.int _) k⟩
    | _ => exact False.elim k
  | str s => cases dy with
    | str t =>
      obtain rfl := r1.str_inv
      obtain rfl := r2.str_inv
      exact .inr (.inl ⟨s, t, rfl, rfl, k.1, Ans.now q S (.str _) k.2⟩)
    | _ => exact False.elim k
  | lst ds => cases dy with
    | lst es =>
      obtain ⟨a, xs, rfl, n1, e1, s1⟩ := r1.lst_inv
      obtain ⟨b, ys, rfl, n2, e2, s2⟩ := r2.lst_inv
      exact .inr (.inr (.inl ⟨a, b, xs, ys, rfl, rfl, e1, e2, szOf (by rw [s1.length, s2.length]; exact k.1), fun p hp => Ans.lst q S hp (s1.append s2) k.2⟩))
    | _ => exact False.elim k
  | tup ds => cases dy with
    | tup es =>
      obtain ⟨a, xs, rfl, e1, s1⟩ := r1.tup_inv
      obtain ⟨b, ys, rfl, e2, s2⟩ := r2.tup_inv
      cases s1 with
      | nil => exact False.elim k
      | cons hx tx => cases s2 with
        | nil =>
          refine .inr (.inr (.inr ⟨a, b, _, _, rfl, rfl, e1, e2, by simp, szOf (by have l1 := tx.length; have := k.1; simp only [List.length_cons, List.length_nil] at *; omega), fun _ => Ans.now q S r1 (by have k2 := k.2; rw [List.append_nil] at k2; exact k2), fun z => absurd rfl z⟩))
        | cons hy ty =>
          refine .inr (.inr (.inr ⟨a, b, _, _, rfl, rfl, e1, e2, by simp, szOf (by have l1 := tx.length; have l2 := ty.length; have := k.1; simp only [List.length_cons] at *; omega), fun z => by simp at z, fun _ p hp => Ans.tup q S hp (RpA.append (.cons hx tx) (.cons hy ty)) k.2⟩))
    | _ => cases ds <;> exact False.elim k
  | _ => cases dy <;> exact False.elim k

/-! ### comparisons -/
theorem we_lt (w : WE X h a δ (fun x => WE X h b δ (fun y => sI (fun _ _ => True) (fun i j => .bl (decide (i < j))) x y Φ) Ψ) Ψ) : WE X h (.Compare a [.Lt] [b] pos) δ Φ Ψ := we_cmp op_lt opS_B0 w (nomark _)
theorem we_le (w : WE X h a δ (fun x => WE X h b δ (fun y => sI (fun _ _ => True) (fun i j => .bl (decide (i ≤ j))) x y Φ) Ψ) Ψ) : WE X h (.Compare a [.LtE] [b] pos) δ Φ Ψ := we_cmp op_le opS_B0 w (nomark _)
theorem we_gt (w : WE X h a δ (fun x => WE X h b δ (fun y => sI (fun _ _ => True) (fun i j => .bl (decide (j < i))) x y Φ) Ψ) Ψ) : WE X h (.Compare a [.Gt] [b] pos) δ Φ Ψ := we_cmp op_gt opS_B0 w (nomark _)
theorem we_ge (w : WE X h a δ (fun x => WE X h b δ (fun y => sI (fun _ _ => True) (fun i j => .bl (decide (j ≤ i))) x y Φ) Ψ) Ψ) : WE X h (.Compare a [.GtE] [b] pos) δ Φ Ψ := we_cmp op_ge opS_B0 w (nomark _)
/-- scalars -/
def sEq : D → D → (Bool → Prop) → Prop
  | .int i, .int j, Φ => Φ (decide (i = j))
  | .bl i, .bl j, Φ => Φ (decide (i = j))
  | .str i, .str j, Φ => Φ (decide (i = j))
  | .non, .non, Φ => Φ true
  | .non, .int _, Φ => Φ false
  | .int _, .non, Φ => Φ false
  | .non, .str _, Φ => Φ false
  | .str _, .non, Φ => Φ false
  | .int _, .str _, Φ => Φ false
  | .str _, .int _, Φ => Φ false
  | _, _, _ => False
theorem dec_iff {p q : Prop} [Decidable p] [Decidable q] (h : p ↔ q) : decide p = decide q := by
  by_cases hp : p
  · rw [decide_eq_true hp, decide_eq_true (h.mp hp)]
  · rw [decide_eq_false hp, decide_eq_false fun z => hp (h.mpr z)]
theorem opS_eqB (M : Addr → Prop) (H : Hp) (x y : V) (dx dy : D) (Φ : Bool → Prop) (r1 : Rp X.K M H x dx) (r2 : Rp X.K M H y dy) (k : sEq dx dy Φ) : scal x y = true ∧ Φ (decide (x = y)) := by
  cases dx with
  | int i => cases dy with
    | int j =>
      obtain rfl := r1.int_inv
      obtain rfl := r2.int_inv
      exact ⟨rfl, by rw [dec_iff (q := i = j) ⟨fun z => V.int.inj z, fun z => by rw [z]⟩]; exact k⟩
    | non => cases r1; cases r2; exact ⟨rfl, k⟩
    | str _ => cases r1; cases r2; exact ⟨rfl, k⟩
    | _ => exact False.elim k
  | bl i => cases dy with
    | bl j =>
      obtain rfl := r1.bl_inv
      obtain rfl := r2.bl_inv
      exact ⟨rfl, by rw [dec_iff (q := i = j) ⟨fun z => V.bl.inj z, fun z => by rw [z]⟩]; exact k⟩
    | _ => exact False.elim k
  | str i => cases dy with
    | str j =>
      obtain rfl := r1.str_inv
      obtain rfl := r2.str_inv
      exact ⟨rfl, by rw [dec_iff (q := i = j) ⟨fun z => V.str.inj z, fun z => by rw [z]⟩]; exact k⟩
    | non => cases r1; cases r2; exact ⟨rfl, k⟩
    | int _ => cases r1; cases r2; exact ⟨rfl, k⟩
    | _ => exact False.elim k
  | non => cases dy with
    | non => cases r1; cases r2; exact ⟨rfl, k⟩
    | int _ => cases r1; cases r2; exact ⟨rfl, k⟩
    | str _ => cases r1; cases r2; exact ⟨rfl, k⟩
    | _ => exact False.elim k
  | _ => cases dy <;> exact False.elim k
theorem opS_eq : OpS X h rEq (fun x y Φ => sEq x y fun b => Φ (.bl b)) := fun B F G M σ δ H x y dx dy Q Φ S r1 r2 k q =>
  let z := opS_eqB (X := X) M H x y dx dy (fun b => Φ (.bl b)) r1 r2 k
  ⟨z.1, Ans.now q S (.bl _) z.2⟩
theorem opS_ne : OpS X h rNe (fun x y Φ => sEq x y fun b => Φ (.bl (!b))) := fun B F G M σ δ H x y dx dy Q Φ S r1 r2 k q =>
  let z := opS_eqB (X := X) M H x y dx dy (fun b => Φ (.bl (!b))) r1 r2 k
  ⟨z.1, Ans.now q S (.bl _) z.2⟩
theorem we_eq (w : WE X h a δ (fun x => WE X h b δ (fun y => sEq x y fun k => Φ (.bl k)) Ψ) Ψ) : WE X h (.Compare a [.Eq] [b] pos) δ Φ Ψ := we_cmp op_eq opS_eq w (nomark _)
theorem we_ne (w : WE X h a δ (fun x => WE X h b δ (fun y => sEq x y fun k => Φ (.bl (!k))) Ψ) Ψ) : WE X h (.Compare a [.NotEq] [b] pos) δ Φ Ψ := we_cmp op_ne opS_ne w (nomark _)
/-! data of any depth -/
mutual
def D.py : D → Option PyData
  | .non => some .none
  | .bl b => some (.bool b)
  | .int i => some (.int i)
  | .str s => some (.str s)
  | .lst xs => (D.pyA xs).map .list
  | .tup xs => (D.pyA xs).map .tuple
  | .zlst _ => none
  | .exc _ _ => none
  | .held _ _ _ _ => none
  | .at_ _ => none
  | .ins _ _ => none
  | .cls _ => none
  | .dk _ _ => none
  | .dt _ _ => none
def D.pyA : List D → Option (List PyData)
  | [] => some []
  | x :: xs => match D.py x, D.pyA xs with
    | some y, some ys => some (y :: ys)
    | _, _ => none
end
mutual
theorem rp_dp {K : PySem.W.Frag} {M : Addr → Prop} {H : Hp} : ∀ {v : V} {d : D}, Rp K M H v d → ∀ {p : PyData}, d.py = some p → Dp K H v p
  | _, _, .non, _, e => by unfold D.py at e; cases e; exact .non
  | _, _, .bl b, _, e => by unfold D.py at e; cases e; exact .bl b
  | _, _, .int b, _, e => by unfold D.py at e; cases e; exact .int b
  | _, _, .str b, _, e => by unfold D.py at e; cases e; exact .str b
  | _, _, .at_ v, _, e => by unfold D.py at e; cases e
  | _, _, .lst n q h, _, e => by
    unfold D.py at e
    obtain ⟨ps, e1, rfl⟩ := Option.map_eq_some_iff.mp e
    exact .lst (SqL.of q) (rp_dpA h e1)
  | _, _, .zlst _ _ _, _, e => by unfold D.py at e; cases e
  | _, _, .zlstK _ _, _, e => by unfold D.py at e; cases e
  | _, _, .tup n q h, _, e => by
    unfold D.py at e
    obtain ⟨ps, e1, rfl⟩ := Option.map_eq_some_iff.mp e
    exact .tup (SqT.of q) (rp_dpA h e1)
  | _, _, .tupK q h, _, e => by
    unfold D.py at e
    obtain ⟨ps, e1, rfl⟩ := Option.map_eq_some_iff.mp e
    refine .tup ?_ (rp_dpA h e1)
    rcases q with (q | ⟨o, q⟩) | q
    · cases q
    · cases q
    · exact .inr q
  | _, _, .exc0 _ _, _, e => by unfold D.py at e; cases e
  | _, _, .exc _ _ _ _, _, e => by unfold D.py at e; cases e
  | _, _, .held0 _ _, _, e => by unfold D.py at e; cases e
  | _, _, .held _ _ _, _, e => by unfold D.py at e; cases e
  | _, _, .ins _ _ _, _, e => by unfold D.py at e; cases e
  | _, _, .cls _, _, e => by unfold D.py at e; cases e
  | _, _, .dk _ _ _, _, e => by unfold D.py at e; cases e
  | _, _, .dt _ _ _, _, e => by unfold D.py at e; cases e
theorem rp_dpA {K : PySem.W.Frag} {M : Addr → Prop} {H : Hp} : ∀ {vs : List V} {ds : List D}, RpA K M H vs ds → ∀ {ps : List PyData}, D.pyA ds = some ps → DpAll K H vs ps
  | _, _, .nil, _, e => by unfold D.pyA at e; cases e; exact .nil
  | _, _, .cons h t, _, e => by
    unfold D.pyA at e
    split at e
    · rename_i y ys e1 e2
      cases e
      exact .cons (rp_dp h e1) (rp_dpA t e2)
    · cases e
end
/-- == of data -/
def sEqD (x y : D) (Φ : Bool → Prop) : Prop := ∃ p q, x.py = some p ∧ y.py = some q ∧ SeqAt.shaped p = true ∧ SeqAt.shaped q = true ∧ Φ (PyData.eqv p q)
theorem we_eqD {n : Nat} (hr : Room n X.A) (w : WE X h a δ (fun x => WE X h b δ (fun y => sEqD x y fun k => Φ (.bl k)) Ψ) Ψ) : WE X h (.Compare a [.Eq] [b] pos) δ Φ Ψ :=
  we_cmp (S := fun x y Φ => sEqD x y fun k => Φ (.bl k)) (op_eqD hr.units) (fun B F G M σ δ H x y dx dy Q Φ S r1 r2 ⟨p, q', e1, e2, s1, s2, k⟩ q => ⟨p, q', rp_dp r1 e1, rp_dp r2 e2, s1, s2, Ans.now q S (.bl _) k⟩) w (nomark _)
theorem we_neD {n : Nat} (hr : Room n X.A) (w : WE X h a δ (fun x => WE X h b δ (fun y => sEqD x y fun k => Φ (.bl (!k))) Ψ) Ψ) : WE X h (.Compare a [.NotEq] [b] pos) δ Φ Ψ :=
  we_cmp (S := fun x y Φ => sEqD x y fun k => Φ (.bl (!k))) (op_neD hr.units) (fun B F G M σ δ H x y dx dy Q Φ S r1 r2 ⟨p, q', e1, e2, s1, s2, k⟩ q => ⟨p, q', rp_dp r1 e1, rp_dp r2 e2, s1, s2, Ans.now q S (.bl _) k⟩) w (nomark _)
end
end Ud

set_option Elab.async false
set_option linter.all false
set_option maxRecDepth 100000
set_option maxHeartbeats 4000000
namespace Ud
open PySem PySem.Spec PyProof.Rows L2 Uc
section
variable {X : Cx} {h : Option Hd} {δ : List Sl} {Φ : D → Prop} {Φb : Bool → Prop} {Ψ : Str → List (Str × D) → Prop} {a b c e : Expr} {es : List Expr} {pos p : Pos} {r : R2} {S : D → D → (D → Prop) → Prop}

/-! ### tests -/
theorem wt_cmp {op : CmpOp} (ho : OpR X (compareOp op) r) (hS : OpS X h r S) (w : WE X h a δ (fun x => WE X h b δ (fun y => S x y (fun d => ∃ k, d = .bl k ∧ Φb k)) Ψ) Ψ) (hm : behindInMarks op b = false) : WT X h (.Compare a [op] [b] pos) δ Φb Ψ := .mk fun B F G M σ H Q W tk S0 q x =>
  tS_of (pt_cmpR ho peS peS hm) (w.run B F G M σ H _ W tk S0 (fun v H1 d g1 S1 r1 w2 => w2.run B F G M σ H1 _ W tk S1 (fun u H2 d2 g2 S2 r2 k =>
    hS B F G M σ δ H2 v u d d2 (fun z H' => ∃ k, z = .bl k ∧ Q k H') _ S2 (r1.mono (g2.gr S1.hand)) r2 k (fun z H3 d3 g3 S3 r3 ⟨k3, e3, f3⟩ => by
      subst e3
      obtain rfl := r3.bl_inv
      exact ⟨k3, rfl, q k3 H3 ((g1.trans g2).trans g3) S3 f3⟩)) (Out.on x g1)) x)
theorem wt_val (w : WE X h e δ (fun d => ∃ k, d = .bl k ∧ Φb k) Ψ) (he : ∀ whole, isTrue e X.env whole = (do let v ← whole; standAt e.pos; holding [v] (truthy v)) := by intro _; rfl) : WT X h e δ Φb Ψ := .mk fun B F G M σ H Q W tk S0 q x =>
  tS_of (pt_val peS he) (w.run B F G M σ H _ W tk S0 (fun v H1 d g1 S1 r1 ⟨k, e1, f⟩ => by
    subst e1
    obtain rfl := r1.bl_inv
    exact ⟨k, rfl, q k H1 g1 S1 f⟩) x)
theorem wt_lt (w : WE X h a δ (fun x => WE X h b δ (fun y => sI (fun _ _ => True) (fun i j => .bl (decide (i < j))) x y (fun d => ∃ k, d = .bl k ∧ Φb k)) Ψ) Ψ) : WT X h (.Compare a [.Lt] [b] pos) δ Φb Ψ := wt_cmp op_lt opS_B0 w (nomark _)
theorem wt_le (w : WE X h a δ (fun x => WE X h b δ (fun y => sI (fun _ _ => True) (fun i j => .bl (decide (i ≤ j))) x y (fun d => ∃ k, d = .bl k ∧ Φb k)) Ψ) Ψ) : WT X h (.Compare a [.LtE] [b] pos) δ Φb Ψ := wt_cmp op_le opS_B0 w (nomark _)
theorem wt_gt (w : WE X h a δ (fun x => WE X h b δ (fun y => sI (fun _ _ => True) (fun i j => .bl (decide (j < i))) x y (fun d => ∃ k, d = .bl k ∧ Φb k)) Ψ) Ψ) : WT X h (.Compare a [.Gt] [b] pos) δ Φb Ψ := wt_cmp op_gt opS_B0 w (nomark _)
theorem wt_ge (w : WE X h a δ (fun x => WE X h b δ (fun y => sI (fun _ _ => True) (fun i j => .bl (decide (j ≤ i))) x y (fun d => ∃ k, d = .bl k ∧ Φb k)) Ψ) Ψ) : WT X h (.Compare a [.GtE] [b] pos) δ Φb Ψ := wt_cmp op_ge opS_B0 w (nomark _)
theorem wt_eq (w : WE X h a δ (fun x => WE X h b δ (fun y => sEq x y Φb) Ψ) Ψ) : WT X h (.Compare a [.Eq] [b] pos) δ Φb Ψ :=
  wt_cmp (S := fun x y Φ => sEq x y fun b => Φ (.bl b)) op_eq opS_eq (w.mono fun d k => k.mono fun d2 k2 => by
    cases d <;> cases d2 <;> first | exact False.elim k2 | exact ⟨_, rfl, k2⟩) (nomark _)
theorem wt_ne (w : WE X h a δ (fun x => WE X h b δ (fun y => sEq x y fun k => Φb (!k)) Ψ) Ψ) : WT X h (.Compare a [.NotEq] [b] pos) δ Φb Ψ :=
  wt_cmp (S := fun x y Φ => sEq x y fun b => Φ (.bl (!b))) op_ne opS_ne (w.mono fun d k => k.mono fun d2 k2 => by
    cases d <;> cases d2 <;> first | exact False.elim k2 | exact ⟨_, rfl, k2⟩) (nomark _)
theorem wt_eqD {n : Nat} (hr : Room n X.A) (w : WE X h a δ (fun x => WE X h b δ (fun y => sEqD x y Φb) Ψ) Ψ) : WT X h (.Compare a [.Eq] [b] pos) δ Φb Ψ :=
  wt_cmp (S := fun x y Φ => sEqD x y fun k => Φ (.bl k)) (op_eqD hr.units) (fun B F G M σ δ H x y dx dy Q Φ S r1 r2 ⟨p, q', e1, e2, s1, s2, k⟩ q => ⟨p, q', rp_dp r1 e1, rp_dp r2 e2, s1, s2, Ans.now q S (.bl _) k⟩)
    (w.mono fun d k => k.mono fun d2 ⟨p, q', e1, e2, s1, s2, k⟩ => ⟨p, q', e1, e2, s1, s2, ⟨_, rfl, k⟩⟩) (nomark _)
theorem wt_neD {n : Nat} (hr : Room n X.A) (w : WE X h a δ (fun x => WE X h b δ (fun y => sEqD x y fun k => Φb (!k)) Ψ) Ψ) : WT X h (.Compare a [.NotEq] [b] pos) δ Φb Ψ :=
  wt_cmp (S := fun x y Φ => sEqD x y fun k => Φ (.bl (!k))) (op_neD hr.units) (fun B F G M σ δ H x y dx dy Q Φ S r1 r2 ⟨p, q', e1, e2, s1, s2, k⟩ q => ⟨p, q', rp_dp r1 e1, rp_dp r2 e2, s1, s2, Ans.now q S (.bl _) k⟩)
    (w.mono fun d k => k.mono fun d2 ⟨p, q', e1, e2, s1, s2, k⟩ => ⟨p, q', e1, e2, s1, s2, ⟨_, rfl, k⟩⟩) (nomark _)
theorem wt_w (w : WW X h e δ Φb Ψ) : WT X h e δ Φb Ψ := .mk fun B F G M σ H Q W tk S0 q x => tS_of pwS.pt (w.run B F G M σ H Q W tk S0 q x)
theorem ww_and1 (w : WT X h a δ Φb Ψ) : WW X h (.BoolOp .And [a] pos) δ Φb Ψ := .mk fun B F G M σ H Q W tk S0 q x => wS_of (pw_and1 ptS) (w.run B F G M σ H Q W tk S0 q x)
theorem ww_or1 (w : WT X h a δ Φb Ψ) : WW X h (.BoolOp .Or [a] pos) δ Φb Ψ := .mk fun B F G M σ H Q W tk S0 q x => wS_of (pw_or1 ptS) (w.run B F G M σ H Q W tk S0 q x)
theorem ww_and (w : WT X h a δ (fun k => if k = true then WW X h (.BoolOp .And (b :: es) pos) δ Φb Ψ else Φb false) Ψ) : WW X h (.BoolOp .And (a :: b :: es) pos) δ Φb Ψ := .mk fun B F G M σ H Q W tk S0 q x =>
  wS_of (pw_and ptS pwS) (w.run B F G M σ H _ W tk S0 (fun k H1 g1 S1 f => by
    cases k with
    | true => exact f.run B F G M σ H1 Q W tk S1 (fun k2 H2 g2 S2 f2 => q k2 H2 (g1.trans g2) S2 f2) (Out.on x g1)
    | false => exact q false H1 g1 S1 f) x)
theorem ww_or (w : WT X h a δ (fun k => if k = true then Φb true else WW X h (.BoolOp .Or (b :: es) pos) δ Φb Ψ) Ψ) : WW X h (.BoolOp .Or (a :: b :: es) pos) δ Φb Ψ := .mk fun B F G M σ H Q W tk S0 q x =>
  wS_of (pw_or ptS pwS) (w.run B F G M σ H _ W tk S0 (fun k H1 g1 S1 f => by
    cases k with
    | false => exact f.run B F G M σ H1 Q W tk S1 (fun k2 H2 g2 S2 f2 => q k2 H2 (g1.trans g2) S2 f2) (Out.on x g1)
    | true => exact q true H1 g1 S1 f) x)
theorem wt_not (w : WT X h a δ (fun k => Φb (!k)) Ψ) : WT X h (.UnaryOp .Not a pos) δ Φb Ψ := .mk fun B F G M σ H Q W tk S0 q x =>
  tS_of (pt_not ptS) (w.run B F G M σ H _ W tk S0 (fun k H1 g1 S1 f => q (!k) H1 g1 S1 f) x)
/-- and, or, not as values -/
theorem we_one {op : BoolOp} (w : WE X h a δ Φ Ψ) : WE X h (.BoolOp op [a] pos) δ Φ Ψ := .mk fun B F G M σ H Q W tk S0 q x => eS_of (pe_one peS) (w.run B F G M σ H Q W tk S0 q x)
theorem we_and (w : WE X h a δ (fun d => ∃ k, d = .bl k ∧ if k = true then WE X h (.BoolOp .And (b :: es) pos) δ Φ Ψ else Φ (.bl false)) Ψ) : WE X h (.BoolOp .And (a :: b :: es) pos) δ Φ Ψ := .mk fun B F G M σ H Q W tk S0 q x =>
  eS_of (pe_and peS peS) (w.run B F G M σ H _ W tk S0 (fun v H1 d g1 S1 r1 ⟨k, e1, f⟩ => by
    subst e1
    obtain rfl := r1.bl_inv
    refine ⟨k, rfl, ?_⟩
    cases k with
    | true => exact f.run B F G M σ H1 Q W tk S1 (Ans.on q g1) (Out.on x g1)
    | false => exact q _ H1 _ g1 S1 (.bl false) f) x)
theorem we_or (w : WE X h a δ (fun d => ∃ k, d = .bl k ∧ if k = true then Φ (.bl true) else WE X h (.BoolOp .Or (b :: es) pos) δ Φ Ψ) Ψ) : WE X h (.BoolOp .Or (a :: b :: es) pos) δ Φ Ψ := .mk fun B F G M σ H Q W tk S0 q x =>
  eS_of (pe_or peS peS) (w.run B F G M σ H _ W tk S0 (fun v H1 d g1 S1 r1 ⟨k, e1, f⟩ => by
    subst e1
    obtain rfl := r1.bl_inv
    refine ⟨k, rfl, ?_⟩
    cases k with
    | false => exact f.run B F G M σ H1 Q W tk S1 (Ans.on q g1) (Out.on x g1)
    | true => exact q _ H1 _ g1 S1 (.bl true) f) x)
theorem we_not (w : WE X h a δ (fun d => ∃ k, d = .bl k ∧ Φ (.bl (!k))) Ψ) : WE X h (.UnaryOp .Not a pos) δ Φ Ψ := .mk fun B F G M σ H Q W tk S0 q x =>
  eS_of (pe_not peS) (w.run B F G M σ H _ W tk S0 (fun v H1 d g1 S1 r1 ⟨k, e1, f⟩ => by
    subst e1
    obtain rfl := r1.bl_inv
    exact ⟨k, rfl, q _ H1 _ g1 S1 (.bl _) f⟩) x)
theorem we_ifx (w : WT X h c δ (fun k => if k = true then WE X h a δ Φ Ψ else WE X h b δ Φ Ψ) Ψ) : WE X h (.IfExp c a b pos) δ Φ Ψ := .mk fun B F G M σ H Q W tk S0 q x =>
  eS_of (pe_ifExp ptS peS peS) (w.run B F G M σ H _ W tk S0 (fun k H1 g1 S1 f => by
    cases k with
    | true => exact f.run B F G M σ H1 Q W tk S1 (Ans.on q g1) (Out.on x g1)
    | false => exact f.run B F G M σ H1 Q W tk S1 (Ans.on q g1) (Out.on x g1)) x)

/-! ### subscripts -/
def sIx : D → D → (D → Prop) → Prop
  | .lst xs, .int i, Φ => ∃ d, atI xs i = some d ∧ Φ d
  | .tup xs, .int i, Φ => ∃ d, atI xs i = some d ∧ Φ d
  | .str z, .int i, Φ => ∃ c, z.length ≤ sizeLine ∧ atI z.cps.toList i = some c ∧ Φ (.str ⟨#[c]⟩)
  | _, _, _ => False
theorem atI_rp {K : PySem.W.Frag} {M : Addr → Prop} {H : Hp} {vs : List V} {ds : List D} {i : Int} {d : D} (r : RpA K M H vs ds) (e : atI ds i = some d) : ∃ v, atI vs i = some v ∧ Rp K M H v d := by
  unfold atI at e ⊢
  rw [r.length]
  cases q : ixN ds.length i with
  | none => rw [q] at e; cases e
  | some j =>
    rw [q] at e
    exact r.get e
theorem we_ix (w : WE X h a δ (fun x => WE X h b δ (fun y => sIx x y Φ) Ψ) Ψ) (hs : PlainIx b := by intro _ _; rfl) : WE X h (.Subscript a b pos) δ Φ Ψ := .mk fun B F G M σ H Q W tk S0 q x =>
  eS_of (pe_ix ix_seq peS peS hs) (w.run B F G M σ H _ W tk S0 (fun v H1 d g1 S1 r1 w2 => w2.run B F G M σ H1 _ W tk S1 (fun u H2 d2 g2 S2 r2 k => by
    have r1' := r1.mono (g2.gr S1.hand)
    have q' := Ans.on q (g1.trans g2)
    cases d with
    | lst xs => cases d2 with
      | int i =>
        obtain ⟨d3, e3, k⟩ := k
        obtain ⟨l, vs, rfl, n1, e1, s1⟩ := r1'.lst_inv
        obtain rfl := r2.int_inv
        obtain ⟨z, e4, r4⟩ := atI_rp s1 e3
        exact .inl ⟨l, vs, i, z, rfl, rfl, SqL.of e1, e4, Ans.now q' S2 r4 k⟩
      | _ => exact False.elim k
    | tup xs => cases d2 with
      | int i =>
        obtain ⟨d3, e3, k⟩ := k
        obtain ⟨l, vs, rfl, e1, s1⟩ := r1'.tup_inv
        obtain rfl := r2.int_inv
        obtain ⟨z, e4, r4⟩ := atI_rp s1 e3
        exact .inr (.inl ⟨l, vs, i, z, rfl, rfl, e1, e4, Ans.now q' S2 r4 k⟩)
      | _ => exact False.elim k
    | str z => cases d2 with
      | int i =>
        obtain ⟨c, hl, e3, k⟩ := k
        obtain rfl := r1'.str_inv
        obtain rfl := r2.int_inv
        exact .inr (.inr ⟨z, i, c, rfl, rfl, hl, e3, Ans.now q' S2 (.str _) k⟩)
      | _ => exact False.elim k
    | _ => cases d2 <;> exact False.elim k) (Out.on x g1)) x)

/-! ### calls of built-ins -/
def CalS (X : Cx) (h : Option Hd) (r : List V → Hp → VK → Prop) (S : List D → (D → Prop) → Prop) : Prop :=
  ∀ (B : Addr → Prop) (F : Addr → HO → Prop) (G : V → D → Prop) (M : Addr → Prop) (σ : L2.St) (δ : List Sl) (H : Hp) (vs : List V) (ds : List D) (Q : VK) (Φ : D → Prop), SD X.K h B F G M H σ δ → RpA X.K M H vs ds → S ds Φ → Ans X h B F G M H σ δ Φ Q → r vs H Q
theorem we_callB {x : Str} {id : String} {rc : List V → Hp → VK → Prop} {Sc : List D → (D → Prop) → Prop} (hc : CallR X (.builtin id) rc) (hS : CalS X h rc Sc) (hm : X.mg x = none) (w : WA X h (e :: es) δ (fun ds => Sc ds Φ) Ψ) (hv : bootBuiltins x = some (.builtin id)) (hg : Gl X x := by rfl)
    (hn : x ≠ "__name__" := by decide) (hdb : (x == ("__debug__" : Str)) = false := by decide) (he : starEach (e :: es) X.env = (false, eval e X.env) :: starEach es X.env := by rfl) (hpl : (backTo pos (starEach es X.env)).any (·.1) = false := by rfl) : WE X h (.Call (.Name x p) (e :: es) [] pos) δ Φ Ψ := .mk fun B F G M σ H Q W tk S0 q x =>
  eS_of (pe_callB hc hg hm hv paS hn hdb he hpl) (w.run B F G M σ H _ W tk S0 (fun vs H1 ds g1 S1 r1 k => hS B F G M σ δ H1 vs ds Q Φ S1 r1 k (Ans.on q g1)) x)
theorem we_callT {x : Str} {id : String} {rc : List V → Hp → VK → Prop} {Sc : List D → (D → Prop) → Prop} (hc : CallR X (.type id) rc) (hS : CalS X h rc Sc) (hm : X.mg x = none) (w : WA X h (e :: es) δ (fun ds => Sc ds Φ) Ψ) (hv : bootBuiltins x = some (.type id)) (hg : Gl X x := by rfl)
    (hn : x ≠ "__name__" := by decide) (hdb : (x == ("__debug__" : Str)) = false := by decide) (he : starEach (e :: es) X.env = (false, eval e X.env) :: starEach es X.env := by rfl) (hpl : (backTo pos (starEach es X.env)).any (·.1) = false := by rfl) : WE X h (.Call (.Name x p) (e :: es) [] pos) δ Φ Ψ := .mk fun B F G M σ H Q W tk S0 q x =>
  eS_of (pe_callTy hc hg hm hv paS hn hdb he hpl) (w.run B F G M σ H _ W tk S0 (fun vs H1 ds g1 S1 r1 k => hS B F G M σ δ H1 vs ds Q Φ S1 r1 k (Ans.on q g1)) x)
theorem rpA_one {K : PySem.W.Frag} {M : Addr → Prop} {H : Hp} {vs : List V} {d : D} (r : RpA K M H vs [d]) : ∃ v, vs = [v] ∧ Rp K M H v d := by
  cases r with
  | cons h t => cases t; exact ⟨_, rfl, h⟩
theorem rpA_two {K : PySem.W.Frag} {M : Addr → Prop} {H : Hp} {vs : List V} {d d' : D} (r : RpA K M H vs [d, d']) : ∃ v v', vs = [v, v'] ∧ Rp K M H v d ∧ Rp K M H v' d' := by
  cases r with
  | cons h t =>
    obtain ⟨v', rfl, r'⟩ := rpA_one t
    exact ⟨_, _, rfl, h, r'⟩
def sLen : List D → (D → Prop) → Prop
  | [.lst xs], Φ => Φ (.int xs.length)
  | [.tup xs], Φ => Φ (.int xs.length)
  | [.str z], Φ => z.length ≤ sizeLine ∧ Φ (.int z.length)
  | _, _ => False
theorem calS_len : CalS X h (fun xs H Q => ∃ x n, xs = [x] ∧ LenV X.K x H n ∧ Q (.int n) H) sLen := fun B F G M σ δ H vs ds Q Φ S r k q => by
  match ds, k with
  | [.lst xs], k =>
    obtain ⟨v, rfl, r5⟩ := rpA_one r
    obtain ⟨l, ys, rfl, n1, e1, s1⟩ := r5.lst_inv
    exact ⟨_, _, rfl, .inl ⟨_, SqL.of e1, rfl⟩, Ans.now q S (.int _) (by rw [s1.length]; exact k)⟩
  | [.tup xs], k =>
    obtain ⟨v, rfl, r5⟩ := rpA_one r
    obtain ⟨l, ys, rfl, e1, s1⟩ := r5.tup_inv
    exact ⟨_, _, rfl, .inr ⟨_, e1, rfl⟩, Ans.now q S (.int _) (by rw [s1.length]; exact k)⟩
  | [.str z], k =>
    obtain ⟨v, rfl, r5⟩ := rpA_one r
    obtain rfl := r5.str_inv
    exact ⟨_, _, rfl, ⟨k.1, rfl⟩, Ans.now q S (.int _) k.2⟩
def sInt : List D → (D → Prop) → Prop
  | [.int i], Φ => Φ (.int i)
  | [.bl b], Φ => Φ (.int (if b then 1 else 0))
  | _, _ => False
theorem calS_int : CalS X h (fun xs H Q => (∃ i, xs = [.int i] ∧ Q (.int i) H) ∨ ∃ k, xs = [.bl k] ∧ Q (.int (if k then 1 else 0)) H) sInt := fun B F G M σ δ H vs ds Q Φ S r k q => by
  match ds, k with
  | [.int i], k =>
    obtain ⟨v, rfl, r5⟩ := rpA_one r
    obtain rfl := r5.int_inv
    exact .inl ⟨i, rfl, Ans.now q S (.int _) k⟩
  | [.bl b], k =>
    obtain ⟨v, rfl, r5⟩ := rpA_one r
    obtain rfl := r5.bl_inv
    exact .inr ⟨b, rfl, Ans.now q S (.int _) k⟩
end
end Ud

set_option Elab.async false
set_option linter.all false
set_option maxRecDepth 100000
set_option maxHeartbeats 4000000
namespace Ud
open PySem PySem.Spec PyProof.Rows L2 Uc

/-! ### own defs -/
abbrev PSp := Option Hd → List D → (D → Prop) → (Str → List (Str × D) → Prop) → Prop
/-- the promise of a def, by descriptions -/
def spD (K : PySem.W.Frag) (S : PSp) : Sp := fun vs H Q E => ∃ (h : Option Hd) (B : Addr → Prop) (ds : List D) (Φ : D → Prop) (Ψ : Str → List (Str × D) → Prop),
  RpA K B H vs ds ∧ HandOk h B H ∧ Live B H ∧ LawOk h ∧ S h ds Φ Ψ ∧ (∀ v H' d, Gh h H H' → HandOk h B H' → Rp K B H' v d → Φ d → Q v H') ∧
    (∀ C od H' fs, Gh h H H' → HandOk h B H' → ExcD K B H' fs od → Ψ C fs → E (.ref (He.ga K C)) od H')
section
variable {X : Cx} {h : Option Hd} {δ : List Sl} {Φ : D → Prop} {Ψ : Str → List (Str × D) → Prop} {a b c e : Expr} {es : List Expr} {pos p : Pos}
theorem Gh.none {H H' : Hp} (g : Gh none H H') : Gh h H H' := fun b o _ z => g b o (fun q y => nomatch y) z
theorem we_call {x : Str} {k : Nat} {f : Addr} {fd : FuncData} {ps : List Str} {S : PSp} (h' : Option Hd) (hh : (h' = h ∧ LawOk h) ∨ h' = none) (F : FnOk X.prog X.w X.K X.mg X.base (L2.CX X.prog X.w) k f fd ps (spD X.K S)) (hr : Room k X.A) (hm : X.mg x = some (.ref f)) (hk : PySem.W.keepIn X.K (.ref f) = true) (hb : Binds X.K fd ps [])
    (w : WA X h (e :: es) δ (fun ds => S h' ds Φ Ψ) Ψ) (hg : Gl X x := by rfl) (hdb : (x == ("__debug__" : Str)) = false := by decide) (he : starEach (e :: es) X.env = (false, eval e X.env) :: starEach es X.env := by rfl) (hpl : (backTo pos (starEach es X.env)).any (·.1) = false := by rfl) :
    WE X h (.Call (.Name x p) (e :: es) [] pos) δ Φ Ψ := .mk fun B F0 G M σ H Q W tk S0 q x0 => by
  refine eS_of (pe_callS (E := L2.WE W) F hr hg hm hk hb (fun σ => passAt tk σ) paS hdb he hpl) (w.run B F0 G M σ H _ W tk S0 (fun vs H1 ds g1 S1 r1 s1 => ?_) x0)
  have hand' : HandOk h' M H1 := by
    rcases hh with z | z
    · rw [z.1]; exact S1.hand
    · rw [z]; exact fun p y => nomatch y
  have law' : LawOk h' := by
    rcases hh with z | z
    · rw [z.1]; exact z.2
    · rw [z]; exact fun p y => nomatch y
  have back : ∀ {H' : Hp}, Gh h' H1 H' → HandOk h' M H' → Gh h H1 H' ∧ HandOk h M H' := fun {H'} g k => by
    rcases hh with z | z
    · rw [z.1] at g k; exact ⟨g, k⟩
    · rw [z] at g; exact ⟨g.none, handOk_all S1.hand fun b o y => g b o (fun q w => nomatch w) y⟩
  exact ⟨h', M, ds, Φ, Ψ, r1, hand', S1.live, law', s1, fun v H' d g k r f => q v H' d (g1.trans (back g k).1) (S1.step (back g k).1 (back g k).2) r f,
    fun C od H' fs g k ed f => x0 C od H' fs (g1.trans (back g k).1) (S1.step (back g k).1 (back g k).2) ed f⟩

/-! ### isinstance -/
/-- a class: a built-in one, an own one -/
inductive Kl where | ty (n : String) | own (C : Str)
deriving DecidableEq
def Kl.v (K : PySem.W.Frag) : Kl → V
  | .ty n => .ty n
  | .own C => .ref (He.ga K C)
def Kl.u (K : PySem.W.Frag) : Kl → Value
  | .ty n => .type n
  | .own C => .ref (He.ga K C)
def Kl.d : Kl → D
  | .ty n => .at_ (.ty n)
  | .own C => .cls C
def baseTys : List String := ["NoneType", "bool", "int", "str", "list", "tuple", "dict"]
/-- a datum's class -/
def klOf : D → Option Kl
  | .non => some (.ty "NoneType")
  | .bl _ => some (.ty "bool")
  | .int _ => some (.ty "int")
  | .str _ => some (.ty "str")
  | .lst _ => some (.ty "list")
  | .zlst _ => some (.ty "list")
  | .tup _ => some (.ty "tuple")
  | .dk _ _ => some (.ty "dict")
  | .dt _ _ => some (.ty "dict")
  | .ins C _ => some (.own C)
  | _ => none
def isiB (n m : String) : Bool := n == m || (n == "bool" && m == "int")
def isi1 : Kl → Kl → Bool
  | .ty n, .ty m => isiB n m
  | .own C, .own C' => decide (C = C')
  | _, _ => false
/-- what the head must say of own classes for isinstance -/
def kitB (K : PySem.W.Frag) (cs : List Str) : Bool :=
  (baseTys.all fun n => (baseTys.all fun m => decide (PySem.W.kitOne K (.type n) (.type m) = some (isiB n m))) && cs.all fun C => decide (PySem.W.kitOne K (.type n) (.ref (He.ga K C)) = some false)) &&
  (cs.all fun C => (baseTys.all fun m => decide (PySem.W.kitOne K (.ref (He.ga K C)) (.type m) = some false)) && ((cs.all fun C' => decide (PySem.W.kitOne K (.ref (He.ga K C)) (.ref (He.ga K C')) = some (decide (C = C')))) &&
    He.eqO (PySem.W.findIn K (.ref (He.ga K C)) "__class__") (some (some (.builtin "object.__class__"))) && decide (PySem.W.mroIn K (He.ga K C) (.type "object") = some true))) &&
  ((cs.all fun C => (baseTys.all fun n => PySem.W.notFirst K (He.ga K C) (.type n)) && ((cs.all fun C' => PySem.W.notFirst K (He.ga K C) (.ref (He.ga K C'))) && He.eqO (PySem.W.findIn K (.ref (He.ga K C)) "__ne__") (some (some (.builtin "object.__ne__"))))) &&
  (decide (PySem.W.specialIn K (.builtin "object.__class__") "__get__" = some (some (.builtin "getset_descriptor.__get__"))) && decide (PySem.W.takesIn K (.builtin "object.__class__") = some true)))
def Kl.in_ (cs : List Str) : Kl → Bool
  | .ty n => baseTys.contains n
  | .own C => cs.contains C
structure KitF (K : PySem.W.Frag) (cs : List Str) : Prop where
  one : ∀ t c : Kl, t.in_ cs = true → c.in_ cs = true → PySem.W.kitOne K (t.u K) (c.u K) = some (isi1 t c)
  ha : ∀ C ∈ cs, PySem.W.findIn K (.ref (He.ga K C)) "__class__" = some (some (.builtin "object.__class__"))
  hm : ∀ C ∈ cs, PySem.W.mroIn K (He.ga K C) (.type "object") = some true
  hn : PySem.W.specialIn K (.builtin "object.__class__") "__get__" = some (some (.builtin "getset_descriptor.__get__"))
  ht : PySem.W.takesIn K (.builtin "object.__class__") = some true
  nf : ∀ (C : Str) (t : Kl), C ∈ cs → t.in_ cs = true → PySem.W.notFirst K (He.ga K C) (t.u K) = true
  ne : ∀ C ∈ cs, PySem.W.findIn K (.ref (He.ga K C)) "__ne__" = some (some (.builtin "object.__ne__"))
theorem kitF_of {K : PySem.W.Frag} {cs : List Str} (b : kitB K cs = true) : KitF K cs := by
  unfold kitB at b
  simp only [Bool.and_eq_true, List.all_eq_true, decide_eq_true_eq] at b
  obtain ⟨⟨b1, b2⟩, b5, b3, b4⟩ := b
  refine ⟨fun t c ht hc => ?_, fun C hC => He.eqO_ok (b2 C hC).2.1.2, fun C hC => (b2 C hC).2.2, b3, b4, fun C t hC ht => ?_, fun C hC => He.eqO_ok (b5 C hC).2.2⟩
  rotate_left
  · cases t with
    | ty n => exact (b5 C hC).1 n (by simpa [Kl.in_] using ht)
    | own C' => exact (b5 C hC).2.1 C' (by simpa [Kl.in_] using ht)
  cases t with
  | ty n =>
    have hn : n ∈ baseTys := by simpa [Kl.in_] using ht
    cases c with
    | ty m => exact (b1 n hn).1 m (by simpa [Kl.in_] using hc)
    | own C => exact (b1 n hn).2 C (by simpa [Kl.in_] using hc)
  | own C =>
    have hC : C ∈ cs := by simpa [Kl.in_] using ht
    cases c with
    | ty m => exact (b2 C hC).1 m (by simpa [Kl.in_] using hc)
    | own C' => exact (b2 C hC).2.1.1 C' (by simpa [Kl.in_] using hc)
/-- the class of a value, as the library takes it -/
theorem tyD_of {K : PySem.W.Frag} {M : Addr → Prop} {H : Hp} {v : V} {x : D} {t : Kl} {cs : List Str} (kf : KitF K cs) (r : Rp K M H v x) (e : klOf x = some t) (hc : ∀ C, t = .own C → C ∈ cs ∧ Cls K (He.ga K C)) : TyX K H v (t.u K) := by
  cases r with
  | non => cases e; exact .base .non
  | bl b => cases e; exact .base (.bl b)
  | int i => cases e; exact .base (.int i)
  | str s => cases e; exact .base (.str s)
  | at_ => cases e
  | lst n q s => cases e; exact .base (.lst q)
  | zlst n q s => cases e; exact .base (.frz q)
  | zlstK q s =>
    cases e
    rcases q with (q | ⟨o, q⟩) | ⟨o, its, n, e1, e2, _⟩
    · cases q
    · cases q
    · exact .kList e1 e2
  | tup n q s => cases e; exact .base (.tup q)
  | tupK q s =>
    cases e
    rcases q with (q | ⟨o, q⟩) | ⟨o, its, n, e1, e2, _⟩
    · cases q
    · cases q
    · exact .kTuple e1 e2
  | exc0 => cases e
  | exc => cases e
  | held0 => cases e
  | held => cases e
  | cls => cases e
  | ins n q s =>
    cases e
    obtain ⟨h1, h2⟩ := hc _ rfl
    exact .base (.ins q h2 (kf.ha _ h1) kf.hn kf.ht (kf.hm _ h1))
  | dk n q s => cases e; exact .base (.dK q)
  | dt n q s => cases e; exact .base (.dT q)
theorem exAt_of {K : PySem.W.Frag} {M : Addr → Prop} {H : Hp} {v : V} {C : Str} {fs : List (Str × D)} (r : Rp K M H v (.exc C fs)) : ∃ a o, v = .ref a ∧ ExAt H a (He.ga K C) o ∧ (fs = [] ∧ o = none ∨ ∃ d fv, o = some (d, fv) ∧ RpF K M H fv fs) := by
  cases r with
  | exc0 n h => exact ⟨_, _, rfl, h, .inl ⟨rfl, rfl⟩⟩
  | exc n n2 h r => exact ⟨_, _, rfl, h, .inr ⟨_, _, rfl, r⟩⟩
theorem clsV_kl (K : PySem.W.Frag) : ∀ c : Kl, ClsV (c.v K) (c.u K)
  | .ty n => .ty n
  | .own C => .own _
theorem clsV_kls (K : PySem.W.Frag) : ∀ cs : List Kl, Paired ClsV (cs.map (Kl.v K)) (cs.map (Kl.u K))
  | [] => .nil
  | c :: cs => .cons (clsV_kl K c) (clsV_kls K cs)
theorem rpA_kls {K : PySem.W.Frag} {M : Addr → Prop} {H : Hp} : ∀ {cs : List Kl} {vs : List V}, RpA K M H vs (cs.map Kl.d) → vs = cs.map (Kl.v K)
  | [], _, .nil => rfl
  | .ty n :: cs, _, .cons r t => by
    obtain rfl := r.at_inv
    rw [rpA_kls t]
    rfl
  | .own C :: cs, _, .cons r t => by
    obtain rfl := r.cls_inv
    rw [rpA_kls t]
    rfl
/-- isinstance(x, c) -/
def sIsi (K : PySem.W.Frag) (cs : List Str) (ds : List D) (Φ : D → Prop) : Prop := ∃ (x : D) (t c : Kl), ds = [x, c.d] ∧ klOf x = some t ∧ t.in_ cs = true ∧ c.in_ cs = true ∧ (∀ C, t = .own C → Cls K (He.ga K C)) ∧ Φ (.bl (isi1 t c))
theorem in_own {cs : List Str} {t : Kl} (h : t.in_ cs = true) : ∀ C, t = .own C → C ∈ cs := fun C e => by subst e; simpa [Kl.in_] using h
theorem calS_isi {cs : List Str} (kf : KitF X.K cs) : CalS X h (rIsi X.K) (sIsi X.K cs) := fun B F G M σ δ H vs ds Q Φ S r k q => by
  obtain ⟨x, t, c, rfl, e, h1, h2, h3, k2⟩ := k
  obtain ⟨v, v', rfl, r1, r2⟩ := rpA_two r
  have e2 : v' = c.v X.K := by cases c; exact r2.at_inv; exact r2.cls_inv
  subst e2
  exact ⟨v, _, _, _, _, rfl, clsV_kl _ c, tyD_of kf r1 e fun C z => ⟨in_own h1 C z, h3 C z⟩, kf.one t c h1 h2, Ans.now q S (.bl _) k2⟩
theorem we_isi {cs : List Str} (kf : KitF X.K cs) {x : Str} (hx : x = "isinstance") (hm : X.mg x = none) (w : WA X h (e :: es) δ (fun ds => sIsi X.K cs ds Φ) Ψ) (hg : Gl X x := by rfl) (hn : x ≠ "__name__" := by decide) (hdb : (x == ("__debug__" : Str)) = false := by decide)
    (he : starEach (e :: es) X.env = (false, eval e X.env) :: starEach es X.env := by rfl) (hpl : (backTo pos (starEach es X.env)).any (·.1) = false := by rfl) : WE X h (.Call (.Name x p) (e :: es) [] pos) δ Φ Ψ :=
  we_callB call_isi (calS_isi kf) hm w (by rw [hx]; decide +kernel) hg hn hdb he hpl
/-- isinstance(x, (c, ..)) -/
def isiAny (t : Kl) (cl : List Kl) : Bool := cl.any (isi1 t)
theorem kitAny_of {K : PySem.W.Frag} {cs : List Str} (kf : KitF K cs) {t : Kl} (ht : t.in_ cs = true) : ∀ {cl : List Kl}, (∀ c ∈ cl, c.in_ cs = true) → PySem.W.kitAny K (t.u K) (cl.map (Kl.u K)) = some (isiAny t cl)
  | [], _ => rfl
  | c :: cl, hc => by
    have e1 := kf.one t c ht (hc c List.mem_cons_self)
    have e2 := kitAny_of kf ht fun x hx => hc x (List.mem_cons_of_mem _ hx)
    show PySem.W.kitAny K (t.u K) (c.u K :: cl.map (Kl.u K)) = some (isi1 t c || isiAny t cl)
    unfold PySem.W.kitAny
    rw [e1, e2]
    cases isi1 t c <;> rfl
theorem we_isiT {cs : List Str} (kf : KitF X.K cs) {x : Str} {kt : Nat} {tpos : Pos} (cl : List Kl) (hcl : ∀ c ∈ cl, c.in_ cs = true) (hx : x = "isinstance") (hm : X.mg x = none)
    (w : WE X h e δ (fun d => ∃ t, klOf d = some t ∧ t.in_ cs = true ∧ (∀ C, t = .own C → Cls X.K (He.ga X.K C)) ∧ WA X h es δ (fun ds => ds = cl.map Kl.d ∧ cl.length ≤ 1000 ∧ Φ (.bl (isiAny t cl))) Ψ) Ψ) (hg : Gl X x := by rfl) (hn : x ≠ "__name__" := by decide) (hdb : (x == ("__debug__" : Str)) = false := by decide)
    (he : starEach [e, .Tuple es kt tpos] X.env = (false, eval e X.env) :: starEach [.Tuple es kt tpos] X.env := by rfl) (he2 : starEach [.Tuple es kt tpos] X.env = (false, eval (.Tuple es kt tpos) X.env) :: starEach [] X.env := by rfl) (hpl : (backTo pos (starEach [.Tuple es kt tpos] X.env)).any (·.1) = false := by rfl) : WE X h (.Call (.Name x p) [e, .Tuple es kt tpos] [] pos) δ Φ Ψ := .mk fun B F0 G M σ H Q W tk S q x0 => by
  refine eS_of (pe_callB call_isiT hg hm (by rw [hx]; decide +kernel) (pa_cons peS (pa_cons (pe_tup paS) pa_nil he2) he) hn hdb he hpl) ?_
  refine w.run B F0 G M σ H _ W tk S (fun v H1 d g1 S1 r1 ⟨t, et, h1, h2, w2⟩ => ?_) x0
  refine w2.run B F0 G M σ H1 _ W tk S1 (fun vs H2 ds g2 S2 r2 ⟨ed, hl, k⟩ => ?_) (Out.on x0 g1)
  subst ed
  have ev := rpA_kls r2
  subst ev
  refine ⟨szOf (by rw [List.length_map]; omega), fun p hp => ?_⟩
  have g3 : Gh h H2 (upd H2 p (.tup (cl.map (Kl.v X.K)))) := Gh.new hp
  have S3 := S2.all (new_all (o := .tup (cl.map (Kl.v X.K))) hp)
  have r3 := (r1.mono (g2.gr S1.hand)).mono (g3.gr S2.hand)
  exact ⟨v, p, _, _, _, _, rfl, upd_same, clsV_kls _ cl, tyD_of kf r3 et fun C z => ⟨in_own h1 C z, h2 C z⟩, kitAny_of kf h1 hcl, Ans.now (Ans.on q ((g1.trans g2).trans g3)) S3 (.bl _) k⟩
theorem we_len {x : Str} (hx : x = "len") (hm : X.mg x = none) (w : WA X h (e :: es) δ (fun ds => sLen ds Φ) Ψ) (hg : Gl X x := by rfl) (hn : x ≠ "__name__" := by decide) (hdb : (x == ("__debug__" : Str)) = false := by decide)
    (he : starEach (e :: es) X.env = (false, eval e X.env) :: starEach es X.env := by rfl) (hpl : (backTo pos (starEach es X.env)).any (·.1) = false := by rfl) : WE X h (.Call (.Name x p) (e :: es) [] pos) δ Φ Ψ :=
  we_callB call_len calS_len hm w (by rw [hx]; decide +kernel) hg hn hdb he hpl
theorem we_intc {x : Str} (hx : x = "int") (hm : X.mg x = none) (w : WA X h (e :: es) δ (fun ds => sInt ds Φ) Ψ) (hg : Gl X x := by rfl) (hn : x ≠ "__name__" := by decide) (hdb : (x == ("__debug__" : Str)) = false := by decide)
    (he : starEach (e :: es) X.env = (false, eval e X.env) :: starEach es X.env := by rfl) (hpl : (backTo pos (starEach es X.env)).any (·.1) = false := by rfl) : WE X h (.Call (.Name x p) (e :: es) [] pos) δ Φ Ψ :=
  we_callT call_int1 calS_int hm w (by rw [hx]; decide +kernel) hg hn hdb he hpl
/-- tuple(a new list) -/
def sTuple : List D → (D → Prop) → Prop
  | [.lst xs], Φ => Φ (.tup xs)
  | [.tup xs], Φ => Φ (.tup xs)
  | _, _ => False

/-! ### exceptions as values -/
theorem we_xf {f : Str} (w : WE X h e δ (fun d => ∃ C fs dv, d = .exc C fs ∧ fs ≠ [] ∧ EC X.K (He.ga X.K C) ∧ PySem.W.findIn X.K (.ref (He.ga X.K C)) f = some none ∧ fs.lookup f = some dv ∧ Φ dv) Ψ) (hb : attributeBase e f X.env (eval e X.env) = eval e X.env := by rfl) : WE X h (.Attribute e f pos) δ Φ Ψ := .mk fun B F G M σ H Q W tk S0 q x =>
  eS_of (pe_xfV peS hb) (w.run B F G M σ H _ W tk S0 (fun v H1 d g1 S1 r1 ⟨C, fs, dv, e1, ne, ec, hf, hl, k⟩ => by
    subst e1
    obtain ⟨a, o, rfl, he, hx⟩ := exAt_of r1
    rcases hx with ⟨z, _⟩ | ⟨d, fv, rfl, rf⟩
    · exact absurd z ne
    · obtain ⟨u, hu, ru⟩ := rf.look hl
      exact ⟨a, _, d, fv, u, rfl, he, ec, hf, hu, Ans.now (Ans.on q g1) S1 ru k⟩) x)
/-- what an own __init__ that stores its arguments promises -/
def spIni (K : PySem.W.Frag) (ns : List Str) : Sp := fun vs H Q _ => ∃ (a C : Addr) (ws : List V), vs = .ref a :: ws ∧ ws.length = ns.length ∧ OexC K C ∧ (∀ f ∈ ns, PySem.W.findIn K (.ref C) f = some none) ∧ H a = some (exo a C none) ∧
  ∀ (d : Addr) (fv : List (Str × V)) (H' : Hp), H d = none → d ≠ a → (∀ b o, b ≠ a → H b = some o → H' b = some o) → ExAt H' a C (some (d, fv)) → fv = (ns.zip ws).reverse → Q .non H'
theorem rpF_zip {K : PySem.W.Frag} {M : Addr → Prop} {H : Hp} : ∀ {ns : List Str} {ws : List V} {ds : List D}, RpA K M H ws ds → RpF K M H (ns.zip ws) (ns.zip ds)
  | [], _, _, _ => .nil
  | _ :: _, _, _, .nil => .nil
  | _ :: _, _, _, .cons h t => .cons h (rpF_zip t)
theorem rpF_append {K : PySem.W.Frag} {M : Addr → Prop} {H : Hp} : ∀ {a b : List (Str × V)} {c d : List (Str × D)}, RpF K M H a c → RpF K M H b d → RpF K M H (a ++ b) (c ++ d)
  | _, _, _, _, .nil, s => s
  | _, _, _, _, .cons h t, s => .cons h (rpF_append t s)
theorem rpF_rev {K : PySem.W.Frag} {M : Addr → Prop} {H : Hp} : ∀ {a : List (Str × V)} {c : List (Str × D)}, RpF K M H a c → RpF K M H a.reverse c.reverse
  | _, _, .nil => .nil
  | _, _, .cons h t => by
    rw [List.reverse_cons, List.reverse_cons]
    exact rpF_append (rpF_rev t) (.cons h .nil)
theorem we_mk {x C : Str} {fI : Addr} {k : Nat} {fd : FuncData} {ps : List Str} {ns : List Str} (ec : EC X.K (He.ga X.K C)) (iC : PySem.W.findIn X.K (.ref (He.ga X.K C)) "__init__" = some (some (.ref fI))) (tI : PySem.W.typeIn X.K (.ref fI) = some (.type "function"))
    (F : FnOk X.prog X.w X.K X.mg X.base (L2.CX X.prog X.w) k fI fd ps (spIni X.K ns)) (hr : Room (k + 1) X.A) (hb : Binds X.K fd ps []) (hm : X.mg x = some (.ref (He.ga X.K C))) (hf : ∀ f ∈ ns, PySem.W.findIn X.K (.ref (He.ga X.K C)) f = some none)
    (w : WA X h (e :: es) δ (fun ds => ds.length = ns.length ∧ ds.length ≤ 1000 ∧ Φ (.exc C (ns.zip ds).reverse)) Ψ) (hg : Gl X x := by rfl) (hdb : (x == ("__debug__" : Str)) = false := by decide) (he : starEach (e :: es) X.env = (false, eval e X.env) :: starEach es X.env := by rfl) (hpl : (backTo pos (starEach es X.env)).any (·.1) = false := by rfl) :
    WE X h (.Call (.Name x p) (e :: es) [] pos) δ Φ Ψ := .mk fun B F0 G M σ H Q W tk S0 q x0 => by
  refine eS_of (pe_oexV ec.ox iC tI F hr hb passL hg hm paS hdb he hpl) (w.run B F0 G M σ H _ W tk S0 (fun vs H1 ds g1 S1 r1 ⟨h1, h2, k⟩ => ?_) x0)
  have hl := r1.length
  refine ⟨by omega, fun a ha => ⟨a, _, vs, rfl, by omega, ec.ox, hf, upd_same, fun d fv H' hd hda kp he efv => ⟨rfl, ?_⟩⟩⟩
  subst efv
  have all : ∀ b o, H1 b = some o → H' b = some o := fun b o z => kp b o (ne_of_none z ha) (by rw [upd_ne (ne_of_none z ha)]; exact z)
  have hd1 : H1 d = none := by rw [upd_ne hda] at hd; exact hd
  have r1' := r1.mono (Gh.gr S1.hand (Gh.all (h := h) all))
  exact q _ H' _ (g1.trans (Gh.all all)) (S1.all all) (.exc (S1.live.new ha) (S1.live.new hd1) he (rpF_rev (rpF_zip r1'))) k
theorem we_mk0 {x C : Str} (q0 : PySem.W.excIn X.K (He.ga X.K C) He.veBase "ValueError.__new__" = true) (kC : PySem.W.keepIn X.K (.ref (He.ga X.K C)) = true) (hm : X.mg x = some (.ref (He.ga X.K C))) (k : Φ (.exc C [])) (hg : Gl X x := by rfl) (hdb : (x == ("__debug__" : Str)) = false := by decide) :
    WE X h (.Call (.Name x p) [] [] pos) δ Φ Ψ := .mk fun B F0 G M σ H Q W tk S0 q x0 =>
  eS_of (pe_oexV0 PySem.F.excBase_ValueError q0 kC hg hm hdb) fun a ha => q _ _ _ (Gh.new ha) (S0.all (new_all ha)) (.exc0 (S0.live.new ha) (.bare upd_same)) k
end
end Ud

set_option Elab.async false
set_option linter.all false
set_option maxRecDepth 100000
set_option maxHeartbeats 4000000
namespace Ud
open PySem PySem.Spec PyProof.Rows L2 Uc

/-- what is wanted behind a statement -/
structure Po where
  nx : List Sl → Prop
  rt : D → Prop
  bk : List Sl → Prop := fun _ => False
  ct : List Sl → Prop := fun _ => False
  ex : List Sl → Str → List (Str × D) → Prop
structure EndsOk (X : Cx) (h : Option Hd) (B : Addr → Prop) (F : Addr → HO → Prop) (G : V → D → Prop) (P : Po) (D : Ends) (W : WX) : Prop where
  nx : ∀ M σ H δ, SD X.K h B F G M H σ δ → P.nx δ → D.nx σ H
  rt : ∀ M σ H δ v d, SD X.K h B F G M H σ δ → Rp X.K M H v d → P.rt d → D.rt v H
  bk : ∀ M σ H δ, SD X.K h B F G M H σ δ → P.bk δ → D.bk σ H
  ct : ∀ M σ H δ, SD X.K h B F G M H σ δ → P.ct δ → D.ct σ H
  ex : ∀ M σ H δ C od fs, SD X.K h B F G M H σ δ → ExcD X.K M H fs od → P.ex δ C fs → W (.ref (He.ga X.K C)) od σ H
structure WS (X : Cx) (h : Option Hd) (st : Stmt) (δ : List Sl) (P : Po) : Prop where
  run : ∀ (B : Addr → Prop) (F : Addr → HO → Prop) (G : V → D → Prop) (M : Addr → Prop) (σ : L2.St) (H : Hp) (D : Ends) (W : WX), Takes X W → SD X.K h B F G M H σ δ → EndsOk X h B F G P D W → sS X st D σ H
structure WB (X : Cx) (h : Option Hd) (st : List Stmt) (δ : List Sl) (P : Po) : Prop where
  run : ∀ (B : Addr → Prop) (F : Addr → HO → Prop) (G : V → D → Prop) (M : Addr → Prop) (σ : L2.St) (H : Hp) (D : Ends) (W : WX), Takes X W → SD X.K h B F G M H σ δ → EndsOk X h B F G P D W → bS X st D σ H

section
variable {K : PySem.W.Frag} {h : Option Hd} {B : Addr → Prop} {F : Addr → HO → Prop} {G : V → D → Prop} {M : Addr → Prop} {H H' : Hp} {σ : L2.St} {δ : List Sl}
theorem slot_set {α : Type} {l : List α} {i j : Nat} {a b : α} (e : (l.set i a)[j]? = some b) : (j = i ∧ b = a ∧ i < l.length) ∨ (j ≠ i ∧ l[j]? = some b) := by
  by_cases q : j = i
  · subst q
    by_cases hl : j < l.length
    · rw [List.getElem?_set_self hl] at e
      exact .inl ⟨rfl, (Option.some.inj e).symm, hl⟩
    · rw [List.getElem?_eq_none (by simpa using hl)] at e
      cases e
  · rw [List.getElem?_set_ne (Ne.symm q)] at e
    exact .inr ⟨q, e⟩
theorem SD.setV {v : V} {d : D} (S : SD K h B F G M H σ δ) (i : Nat) (r : Rp K M H v d) : SD K h B F G M H (σ.set i (some v)) (δ.set i (.val d)) where
  len := by rw [List.length_set, List.length_set]; exact S.len
  val := fun j d' e => by
    rcases slot_set e with ⟨rfl, e1, hl⟩ | ⟨ne, e1⟩
    · cases e1
      exact ⟨v, List.getElem?_set_self (by rw [S.len]; exact hl), r⟩
    · obtain ⟨u, e2, r2⟩ := S.val j d' e1
      exact ⟨u, by rw [List.getElem?_set_ne (Ne.symm ne)]; exact e2, r2⟩
  own := fun j ds e => by
    rcases slot_set e with ⟨rfl, e1, hl⟩ | ⟨ne, e1⟩
    · cases e1
    · obtain ⟨p, xs, e2, z⟩ := S.own j ds e1
      exact ⟨p, xs, by rw [List.getElem?_set_ne (Ne.symm ne)]; exact e2, z⟩
  hnd := fun j e => by
    rcases slot_set e with ⟨rfl, e1, hl⟩ | ⟨ne, e1⟩
    · cases e1
    · obtain ⟨q, hq, ql, e2⟩ := S.hnd j e1
      exact ⟨q, hq, ql, by rw [List.getElem?_set_ne (Ne.symm ne)]; exact e2⟩
  slf := fun j C fs e => by
    rcases slot_set e with ⟨rfl, e1, hl⟩ | ⟨ne, e1⟩
    · cases e1
    · obtain ⟨q, hq, ql, e2, dx, fv, e3, r3⟩ := S.slf j C fs e1
      exact ⟨q, hq, ql, by rw [List.getElem?_set_ne (Ne.symm ne)]; exact e2, dx, fv, e3, r3⟩
  dis := fun j l ds es p ne e1 e2 e3 e4 => by
    rcases slot_set e1 with ⟨rfl, q1, _⟩ | ⟨n1, q1⟩
    · cases q1
    · rcases slot_set e2 with ⟨rfl, q2, _⟩ | ⟨n2, q2⟩
      · cases q2
      · rw [List.getElem?_set_ne (Ne.symm n1)] at e3
        rw [List.getElem?_set_ne (Ne.symm n2)] at e4
        exact S.dis j l ds es p ne q1 q2 e3 e4
  hand := S.hand
  live := S.live
  fk := S.fk
  fh := S.fh
  gk := S.gk
  mb := S.mb
/-- a slot forgotten -/
theorem SD.setN {o : Option V} (S : SD K h B F G M H σ δ) (i : Nat) : SD K h B F G M H (σ.set i o) (δ.set i .no) where
  len := by rw [List.length_set, List.length_set]; exact S.len
  val := fun j d' e => by
    rcases slot_set e with ⟨rfl, e1, hl⟩ | ⟨ne, e1⟩
    · cases e1
    · obtain ⟨u, e2, r2⟩ := S.val j d' e1
      exact ⟨u, by rw [List.getElem?_set_ne (Ne.symm ne)]; exact e2, r2⟩
  own := fun j ds e => by
    rcases slot_set e with ⟨rfl, e1, hl⟩ | ⟨ne, e1⟩
    · cases e1
    · obtain ⟨p, xs, e2, z⟩ := S.own j ds e1
      exact ⟨p, xs, by rw [List.getElem?_set_ne (Ne.symm ne)]; exact e2, z⟩
  hnd := fun j e => by
    rcases slot_set e with ⟨rfl, e1, hl⟩ | ⟨ne, e1⟩
    · cases e1
    · obtain ⟨q, hq, ql, e2⟩ := S.hnd j e1
      exact ⟨q, hq, ql, by rw [List.getElem?_set_ne (Ne.symm ne)]; exact e2⟩
  slf := fun j C fs e => by
    rcases slot_set e with ⟨rfl, e1, hl⟩ | ⟨ne, e1⟩
    · cases e1
    · obtain ⟨q, hq, ql, e2, dx, fv, e3, r3⟩ := S.slf j C fs e1
      exact ⟨q, hq, ql, by rw [List.getElem?_set_ne (Ne.symm ne)]; exact e2, dx, fv, e3, r3⟩
  dis := fun j l ds es p ne e1 e2 e3 e4 => by
    rcases slot_set e1 with ⟨rfl, q1, _⟩ | ⟨n1, q1⟩
    · cases q1
    · rcases slot_set e2 with ⟨rfl, q2, _⟩ | ⟨n2, q2⟩
      · cases q2
      · rw [List.getElem?_set_ne (Ne.symm n1)] at e3
        rw [List.getElem?_set_ne (Ne.symm n2)] at e4
        exact S.dis j l ds es p ne q1 q2 e3 e4
  hand := S.hand
  live := S.live
  fk := S.fk
  fh := S.fh
  gk := S.gk
  mb := S.mb
/-- the hand's slot -/
theorem SD.setHd {q : Hd} (ql : q.law = true) (S : SD K (some q) B F G M H σ δ) (i : Nat) : SD K (some q) B F G M H (σ.set i (some (.ref q.p))) (δ.set i .hand) where
  len := by rw [List.length_set, List.length_set]; exact S.len
  val := fun j d' e => by
    rcases slot_set e with ⟨rfl, e1, hl⟩ | ⟨ne, e1⟩
    · cases e1
    · obtain ⟨u, e2, r2⟩ := S.val j d' e1
      exact ⟨u, by rw [List.getElem?_set_ne (Ne.symm ne)]; exact e2, r2⟩
  own := fun j ds e => by
    rcases slot_set e with ⟨rfl, e1, hl⟩ | ⟨ne, e1⟩
    · cases e1
    · obtain ⟨p, xs, e2, z⟩ := S.own j ds e1
      exact ⟨p, xs, by rw [List.getElem?_set_ne (Ne.symm ne)]; exact e2, z⟩
  hnd := fun j e => by
    rcases slot_set e with ⟨rfl, e1, hl⟩ | ⟨ne, e1⟩
    · exact ⟨q, rfl, ql, List.getElem?_set_self (by rw [S.len]; exact hl)⟩
    · obtain ⟨q', hq, ql', e2⟩ := S.hnd j e1
      exact ⟨q', hq, ql', by rw [List.getElem?_set_ne (Ne.symm ne)]; exact e2⟩
  slf := fun j C fs e => by
    rcases slot_set e with ⟨rfl, e1, hl⟩ | ⟨ne, e1⟩
    · cases e1
    · obtain ⟨q, hq, ql, e2, dx, fv, e3, r3⟩ := S.slf j C fs e1
      exact ⟨q, hq, ql, by rw [List.getElem?_set_ne (Ne.symm ne)]; exact e2, dx, fv, e3, r3⟩
  dis := fun j l ds es p ne e1 e2 e3 e4 => by
    rcases slot_set e1 with ⟨rfl, q1, _⟩ | ⟨n1, q1⟩
    · cases q1
    · rcases slot_set e2 with ⟨rfl, q2, _⟩ | ⟨n2, q2⟩
      · cases q2
      · rw [List.getElem?_set_ne (Ne.symm n1)] at e3
        rw [List.getElem?_set_ne (Ne.symm n2)] at e4
        exact S.dis j l ds es p ne q1 q2 e3 e4
  hand := S.hand
  live := S.live
  fk := S.fk
  fh := S.fh
  gk := S.gk
  mb := S.mb
/-- a new list becomes one's own: p was free at H0, and all of the state stood there -/
theorem SD.setO {p : Addr} {u : HO} {od : OD} {H0 : Hp} (S0 : SD K h B F G M H0 σ δ) (S : SD K h B F G M H σ δ) (g : Gh h H0 H) (n : H0 p = none) (hp : H p = some u) (nr : OH K (fun a => M a ∨ a = p) H p u od) (i : Nat) :
    SD K h B F G (fun a => M a ∨ a = p) H (σ.set i (some (V.ref p))) (δ.set i (.own od)) :=
  have w : ∀ a, (M a ∨ a = p) → M a ∨ H0 a = none := fun a z => z.elim .inl fun y => .inr (by rw [y]; exact n)
  have gg : Gr (fun a => M a ∨ a = p) H0 H := fun b o nb e => g.gr S0.hand b o (fun z => nb (.inl z)) e
  have all : ∀ v d, Rp K M H0 v d → Rp K (fun a => M a ∨ a = p) H v d := fun v d r => (r.nar w).mono gg
  {
  len := by rw [List.length_set, List.length_set]; exact S.len
  val := fun j d' e => by
    rcases slot_set e with ⟨rfl, e1, hl⟩ | ⟨ne, e1⟩
    · cases e1
    · obtain ⟨u, e2, r2⟩ := S0.val j d' e1
      exact ⟨u, by rw [List.getElem?_set_ne (Ne.symm ne)]; exact e2, all _ _ r2⟩
  own := fun j ds' e => by
    rcases slot_set e with ⟨rfl, e1, hl⟩ | ⟨ne, e1⟩
    · cases e1
      refine ⟨p, u, List.getElem?_set_self (by rw [S.len]; exact hl), .inr rfl, fun q z y => ?_, hp, nr, fun z => S0.live.new n (S0.mb p z), fun o z => ?_⟩
      · exact S0.live.new n (by rw [y]; exact (S0.hand q z).1)
      · have y := S0.fk p o z
        rw [n] at y
        cases y
    · obtain ⟨p', xs', e2, m, nh, hp', r', z⟩ := S0.own j ds' e1
      exact ⟨p', xs', by rw [List.getElem?_set_ne (Ne.symm ne)]; exact e2, .inl m, nh, g p' _ nh.nl hp', (r'.nar w).mono gg, z⟩
  hnd := fun j e => by
    rcases slot_set e with ⟨rfl, e1, hl⟩ | ⟨ne, e1⟩
    · cases e1
    · obtain ⟨q, hq, ql, e2⟩ := S0.hnd j e1
      exact ⟨q, hq, ql, by rw [List.getElem?_set_ne (Ne.symm ne)]; exact e2⟩
  slf := fun j C fs e => by
    rcases slot_set e with ⟨rfl, e1, hl⟩ | ⟨ne, e1⟩
    · cases e1
    · obtain ⟨q, hq, ql, e2, dx, fv, e3, r3⟩ := S0.slf j C fs e1
      exact ⟨q, hq, ql, by rw [List.getElem?_set_ne (Ne.symm ne)]; exact e2, dx, fv, g _ _ (fun q' hq' l => by rw [hq] at hq'; cases hq'; rw [ql] at l; cases l) e3, (r3.nar w).mono gg⟩
  dis := fun j l ds1 es p1 ne e1 e2 e3 e4 => by
    have old : ∀ k (ds2 : OD), δ[k]? = some (Sl.own ds2) → σ[k]? ≠ some (some (V.ref p)) := fun k ds2 q z => by
      obtain ⟨p', xs', e5, m, _⟩ := S0.own k ds2 q
      rw [z] at e5
      cases e5
      exact S0.live.new n m
    rcases slot_set e1 with ⟨rfl, q1, hl⟩ | ⟨n1, q1⟩
    · rw [List.getElem?_set_self (by rw [S.len]; exact hl)] at e3
      cases e3
      rcases slot_set e2 with ⟨rfl, q2, _⟩ | ⟨n2, q2⟩
      · exact ne rfl
      · rw [List.getElem?_set_ne (Ne.symm n2)] at e4
        exact old _ _ q2 e4
    · rw [List.getElem?_set_ne (Ne.symm n1)] at e3
      rcases slot_set e2 with ⟨rfl, q2, hl⟩ | ⟨n2, q2⟩
      · rw [List.getElem?_set_self (by rw [S.len]; exact hl)] at e4
        cases e4
        exact old _ _ q1 e3
      · rw [List.getElem?_set_ne (Ne.symm n2)] at e4
        exact S0.dis j l ds1 es p1 ne q1 q2 e3 e4
  hand := fun q e => by
    obtain ⟨mq, h1, h3⟩ := S.hand q e
    obtain ⟨_, _, k3⟩ := S0.hand q e
    exact ⟨.inl mq, h1, fun l o z => ⟨(h3 l o z).1, fun y => y.elim (h3 l o z).2 (ne_of_none (k3 l o z).1 n)⟩⟩
  live := fun a z => z.elim (S.live a) fun y => by rw [y]; exact ⟨_, hp⟩
  fk := S.fk
  fh := S.fh
  gk := fun v d z => all v d (S0.gk v d z)
  mb := fun a z => .inl (S.mb a z) }
end
end Ud

set_option Elab.async false
set_option linter.all false
set_option maxRecDepth 100000
set_option maxHeartbeats 4000000
/-! What a piece of code comes to, over described values: a tree of draws with results at its leaves. -/
namespace Ud
open PySem PySem.Spec PyProof.Rows L2 Uc
inductive T (α : Type) where
  | ret (a : α)
  | ex (C : Str) (fs : List (Str × D))
  | stuck
  | draw (n : Int) (k : Int → T α)
section
variable {α β γ : Type}
def T.sat : T α → (α → Prop) → (Str → List (Str × D) → Prop) → Prop
  | .ret a, Φ, _ => Φ a
  | .ex C fs, _, Ψ => Ψ C fs
  | .stuck, _, _ => False
  | .draw n k, Φ, Ψ => (0 < n ∧ n < 18446744073709551616) ∧ ∀ i, 0 ≤ i → i < n → (k i).sat Φ Ψ
def T.bind : T α → (α → T β) → T β
  | .ret a, f => f a
  | .ex C fs, _ => .ex C fs
  | .stuck, _ => .stuck
  | .draw n k, f => .draw n fun i => (k i).bind f
theorem T.sat_mono {Φ Φ' : α → Prop} {Ψ Ψ' : Str → List (Str × D) → Prop} (h : ∀ a, Φ a → Φ' a) (h2 : ∀ C fs, Ψ C fs → Ψ' C fs) : ∀ {t : T α}, t.sat Φ Ψ → t.sat Φ' Ψ'
  | .ret a, k => h a k
  | .ex C fs, k => h2 C fs k
  | .stuck, k => k
  | .draw n f, k => ⟨k.1, fun i h0 h1 => T.sat_mono h h2 (k.2 i h0 h1)⟩
theorem T.sat_bind {Φ : β → Prop} {Ψ : Str → List (Str × D) → Prop} {f : α → T β} : ∀ {t : T α}, (t.bind f).sat Φ Ψ ↔ t.sat (fun a => (f a).sat Φ Ψ) Ψ
  | .ret a => Iff.rfl
  | .ex C fs => Iff.rfl
  | .stuck => Iff.rfl
  | .draw n k => ⟨fun q => ⟨q.1, fun i h0 h1 => T.sat_bind.mp (q.2 i h0 h1)⟩, fun q => ⟨q.1, fun i h0 h1 => T.sat_bind.mpr (q.2 i h0 h1)⟩⟩
theorem T.sat_bindM {Φ : β → Prop} {Ψ : Str → List (Str × D) → Prop} {f : α → T β} {t : T α} (P : α → Prop) (q : (t.bind f).sat Φ Ψ) (h : ∀ a, (f a).sat Φ Ψ → P a) : t.sat P Ψ := T.sat_mono h (fun _ _ z => z) (T.sat_bind.mp q)
theorem T.bind_bind {f : α → T β} {g : β → T γ} : ∀ {t : T α}, (t.bind f).bind g = t.bind fun a => (f a).bind g
  | .ret a => rfl
  | .ex C fs => rfl
  | .stuck => rfl
  | .draw n k => congrArg (T.draw n) (funext fun i => T.bind_bind)
theorem T.bind_ret : ∀ {t : T α}, t.bind T.ret = t
  | .ret a => rfl
  | .ex C fs => rfl
  | .stuck => rfl
  | .draw n k => congrArg (T.draw n) (funext fun i => T.bind_ret)
/-- a condition -/
def T.chk (b : Bool) (t : T α) : T α := match b with
  | true => t
  | false => .stuck
theorem T.sat_chk {b : Bool} {t : T α} {Φ : α → Prop} {Ψ : Str → List (Str × D) → Prop} (q : (T.chk b t).sat Φ Ψ) : b = true ∧ t.sat Φ Ψ := by
  cases b with
  | true => exact ⟨rfl, q⟩
  | false => exact q.elim
/-- a choice -/
def T.cond (b : Bool) (t u : T α) : T α := match b with
  | true => t
  | false => u
theorem T.sat_cond {b : Bool} {t u : T α} {Φ : α → Prop} {Ψ : Str → List (Str × D) → Prop} : (T.cond b t u).sat Φ Ψ = if b = true then t.sat Φ Ψ else u.sat Φ Ψ := by cases b <;> rfl
end
/-- how a statement ends -/
inductive Fl where
  | nx (δ : List Sl) | rt (d : D) | bk (δ : List Sl) | ct (δ : List Sl) | ex (δ : List Sl) (C : Str) (fs : List (Str × D))
def Po.of (P : Po) : Fl → Prop
  | .nx δ => P.nx δ
  | .rt d => P.rt d
  | .bk δ => P.bk δ
  | .ct δ => P.ct δ
  | .ex δ C fs => P.ex δ C fs
/-- an expression's outcome within a statement -/
def T.on {α : Type} (δ : List Sl) : T α → (α → T Fl) → T Fl
  | .ret a, f => f a
  | .ex C fs, _ => .ret (.ex δ C fs)
  | .stuck, _ => .stuck
  | .draw n k, f => .draw n fun i => T.on δ (k i) f
abbrev noX : Str → List (Str × D) → Prop := fun _ _ => False
theorem T.sat_on {α : Type} {δ : List Sl} {P : Po} {f : α → T Fl} : ∀ {t : T α}, (t.on δ f).sat P.of noX ↔ t.sat (fun a => (f a).sat P.of noX) (P.ex δ)
  | .ret a => Iff.rfl
  | .ex C fs => Iff.rfl
  | .stuck => Iff.rfl
  | .draw n k => ⟨fun q => ⟨q.1, fun i h0 h1 => T.sat_on.mp (q.2 i h0 h1)⟩, fun q => ⟨q.1, fun i h0 h1 => T.sat_on.mpr (q.2 i h0 h1)⟩⟩
theorem T.sat_onM {α : Type} {δ : List Sl} {P : Po} {f : α → T Fl} {t : T α} (R : α → Prop) (q : (t.on δ f).sat P.of noX) (h : ∀ a, (f a).sat P.of noX → R a) : t.sat R (P.ex δ) := T.sat_mono h (fun _ _ z => z) (T.sat_on.mp q)
abbrev EF := List Sl → T D
abbrev BF := List Sl → T Bool
abbrev AF := List Sl → T (List D)
abbrev SF := List Sl → T Fl
def cNil : AF := fun _ => .ret []
def cCons (f : EF) (g : AF) : AF := fun δ => (f δ).bind fun d => (g δ).bind fun ds => .ret (d :: ds)
structure DE (X : Cx) (h : Option Hd) (e : Expr) (f : EF) : Prop where
  run : ∀ δ Φ Ψ, (f δ).sat Φ Ψ → WE X h e δ Φ Ψ
structure DT (X : Cx) (h : Option Hd) (e : Expr) (f : BF) : Prop where
  run : ∀ δ Φ Ψ, (f δ).sat Φ Ψ → WT X h e δ Φ Ψ
structure DW (X : Cx) (h : Option Hd) (e : Expr) (f : BF) : Prop where
  run : ∀ δ Φ Ψ, (f δ).sat Φ Ψ → WW X h e δ Φ Ψ
structure DA (X : Cx) (h : Option Hd) (es : List Expr) (f : AF) : Prop where
  run : ∀ δ Φ Ψ, (f δ).sat Φ Ψ → WA X h es δ Φ Ψ
structure DF (X : Cx) (h : Option Hd) (e : Expr) (f : AF) : Prop where
  run : ∀ δ Φ Ψ, (f δ).sat Φ Ψ → WF X h e δ Φ Ψ
structure DS (X : Cx) (h : Option Hd) (st : Stmt) (g : SF) : Prop where
  run : ∀ δ P, (g δ).sat (Po.of P) noX → WS X h st δ P
structure DB (X : Cx) (h : Option Hd) (b : List Stmt) (g : SF) : Prop where
  run : ∀ δ P, (g δ).sat (Po.of P) noX → WB X h b δ P
end Ud

set_option Elab.async false
set_option linter.all false
set_option maxRecDepth 100000
set_option maxHeartbeats 4000000
namespace Ud
open PySem PySem.Spec PyProof.Rows L2 Uc
section
variable {X : Cx} {h : Option Hd} {δ : List Sl} {P : Po} {a b c e : Expr} {es : List Expr} {pos p : Pos} {st : Stmt} {rest body orelse : List Stmt}
theorem wb_nil (k : P.nx δ) : WB X h [] δ P := .mk fun B F G M σ H D W tk S E => bS_of pss_nil (E.nx M σ H δ S k)
theorem wb_cons (w : WS X h st δ { P with nx := fun δ' => WB X h rest δ' P }) : WB X h (st :: rest) δ P := .mk fun B F G M σ H D W tk S E =>
  bS_of (pss_cons psS pbS) (w.run B F G M σ H { D with nx := bS X rest D } W tk S ⟨fun M' σ' H' δ' S' w' => w'.run B F G M' σ' H' D W tk S' E, E.rt, E.bk, E.ct, E.ex⟩)
theorem wb_mono {P' : Po} (w : WB X h rest δ P) (h1 : ∀ δ, P.nx δ → P'.nx δ) (h2 : ∀ d, P.rt d → P'.rt d) (h3 : ∀ δ, P.bk δ → P'.bk δ) (h4 : ∀ δ, P.ct δ → P'.ct δ) (h5 : ∀ δ C fs, P.ex δ C fs → P'.ex δ C fs) : WB X h rest δ P' := .mk fun B F G M σ H D W tk S E =>
  w.run B F G M σ H D W tk S ⟨fun M σ H δ S k => E.nx M σ H δ S (h1 δ k), fun M σ H δ v d S r k => E.rt M σ H δ v d S r (h2 d k), fun M σ H δ S k => E.bk M σ H δ S (h3 δ k), fun M σ H δ S k => E.ct M σ H δ S (h4 δ k), fun M σ H δ C od fs S x k => E.ex M σ H δ C od fs S x (h5 δ C fs k)⟩
theorem out_of {B : Addr → Prop} {F : Addr → HO → Prop} {G : V → D → Prop} {M : Addr → Prop} {σ : L2.St} {H : Hp} {D : Ends} {W : WX} (E : EndsOk X h B F G P D W) : Out X h B F G M H σ δ (P.ex δ) W := fun C od H' fs g S ed k => E.ex M σ H' δ C od fs S ed k
/-- x = e -/
theorem ws_set {x : Str} {p' : Pos} (i : Nat) (hN : X.N.Nodup) (w : WE X h e δ (fun d => P.nx (δ.set i (.val d))) (P.ex δ)) (hi : X.N[i]? = some x := by rfl) (hx : Loc X.env.scope x := by first | exact Or.inl rfl | exact Or.inr rfl) (hs : swapsWith e (some (.Name x p')) pos.line X.env = pure false := by rfl)
    (hf : X.fn x = true ∨ X.env.scope.names.lookup x = some .local := by first | exact .inl rfl | exact .inr rfl) : WS X h (.Assign [.Name x p'] e pos) δ P := .mk fun B F G M σ H D W tk S E =>
  sS_of (ps_set hN hi hx peS hs hf) (w.run B F G M σ H _ W tk S (fun v H1 d g1 S1 r1 k => E.nx M _ H1 _ (S1.setV i r1) k) (out_of E))
/-- x = a new list, one's own -/
theorem ws_own {x : Str} {p' : Pos} (i : Nat) (hN : X.N.Nodup) (w : WF X h e δ (fun ds => P.nx (δ.set i (.own (.l ds)))) (P.ex δ)) (hi : X.N[i]? = some x := by rfl) (hx : Loc X.env.scope x := by first | exact Or.inl rfl | exact Or.inr rfl) (hs : swapsWith e (some (.Name x p')) pos.line X.env = pure false := by rfl)
    (hf : X.fn x = true ∨ X.env.scope.names.lookup x = some .local := by first | exact .inl rfl | exact .inr rfl) : WS X h (.Assign [.Name x p'] e pos) δ P := .mk fun B F G M σ H D W tk S E =>
  sS_of (ps_set hN hi hx peS hs hf) (w.run B F G M σ H _ W tk S (fun p H1 xs ds g1 S1 n hp nr k => E.nx _ _ H1 _ (SD.setO (od := .l ds) S S1 g1 n hp ⟨xs, rfl, nr⟩ i) k) (out_of E))
theorem ws_ret (w : WE X h e δ P.rt (P.ex δ)) : WS X h (.Return (some e) pos) δ P := .mk fun B F G M σ H D W tk S E =>
  sS_of (ps_ret peS) (w.run B F G M σ H _ W tk S (fun v H1 d g1 S1 r1 k => E.rt M σ H1 δ v d S1 r1 k) (out_of E))
theorem ws_retN (k : P.rt .non) : WS X h (.Return none pos) δ P := .mk fun B F G M σ H D W tk S E => sS_of ps_retN (E.rt M σ H δ _ _ S .non k)
theorem ws_if (w : WT X h c δ (fun k => if k = true then WB X h body δ P else WB X h orelse δ P) (P.ex δ)) : WS X h (.If c body orelse pos) δ P := .mk fun B F G M σ H D W tk S E =>
  sS_of (ps_if ptS pbS pbS) (w.run B F G M σ H _ W tk S (fun k H1 g1 S1 f => by
    cases k with
    | true => exact f.run B F G M σ H1 D W tk S1 E
    | false => exact f.run B F G M σ H1 D W tk S1 E) (out_of E))
theorem ws_drop (w : WE X h e δ (fun _ => P.nx δ) (P.ex δ)) (hs : swapsWith e none pos.line X.env = pure false := by rfl) : WS X h (.Expr e pos) δ P := .mk fun B F G M σ H D W tk S E =>
  sS_of (ps_expr peS hs) (w.run B F G M σ H _ W tk S (fun v H1 d g1 S1 r1 k => E.nx M σ H1 δ S1 k) (out_of E))
theorem ws_pass (k : P.nx δ) : WS X h (.Pass pos) δ P := .mk fun B F G M σ H D W tk S E => sS_of ps_pass (E.nx M σ H δ S k)
theorem ws_break (k : P.bk δ) : WS X h (.Break pos) δ P := .mk fun B F G M σ H D W tk S E => sS_of ps_break (E.bk M σ H δ S k)
theorem ws_cont (k : P.ct δ) : WS X h (.Continue pos) δ P := .mk fun B F G M σ H D W tk S E => sS_of ps_continue (E.ct M σ H δ S k)
/-- one's own list given over: it stays from here on -/
theorem SD.give {K : PySem.W.Frag} {B : Addr → Prop} {F : Addr → HO → Prop} {G : V → D → Prop} {M : Addr → Prop} {H : Hp} {σ : L2.St} {i : Nat} {ds : OD} (S : SD K h B F G M H σ δ) (hi : δ[i]? = some (Sl.own ds)) (gv : ds.giv = true) : ∃ M', SD K h B F G M' H σ (δ.set i (.val ds.d)) ∧ ∀ a, M' a → M a := by
  obtain ⟨p, xs, e1, mp, np, hp, r, nb, nf⟩ := S.own i ds hi
  have w : ∀ a, (M a ∧ a ≠ p) → M a := fun a z => z.1
  refine ⟨fun a => M a ∧ a ≠ p, ⟨by rw [List.length_set]; exact S.len, fun j d' e => ?_, fun j ds' e => ?_, fun j e => ?_, fun j C fs e => ?_, fun j l ds1 es p1 ne e1 e2 e3 e4 => ?_, fun q e => ?_, fun a z => S.live a z.1, S.fk, S.fh, fun v d z => (S.gk v d z).wid w, fun a z => ⟨S.mb a z, fun y => nb (by rw [← y]; exact z)⟩⟩, w⟩
  · rcases slot_set e with ⟨rfl, q1, hl⟩ | ⟨ne, q1⟩
    · cases q1
      exact ⟨.ref p, e1, (r.wid w).rp (fun z => z.2 rfl) hp gv⟩
    · obtain ⟨u, e2, r2⟩ := S.val j d' q1
      exact ⟨u, e2, r2.wid w⟩
  · rcases slot_set e with ⟨rfl, q1, hl⟩ | ⟨ne, q1⟩
    · cases q1
    · obtain ⟨p', xs', e2, m, nh, hp', r', z⟩ := S.own j ds' q1
      refine ⟨p', xs', e2, ⟨m, fun y => ?_⟩, nh, hp', r'.wid w, z⟩
      subst y
      exact S.dis i j ds ds' p' (Ne.symm ne) hi q1 e1 e2
  · rcases slot_set e with ⟨rfl, q1, hl⟩ | ⟨ne, q1⟩
    · cases q1
    · exact S.hnd j q1
  · rcases slot_set e with ⟨rfl, q1, hl⟩ | ⟨ne, q1⟩
    · cases q1
    · obtain ⟨q, hq, ql, e2, dx, fv, e3, r3⟩ := S.slf j C fs q1
      exact ⟨q, hq, ql, e2, dx, fv, e3, r3.wid w⟩
  · rcases slot_set e1 with ⟨rfl, q1, _⟩ | ⟨n1, q1⟩
    · cases q1
    · rcases slot_set e2 with ⟨rfl, q2, _⟩ | ⟨n2, q2⟩
      · cases q2
      · exact S.dis j l ds1 es p1 ne q1 q2 e3 e4
  · exact S.hand.down w (fun q e => ⟨(S.hand q e).1, fun y => np q e y.symm⟩) q e
theorem wb_give {i : Nat} {ds : OD} (hi : δ[i]? = some (Sl.own ds)) (gv : ds.giv = true) (w : WB X h rest (δ.set i (.val ds.d)) P) : WB X h rest δ P := .mk fun B F G M σ H D W tk S E => by
  obtain ⟨M', S', _⟩ := S.give hi gv
  exact w.run B F G M' σ H D W tk S' E
theorem ws_give {i : Nat} {ds : OD} (hi : δ[i]? = some (Sl.own ds)) (gv : ds.giv = true) (w : WS X h st (δ.set i (.val ds.d)) P) : WS X h st δ P := .mk fun B F G M σ H D W tk S E => by
  obtain ⟨M', S', _⟩ := S.give hi gv
  exact w.run B F G M' σ H D W tk S' E
/-- one's own list changed in place -/
theorem SD.chg {K : PySem.W.Frag} {B : Addr → Prop} {F : Addr → HO → Prop} {G : V → D → Prop} {M : Addr → Prop} {H : Hp} {σ : L2.St} {i : Nat} {ds es : OD} {q : Addr} {u : HO} (S : SD K h B F G M H σ δ) (hi : δ[i]? = some (Sl.own ds)) (eq : σ[i]? = some (some (V.ref q))) (r : OH K M H q u es) :
    SD K h B F G M (upd H q u) σ (δ.set i (.own es)) := by
  obtain ⟨p, xs0, e1, mp, np, hp, r0, nb, nf⟩ := S.own i ds hi
  rw [eq] at e1
  cases e1
  have gr : Gr M H (upd H q u) := fun b o n e => by rw [upd_ne (fun z => n (by rw [z]; exact mp))]; exact e
  refine ⟨by rw [List.length_set]; exact S.len, fun j d' e => ?_, fun j ds' e => ?_, fun j e => ?_, fun j C fs e => ?_, fun j l ds1 es1 p1 ne e1 e2 e3 e4 => ?_, fun z e => ?_, fun a z => ?_, fun b o z => ?_, S.fh, fun v d z => (S.gk v d z).mono gr, S.mb⟩
  · rcases slot_set e with ⟨rfl, q1, hl⟩ | ⟨ne, q1⟩
    · cases q1
    · obtain ⟨u, e2, r2⟩ := S.val j d' q1
      exact ⟨u, e2, r2.mono gr⟩
  · rcases slot_set e with ⟨rfl, q1, hl⟩ | ⟨ne, q1⟩
    · cases q1
      exact ⟨q, u, eq, mp, np, upd_same, r.mono gr, nb, nf⟩
    · obtain ⟨p', xs', e2, m, nh, hp', r', z⟩ := S.own j ds' q1
      refine ⟨p', xs', e2, m, nh, ?_, r'.mono gr, z⟩
      rw [upd_ne (fun y => S.dis i j ds ds' q (Ne.symm ne) hi q1 eq (by rw [e2, y]))]
      exact hp'
  · rcases slot_set e with ⟨rfl, q1, hl⟩ | ⟨ne, q1⟩
    · cases q1
    · exact S.hnd j q1
  · rcases slot_set e with ⟨rfl, q1, hl⟩ | ⟨ne, q1⟩
    · cases q1
    · obtain ⟨z, hz, zl, e2, dx, fv, e3, r3⟩ := S.slf j C fs q1
      exact ⟨z, hz, zl, e2, dx, fv, by rw [upd_ne (fun y => np z hz y.symm)]; exact e3, r3.mono gr⟩
  · rcases slot_set e1 with ⟨rfl, q1, _⟩ | ⟨n1, q1⟩
    · rcases slot_set e2 with ⟨rfl, q2, _⟩ | ⟨n2, q2⟩
      · exact absurd rfl ne
      · exact S.dis _ _ ds es1 p1 ne hi q2 e3 e4
    · rcases slot_set e2 with ⟨rfl, q2, _⟩ | ⟨n2, q2⟩
      · exact S.dis _ _ ds1 ds p1 ne q1 hi e3 e4
      · exact S.dis j l ds1 es1 p1 ne q1 q2 e3 e4
  · exact S.hand.put mp np z e
  · by_cases y : a = q
    · exact ⟨_, by rw [y]; exact upd_same⟩
    · obtain ⟨o, e⟩ := S.live a z
      exact ⟨o, by rw [upd_ne y]; exact e⟩
  · rw [upd_ne (fun y => nf o (by rw [← y]; exact z))]
    exact S.fk b o z
/-- x.append(e), x one's own -/
theorem ws_app {x m : Str} {p1 p2 p3 : Pos} (i : Nat) (ds : List D) (hi : δ[i]? = some (Sl.own (.l ds))) (hz : ds.length < 100000) (w : WE X h e δ (fun d => P.nx (δ.set i (.own (.l (ds ++ [d]))))) (P.ex δ))
    (hpe : PE X (.Call (.Attribute (.Name x p1) m p2) [e] [] p3) (tBM X.K "list" rAppend (tVar i) (tCons (eS X e) tNil)) := by exact pe_bm PySem.F.plainAttrs_list PySem.F.slot_list_append PySem.F.type_list_append mt_append (pv _) (pa_cons peS pa_nil))
    (hs : swapsWith (.Call (.Attribute (.Name x p1) m p2) [e] [] p3) none pos.line X.env = pure false := by rfl) :
    WS X h (.Expr (.Call (.Attribute (.Name x p1) m p2) [e] [] p3) pos) δ P := .mk fun B F G M σ H D W tk S E => by
  obtain ⟨q, u, e1, mq, nq, hq, ⟨xs, eu, r⟩, nb, nf⟩ := S.own i _ hi
  subst eu
  refine sS_of (ps_expr hpe hs) ⟨_, e1, .inl ⟨rfl, xs, SqL.of hq⟩, w.run B F G M σ H _ W tk S (fun v H1 d g1 S1 r1 k => ?_) (out_of E)⟩
  have hq1 := g1 q _ nq.nl hq
  exact ⟨q, xs, v, rfl, rfl, hq1, szLt (by rw [r.length]; exact hz), E.nx M σ _ _ (S1.chg (es := .l (ds ++ [d])) hi e1 ⟨_, rfl, (r.mono (g1.gr S.hand)).append (.cons r1 .nil)⟩) k⟩
/-- a def keeps its promise by its body -/
def startD (n : Nat) (ds : List D) : List Sl := ds.map Sl.val ++ List.replicate (n - ds.length) .no
theorem startD_val {n : Nat} {ds : List D} {i : Nat} {s : Sl} (e : (startD n ds)[i]? = some s) : (∃ d, ds[i]? = some d ∧ s = .val d) ∨ s = .no := by
  unfold startD at e
  rw [List.getElem?_append] at e
  split at e
  · rename_i hl
    rw [List.getElem?_map] at e
    cases q : ds[i]? with
    | none => rw [q] at e; cases e
    | some d => rw [q] at e; exact .inl ⟨d, rfl, (Option.some.inj e).symm⟩
  · rename_i hl
    rw [List.getElem?_replicate] at e
    split at e
    · exact .inr (Option.some.inj e).symm
    · cases e
end
theorem okD {Pg : Program} {w : World} {K : PySem.W.Frag} {mg : Str → Option Value} {base : Heap} {x qual : Str} {params : Arguments} {body : List Stmt} {scope : Scope} {f : Addr} {fd : FuncData} {N ps : List Str} {k : Nat} {S : PSp}
    {dvs0 : List V} {kws0 : List (Str × V)} (Fn : FunD K x qual params body scope dvs0 kws0 f fd) (Sc : FnScope N ps scope) (len : ∀ h ds Φ Ψ, S h ds Φ Ψ → ds.length = ps.length)
    (hb : ∀ (X : Cx) (h : Option Hd) (ds : List D) (Φ : D → Prop) (Ψ : Str → List (Str × D) → Prop) (cdv : Value) (A : Around) (outer : List Env) (s : Shared) (H : Hp) (E : XK), Room k (A.deeper (envOfC qual scope s.heap.objs.size f cdv)) → S h ds Φ Ψ →
      X = cxOf (L2.CX Pg w) Pg w K mg base N qual scope f cdv A outer s H E → WB (cxOf (L2.CX Pg w) Pg w K mg base N qual scope f cdv A outer s H E) h body (startD N.length ds) { nx := fun _ => Φ .non, rt := Φ, ex := fun _ => Ψ }) :
    FnOk Pg w K mg base (L2.CX Pg w) (k + 1) f fd ps (spD K S) := by
  refine Fn.ok Sc (fun vs H Q E hp => ?_) (fun cdv A outer s H vs Q E hr hp => ⟨bS _ _, pbS, ?_⟩)
  · obtain ⟨h, B, ds, Φ, Ψ, r, _, _, _, s1, _⟩ := hp
    rw [r.length]
    exact len h ds Φ Ψ s1
  · obtain ⟨h, B, ds, Φ, Ψ, r, hand, live, law, s1, q, x0⟩ := hp
    refine (hb _ h ds Φ Ψ cdv A outer s H E hr s1 rfl).run B (fun b o => NH h b ∧ H b = some o) (fun _ _ => False) B _ H _ (fun cls d _ H' => E cls d H') (takes_of rfl rfl rfl rfl) ?_ ?_
    · have hl := r.length
      refine ⟨?_, fun i d e => ?_, fun i ds' e => ?_, fun i e => ?_, fun i C fs e => ?_, fun i j ds1 es p ne e1 => ?_, hand, live, fun b o z => z.2, fun b o z => z.1, fun _ _ z => z.elim, fun a z => z⟩
      · unfold L2.start startD
        rw [List.length_append, List.length_append, List.length_map, List.length_map, List.length_replicate, List.length_replicate, hl]
      · rcases startD_val e with ⟨d', e1, e2⟩ | e2
        · cases e2
          obtain ⟨v, hv, rv⟩ := r.get e1
          refine ⟨v, ?_, rv⟩
          unfold L2.start
          have hi : i < vs.length := (List.getElem?_eq_some_iff.mp hv).1
          rw [List.getElem?_append, if_pos (by rw [List.length_map]; exact hi), List.getElem?_map, hv]
          rfl
        · cases e2
      · rcases startD_val e with ⟨d', e1, e2⟩ | e2
        · cases e2
        · cases e2
      · rcases startD_val e with ⟨d', e1, e2⟩ | e2
        · cases e2
        · cases e2
      · rcases startD_val e with ⟨d', e1, e2⟩ | e2
        · cases e2
        · cases e2
      · rcases startD_val e1 with ⟨d', e1, e2⟩ | e2
        · cases e2
        · cases e2
    · have fin : ∀ {M : Addr → Prop} {σ : L2.St} {H' : Hp} {δ : List Sl}, SD K h B (fun b o => NH h b ∧ H b = some o) (fun _ _ => False) M H' σ δ → Gh h H H' ∧ HandOk h B H' := fun {M σ H' δ} S' => by
        exact ⟨fun b o n e => S'.fk b o ⟨n.nh law, e⟩, S'.hand.down S'.mb fun z e => (hand z e).1⟩
      refine ⟨fun M σ H' δ S' k => q .non H' .non (fin S').1 (fin S').2 .non k, fun M σ H' δ v d S' r' k => q v H' d (fin S').1 (fin S').2 (r'.wid S'.mb) k, fun M σ H' δ S' k => False.elim k, fun M σ H' δ S' k => False.elim k, fun M σ H' δ C od fs S' ed k => ?_⟩
      refine x0 C od H' fs (fin S').1 (fin S').2 ?_ k
      cases od with
      | none => exact ed
      | some d =>
        obtain ⟨n, fv, e, rf⟩ := ed
        exact ⟨fun z => n (S'.mb _ z), fv, e, rf.wid S'.mb⟩
end Ud

set_option Elab.async false
set_option linter.all false
set_option maxRecDepth 100000
set_option maxHeartbeats 4000000
namespace Ud
open PySem PySem.Spec PyProof.Rows L2 Uc
section
variable {K : PySem.W.Frag} {h : Option Hd} {B : Addr → Prop} {F : Addr → HO → Prop} {G : V → D → Prop} {M : Addr → Prop} {H H' H1 : Hp} {σ : L2.St} {δ : List Sl}
theorem SD.subF {F' : Addr → HO → Prop} {G' : V → D → Prop} (S : SD K h B F' G' M H σ δ) (w : ∀ b o, F b o → F' b o) (w2 : ∀ v d, G v d → G' v d) : SD K h B F G M H σ δ :=
  ⟨S.len, S.val, fun i ds e => by
    obtain ⟨p, xs, e1, m, n, hp, r, nb, nf⟩ := S.own i ds e
    exact ⟨p, xs, e1, m, n, hp, r, nb, fun o z => nf o (w _ _ z)⟩, S.hnd, S.slf, S.dis, S.hand, S.live, fun b o z => S.fk b o (w _ _ z), fun b o z => S.fh b o (w _ _ z), fun v d z => S.gk v d (w2 v d z), S.mb⟩
theorem SD.addF {a : Addr} {u : HO} (S : SD K h B F G M H σ δ) (n : ¬ M a) (e : H a = some u) : SD K h B (fun b o => F b o ∨ (b = a ∧ o = u)) G M H σ δ :=
  ⟨S.len, S.val, fun i ds e => by
    obtain ⟨p, xs, e1, m, n', hp, r, nb, nf⟩ := S.own i ds e
    exact ⟨p, xs, e1, m, n', hp, r, nb, fun o z => z.elim (nf o) fun y => n (by rw [← y.1]; exact m)⟩, S.hnd, S.slf, S.dis, S.hand, S.live, fun b o z => z.elim (S.fk b o) fun y => by rw [y.1, y.2]; exact e,
    fun b o z => z.elim (S.fh b o) fun y q e' w => n (by rw [← y.1, w]; exact (S.hand q e').1), S.gk, S.mb⟩
theorem SD.addG {v : V} {d : D} (S : SD K h B F G M H σ δ) (r : Rp K M H v d) : SD K h B F (fun u e => G u e ∨ (u = v ∧ e = d)) M H σ δ :=
  ⟨S.len, S.val, S.own, S.hnd, S.slf, S.dis, S.hand, S.live, S.fk, S.fh, fun u e z => z.elim (S.gk u e) fun y => by rw [y.1, y.2]; exact r, S.mb⟩
/-- a new list that is being made at p -/
theorem SD.up {p : Addr} (S : SD K h B F G M H1 σ δ) (n : H1 p = none) (g : Gh h H1 H') (k : HandOk h (fun a => M a ∨ a = p) H') (lv : ∃ o, H' p = some o) : SD K h B F G (fun a => M a ∨ a = p) H' σ δ :=
  have w : ∀ a, (M a ∨ a = p) → M a ∨ H1 a = none := fun a z => z.elim .inl fun y => .inr (by rw [y]; exact n)
  have gg : Gr (fun a => M a ∨ a = p) H1 H' := fun b o nb e => g.gr S.hand b o (fun z => nb (.inl z)) e
  have k0 : HandOk h M H' := k.down (fun a z => .inl z) fun q e => (S.hand q e).1
  ⟨S.len, fun i d e => by
    obtain ⟨v, e1, r⟩ := S.val i d e
    exact ⟨v, e1, (r.nar w).mono gg⟩, fun i ds e => by
    obtain ⟨q, xs, e1, m, nh, hp, r, nb, nf⟩ := S.own i ds e
    exact ⟨q, xs, e1, .inl m, nh, g q _ nh.nl hp, (r.nar w).mono gg, nb, nf⟩, S.hnd, fun i C fs e => by
    obtain ⟨q, hq, ql, e2, dx, fv, e3, r3⟩ := S.slf i C fs e
    exact ⟨q, hq, ql, e2, dx, fv, g _ _ (fun q' hq' l => by rw [hq] at hq'; cases hq'; rw [ql] at l; cases l) e3, (r3.nar w).mono gg⟩, S.dis, k, fun a z => z.elim (g.live S.live k0 a) fun y => by rw [y]; exact lv, fun b o z => g b o (S.fh b o z).nl (S.fk b o z), S.fh, fun v d z => ((S.gk v d z).nar w).mono gg, fun a z => .inl (S.mb a z)⟩
end
section
variable {X : Cx} {h : Option Hd} {δ : List Sl} {P : Po} {Ψ : Str → List (Str × D) → Prop} {a b c e : Expr} {es : List Expr} {pos p : Pos} {st : Stmt} {rest body orelse : List Stmt}
theorem ends_sub {B : Addr → Prop} {F F' : Addr → HO → Prop} {G G' : V → D → Prop} {D : Ends} {W : WX} (E : EndsOk X h B F G P D W) (w : ∀ b o, F b o → F' b o) (w2 : ∀ v d, G v d → G' v d) : EndsOk X h B F' G' P D W :=
  ⟨fun M σ H δ S k => E.nx M σ H δ (S.subF w w2) k, fun M σ H δ v d S r k => E.rt M σ H δ v d (S.subF w w2) r k, fun M σ H δ S k => E.bk M σ H δ (S.subF w w2) k, fun M σ H δ S k => E.ct M σ H δ (S.subF w w2) k, fun M σ H δ C od fs S x k => E.ex M σ H δ C od fs (S.subF w w2) x k⟩
/-! ### tuple(..), [..] * n -/
theorem calS_tuple : CalS X h (fun xs H Q => ∃ p ys, xs = [.ref p] ∧ ((SqL X.K H p ys ∧ ∀ l, H l = none → Q (.ref l) (upd H l (.tup ys))) ∨ (SqT X.K H p ys ∧ Q (.ref p) H))) sTuple := fun B F G M σ δ H vs ds Q Φ S r k q => by
  match ds, k with
  | [.lst xs], k =>
    obtain ⟨v, rfl, r5⟩ := rpA_one r
    obtain ⟨l, ys, rfl, n1, e1, s1⟩ := r5.lst_inv
    exact ⟨l, ys, rfl, .inl ⟨SqL.of e1, fun t ht => Ans.tup q S ht s1 k⟩⟩
  | [.tup xs], k =>
    obtain ⟨v, rfl, r5⟩ := rpA_one r
    obtain ⟨l, ys, rfl, e1, s1⟩ := r5.tup_inv
    exact ⟨l, ys, rfl, .inr ⟨e1, Ans.now q S r5 k⟩⟩
theorem we_tuple {x : Str} {Φ : D → Prop} (hx : x = "tuple") (hm : X.mg x = none) (w : WA X h (e :: es) δ (fun ds => sTuple ds Φ) Ψ) (hg : Gl X x := by rfl) (hn : x ≠ "__name__" := by decide) (hdb : (x == ("__debug__" : Str)) = false := by decide)
    (he : starEach (e :: es) X.env = (false, eval e X.env) :: starEach es X.env := by rfl) (hpl : (backTo pos (starEach es X.env)).any (·.1) = false := by rfl) : WE X h (.Call (.Name x p) (e :: es) [] pos) δ Φ Ψ :=
  we_callT call_tuple_of calS_tuple hm w (by rw [hx]; decide +kernel) hg hn hdb he hpl
theorem rpA_flat {K : PySem.W.Frag} {M : Addr → Prop} {H : Hp} {xs : List V} {ds : List D} (r : RpA K M H xs ds) : ∀ n : Nat, RpA K M H (List.replicate n xs).flatten (List.replicate n ds).flatten
  | 0 => .nil
  | n + 1 => by
    rw [List.replicate_succ, List.replicate_succ, List.flatten_cons, List.flatten_cons]
    exact r.append (rpA_flat r n)
def sRep : D → D → (D → Prop) → Prop
  | .lst xs, .int k, Φ => 0 ≤ k ∧ k ≤ 10000 ∧ xs.length ≤ 1000 ∧ Φ (.lst (List.replicate k.toNat xs).flatten)
  | _, _, _ => False
theorem opS_rep : OpS X h rRep sRep := fun B F G M σ δ H x y dx dy Q Φ S r1 r2 k q => by
    cases dx with
    | lst xs => cases dy with
      | int j =>
        obtain ⟨l, ys, rfl, n1, e1, s1⟩ := r1.lst_inv
        obtain rfl := r2.int_inv
        obtain ⟨k1, k2, k3, k⟩ := k
        refine ⟨l, j, ys, rfl, rfl, e1, by omega, by omega, ?_, fun t ht => Ans.lst q S ht (rpA_flat s1 _) k⟩
        have z := s1.length
        have z2 : ys.length * j.toNat ≤ 1000 * 10000 := Nat.mul_le_mul (by omega) (by omega)
        exact Nat.le_trans z2 (by decide)
      | _ => exact False.elim k
    | _ => cases dy <;> exact False.elim k

/-! ### several names at once -/
inductive NamesAt (X : Cx) : List Expr → List Nat → Prop
  | nil : NamesAt X [] []
  | cons {x : Str} {p : Pos} {es : List Expr} {i : Nat} {is : List Nat} (hi : X.N[i]? = some x) (hx : Loc X.env.scope x) (hf : X.fn x = true ∨ X.env.scope.names.lookup x = some .local) (t : NamesAt X es is) : NamesAt X (.Name x p :: es) (i :: is)
def gNames : List Nat → TGs
  | [] => gNil
  | i :: is => gCons (gName i) (gNames is)
theorem pgs_names (hN : X.N.Nodup) : ∀ {es : List Expr} {is : List Nat}, NamesAt X es is → PGs X es (gNames is)
  | _, _, .nil => pgs_nil
  | _, _, .cons hi hx hf t => pgs_cons (pg_name hN hi hx hf) (pgs_names hN t)
def setAll : List Sl → List Nat → List D → List Sl
  | δ, i :: is, d :: ds => setAll (δ.set i (.val d)) is ds
  | δ, _, _ => δ
theorem setAll_ok {K : PySem.W.Frag} {B : Addr → Prop} {F : Addr → HO → Prop} {G : V → D → Prop} {M : Addr → Prop} {H : Hp} {R : L2.St → Hp → Prop} : ∀ {is : List Nat} {vs : List V} {ds : List D} {σ : L2.St} {δ : List Sl}, SD K h B F G M H σ δ → RpA K M H vs ds → vs.length = is.length →
    (∀ σ', SD K h B F G M H σ' (setAll δ is ds) → R σ' H) → gNames is vs σ H R
  | [], _, _, σ, δ, S, .nil, _, k => ⟨rfl, k σ S⟩
  | [], _, _, σ, δ, S, .cons _ _, e, k => by cases e
  | i :: is, _, _, σ, δ, S, .nil, e, k => by cases e
  | i :: is, _, _, σ, δ, S, .cons r t, e, k => ⟨_, _, rfl, setAll_ok (S.setV i r) t (by simpa using e) k⟩
/-- a, b, .. = a tuple -/
theorem ws_unp {es : List Expr} {kt : Nat} {pt : Pos} (is : List Nat) (hN : X.N.Nodup) (na : NamesAt X es is) (w : WE X h e δ (fun d => ∃ ds, d = .tup ds ∧ ds.length = is.length ∧ P.nx (setAll δ is ds)) (P.ex δ)) (hn : (assignEach es X.env).length = is.length := by rfl)
    (hst : (assignEach es X.env).findIdx? (·.1) = none := by rfl) (hc : X.calm = true := by rfl) (hs : swapsWithSole [.Tuple es kt pt] e pos.line X.env = pure false := by rfl) (hw : swappedStores [.Tuple es kt pt] e X.env = pure none := by rfl)
    (h1 : (assignEach [.Tuple es kt pt] X.env).map (·.2) = [assign (.Tuple es kt pt) X.env] := by rfl) : WS X h (.Assign [.Tuple es kt pt] e pos) δ P := .mk fun B F G M σ H D W tk S E =>
  sS_of (ps_asg peS (pg_tup (n := is.length) hc (pgs_names hN na) hn hst) hs hw h1) (w.run B F G M σ H _ W tk S (fun v H1 d g1 S1 r1 ⟨ds, e1, hl, k⟩ => by
    subst e1
    obtain ⟨t, vs, rfl, ht, rv⟩ := r1.tup_inv
    exact ⟨t, vs, rfl, ht, by rw [rv.length, hl], setAll_ok S1 rv (by rw [rv.length, hl]) fun σ' S' => E.nx M σ' H1 _ S' k⟩) (out_of E))
/-- a, b, c = x, y, z -/
theorem ws_par3 {x y z : Str} {px py pz pt : Pos} {kt k2 : Nat} {pt2 : Pos} (i j l : Nat) (hN : X.N.Nodup) (w : WA X h [a, b, c] δ (fun ds => ∃ d1 d2 d3, ds = [d1, d2, d3] ∧ P.nx (((δ.set i (.val d1)).set j (.val d2)).set l (.val d3))) (P.ex δ))
    (hw : swappedStores [.Tuple [.Name x px, .Name y py, .Name z pz] kt pt] (.Tuple [a, b, c] k2 pt2) X.env = pure (some [x, y, z])) (hij : i ≠ j := by decide) (hil : i ≠ l := by decide) (hjl : j ≠ l := by decide) (hi : X.N[i]? = some x := by rfl) (hj : X.N[j]? = some y := by rfl) (hl : X.N[l]? = some z := by rfl) (hc : X.calm = true := by rfl)
    (hx : X.env.scope.names.lookup x = some .local := by rfl) (hy : X.env.scope.names.lookup y = some .local := by rfl) (hz : X.env.scope.names.lookup z = some .local := by rfl)
    (hs : swapsWithSole [.Tuple [.Name x px, .Name y py, .Name z pz] kt pt] (.Tuple [a, b, c] k2 pt2) pos.line X.env = pure false := by rfl) :
    WS X h (.Assign [.Tuple [.Name x px, .Name y py, .Name z pz] kt pt] (.Tuple [a, b, c] k2 pt2) pos) δ P := .mk fun B F G M σ H D W tk S E =>
  sS_of (ps_par3 hc hN hi hj hl hij hil hjl hx hy hz paS hw hs) (w.run B F G M σ H _ W tk S (fun vs H1 ds g1 S1 r1 ⟨d1, d2, d3, e1, k⟩ => by
    subst e1
    cases r1 with
    | cons r1 t1 => cases t1 with
      | cons r2 t2 =>
        obtain ⟨v3, rfl, r3⟩ := rpA_one t2
        exact ⟨_, _, _, rfl, E.nx M _ H1 _ (((S1.setV i r1).setV j r2).setV l r3) k⟩) (out_of E))
end
end Ud

set_option Elab.async false
set_option linter.all false
set_option maxRecDepth 100000
set_option maxHeartbeats 4000000
namespace Ud
open PySem PySem.Spec PyProof.Rows L2 Uc
/-! ### try: .. except X0 ..: (never taken) except X as n: suite -/
def wAs2 (K : PySem.W.Frag) (c0 c : Value) (i : Nat) (ts : Addr → Value → Option Addr → TS) (D : Ends) : WX := fun cls d σ H =>
  PySem.W.exmOne K cls c0 = some false ∧ wAs K c i ts (fun _ _ _ _ => False) D cls d σ H
section
variable {X : Cx} {x x0 n : Str} {c c0 : Value} {i : Nat} {body suite su0 : List Stmt} {b₀ : Stmt} {nm0 : Option Str} {np np0 pos pos' pos0 : Pos} {tb : WX → TS} {ts : Addr → Value → Option Addr → TS}
theorem ps_try_as2 (h1 : X.stack = X.env :: X.outer) (h2 : X.env.frame = some X.env.locals) (hN : X.N.Nodup) (hi : X.N[i]? = some n) (hk : X.env.kindOf n = some .local) (hc : Names X x c) (hc0 : Names X x0 c0)
    (hb : ∀ (W : WX) (pn : List (Addr × Obj)) (xe : Value → Shared → Prop), Takes (X.tr pn xe) W → PassesOwn (model X.prog X.w) X.A X.env xe → PSs (X.tr pn xe) body (tb W))
    (hS : ∀ (a : Addr) (oe : Obj) (cls : Value) (d : Option Addr) (pn : List (Addr × Obj)), Zc cls d oe → (∃ vs, oe.data = .fields vs) → PSs (X.suite a ((a, oe) :: pn)) (b₀ :: suite) (ts a cls d)) :
    PS X (.Try body [.ExceptHandler (some (.Name x0 np0)) nm0 su0 pos0, .ExceptHandler (some (.Name x np)) (some n) (b₀ :: suite) pos'] [] [] pos) (fun D σ H => tb (wAs2 X.K c0 c i ts D) D σ H) := by
  refine ⟨fun pins s σ H D I hh => ?_⟩
  have okX := I.ok
  have frm : X.A.frames = some (X.env :: X.outer) := by
    rw [okX.frames, h1]
  refine wpAny_Try_except ?_
  have run := (hb (wAs2 X.K c0 c i ts D) (X.pn ++ pins) (fun e s₁ => wpAny (model X.prog X.w) X.A (noteFrame e X.env) (fun _ s₂ => wpAny (model X.prog X.w) X.A (setFlight e none) (fun _ s₃ =>
      wpAny (model X.prog X.w) X.A (handleBy e X.env [.ExceptHandler (some (.Name x0 np0)) nm0 su0 pos0, .ExceptHandler (some (.Name x np)) (some n) (b₀ :: suite) pos']) (SP X pins D) X.xe s₃) X.xe s₂) X.xe s₁) ?_ PassesOwn.looking).run [] s σ H D (I.toTry _) hh
  · refine wpAny_mono run (fun f s1 z => ?_) (fun e s1 z => z)
    cases f with
    | next =>
      obtain ⟨σ2, H2, J, q⟩ := z
      exact wpAny_execs_nil ⟨σ2, H2, J.ofTry okX, q⟩
    | brk => obtain ⟨σ2, H2, J, q⟩ := z; exact ⟨σ2, H2, J.ofTry okX, q⟩
    | cont => obtain ⟨σ2, H2, J, q⟩ := z; exact ⟨σ2, H2, J.ofTry okX, q⟩
    | ret u => obtain ⟨v, σ2, H2, J, r, q⟩ := z; exact ⟨v, σ2, H2, J.ofTry okX, r, q⟩
  · intro u s9 air
    obtain ⟨a, B, sI, pn2, σ2, H2, cls, d, rfl, J0, nb, up, sky, na, os, ag, hno0, b, hb1, yes, no⟩ := air
    have J : Inv X pins σ2 H2 sI := J0.ofTry okX
    have sky2 : Sky B (X.env :: X.outer) a (Zc cls d) X.env.locals s9.heap := by
      rw [← h1]
      exact sky
    show wpAny (model X.prog X.w) X.A (noteFrame (.ref a) X.env) _ _ _
    refine Sky.land Zc.steady frm h2 sky2 fun g3 fl3 up3 => ?_
    have J3 : Inv X pins σ2 H2 { s9 with heap := g3 } := J.landed nb fl3.1 (up.trans up3) os ag
    obtain ⟨o3, v3, e3, z3, d3⟩ := fl3.there
    have nfr : a ∉ frs (X.env :: X.outer) := fun hm => by
      obtain ⟨_, o', e', hnf⟩ := fl3.2.2.1.mem hm
      rw [e3] at e'
      cases e'
      exact hnf _ d3
    have nL : a ≠ X.env.locals := fun z => nfr (List.mem_filterMap.mpr ⟨X.env, List.mem_cons_self, by rw [h2, z]⟩)
    have nF : a ∉ X.fs := fun hm => by
      obtain ⟨e, he, q⟩ := List.mem_filterMap.mp hm
      exact nfr (List.mem_filterMap.mpr ⟨e, List.mem_cons_of_mem _ he, q⟩)
    have S3 := J3.suite e3 d3 na nL nF
    have look : ∀ {y : Str} {cv : Value} {py : Pos} {Q E : Value → Shared → Prop}, Names X y cv → Q cv { s9 with heap := g3 } → wpAny (model X.prog X.w) (X.A.mark (some (.ref a))) (eval (.Name y py) X.env) Q E { s9 with heap := g3 } := fun {y cv py Q E} hy q => by
      obtain ⟨hg, hdbg, hm | ⟨hm, hv, hnn⟩⟩ := hy
      · exact ld_glob (X := X.suite a ((a, o3) :: (X.pn ++ pins))) S3 hg hm q hdbg
      · exact ld_blt (X := X.suite a ((a, o3) :: (X.pn ++ pins))) S3 hg hm hv q hnn hdbg
    have LT : PySem.W.Looks (model X.prog X.w) g3 (typeOf (.ref a)) cls := fun A Q E s k q => wpAny_typeOf_ref (k _ _ e3) (by rw [z3.1]; exact q)
    have M0 := PySem.W.exm_one (M := model X.prog X.w) J3.kIn LT hno0
    have M1 := PySem.W.exm_one (M := model X.prog X.w) J3.kIn LT hb1
    -- the first clause: not taken
    refine wpAny_handleBy_cons (codeAny_handlers_test ?_) (by intro q; cases q)
    refine look hc0 (M0.here ?_)
    show wpAny _ X.A (handleBy (.ref a) X.env [.ExceptHandler (some (.Name x np)) (some n) (b₀ :: suite) pos']) _ _ _
    refine wpAny_handleBy_cons (codeAny_handlers_test ?_) (by intro q; cases q)
    refine look hc (M1.here ?_)
    cases b with
    | false => exact (no rfl).elim
    | true =>
      refine codeAny_handlers_suite_as ?_
      refine HandSPX.lands_againZ fl3 fun g4 fl4 up4 => ?_
      have J4 : Inv X pins σ2 H2 { s9 with heap := g4 } := J.landed nb fl4.1 ((up.trans up3).trans up4) os ag
      obtain ⟨o4, v4, e4, z4, d4⟩ := fl4.there
      refine store_ok (X := X.suite a ((a, o4) :: (X.pn ++ pins))) (v := .ref a) (J4.suite e4 d4 na nL nF) hN hi (.inl hk) rfl (fun s5 S5 => ?_) (.inr hk)
      have fin : ∀ {σ6 : L2.St} {H6 : Hp} {Q : Shared → Prop} {s6 : Shared}, Inv (X.suite a ((a, o4) :: (X.pn ++ pins))) [] σ6 H6 s6 → (∀ s7, Inv X pins (σ6.set i none) H6 s7 → Q s7) →
          wpAny (model X.prog X.w) X.A (do bindName X.env n .none; unbindBehindTheSuite X.env n pos') (fun _ s7 => Q s7) X.xe s6 := fun {σ6 H6 Q s6} S6 q => gone_ok (S6.unsuite okX) hN hi hk q
      refine wpAny_mono ((hS a o4 cls d (X.pn ++ pins) z4 ⟨_, d4⟩).run [] s5 _ H2 _ S5 (yes rfl a na)) (fun f s6 z => ?_) (fun _ _ z => False.elim z)
      cases f with
      | next => obtain ⟨σ6, H6, S6, q⟩ := z; exact fin S6 fun s7 J7 => ⟨_, _, J7, q⟩
      | brk => obtain ⟨σ6, H6, S6, q⟩ := z; exact fin S6 fun s7 J7 => ⟨_, _, J7, q⟩
      | cont => obtain ⟨σ6, H6, S6, q⟩ := z; exact fin S6 fun s7 J7 => ⟨_, _, J7, q⟩
      | ret u => obtain ⟨v6, σ6, H6, S6, r6, q⟩ := z; exact fin S6 fun s7 J7 => ⟨_, _, _, J7, r6, q⟩
end
section
variable {X : Cx} {h : Option Hd} {δ : List Sl} {P : Po} {a b c e : Expr} {es : List Expr} {pos p : Pos}
/-- the suite, for an error of the class at C with these fields -/
def Hnd (X : Cx) (h : Option Hd) (bs : List Stmt) (i : Nat) (P : Po) (δ' : List Sl) (C : Str) (fs : List (Str × D)) : Prop :=
  ∀ (a : Addr) (oe : Obj) (od : Option Addr) (pn : List (Addr × Obj)), Zc (.ref (He.ga X.K C)) od oe → (∃ vs, oe.data = .fields vs) →
    WB (X.suite a ((a, oe) :: pn)) h bs (δ'.set i (.val (.held a C od fs))) ⟨fun δ2 => P.nx (δ2.set i .no), P.rt, fun δ2 => P.bk (δ2.set i .no), fun δ2 => P.ct (δ2.set i .no), fun _ _ _ => False⟩
/-- try: .. except X0 (not taken) .. except X as n: suite (taken for what the body raises) -/
theorem ws_try2 {x x0 n : Str} {c c0 : Value} {body suite su0 : List Stmt} {b₀ : Stmt} {nm0 : Option Str} {np np0 pos' pos0 : Pos} (i : Nat) (hN : X.N.Nodup) (hc : Names X x c) (hc0 : Names X x0 c0)
    (w : ∀ (pn : List (Addr × Obj)) (xe : Value → Shared → Prop), PassesOwn (model X.prog X.w) X.A X.env xe → WB (X.tr pn xe) h body δ ⟨P.nx, P.rt, P.bk, P.ct, fun δ' C fs => PySem.W.exmOne X.K (.ref (He.ga X.K C)) c0 = some false ∧ PySem.W.exmOne X.K (.ref (He.ga X.K C)) c = some true ∧ Hnd X h (b₀ :: suite) i P δ' C fs⟩)
    (h1 : X.stack = X.env :: X.outer := by rfl) (h2 : X.env.frame = some X.env.locals := by rfl) (hi : X.N[i]? = some n := by rfl) (hk : X.env.kindOf n = some .local := by rfl) :
    WS X h (.Try body [.ExceptHandler (some (.Name x0 np0)) nm0 su0 pos0, .ExceptHandler (some (.Name x np)) (some n) (b₀ :: suite) pos'] [] [] pos) δ P := .mk fun B F G M σ H D W tk S E => by
  let ts : Addr → Value → Option Addr → TS := fun a cls od D σ H => ∀ (oe : Obj) (pn : List (Addr × Obj)), Zc cls od oe → (∃ vs, oe.data = .fields vs) → bS (X.suite a ((a, oe) :: pn)) (b₀ :: suite) D σ H
  let tb : WX → TS := fun W D σ H => ∀ (pn : List (Addr × Obj)) (xe : Value → Shared → Prop), Takes (X.tr pn xe) W → PassesOwn (model X.prog X.w) X.A X.env xe → bS (X.tr pn xe) body D σ H
  refine sS_of (ps_try_as2 (tb := tb) (ts := ts) h1 h2 hN hi hk hc hc0 (fun W pn xe t po => ⟨fun pins s σ H D I hh => hh pn xe t po pins s I⟩) (fun a oe cls d pn z f => ⟨fun pins s σ H D I hh => hh oe pn z f pins s I⟩)) ?_
  intro pn xe t po
  refine (w pn xe po).run B F G M σ H D _ t S ⟨E.nx, E.rt, E.bk, E.ct, fun M2 σ2 H2 δ2 C od fs S2 ed ⟨k0, k1, k2⟩ => ⟨k0, true, k1, fun _ a ha => ?_, fun z => nomatch z⟩⟩
  intro oe pn2 zc zf
  have held : Rp X.K M2 H2 (.ref a) (.held a C od fs) := by
    cases od with
    | none => cases (show fs = [] from ed); exact .held0 a C
    | some d => obtain ⟨n, fv, e, r⟩ := ed; exact .held n e r
  refine (k2 a oe od pn2 zc zf).run B F G M2 _ H2 _ (fun _ _ _ _ => False) takes0 (S2.setV i held) ⟨fun M3 σ3 H3 δ3 S3 k3 => E.nx M3 _ H3 _ (S3.setN i) k3, fun M3 σ3 H3 δ3 v d S3 r3 k3 => E.rt M3 _ H3 δ3 v d S3 r3 k3, fun M3 σ3 H3 δ3 S3 k3 => E.bk M3 _ H3 _ (S3.setN i) k3, fun M3 σ3 H3 δ3 S3 k3 => E.ct M3 _ H3 _ (S3.setN i) k3, fun _ _ _ _ _ _ _ _ _ z => z⟩
/-- raise C(e, ..) -/
theorem ws_raise {x C : Str} {fI : Addr} {k : Nat} {fd : FuncData} {ps : List Str} {ns : List Str} {p2 : Pos} (ec : EC X.K (He.ga X.K C)) (iC : PySem.W.findIn X.K (.ref (He.ga X.K C)) "__init__" = some (some (.ref fI))) (tI : PySem.W.typeIn X.K (.ref fI) = some (.type "function"))
    (Fn : FnOk X.prog X.w X.K X.mg X.base (L2.CX X.prog X.w) k fI fd ps (spIni X.K ns)) (hr : Room (k + 1) X.A) (hb : Binds X.K fd ps []) (hm : X.mg x = some (.ref (He.ga X.K C))) (hf : ∀ f ∈ ns, PySem.W.findIn X.K (.ref (He.ga X.K C)) f = some none)
    (w : WA X h (e :: es) δ (fun ds => ds.length = ns.length ∧ ds.length ≤ 1000 ∧ P.ex δ C (ns.zip ds).reverse) (P.ex δ)) (hc : X.calm = true := by rfl) (hg : Gl X x := by rfl) (hdb : (x == ("__debug__" : Str)) = false := by decide)
    (he : starEach (e :: es) X.env = (false, eval e X.env) :: starEach es X.env := by rfl) (hpl : (backTo pos (starEach es X.env)).any (·.1) = false := by rfl) :
    WS X h (.Raise (some (.Call (.Name x p) (e :: es) [] pos)) none p2) δ P := .mk fun B F0 G M σ H D W tk S0 E => by
  refine sS_of (ps_raise hc tk (pmk_oex (dvs := []) ec.ox iC tI Fn hr hb .nil passL hg hm paS hdb he hpl)) (w.run B F0 G M σ H _ W tk S0 (fun vs H1 ds g1 S1 r1 ⟨h1, h2, kk⟩ => ?_) (out_of E))
  have hl := r1.length
  refine ⟨by omega, fun a ha => ?_⟩
  rw [List.append_nil]
  refine ⟨a, _, vs, rfl, by omega, ec.ox, hf, upd_same, fun d fv H' hd hda kp hx efv => ⟨rfl, ?_⟩⟩
  have hd1 : H1 d = none := by rw [upd_ne hda] at hd; exact hd
  cases hx with
  | full hx1 hx2 =>
    subst efv
    refine ⟨d, _, hx1, hx2, hd1, ?_⟩
    have all : ∀ b o, H1 b = some o → (upd (L2.del H' a) d (.xd (ns.zip vs).reverse)) b = some o := fun b o z => by
      rw [upd_ne (ne_of_none z hd1), L2.del_ne (ne_of_none z ha)]
      exact kp b o (ne_of_none z ha) (by rw [upd_ne (ne_of_none z ha)]; exact z)
    have r1' := r1.mono (Gh.gr S1.hand (Gh.all (h := h) all))
    exact E.ex M σ _ δ C (some d) _ (S1.all all) ⟨S1.live.new hd1, _, upd_same, rpF_rev (rpF_zip r1')⟩ kk
/-- raise C() -/
theorem ws_raise0 {x C : Str} {p2 : Pos} (ec : EC X.K (He.ga X.K C)) (q0 : PySem.W.excIn X.K (He.ga X.K C) He.veBase "ValueError.__new__" = true) (hm : X.mg x = some (.ref (He.ga X.K C))) (kk : P.ex δ C []) (hc : X.calm = true := by rfl) (hg : Gl X x := by rfl) (hdb : (x == ("__debug__" : Str)) = false := by decide) :
    WS X h (.Raise (some (.Call (.Name x p) [] [] pos)) none p2) δ P := .mk fun B F0 G M σ H D W tk S0 E => by
  refine sS_of (ps_raise hc tk (e := .Call (.Name x p) [] [] pos) (t := fun _ H Q => Q (.ref (He.ga X.K C)) none H) ?_) (E.ex M σ H δ C none [] S0 rfl kk)
  intro pins s σ H Q I hh
  refine wpAny_Call_Name_kw (ld_glob I hg hm ?_ hdb)
  refine PySem.W.callWith_K0 I.kIn ec.ox.kC ?_
  obtain ⟨hp, g, dr, tk, os⟩ := s
  obtain ⟨bm, N, nm, qn, bs, hdct, sn, sub, ab, col, dd, k0, k1, k2, k3, k5, mN, hC, hN, hni, T⟩ := exc_obj I.kIn q0
  refine wpAny_call_exc_subT PySem.F.excBase_ValueError T hC hN hni (fun h' a hm' => ?_) (Nat.zero_le _)
  exact mk_of I hm' (raises_own ec.ox.exC ec.ox.tyC) hh (I.hok.gone hm'.new)
/-- e.f, e the error that the suite holds -/
theorem we_held {a : Addr} {oe : Obj} {pn : List (Addr × Obj)} {C : Str} {od : Option Addr} {fs : List (Str × D)} {n f : Str} {dv : D} {Φ : D → Prop} {Ψ : Str → List (Str × D) → Prop} {pa pb : Pos} (i : Nat) (ec : EC X.K (He.ga X.K C)) (hno : PySem.W.findIn X.K (.ref (He.ga X.K C)) f = some none) (hz : Zc (.ref (He.ga X.K C)) od oe) (hfv : ∃ vs, oe.data = .fields vs)
    (hd : δ[i]? = some (.val (.held a C od fs))) (hl : fs.lookup f = some dv) (k : Φ dv) (hN : X.N[i]? = some n := by rfl) (hv : Vis X.env.scope n := by first | exact Or.inl rfl | exact Or.inr (Or.inl rfl) | exact Or.inr (Or.inr rfl))
    (h1 : (n == ("__debug__" : Str)) = false := by decide) (h2 : (n == ("__classdict__" : Str)) = false := by decide) (hb : attributeBase (.Name n pa) f X.env (eval (.Name n pa) X.env) = eval (.Name n pa) X.env := by rfl) :
    WE (X.suite a ((a, oe) :: pn)) h (.Attribute (.Name n pa) f pb) δ Φ Ψ := .mk fun B F G M σ H Q W tk S q x0 => by
  obtain ⟨v, e, r⟩ := S.val i _ hd
  cases r with
  | held0 => cases hl
  | held nm e2 rf =>
    obtain ⟨u, hu, ru⟩ := rf.look hl
    exact eS_of (pe_xf ec.xf hno hz hfv (pe_var (X := X.suite a ((a, oe) :: pn)) hN hv h1 h2) hb) ⟨_, e, rfl, rfl, _, _, u, rfl, e2, hu, Ans.now q S ru k⟩
/-- isinstance(e, c), e the error that the suite holds -/
def rIsH (K : PySem.W.Frag) (a C : Addr) (od : Option Addr) : List V → Hp → VK → Prop := fun xs H Q => ∃ (c : V) (cv : Value) (b : Bool), xs = [.ref a, c] ∧ ClsV c cv ∧ (∀ d, od = some d → ∃ fv, H d = some (.xd fv)) ∧ PySem.W.kitOne K (.ref C) cv = some b ∧ Q (.bl b) H
theorem call_isH {X : Cx} {a C : Addr} {od : Option Addr} {oe : Obj} {pn : List (Addr × Obj)} (ec : EC X.K C) (hz : Zc (.ref C) od oe) (hf : ∃ vs, oe.data = .fields vs) : CallR (X.suite a ((a, oe) :: pn)) (.builtin "isinstance") (rIsH X.K a C od) := by
  intro pins s σ H xs us Q I r hh
  obtain ⟨c, cv, b, rfl, hc, hd, e, q⟩ := hh
  obtain ⟨u1, u2, rfl, r1, r2⟩ := vals2 r
  have e2 := hc.eq r2
  subst e2
  obtain rfl : u1 = Value.ref a := r1
  obtain ⟨hget, _⟩ := I.pin (a, oe) (List.mem_append.mpr (.inl List.mem_cons_self))
  obtain ⟨vs, hv⟩ := hf
  have nc : PySem.W.notCls oe = true := by
    unfold PySem.W.notCls
    rw [hv]
  have J : ∃ oD, PySem.W.InstAt s.heap a oe C oD := by
    cases od with
    | none => exact ⟨none, hget, hz.1, nc, by rw [hz.2]; trivial⟩
    | some d =>
      obtain ⟨fv, ed⟩ := hd d rfl
      obtain ⟨mA, hns, _⟩ := (show ObjOk X.prog X.w H s.heap d (.xd fv) from I.hok d _ ed)
      obtain ⟨oD, ho, _⟩ := lookIn_ns hns
      exact ⟨some oD, hget, hz.1, nc, by rw [hz.2]; exact ho⟩
  obtain ⟨oD, J⟩ := J
  exact PySem.W.kia_one (PySem.W.kitx_exc ec.cl ec.xf.ga ec.xf.gg ec.xf.exC ec.at_ ec.sp ec.tk ec.mo) I.kIn J e (fun z => nomatch z) fun tk => ⟨.bl b, H, I.tok tk, rfl, q⟩
end
end Ud

set_option Elab.async false
set_option linter.all false
set_option maxRecDepth 100000
set_option maxHeartbeats 4000000
namespace Ud
open PySem PySem.Spec PyProof.Rows L2 Uc
section
variable {X : Cx} {h : Option Hd} {δ : List Sl} {Φ : D → Prop} {Ψ : Str → List (Str × D) → Prop} {es : List Expr}
theorem sI_go {C : Int → Int → Prop} {g : Int → Int → D} {i j : Int} (hc : C i j) (k : Φ (g i j)) : sI C g (.int i) (.int j) Φ := ⟨hc, k⟩
theorem sAdd_int {i j : Int} (k : Φ (.int (i + j))) : sAdd (.int i) (.int j) Φ := k
theorem sAdd_str {i j : Str} (hl : i.length + j.length ≤ sizeLine) (k : Φ (.str (i ++ j))) : sAdd (.str i) (.str j) Φ := ⟨hl, k⟩
theorem sAdd_lst {i j : List D} (hl : i.length + j.length ≤ 100000) (k : Φ (.lst (i ++ j))) : sAdd (.lst i) (.lst j) Φ := ⟨hl, k⟩
theorem sInt_int {i : Int} (k : Φ (.int i)) : sInt [.int i] Φ := k
theorem sLen_lst {i : List D} (k : Φ (.int i.length)) : sLen [.lst i] Φ := k
theorem sLen_tup {i : List D} (k : Φ (.int i.length)) : sLen [.tup i] Φ := k
theorem sIx_lst {xs : List D} {i : Int} {d : D} (e : atI xs i = some d) (k : Φ d) : sIx (.lst xs) (.int i) Φ := ⟨d, e, k⟩
theorem sIx_tup {xs : List D} {i : Int} {d : D} (e : atI xs i = some d) (k : Φ d) : sIx (.tup xs) (.int i) Φ := ⟨d, e, k⟩
theorem sIx_str {z : Str} {i : Int} {c : Nat} (hl : z.length ≤ sizeLine) (e : atI z.cps.toList i = some c) (k : Φ (.str ⟨#[c]⟩)) : sIx (.str z) (.int i) Φ := ⟨c, hl, e, k⟩
theorem cmulR {i j : Int} (h1 : -(2 ^ 64) < j) (h2 : j < 2 ^ 64) : CMul i j := .inr ⟨h1, h2⟩
theorem cmulL {i j : Int} (h1 : -(2 ^ 64) < i) (h2 : i < 2 ^ 64) : CMul i j := .inl ⟨h1, h2⟩
theorem posI {j : Int} (h : 0 < j) : (0 : Int) < j := h
theorem cdivW {i j : Int} (h0 : 0 < j) (h1 : j < 2 ^ 64) : CDivW i j := wide_div h0 (b := 64) (by omega) (by decide) (by decide)
theorem cpow {i j : Int} (h0 : 0 ≤ j) (h1 : j ≤ 1000000) (h2 : i.natAbs < 2 ^ 64) : CPow i j := ⟨h0, h1, h2⟩
end
end Ud

set_option Elab.async false
set_option linter.all false
set_option maxRecDepth 100000
set_option maxHeartbeats 4000000
namespace Ud
open PySem PySem.Spec PyProof.Rows L2 Uc
section
variable {X : Cx} {h : Option Hd} {δ : List Sl} {P : Po} {Φ : D → Prop} {Ψ : Str → List (Str × D) → Prop} {a b c e : Expr} {es : List Expr} {pos p : Pos} {st : Stmt} {rest body orelse : List Stmt}
/-- abs -/
def sAbs : List D → (D → Prop) → Prop
  | [.int i], Φ => Φ (.int (if i < 0 then -i else i))
  | _, _ => False
theorem calS_abs : CalS X h (fun xs H Q => ∃ i, xs = [.int i] ∧ Q (.int (if i < 0 then -i else i)) H) sAbs := fun B F G M σ δ H vs ds Q Φ S r k q => by
  match ds, k with
  | [.int i], k =>
    obtain ⟨v, rfl, r5⟩ := rpA_one r
    obtain rfl := r5.int_inv
    exact ⟨i, rfl, Ans.now q S (.int _) k⟩
theorem we_abs {x : Str} (hx : x = "abs") (hm : X.mg x = none) (w : WA X h (e :: es) δ (fun ds => sAbs ds Φ) Ψ) (hg : Gl X x := by rfl) (hn : x ≠ "__name__" := by decide) (hdb : (x == ("__debug__" : Str)) = false := by decide)
    (he : starEach (e :: es) X.env = (false, eval e X.env) :: starEach es X.env := by rfl) (hpl : (backTo pos (starEach es X.env)).any (·.1) = false := by rfl) : WE X h (.Call (.Name x p) (e :: es) [] pos) δ Φ Ψ :=
  we_callB call_abs calS_abs hm w (by rw [hx]; decide +kernel) hg hn hdb he hpl
theorem sAbs_int {i : Int} (k : Φ (.int (if i < 0 then -i else i))) : sAbs [.int i] Φ := k
/-! ### the hand comes -/
/-- the law's hand: its list at p, its cells at l -/
def lawHd (p l : Addr) (cs : List Int) : Hd where
  p := p
  law := true
  I := fun o => ∃ i rest tot : Int, o = .lst [.ref l, .int i, .int rest, .int tot] ∧ 0 ≤ i
  J := fun b o => b = l ∧ o = .lst (cs.map V.int)
/-- what `_law_hand` promises: a new hand -/
def spHand (K : PySem.W.Frag) (mk : Addr → Addr → List Int → Hd) : Sp := fun vs H Q _ => ∃ (M : Addr → Prop) (is : List Int), RpA K M H vs [.zlst (is.map D.int)] ∧ is.length ≤ 90000 ∧
  ∀ (p l : Addr) (cs : List Int) (H' : Hp), H p = none → H l = none → p ≠ l → (∃ o, H' p = some o ∧ (mk p l cs).I o) → (∀ b o, (mk p l cs).J b o → b = l ∧ H' b = some o) → (∀ b o, H b = some o → H' b = some o) → Q (.ref p) H'
theorem SD.hndN {K : PySem.W.Frag} {B : Addr → Prop} {F : Addr → HO → Prop} {G : V → D → Prop} {M : Addr → Prop} {H H' : Hp} {σ : L2.St} {q : Hd} {l : Addr} (S : SD K none B F G M H σ δ) (n1 : H q.p = none) (n2 : H l = none) (ne : q.p ≠ l)
    (e1 : ∃ o, H' q.p = some o ∧ q.I o) (e2 : ∀ b o, q.J b o → b = l ∧ H' b = some o) (kp : ∀ b o, H b = some o → H' b = some o) : SD K (some q) B F G (fun a => M a ∨ a = q.p) H' σ δ :=
  have w : ∀ a, (M a ∨ a = q.p) → M a ∨ H a = none := fun a z => z.elim .inl fun y => .inr (by rw [y]; exact n1)
  have gg : Gr (fun a => M a ∨ a = q.p) H H' := fun b o nb e => kp b o e
  {
  len := S.len
  val := fun i d e => by
    obtain ⟨v, e1, r⟩ := S.val i d e
    exact ⟨v, e1, (r.nar w).mono gg⟩
  own := fun i ds e => by
    obtain ⟨p, xs, e1, mp, np, hp, r, z⟩ := S.own i ds e
    exact ⟨p, xs, e1, .inl mp, fun z y => by cases y; exact ne_of_none hp n1, kp _ _ hp, (r.nar w).mono gg, z⟩
  hnd := fun i e => by
    obtain ⟨z, hz, _⟩ := S.hnd i e
    cases hz
  slf := fun i C fs e => by
    obtain ⟨z, hz, _⟩ := S.slf i C fs e
    cases hz
  dis := S.dis
  hand := fun z y => by
    cases y
    exact ⟨.inr rfl, e1, fun b o z => ⟨(e2 b o z).2, fun y => by
      obtain ⟨rfl, _⟩ := e2 b o z
      exact y.elim (S.live.new n2) fun z => ne z.symm⟩⟩
  live := fun a z => z.elim (fun y => let ⟨o, e⟩ := S.live a y; ⟨o, kp _ _ e⟩) fun y => by rw [y]; exact let ⟨o, e, _⟩ := e1; ⟨o, e⟩
  fk := fun b o e => kp b o (S.fk b o e)
  fh := fun b o e z y => by cases y; exact ne_of_none (S.fk b o e) n1
  gk := fun v d z => ((S.gk v d z).nar w).mono gg
  mb := fun a z => .inl (S.mb a z) }
/-- all slots forgotten -/
def forget (δ : List Sl) : List Sl := δ.map fun _ => Sl.no
theorem forget_no {δ : List Sl} {i : Nat} {s : Sl} (e : (forget δ)[i]? = some s) : s = .no := by
  unfold forget at e
  rw [List.getElem?_map] at e
  obtain ⟨_, _, e⟩ := Option.map_eq_some_iff.mp e
  exact e.symm
theorem SD.noh {K : PySem.W.Frag} {B : Addr → Prop} {F : Addr → HO → Prop} {G : V → D → Prop} {M : Addr → Prop} {H : Hp} {σ : L2.St} (S : SD K h B F G M H σ δ) : SD K none B F G M H σ (forget δ) where
  len := by unfold forget; rw [List.length_map]; exact S.len
  val := fun i d e => nomatch forget_no e
  own := fun i d e => nomatch forget_no e
  hnd := fun i e => nomatch forget_no e
  slf := fun i C fs e => nomatch forget_no e
  dis := fun i j ds es p ne e => nomatch forget_no e
  hand := fun z y => nomatch y
  live := S.live
  fk := S.fk
  fh := fun b o e z y => nomatch y
  gk := S.gk
  mb := S.mb
/-- x = _law_hand(e); the rest with the hand -/
theorem wb_hand {x y : Str} {p' pos2 : Pos} {k : Nat} {f : Addr} {fd : FuncData} {ps : List Str} {mk : Addr → Addr → List Int → Hd} (hmk : ∀ p l cs, (mk p l cs).p = p ∧ (mk p l cs).law = true) (i : Nat) (hN : X.N.Nodup) (Fn : FnOk X.prog X.w X.K X.mg X.base (L2.CX X.prog X.w) k f fd ps (spHand X.K mk)) (hr : Room k X.A) (hm : X.mg x = some (.ref f)) (hk : PySem.W.keepIn X.K (.ref f) = true) (hb : Binds X.K fd ps [])
    (w : WE X none e δ (fun d => ∃ is : List Int, d = .zlst (is.map D.int) ∧ is.length ≤ 90000 ∧ ∀ p l cs, WB X (some (mk p l cs)) rest (δ.set i .hand) ⟨fun δ' => P.nx (forget δ'), P.rt, fun δ' => P.bk (forget δ'), fun δ' => P.ct (forget δ'), fun δ' => P.ex (forget δ')⟩) (P.ex δ))
    (hg : Gl X x := by rfl) (hdb : (x == ("__debug__" : Str)) = false := by decide) (he : starEach [e] X.env = [(false, eval e X.env)] := by rfl) (hpl : (backTo pos (starEach [] X.env)).any (·.1) = false := by rfl)
    (hi : X.N[i]? = some y := by rfl) (hx : Loc X.env.scope y := by first | exact Or.inl rfl | exact Or.inr rfl) (hs : swapsWith (.Call (.Name x p) [e] [] pos) (some (.Name y p')) pos2.line X.env = pure false := by rfl)
    (hf : X.fn y = true ∨ X.env.scope.names.lookup y = some .local := by first | exact .inl rfl | exact .inr rfl) : WB X none (.Assign [.Name y p'] (.Call (.Name x p) [e] [] pos) pos2 :: rest) δ P := .mk fun B F G M σ H D W tk S E => by
  refine bS_of (pss_cons (ps_set hN hi hx (pe_callS (E := L2.WE W) Fn hr hg hm hk hb (fun σ => passAt tk σ) (pa_cons peS pa_nil he) hdb he hpl) hs hf) pbS) ?_
  refine w.run B F G M σ H _ W tk S (fun v H1 d g1 S1 r1 ⟨is, e1, hl, k⟩ => ?_) (out_of E)
  subst e1
  refine ⟨M, is, .cons r1 .nil, hl, fun p l cs H' n1 n2 ne e1 e2 kp => ?_⟩
  obtain ⟨m1, m2⟩ := hmk p l cs
  have S2 := SD.hndN (q := mk p l cs) (l := l) S1 (by rw [m1]; exact n1) n2 (by rw [m1]; exact ne) (by rw [m1]; exact e1) e2 kp
  have S3 := S2.setHd m2 i
  rw [m1] at S3
  exact (k p l cs).run B F G _ _ H' D W tk S3 ⟨fun M σ H δ S k => E.nx M σ H _ S.noh k, fun M σ H δ v d S r k => E.rt M σ H _ v d S.noh r k, fun M σ H δ S k => E.bk M σ H _ S.noh k, fun M σ H δ S k => E.ct M σ H _ S.noh k, fun M σ H δ C od fs S x k => E.ex M σ H _ C od fs S.noh x k⟩
theorem wb_lit {δ' : List Sl} (e : δ = δ') (w : WB X h rest δ' P) : WB X h rest δ P := by rw [e]; exact w
end
/-! ### data that == takes -/
def Fine (d : D) (n : Nat) : Prop := ∃ p, d.py = some p ∧ p.canLay0 = true ∧ p.depth ≤ n
theorem Fine.mono {d : D} {n m : Nat} (f : Fine d n) (h : n ≤ m) : Fine d m := let ⟨p, e, c, l⟩ := f; ⟨p, e, c, Nat.le_trans l h⟩
theorem Fine.int (i : Int) (n : Nat) : Fine (.int i) n := ⟨.int i, by unfold D.py; rfl, by unfold PyData.canLay0; rfl, by unfold PyData.depth; omega⟩
theorem Fine.bl (i : Bool) (n : Nat) : Fine (.bl i) n := ⟨.bool i, by unfold D.py; rfl, by unfold PyData.canLay0; rfl, by unfold PyData.depth; omega⟩
theorem Fine.non (n : Nat) : Fine .non n := ⟨.none, by unfold D.py; rfl, by unfold PyData.canLay0; rfl, by unfold PyData.depth; omega⟩
theorem Fine.str {s : Str} (h : PyData.canLay0 (.str s) = true) (n : Nat) : Fine (.str s) n := ⟨.str s, by unfold D.py; rfl, h, by unfold PyData.depth; omega⟩
theorem fineA {n : Nat} : ∀ {ds : List D}, (∀ d ∈ ds, Fine d n) → ∃ ps, D.pyA ds = some ps ∧ PyData.canLayAll0 ps = true ∧ PyData.depthAll ps ≤ n
  | [], _ => ⟨[], by unfold D.pyA; rfl, by unfold PyData.canLayAll0; rfl, by unfold PyData.depthAll; omega⟩
  | d :: ds, h => by
    obtain ⟨p, e1, c1, l1⟩ := h d List.mem_cons_self
    obtain ⟨ps, e2, c2, l2⟩ := fineA fun x hx => h x (List.mem_cons_of_mem _ hx)
    refine ⟨p :: ps, by unfold D.pyA; rw [e1, e2], by unfold PyData.canLayAll0; rw [c1, c2]; rfl, by unfold PyData.depthAll; omega⟩
theorem Fine.lst {ds : List D} {n : Nat} (h : ∀ d ∈ ds, Fine d n) : Fine (.lst ds) (n + 1) := by
  obtain ⟨ps, e, c, l⟩ := fineA h
  exact ⟨.list ps, by unfold D.py; rw [e]; rfl, by unfold PyData.canLay0; exact c, by unfold PyData.depth; omega⟩
theorem Fine.tup {ds : List D} {n : Nat} (h : ∀ d ∈ ds, Fine d n) : Fine (.tup ds) (n + 1) := by
  obtain ⟨ps, e, c, l⟩ := fineA h
  exact ⟨.tuple ps, by unfold D.py; rw [e]; rfl, by unfold PyData.canLay0; exact c, by unfold PyData.depth; omega⟩
theorem sEqD_self {d : D} {Φ : Bool → Prop} (f : Fine d 64) (k : Φ true) : sEqD d d Φ := by
  obtain ⟨p, e, c, l⟩ := f
  have sh : SeqAt.shaped p = true := by
    show (p.canLay0 && decide (p.depth ≤ 64)) = true
    rw [c, decide_eq_true l]
    rfl
  exact ⟨p, p, e, e, sh, sh, by rw [SeqAt.eqv_refl p c]; exact k⟩
theorem canLay_str {s : Str} : PyData.canLay0 (.str s) = s.cps.all (· < 0x110000) := by unfold PyData.canLay0; rfl
theorem canLay_app {s t : Str} (h1 : PyData.canLay0 (.str s) = true) (h2 : PyData.canLay0 (.str t) = true) : PyData.canLay0 (.str (s ++ t)) = true := by
  rw [canLay_str] at *
  rw [PySem.Str.cps_append, Array.all_append, h1, h2]
  rfl
end Ud

set_option Elab.async false
set_option linter.all false
set_option maxRecDepth 100000
set_option maxHeartbeats 4000000
/-! What is walked, and what a walk does with it: loops, comprehensions. -/
namespace Ud
open PySem PySem.Spec PyProof.Rows L2 Uc
theorem Rp.tup_inv2 {K : PySem.W.Frag} {M : Addr → Prop} {H : Hp} {v : V} {ds : List D} (r : Rp K M H v (.tup ds)) : ∃ a xs, v = .ref a ∧ ((¬ M a ∧ H a = some (.tup xs)) ∨ SqT K (fun _ => none) a xs) ∧ RpA K M H xs ds := by
  cases r with
  | tup n e s => exact ⟨_, _, rfl, .inl ⟨n, e⟩, s⟩
  | tupK e s => exact ⟨_, _, rfl, .inr e, s⟩
theorem sqT_const {K : PySem.W.Frag} {H : Hp} {a : Addr} {xs : List V} (e : SqT K (fun _ => none) a xs) : SqT K H a xs := by
  rcases e with (e | ⟨o, e⟩) | e
  · cases e
  · cases e
  · exact .inr e
/-- what a walk hands out: ds, where Fx stands -/
structure Ylds (K : PySem.W.Frag) (J : It) (ds : List D) (Fx : Addr → HO → Prop) (Gx : V → D → Prop) : Prop where
  go : ∀ (H : Hp) (i : Nat), (∀ b o, Fx b o → H b = some o) → i < ds.length → J.go i H
  stop : ∀ (H : Hp), (∀ b o, Fx b o → H b = some o) → J.stop ds.length H
  yld : ∀ (H : Hp) (i : Nat) (x : V) (H' : Hp), (∀ b o, Fx b o → H b = some o) → i < ds.length → J.yld i H x H' → ∃ d, ds[i]? = some d ∧ (∀ b o, H b = some o → H' b = some o) ∧
    ∀ M : Addr → Prop, Live M H → (∀ v d, Gx v d → Rp K M H v d) → Rp K M H' x d
structure WI (X : Cx) (h : Option Hd) (wi : TI) (δ : List Sl) (Φ : List D → Prop) (Ψ : Str → List (Str × D) → Prop) : Prop where
  run : ∀ (B : Addr → Prop) (F : Addr → HO → Prop) (G : V → D → Prop) (M : Addr → Prop) (σ : L2.St) (H : Hp) (R : It → Hp → Prop) (W : WX), Takes X W → SD X.K h B F G M H σ δ →
    (∀ J H' ds Fx Gx, Gh h H H' → SD X.K h B (fun b o => F b o ∨ Fx b o) (fun v d => G v d ∨ Gx v d) M H' σ δ → Ylds X.K J ds Fx Gx → Φ ds → R J H') →
    (∀ C od H' fs, Gh h H H' → SD X.K h B F G M H' σ δ → ExcD X.K M H' fs od → Ψ C fs → W (.ref (He.ga X.K C)) od σ H') → wi σ H R
/-- the items of a sequence -/
def seqOf : D → Option (List D)
  | .lst ds => some ds
  | .zlst ds => some ds
  | .tup ds => some ds
  | _ => none
section
variable {X : Cx} {h : Option Hd} {δ : List Sl} {P : Po} {Ψ : Str → List (Str × D) → Prop} {a b c e : Expr} {es : List Expr} {pos p : Pos} {st : Stmt} {rest body orelse : List Stmt} {Φ : List D → Prop}
/-! ### lists, tuples -/
def iSeq (K : PySem.W.Frag) (tl : TE) : TI := fun σ H R => tl σ H fun x H1 => ∃ a, x = .ref a ∧ (((∃ xs, SqL K H1 a xs) ∧ R (Itl K a) H1) ∨ ((∃ xs, SqT K H1 a xs) ∧ R (Itt K a) H1))
theorem pi_seq {l tg : Expr} {tl : TE} (hl : PE X l tl) : PI X tg l (iSeq X.K tl) := by
  refine ⟨fun pins s σ H R I hh => ?_⟩
  refine thn (hl.run pins s σ H _ I hh) fun v s1 ⟨x, H1, I1, r1, q1⟩ => ?_
  obtain ⟨a, ex, q1⟩ := q1
  subst ex
  cases r1
  have fp : ∀ b ∈ [s1.heap.objs.size], FpOk X pins H1 b := fun b hb => by
    obtain rfl : b = s1.heap.objs.size := by simpa using hb
    exact I1.fpOk (Nat.le_refl _) (I1.hok.fresh (Nat.le_refl _))
  rcases q1 with ⟨⟨xs, hq⟩, q⟩ | ⟨⟨xs, hq⟩, q⟩
  · obtain ⟨its, rv, p, hz⟩ := I1.list hq
    exact wpAny_pyIter_list p.isList ⟨s1.heap.objs.size, [s1.heap.objs.size], _, _, H1, rfl, I1.kept (t' := s1.toks) fun b o e => Heap.get?_push_of_some _ e, turn_list a _, ⟨_, Heap.get?_push_size _ rfl, rfl, rfl⟩, fp, q⟩
  · obtain ⟨its, rv, p, hz⟩ := I1.tuple hq
    exact wpAny_pyIter_tuple (show s1.heap.IsTuple a its.toArray from p) ⟨s1.heap.objs.size, [s1.heap.objs.size], _, _, H1, rfl, I1.kept (t' := s1.toks) fun b o e => Heap.get?_push_of_some _ e, turn_tuple a _, ⟨_, Heap.get?_push_size _ rfl, rfl, rfl⟩, fp, q⟩
/-- what is walked stays -/
theorem SD.addL {K : PySem.W.Frag} {B : Addr → Prop} {F : Addr → HO → Prop} {G : V → D → Prop} {M : Addr → Prop} {H : Hp} {σ : L2.St} {v : V} {d : D} {ds : List D} (S : SD K h B F G M H σ δ) (r : Rp K M H v d) (e : seqOf d = some ds) :
    ∃ (a : Addr) (vs : List V) (Fx : Addr → HO → Prop) (Gx : V → D → Prop), v = .ref a ∧ SD K h B (fun b o => F b o ∨ Fx b o) (fun u e => G u e ∨ Gx u e) M H σ δ ∧ vs.length = ds.length ∧ (∀ (k : Nat) u d, vs[k]? = some u → ds[k]? = some d → Gx u d) ∧
      ((∀ H', (∀ b o, Fx b o → H' b = some o) → SqL K H' a vs) ∨ (∀ H', (∀ b o, Fx b o → H' b = some o) → SqT K H' a vs)) := by
  have go : ∀ {a : Addr} {vs : List V} (Fx : Addr → HO → Prop), RpA K M H vs ds → SD K h B (fun b o => F b o ∨ Fx b o) G M H σ δ → SD K h B (fun b o => F b o ∨ Fx b o) (fun u e => G u e ∨ ∃ k : Nat, vs[k]? = some u ∧ ds[k]? = some e) M H σ δ := fun {a vs} Fx rv S' =>
    ⟨S'.len, S'.val, S'.own, S'.hnd, S'.slf, S'.dis, S'.hand, S'.live, S'.fk, S'.fh, fun u e z => z.elim (S'.gk u e) fun ⟨k, h1, h2⟩ => by
      obtain ⟨u', hu, ru⟩ := rv.get h2
      rw [h1] at hu
      cases hu
      exact ru, S'.mb⟩
  have none' : SD K h B (fun b o => F b o ∨ False) G M H σ δ := ⟨S.len, S.val, fun i ds e => by
      obtain ⟨p, xs, e1, m, nh, hp, r', nb, nf⟩ := S.own i ds e
      exact ⟨p, xs, e1, m, nh, hp, r', nb, fun o z => z.elim (nf o) id⟩, S.hnd, S.slf, S.dis, S.hand, S.live, fun b o z => z.elim (S.fk b o) False.elim, fun b o z => z.elim (S.fh b o) False.elim, S.gk, S.mb⟩
  cases d with
  | lst ds' =>
    cases e
    obtain ⟨a, vs, rfl, na, ha, rv⟩ := r.lst_inv
    exact ⟨a, vs, _, _, rfl, go (a := a) _ rv (S.addF na ha), rv.length, fun k u d h1 h2 => ⟨k, h1, h2⟩, .inl fun H' k => SqL.of (k a _ ⟨rfl, rfl⟩)⟩
  | zlst ds' =>
    cases e
    obtain ⟨a, vs, rfl, c, rv⟩ := r.seq_inv (.inr rfl)
    rcases c with ⟨na, u, hu, isl⟩ | c
    · exact ⟨a, vs, _, _, rfl, go (a := a) _ rv (S.addF na hu), rv.length, fun k u d h1 h2 => ⟨k, h1, h2⟩, .inl fun H' k => sqL_of (k a u ⟨rfl, rfl⟩) isl⟩
    · exact ⟨a, vs, _, _, rfl, go (a := a) (fun _ _ => False) rv none', rv.length, fun k u d h1 h2 => ⟨k, h1, h2⟩, .inl fun H' _ => sqL_const c⟩
  | tup ds' =>
    cases e
    obtain ⟨a, vs, rfl, c, rv⟩ := r.tup_inv2
    rcases c with ⟨na, hu⟩ | c
    · exact ⟨a, vs, _, _, rfl, go (a := a) _ rv (S.addF na hu), rv.length, fun k u d h1 h2 => ⟨k, h1, h2⟩, .inr fun H' k => SqT.of (k a _ ⟨rfl, rfl⟩)⟩
    · exact ⟨a, vs, _, _, rfl, go (a := a) (fun _ _ => False) rv none', rv.length, fun k u d h1 h2 => ⟨k, h1, h2⟩, .inr fun H' _ => sqT_const c⟩
  | _ => cases e
theorem ylds_l {K : PySem.W.Frag} {a : Addr} {vs : List V} {ds : List D} {Fx : Addr → HO → Prop} {Gx : V → D → Prop} (hl : vs.length = ds.length) (hg : ∀ (k : Nat) u d, vs[k]? = some u → ds[k]? = some d → Gx u d) (hs : ∀ H', (∀ b o, Fx b o → H' b = some o) → SqL K H' a vs) : Ylds K (Itl K a) ds Fx Gx where
  go := fun H i k hi => ⟨vs, vs[i]'(by omega), hs H k, List.getElem?_eq_getElem (by omega)⟩
  stop := fun H k => ⟨vs, hs H k, by omega⟩
  yld := fun H i x H' k hi y => by
    obtain ⟨e, y⟩ := y
    subst e
    have hx := y vs (hs _ k)
    have hd : ds[i]? = some ds[i] := List.getElem?_eq_getElem hi
    exact ⟨_, hd, fun _ _ e => e, fun M _ gk => gk _ _ (hg i _ _ hx hd)⟩
theorem ylds_t {K : PySem.W.Frag} {a : Addr} {vs : List V} {ds : List D} {Fx : Addr → HO → Prop} {Gx : V → D → Prop} (hl : vs.length = ds.length) (hg : ∀ (k : Nat) u d, vs[k]? = some u → ds[k]? = some d → Gx u d) (hs : ∀ H', (∀ b o, Fx b o → H' b = some o) → SqT K H' a vs) : Ylds K (Itt K a) ds Fx Gx where
  go := fun H i k hi => ⟨vs, vs[i]'(by omega), hs H k, List.getElem?_eq_getElem (by omega)⟩
  stop := fun H k => ⟨vs, hs H k, by omega⟩
  yld := fun H i x H' k hi y => by
    obtain ⟨e, y⟩ := y
    subst e
    have hx := y vs (hs _ k)
    have hd : ds[i]? = some ds[i] := List.getElem?_eq_getElem hi
    exact ⟨_, hd, fun _ _ e => e, fun M _ gk => gk _ _ (hg i _ _ hx hd)⟩
theorem wi_seq (w : WE X h e δ (fun d => ∃ ds, seqOf d = some ds ∧ Φ ds) Ψ) : WI X h (iSeq X.K (eS X e)) δ Φ Ψ := .mk fun B F G M σ H R W tk S q x => by
  refine w.run B F G M σ H _ W tk S (fun v H1 d g1 S1 r1 ⟨ds, e1, k⟩ => ?_) x
  obtain ⟨a, vs, Fx, Gx, rfl, S1F, hl, hg, sq⟩ := S1.addL r1 e1
  have fx : ∀ b o, Fx b o → H1 b = some o := fun b o z => S1F.fk b o (.inr z)
  rcases sq with sq | sq
  · exact ⟨a, rfl, .inl ⟨⟨vs, sq H1 fx⟩, q _ H1 ds Fx Gx g1 S1F (ylds_l hl hg sq) k⟩⟩
  · exact ⟨a, rfl, .inr ⟨⟨vs, sq H1 fx⟩, q _ H1 ds Fx Gx g1 S1F (ylds_t hl hg sq) k⟩⟩
/-! ### ranges -/
def rng (lo : Int) (n : Nat) : List D := (List.range n).map fun (k : Nat) => D.int (lo + (k : Int))
theorem ylds_r {K : PySem.W.Frag} {lo : Int} {n : Nat} : Ylds K (Itr lo n) (rng lo n) (fun _ _ => False) (fun _ _ => False) where
  go := fun H i _ hi => by unfold rng at hi; rw [List.length_map, List.length_range] at hi; exact hi
  stop := fun H _ => by unfold rng; rw [List.length_map, List.length_range]; exact Nat.le_refl n
  yld := fun H i x H' _ hi y => by
    obtain ⟨e, y⟩ := y
    subst e y
    have hi' : i < n := by unfold rng at hi; rw [List.length_map, List.length_range] at hi; exact hi
    exact ⟨.int (lo + (i : Int)), by unfold rng; rw [List.getElem?_map, List.getElem?_range hi']; rfl, fun _ _ e => e, fun M _ _ => .int _⟩
theorem noF {K : PySem.W.Frag} {B : Addr → Prop} {F : Addr → HO → Prop} {G : V → D → Prop} {M : Addr → Prop} {H : Hp} {σ : L2.St} (S : SD K h B F G M H σ δ) : SD K h B (fun b o => F b o ∨ False) (fun v d => G v d ∨ False) M H σ δ :=
  S.subF (fun b o z => z.elim id False.elim) fun v d z => z.elim id False.elim
theorem wi_rng1 (w : WE X h a δ (fun d => ∃ n : Int, d = .int n ∧ -1000000 ≤ n ∧ n ≤ 1000000 ∧ Φ (rng 0 n.toNat)) Ψ) (hs : starEach [a] X.env = [(false, eval a X.env)] := by rfl) : WI X h (iRng1 (tCons (eS X a) tNil)) δ Φ Ψ := .mk fun B F G M σ H R W tk S q x => by
  refine w.run B F G M σ H _ W tk S (fun v H1 d g1 S1 r1 ⟨n, e1, b1, b2, k⟩ => ?_) x
  subst e1
  obtain rfl := r1.int_inv
  exact ⟨n, rfl, by omega, by omega, q _ H1 _ _ _ g1 (noF S1) ylds_r k⟩
theorem wi_rng2 (w : WA X h [a, b] δ (fun ds => ∃ lo hi : Int, ds = [.int lo, .int hi] ∧ -1000000 ≤ lo ∧ lo ≤ 1000000 ∧ -1000000 ≤ hi ∧ hi ≤ 1000000 ∧ Φ (rng lo (hi - lo).toNat)) Ψ) : WI X h (iRng2 (aS X [a, b])) δ Φ Ψ := .mk fun B F G M σ H R W tk S q x => by
  refine w.run B F G M σ H _ W tk S (fun vs H1 ds g1 S1 r1 ⟨lo, hi, e1, b1, b2, b3, b4, k⟩ => ?_) x
  subst e1
  obtain ⟨v1, v2, rfl, q1, q2⟩ := rpA_two r1
  obtain rfl := q1.int_inv
  obtain rfl := q2.int_inv
  exact ⟨lo, hi, rfl, ⟨by omega, by omega, by omega, by omega⟩, q _ H1 _ _ _ g1 (noF S1) ylds_r k⟩
/-! ### what is written to -/
/-- a target: what stands behind it; its slots -/
structure Tg (X : Cx) (tg : Expr) (g : TG) (is : List Nat) (put : D → List Sl → Option (List Sl)) : Prop where
  pg : PG X tg g
  run : ∀ {h : Option Hd} {B : Addr → Prop} {F : Addr → HO → Prop} {G : V → D → Prop} {M : Addr → Prop} {H : Hp} {σ : L2.St} {δ δ' : List Sl} {v : V} {d : D} {R : L2.St → Hp → Prop}, SD X.K h B F G M H σ δ → Rp X.K M H v d → put d δ = some δ' →
    (∀ σ', SD X.K h B F G M H σ' δ' → wipe σ' is = wipe σ is → R σ' H) → g v σ H R
def putN (i : Nat) (d : D) (δ : List Sl) : Option (List Sl) := some (δ.set i (.val d))
def putT (is : List Nat) : D → List Sl → Option (List Sl)
  | .tup ds, δ => if ds.length = is.length then some (setAll δ is ds) else none
  | _, _ => none
theorem set_none_swap (σ : L2.St) (i : Nat) (x : Option V) : ∀ is : List Nat, i ∈ is → wipe (σ.set i x) is = wipe σ is
  | j :: is, hi => by
    show (wipe (σ.set i x) is).set j none = (wipe σ is).set j none
    by_cases hm : i ∈ is
    · rw [set_none_swap σ i x is hm]
    · have e : i = j := by
        rcases List.mem_cons.mp hi with z | z
        · exact z
        · exact absurd z hm
      subst e
      clear hi hm
      refine List.ext_getElem? fun k => ?_
      by_cases z : i = k
      · subst z
        by_cases hl : i < σ.length
        · rw [List.getElem?_set_self (by rw [wipe_length, List.length_set]; exact hl), List.getElem?_set_self (by rw [wipe_length]; exact hl)]
        · rw [List.getElem?_eq_none (by rw [List.length_set, wipe_length, List.length_set]; omega), List.getElem?_eq_none (by rw [List.length_set, wipe_length]; omega)]
      · rw [List.getElem?_set_ne z, List.getElem?_set_ne z]
        have w : ∀ (τ : L2.St) (us : List Nat), τ.length = σ.length → (∀ m, m ≠ i → τ[m]? = σ[m]?) → (wipe τ us)[k]? = (wipe σ us)[k]? := fun τ us hl hτ => by
          induction us with
          | nil => exact hτ k (Ne.symm z)
          | cons u us ih =>
            show ((wipe τ us).set u none)[k]? = ((wipe σ us).set u none)[k]?
            by_cases y : u = k
            · subst y
              by_cases hk : u < σ.length
              · rw [List.getElem?_set_self (by rw [wipe_length, hl]; exact hk), List.getElem?_set_self (by rw [wipe_length]; exact hk)]
              · rw [List.getElem?_eq_none (by rw [List.length_set, wipe_length, hl]; omega), List.getElem?_eq_none (by rw [List.length_set, wipe_length]; omega)]
            · rw [List.getElem?_set_ne y, List.getElem?_set_ne y]
              exact ih
        exact w _ is (by rw [List.length_set]) fun m hm => List.getElem?_set_ne (Ne.symm hm)
theorem tg_name {x : Str} {px : Pos} (i : Nat) (hN : X.N.Nodup) (hi : X.N[i]? = some x := by rfl) (hx : Loc X.env.scope x := by first | exact Or.inl rfl | exact Or.inr rfl) (hf : X.fn x = true ∨ X.env.scope.names.lookup x = some .local := by first | exact .inl rfl | exact .inr rfl) : Tg X (.Name x px) (gName i) [i] (putN i) where
  pg := pg_name hN hi hx hf
  run := fun {h B F G M H σ δ δ' v d R} S r e k => by
    cases e
    exact k _ (S.setV i r) (set_none_swap σ i _ [i] List.mem_cons_self)
theorem setAll_ok2 {K : PySem.W.Frag} {B : Addr → Prop} {F : Addr → HO → Prop} {G : V → D → Prop} {M : Addr → Prop} {H : Hp} {R : L2.St → Hp → Prop} (all : List Nat) : ∀ {is : List Nat} {vs : List V} {ds : List D} {σ : L2.St} {δ : List Sl}, SD K h B F G M H σ δ → RpA K M H vs ds → vs.length = is.length → (∀ i ∈ is, i ∈ all) →
    (∀ σ', SD K h B F G M H σ' (setAll δ is ds) → wipe σ' all = wipe σ all → R σ' H) → gNames is vs σ H R
  | [], _, _, σ, δ, S, .nil, _, _, k => ⟨rfl, k σ S rfl⟩
  | [], _, _, σ, δ, S, .cons _ _, e, _, k => by cases e
  | i :: is, _, _, σ, δ, S, .nil, e, _, k => by cases e
  | i :: is, _, _, σ, δ, S, .cons r t, e, hm, k => ⟨_, _, rfl, setAll_ok2 all (S.setV i r) t (by simpa using e) (fun j hj => hm j (List.mem_cons_of_mem _ hj)) fun σ' S' w => k σ' S' (w.trans (set_none_swap σ i _ all (hm i List.mem_cons_self)))⟩
theorem tg_tup {es : List Expr} {kt : Nat} {pt : Pos} (is : List Nat) (hN : X.N.Nodup) (na : NamesAt X es is) (hn : (assignEach es X.env).length = is.length := by rfl) (hst : (assignEach es X.env).findIdx? (·.1) = none := by rfl) (hc : X.calm = true := by rfl) : Tg X (.Tuple es kt pt) (gTup X.K is.length (gNames is)) is (putT is) where
  pg := pg_tup hc (pgs_names hN na) hn hst
  run := fun {h B F G M H σ δ δ' v d R} S r e k => by
    cases d with
    | tup ds =>
      obtain ⟨a, vs, rfl, ht, rv⟩ := r.tup_inv
      have e' : (if ds.length = is.length then some (setAll δ is ds) else none) = some δ' := e
      by_cases hl : ds.length = is.length
      · rw [if_pos hl] at e'
        cases e'
        exact ⟨a, vs, rfl, ht, by rw [rv.length, hl], setAll_ok2 is S rv (by rw [rv.length, hl]) (fun _ z => z) k⟩
      · rw [if_neg hl] at e'
        cases e'
    | _ => cases e
/-! ### for -/
theorem ws_forG {tg iter : Expr} {wi : TI} {g : TG} {is : List Nat} {put : D → List Sl → Option (List Sl)} (hp : PassesOwn (model X.prog X.w) X.A X.env X.xe) (pi : PI X tg iter wi) (t : Tg X tg g is put)
    (w : WI X h wi δ (fun ds => ∃ I : Nat → List Sl → Prop, I 0 δ ∧ (∀ (k : Nat) (δ' : List Sl) (d : D), ds[k]? = some d → I k δ' → ∃ δ2, put d δ' = some δ2 ∧ WB X h body δ2 { P with nx := I (k + 1), ct := I (k + 1), bk := P.nx }) ∧ ∀ δ', I ds.length δ' → P.nx δ') (P.ex δ))
    (hc : X.calm = true := by rfl) (hfs : ∀ y, foldedSetIterable iter X.env y = pure y := by intro _; rfl) : WS X h (.For tg iter body [] pos) δ P := .mk fun B F G M σ H D W tk S E => by
  refine sS_of (ps_for hp hc pi t.pg pbS hfs) ?_
  refine w.run B F G M σ H _ W tk S (fun J H1 ds Fx Gx g1 S1 Y ⟨I, i0, turn, fin⟩ => ?_) (out_of E)
  have E' := ends_sub (F' := fun b o => F b o ∨ Fx b o) (G' := fun u e => G u e ∨ Gx u e) E (fun b o z => .inl z) fun u e z => .inl z
  refine ⟨fun i m σ' H' => m = ds.length - i ∧ i ≤ ds.length ∧ ∃ M' δ', SD X.K h B (fun b o => F b o ∨ Fx b o) (fun u e => G u e ∨ Gx u e) M' H' σ' δ' ∧ I i δ', ⟨_, rfl, Nat.zero_le _, M, δ, S1, i0⟩, ?_⟩
  rintro i m σ' H' ⟨rfl, hi, M', δ', S', hI⟩
  have fx : ∀ b o, Fx b o → H' b = some o := fun b o z => S'.fk b o (.inr z)
  by_cases hlt : i < ds.length
  · refine .inr ⟨Y.go H' i fx hlt, fun σ2 H2 => ∃ M2 δ2, SD X.K h B (fun b o => F b o ∨ Fx b o) (fun u e => G u e ∨ Gx u e) M2 H2 σ2 δ2 ∧ I (i + 1) δ2, fun σ2 H2 z => ⟨_, by omega, rfl, hlt, z⟩, fun x H2 y => ?_⟩
    obtain ⟨d, hd, all, rp⟩ := Y.yld H' i x H2 fx hlt y
    obtain ⟨δ2, e2, wb⟩ := turn i δ' d hd hI
    have S2 := S'.all all
    have r2 := rp M' S'.live fun v d z => S'.gk v d (.inr z)
    refine t.run S2 r2 e2 fun σ3 S3 _ => ?_
    exact wb.run B _ _ M' _ _ _ W tk S3 ⟨fun M2 σ2 H2 δ2 S2 k2 => ⟨M2, δ2, S2, k2⟩, E'.rt, E'.nx, fun M2 σ2 H2 δ2 S2 k2 => ⟨M2, δ2, S2, k2⟩, E'.ex⟩
  · have e : i = ds.length := by omega
    subst e
    exact .inl ⟨Y.stop H' fx, E'.nx M' σ' H' δ' S' (fin δ' hI)⟩
end
end Ud

set_option Elab.async false
set_option linter.all false
set_option maxRecDepth 100000
set_option maxHeartbeats 4000000
/-! Bits, is None, in, sorted and min of texts, extend, own instances, defaults, while, loops over tuples and range(a, b). -/
namespace Ud
open PySem PySem.Spec PyProof.Rows L2 Uc
section
variable {X : Cx} {h : Option Hd} {δ : List Sl} {P : Po} {Φ : D → Prop} {Φb : Bool → Prop} {Ψ : Str → List (Str × D) → Prop} {a b c e : Expr} {es : List Expr} {pos p : Pos} {st : Stmt} {rest body orelse : List Stmt}
/-! ### bits -/
theorem we_band (w : WE X h a δ (fun x => WE X h b δ (fun y => sI (fun _ _ => True) (fun i j => .int (Builtin.bitAnd i j)) x y Φ) Ψ) Ψ) : WE X h (.BinOp a .BitAnd b pos) δ Φ Ψ := we_op op_and opS_I0 w
theorem we_shr (w : WE X h a δ (fun x => WE X h b δ (fun y => sI (fun _ j => 0 ≤ j) (fun i j => .int (i / 2 ^ j.toNat)) x y Φ) Ψ) Ψ) : WE X h (.BinOp a .RShift b pos) δ Φ Ψ := we_op op_shr opS_I w
/-! ### is None -/
def sIsN : D → (Bool → Prop) → Prop
  | .non, Φ => Φ true
  | .at_ v, Φ => Φ (decide (v = .non))
  | _, Φ => Φ false
theorem sIsN_ok {K : PySem.W.Frag} {M : Addr → Prop} {H : Hp} {v : V} {d : D} {Φ : Bool → Prop} (r : Rp K M H v d) (k : sIsN d Φ) : Φ (decide (v = .non)) := by
  cases r <;> exact k
theorem wt_isN {j : Nat} {p' : Pos} (w : WE X h a δ (fun d => sIsN d Φb) Ψ) : WT X h (.Compare a [.Is] [.Constant .none j p'] pos) δ Φb Ψ := .mk fun B F G M σ H Q W tk S q x =>
  tS_of (pt_cmpR op_isN peS pe_non (nomark _)) (w.run B F G M σ H _ W tk S (fun v H1 d g1 S1 r1 k => ⟨rfl, _, rfl, q _ H1 g1 S1 (sIsN_ok r1 k)⟩) x)
theorem wt_notN {j : Nat} {p' : Pos} (w : WE X h a δ (fun d => sIsN d fun k => Φb (!k)) Ψ) : WT X h (.Compare a [.IsNot] [.Constant .none j p'] pos) δ Φb Ψ := .mk fun B F G M σ H Q W tk S q x =>
  tS_of (pt_cmpR op_notN peS pe_non (nomark _)) (w.run B F G M σ H _ W tk S (fun v H1 d g1 S1 r1 k => ⟨rfl, _, rfl, q _ H1 g1 S1 (sIsN_ok (Φ := fun k => Φb (!k)) r1 k)⟩) x)
theorem we_isN {j : Nat} {p' : Pos} (w : WE X h a δ (fun d => sIsN d fun k => Φ (.bl k)) Ψ) : WE X h (.Compare a [.Is] [.Constant .none j p'] pos) δ Φ Ψ := .mk fun B F G M σ H Q W tk S q x =>
  eS_of (pe_cmp (pc_isN peS) rfl) (w.run B F G M σ H _ W tk S (fun v H1 d g1 S1 r1 k => q _ H1 _ g1 S1 (.bl _) (sIsN_ok (Φ := fun k => Φ (.bl k)) r1 k)) x)
theorem we_notN {j : Nat} {p' : Pos} (w : WE X h a δ (fun d => sIsN d fun k => Φ (.bl (!k))) Ψ) : WE X h (.Compare a [.IsNot] [.Constant .none j p'] pos) δ Φ Ψ := .mk fun B F G M σ H Q W tk S q x =>
  eS_of (pe_cmp (pc_notN peS) rfl) (w.run B F G M σ H _ W tk S (fun v H1 d g1 S1 r1 k => q _ H1 _ g1 S1 (.bl _) (sIsN_ok (Φ := fun k => Φ (.bl (!k))) r1 k)) x)
/-! ### s in texts -/
theorem flat_strs {ss : List Str} : (ss.map V.str).all flatV = true := by
  rw [List.all_eq_true]
  intro x hx
  obtain ⟨s, _, rfl⟩ := List.mem_map.mp hx
  rfl
theorem inV_strs {s : Str} {ss : List Str} : inV (.str s) (ss.map V.str) = decide (s ∈ ss) := by
  unfold inV
  by_cases hs : s ∈ ss
  · rw [decide_eq_true hs, List.any_eq_true]
    exact ⟨.str s, List.mem_map.mpr ⟨s, hs, rfl⟩, by show (s == s) = true; simp⟩
  · rw [decide_eq_false hs, List.any_eq_false]
    intro x hx
    obtain ⟨t, ht, rfl⟩ := List.mem_map.mp hx
    show ¬ ((t == s) = true)
    intro z
    exact hs (by rw [← eq_of_beq z]; exact ht)
theorem rpA_strs {K : PySem.W.Frag} {M : Addr → Prop} {H : Hp} : ∀ {ss : List Str} {vs : List V}, RpA K M H vs (ss.map D.str) → vs = ss.map V.str
  | [], _, .nil => rfl
  | i :: is, _, .cons h t => by rw [rpA_strs t, h.str_inv]; rfl
def sInS (x y : D) (Φ : Bool → Prop) : Prop := ∃ (s : Str) (ss : List Str), x = .str s ∧ (y = .lst (ss.map D.str) ∨ y = .tup (ss.map D.str)) ∧ Φ (decide (s ∈ ss))
theorem opS_inS {B : Addr → Prop} {F : Addr → HO → Prop} {G : V → D → Prop} {M : Addr → Prop} {σ : L2.St} {H : Hp} {x y : V} {dx dy : D} {Q : VK} (r1 : Rp X.K M H x dx) (r2 : Rp X.K M H y dy) (k : sInS dx dy (fun b => Q (.bl b) H)) : rIn X.K false x y H Q := by
  obtain ⟨s, ss, rfl, hy, k⟩ := k
  obtain rfl := r1.str_inv
  rcases hy with rfl | rfl
  · obtain ⟨a, xs, rfl, n, e, s1⟩ := r2.lst_inv
    obtain rfl := rpA_strs s1
    exact ⟨a, _, rfl, .inl (SqL.of e), rfl, flat_strs, by rw [inV_strs]; exact k⟩
  · obtain ⟨a, xs, rfl, e, s1⟩ := r2.tup_inv
    obtain rfl := rpA_strs s1
    exact ⟨a, _, rfl, .inr e, rfl, flat_strs, by rw [inV_strs]; exact k⟩
theorem wt_in (w : WE X h a δ (fun x => WE X h b δ (fun y => sInS x y Φb) Ψ) Ψ) (hm : behindInMarks .In b = false := by rfl) : WT X h (.Compare a [.In] [b] pos) δ Φb Ψ := .mk fun B F G M σ H Q W tk S0 q x =>
  tS_of (pt_cmpR op_in_seq peS peS hm) (w.run B F G M σ H _ W tk S0 (fun v H1 d g1 S1 r1 w2 => w2.run B F G M σ H1 _ W tk S1 (fun u H2 d2 g2 S2 r2 k =>
    opS_inS (B := B) (F := F) (G := G) (σ := σ) (r1.mono (g2.gr S1.hand)) r2 (by
      obtain ⟨s, ss, e1, e2, k⟩ := k
      exact ⟨s, ss, e1, e2, _, rfl, q _ H2 (g1.trans g2) S2 k⟩)) (Out.on x g1)) x)
/-! ### sorted -/
def pyOf (d : D) : PyData := d.py.getD .none
def pyLe (a b : D) : Bool := PySem.W.dataLe false pyOf a b
def rSortD (K : PySem.W.Frag) : List V → Hp → VK → Prop := fun vs H Q => ∃ (a : Addr) (bs : List (V × D)), vs = [.ref a] ∧ SqL K H a (bs.map (·.1)) ∧ (∀ b ∈ bs, Dp K H b.1 (pyOf b.2)) ∧ PySem.W.AllAlike (bs.map fun b => pyOf b.2) ∧ PySem.W.Sortable (bs.map fun b => pyOf b.2) ∧ bs.length ≤ 100000 ∧
  (∀ b ∈ bs, (pyOf b.2).depth ≤ 60) ∧ ∀ p, H p = none → Q (.ref p) (upd H p (.lst ((bs.mergeSort (PySem.W.dataLe false fun b => pyOf b.2)).map (·.1))))
theorem eachIs_vals {R : Value → V × D → Prop} (hR : ∀ v b, R v b → RelV b.1 v) : ∀ {out : List Value} {bs : List (V × D)}, PySem.W.EachIs R out bs → Vals (bs.map (·.1)) out
  | _, _, .nil => .nil
  | _, _, .cons h t => .cons (hR _ _ h) (eachIs_vals hR t)
theorem cr_sortD {n : Nat} (hr : Room n X.A) : CallR X (.builtin "sorted") (rSortD X.K) := by
  intro pins s σ H vs us Q I r hh
  obtain ⟨a, bs, rfl, hs, hd, al, so, hl, dp, q⟩ := hh
  obtain ⟨its, rv, hl2, _⟩ := I.list hs
  rw [Vals.ref1 r]
  have hun := hr.units
  have each : ∀ (bs : List (V × D)) (its : List Value), Vals (bs.map (·.1)) its → PySem.W.EachIs (fun v b => RelV b.1 v) its bs := fun bs => by
    induction bs with
    | nil => intro its r; cases r; exact .nil
    | cons b bs ih => intro its r; cases r with | cons h t => exact .cons h (ih _ t)
  have e1 := each bs its rv
  have each2 : ∀ (bs : List (V × D)) (its : List Value), (∀ b ∈ bs, Dp X.K H b.1 (pyOf b.2)) → Vals (bs.map (·.1)) its → PySem.W.EachIs (fun v b => ∃ as, Reads s.heap v (pyOf b.2) as) its bs := fun bs => by
    induction bs with
    | nil => intro its _ r; cases r; exact .nil
    | cons b bs ih => intro its hd r; cases r with | cons h t => exact .cons (Dp.reads I _ _ _ (hd b List.mem_cons_self) h) (ih _ (fun x hx => hd x (List.mem_cons_of_mem _ hx)) t)
  have e2 := each2 bs its hd rv
  refine PySem.W.sorted_data (enc := fun b : V × D => pyOf b.2) (R := fun v b => RelV b.1 v) (by simpa using hl2.isList) e1 e2 al so (szOf hl) (fun b hb => by have := dp b hb; omega) fun out h1 h2 => ?_
  obtain ⟨ep, he'⟩ := PyProof.Rows.sortedAll_at s.heap its (List.toArray out)
  have hv := eachIs_vals (fun _ _ z => z) h2
  have hlen : ((bs.mergeSort (PySem.W.dataLe false fun b => pyOf b.2)).map (·.1)).length ≤ sizeLine := by rw [List.length_map, List.length_mergeSort]; exact szOf hl
  exact ⟨.ref _, upd H (s.heap.objs.size + 1) (.lst ((bs.mergeSort (PySem.W.dataLe false fun b => pyOf b.2)).map (·.1))), I.laid (t' := s.toks) (fun _ _ => PyProof.Rows.sortedAll_old) (Nat.le_succ _) ⟨hlen, out, ep, hv, by simpa using he'⟩, rfl, q _ (I.hok.fresh (Nat.le_succ _))⟩
/-- sorted of a list -/
def sSorted : List D → (D → Prop) → Prop
  | [.lst ds], Φ => (∀ d ∈ ds, ∃ p, d.py = some p ∧ p.depth ≤ 60) ∧ PySem.W.AllAlike (ds.map pyOf) ∧ PySem.W.Sortable (ds.map pyOf) ∧ ds.length ≤ 100000 ∧ Φ (.lst (ds.mergeSort pyLe))
  | _, _ => False
theorem rpA_zip {K : PySem.W.Frag} {M : Addr → Prop} {H : Hp} : ∀ {vs : List V} {ds : List D}, RpA K M H vs ds → ∃ bs : List (V × D), bs.map (·.1) = vs ∧ bs.map (·.2) = ds ∧ ∀ b ∈ bs, Rp K M H b.1 b.2
  | _, _, .nil => ⟨[], rfl, rfl, fun b hb => nomatch hb⟩
  | _, _, .cons (v := v) (d := d) h t => by
    obtain ⟨bs, e1, e2, hb⟩ := rpA_zip t
    refine ⟨(v, d) :: bs, by rw [List.map_cons, e1], by rw [List.map_cons, e2], fun b hx => ?_⟩
    rcases List.mem_cons.mp hx with rfl | hx
    · exact h
    · exact hb b hx
theorem rpA_of {K : PySem.W.Frag} {M : Addr → Prop} {H : Hp} : ∀ {bs : List (V × D)}, (∀ b ∈ bs, Rp K M H b.1 b.2) → RpA K M H (bs.map (·.1)) (bs.map (·.2))
  | [], _ => .nil
  | b :: bs, hb => .cons (hb b List.mem_cons_self) (rpA_of fun x hx => hb x (List.mem_cons_of_mem _ hx))
theorem calS_sorted : CalS X h (rSortD X.K) sSorted := fun B F G M σ δ H vs ds Q Φ S r k q => by
  match ds, k with
  | [.lst ds], ⟨k1, k2, k3, k4, k5⟩ =>
    obtain ⟨v, rfl, r5⟩ := rpA_one r
    obtain ⟨l, xs, rfl, n1, e1, s1⟩ := r5.lst_inv
    obtain ⟨bs, eb1, eb2, hb⟩ := rpA_zip s1
    have em : bs.map (fun b => pyOf b.2) = ds.map pyOf := by rw [← eb2, List.map_map]; rfl
    have hpy : ∀ b ∈ bs, ∃ p, b.2.py = some p ∧ p.depth ≤ 60 := fun b hx => k1 b.2 (by rw [← eb2]; exact List.mem_map.mpr ⟨b, hx, rfl⟩)
    refine ⟨l, bs, rfl, by rw [eb1]; exact SqL.of e1, fun b hx => ?_, by rw [em]; exact k2, by rw [em]; exact k3, by rw [← List.length_map (f := fun b : V × D => b.2), eb2]; exact k4, fun b hx => ?_, fun p hp => ?_⟩
    · obtain ⟨p, ep, _⟩ := hpy b hx
      have : pyOf b.2 = p := by unfold pyOf; rw [ep]; rfl
      rw [this]
      exact rp_dp (hb b hx) ep
    · obtain ⟨p, ep, hd⟩ := hpy b hx
      have : pyOf b.2 = p := by unfold pyOf; rw [ep]; rfl
      rw [this]
      exact hd
    · have es : (bs.mergeSort (PySem.W.dataLe false fun b : V × D => pyOf b.2)).map (·.2) = ds.mergeSort pyLe := by
        rw [← eb2]
        exact PySem.W.sort_maps (fun b : V × D => b.2) fun x _ y _ => rfl
      have rs : RpA X.K M H ((bs.mergeSort (PySem.W.dataLe false fun b : V × D => pyOf b.2)).map (·.1)) (ds.mergeSort pyLe) := by
        rw [← es]
        exact rpA_of fun b hx => hb b (List.mem_mergeSort.mp hx)
      exact Ans.lst q S hp rs k5
theorem we_sorted {n : Nat} (hr : Room n X.A) {x : Str} (hx : x = "sorted") (hm : X.mg x = none) (w : WA X h (e :: es) δ (fun ds => sSorted ds Φ) Ψ) (hg : Gl X x := by rfl) (hn : x ≠ "__name__" := by decide) (hdb : (x == ("__debug__" : Str)) = false := by decide)
    (he : starEach (e :: es) X.env = (false, eval e X.env) :: starEach es X.env := by rfl) (hpl : (backTo pos (starEach es X.env)).any (·.1) = false := by rfl) : WE X h (.Call (.Name x p) (e :: es) [] pos) δ Φ Ψ :=
  we_callB (cr_sortD hr) calS_sorted hm w (by rw [hx]; decide +kernel) hg hn hdb he hpl
end
end Ud

set_option Elab.async false
set_option linter.all false
set_option maxRecDepth 100000
set_option maxHeartbeats 4000000
/-! Expressions: what they come to, and that they do. -/
namespace Ud
open PySem PySem.Spec PyProof.Rows L2 Uc
/-! ### combinators -/
def slV : Option Sl → T D
  | some (.val d) => .ret d
  | _ => .stuck
def cV (i : Nat) : EF := fun δ => slV δ[i]?
def cK (d : D) : EF := fun _ => .ret d
def cX : EF := fun _ => .stuck
def few (ds : List D) : Bool := decide (ds.length ≤ 100000)
def cTup (f : AF) : EF := fun δ => (f δ).bind fun ds => .chk (few ds) (.ret (.tup ds))
def cLst (f : AF) : AF := fun δ => (f δ).bind fun ds => .chk (few ds) (.ret ds)
def cFr (f : AF) : EF := fun δ => (f δ).bind fun ds => .ret (.lst ds)
def cBin (v : D → D → T D) (f g : EF) : EF := fun δ => (f δ).bind fun x => (g δ).bind fun y => v x y
def bB (v : D → D → T Bool) (f g : EF) : BF := fun δ => (f δ).bind fun x => (g δ).bind fun y => v x y
def cB (t : BF) : EF := fun δ => (t δ).bind fun b => .ret (.bl b)
def blT : D → T Bool
  | .bl b => .ret b
  | _ => .stuck
def bV (f : EF) : BF := fun δ => (f δ).bind blT
def bAnd (t u : BF) : BF := fun δ => (t δ).bind fun b => .cond b (u δ) (.ret false)
def bOr (t u : BF) : BF := fun δ => (t δ).bind fun b => .cond b (.ret true) (u δ)
def bNot (t : BF) : BF := fun δ => (t δ).bind fun b => .ret (!b)
def cAnd (f g : EF) : EF := fun δ => (f δ).bind fun d => (blT d).bind fun b => .cond b (g δ) (.ret (.bl false))
def cOr (f g : EF) : EF := fun δ => (f δ).bind fun d => (blT d).bind fun b => .cond b (.ret (.bl true)) (g δ)
def cNot (f : EF) : EF := fun δ => (f δ).bind fun d => (blT d).bind fun b => .ret (.bl (!b))
def cIfx (t : BF) (f g : EF) : EF := fun δ => (t δ).bind fun b => .cond b (f δ) (g δ)
/-! ### operators on described values -/
def inW (i : Int) : Bool := decide (-18446744073709551616 < i) && decide (i < 18446744073709551616)
def vSub : D → D → T D
  | .int i, .int j => .ret (.int (i - j))
  | _, _ => .stuck
def vMul : D → D → T D
  | .int i, .int j => .chk (inW i || inW j) (.ret (.int (i * j)))
  | .lst xs, .int k => .chk (decide (0 ≤ k) && (decide (k ≤ 10000) && decide (xs.length ≤ 1000))) (.ret (.lst (List.replicate k.toNat xs).flatten))
  | _, _ => .stuck
def vDiv : D → D → T D
  | .int i, .int j => .chk (decide (0 < j) && inW j) (.ret (.int (i / j)))
  | _, _ => .stuck
def vMod : D → D → T D
  | .int i, .int j => .chk (decide (0 < j)) (.ret (.int (i % j)))
  | _, _ => .stuck
def vPow : D → D → T D
  | .int i, .int j => .chk (decide (0 ≤ j) && (decide (j ≤ 1000) && inW i)) (.ret (.int (i ^ j.toNat)))
  | _, _ => .stuck
def vAdd : D → D → T D
  | .int i, .int j => .ret (.int (i + j))
  | .str s, .str t => .chk (decide (s.length + t.length ≤ 100000)) (.ret (.str (s ++ t)))
  | .lst xs, .lst ys => .chk (decide (xs.length + ys.length ≤ 100000)) (.ret (.lst (xs ++ ys)))
  | .tup (x :: xs), .tup ys => .chk (decide (xs.length + ys.length ≤ 90000)) (.ret (.tup (x :: xs ++ ys)))
  | _, _ => .stuck
def vLt : D → D → T Bool
  | .int i, .int j => .ret (decide (i < j))
  | _, _ => .stuck
def vLe : D → D → T Bool
  | .int i, .int j => .ret (decide (i ≤ j))
  | _, _ => .stuck
def vGt : D → D → T Bool
  | .int i, .int j => .ret (decide (j < i))
  | _, _ => .stuck
def vGe : D → D → T Bool
  | .int i, .int j => .ret (decide (j ≤ i))
  | _, _ => .stuck
def shp (d : D) : Bool := match d.py with
  | some p => SeqAt.shaped p
  | none => false
def dEq (x y : D) : Bool := match x.py, y.py with
  | some p, some q => PyData.eqv p q
  | _, _ => false
def vEqD (x y : D) : T Bool := .chk (shp x && shp y) (.ret (dEq x y))
def vNeD (x y : D) : T Bool := .chk (shp x && shp y) (.ret (!dEq x y))
def vIx : D → D → T D
  | .lst xs, .int i => match atI xs i with
    | some d => .ret d
    | none => .stuck
  | .tup xs, .int i => match atI xs i with
    | some d => .ret d
    | none => .stuck
  | .str z, .int i => .chk (decide (z.length ≤ 100000)) (match atI z.cps.toList i with
    | some c => .ret (.str ⟨#[c]⟩)
    | none => .stuck)
  | _, _ => .stuck
def vLen : List D → T D
  | [.lst xs] => .ret (.int xs.length)
  | [.tup xs] => .ret (.int xs.length)
  | [.str z] => .chk (decide (z.length ≤ 100000)) (.ret (.int z.length))
  | _ => .stuck
def vInt : List D → T D
  | [.int i] => .ret (.int i)
  | [.bl b] => .ret (.int (if b then 1 else 0))
  | _ => .stuck
def vAbs : List D → T D
  | [.int i] => .ret (.int (if i < 0 then -i else i))
  | _ => .stuck
def vTuple : List D → T D
  | [.lst xs] => .ret (.tup xs)
  | [.tup xs] => .ret (.tup xs)
  | _ => .stuck
def isNon : D → T Bool
  | .at_ _ => .stuck
  | .non => .ret true
  | _ => .ret false
def cCall (v : List D → T D) (f : AF) : EF := fun δ => (f δ).bind v
section
variable {X : Cx} {h : Option Hd} {a b c e : Expr} {es : List Expr} {pos p : Pos} {f g k : EF} {t u : BF} {fa : AF} {Φ : D → Prop} {Φb : Bool → Prop} {Ψ : Str → List (Str × D) → Prop}
/-! ### names, constants, displays -/
theorem de_var {x : Str} (i : Nat) (hN : X.N[i]? = some x := by rfl) (hv : Vis X.env.scope x := by first | exact Or.inl rfl | exact Or.inr (Or.inl rfl) | exact Or.inr (Or.inr rfl)) (h1 : (x == ("__debug__" : Str)) = false := by decide) (h2 : (x == ("__classdict__" : Str)) = false := by decide) :
    DE X h (.Name x pos) (cV i) := ⟨fun δ Φ Ψ q => by
  have q' : (slV δ[i]?).sat Φ Ψ := q
  match hd : δ[i]?, q' with
  | some (.val d), q' => exact we_var i d hd q' hN hv h1 h2⟩
theorem de_int {i : Int} {j : Nat} : DE X h (.Constant (.int i) j pos) (cK (.int i)) := ⟨fun δ Φ Ψ q => we_int q⟩
theorem de_bl {i : Bool} {j : Nat} : DE X h (.Constant (.bool i) j pos) (cK (.bl i)) := ⟨fun δ Φ Ψ q => we_bl q⟩
theorem de_non {j : Nat} : DE X h (.Constant .none j pos) (cK .non) := ⟨fun δ Φ Ψ q => we_non q⟩
theorem de_str {i : Str} {j : Nat} : DE X h (.Constant (.str i) j pos) (cK (.str i)) := ⟨fun δ Φ Ψ q => we_str q⟩
theorem de_stuck : DE X h e cX := ⟨fun δ Φ Ψ q => q.elim⟩
theorem dt_stuck : DT X h e (fun _ => .stuck) := ⟨fun δ Φ Ψ q => q.elim⟩
/-- a global int -/
theorem de_gint {x : Str} {i : Int} {tk : Tok} (hm : X.mg x = some (.int i tk)) (hg : Gl X x := by rfl) (hd : (x == ("__debug__" : Str)) = false := by decide) : DE X h (.Name x pos) (cK (.int i)) := ⟨fun δ Φ Ψ q => .mk fun B F G M σ H Q W tk' S q' _ =>
  eS_of (pe_glob hg hm (v := .int i) ⟨tk, rfl⟩ hd) (q' _ H _ (Gh.refl _ _) S (.int i) q)⟩
/-- a global tuple -/
theorem de_gtup {x : Str} {l : Addr} {vs : List V} {ds : List D} (hm : X.mg x = some (.ref l)) (hs : SqT X.K (fun _ => none) l vs) (rv : ∀ M H, RpA X.K M H vs ds) (hg : Gl X x := by rfl) (hd : (x == ("__debug__" : Str)) = false := by decide) : DE X h (.Name x pos) (cK (.tup ds)) := ⟨fun δ Φ Ψ q => .mk fun B F G M σ H Q W tk' S q' _ =>
  eS_of (pe_glob hg hm (v := .ref l) rfl hd) (q' _ H _ (Gh.refl _ _) S (.tupK hs (rv M H)) q)⟩
/-- a class -/
theorem de_cls {x : Str} (hm : X.mg x = some (.ref (He.ga X.K x))) (hg : Gl X x := by rfl) (hd : (x == ("__debug__" : Str)) = false := by decide) : DE X h (.Name x pos) (cK (.cls x)) := ⟨fun δ Φ Ψ q => .mk fun B F G M σ H Q W tk' S q' _ =>
  eS_of (pe_glob hg hm (v := .ref (He.ga X.K x)) rfl hd) (q' _ H _ (Gh.refl _ _) S (.cls x) q)⟩
theorem de_ty {x : Str} (n : String) (hm : X.mg x = none) (hv : bootBuiltins x = some (.type n)) (hg : Gl X x := by rfl) (hn : x ≠ "__name__" := by decide) (hd : (x == ("__debug__" : Str)) = false := by decide) : DE X h (.Name x pos) (cK (.at_ (.ty n))) := ⟨fun δ Φ Ψ q => we_ty n hm q hv hg hn hd⟩
theorem da_nil : DA X h [] cNil := ⟨fun δ Φ Ψ q => wa_nil q⟩
theorem da_cons (w : DE X h e f) (w2 : DA X h es fa) (hs : starEach (e :: es) X.env = (false, eval e X.env) :: starEach es X.env := by rfl) : DA X h (e :: es) (cCons f fa) := ⟨fun δ Φ Ψ q =>
  wa_cons (w.run δ _ Ψ (T.sat_bindM _ q fun d q2 => w2.run δ _ Ψ (T.sat_bindM _ q2 fun ds q3 => q3))) hs⟩
theorem few_le {ds : List D} (k : few ds = true) : ds.length ≤ 100000 := by simpa [few] using k
theorem de_tup {j : Nat} (w : DA X h es fa) : DE X h (.Tuple es j pos) (cTup fa) := ⟨fun δ Φ Ψ q => we_tup (w.run δ _ Ψ (T.sat_bindM _ q fun ds q2 => ⟨few_le (T.sat_chk q2).1, (T.sat_chk q2).2⟩))⟩
theorem df_lst (w : DA X h es fa) : DF X h (.List es pos) (cLst fa) := ⟨fun δ Φ Ψ q => wf_lst (w.run δ _ Ψ (T.sat_bindM _ q fun ds q2 => ⟨few_le (T.sat_chk q2).1, (T.sat_chk q2).2⟩))⟩
theorem DF.de (w : DF X h e fa) : DE X h e (cFr fa) := ⟨fun δ Φ Ψ q => WF.we (w.run δ _ Ψ (T.sat_bindM _ q fun ds q2 => q2))⟩
/-! ### operators -/
theorem de_op {op : Operator} {r : R2} {S : D → D → (D → Prop) → Prop} {v : D → D → T D} (ho : OpR X (binaryOp op) r) (hS : OpS X h r S) (hv : ∀ {x y Φ Ψ}, (v x y).sat Φ Ψ → S x y Φ) (w : DE X h a f) (w2 : DE X h b g) : DE X h (.BinOp a op b pos) (cBin v f g) := ⟨fun δ Φ Ψ q =>
  we_op ho hS (w.run δ _ Ψ (T.sat_bindM _ q fun x q2 => w2.run δ _ Ψ (T.sat_bindM _ q2 fun y q3 => hv q3)))⟩
theorem inW_ok {i : Int} (k : inW i = true) : -(2 ^ 64) < i ∧ i < 2 ^ 64 := by
  simp only [inW, Bool.and_eq_true, decide_eq_true_eq] at k
  omega
theorem sI_chk {C : Int → Int → Prop} {gg : Int → Int → D} {x y : D} {P : Int → Int → Bool} (hP : ∀ i j, P i j = true → C i j) {v : D → D → T D} (hv : ∀ i j, v (.int i) (.int j) = .chk (P i j) (.ret (gg i j))) (hn : ∀ x y, (∀ i j, ¬ (x = .int i ∧ y = .int j)) → v x y = .stuck) (q : (v x y).sat Φ Ψ) : sI C gg x y Φ := by
  by_cases z : ∃ i j, x = .int i ∧ y = .int j
  · obtain ⟨i, j, rfl, rfl⟩ := z
    rw [hv] at q
    obtain ⟨k, q⟩ := T.sat_chk q
    exact ⟨hP i j k, q⟩
  · rw [hn x y fun i j y => z ⟨i, j, y⟩] at q
    exact q.elim
theorem de_sub (w : DE X h a f) (w2 : DE X h b g) : DE X h (.BinOp a .Sub b pos) (cBin vSub f g) := de_op op_sub opS_I0 (fun {x y Φ Ψ} q => by
  unfold vSub at q; split at q
  · exact ⟨True.intro, q⟩
  · exact q.elim) w w2
theorem de_div (w : DE X h a f) (w2 : DE X h b g) : DE X h (.BinOp a .FloorDiv b pos) (cBin vDiv f g) := de_op op_fdivW opS_I (fun {x y Φ Ψ} q => by
  unfold vDiv at q; split at q
  · obtain ⟨k, q⟩ := T.sat_chk q
    simp only [Bool.and_eq_true, decide_eq_true_eq] at k
    exact ⟨cdivW k.1 (inW_ok k.2).2, q⟩
  · exact q.elim) w w2
theorem de_mod (w : DE X h a f) (w2 : DE X h b g) : DE X h (.BinOp a .Mod b pos) (cBin vMod f g) := de_op op_mod opS_I (fun {x y Φ Ψ} q => by
  unfold vMod at q; split at q
  · obtain ⟨k, q⟩ := T.sat_chk q
    exact ⟨by simpa using k, q⟩
  · exact q.elim) w w2
theorem de_pow (w : DE X h a f) (w2 : DE X h b g) : DE X h (.BinOp a .Pow b pos) (cBin vPow f g) := de_op op_pow opS_I (fun {x y Φ Ψ} q => by
  unfold vPow at q; split at q
  · obtain ⟨k, q⟩ := T.sat_chk q
    simp only [Bool.and_eq_true, decide_eq_true_eq] at k
    refine ⟨cpow k.1 (by omega) ?_, q⟩
    have := inW_ok k.2.2
    omega
  · exact q.elim) w w2
theorem de_add (w : DE X h a f) (w2 : DE X h b g) : DE X h (.BinOp a .Add b pos) (cBin vAdd f g) := ⟨fun δ Φ Ψ q => we_add (w.run δ _ Ψ (T.sat_bindM _ q fun x q2 => w2.run δ _ Ψ (T.sat_bindM _ q2 fun y q3 => by
  unfold vAdd at q3
  split at q3
  · exact q3
  · obtain ⟨k, q3⟩ := T.sat_chk q3
    exact ⟨szOf (by simpa using k), q3⟩
  · obtain ⟨k, q3⟩ := T.sat_chk q3
    exact ⟨by simpa using k, q3⟩
  · obtain ⟨k, q3⟩ := T.sat_chk q3
    exact ⟨by simpa using k, q3⟩
  · exact q3.elim)))⟩
theorem de_mul (w : DE X h a f) (w2 : DE X h b g) : DE X h (.BinOp a .Mult b pos) (cBin vMul f g) := ⟨fun δ Φ Ψ q =>
  we_op (op_mul.or op_rep) (S := fun x y Φ => sI CMul (fun i j => .int (i * j)) x y Φ ∨ sRep x y Φ) (fun B F G M σ δ H x y dx dy Q Φ S r1 r2 k q => k.elim (fun k => .inl (opS_I (h := h) B F G M σ δ H x y dx dy Q Φ S r1 r2 k q)) fun k => .inr (opS_rep B F G M σ δ H x y dx dy Q Φ S r1 r2 k q)) (w.run δ _ Ψ (T.sat_bindM _ q fun x q2 => w2.run δ _ Ψ (T.sat_bindM _ q2 fun y q3 => by
    unfold vMul at q3
    split at q3
    · obtain ⟨k, q3⟩ := T.sat_chk q3
      refine .inl ⟨?_, q3⟩
      rcases Bool.or_eq_true_iff.mp k with k | k
      · exact cmulL (inW_ok k).1 (inW_ok k).2
      · exact cmulR (inW_ok k).1 (inW_ok k).2
    · obtain ⟨k, q3⟩ := T.sat_chk q3
      simp only [Bool.and_eq_true, decide_eq_true_eq] at k
      exact .inr ⟨k.1, k.2.1, k.2.2, q3⟩
    · exact q3.elim)))⟩
/-! ### comparisons, tests -/
theorem de_cmp {op : CmpOp} {r : R2} {v : D → D → T Bool} {S : D → D → (D → Prop) → Prop} (ho : OpR X (compareOp op) r) (hS : OpS X h r S) (hv : ∀ {x y Φ Ψ}, (v x y).sat (fun k => Φ (.bl k)) Ψ → S x y Φ) (w : DE X h a f) (w2 : DE X h b g) (hm : behindInMarks op b = false) : DE X h (.Compare a [op] [b] pos) (cB (bB v f g)) := ⟨fun δ Φ Ψ q =>
  we_cmp ho hS (w.run δ _ Ψ (T.sat_bindM _ (T.sat_bind.mp q) fun x q2 => w2.run δ _ Ψ (T.sat_bindM _ q2 fun y q3 => hv q3))) hm⟩
theorem dt_cmp {op : CmpOp} {r : R2} {v : D → D → T Bool} {S : D → D → (D → Prop) → Prop} (ho : OpR X (compareOp op) r) (hS : OpS X h r S) (hv : ∀ {x y Φ Ψ}, (v x y).sat (fun k => Φ (.bl k)) Ψ → S x y Φ) (w : DE X h a f) (w2 : DE X h b g) (hm : behindInMarks op b = false) : DT X h (.Compare a [op] [b] pos) (bB v f g) := ⟨fun δ Φ Ψ q =>
  wt_cmp ho hS (w.run δ _ Ψ (T.sat_bindM _ q fun x q2 => w2.run δ _ Ψ (T.sat_bindM _ q2 fun y q3 => hv (T.sat_mono (fun k z => ⟨k, rfl, z⟩) (fun _ _ z => z) q3)))) hm⟩
theorem vLt_ok {x y : D} {Ψ : Str → List (Str × D) → Prop} (q : (vLt x y).sat (fun k => Φ (.bl k)) Ψ) : sI (fun _ _ => True) (fun i j => .bl (decide (i < j))) x y Φ := by
  unfold vLt at q; split at q
  · exact ⟨True.intro, q⟩
  · exact q.elim
theorem vLe_ok {x y : D} {Ψ : Str → List (Str × D) → Prop} (q : (vLe x y).sat (fun k => Φ (.bl k)) Ψ) : sI (fun _ _ => True) (fun i j => .bl (decide (i ≤ j))) x y Φ := by
  unfold vLe at q; split at q
  · exact ⟨True.intro, q⟩
  · exact q.elim
theorem vGt_ok {x y : D} {Ψ : Str → List (Str × D) → Prop} (q : (vGt x y).sat (fun k => Φ (.bl k)) Ψ) : sI (fun _ _ => True) (fun i j => .bl (decide (j < i))) x y Φ := by
  unfold vGt at q; split at q
  · exact ⟨True.intro, q⟩
  · exact q.elim
theorem vGe_ok {x y : D} {Ψ : Str → List (Str × D) → Prop} (q : (vGe x y).sat (fun k => Φ (.bl k)) Ψ) : sI (fun _ _ => True) (fun i j => .bl (decide (j ≤ i))) x y Φ := by
  unfold vGe at q; split at q
  · exact ⟨True.intro, q⟩
  · exact q.elim
theorem shp_ok {x y : D} (k : (shp x && shp y) = true) : ∃ p q, x.py = some p ∧ y.py = some q ∧ SeqAt.shaped p = true ∧ SeqAt.shaped q = true ∧ dEq x y = PyData.eqv p q := by
  simp only [Bool.and_eq_true, shp] at k
  obtain ⟨k1, k2⟩ := k
  cases h1 : x.py with
  | none => rw [h1] at k1; cases k1
  | some p => cases h2 : y.py with
    | none => rw [h2] at k2; cases k2
    | some q =>
      rw [h1] at k1
      rw [h2] at k2
      exact ⟨p, q, rfl, rfl, k1, k2, by unfold dEq; rw [h1, h2]⟩
theorem vEqD_ok {x y : D} {Ψ : Str → List (Str × D) → Prop} (q : (vEqD x y).sat (fun k => Φ (.bl k)) Ψ) : sEqD x y fun k => Φ (.bl k) := by
  obtain ⟨k, q⟩ := T.sat_chk q
  obtain ⟨p, q', e1, e2, s1, s2, e⟩ := shp_ok k
  exact ⟨p, q', e1, e2, s1, s2, by rw [← e]; exact q⟩
theorem vNeD_ok {x y : D} {Ψ : Str → List (Str × D) → Prop} (q : (vNeD x y).sat (fun k => Φ (.bl k)) Ψ) : sEqD x y fun k => Φ (.bl (!k)) := by
  obtain ⟨k, q⟩ := T.sat_chk q
  obtain ⟨p, q', e1, e2, s1, s2, e⟩ := shp_ok k
  exact ⟨p, q', e1, e2, s1, s2, by rw [← e]; exact q⟩
theorem de_lt (w : DE X h a f) (w2 : DE X h b g) : DE X h (.Compare a [.Lt] [b] pos) (cB (bB vLt f g)) := de_cmp op_lt opS_B0 vLt_ok w w2 (nomark _)
theorem de_le (w : DE X h a f) (w2 : DE X h b g) : DE X h (.Compare a [.LtE] [b] pos) (cB (bB vLe f g)) := de_cmp op_le opS_B0 vLe_ok w w2 (nomark _)
theorem de_gt (w : DE X h a f) (w2 : DE X h b g) : DE X h (.Compare a [.Gt] [b] pos) (cB (bB vGt f g)) := de_cmp op_gt opS_B0 vGt_ok w w2 (nomark _)
theorem de_ge (w : DE X h a f) (w2 : DE X h b g) : DE X h (.Compare a [.GtE] [b] pos) (cB (bB vGe f g)) := de_cmp op_ge opS_B0 vGe_ok w w2 (nomark _)
theorem dt_lt (w : DE X h a f) (w2 : DE X h b g) : DT X h (.Compare a [.Lt] [b] pos) (bB vLt f g) := dt_cmp op_lt opS_B0 vLt_ok w w2 (nomark _)
theorem dt_le (w : DE X h a f) (w2 : DE X h b g) : DT X h (.Compare a [.LtE] [b] pos) (bB vLe f g) := dt_cmp op_le opS_B0 vLe_ok w w2 (nomark _)
theorem dt_gt (w : DE X h a f) (w2 : DE X h b g) : DT X h (.Compare a [.Gt] [b] pos) (bB vGt f g) := dt_cmp op_gt opS_B0 vGt_ok w w2 (nomark _)
theorem dt_ge (w : DE X h a f) (w2 : DE X h b g) : DT X h (.Compare a [.GtE] [b] pos) (bB vGe f g) := dt_cmp op_ge opS_B0 vGe_ok w w2 (nomark _)
theorem opS_eqD : OpS X h (rEqD X.K) (fun x y Φ => sEqD x y fun k => Φ (.bl k)) := fun B F G M σ δ H x y dx dy Q Φ S r1 r2 ⟨p, q', e1, e2, s1, s2, k⟩ q => ⟨p, q', rp_dp r1 e1, rp_dp r2 e2, s1, s2, Ans.now q S (.bl _) k⟩
theorem opS_neD : OpS X h (rNeD X.K) (fun x y Φ => sEqD x y fun k => Φ (.bl (!k))) := fun B F G M σ δ H x y dx dy Q Φ S r1 r2 ⟨p, q', e1, e2, s1, s2, k⟩ q => ⟨p, q', rp_dp r1 e1, rp_dp r2 e2, s1, s2, Ans.now q S (.bl _) k⟩
theorem de_eq {n : Nat} (hr : Room n X.A) (w : DE X h a f) (w2 : DE X h b g) : DE X h (.Compare a [.Eq] [b] pos) (cB (bB vEqD f g)) := de_cmp (op_eqD hr.units) opS_eqD vEqD_ok w w2 (nomark _)
theorem de_ne {n : Nat} (hr : Room n X.A) (w : DE X h a f) (w2 : DE X h b g) : DE X h (.Compare a [.NotEq] [b] pos) (cB (bB vNeD f g)) := de_cmp (op_neD hr.units) opS_neD vNeD_ok w w2 (nomark _)
theorem dt_eq {n : Nat} (hr : Room n X.A) (w : DE X h a f) (w2 : DE X h b g) : DT X h (.Compare a [.Eq] [b] pos) (bB vEqD f g) := dt_cmp (op_eqD hr.units) opS_eqD vEqD_ok w w2 (nomark _)
theorem dt_ne {n : Nat} (hr : Room n X.A) (w : DE X h a f) (w2 : DE X h b g) : DT X h (.Compare a [.NotEq] [b] pos) (bB vNeD f g) := dt_cmp (op_neD hr.units) opS_neD vNeD_ok w w2 (nomark _)
theorem blT_sat {d : D} {Φb : Bool → Prop} {Ψ : Str → List (Str × D) → Prop} (q : (blT d).sat Φb Ψ) : ∃ k, d = .bl k ∧ Φb k := by
  unfold blT at q; split at q
  · exact ⟨_, rfl, q⟩
  · exact q.elim
theorem dt_val (w : DE X h e f) (he : ∀ whole, isTrue e X.env whole = (do let v ← whole; standAt e.pos; holding [v] (truthy v)) := by intro _; rfl) : DT X h e (bV f) := ⟨fun δ Φ Ψ q => wt_val (w.run δ _ Ψ (T.sat_bindM _ q fun d q2 => blT_sat q2)) he⟩
theorem DW.dt (w : DW X h e t) : DT X h e t := ⟨fun δ Φ Ψ q => wt_w (w.run δ Φ Ψ q)⟩
theorem dw_and1 (w : DT X h a t) : DW X h (.BoolOp .And [a] pos) t := ⟨fun δ Φ Ψ q => ww_and1 (w.run δ Φ Ψ q)⟩
theorem dw_or1 (w : DT X h a t) : DW X h (.BoolOp .Or [a] pos) t := ⟨fun δ Φ Ψ q => ww_or1 (w.run δ Φ Ψ q)⟩
theorem dw_and (w : DT X h a t) (w2 : DW X h (.BoolOp .And (b :: es) pos) u) : DW X h (.BoolOp .And (a :: b :: es) pos) (bAnd t u) := ⟨fun δ Φ Ψ q => ww_and (w.run δ _ Ψ (T.sat_bindM _ q fun k q2 => by
  cases k with
  | true => exact w2.run δ Φ Ψ q2
  | false => exact q2))⟩
theorem dw_or (w : DT X h a t) (w2 : DW X h (.BoolOp .Or (b :: es) pos) u) : DW X h (.BoolOp .Or (a :: b :: es) pos) (bOr t u) := ⟨fun δ Φ Ψ q => ww_or (w.run δ _ Ψ (T.sat_bindM _ q fun k q2 => by
  cases k with
  | true => exact q2
  | false => exact w2.run δ Φ Ψ q2))⟩
theorem dt_not (w : DT X h a t) : DT X h (.UnaryOp .Not a pos) (bNot t) := ⟨fun δ Φ Ψ q => wt_not (w.run δ _ Ψ (T.sat_bindM _ q fun k q2 => q2))⟩
theorem de_one {op : BoolOp} (w : DE X h a f) : DE X h (.BoolOp op [a] pos) f := ⟨fun δ Φ Ψ q => we_one (w.run δ Φ Ψ q)⟩
theorem de_and (w : DE X h a f) (w2 : DE X h (.BoolOp .And (b :: es) pos) g) : DE X h (.BoolOp .And (a :: b :: es) pos) (cAnd f g) := ⟨fun δ Φ Ψ q => we_and (w.run δ _ Ψ (T.sat_bindM _ q fun d q2 => by
  obtain ⟨k, e, q3⟩ := blT_sat (T.sat_bind.mp q2)
  refine ⟨k, e, ?_⟩
  cases k with
  | true => exact w2.run δ Φ Ψ q3
  | false => exact q3))⟩
theorem de_or (w : DE X h a f) (w2 : DE X h (.BoolOp .Or (b :: es) pos) g) : DE X h (.BoolOp .Or (a :: b :: es) pos) (cOr f g) := ⟨fun δ Φ Ψ q => we_or (w.run δ _ Ψ (T.sat_bindM _ q fun d q2 => by
  obtain ⟨k, e, q3⟩ := blT_sat (T.sat_bind.mp q2)
  refine ⟨k, e, ?_⟩
  cases k with
  | true => exact q3
  | false => exact w2.run δ Φ Ψ q3))⟩
theorem de_not (w : DE X h a f) : DE X h (.UnaryOp .Not a pos) (cNot f) := ⟨fun δ Φ Ψ q => we_not (w.run δ _ Ψ (T.sat_bindM _ q fun d q2 => by
  obtain ⟨k, e, q3⟩ := blT_sat (T.sat_bind.mp q2)
  exact ⟨k, e, q3⟩))⟩
theorem de_ifx (w : DT X h c t) (w2 : DE X h a f) (w3 : DE X h b g) : DE X h (.IfExp c a b pos) (cIfx t f g) := ⟨fun δ Φ Ψ q => we_ifx (w.run δ _ Ψ (T.sat_bindM _ q fun k q2 => by
  cases k with
  | true => exact w2.run δ Φ Ψ q2
  | false => exact w3.run δ Φ Ψ q2))⟩
theorem isNon_ok {d : D} {Φb : Bool → Prop} {Ψ : Str → List (Str × D) → Prop} (q : (isNon d).sat Φb Ψ) : sIsN d Φb := by
  unfold isNon at q; split at q
  · exact q.elim
  · exact q
  · rename_i n1 n2
    cases d <;> first | exact q | exact absurd rfl (n1 _) | exact absurd rfl n2
def bNon (f : EF) : BF := fun δ => (f δ).bind isNon
theorem dt_isN {j : Nat} {p' : Pos} (w : DE X h a f) : DT X h (.Compare a [.Is] [.Constant .none j p'] pos) (bNon f) := ⟨fun δ Φ Ψ q => wt_isN (w.run δ _ Ψ (T.sat_bindM _ q fun d q2 => isNon_ok q2))⟩
theorem dt_notN {j : Nat} {p' : Pos} (w : DE X h a f) : DT X h (.Compare a [.IsNot] [.Constant .none j p'] pos) (bNot (bNon f)) := ⟨fun δ Φ Ψ q => wt_notN (w.run δ _ Ψ (T.sat_bindM _ (T.sat_bind.mp q) fun d q2 => isNon_ok q2))⟩
theorem de_isN {j : Nat} {p' : Pos} (w : DE X h a f) : DE X h (.Compare a [.Is] [.Constant .none j p'] pos) (cB (bNon f)) := ⟨fun δ Φ Ψ q => we_isN (w.run δ _ Ψ (T.sat_bindM _ (T.sat_bind.mp q) fun d q2 => isNon_ok q2))⟩
theorem de_notN {j : Nat} {p' : Pos} (w : DE X h a f) : DE X h (.Compare a [.IsNot] [.Constant .none j p'] pos) (cB (bNot (bNon f))) := ⟨fun δ Φ Ψ q => we_notN (w.run δ _ Ψ (T.sat_bindM _ (T.sat_bind.mp (T.sat_bind.mp q)) fun d q2 => isNon_ok (Φb := fun k => Φ (.bl (!k))) q2))⟩
/-! ### subscripts, built-in calls -/
theorem de_ix (w : DE X h a f) (w2 : DE X h b g) (hs : PlainIx b := by intro _ _; rfl) : DE X h (.Subscript a b pos) (cBin vIx f g) := ⟨fun δ Φ Ψ q => we_ix (w.run δ _ Ψ (T.sat_bindM _ q fun x q2 => w2.run δ _ Ψ (T.sat_bindM _ q2 fun y q3 => by
  unfold vIx at q3
  split at q3
  · split at q3
    · rename_i e
      exact ⟨_, e, q3⟩
    · exact q3.elim
  · split at q3
    · rename_i e
      exact ⟨_, e, q3⟩
    · exact q3.elim
  · obtain ⟨k, q3⟩ := T.sat_chk q3
    split at q3
    · rename_i e
      exact ⟨_, szOf (by simpa using k), e, q3⟩
    · exact q3.elim
  · exact q3.elim))) hs⟩
theorem de_len {x : Str} (hx : x = "len") (hm : X.mg x = none) (w : DA X h (e :: es) fa) (hg : Gl X x := by rfl) (hn : x ≠ "__name__" := by decide) (hdb : (x == ("__debug__" : Str)) = false := by decide)
    (he : starEach (e :: es) X.env = (false, eval e X.env) :: starEach es X.env := by rfl) (hpl : (backTo pos (starEach es X.env)).any (·.1) = false := by rfl) : DE X h (.Call (.Name x p) (e :: es) [] pos) (cCall vLen fa) := ⟨fun δ Φ Ψ q => we_len hx hm (w.run δ _ Ψ (T.sat_bindM _ q fun ds q2 => by
  unfold vLen at q2
  split at q2
  · exact q2
  · exact q2
  · obtain ⟨k, q2⟩ := T.sat_chk q2
    exact ⟨szOf (by simpa using k), q2⟩
  · exact q2.elim)) hg hn hdb he hpl⟩
theorem de_intc {x : Str} (hx : x = "int") (hm : X.mg x = none) (w : DA X h (e :: es) fa) (hg : Gl X x := by rfl) (hn : x ≠ "__name__" := by decide) (hdb : (x == ("__debug__" : Str)) = false := by decide)
    (he : starEach (e :: es) X.env = (false, eval e X.env) :: starEach es X.env := by rfl) (hpl : (backTo pos (starEach es X.env)).any (·.1) = false := by rfl) : DE X h (.Call (.Name x p) (e :: es) [] pos) (cCall vInt fa) := ⟨fun δ Φ Ψ q => we_intc hx hm (w.run δ _ Ψ (T.sat_bindM _ q fun ds q2 => by
  unfold vInt at q2
  split at q2
  · exact q2
  · exact q2
  · exact q2.elim)) hg hn hdb he hpl⟩
theorem de_abs {x : Str} (hx : x = "abs") (hm : X.mg x = none) (w : DA X h (e :: es) fa) (hg : Gl X x := by rfl) (hn : x ≠ "__name__" := by decide) (hdb : (x == ("__debug__" : Str)) = false := by decide)
    (he : starEach (e :: es) X.env = (false, eval e X.env) :: starEach es X.env := by rfl) (hpl : (backTo pos (starEach es X.env)).any (·.1) = false := by rfl) : DE X h (.Call (.Name x p) (e :: es) [] pos) (cCall vAbs fa) := ⟨fun δ Φ Ψ q => we_abs hx hm (w.run δ _ Ψ (T.sat_bindM _ q fun ds q2 => by
  unfold vAbs at q2
  split at q2
  · exact q2
  · exact q2.elim)) hg hn hdb he hpl⟩
theorem de_tuple {x : Str} (hx : x = "tuple") (hm : X.mg x = none) (w : DA X h (e :: es) fa) (hg : Gl X x := by rfl) (hn : x ≠ "__name__" := by decide) (hdb : (x == ("__debug__" : Str)) = false := by decide)
    (he : starEach (e :: es) X.env = (false, eval e X.env) :: starEach es X.env := by rfl) (hpl : (backTo pos (starEach es X.env)).any (·.1) = false := by rfl) : DE X h (.Call (.Name x p) (e :: es) [] pos) (cCall vTuple fa) := ⟨fun δ Φ Ψ q => we_tuple hx hm (w.run δ _ Ψ (T.sat_bindM _ q fun ds q2 => by
  unfold vTuple at q2
  split at q2
  · exact q2
  · exact q2
  · exact q2.elim)) hg hn hdb he hpl⟩
end
end Ud

set_option Elab.async false
set_option linter.all false
set_option maxRecDepth 100000
set_option maxHeartbeats 4000000
/-! Comprehensions. -/
namespace Ud
open PySem PySem.Spec PyProof.Rows L2 Uc
def wipeD (δ : List Sl) : List Nat → List Sl
  | [] => δ
  | i :: is => (wipeD δ is).set i .no
theorem SD.wipe {K : PySem.W.Frag} {h : Option Hd} {B : Addr → Prop} {F : Addr → HO → Prop} {G : V → D → Prop} {M : Addr → Prop} {H : Hp} {σ : L2.St} {δ : List Sl} (S : SD K h B F G M H σ δ) : ∀ is : List Nat, SD K h B F G M H (wipe σ is) (wipeD δ is)
  | [] => S
  | i :: is => (SD.wipe S is).setN i
theorem wipe_wipe (σ : L2.St) : ∀ (is all : List Nat), (∀ i ∈ is, i ∈ all) → wipe (wipe σ is) all = wipe σ all
  | [], _, _ => rfl
  | i :: is, all, h => by
    show wipe ((wipe σ is).set i none) all = _
    rw [set_none_swap _ i none all (h i List.mem_cons_self)]
    exact wipe_wipe σ is all fun j hj => h j (List.mem_cons_of_mem _ hj)
def T.nox {α : Type} : T α → T α
  | .ret a => .ret a
  | .ex _ _ => .stuck
  | .stuck => .stuck
  | .draw n k => .draw n fun i => (k i).nox
theorem T.sat_nox {α : Type} {Φ : α → Prop} {Ψ : Str → List (Str × D) → Prop} : ∀ {t : T α}, t.nox.sat Φ Ψ → t.sat Φ noX
  | .ret a, q => q
  | .ex _ _, q => q.elim
  | .stuck, q => q
  | .draw n k, q => ⟨q.1, fun i h0 h1 => T.sat_nox (q.2 i h0 h1)⟩
structure DI (X : Cx) (h : Option Hd) (tg iter : Expr) (wi : TI) (f : AF) : Prop where
  pi : PI X tg iter wi
  run : ∀ δ Φ Ψ, (f δ).sat Φ Ψ → WI X h wi δ Φ Ψ
/-- the items of a walked value -/
def itV (d : D) : T (List D) := match seqOf d with
  | some ds => .ret ds
  | none => .stuck
def cIt (f : EF) : AF := fun δ => (f δ).bind itV
def rngV1 : List D → T (List D)
  | [.int n] => .chk (decide (-1000000 ≤ n) && decide (n ≤ 1000000)) (.ret (rng 0 n.toNat))
  | _ => .stuck
def rngV2 : List D → T (List D)
  | [.int lo, .int hi] => .chk (decide (-1000000 ≤ lo) && (decide (lo ≤ 1000000) && (decide (-1000000 ≤ hi) && decide (hi ≤ 1000000)))) (.ret (rng lo (hi - lo).toNat))
  | _ => .stuck
def cRng1 (f : AF) : AF := fun δ => (f δ).bind rngV1
def cRng2 (f : AF) : AF := fun δ => (f δ).bind rngV2
section
variable {X : Cx} {h : Option Hd} {δ : List Sl} {P : Po} {Ψ : Str → List (Str × D) → Prop} {a b c e : Expr} {es : List Expr} {pos p pr : Pos} {st : Stmt} {rest body orelse : List Stmt} {Φ : List D → Prop} {f g : EF} {fa : AF} {tst : BF} {sf : SF}
theorem di_seq {tg : Expr} (w : DE X h e f) : DI X h tg e (iSeq X.K (eS X e)) (cIt f) := ⟨pi_seq peS, fun δ Φ Ψ q => wi_seq (w.run δ _ Ψ (T.sat_bindM _ q fun d q2 => by
  unfold itV at q2
  split at q2
  · rename_i ds e
    exact ⟨ds, e, q2⟩
  · exact q2.elim))⟩
theorem di_rng1 {tg : Expr} (hm : X.mg "range" = none) (w : DE X h a f) (hg : Gl X "range" := by rfl) (hs : starEach [a] X.env = [(false, eval a X.env)] := by rfl) : DI X h tg (.Call (.Name "range" pr) [a] [] pos) (iRng1 (tCons (eS X a) tNil)) (cRng1 (cCons f cNil)) := ⟨pi_range1 hg hm (pa_cons peS pa_nil hs) hs, fun δ Φ Ψ q => wi_rng1 (w.run δ _ Ψ (T.sat_bindM _ (T.sat_bind.mp q) fun d q2 => by
  have q3 : (rngV1 [d]).sat Φ Ψ := q2
  unfold rngV1 at q3
  split at q3
  · rename_i n e
    cases e
    obtain ⟨k, q3⟩ := T.sat_chk q3
    simp only [Bool.and_eq_true, decide_eq_true_eq] at k
    exact ⟨n, rfl, k.1, k.2, q3⟩
  · exact q3.elim)) hs⟩
theorem di_rng2 {tg : Expr} (hm : X.mg "range" = none) (w : DA X h [a, b] fa) (hg : Gl X "range" := by rfl) (hs : starEach [a, b] X.env = [(false, eval a X.env), (false, eval b X.env)] := by rfl) (hs2 : starEach [b] X.env = [(false, eval b X.env)] := by rfl) : DI X h tg (.Call (.Name "range" pr) [a, b] [] pos) (iRng2 (aS X [a, b])) (cRng2 fa) := ⟨pi_range2 hg hm paS hs hs2, fun δ Φ Ψ q => wi_rng2 (w.run δ _ Ψ (T.sat_bindM _ q fun ds q3 => by
  unfold rngV2 at q3
  split at q3
  · rename_i lo hi
    obtain ⟨k, q3⟩ := T.sat_chk q3
    simp only [Bool.and_eq_true, decide_eq_true_eq] at k
    exact ⟨lo, hi, rfl, k.1, k.2.1, k.2.2.1, k.2.2.2, q3⟩
  · exact q3.elim))⟩
/-! ### for -/
def goF (put : D → List Sl → Option (List Sl)) (body : SF) : List D → List Sl → T Fl
  | [], δ => .ret (.nx δ)
  | d :: ds, δ => match put d δ with
    | none => .stuck
    | some δ2 => (body δ2).bind fun
      | .nx δ' => goF put body ds δ'
      | .ct δ' => goF put body ds δ'
      | .bk δ' => .ret (.nx δ')
      | .rt d => .ret (.rt d)
      | .ex δ' C fs => .ret (.ex δ' C fs)
def gFor (f : AF) (put : D → List Sl → Option (List Sl)) (body : SF) : SF := fun δ => (f δ).on δ fun ds => goF put body ds δ
theorem ds_for {tg iter : Expr} {wi : TI} {g : TG} {is : List Nat} {put : D → List Sl → Option (List Sl)} (hp : PassesOwn (model X.prog X.w) X.A X.env X.xe) (i : DI X h tg iter wi fa) (t : Tg X tg g is put) (w : DB X h body sf)
    (hc : X.calm = true := by rfl) (hfs : ∀ y, foldedSetIterable iter X.env y = pure y := by intro _; rfl) : DS X h (.For tg iter body [] pos) (gFor fa put sf) := ⟨fun δ P q => by
  refine ws_forG hp i.pi t (i.run δ _ _ (T.sat_onM _ q fun ds q2 => ?_)) hc hfs
  refine ⟨fun k δ' => (goF put sf (ds.drop k) δ').sat P.of noX, q2, fun k δ' d hd hI => ?_, fun δ' hI => ?_⟩
  · have hk : k < ds.length := (List.getElem?_eq_some_iff.mp hd).1
    have ed : ds.drop k = d :: ds.drop (k + 1) := by
      rw [List.drop_eq_getElem_cons hk]
      have := (List.getElem?_eq_some_iff.mp hd).2
      rw [this]
    dsimp only at hI
    rw [ed] at hI
    unfold goF at hI
    cases e : put d δ' with
    | none => rw [e] at hI; exact hI.elim
    | some δ2 =>
      rw [e] at hI
      refine ⟨δ2, rfl, w.run δ2 _ (T.sat_bindM _ hI fun fl z => ?_)⟩
      cases fl with
      | nx _ => exact z
      | ct _ => exact z
      | bk _ => exact z
      | rt _ => exact z
      | ex _ _ _ => exact z
  · dsimp only at hI
    rw [List.drop_length] at hI
    exact hI⟩
/-! ### the turn of a comprehension -/
def LcP (X : Cx) (h : Option Hd) (M : Addr → Prop) (H1 : Hp) (Dl : Addr) (I : Nat → List D → Prop) (k : Nat) (H' : Hp) : Prop :=
  ∃ xs acc, Gh h H1 H' ∧ HandOk h (fun a => M a ∨ a = Dl) H' ∧ H' Dl = some (.lst xs) ∧ RpA X.K (fun a => M a ∨ a = Dl) H' xs acc ∧ acc.length ≤ k ∧ I k acc
abbrev Blk (X : Cx) (scope : Scope) (Pr : Cx → Prop) : Prop := ∀ (s0 : Shared) (H0 : Hp) (C : Addr) (cl : List (Str × Addr)) (fp : List Addr), Pr (X.blk s0 H0 scope (compEnvC scope cl C X.env) fp)
/-- an expression, a test within the block -/
def eB (X : Cx) (scope : Scope) (elt : Expr) : TE := fun σ H Q => Blk X scope fun Y => eS Y elt σ H Q
def tB1 (X : Cx) (scope : Scope) (c : Expr) : TT := fun σ H Q => Blk X scope fun Y => tS Y c σ H Q
def tBs (X : Cx) (scope : Scope) : List Expr → TT
  | [c] => tB1 X scope c
  | _ => tYes
theorem lc_first {B : Addr → Prop} {F : Addr → HO → Prop} {G : V → D → Prop} {M : Addr → Prop} {H1 : Hp} {σ : L2.St} {Dl : Addr} {I : Nat → List D → Prop} (S1 : SD X.K h B F G M H1 σ δ) (hD : H1 Dl = none) (i0 : I 0 []) : LcP X h M H1 Dl I 0 (upd H1 Dl (.lst [])) := by
  exact ⟨[], [], Gh.new hD, S1.hand.up hD, upd_same, .nil, Nat.le_refl _, i0⟩
theorem tests_ok {scope : Scope} {ifs : List Expr} (one : ifs = [] ∨ ∃ c, ifs = [c]) : ∀ (s : Shared) (H : Hp) (C : Addr) (cl : List (Str × Addr)) (fp : List Addr), PTs (X.blk s H scope (compEnvC scope cl C X.env) fp) ifs (tBs X scope ifs) := fun s H C cl fp => by
  rcases one with rfl | ⟨c, rfl⟩
  · exact pts_nil
  · exact pts_one ⟨fun pins s' σ H' Q I hh => hh s H C cl fp pins s' I⟩
theorem elt_ok {scope : Scope} {elt : Expr} : ∀ (s : Shared) (H : Hp) (C : Addr) (cl : List (Str × Addr)) (fp : List Addr), PE (X.blk s H scope (compEnvC scope cl C X.env) fp) elt (eB X scope elt) := fun s0 H0 C cl fp => ⟨fun pins s σ H Q I hh => hh s0 H0 C cl fp pins s I⟩
/-- the tests and the item of a turn -/
structure DC (X : Cx) (h : Option Hd) (scope : Scope) (ifs : List Expr) (elt : Expr) (tst : BF) (g : EF) : Prop where
  one : (ifs = [] ∧ ∀ δ, tst δ = .ret true) ∨ ∃ c, ifs = [c] ∧ Blk X scope fun Y => DT Y h c tst
  elt : Blk X scope fun Y => DE Y h elt g
def bYes : BF := fun _ => .ret true
theorem dc_all {scope : Scope} {elt : Expr} (w : Blk X scope fun Y => DE Y h elt g) : DC X h scope [] elt bYes g := ⟨.inl ⟨rfl, fun _ => rfl⟩, w⟩
theorem dc_if {scope : Scope} {elt : Expr} (t : Blk X scope fun Y => DT Y h c tst) (w : Blk X scope fun Y => DE Y h elt g) : DC X h scope [c] elt tst g := ⟨.inr ⟨c, rfl, t⟩, w⟩
theorem DC.ifs {scope : Scope} {ifs : List Expr} {elt : Expr} (d : DC X h scope ifs elt tst g) : ifs = [] ∨ ∃ c, ifs = [c] := d.one.elim (fun z => .inl z.1) fun ⟨c, z, _⟩ => .inr ⟨c, z⟩
/-- what is asked of a turn whose slots are δ2 -/
def turnT (tst : BF) (g : EF) (δ2 : List Sl) (yes : D → Prop) (no : Prop) : Prop := (tst δ2).sat (fun b => if b = true then (g δ2).sat yes noX else no) noX
theorem lc_turn {B : Addr → Prop} {F : Addr → HO → Prop} {G : V → D → Prop} {M : Addr → Prop} {H1 H' : Hp} {σ3 : L2.St} {Dl : Addr} {I : Nat → List D → Prop} {scope : Scope} {ifs : List Expr} {elt : Expr} {k : Nat} {xs : List V} {acc : List D} {δ2 : List Sl}
    (dc : DC X h scope ifs elt tst g) (S3 : SD X.K h B (fun b o => F b o ∨ (b = Dl ∧ o = .lst xs)) G (fun a => M a ∨ a = Dl) H' σ3 δ2) (hD : H1 Dl = none) (gH : Gh h H1 H') (rxs : RpA X.K (fun a => M a ∨ a = Dl) H' xs acc) (hl : acc.length ≤ k) (hk : k < 90000) (hh : HandOk h M H1)
    (turn : turnT tst g δ2 (fun d => I (k + 1) (acc ++ [d])) (I (k + 1) acc)) :
    tBs X scope ifs σ3 H' fun b H3 => if b = true then eB X scope elt σ3 H3 fun y H4 => ∃ acc, H4 Dl = some (.lst acc) ∧ acc.length < sizeLine ∧ LcP X h M H1 Dl I (k + 1) (upd H4 Dl (.lst (acc ++ [y]))) else LcP X h M H1 Dl I (k + 1) H3 := by
  have item : ∀ {H3 : Hp}, Gh h H' H3 → SD X.K h B (fun b o => F b o ∨ (b = Dl ∧ o = .lst xs)) G (fun a => M a ∨ a = Dl) H3 σ3 δ2 → (g δ2).sat (fun d => I (k + 1) (acc ++ [d])) noX →
      eB X scope elt σ3 H3 fun y H4 => ∃ acc, H4 Dl = some (.lst acc) ∧ acc.length < sizeLine ∧ LcP X h M H1 Dl I (k + 1) (upd H4 Dl (.lst (acc ++ [y]))) := fun {H3} g3 S3' tr s0 H0 C cl fp => by
    refine ((dc.elt s0 H0 C cl fp).run δ2 _ noX tr).run B _ G _ _ H3 _ (fun _ _ _ _ => False) takes0 S3' (fun v H4 d g4 S4 r4 hI' => ?_) (fun C od H' fs g S ed f => f.elim)
    have hx4 := S4.fk _ _ (.inr ⟨rfl, rfl⟩)
    refine ⟨xs, hx4, szLt (by rw [rxs.length]; omega), xs ++ [v], acc ++ [d], ?_, S4.hand.put (.inr rfl) fun z e y => ?_, upd_same, ?_, by simp; omega, hI'⟩
    · intro b o nb z
      rw [upd_ne (ne_of_none z hD)]
      exact g4 b o nb (g3 b o nb (gH b o nb z))
    · obtain ⟨_, ⟨_, k1, _⟩, _⟩ := hh z e
      exact ne_of_none k1 hD y.symm
    · have gr : Gr (fun a => M a ∨ a = Dl) H4 (upd H4 Dl (.lst (xs ++ [v]))) := fun b o nb z => by rw [upd_ne (fun y => nb (.inr y))]; exact z
      exact ((rxs.mono ((g3.trans g4).gr S3.hand)).append (.cons r4 .nil)).mono gr
  rcases dc.one with ⟨rfl, et⟩ | ⟨c, rfl, dt⟩
  · unfold turnT at turn
    rw [et] at turn
    exact item (Gh.refl _ _) S3 turn
  · intro s0 H0 C cl fp
    refine ((dt s0 H0 C cl fp).run δ2 _ noX turn).run B _ G _ _ H' _ (fun _ _ _ _ => False) takes0 S3 (fun b H3 g3 S3' f => ?_) (fun C od H' fs g S ed f => f.elim)
    cases b with
    | true => exact item g3 S3' f
    | false => exact ⟨xs, acc, gH.trans g3, S3'.hand, S3'.fk _ _ (.inr ⟨rfl, rfl⟩), rxs.mono (g3.gr S3.hand), by omega, f⟩
/-- a comprehension's reading -/
structure WL (X : Cx) (h : Option Hd) (wi : TI) (gt : TG) (is : List Nat) (scope : Scope) (ifs : List Expr) (elt : Expr) (δ : List Sl) (Φ : List D → Prop) (Ψ : Str → List (Str × D) → Prop) : Prop where
  run : ∀ (B : Addr → Prop) (F : Addr → HO → Prop) (G : V → D → Prop) (M : Addr → Prop) (σ : L2.St) (H : Hp) (Q : VK) (W : WX), Takes X W → SD X.K h B F G M H σ δ →
    (∀ p H' xs ds, Gh h H H' → SD X.K h B F G M H' σ δ → H p = none → H' p = some (.lst xs) → RpA X.K (fun a => M a ∨ a = p) H' xs ds → Φ ds → Q (.ref p) H') →
    (∀ C od H' fs, Gh h H H' → SD X.K h B F G M H' σ δ → ExcD X.K M H' fs od → Ψ C fs → W (.ref (He.ga X.K C)) od σ H') → tLc wi gt (tBs X scope ifs) (eB X scope elt) is σ H Q
theorem lc_end {B : Addr → Prop} {F : Addr → HO → Prop} {G : V → D → Prop} {M : Addr → Prop} {H H1 H' : Hp} {σ : L2.St} {Dl : Addr} {I : Nat → List D → Prop} {k : Nat} {Φ : List D → Prop} {Q : VK} (S1 : SD X.K h B F G M H1 σ δ) (g1 : Gh h H H1) (hD : H1 Dl = none)
    (q : ∀ p H' xs ds, Gh h H H' → SD X.K h B F G M H' σ δ → H p = none → H' p = some (.lst xs) → RpA X.K (fun a => M a ∨ a = p) H' xs ds → Φ ds → Q (.ref p) H') (hI : LcP X h M H1 Dl I k H') (fin : ∀ acc, acc.length ≤ k → I k acc → Φ acc) : Q (.ref Dl) H' := by
  obtain ⟨xs, acc, gH, hand', hxs, rxs, hl, hI⟩ := hI
  have hand0 : HandOk h M H' := hand'.down (fun a z => .inl z) fun z e => (S1.hand z e).1
  exact q Dl H' xs acc (g1.trans gH) (S1.step gH hand0) (Gh.free S1 g1 hD) hxs rxs (fin acc hl hI)
/-- own things are not the new list -/
theorem SD.addNew {K : PySem.W.Frag} {B : Addr → Prop} {F : Addr → HO → Prop} {G : V → D → Prop} {M : Addr → Prop} {H1 H' : Hp} {σ : L2.St} {Dl : Addr} {u : HO} (S1 : SD K h B F G M H1 σ δ) (hD : H1 Dl = none) (S2 : SD K h B F G (fun a => M a ∨ a = Dl) H' σ δ) (hxs : H' Dl = some u) :
    SD K h B (fun b o => F b o ∨ (b = Dl ∧ o = u)) G (fun a => M a ∨ a = Dl) H' σ δ :=
  ⟨S2.len, S2.val, fun j ds z => by
    obtain ⟨p', xs', e5, m, nh, hp', r', nb, nf⟩ := S2.own j ds z
    refine ⟨p', xs', e5, m, nh, hp', r', nb, fun o y => y.elim (nf o) fun y => ?_⟩
    obtain ⟨p2, xs2, e6, _, _, hp2, _⟩ := S1.own j ds z
    have e7 : some (some (V.ref p')) = some (some (V.ref p2)) := e5.symm.trans e6
    cases e7
    exact ne_of_none hp2 hD y.1, S2.hnd, S2.slf, S2.dis, S2.hand, S2.live, fun b o z => z.elim (S2.fk b o) fun y => by rw [y.1, y.2]; exact hxs,
    fun b o z => z.elim (S2.fh b o) fun y z2 e2 w2 => by
      obtain ⟨_, ⟨_, h1, _⟩, _⟩ := S1.hand z2 e2
      exact ne_of_none h1 hD (by rw [← y.1, w2]), S2.gk, S2.mb⟩
theorem wl_go {wi : TI} {tg elt : Expr} {gt : TG} {is : List Nat} {put : D → List Sl → Option (List Sl)} {scope : Scope} {ifs : List Expr} (dc : DC X h scope ifs elt tst g) (t : Blk X scope fun Y => Tg Y tg gt is put)
    (w : WI X h wi δ (fun ds => ds.length ≤ 90000 ∧ ∃ I : Nat → List D → Prop, I 0 [] ∧ (∀ (k : Nat) (d : D) (acc : List D), ds[k]? = some d → acc.length ≤ k → I k acc → ∃ δ2, put d (wipeD δ is) = some δ2 ∧ turnT tst g δ2 (fun y => I (k + 1) (acc ++ [y])) (I (k + 1) acc)) ∧ ∀ acc, acc.length ≤ ds.length → I ds.length acc → Φ acc) Ψ) :
    WL X h wi gt is scope ifs elt δ Φ Ψ := .mk fun B F G M σ H Q W tk S q x0 => by
  refine w.run B F G M σ H _ W tk S (fun J H1 ds Fx Gx g1 S1 Y ⟨b1, I, i0, turn, fin⟩ => ?_) x0
  have S1' := S1.subF (F := F) (G := G) (fun b o z => .inl z) fun v d z => .inl z
  intro Dl hD
  refine ⟨fun i m H' => m = ds.length - i ∧ i ≤ ds.length ∧ LcP X h M H1 Dl I i H', ⟨_, rfl, Nat.zero_le _, lc_first S1 hD i0⟩, ?_⟩
  rintro i m H' ⟨rfl, hi, hP⟩
  have gH : Gh h H1 H' := let ⟨_, _, z, _⟩ := hP; z
  have fx : ∀ b o, Fx b o → H' b = some o := fun b o z => gH b o (S1.fh b o (.inr z)).nl (S1.fk b o (.inr z))
  by_cases hlt : i < ds.length
  · refine .inr ⟨Y.go H' i fx hlt, fun H2 => LcP X h M H1 Dl I (i + 1) H2, fun H2 z => ⟨_, by omega, rfl, hlt, z⟩, fun x H2 y => ?_⟩
    obtain ⟨d, hd, all, rp⟩ := Y.yld H' i x H2 fx hlt y
    obtain ⟨xs, acc, _, hand', hxs, rxs, hl, hI⟩ := hP
    obtain ⟨δ2, e2, tr⟩ := turn i d acc hd hl hI
    have SW := S1.wipe is
    have S2 : SD X.K h B (fun b o => F b o ∨ Fx b o) (fun v d => G v d ∨ Gx v d) (fun a => M a ∨ a = Dl) H' (wipe σ is) (wipeD δ is) := SD.up SW hD gH hand' ⟨_, hxs⟩
    have r2 := rp (fun a => M a ∨ a = Dl) S2.live fun v d z => S2.gk v d (.inr z)
    have S3 := (SD.addNew SW hD S2 hxs).all all
    refine (t X.s_0 X.H_0 0 [] []).run S3 r2 e2 fun σ3 S4 ew => ?_
    refine ⟨ew.trans (wipe_wipe σ is is fun _ z => z), ?_⟩
    exact lc_turn (F := fun b o => F b o ∨ Fx b o) dc S4 hD (gH.trans (Gh.all all)) (rxs.mono ((Gh.all (h := h) all).gr S2.hand)) hl (by omega) S1.hand tr
  · have e : i = ds.length := by omega
    subst e
    exact .inl ⟨Y.stop H' fx, lc_end S1' g1 hD q hP fin⟩
/-- the items of a comprehension -/
def lcGo (is : List Nat) (put : D → List Sl → Option (List Sl)) (tst : BF) (g : EF) (δ : List Sl) : List D → T (List D)
  | [] => .ret []
  | d :: ds => match put d (wipeD δ is) with
    | none => .stuck
    | some δ2 => (tst δ2).nox.bind fun b => .cond b ((g δ2).nox.bind fun y => (lcGo is put tst g δ ds).bind fun ys => .ret (y :: ys)) (lcGo is put tst g δ ds)
def cLc (f : AF) (is : List Nat) (put : D → List Sl → Option (List Sl)) (tst : BF) (g : EF) : AF := fun δ => (f δ).bind fun ds => .chk (decide (ds.length ≤ 90000)) (lcGo is put tst g δ ds)
theorem wl_lc {wi : TI} {tg iter elt : Expr} {gt : TG} {is : List Nat} {put : D → List Sl → Option (List Sl)} {scope : Scope} {ifs : List Expr} (i : DI X h tg iter wi fa) (dc : DC X h scope ifs elt tst g) (t : Blk X scope fun Y => Tg Y tg gt is put) (q : (cLc fa is put tst g δ).sat Φ Ψ) : WL X h wi gt is scope ifs elt δ Φ Ψ := by
  refine wl_go dc t (i.run δ _ Ψ (T.sat_bindM _ q fun ds q2 => ?_))
  obtain ⟨k, q2⟩ := T.sat_chk q2
  refine ⟨by simpa using k, fun k acc => (lcGo is put tst g δ (ds.drop k)).sat (fun ys => Φ (acc ++ ys)) Ψ, by simpa using q2, fun k d acc hd hl hI => ?_, fun acc hl hI => ?_⟩
  · have hk : k < ds.length := (List.getElem?_eq_some_iff.mp hd).1
    have ed : ds.drop k = d :: ds.drop (k + 1) := by
      rw [List.drop_eq_getElem_cons hk]
      have := (List.getElem?_eq_some_iff.mp hd).2
      rw [this]
    dsimp only at hI
    rw [ed] at hI
    unfold lcGo at hI
    cases e : put d (wipeD δ is) with
    | none => rw [e] at hI; exact hI.elim
    | some δ2 =>
      rw [e] at hI
      refine ⟨δ2, rfl, T.sat_mono (fun b z => ?_) (fun _ _ z => z) (T.sat_nox (T.sat_bind.mp hI))⟩
      cases b with
      | true => exact T.sat_mono (fun y z => T.sat_mono (fun ys z => by rw [List.append_assoc]; exact z) (fun _ _ z => z) (T.sat_bind.mp z)) (fun _ _ z => z) (T.sat_nox (T.sat_bind.mp z))
      | false => exact z
  · dsimp only at hI
    rw [List.drop_length] at hI
    have hI' : Φ (acc ++ []) := hI
    rw [List.append_nil] at hI'
    exact hI'
theorem df_lc {wi : TI} {tg iter elt : Expr} {gt : TG} {is : List Nat} {put : D → List Sl → Option (List Sl)} {scope : Scope} {ifs : List Expr} {own : List (Str × Nat)} (hN : X.N.Nodup) (ok : BlkOk X.N X.env.scope scope own) (eo : own.map (·.2) = is) (i : DI X h tg iter wi fa) (t : Blk X scope fun Y => Tg Y tg gt is put) (dc : DC X h scope ifs elt tst g)
    (hc : X.calm = true := by rfl) (hfs : ∀ y, foldedSetIterable iter X.env y = pure y := by intro _; rfl) : DF X h (.ListComp elt [⟨tg, iter, ifs, 0⟩] scope pos) (cLc fa is put tst g) := ⟨fun δ Φ Ψ q => .mk fun B F G M σ H Q W tk S q' x => by
  subst eo
  exact eS_of (pe_lc hc hN i.pi ok (fun s H C cl fp => (t s H C cl fp).pg) (tests_ok dc.ifs) elt_ok hfs) ((wl_lc i dc t q).run B F G M σ H Q W tk S q' x)⟩
end
end Ud

set_option Elab.async false
set_option linter.all false
set_option maxRecDepth 100000
set_option maxHeartbeats 4000000
/-! Statements. -/
namespace Ud
open PySem PySem.Spec PyProof.Rows L2 Uc
def gNil : SF := fun δ => .ret (.nx δ)
def gX : SF := fun _ => .stuck
def gSeq (g r : SF) : SF := fun δ => (g δ).bind fun
  | .nx δ' => r δ'
  | .rt d => .ret (.rt d)
  | .bk δ' => .ret (.bk δ')
  | .ct δ' => .ret (.ct δ')
  | .ex δ' C fs => .ret (.ex δ' C fs)
def gSet (i : Nat) (f : EF) : SF := fun δ => (f δ).on δ fun d => .ret (.nx (δ.set i (.val d)))
def gOwn (i : Nat) (f : AF) : SF := fun δ => (f δ).on δ fun ds => .ret (.nx (δ.set i (.own (.l ds))))
def gRet (f : EF) : SF := fun δ => (f δ).on δ fun d => .ret (.rt d)
def gRetN : SF := fun _ => .ret (.rt .non)
def gIf (t : BF) (g r : SF) : SF := fun δ => (t δ).on δ fun b => .cond b (g δ) (r δ)
def gDrop (f : EF) : SF := fun δ => (f δ).on δ fun _ => .ret (.nx δ)
def gBreak : SF := fun δ => .ret (.bk δ)
def gCont : SF := fun δ => .ret (.ct δ)
def ownL : Option Sl → Option (List D)
  | some (.own (.l ds)) => some ds
  | _ => none
def gApp (i : Nat) (f : EF) : SF := fun δ => match ownL δ[i]? with
  | some ds => .chk (decide (ds.length < 100000)) ((f δ).on δ fun d => .ret (.nx (δ.set i (.own (.l (ds ++ [d]))))))
  | none => .stuck
def gExt (i : Nat) (f : EF) : SF := fun δ => match ownL δ[i]? with
  | some ds => (f δ).on δ fun
    | .lst es => .chk (decide (ds.length + es.length ≤ 100000)) (.ret (.nx (δ.set i (.own (.l (ds ++ es))))))
    | _ => .stuck
  | none => .stuck
/-- one's own thing at i is given over -/
def giveS (i : Nat) (δ : List Sl) : List Sl := match δ[i]? with
  | some (.own o) => if o.giv = true then δ.set i (.val o.d) else δ
  | _ => δ
def gGive (i : Nat) (r : SF) : SF := fun δ => r (giveS i δ)
def goW (t : BF) (body : SF) : Nat → List Sl → T Fl
  | 0, _ => .stuck
  | n + 1, δ => (t δ).on δ fun b => .cond b ((body δ).bind fun
      | .nx δ' => goW t body n δ'
      | .ct δ' => goW t body n δ'
      | .bk δ' => .ret (.nx δ')
      | .rt d => .ret (.rt d)
      | .ex δ' C fs => .ret (.ex δ' C fs)) (.ret (.nx δ))
def gWhile (n : Nat) (t : BF) (body : SF) : SF := fun δ => goW t body n δ
def slD : Option Sl → Option D
  | some (.val d) => some d
  | _ => none
def gAug (i : Nat) (v : D → D → T D) (f : EF) : SF := fun δ => match slD δ[i]? with
  | some x => (f δ).on δ fun y => (v x y).on δ fun z => .ret (.nx (δ.set i (.val z)))
  | none => .stuck
def gUnp (is : List Nat) (f : EF) : SF := fun δ => (f δ).on δ fun d => match putT is d δ with
  | some δ' => .ret (.nx δ')
  | none => .stuck
def gThru (g : SF) : SF := fun δ => (g δ).bind fun
  | .ex _ _ _ => .stuck
  | fl => .ret fl
section
variable {X : Cx} {h : Option Hd} {a b c e : Expr} {es : List Expr} {pos p : Pos} {st : Stmt} {rest body orelse : List Stmt} {f g : EF} {fa : AF} {t : BF} {sf sg sr : SF} {P : Po} {δ : List Sl}
theorem db_nil : DB X h [] gNil := ⟨fun δ P q => wb_nil q⟩
theorem db_cons (w : DS X h st sf) (w2 : DB X h rest sr) : DB X h (st :: rest) (gSeq sf sr) := ⟨fun δ P q => wb_cons (w.run δ _ (T.sat_bindM _ q fun fl z => by
  cases fl with
  | nx δ' => exact w2.run δ' P z
  | rt _ => exact z
  | bk _ => exact z
  | ct _ => exact z
  | ex _ _ _ => exact z))⟩
/-- the last one -/
theorem db_one (w : DS X h st sf) : DB X h [st] sf := ⟨fun δ P q => wb_cons (w.run δ _ (T.sat_mono (fun fl z => by
  cases fl with
  | nx δ' => exact wb_nil z
  | rt _ => exact z
  | bk _ => exact z
  | ct _ => exact z
  | ex _ _ _ => exact z) (fun _ _ z => z) q))⟩
theorem ds_stuck : DS X h st gX := ⟨fun δ P q => q.elim⟩
theorem db_stuck : DB X h rest gX := ⟨fun δ P q => q.elim⟩
theorem ds_set {x : Str} {p' : Pos} (i : Nat) (hN : X.N.Nodup) (w : DE X h e f) (hi : X.N[i]? = some x := by rfl) (hx : Loc X.env.scope x := by first | exact Or.inl rfl | exact Or.inr rfl) (hs : swapsWith e (some (.Name x p')) pos.line X.env = pure false := by rfl)
    (hf : X.fn x = true ∨ X.env.scope.names.lookup x = some .local := by first | exact .inl rfl | exact .inr rfl) : DS X h (.Assign [.Name x p'] e pos) (gSet i f) := ⟨fun δ P q => ws_set i hN (w.run δ _ _ (T.sat_onM _ q fun d q2 => q2)) hi hx hs hf⟩
theorem ds_own {x : Str} {p' : Pos} (i : Nat) (hN : X.N.Nodup) (w : DF X h e fa) (hi : X.N[i]? = some x := by rfl) (hx : Loc X.env.scope x := by first | exact Or.inl rfl | exact Or.inr rfl) (hs : swapsWith e (some (.Name x p')) pos.line X.env = pure false := by rfl)
    (hf : X.fn x = true ∨ X.env.scope.names.lookup x = some .local := by first | exact .inl rfl | exact .inr rfl) : DS X h (.Assign [.Name x p'] e pos) (gOwn i fa) := ⟨fun δ P q => ws_own i hN (w.run δ _ _ (T.sat_onM _ q fun d q2 => q2)) hi hx hs hf⟩
theorem ds_ret (w : DE X h e f) : DS X h (.Return (some e) pos) (gRet f) := ⟨fun δ P q => ws_ret (w.run δ _ _ (T.sat_onM _ q fun d q2 => q2))⟩
theorem ds_retN : DS X h (.Return none pos) gRetN := ⟨fun δ P q => ws_retN q⟩
theorem ds_if (w : DT X h c t) (w1 : DB X h body sf) (w2 : DB X h orelse sg) : DS X h (.If c body orelse pos) (gIf t sf sg) := ⟨fun δ P q => ws_if (w.run δ _ _ (T.sat_onM _ q fun k q2 => by
  cases k with
  | true => exact w1.run δ P q2
  | false => exact w2.run δ P q2))⟩
theorem ds_drop (w : DE X h e f) (hs : swapsWith e none pos.line X.env = pure false := by rfl) : DS X h (.Expr e pos) (gDrop f) := ⟨fun δ P q => ws_drop (w.run δ _ _ (T.sat_onM _ q fun d q2 => q2)) hs⟩
theorem ds_pass : DS X h (.Pass pos) gNil := ⟨fun δ P q => ws_pass q⟩
theorem ds_break : DS X h (.Break pos) gBreak := ⟨fun δ P q => ws_break q⟩
theorem ds_cont : DS X h (.Continue pos) gCont := ⟨fun δ P q => ws_cont q⟩
theorem ownL_ok {o : Option Sl} {ds : List D} (e : ownL o = some ds) : o = some (.own (.l ds)) := by
  unfold ownL at e; split at e
  · cases e; rfl
  · cases e
theorem ds_app {x : Str} {p1 p2 p3 : Pos} (i : Nat) (w : DE X h e f) (hN : X.N[i]? = some x := by rfl) (hv : Vis X.env.scope x := by first | exact Or.inl rfl | exact Or.inr (Or.inl rfl) | exact Or.inr (Or.inr rfl)) (h1 : (x == ("__debug__" : Str)) = false := by decide) (h2 : (x == ("__classdict__" : Str)) = false := by decide)
    (he : starEach [e] X.env = (false, eval e X.env) :: starEach [] X.env := by rfl)
    (hs : swapsWith (.Call (.Attribute (.Name x p1) "append" p2) [e] [] p3) none pos.line X.env = pure false := by rfl)
    (hpe : PE X (.Call (.Attribute (.Name x p1) "append" p2) [e] [] p3) (tBM X.K "list" rAppend (tVar i) (tCons (eS X e) tNil)) := by exact pe_bm PySem.F.plainAttrs_list PySem.F.slot_list_append PySem.F.type_list_append mt_append (pv _) (pa_cons peS pa_nil)) :
    DS X h (.Expr (.Call (.Attribute (.Name x p1) "append" p2) [e] [] p3) pos) (gApp i f) := ⟨fun δ P q => by
  unfold gApp at q
  split at q
  · rename_i ds eo
    obtain ⟨k, q⟩ := T.sat_chk q
    exact ws_app i ds (ownL_ok eo) (by simpa using k) (w.run δ _ _ (T.sat_onM _ q fun d q2 => q2)) hpe hs
  · exact q.elim⟩
theorem db_give (i : Nat) (w : DB X h rest sr) : DB X h rest (gGive i sr) := ⟨fun δ P q => by
  have q' : (sr (giveS i δ)).sat P.of noX := q
  unfold giveS at q'
  split at q'
  · rename_i o eo
    split at q'
    · rename_i gv
      exact wb_give eo gv (w.run _ P q')
    · exact w.run δ P q'
  · exact w.run δ P q'⟩
theorem ds_while (n : Nat) (hp : PassesOwn (model X.prog X.w) X.A X.env X.xe) (w : DT X h c t) (w1 : DB X h body sf) : DS X h (.While c body [] pos) (gWhile n t sf) := ⟨fun δ P q => .mk fun B F G M σ H D W tk S E => by
  refine sS_of (ps_while hp ptS pbS) ?_
  refine ⟨fun m σ H => ∃ M δ', SD X.K h B F G M H σ δ' ∧ (goW t sf m δ').sat P.of noX, ⟨n, M, δ, S, q⟩, ?_⟩
  rintro m σ1 H1 ⟨M1, δ1, S1, q1⟩
  cases m with
  | zero => exact q1.elim
  | succ m =>
    have q2 : ((t δ1).on δ1 fun b => T.cond b ((sf δ1).bind fun
      | .nx δ' => goW t sf m δ'
      | .ct δ' => goW t sf m δ'
      | .bk δ' => .ret (.nx δ')
      | .rt d => .ret (.rt d)
      | .ex δ' C fs => .ret (.ex δ' C fs)) (.ret (.nx δ1))).sat P.of noX := q1
    refine (w.run δ1 _ _ (T.sat_on.mp q2)).run B F G M1 σ1 H1 _ W tk S1 (fun k H2 g2 S2 f => ?_) (fun C od H' fs g S' ed f => E.ex M1 σ1 H' δ1 C od fs S' ed f)
    cases k with
    | false => exact E.nx M1 σ1 H2 δ1 S2 f
    | true =>
      show ∃ N : L2.St → Hp → Prop, _ ∧ bS X body _ σ1 H2
      refine ⟨fun σ' H' => ∃ M' δ', SD X.K h B F G M' H' σ' δ' ∧ (goW t sf m δ').sat P.of noX, fun σ' H' ⟨M', δ', S', hI'⟩ => ⟨m, Nat.lt_succ_self m, M', δ', S', hI'⟩, ?_⟩
      have wb := w1.run δ1 { P with nx := fun δ' => (goW t sf m δ').sat P.of noX, ct := fun δ' => (goW t sf m δ').sat P.of noX, bk := P.nx } (T.sat_bindM _ f fun fl z => by
        cases fl with
        | nx _ => exact z
        | rt _ => exact z
        | bk _ => exact z
        | ct _ => exact z
        | ex _ _ _ => exact z)
      exact wb.run B F G M1 σ1 H2 _ W tk S2 ⟨fun M' σ' H' δ' S' k => ⟨M', δ', S', k⟩, E.rt, E.nx, fun M' σ' H' δ' S' k => ⟨M', δ', S', k⟩, E.ex⟩⟩
/-- a, b, .. = e -/
theorem ds_unp {kt : Nat} {pt : Pos} (is : List Nat) (hN : X.N.Nodup) (na : NamesAt X es is) (w : DE X h e f) (hn : (assignEach es X.env).length = is.length := by rfl)
    (hst : (assignEach es X.env).findIdx? (·.1) = none := by rfl) (hc : X.calm = true := by rfl) (hs : swapsWithSole [.Tuple es kt pt] e pos.line X.env = pure false := by rfl) (hw : swappedStores [.Tuple es kt pt] e X.env = pure none := by rfl)
    (h1 : (assignEach [.Tuple es kt pt] X.env).map (·.2) = [assign (.Tuple es kt pt) X.env] := by rfl) : DS X h (.Assign [.Tuple es kt pt] e pos) (gUnp is f) := ⟨fun δ P q => ws_unp is hN na (w.run δ _ _ (T.sat_onM _ q fun d q2 => by
  unfold putT at q2
  split at q2
  · rename_i δ' eq
    split at eq
    · split at eq
      · rename_i hl
        cases eq
        exact ⟨_, rfl, hl, q2⟩
      · cases eq
    · cases eq
  · exact q2.elim)) hn hst hc hs hw h1⟩
/-- x op= e -/
def ipS (X : Cx) (op : Operator) (v : D → D → T D) : Prop := ∃ ti : TIp, PIp X op ti ∧ ∀ {h : Option Hd} {B : Addr → Prop} {F : Addr → HO → Prop} {G : V → D → Prop} {M : Addr → Prop} {σ : L2.St} {δ : List Sl} {H : Hp} {x y : V} {dx dy : D} {Q : VK} {Φ : D → Prop} {Ψ : Str → List (Str × D) → Prop},
  SD X.K h B F G M H σ δ → Rp X.K M H x dx → Rp X.K M H y dy → (v dx dy).nox.sat Φ Ψ → (∀ d z, Rp X.K M H z d → Φ d → Q z H) → ti x y H Q
theorem ds_aug {x : Str} {op : Operator} {v : D → D → T D} {px : Pos} (i : Nat) (hN : X.N.Nodup) (ip : ipS X op v) (w : DE X h e f) (hi : X.N[i]? = some x := by rfl) (hx : Loc X.env.scope x := by first | exact Or.inl rfl | exact Or.inr rfl) (hf : X.fn x = true ∨ X.env.scope.names.lookup x = some .local := by first | exact .inl rfl | exact .inr rfl) :
    DS X h (.AugAssign (.Name x px) op e pos) (gAug i (fun a b => (v a b).nox) f) := ⟨fun δ P q => .mk fun B F G M σ H D W tk S E => by
  obtain ⟨ti, hp, ht⟩ := ip
  have q' : (match slD δ[i]? with
    | some x => (f δ).on δ fun y => ((v x y).nox).on δ fun z => .ret (.nx (δ.set i (.val z)))
    | none => T.stuck).sat P.of noX := q
  split at q'
  · rename_i dx edx
    have es : δ[i]? = some (.val dx) := by
      unfold slD at edx; split at edx
      · rename_i h; cases edx; exact h
      · cases edx
    obtain ⟨vx, e1, r1⟩ := S.val i dx es
    refine sS_of (ps_aug hN hi hx peS hp) ⟨vx, e1, ?_⟩
    refine (w.run δ _ _ (T.sat_on.mp q')).run B F G M σ H _ W tk S (fun vy H1 dy g1 S1 r2 k => ?_) (out_of E)
    refine ht S1 (r1.mono (g1.gr S.hand)) r2 (Φ := fun z => P.nx (δ.set i (.val z))) (Ψ := noX) ?_ fun d z rz k => E.nx M _ H1 _ (S1.setV i rz) k
    have k2 := T.sat_on.mp k
    have conv : ∀ {t : T Ud.D}, t.nox.sat (fun a => (T.ret (Fl.nx (δ.set i (.val a)))).sat P.of noX) (P.ex δ) → t.nox.sat (fun z => P.nx (δ.set i (.val z))) noX := fun {t} z => by
      have := T.sat_nox z
      clear z
      induction t with
      | ret a => exact this
      | ex C fs => exact this
      | stuck => exact this
      | draw n k ih => exact ⟨this.1, fun j h0 h1 => ih j (this.2 j h0 h1)⟩
    exact conv k2
  · exact q'.elim⟩
theorem ip_add' : ipS X .Add (fun x y => match x, y with | .int i, .int j => .ret (.int (i + j)) | _, _ => .stuck) := ⟨_, ip_add, fun {h B F G M σ δ H x y dx dy Q Φ Ψ} S r1 r2 q k => by
  cases dx with
  | int i => cases dy with
    | int j =>
      obtain rfl := r1.int_inv
      obtain rfl := r2.int_inv
      exact ⟨i, j, rfl, rfl, k _ _ (.int _) q⟩
    | _ => exact q.elim
  | _ => exact q.elim⟩
/-- try: .., where nothing is raised -/
theorem ds_thru {hd : ExceptHandler} {hds : List ExceptHandler} (w : DB X.nox h body sf) : DS X h (.Try body (hd :: hds) [] [] pos) (gThru sf) := ⟨fun δ P q => .mk fun B F G M σ H D W tk S E => by
  refine sS_of (ps_try_thru0 pbS) ?_
  refine (w.run δ { P with ex := fun _ _ _ => False } (T.sat_bindM _ q fun fl z => by
    cases fl with
    | nx _ => exact z
    | rt _ => exact z
    | bk _ => exact z
    | ct _ => exact z
    | ex _ _ _ => exact z.elim)).run B F G M σ H D (fun _ _ _ _ => False) (takes0 (X := X.nox)) S ⟨E.nx, E.rt, E.bk, E.ct, fun _ _ _ _ _ _ _ _ _ z => z⟩⟩
end
end Ud

set_option Elab.async false
set_option linter.all false
set_option maxRecDepth 100000
set_option maxHeartbeats 4000000
/-! More calls: all, any, str, list; dicts read. -/
namespace Ud
open PySem PySem.Spec PyProof.Rows L2 Uc
/-- truth values all -/
def blsOf : List D → Option (List Bool)
  | [] => some []
  | .bl b :: r => (blsOf r).map (b :: ·)
  | _ :: _ => none
theorem blsOf_rp {K : PySem.W.Frag} {M : Addr → Prop} {H : Hp} : ∀ {vs : List V} {ds : List D} {bs : List Bool}, RpA K M H vs ds → blsOf ds = some bs → vs = bs.map V.bl
  | _, _, _, .nil, e => by cases e; rfl
  | _, _, bs, .cons (d := d) h t, e => by
    cases d with
    | bl b =>
      obtain ⟨bs', e1, rfl⟩ := Option.map_eq_some_iff.mp (show (blsOf _).map (b :: ·) = some bs from e)
      obtain rfl := h.bl_inv
      rw [blsOf_rp t e1]; rfl
    | _ => cases e
def vAll : List D → T D
  | [.lst xs] => match blsOf xs with
    | some bs => .ret (.bl (bs.all id))
    | none => .stuck
  | _ => .stuck
def vAny : List D → T D
  | [.lst xs] => match blsOf xs with
    | some bs => .ret (.bl (bs.any id))
    | none => .stuck
  | _ => .stuck
def vStr : List D → T D
  | [.int i] => .chk (decide (0 ≤ i) && decide (i < 1000000)) (.ret (.str (toString i)))
  | _ => .stuck
def vList : List D → T (List D)
  | [.lst xs] => .ret xs
  | [.tup xs] => .ret xs
  | _ => .stuck
def cNewL (fa : AF) : AF := fun δ => (fa δ).bind vList
def keyD : D → Option Key
  | .int i => some (.inl i)
  | .str s => some (.inr s)
  | _ => none
def keysD : List D → Option (List Key)
  | [] => some []
  | d :: r => match keyD d, keysD r with
    | some k, some ks => some (k :: ks)
    | _, _ => none
theorem keyD_rp {K : PySem.W.Frag} {M : Addr → Prop} {H : Hp} {v : V} {d : D} {k : Key} (r : Rp K M H v d) (e : keyD d = some k) : v = kV k := by
  cases d with
  | int i => cases e; exact r.int_inv
  | str s => cases e; exact r.str_inv
  | _ => cases e
theorem keysD_rp {K : PySem.W.Frag} {M : Addr → Prop} {H : Hp} : ∀ {vs : List V} {ds : List D} {ks : List Key}, RpA K M H vs ds → keysD ds = some ks → vs = ks.map kV
  | _, _, _, .nil, e => by cases e; rfl
  | _, _, ks, .cons (d := d) (ds := ds) h t, e => by
    unfold keysD at e
    split at e
    · rename_i k ks' e1 e2
      cases e
      rw [keyD_rp h e1, keysD_rp t e2]; rfl
    · cases e
/-- what stands at a key -/
def atK {κ : Type} [DecidableEq κ] : List κ → List D → κ → Option D
  | k :: ks, d :: ds, x => if k = x then some d else atK ks ds x
  | _, _, _ => none
theorem atK_some {κ : Type} [DecidableEq κ] {K : PySem.W.Frag} {M : Addr → Prop} {H : Hp} {x : κ} : ∀ {kv : List (κ × V)} {ds : List D}, RpA K M H (kv.map Prod.snd) ds → match atK (kv.map Prod.fst) ds x with
    | some d => ∃ v, valV kv x = some v ∧ Rp K M H v d
    | none => valV kv x = none
  | [], _, r => by cases r; exact rfl
  | (k, v) :: kv, _, r => by
    rw [List.map_cons] at r
    cases r with
    | @cons _ _ d ds h t =>
      show match (if k = x then some d else atK (kv.map Prod.fst) ds x) with
        | some d => ∃ v', valV ((k, v) :: kv) x = some v' ∧ Rp K M H v' d
        | none => valV ((k, v) :: kv) x = none
      by_cases e : k = x
      · rw [if_pos e]
        exact ⟨v, by unfold valV; rw [List.find?_cons_of_pos (by simpa using e)]; rfl, h⟩
      · rw [if_neg e]
        have e2 : valV ((k, v) :: kv) x = valV kv x := by unfold valV; rw [List.find?_cons_of_neg (by simpa using e)]
        rw [e2]
        exact atK_some t
/-- d.get((..), x), d a dict with tuples for keys -/
def isDt : D → Option (List (List Key) × List D)
  | .dt ks ds => some (ks, ds)
  | _ => none
theorem isDt_ok {d : D} {p : List (List Key) × List D} (e : isDt d = some p) : d = .dt p.1 p.2 := by
  cases d with
  | dt ks ds => cases e; rfl
  | _ => cases e
def optT {α β : Type} (o : Option α) (f : α → T β) : T β := match o with
  | some x => f x
  | none => .stuck
theorem optT_sat {α β : Type} {o : Option α} {f : α → T β} {Φ : β → Prop} {Ψ : Str → List (Str × D) → Prop} (q : (optT o f).sat Φ Ψ) : ∃ x, o = some x ∧ (f x).sat Φ Ψ := by
  cases o with
  | some x => exact ⟨x, rfl, q⟩
  | none => exact q.elim
def cGetT (f : EF) (fa : AF) (g : EF) : EF := fun δ => (f δ).bind fun d => optT (isDt d) fun kd => (fa δ).bind fun ks => .chk (few ks) (optT (keysD ks) fun k => (g δ).bind fun x => .ret ((atK kd.1 kd.2 k).getD x))
section
variable {X : Cx} {h : Option Hd} {δ : List Sl} {a b c e o : Expr} {es : List Expr} {pos p apos : Pos} {f g k : EF} {t u : BF} {fa : AF} {Φ : D → Prop} {Ψ : Str → List (Str × D) → Prop}
theorem calS_all : CalS X h (rAll X.K) (fun ds Φ => ∃ xs bs, ds = [.lst xs] ∧ blsOf xs = some bs ∧ Φ (.bl (bs.all id))) := fun B F G M σ δ H vs ds Q Φ S r ⟨xs, bs, e1, e2, k⟩ q => by
  subst e1
  obtain ⟨v, rfl, r5⟩ := rpA_one r
  obtain ⟨l, ys, rfl, n1, e3, s1⟩ := r5.lst_inv
  exact ⟨l, bs, rfl, by rw [← blsOf_rp s1 e2]; exact SqL.of e3, Ans.now q S (.bl _) k⟩
theorem calS_any : CalS X h (rAny X.K) (fun ds Φ => ∃ xs bs, ds = [.lst xs] ∧ blsOf xs = some bs ∧ Φ (.bl (bs.any id))) := fun B F G M σ δ H vs ds Q Φ S r ⟨xs, bs, e1, e2, k⟩ q => by
  subst e1
  obtain ⟨v, rfl, r5⟩ := rpA_one r
  obtain ⟨l, ys, rfl, n1, e3, s1⟩ := r5.lst_inv
  exact ⟨l, bs, rfl, by rw [← blsOf_rp s1 e2]; exact SqL.of e3, Ans.now q S (.bl _) k⟩
theorem de_all {x : Str} (hx : x = "all") (hm : X.mg x = none) (hc : X.calm = true) (w : DA X h (e :: es) fa) (hg : Gl X x := by rfl) (hn : x ≠ "__name__" := by decide) (hdb : (x == ("__debug__" : Str)) = false := by decide)
    (he : starEach (e :: es) X.env = (false, eval e X.env) :: starEach es X.env := by rfl) (hpl : (backTo pos (starEach es X.env)).any (·.1) = false := by rfl) : DE X h (.Call (.Name x p) (e :: es) [] pos) (cCall vAll fa) := ⟨fun δ Φ Ψ q =>
  we_callB (cr_all hc) calS_all hm (w.run δ _ Ψ (T.sat_bindM _ q fun ds q2 => by
    unfold vAll at q2
    split at q2
    · split at q2
      · rename_i xs _ bs e
        exact ⟨xs, bs, rfl, e, q2⟩
      · exact q2.elim
    · exact q2.elim)) (by rw [hx]; decide +kernel) hg hn hdb he hpl⟩
theorem de_any {x : Str} (hx : x = "any") (hm : X.mg x = none) (hc : X.calm = true) (w : DA X h (e :: es) fa) (hg : Gl X x := by rfl) (hn : x ≠ "__name__" := by decide) (hdb : (x == ("__debug__" : Str)) = false := by decide)
    (he : starEach (e :: es) X.env = (false, eval e X.env) :: starEach es X.env := by rfl) (hpl : (backTo pos (starEach es X.env)).any (·.1) = false := by rfl) : DE X h (.Call (.Name x p) (e :: es) [] pos) (cCall vAny fa) := ⟨fun δ Φ Ψ q =>
  we_callB (cr_any hc) calS_any hm (w.run δ _ Ψ (T.sat_bindM _ q fun ds q2 => by
    unfold vAny at q2
    split at q2
    · split at q2
      · rename_i xs _ bs e
        exact ⟨xs, bs, rfl, e, q2⟩
      · exact q2.elim
    · exact q2.elim)) (by rw [hx]; decide +kernel) hg hn hdb he hpl⟩
theorem log_few {i : Int} (h0 : 0 ≤ i) (h1 : i < 1000000) : i.natAbs.log2 < 1920 := by
  have h2 : i.natAbs < 2 ^ 20 := by omega
  by_cases z : i.natAbs = 0
  · rw [z]; decide
  · have := (Nat.log2_lt z).mpr h2
    omega
theorem de_strc {x : Str} (hx : x = "str") (hm : X.mg x = none) (w : DA X h (e :: es) fa) (hg : Gl X x := by rfl) (hn : x ≠ "__name__" := by decide) (hdb : (x == ("__debug__" : Str)) = false := by decide)
    (he : starEach (e :: es) X.env = (false, eval e X.env) :: starEach es X.env := by rfl) (hpl : (backTo pos (starEach es X.env)).any (·.1) = false := by rfl) : DE X h (.Call (.Name x p) (e :: es) [] pos) (cCall vStr fa) := ⟨fun δ Φ Ψ q =>
  we_callT (Sc := fun ds Φ => ∃ i, ds = [.int i] ∧ i.natAbs.log2 < 1920 ∧ Φ (.str (toString i))) call_str_int (fun B F G M σ δ H vs ds Q Φ S r ⟨i, e1, e2, k⟩ q => by
    subst e1
    obtain ⟨v, rfl, r5⟩ := rpA_one r
    obtain rfl := r5.int_inv
    exact ⟨i, rfl, e2, Ans.now q S (.str _) k⟩) hm (w.run δ _ Ψ (T.sat_bindM _ q fun ds q2 => by
    unfold vStr at q2
    split at q2
    · obtain ⟨k, q2⟩ := T.sat_chk q2
      simp only [Bool.and_eq_true, decide_eq_true_eq] at k
      exact ⟨_, rfl, log_few k.1 k.2, q2⟩
    · exact q2.elim)) (by rw [hx]; decide +kernel) hg hn hdb he hpl⟩
/-- list(xs): a new list -/
theorem df_list {x : Str} (hx : x = "list") (hm : X.mg x = none) (w : DA X h (e :: es) fa) (hg : Gl X x := by rfl) (hn : x ≠ "__name__" := by decide) (hdb : (x == ("__debug__" : Str)) = false := by decide)
    (he : starEach (e :: es) X.env = (false, eval e X.env) :: starEach es X.env := by rfl) (hpl : (backTo pos (starEach es X.env)).any (·.1) = false := by rfl) : DF X h (.Call (.Name x p) (e :: es) [] pos) (cNewL fa) := ⟨fun δ Φ Ψ q => .mk fun B F G M σ H Q W tk S q0 x0 =>
  eS_of (pe_callTy call_list_of hg hm (by rw [hx]; decide +kernel) paS hn hdb he hpl) ((w.run δ _ Ψ (T.sat_bind.mp q)).run B F G M σ H _ W tk S (fun vs H1 ds g1 S1 r1 q2 => by
    have fin : ∀ {v : V} {xs : List V} {es : List D} {l : Addr}, RpA X.K M H1 xs es → Φ es → H1 l = none → Q (.ref l) (upd H1 l (.lst xs)) := fun {v xs es l} r k n =>
      q0 l _ xs es (g1.trans (Gh.new n)) (S1.all (new_all n)) (Gh.free S1 g1 n) upd_same (rpA_new n r) k
    unfold vList at q2
    split at q2
    · obtain ⟨v, rfl, r5⟩ := rpA_one r1
      obtain ⟨l, ys, rfl, n1, e3, s1⟩ := r5.lst_inv
      exact ⟨l, ys, rfl, .inl (SqL.of e3), fun l n => fin (v := .non) s1 q2 n⟩
    · obtain ⟨v, rfl, r5⟩ := rpA_one r1
      obtain ⟨l, ys, rfl, e3, s1⟩ := r5.tup_inv
      exact ⟨l, ys, rfl, .inr e3, fun l n => fin (v := .non) s1 q2 n⟩
    · exact q2.elim) x0)⟩
/-! ### dicts read -/
theorem de_getT {j : Nat} {tp : Pos} {n : Nat} (hr : Room n X.A) (w0 : DE X h o f) (w1 : DA X h es fa) (w2 : DE X h b g) (m : M2 X o "get" apos (.Tuple es j tp) b pos) : DE X h (.Call (.Attribute o "get" apos) [.Tuple es j tp, b] [] pos) (cGetT f fa g) := ⟨fun δ Φ Ψ q => .mk fun B F G M σ H Q W tk S q0 x0 => by
  refine eS_of (pe_dget2 (by have := hr.un; omega) peS (pe_tup paS) peS m) ?_
  refine (w0.run δ _ Ψ (T.sat_bind.mp q)).run B F G M σ H _ W tk S (fun v H1 d g1 S1 r1 q1 => ?_) x0
  obtain ⟨⟨ks, ds⟩, ed, q1⟩ := optT_sat q1
  rw [isDt_ok ed] at r1
  obtain ⟨a, kv, rfl, na, ha, ek, rv⟩ := r1.dt_inv
  refine ⟨a, rfl, .inr ⟨kv, .inl ha⟩, ?_⟩
  refine (w1.run δ _ Ψ (T.sat_bind.mp q1)).run B F G M σ H1 _ W tk S1 (fun vs H2 es g2 S2 r2 q2 => ?_) (Out.on x0 g1)
  obtain ⟨hl, q2⟩ := T.sat_chk q2
  obtain ⟨k, ekk, q3⟩ := optT_sat q2
  refine ⟨szOf (by rw [r2.length]; exact few_le hl), fun p hp => ?_⟩
  have S2' := S2.all (new_all (o := .tup vs) hp)
  have S3 := S2'.addF (S2.live.new hp) (upd_same (H := H2) (a := p) (o := .tup vs))
  refine (w2.run δ _ Ψ (T.sat_bind.mp q3)).run B _ G M σ _ _ W tk S3 (fun u H4 d2 g4 S4 r4 q4 => ?_) (fun C od H' fs g S' ed k => x0 C od H' fs ((g1.trans g2).trans ((Gh.new hp).trans g)) (S'.subF (fun b o z => .inl z) fun v d z => z) ed k)
  have hp4 : H4 p = some (.tup vs) := S4.fk _ _ (.inr ⟨rfl, rfl⟩)
  have gg : Gh h H1 H4 := g2.trans ((Gh.new hp).trans g4)
  have ha4 : H4 a = some (.dT kv) := gg a _ (fun q e _ => fun y => na (by rw [y]; exact (S1.hand q e).1)) ha
  have ev := keysD_rp r2 ekk
  rw [ev] at hp4
  refine ⟨_, DGet.t ha4 hp4, ?_⟩
  have z := atK_some (x := k) (rv.mono (gg.gr S1.hand))
  rw [show kv.map Prod.fst = ks from ek] at z
  have S5 := S4.subF (F := F) (G := G) (fun b o z => .inl z) fun v d z => z
  split at z
  · rename_i d' e'
    obtain ⟨v', e2, r'⟩ := z
    rw [e2]
    exact Ans.now (Ans.on q0 (g1.trans gg)) S5 r' (by rw [e'] at q4; exact q4)
  · rename_i e'
    rw [z]
    exact Ans.now (Ans.on q0 (g1.trans gg)) S5 r4 (by rw [e'] at q4; exact q4)⟩
end
end Ud

set_option Elab.async false
set_option linter.all false
set_option maxRecDepth 100000
set_option maxHeartbeats 4000000
/-! Dicts made, dicts of the module, equality over dicts. -/
namespace Ud
open PySem PySem.Spec PyProof.Rows L2 Uc
/-- {k: v} -/
def cDisp1 (kf f : EF) : EF := fun δ => (kf δ).bind fun kd => optT (keyD kd) fun k => (f δ).bind fun d => .ret (.dk [k] [d])
/-- what a dict of the module shows -/
abbrev Tbl := List (Str × D)
def strD : D → Option Str
  | .str s => some s
  | _ => none
theorem strD_ok {d : D} {s : Str} (e : strD d = some s) : d = .str s := by
  cases d with
  | str z => cases e; rfl
  | _ => cases e
def bNotKd (tb : Tbl) (f : EF) : BF := fun δ => (f δ).bind fun d => optT (strD d) fun s => .ret (!(tb.lookup s).isSome)
def bInKd (tb : Tbl) (f : EF) : BF := fun δ => (f δ).bind fun d => optT (strD d) fun s => .ret (tb.lookup s).isSome
def cIxKd (tb : Tbl) (f : EF) : EF := fun δ => (f δ).bind fun d => optT (strD d) fun s => optT (tb.lookup s) fun x => .ret x
/-- the dict at p shows tb -/
structure KTbl (K : PySem.W.Frag) (w : World) (p : Addr) (tb : Tbl) : Prop where
  kd : ∃ es n, KDict K w p es n
  no : ∀ s, tb.lookup s = none → PySem.W.nsIn K p s = some none
  yes : ∀ s d, tb.lookup s = some d → ∃ u v, PySem.W.nsIn K p s = some (some u) ∧ RelV v u ∧ ∀ M H, Rp K M H v d
section
variable {X : Cx} {h : Option Hd} {δ : List Sl} {a b c e o : Expr} {es : List Expr} {pos p p2 : Pos} {f g k : EF} {t u : BF} {fa : AF} {Φ : D → Prop} {Ψ : Str → List (Str × D) → Prop}
theorem de_disp1 (w0 : DE X h a f) (w1 : DE X h b g) : DE X h (.Dict [some a] [b] pos) (cDisp1 f g) := ⟨fun δ Φ Ψ q => .mk fun B F G M σ H Q W tk S q0 x0 => by
  refine eS_of (pe_disp (pps_cons peS peS pps_nil) rfl rfl (by simp) (by simp)) ?_
  intro p hp
  have w1M : ∀ a, M a → (M a ∨ a = p) := fun a z => .inl z
  have S1 := SD.up S hp (Gh.new (o := .dK []) hp) (S.hand.up hp) ⟨_, upd_same⟩
  have S1F := SD.addNew S hp S1 upd_same
  have handM : ∀ {H' : Hp} {σ' : L2.St} {F' : Addr → HO → Prop}, SD X.K h B F' G (fun a => M a ∨ a = p) H' σ' δ → HandOk h M H' := fun S' => S'.hand.down w1M fun q e => (S.hand q e).1
  have out : ∀ C od H' fs, Gh h H H' → SD X.K h B (fun b o => F b o ∨ b = p ∧ o = HO.dK []) G (fun a => M a ∨ a = p) H' σ δ → ExcD X.K (fun a => M a ∨ a = p) H' fs od → Ψ C fs → W (.ref (He.ga X.K C)) od σ H' := fun C od H' fs gH S' ed k => by
    refine x0 C od H' fs gH (S.step gH (handM S')) ?_ k
    cases od with
    | none => exact ed
    | some d =>
      obtain ⟨n, fv, e, rf⟩ := ed
      exact ⟨fun z => n (.inl z), fv, e, rf.wid w1M⟩
  refine (w0.run δ _ Ψ (T.sat_bind.mp q)).run B _ G _ σ _ _ W tk S1F (fun v H1 kd g1 S2 r1 q1 => ?_) (fun C od H' fs g S' ed k => out C od H' fs ((Gh.new hp).trans g) S' ed k)
  obtain ⟨k, ek, q1⟩ := optT_sat q1
  refine (w1.run δ _ Ψ (T.sat_bind.mp q1)).run B _ G _ σ _ _ W tk S2 (fun u H2 d g2 S3 r2 q2 => ?_) (fun C od H' fs g S' ed k => out C od H' fs (((Gh.new hp).trans g1).trans g) S' ed k)
  have hp2 : H2 p = some (.dK []) := S3.fk _ _ (.inr ⟨rfl, rfl⟩)
  refine ⟨hp2, [(k, u)], by rw [keyD_rp r1 ek]; rfl, by simp, ?_⟩
  have nm : ¬ M p := S.live.new hp
  have gg : Gh h H H2 := (Gh.new hp).trans (g1.trans g2)
  have upOld : ∀ b o, H b = some o → (upd H2 p (.dK (mergeK [] [(k, u)]))) b = H2 b := fun b o z => upd_ne (ne_of_none z hp)
  have gN : Gh h H (upd H2 p (.dK (mergeK [] [(k, u)]))) := fun b o nb z => by rw [upOld b o z]; exact gg b o nb z
  have gr : Gr (fun b => M b ∨ b = p) H2 (upd H2 p (.dK (mergeK [] [(k, u)]))) := fun b o nb z => by rw [upd_ne (fun y => nb (.inr y))]; exact z
  have SN : SD X.K h B F G M (upd H2 p (.dK (mergeK [] [(k, u)]))) σ δ := by
    refine S.step gN fun q e => ?_
    obtain ⟨m, ⟨o, k1, k2⟩, k3⟩ := handM S3 q e
    obtain ⟨_, ⟨o0, i0, _⟩, j0⟩ := S.hand q e
    exact ⟨m, ⟨o, by rw [upOld _ _ i0]; exact k1, k2⟩, fun l o z => ⟨by rw [upOld l o (j0 l o z).1]; exact (k3 l o z).1, (k3 l o z).2⟩⟩
  refine q0 _ _ (.dk [k] [d]) gN SN ?_ q2
  exact Rp.dk (kv := [(k, u)]) nm upd_same (.cons ((r2.mono gr).wid w1M) .nil)⟩
/-! ### dicts of the module -/
theorem de_kd {x : Str} {l : Addr} (hm : X.mg x = some (.ref l)) (hg : Gl X x := by rfl) (hd : (x == ("__debug__" : Str)) = false := by decide) : DE X h (.Name x p) (cK (.at_ (.ref l))) := ⟨fun δ Φ Ψ q => .mk fun B F G M σ H Q W tk' S q' _ =>
  eS_of (pe_glob hg hm (v := .ref l) rfl hd) (q' _ H _ (Gh.refl _ _) S (.at_ _) q)⟩
theorem de_notKd {x : Str} {l : Addr} {tb : Tbl} (kt : KTbl X.K X.w l tb) (hm : X.mg x = some (.ref l)) (w : DE X h a f) (hg : Gl X x := by rfl) (hd : (x == ("__debug__" : Str)) = false := by decide) : DE X h (.Compare a [.NotIn] [.Name x p] pos) (cB (bNotKd tb f)) := ⟨fun δ Φ Ψ q => by
  obtain ⟨es, n, kd⟩ := kt.kd
  refine we_cmp (op_notIn_kd kd) (S := fun x y Φ => ∃ s, x = .str s ∧ y = .at_ (.ref l) ∧ Φ (.bl (!(tb.lookup s).isSome))) (fun B F G M σ δ H x y dx dy Q Φ S r1 r2 ⟨s, e1, e2, k⟩ q => ?_) (w.run δ _ Ψ (T.sat_bindM _ (T.sat_bind.mp q) fun d q2 => ?_)) rfl
  · subst e1 e2
    obtain rfl := r1.str_inv
    obtain rfl := r2.at_inv
    cases e : tb.lookup s with
    | none =>
      rw [e] at k
      exact ⟨s, none, rfl, rfl, kt.no s e, Ans.now q S (.bl _) k⟩
    | some d =>
      rw [e] at k
      obtain ⟨u, v, h1, _⟩ := kt.yes s d e
      exact ⟨s, some u, rfl, rfl, h1, Ans.now q S (.bl _) k⟩
  · obtain ⟨s, es, q2⟩ := optT_sat q2
    exact (de_kd (h := h) hm hg hd).run δ _ Ψ ⟨s, strD_ok es, rfl, q2⟩⟩
theorem de_inKd {x : Str} {l : Addr} {tb : Tbl} (kt : KTbl X.K X.w l tb) (hm : X.mg x = some (.ref l)) (w : DE X h a f) (hg : Gl X x := by rfl) (hd : (x == ("__debug__" : Str)) = false := by decide) : DE X h (.Compare a [.In] [.Name x p] pos) (cB (bInKd tb f)) := ⟨fun δ Φ Ψ q => by
  obtain ⟨es, n, kd⟩ := kt.kd
  refine we_cmp (op_in_kd kd) (S := fun x y Φ => ∃ s, x = .str s ∧ y = .at_ (.ref l) ∧ Φ (.bl (tb.lookup s).isSome)) (fun B F G M σ δ H x y dx dy Q Φ S r1 r2 ⟨s, e1, e2, k⟩ q => ?_) (w.run δ _ Ψ (T.sat_bindM _ (T.sat_bind.mp q) fun d q2 => ?_)) rfl
  · subst e1 e2
    obtain rfl := r1.str_inv
    obtain rfl := r2.at_inv
    cases e : tb.lookup s with
    | none =>
      rw [e] at k
      exact ⟨s, none, rfl, rfl, kt.no s e, Ans.now q S (.bl _) k⟩
    | some d =>
      rw [e] at k
      obtain ⟨u, v, h1, _⟩ := kt.yes s d e
      exact ⟨s, some u, rfl, rfl, h1, Ans.now q S (.bl _) k⟩
  · obtain ⟨s, es, q2⟩ := optT_sat q2
    exact (de_kd (h := h) hm hg hd).run δ _ Ψ ⟨s, strD_ok es, rfl, q2⟩⟩
theorem de_ixKd {x : Str} {l : Addr} {tb : Tbl} (kt : KTbl X.K X.w l tb) (hm : X.mg x = some (.ref l)) (w : DE X h a f) (hs : PlainIx a := by intro _ _; rfl) (hg : Gl X x := by rfl) (hd : (x == ("__debug__" : Str)) = false := by decide) : DE X h (.Subscript (.Name x p) a pos) (cIxKd tb f) := ⟨fun δ Φ Ψ q => .mk fun B F G M σ H Q W tk S q0 x0 => by
  obtain ⟨es, n, kd⟩ := kt.kd
  refine eS_of (pe_ix ix_kdict (pe_glob hg hm (v := .ref l) rfl hd) peS hs) ?_
  refine (w.run δ _ Ψ (T.sat_bind.mp q)).run B F G M σ H _ W tk S (fun v H1 d g1 S1 r1 q1 => ?_) x0
  obtain ⟨s, es', q1⟩ := optT_sat q1
  obtain ⟨y, ey, q1⟩ := optT_sat q1
  rw [strD_ok es'] at r1
  obtain rfl := r1.str_inv
  obtain ⟨u, v, h1, h2, h3⟩ := kt.yes s y ey
  exact ⟨l, s, v, rfl, rfl, ⟨es, n, u, kd.at_, kd.lit, h1, h2⟩, q0 _ _ _ g1 S1 (h3 M H1) q1⟩⟩
end
end Ud

set_option Elab.async false
set_option linter.all false
set_option maxRecDepth 100000
set_option maxHeartbeats 4000000
/-! Equality over data with dicts of scalars. -/
namespace Ud
open PySem PySem.Spec PyProof.Rows L2 Uc
def scalD : D → Bool
  | .non => true
  | .bl _ => true
  | .int _ => true
  | .str s => shp (.str s)
  | _ => false
theorem scal_shp {d : D} (e : scalD d = true) : shp d = true := by
  cases d with
  | non => unfold shp D.py SeqAt.shaped PyData.canLay0 PyData.depth; decide
  | bl b => unfold shp D.py SeqAt.shaped PyData.canLay0 PyData.depth; rfl
  | int i => unfold shp D.py SeqAt.shaped PyData.canLay0 PyData.depth; rfl
  | str s => exact e
  | _ => cases e
theorem scal_one {K : PySem.W.Frag} {M M' : Addr → Prop} {H : Hp} {v : V} {d d' : D} (r : Rp K M H v d) (r' : Rp K M' H v d') (e : scalD d = true) (e' : scalD d' = true) : d = d' := by
  cases d with
  | non =>
    obtain rfl := r.non_inv
    cases r' <;> first | rfl | cases e'
  | bl b =>
    obtain rfl := r.bl_inv
    cases r' <;> first | rfl | cases e'
  | int i =>
    obtain rfl := r.int_inv
    cases r' <;> first | rfl | cases e'
  | str s =>
    obtain rfl := r.str_inv
    cases r' <;> first | rfl | cases e'
  | _ => cases e
theorem scal_all {K : PySem.W.Frag} {M M' : Addr → Prop} {H : Hp} : ∀ {vs : List V} {ds es : List D}, RpA K M H vs ds → RpA K M' H vs es → ds.all scalD = true → es.all scalD = true → ds = es
  | _, _, _, .nil, .nil, _, _ => rfl
  | _, _, _, .cons h t, .cons h' t', e, e' => by
    rw [List.all_cons, Bool.and_eq_true] at e e'
    rw [scal_one h h' e.1 e'.1, scal_all t t' e.2 e'.2]
/-- equality of two dicts at a key -/
def dkAt (ks : List Key) (ds : List D) (ls : List Key) (es : List D) (k : Key) : Bool := match atK ks ds k, atK ls es k with
  | some d, some d' => dEq d d'
  | _, _ => false
def dkEq (ks : List Key) (ds : List D) (ls : List Key) (es : List D) : Bool := ks.length == ls.length && ks.all (dkAt ks ds ls es)
def eqI (x y : D) : Option Bool := match x, y with
  | .dk ks ds, .dk ls es => if (ds.all scalD && es.all scalD) = true then some (dkEq ks ds ls es) else none
  | x, y => if (shp x && shp y) = true then some (dEq x y) else none
def eqL : List D → List D → Option (List Bool)
  | [], [] => some []
  | x :: xs, y :: ys => match eqI x y, eqL xs ys with
    | some b, some bs => some (b :: bs)
    | _, _ => none
  | _, _ => none
def eqX (x y : D) : Option Bool := if (shp x && shp y) = true then some (dEq x y) else match x, y with
  | .tup xs, .tup ys => (eqL xs ys).map fun bs => bs.all id
  | x, y => eqI x y
theorem atK_mem {ks : List Key} {ds : List D} {k : Key} {d : D} (e : atK ks ds k = some d) : d ∈ ds := by
  induction ks generalizing ds with
  | nil => cases ds <;> cases e
  | cons q ks ih =>
    cases ds with
    | nil => cases e
    | cons d' ds =>
      unfold atK at e
      split at e
      · cases e; exact List.mem_cons_self
      · exact List.mem_cons_of_mem _ (ih e)
theorem dEq_self {d : D} (e : shp d = true) : dEq d d = true := by
  unfold shp at e
  unfold dEq
  cases h : d.py with
  | none => rw [h] at e; cases e
  | some p => rw [h] at e; exact SeqAt.eqv_refl p (SeqAt.canLay_of_shaped e)
theorem atK_key : ∀ {ks : List Key} {ds : List D} {k : Key}, ks.length = ds.length → k ∈ ks → ∃ d, atK ks ds k = some d
  | [], _, _, _, m => absurd m (by simp)
  | q :: ks, [], _, l, _ => by simp at l
  | q :: ks, d :: ds, k, l, m => by
    unfold atK
    by_cases e : q = k
    · rw [if_pos e]; exact ⟨d, rfl⟩
    · rw [if_neg e]
      exact atK_key (by simpa using l) ((List.mem_cons.mp m).resolve_left fun z => e z.symm)
theorem dk_self {ks : List Key} {ds : List D} (l : ks.length = ds.length) (e : ds.all scalD = true) : dkEq ks ds ks ds = true := by
  unfold dkEq
  rw [Bool.and_eq_true]
  refine ⟨by simp, List.all_eq_true.mpr fun k hk => ?_⟩
  obtain ⟨d, hd⟩ := atK_key l hk
  unfold dkAt
  rw [hd]
  exact dEq_self (scal_shp (List.all_eq_true.mp e d (atK_mem hd)))
section
variable {X : Cx} {pins : List (Addr × Obj)} {σ : L2.St} {H : Hp} {s : Shared} {M M' : Addr → Prop} {x y : V} {v u : Value} {dx dy : D} {b : Bool}
theorem shp_leaf (I : Inv X pins σ H s) (r1 : Rp X.K M H x dx) (r2 : Rp X.K M' H y dy) (e1 : RelV x v) (e2 : RelV y u) (h1 : shp dx = true) (h2 : shp dy = true) {A : Around} (hu : A.units + 64 < cLine) : SeqAt.EqAt A s v u (dEq dx dy) := by
  unfold shp at h1 h2
  unfold dEq
  cases k1 : dx.py with
  | none => rw [k1] at h1; cases h1
  | some p => cases k2 : dy.py with
    | none => rw [k2] at h2; cases h2
    | some q =>
      rw [k1] at h1
      rw [k2] at h2
      obtain ⟨as, ra⟩ := Dp.reads I p x v (rp_dp r1 k1) e1
      obtain ⟨bs, rb⟩ := Dp.reads I q y u (rp_dp r2 k2) e2
      exact SeqAt.eqAt_reads p q A s v u as bs ra rb (SeqAt.canLay_of_shaped h1) (SeqAt.canLay_of_shaped h2) (SeqAt.room_of_shaped h1 hu)
theorem dict_tree (I : Inv X pins σ H s) {a b : Addr} {ka kb : List (Key × V)} {ds es : List D} (ha : H a = some (.dK ka)) (hb : H b = some (.dK kb)) (ra : RpA X.K M H (ka.map Prod.snd) ds) (rb : RpA X.K M' H (kb.map Prod.snd) es) (sa : ds.all scalD = true) (sb : es.all scalD = true) :
    ∃ (va vb : List (Key × Value)) (e : Key → Bool), (a == sysModules) = false ∧ (b == sysModules) = false ∧ s.heap.DictOf (mixKind X.prog X.w) a va ∧ s.heap.DictOf (mixKind X.prog X.w) b vb ∧
      (∀ k v y, (k, v) ∈ va → valueAt vb k = some y → PySem.W.EqTree X.prog X.w s 64 v y (e k)) ∧ (va.length == vb.length && va.all fun p => (valueAt vb p.1).isSome && e p.1) = dkEq (ka.map Prod.fst) ds (kb.map Prod.fst) es := by
  obtain ⟨_, ya, va, kva, da⟩ := dk_of I.hok ha
  obtain ⟨_, yb, vb, kvb, db⟩ := dk_of I.hok hb
  have nd : (va.map (·.1)).Nodup := by obtain ⟨_, _, _, _, _, _, _, _, n⟩ := da; exact n
  have vaAt : ∀ {k : Key} {v : Value}, (k, v) ∈ va → valueAt va k = some v := fun {k v} m => by
    unfold valueAt
    have : va.find? (fun kv => decide (kv.1 = k)) = some (k, v) := by
      clear kva da
      induction va with
      | nil => cases m
      | cons q va ih =>
        rw [List.map_cons, List.nodup_cons] at nd
        rcases List.mem_cons.mp m with z | z
        · rw [← z]; exact List.find?_cons_of_pos (by simp)
        · have : q.1 ≠ k := fun e => nd.1 (by rw [e]; exact List.mem_map.mpr ⟨_, z, rfl⟩)
          rw [List.find?_cons_of_neg (by simpa using this)]
          exact ih nd.2 z
    rw [this]; rfl
  refine ⟨va, vb, dkAt (ka.map Prod.fst) ds (kb.map Prod.fst) es, ya, yb, da, db, fun k v y m hy => ?_, ?_⟩
  · have hv := vaAt m
    have z1 := kva.val k
    have z2 := kvb.val k
    rw [hv] at z1
    rw [hy] at z2
    have w1 := atK_some (x := k) ra
    have w2 := atK_some (x := k) rb
    unfold dkAt
    cases e1 : atK (ka.map Prod.fst) ds k with
    | none =>
      rw [e1] at w1
      have w1' : valV ka k = none := w1
      rw [w1'] at z1
      exact z1.elim
    | some d1 =>
      cases e2 : atK (kb.map Prod.fst) es k with
      | none =>
        rw [e2] at w2
        have w2' : valV kb k = none := w2
        rw [w2'] at z2
        exact z2.elim
      | some d2 =>
        rw [e1] at w1
        rw [e2] at w2
        obtain ⟨v1, q1, r1⟩ := (show ∃ v, valV ka k = some v ∧ Rp X.K M H v d1 from w1)
        obtain ⟨v2, q2, r2⟩ := (show ∃ v, valV kb k = some v ∧ Rp X.K M' H v d2 from w2)
        rw [q1] at z1
        rw [q2] at z2
        exact .leaf fun A hu => shp_leaf I r1 r2 z1 z2 (scal_shp (List.all_eq_true.mp sa _ (atK_mem e1))) (scal_shp (List.all_eq_true.mp sb _ (atK_mem e2))) hu
  · have la : va.length = (ka.map Prod.fst).length := by rw [List.length_map]; exact kva.length.symm
    have lb : vb.length = (kb.map Prod.fst).length := by rw [List.length_map]; exact kvb.length.symm
    unfold dkEq
    rw [la, lb]
    congr 1
    have ek : ka.map Prod.fst = va.map Prod.fst := kva.keys
    rw [ek, List.all_map]
    congr 1
    funext p
    show ((valueAt vb p.1).isSome && _) = _
    have z2 := kvb.val p.1
    have w2 := atK_some (x := p.1) rb
    show ((valueAt vb p.1).isSome && dkAt _ ds _ es p.1) = dkAt _ ds _ es p.1
    cases hv : valueAt vb p.1 with
    | some y => simp
    | none =>
      rw [hv] at z2
      unfold dkAt
      cases e2 : atK (kb.map Prod.fst) es p.1 with
      | none => cases atK (va.map Prod.fst) ds p.1 <;> rfl
      | some d2 =>
        rw [e2] at w2
        obtain ⟨v2, q2, _⟩ := (show ∃ v, valV kb p.1 = some v ∧ Rp X.K M' H v d2 from w2)
        rw [q2] at z2
        exact z2.elim
theorem eqI_tree (I : Inv X pins σ H s) (r1 : Rp X.K M H x dx) (r2 : Rp X.K M' H y dy) (e1 : RelV x v) (e2 : RelV y u) (k : eqI dx dy = some b) : PySem.W.EqTree X.prog X.w s 65 v u b := by
  have data : (if (shp dx && shp dy) = true then some (dEq dx dy) else none) = some b → PySem.W.EqTree X.prog X.w s 65 v u b := fun k => by
    split at k
    · rename_i z
      rw [Bool.and_eq_true] at z
      cases k
      exact .leaf fun A hu => shp_leaf I r1 r2 e1 e2 z.1 z.2 (by omega)
    · cases k
  unfold eqI at k
  split at k
  · rename_i ks ds ls es
    split at k
    · rename_i z
      rw [Bool.and_eq_true] at z
      cases k
      obtain ⟨a, ka, rfl, na, ha, rfl, ra⟩ := r1.dk_inv
      obtain ⟨c, kc, rfl, nc, hc, rfl, rc⟩ := r2.dk_inv
      obtain rfl : v = Value.ref a := e1
      obtain rfl : u = Value.ref c := e2
      by_cases e : a = c
      · subst e
        rw [ha] at hc
        cases hc
        obtain rfl := scal_all ra rc z.1 z.2
        rw [dk_self (by rw [List.length_map, ← ra.length, List.length_map]) z.1]
        exact .same
      · obtain ⟨va, vb, ee, ya, yb, da, db, tr, eq⟩ := dict_tree I ha hc ra rc z.1 z.2
        rw [← eq]
        exact .dicts e ya yb da db tr
    · cases k
  · exact data k
theorem eqL_all (I : Inv X pins σ H s) : ∀ {xs ys : List V} {vs us : List Value} {ds es : List D} {bs : List Bool}, RpA X.K M H xs ds → RpA X.K M' H ys es → Vals xs vs → Vals ys us → eqL ds es = some bs → vs.length = bs.length ∧ us.length = bs.length ∧ ∀ (j : Nat) (v u : Value) (b : Bool), vs[j]? = some v → us[j]? = some u → bs[j]? = some b → PySem.W.EqTree X.prog X.w s 65 v u b
  | _, _, _, _, _, _, bs, .nil, .nil, .nil, .nil, e => by cases e; exact ⟨rfl, rfl, fun j v u b h => by simp at h⟩
  | _, _, _, _, _, _, bs, .cons h t, .cons h' t', .cons q w, .cons q' w', e => by
    unfold eqL at e
    split at e
    · rename_i b0 bs0 e1 e2
      cases e
      obtain ⟨l1, l2, a⟩ := eqL_all I t t' w w' e2
      refine ⟨by simp [l1], by simp [l2], fun j v u b k1 k2 k3 => ?_⟩
      cases j with
      | zero =>
        simp at k1 k2 k3
        subst k1 k2 k3
        exact eqI_tree I h h' q q' e1
      | succ j => exact a j v u b (by simpa using k1) (by simpa using k2) (by simpa using k3)
    · cases e
  | _, _, _, _, _, _, bs, .nil, .cons _ _, _, _, e => by unfold eqL at e; cases e
  | _, _, _, _, _, _, bs, .cons _ _, .nil, _, _, e => by unfold eqL at e; cases e
def rEqX (K : PySem.W.Frag) : R2 := fun x y H Q => ∃ (M : Addr → Prop) (d d' : D) (b : Bool), Rp K M H x d ∧ Rp K M H y d' ∧ eqX d d' = some b ∧ Q (.bl b) H
theorem op_eqX (hu : X.A.units + 67 < cLine) : OpR X (compareOp .Eq) (rEqX X.K) := by
  intro pins s σ H x y v u Q I rx ry ⟨M, d, d', b, r1, r2, k, q⟩
  have ans : ∀ {b' : Bool}, b' = b → EP X pins σ Q (.bool b') s := fun e => by rw [e]; exact ⟨.bl b, H, I, rfl, q⟩
  unfold eqX at k
  split at k
  · rename_i z
    cases k
    obtain ⟨p, q', k1, k2, s1, s2, e⟩ := shp_ok z
    obtain ⟨as, ra⟩ := Dp.reads I p x v (rp_dp r1 k1) rx
    obtain ⟨bs, rb⟩ := Dp.reads I q' y u (rp_dp r2 k2) ry
    exact SeqAt.compareEq_shaped ra rb s1 s2 (by omega) (ans e.symm)
  · split at k
    · rename_i xs ys _
      obtain ⟨bs, e, rfl⟩ := Option.map_eq_some_iff.mp k
      obtain ⟨a, as, rfl, ta, ra⟩ := r1.tup_inv
      obtain ⟨c, cs, rfl, tc, rc⟩ := r2.tup_inv
      obtain rfl : v = Value.ref a := rx
      obtain rfl : u = Value.ref c := ry
      obtain ⟨ia, va, pa, _⟩ := I.tuple ta
      obtain ⟨ic, vc, pc, _⟩ := I.tuple tc
      obtain ⟨l1, l2, all⟩ := eqL_all I ra rc va vc e
      refine PySem.W.eq_tuplesT (n := 65) (e := fun j => bs.getD j false) pa pc (fun j h1 h2 => ?_) (by omega) (ans ?_)
      · have hj : j < bs.length := by simp at h1; omega
        refine all j _ _ _ (by simp at h1; simp [h1]) (by simp at h2; simp [h2]) ?_
        rw [List.getD_eq_getElem?_getD, List.getElem?_eq_getElem hj]; rfl
      · have e1 : min ia.toArray.size ic.toArray.size = bs.length := by simp [l1, l2]
        rw [e1, L2.all_range]
        simp [l1, l2]
    · unfold eqI at k
      split at k
      · rename_i ks ds ls es _ _
        split at k
        · rename_i z
          rw [Bool.and_eq_true] at z
          cases k
          obtain ⟨a, ka, rfl, na, ha, rfl, ra⟩ := r1.dk_inv
          obtain ⟨c, kc, rfl, nc, hc, rfl, rc⟩ := r2.dk_inv
          obtain rfl : v = Value.ref a := rx
          obtain rfl : u = Value.ref c := ry
          obtain ⟨va, vb, ee, ya, yb, da, db, tr, eq⟩ := dict_tree I ha hc ra rc z.1 z.2
          exact PySem.W.eq_dictsT ya yb da db tr (by omega) (ans eq)
        · cases k
      · rename_i z _ _ _
        split at k
        · rename_i z2
          exact absurd z2 ‹_›
        · cases k
end
def vEqX (x y : D) : T Bool := optT (eqX x y) .ret
end Ud

set_option Elab.async false
set_option linter.all false
set_option maxRecDepth 100000
set_option maxHeartbeats 4000000
/-! enumerate of lists and tuples. -/
namespace Ud
open PySem PySem.Spec PyProof.Rows L2 Uc
open AutoSeq1 (wpAny_loadPart')
theorem enum_new1 {v : Value} {ob : Obj} {Hf : Heap → Prop} (Bg : Begins v ob Hf) :
    Meets (Builtin.«enumerate.__new__» ⟨[.type "enumerate", v], []⟩) (fun _ R s => Hf s.heap ∧ R (.ok (.ret (.ref (s.heap.push ob).objs.size))) { s with heap := (s.heap.push ob).push { cls := .type "enumerate", data := .fields #[.none, .bool false, .ref s.heap.objs.size, rawInt 0, .none, .none] } }) :=
  .of_wp fun Pg w A R s ⟨h1, h2⟩ => by
    obtain ⟨hp, g, d, tk, os⟩ := s
    have hsub := sub_enumerate
    have step : ∀ {A' : Around} {E : Value → Shared → Prop} {Q : Value → Shared → Prop}, Q (.ref hp.objs.size) ⟨hp.push ob, g, d, tk, os⟩ → wpAny (model Pg w) A' (pyIter v) Q E ⟨hp, g, d, tk, os⟩ := fun q => Bg.iter Pg w _ _ ⟨hp, g, d, tk, os⟩ _ h1 q
    wp_walk using step
    refine wpAny_stack_any fun st => wpAny_pure ?_
    split
    · rename_i c _ _ _ _ _
      cases (c == Value.type "enumerate")
      all_goals
        wp_walk using step
        exact ⟨_, rfl, h2⟩
    · wp_walk using step
      exact ⟨_, rfl, h2⟩
/-- the items of the tuple at a, numbered, each in a new pair -/
def Iet (K : PySem.W.Frag) (a : Addr) : It :=
  ⟨fun i H => ∃ (xs : List V) (x : V), SqT K H a xs ∧ xs[i]? = some x, fun i H v H' => ∃ T x, v = .ref T ∧ H T = none ∧ H' = upd H T (.tup [.int (i : Nat), x]) ∧ ∀ xs, SqT K H a xs → xs[i]? = some x, fun i H => ∃ xs : List V, SqT K H a xs ∧ xs.length = i⟩
theorem turn_enumT {P : Program} {w : World} {K : PySem.W.Frag} {elts : List Expr} {kk : Nat} {tpos : Pos} (a e it : Addr) (hai : a ≠ it) :
    Turn P w K (.Tuple elts kk tpos) (Iet K a) [e, it] e (fun i h => (∃ old, IsEnum h e it ((i : Nat) : Int) old) ∧ h.IsTupleIter it a i ∧ e ≠ it ∧ e ≠ a) where
  mem := by simp
  obj := fun i h ⟨⟨old, he⟩, ⟨o, ho, hc, hd⟩, _⟩ b hb => by
    rcases (show b = e ∨ b = it by simpa using hb) with rfl | rfl
    · exact ⟨_, he, fun v q => nomatch q⟩
    · exact ⟨o, ho, fun v q => by rw [hd] at q; cases q⟩
  keep := fun i h h' ⟨⟨old, he⟩, hi, hne⟩ k => ⟨⟨old, k e (by simp) _ he⟩, hi.at fun o q => k it (by simp) o q, hne⟩
  item := by
    intro X hP hw hK hc i pins s σ H E I hf st hg
    subst hP hw hK
    obtain ⟨⟨old, he⟩, hit, hne, hea⟩ := st
    obtain ⟨xs, x, hq, hx⟩ := hg
    obtain ⟨its, rv, p, hz⟩ := I.tuple hq
    have p' : s.heap.IsTuple a its.toArray := p
    obtain ⟨u, hu, ru⟩ := rv.get hx
    have hil : i < its.toArray.size := by
      have := (List.getElem?_eq_some_iff.mp hu).1
      simpa using this
    have hel : e < s.heap.objs.size := Heap.lt_size he
    have hitl : it < s.heap.objs.size := by obtain ⟨_, q, _⟩ := hit; exact Heap.lt_size q
    have Dr := Draws.tuple (prog := X.prog) (w := X.w) (A := X.A.in1) (I.ok.hd hc) it a hai its.toArray
    refine wpAny_pyNext_enum_itemD Dr he ⟨hit, p'⟩ hil hne (by simp [hne, hea]) fun y h' tk hy ho st' hT hsz hk => ?_
    have ey : y = u := by
      have z1 : its.toArray[i]? = some y := hy
      have z2 : its.toArray[i]? = some u := by simpa using hu
      rw [z1] at z2
      exact Option.some.inj z2
    subst ey
    obtain ⟨hit', _⟩ := st'
    refine ⟨_, rfl, wpAny_letOwnedTupleGo_enum (s := { s with heap := h', toks := tk + 1 }) ho fun h2 he2 sb => ?_⟩
    have hT2 : h2.get? s.heap.objs.size = some { cls := .type "tuple", data := .seq #[.int i tk, y] } := (sb.2 _ (Nat.ne_of_gt hel)).trans hT
    have nw : ObjOk X.prog X.w (upd H s.heap.objs.size (.tup [.int (i : Nat), x])) h2 s.heap.objs.size (.tup [.int (i : Nat), x]) :=
      ⟨by show 2 ≤ sizeLine; decide, [.int i tk, y], .cons ⟨_, rfl⟩ (.cons ru .nil), ⟨_, hT2, rfl, _, rfl⟩⟩
    have I1 : Inv X pins σ (upd H s.heap.objs.size (.tup [.int (i : Nat), x])) { s with heap := h2, toks := tk + 1 } :=
      I.turnedNew (t' := tk + 1) (ch := [e, it]) (fun b ob hb q => (sb.2 b (fun z => hb (by simp [z]))).trans (hk b ob (fun z => hb (by simp [z])) (fun z => hb (by simp [z])) q)) hf (Nat.le_refl _) nw
    refine ⟨.ref s.heap.objs.size, _, I1, rfl, ⟨_, x, rfl, I.hok.fresh (Nat.le_refl _), rfl, fun ys hy => by rw [I.tuple_inj hy hq]; exact hx⟩, ⟨⟨y, ?_⟩, hit'.at fun o q => (sb.2 it (Ne.symm hne)).trans q, hne, hea⟩, fun b hb => ?_⟩
    · rw [show ((i + 1 : Nat) : Int) = (i : Int) + 1 by omega]; exact he2
    · have hb' : b < s.heap.objs.size := by
        rcases (show b = e ∨ b = it by simpa using hb) with z | z
        · rw [z]; exact hel
        · rw [z]; exact hitl
      rw [upd_ne (Nat.ne_of_lt hb')]
      exact (hf b hb).1
  done := by
    intro X hP hw hK hc i pins s σ H E I hf st hg
    subst hP hw hK
    obtain ⟨⟨old, he⟩, hit, hne, hea⟩ := st
    obtain ⟨xs, hq, hx⟩ := hg
    obtain ⟨its, rv, p, hz⟩ := I.tuple hq
    have p' : s.heap.IsTuple a its.toArray := p
    obtain ⟨f0, f1, f2, f3, f4, f5⟩ := hf it (by simp)
    have hl := rv.length
    have ei : i = its.toArray.size := by simp; omega
    subst ei
    have Dr := Draws.tuple (prog := X.prog) (w := X.w) (A := X.A.in1) (I.ok.hd hc) it a hai its.toArray
    exact wpAny_pyNext_enum_endD Dr he ⟨hit, p'⟩ fun h' eb => ⟨rfl, I.turned (t' := s.toks) (fun b o hb q => eb b o hb q) f0 f1 f3 f4 f5⟩
  self := fun A i s Q E st h => let ⟨⟨_, he⟩, _⟩ := st; wpAny_pyIter_enum he h
def iEnumS (K : PySem.W.Frag) (ta : TA) : TI := fun σ H R => ta σ H fun vs H1 => ∃ a, vs = [.ref a] ∧ (((∃ xs, SqL K H1 a xs) ∧ R (Ite K a) H1) ∨ ((∃ xs, SqT K H1 a xs) ∧ R (Iet K a) H1))
theorem pi_enumS {X : Cx} {e : Expr} {ta : TA} {p pos tpos : Pos} {elts : List Expr} {kk : Nat} (hg : Gl X "enumerate") (hm : X.mg "enumerate" = none) (ha : PA X [e] ta) (hs : starEach [e] X.env = [(false, eval e X.env)] := by rfl) :
    PI X (.Tuple elts kk tpos) (.Call (.Name "enumerate" p) [e] [] pos) (iEnumS X.K ta) := ⟨fun pins s σ H R I hh => by
  refine Call_ (ld_blt I hg hm boot_enumerate (PyProof.Rows.callWith_type1 (thn (ha.run pos pins s σ H _ I hh) fun us s1 ⟨vs, H1, I1, r1, a, ex, q1⟩ => ?_) hs rfl))
  subst ex
  obtain ⟨u, rfl, r⟩ := vals1 r1
  cases r
  have fp : ∀ b ∈ [s1.heap.objs.size + 1, s1.heap.objs.size], FpOk X pins H1 b := fun b hb => by
    have hle : s1.heap.objs.size ≤ b := by
      rcases (show b = s1.heap.objs.size + 1 ∨ b = s1.heap.objs.size by simpa using hb) with z | z <;> omega
    exact I1.fpOk hle (I1.hok.fresh hle)
  rcases q1 with ⟨⟨xs, hq⟩, q⟩ | ⟨⟨xs, hq⟩, q⟩
  · obtain ⟨its, rv, pl, hz⟩ := I1.list hq
    refine call_enumerate_list pl.isList fun h' he hit hsz hk => wpAny_pyIter_enum he ?_
    exact ⟨s1.heap.objs.size + 1, [s1.heap.objs.size + 1, s1.heap.objs.size], _, _, H1, rfl, I1.kept (t' := s1.toks) hk, turn_enum a (s1.heap.objs.size + 1) s1.heap.objs.size, ⟨⟨.none, he⟩, hit, Nat.succ_ne_self _⟩, fp, q⟩
  · obtain ⟨its, rv, pl, hz⟩ := I1.tuple hq
    have pl' : s1.heap.IsTuple a its.toArray := pl
    have hla : a < s1.heap.objs.size := by obtain ⟨_, z, _⟩ := pl'; exact Heap.lt_size z
    refine callType_new F.called_enumerate (by decide) (F.typeCall_enumerate_1 _) (F.newCall_enumerate_1 _) (fun obj => F.args_object_init_2 obj _) F.entry_enumerate_new (enum_new1 (begins_tuple a its.toArray)) ⟨pl', ?_⟩
    generalize hob : ({ cls := .type "tuple_iterator", data := .fields #[.ref a, .int 0 0] } : Obj) = ob
    have hz1 : (s1.heap.push ob).objs.size = s1.heap.objs.size + 1 := Heap.size_push ..
    rw [hz1]
    have he : IsEnum ((s1.heap.push ob).push { cls := .type "enumerate", data := .fields #[.none, .bool false, .ref s1.heap.objs.size, rawInt 0, .none, .none] }) (s1.heap.objs.size + 1) s1.heap.objs.size 0 .none := by
      have z := Heap.get?_push_size (s1.heap.push ob) (o := { cls := .type "enumerate", data := .fields #[.none, .bool false, .ref s1.heap.objs.size, rawInt 0, .none, .none] }) rfl
      rw [hz1] at z; exact z
    have kp : ∀ b o, s1.heap.get? b = some o → ((s1.heap.push ob).push { cls := .type "enumerate", data := .fields #[.none, .bool false, .ref s1.heap.objs.size, rawInt 0, .none, .none] }).get? b = some o := fun b o z => Heap.get?_push_of_some _ (Heap.get?_push_of_some _ z)
    refine ⟨⟨_, he, rfl⟩, wpAny_pyIter_enum he ?_⟩
    refine ⟨s1.heap.objs.size + 1, [s1.heap.objs.size + 1, s1.heap.objs.size], _, _, H1, rfl, I1.kept (t' := s1.toks) kp, turn_enumT a (s1.heap.objs.size + 1) s1.heap.objs.size (Nat.ne_of_lt hla), ⟨⟨.none, he⟩, ⟨ob, ?_, by rw [← hob], by rw [← hob]; rfl⟩, Nat.succ_ne_self _, Nat.ne_of_gt (Nat.lt_succ_of_lt hla)⟩, fp, q⟩
    exact Heap.get?_push_of_some _ (Heap.get?_push_size _ (by rw [← hob]; rfl))⟩
/-! ### within the judgements -/
def enumG : Nat → List D → List D
  | _, [] => []
  | n, d :: ds => .tup [.int (n : Nat), d] :: enumG (n + 1) ds
abbrev enumD (ds : List D) : List D := enumG 0 ds
theorem enumG_get : ∀ {ds : List D} {n i : Nat} {d : D}, ds[i]? = some d → (enumG n ds)[i]? = some (.tup [.int ((n + i : Nat) : Int), d])
  | [], _, _, _, e => by simp at e
  | d :: ds, n, 0, _, e => by simp at e; subst e; rfl
  | _ :: ds, n, i + 1, d, e => by
    have := enumG_get (n := n + 1) (i := i) (d := d) (by simpa using e)
    rw [show n + (i + 1) = n + 1 + i by omega]
    simpa [enumG] using this
theorem enumD_get {ds : List D} {i : Nat} {d : D} (e : ds[i]? = some d) : (enumD ds)[i]? = some (.tup [.int (i : Int), d]) := by
  have := enumG_get (n := 0) e
  rwa [Nat.zero_add] at this
theorem enumG_len : ∀ {ds : List D} {n : Nat}, (enumG n ds).length = ds.length
  | [], _ => rfl
  | _ :: ds, n => congrArg (· + 1) (enumG_len (ds := ds) (n := n + 1))
theorem enumD_len {ds : List D} : (enumD ds).length = ds.length := enumG_len
theorem ylds_el {K : PySem.W.Frag} {a : Addr} {vs : List V} {ds : List D} {Fx : Addr → HO → Prop} {Gx : V → D → Prop} (hl : vs.length = ds.length) (hg : ∀ (k : Nat) u d, vs[k]? = some u → ds[k]? = some d → Gx u d) (hs : ∀ H', (∀ b o, Fx b o → H' b = some o) → SqL K H' a vs) : Ylds K (Ite K a) (enumD ds) Fx Gx where
  go := fun H i k hi => ⟨vs, vs[i]'(by rw [enumD_len] at hi; omega), hs H k, List.getElem?_eq_getElem (by rw [enumD_len] at hi; omega)⟩
  stop := fun H k => ⟨vs, hs H k, by rw [enumD_len]; omega⟩
  yld := fun H i x H' k hi ⟨T, y, ex, hT, eH, all⟩ => by
    subst ex eH
    have hx := all vs (hs _ k)
    rw [enumD_len] at hi
    have hd : ds[i]? = some ds[i] := List.getElem?_eq_getElem hi
    exact ⟨_, enumD_get hd, new_all hT, fun M lv gk => .tup (lv.new hT) upd_same (.cons (.int _) (.cons ((gk _ _ (hg i _ _ hx hd)).mono fun b o nb z => new_all hT b o z) .nil))⟩
theorem ylds_et {K : PySem.W.Frag} {a : Addr} {vs : List V} {ds : List D} {Fx : Addr → HO → Prop} {Gx : V → D → Prop} (hl : vs.length = ds.length) (hg : ∀ (k : Nat) u d, vs[k]? = some u → ds[k]? = some d → Gx u d) (hs : ∀ H', (∀ b o, Fx b o → H' b = some o) → SqT K H' a vs) : Ylds K (Iet K a) (enumD ds) Fx Gx where
  go := fun H i k hi => ⟨vs, vs[i]'(by rw [enumD_len] at hi; omega), hs H k, List.getElem?_eq_getElem (by rw [enumD_len] at hi; omega)⟩
  stop := fun H k => ⟨vs, hs H k, by rw [enumD_len]; omega⟩
  yld := fun H i x H' k hi ⟨T, y, ex, hT, eH, all⟩ => by
    subst ex eH
    have hx := all vs (hs _ k)
    rw [enumD_len] at hi
    have hd : ds[i]? = some ds[i] := List.getElem?_eq_getElem hi
    exact ⟨_, enumD_get hd, new_all hT, fun M lv gk => .tup (lv.new hT) upd_same (.cons (.int _) (.cons ((gk _ _ (hg i _ _ hx hd)).mono fun b o nb z => new_all hT b o z) .nil))⟩
section
variable {X : Cx} {h : Option Hd} {δ : List Sl} {Φ : List D → Prop} {Ψ : Str → List (Str × D) → Prop} {e : Expr} {pos p tpos : Pos} {fa : AF} {f : EF}
theorem wi_enumS (w : WE X h e δ (fun d => ∃ ds, seqOf d = some ds ∧ Φ (enumD ds)) Ψ) (hs : starEach [e] X.env = [(false, eval e X.env)] := by rfl) : WI X h (iEnumS X.K (tCons (eS X e) tNil)) δ Φ Ψ := .mk fun B F G M σ H R W tk S q x => by
  refine w.run B F G M σ H _ W tk S (fun v H1 d g1 S1 r1 ⟨ds, e1, k⟩ => ?_) x
  obtain ⟨a, vs, Fx, Gx, rfl, S1F, hl, hg, sq⟩ := S1.addL r1 e1
  have fx : ∀ b o, Fx b o → H1 b = some o := fun b o z => S1F.fk b o (.inr z)
  rcases sq with sq | sq
  · exact ⟨a, rfl, .inl ⟨⟨vs, sq H1 fx⟩, q _ H1 _ Fx Gx g1 S1F (ylds_el hl hg sq) k⟩⟩
  · exact ⟨a, rfl, .inr ⟨⟨vs, sq H1 fx⟩, q _ H1 _ Fx Gx g1 S1F (ylds_et hl hg sq) k⟩⟩
def cEnum (f : EF) : AF := fun δ => (f δ).bind fun d => optT (seqOf d) fun ds => .ret (enumD ds)
theorem di_enum {elts : List Expr} {kk : Nat} (hm : X.mg "enumerate" = none) (w : DE X h e f) (hg : Gl X "enumerate" := by rfl) (hs : starEach [e] X.env = [(false, eval e X.env)] := by rfl) : DI X h (.Tuple elts kk tpos) (.Call (.Name "enumerate" p) [e] [] pos) (iEnumS X.K (tCons (eS X e) tNil)) (cEnum f) := ⟨pi_enumS hg hm (pa_cons peS pa_nil hs) hs, fun δ Φ Ψ q => wi_enumS (w.run δ _ Ψ (T.sat_bindM _ q fun d q2 => by
  obtain ⟨ds, e1, q3⟩ := optT_sat q2
  exact ⟨ds, e1, q3⟩)) hs⟩
end
end Ud

set_option Elab.async false
set_option linter.all false
set_option maxRecDepth 100000
set_option maxHeartbeats 4000000
/-! sorted of ints, of rows of ints. -/
namespace Ud
open PySem PySem.Spec PyProof.Rows L2 Uc
section
variable {α : Type} (le : α → α → Bool)
def insS (x : α) : List α → List α
  | [] => [x]
  | y :: ys => if le x y = true then x :: y :: ys else y :: insS x ys
def isort : List α → List α
  | [] => []
  | x :: xs => insS le x (isort xs)
variable {le}
theorem insS_perm {x : α} : ∀ {l : List α}, (insS le x l).Perm (x :: l)
  | [] => .refl _
  | y :: ys => by
    unfold insS
    split
    · exact .refl _
    · exact (List.Perm.cons y insS_perm).trans (List.Perm.swap x y ys)
theorem isort_perm : ∀ {l : List α}, (isort le l).Perm l
  | [] => .refl _
  | x :: xs => insS_perm.trans (List.Perm.cons x isort_perm)
theorem insS_sorted (tot : ∀ a b, le a b = true ∨ le b a = true) (tr : ∀ a b c, le a b = true → le b c = true → le a c = true) {x : α} : ∀ {l : List α}, l.Pairwise (fun a b => le a b = true) → (insS le x l).Pairwise (fun a b => le a b = true)
  | [], _ => List.pairwise_singleton _ _
  | y :: ys, h => by
    obtain ⟨h1, h2⟩ := List.pairwise_cons.mp h
    unfold insS
    split
    · rename_i e
      refine List.pairwise_cons.mpr ⟨fun z hz => ?_, h⟩
      rcases List.mem_cons.mp hz with rfl | hz
      · exact e
      · exact tr _ _ _ e (h1 z hz)
    · rename_i e
      refine List.pairwise_cons.mpr ⟨fun z hz => ?_, insS_sorted tot tr h2⟩
      rcases List.mem_cons.mp (insS_perm.mem_iff.mp hz) with rfl | hz
      · exact (tot y z).resolve_right e
      · exact h1 z hz
theorem isort_sorted (tot : ∀ a b, le a b = true ∨ le b a = true) (tr : ∀ a b c, le a b = true → le b c = true → le a c = true) : ∀ {l : List α}, (isort le l).Pairwise (fun a b => le a b = true)
  | [] => .nil
  | x :: xs => insS_sorted tot tr (isort_sorted tot tr)
end
def isInt : D → Bool
  | .int _ => true
  | _ => false
/-- a row of ints, not empty -/
def isRow : D → Bool
  | .tup (x :: xs) => isInt x && xs.all isInt
  | _ => false
theorem isInt_ok {d : D} (e : isInt d = true) : ∃ i, d = .int i := by
  cases d with
  | int i => exact ⟨i, rfl⟩
  | _ => cases e
theorem ints_all : ∀ {ds : List D}, ds.all isInt = true → ∃ is : List Int, ds = is.map D.int
  | [], _ => ⟨[], rfl⟩
  | d :: ds, e => by
    rw [List.all_cons, Bool.and_eq_true] at e
    obtain ⟨i, rfl⟩ := isInt_ok e.1
    obtain ⟨is, rfl⟩ := ints_all e.2
    exact ⟨i :: is, rfl⟩
theorem isRow_ok {d : D} (e : isRow d = true) : ∃ i is, d = .tup ((i :: is).map D.int) := by
  cases d with
  | tup xs =>
    cases xs with
    | nil => cases e
    | cons x xs =>
      have e' : (isInt x && xs.all isInt) = true := e
      obtain ⟨is, h⟩ := ints_all (ds := x :: xs) (by rw [List.all_cons]; exact e')
      cases is with
      | nil => cases h
      | cons i is => exact ⟨i, is, by rw [h]⟩
  | _ => cases e
theorem pyA_ints : ∀ {is : List Int}, D.pyA (is.map D.int) = some (is.map PyData.int)
  | [] => by unfold D.pyA; rfl
  | i :: is => by rw [List.map_cons]; unfold D.pyA; rw [pyA_ints]; unfold D.py; rfl
theorem py_row {is : List Int} : D.py (.tup (is.map D.int)) = some (.tuple (is.map PyData.int)) := by unfold D.py; rw [pyA_ints]; rfl
theorem pyOf_row {is : List Int} : pyOf (.tup (is.map D.int)) = .tuple (is.map PyData.int) := by unfold pyOf; rw [py_row]; rfl
theorem pyOf_int {i : Int} : pyOf (.int i) = .int i := by unfold pyOf D.py; rfl
theorem alike_ints : ∀ {is js : List Int}, PySem.W.alikeAll (is.map PyData.int) (js.map PyData.int) = true
  | [], _ => by simp [PySem.W.alikeAll]
  | _ :: _, [] => by simp [PySem.W.alikeAll]
  | i :: is, j :: js => by
    simp only [List.map_cons, PySem.W.alikeAll, Bool.and_eq_true]
    exact ⟨by simp [PySem.W.alike], alike_ints⟩
theorem depth_ints : ∀ {is : List Int}, PyData.depthAll (is.map PyData.int) = 0
  | [] => by unfold PyData.depthAll; rfl
  | i :: is => by rw [List.map_cons]; unfold PyData.depthAll; rw [depth_ints]; unfold PyData.depth; rfl
theorem toks_inj : ∀ {is js : List Int}, PySem.W.keyToksAll (is.map PyData.int) = PySem.W.keyToksAll (js.map PyData.int) → is = js
  | [], [], _ => rfl
  | [], j :: js, e => by simp [PySem.W.keyToksAll] at e
  | i :: is, [], e => by simp [PySem.W.keyToksAll] at e
  | i :: is, j :: js, e => by
    simp only [List.map_cons, PySem.W.keyToksAll, PySem.W.keyToks, List.cons_append, List.nil_append, List.cons.injEq, Sum.inl.injEq, true_and] at e
    rw [e.1, toks_inj e.2]
def srtOk (ds : List D) : Bool := decide (ds.length ≤ 100000) && (ds.all isRow || ds.all isInt)
/-- the keys of what may be sorted tell it -/
theorem srt_inj {ds : List D} (e : srtOk ds = true) {a b : D} (ha : a ∈ ds) (hb : b ∈ ds) (k : PySem.W.keyToks (pyOf a) = PySem.W.keyToks (pyOf b)) : a = b := by
  unfold srtOk at e
  simp only [Bool.and_eq_true, Bool.or_eq_true, decide_eq_true_eq] at e
  rcases e.2 with e | e
  · obtain ⟨i, is, rfl⟩ := isRow_ok (List.all_eq_true.mp e a ha)
    obtain ⟨j, js, rfl⟩ := isRow_ok (List.all_eq_true.mp e b hb)
    rw [pyOf_row, pyOf_row] at k
    simp only [PySem.W.keyToks] at k
    rw [toks_inj k]
  · obtain ⟨i, rfl⟩ := isInt_ok (List.all_eq_true.mp e a ha)
    obtain ⟨j, rfl⟩ := isInt_ok (List.all_eq_true.mp e b hb)
    rw [pyOf_int, pyOf_int] at k
    simp only [PySem.W.keyToks, List.cons.injEq, Sum.inl.injEq, and_true] at k
    rw [k]
theorem pyLe_tot (a b : D) : pyLe a b = true ∨ pyLe b a = true := by
  have := (PySem.W.sortLe_total (listOrd itemOrd) false (fun d => PySem.W.keyToks (pyOf d))).total a b
  simpa [pyLe, PySem.W.dataLe] using this
theorem pyLe_trans (a b c : D) (h1 : pyLe a b = true) (h2 : pyLe b c = true) : pyLe a c = true :=
  (PySem.W.sortLe_total (listOrd itemOrd) false (fun d => PySem.W.keyToks (pyOf d))).trans a b c h1 h2
theorem pyLe_anti {a b : D} (h1 : pyLe a b = true) (h2 : pyLe b a = true) : PySem.W.keyToks (pyOf a) = PySem.W.keyToks (pyOf b) := by
  have h1' : (!(listOrd itemOrd).blt (PySem.W.keyToks (pyOf b)) (PySem.W.keyToks (pyOf a))) = true := h1
  have h2' : (!(listOrd itemOrd).blt (PySem.W.keyToks (pyOf a)) (PySem.W.keyToks (pyOf b))) = true := h2
  rw [Bool.not_eq_true'] at h1' h2'
  have t := (listOrd itemOrd).total (PySem.W.keyToks (pyOf a)) (PySem.W.keyToks (pyOf b))
  exact t h2' h1'
theorem sort_is {ds : List D} (e : srtOk ds = true) : ds.mergeSort pyLe = isort pyLe ds := by
  have p1 := List.mergeSort_perm ds pyLe
  refine List.Perm.eq_of_pairwise (le := fun a b => pyLe a b = true) (fun a b ha hb h1 h2 => srt_inj e (p1.mem_iff.mp ha) (isort_perm.mem_iff.mp hb) (pyLe_anti h1 h2)) ?_ (isort_sorted pyLe_tot pyLe_trans) (p1.trans isort_perm.symm)
  exact List.pairwise_mergeSort pyLe_trans (fun a b => by simpa using pyLe_tot a b) ds
def vSorted : List D → T D
  | [.lst ds] => .chk (srtOk ds) (.ret (.lst (isort pyLe ds)))
  | _ => .stuck
theorem vSorted_ok {ds : List D} {Φ : D → Prop} {Ψ : Str → List (Str × D) → Prop} (q : (vSorted ds).sat Φ Ψ) : sSorted ds Φ := by
  unfold vSorted at q
  split at q
  · rename_i ds
    obtain ⟨k, q⟩ := T.sat_chk q
    have k' := k
    unfold srtOk at k'
    simp only [Bool.and_eq_true, Bool.or_eq_true, decide_eq_true_eq] at k'
    obtain ⟨kl, kk⟩ := k'
    refine ⟨fun d hd => ?_, ?_, ?_, kl, by rw [sort_is k]; exact q⟩
    · rcases kk with e | e
      · obtain ⟨i, is, rfl⟩ := isRow_ok (List.all_eq_true.mp e d hd)
        exact ⟨_, py_row, by unfold PyData.depth; rw [depth_ints]; decide⟩
      · obtain ⟨i, rfl⟩ := isInt_ok (List.all_eq_true.mp e d hd)
        exact ⟨.int i, by unfold D.py; rfl, by unfold PyData.depth; omega⟩
    · intro d hd d' hd'
      obtain ⟨a, ha, rfl⟩ := List.mem_map.mp hd
      obtain ⟨b, hb, rfl⟩ := List.mem_map.mp hd'
      rcases kk with e | e
      · obtain ⟨i, is, rfl⟩ := isRow_ok (List.all_eq_true.mp e a ha)
        obtain ⟨j, js, rfl⟩ := isRow_ok (List.all_eq_true.mp e b hb)
        rw [pyOf_row, pyOf_row]
        simp only [PySem.W.alike]
        exact alike_ints
      · obtain ⟨i, rfl⟩ := isInt_ok (List.all_eq_true.mp e a ha)
        obtain ⟨j, rfl⟩ := isInt_ok (List.all_eq_true.mp e b hb)
        rw [pyOf_int, pyOf_int]
        simp [PySem.W.alike]
    · rcases kk with e | e
      · refine .inl fun d hd => ?_
        obtain ⟨a, ha, rfl⟩ := List.mem_map.mp hd
        obtain ⟨i, is, rfl⟩ := isRow_ok (List.all_eq_true.mp e a ha)
        rw [pyOf_row]
        exact ⟨_, _, rfl⟩
      · refine .inr fun d hd => ?_
        obtain ⟨a, ha, rfl⟩ := List.mem_map.mp hd
        obtain ⟨i, rfl⟩ := isInt_ok (List.all_eq_true.mp e a ha)
        rw [pyOf_int]
        exact ⟨(nomatch ·), fun xs z => nomatch z⟩
  · exact q.elim
theorem de_sorted {X : Cx} {h : Option Hd} {e : Expr} {es : List Expr} {pos p : Pos} {fa : AF} {n : Nat} (hr : Room n X.A) {x : Str} (hx : x = "sorted") (hm : X.mg x = none) (w : DA X h (e :: es) fa) (hg : Gl X x := by rfl) (hn : x ≠ "__name__" := by decide) (hdb : (x == ("__debug__" : Str)) = false := by decide)
    (he : starEach (e :: es) X.env = (false, eval e X.env) :: starEach es X.env := by rfl) (hpl : (backTo pos (starEach es X.env)).any (·.1) = false := by rfl) : DE X h (.Call (.Name x p) (e :: es) [] pos) (cCall vSorted fa) := ⟨fun δ Φ Ψ q =>
  we_sorted hr hx hm (w.run δ _ Ψ (T.sat_bindM _ q fun ds q2 => vSorted_ok q2)) hg hn hdb he hpl⟩
end Ud

set_option Elab.async false
set_option linter.all false
set_option maxRecDepth 100000
set_option maxHeartbeats 4000000
/-! Tables of larger sets: masks up to 2047. -/
namespace Ud
abbrev setObj (w : PySem.World) : PySem.Obj := { cls := .type "set", dict := none, data := .set #[] 0 (.fresh 0 0 (!w.params.followText "set-order")) }
end Ud
namespace Ud.Bg
open PySem PySem.Spec PyProof.Rows L2 Uc Ud
/-! ### the round of 5 x + 1 -/
def sq : Nat → Nat
  | 0 => 0
  | n + 1 => sq n * 5 + 1
theorem sq_add (a : Nat) : ∀ b, sq (a + b) = sq a * 5 ^ b + sq b
  | 0 => by rw [Nat.pow_zero, Nat.mul_one]; rfl
  | b + 1 => by
    show sq (a + b) * 5 + 1 = sq a * 5 ^ (b + 1) + (sq b * 5 + 1)
    rw [sq_add a b, Nat.pow_succ, Nat.add_mul, Nat.mul_assoc, Nat.add_assoc]
theorem lcg_sq (m : Nat) : ∀ n, lcgN m n = sq n % (m + 1)
  | 0 => by show 0 = 0 % (m + 1); rw [Nat.zero_mod]
  | n + 1 => by
    show (lcgN m n * 5 + 1) % (m + 1) = (sq n * 5 + 1) % (m + 1)
    rw [lcg_sq m n, Nat.add_mod, Nat.mul_mod, Nat.mod_mod, ← Nat.mul_mod, ← Nat.add_mod]
theorem twice {M : Nat} (hM : 0 < M) (h : ∀ j, j < M → ∃ b, b < M ∧ sq b % M = j) (e1 : sq M % (2 * M) = M) (e2 : 5 ^ M % (2 * M) = 1) : ∀ j, j < 2 * M → ∃ b, b < 2 * M ∧ sq b % (2 * M) = j := fun j hj => by
  obtain ⟨b, hb, e⟩ := h (j % M) (Nat.mod_lt _ hM)
  have y1 : sq b % (2 * M) < 2 * M := Nat.mod_lt _ (by omega)
  have y2 : sq b % (2 * M) % M = j % M := by rw [Nat.mod_mod_of_dvd _ (Nat.dvd_mul_left M 2), e]
  by_cases c : sq b % (2 * M) = j
  · exact ⟨b, by omega, c⟩
  · refine ⟨b + M, by omega, ?_⟩
    have s : sq (b + M) % (2 * M) = (sq b % (2 * M) + M) % (2 * M) := by
      rw [sq_add, Nat.add_mod, Nat.mul_mod, e2, e1, Nat.mul_one, Nat.mod_mod]
    rw [s]
    generalize sq b % (2 * M) = y at *
    rcases Nat.lt_or_ge y M with a | a
    · rcases Nat.lt_or_ge j M with d | d
      · rw [Nat.mod_eq_of_lt a, Nat.mod_eq_of_lt d] at y2
        exact absurd y2 c
      · rw [Nat.mod_eq_of_lt a, Nat.mod_eq_sub_mod d, Nat.mod_eq_of_lt (by omega)] at y2
        rw [Nat.mod_eq_of_lt (by omega)]
        omega
    · rcases Nat.lt_or_ge j M with d | d
      · rw [Nat.mod_eq_of_lt d, Nat.mod_eq_sub_mod a, Nat.mod_eq_of_lt (by omega)] at y2
        rw [Nat.mod_eq_sub_mod (by omega), Nat.mod_eq_of_lt (by omega)]
        omega
      · rw [Nat.mod_eq_sub_mod d, Nat.mod_eq_sub_mod a, Nat.mod_eq_of_lt (show y - M < M by omega), Nat.mod_eq_of_lt (show j - M < M by omega)] at y2
        exact absurd (by omega) c
structure MaskB (m : Nat) : Prop where
  odd : m % 2 = 1
  le : m ≤ 2047
  all : ∀ j, j < m + 1 → ∃ b, b < m + 1 ∧ sq b % (m + 1) = j
  rd : sq (m + 1) % (m + 1) = 0
theorem b128 : ∀ j, j < 128 → ∃ b, b < 128 ∧ sq b % 128 = j := fun j hj => by
  obtain ⟨b, h1, h2⟩ := lcg_all (m := 127) (.inr (.inr rfl)) (j := j) (by omega)
  exact ⟨b, by omega, by rw [← h2, lcg_sq]⟩
theorem b512 : ∀ j, j < 512 → ∃ b, b < 512 ∧ sq b % 512 = j := twice (M := 256) (by decide) (twice (M := 128) (by decide) b128 (by decide +kernel) (by decide +kernel)) (by decide +kernel) (by decide +kernel)
theorem b2048 : ∀ j, j < 2048 → ∃ b, b < 2048 ∧ sq b % 2048 = j := twice (M := 1024) (by decide) (twice (M := 512) (by decide) b512 (by decide +kernel) (by decide +kernel)) (by decide +kernel) (by decide +kernel)
theorem maskOld {m : Nat} (h : MaskOk m) (hl : m ≤ 2047) : MaskB m := ⟨mask_odd h, hl, fun j hj => by
  obtain ⟨b, h1, h2⟩ := lcg_all h (j := j) (by omega)
  exact ⟨b, by omega, by rw [← h2, lcg_sq]⟩, by rw [← lcg_sq]; exact lcg_round h⟩
theorem mask7 : MaskB 7 := maskOld (.inl rfl) (by decide)
theorem mask31 : MaskB 31 := maskOld (.inr (.inl rfl)) (by decide)
theorem mask127 : MaskB 127 := maskOld (.inr (.inr rfl)) (by decide)
theorem mask511 : MaskB 511 := ⟨by decide, by decide, b512, by decide +kernel⟩
theorem mask2047 : MaskB 2047 := ⟨by decide, by decide, b2048, by decide +kernel⟩
section
variable {m : Nat}
theorem turn (hm : MaskB m) : ∀ k, lcgN m (m + 1 + k) = lcgN m k
  | 0 => by rw [Nat.add_zero, lcg_sq, hm.rd]; rfl
  | k + 1 => congrArg (fun z => (z * 5 + 1) % (m + 1)) (turn hm k)
/-- from each slot to each slot -/
theorem there (hm : MaskB m) {i j : Nat} (hi : i ≤ m) (hj : j ≤ m) : ∃ k, k ≤ m ∧ lcgI m i k = j := by
  obtain ⟨x, hx, ex⟩ := hm.all i (by omega)
  obtain ⟨y, hy, ey⟩ := hm.all j (by omega)
  rw [← lcg_sq] at ex ey
  subst ex
  by_cases c : x ≤ y
  · exact ⟨y - x, by omega, by rw [lcgN_add, show x + (y - x) = y by omega, ey]⟩
  · exact ⟨y + (m + 1) - x, by omega, by rw [lcgN_add, show x + (y + (m + 1) - x) = m + 1 + y by omega, turn hm, ey]⟩
theorem runs (hm : MaskB m) (h : Int) {j : Nat} (hj : j ≤ m) : ∃ n, n ≤ m + 12 ∧ runI m (SetTable.bits h) n = j := by
  obtain ⟨k, hk, e⟩ := there hm (runI_le m (SetTable.bits h) 12) hj
  exact ⟨12 + k, by omega, (runI_tail (bits_lt h) k).trans e⟩
theorem way_in (h : Int) (k : Nat) : way m h k ≤ m := by
  have r0 : SetTable.bits h % (m + 1) ≤ m := by have := Nat.mod_lt (SetTable.bits h) (show 0 < m + 1 by omega); omega
  obtain ⟨r1, r2, _⟩ := runEnd_bd r0
  have : (runAt m (SetTable.bits h % (m + 1)) (SetTable.bits h)).j + (runAt m (SetTable.bits h % (m + 1)) (SetTable.bits h)).more ≤ m := by
    show SetTable.bits h % (m + 1) + (SetTable.runEnd m (SetTable.bits h % (m + 1)) - SetTable.bits h % (m + 1)) ≤ m
    omega
  have z := nth_in k _ this
  unfold way
  omega
theorem way_all (hm : MaskB m) (h : Int) {j : Nat} (hj : j ≤ m) : ∃ k, k < 10 * SetTable.turns m ∧ way m h k = j := by
  obtain ⟨n, hn, e⟩ := runs hm h hj
  obtain ⟨k, hk, e2⟩ := run_nth m (SetTable.bits h) n
  refine ⟨k, by unfold SetTable.turns; omega, ?_⟩
  unfold way
  rw [e2]
  exact e
end
/-! ### a table -/
structure TabB (t : SetTable) (hs : List Int) : Prop where
  up : Ris t.place.toList
  nod : t.dummies = #[]
  len : t.place.size = hs.length
  msk : MaskB t.mask
  low : ∀ x ∈ t.place.toList, x ≤ t.mask
  met : ∀ (i : Nat) (h : Int) (j : Nat), hs[i]? = some h → t.place.toList[i]? = some j → ∃ k, way t.mask h k = j ∧ ∀ c, c < k → way t.mask h c ∈ t.place.toList
section
variable {t : SetTable} {hs : List Int}
theorem TabB.gap (T : TabB t hs) (hl : hs.length ≤ t.mask) (h : Int) : ∃ K, K < 10 * SetTable.turns t.mask ∧ way t.mask h K ∉ t.place.toList ∧ ∀ c, c < K → way t.mask h c ∈ t.place.toList := by
  obtain ⟨j, hj, hn⟩ := st_missing t.place.toList (t.mask + 1) (by rw [Array.length_toList, T.len]; omega)
  obtain ⟨k, hk, rfl⟩ := way_all T.msk h (show j ≤ t.mask by omega)
  obtain ⟨K, a, b, d⟩ := st_least (p := fun c => way t.mask h c ∉ t.place.toList) k hn
  exact ⟨K, by omega, b, fun c hc => Classical.byContradiction fun z => d c hc z⟩
theorem TabB.ahead (T : TabB t hs) {h : Int} {K i j : Nat} (hK : way t.mask h K ∉ t.place.toList) (hi : hs[i]? = some h) (hj : t.place.toList[i]? = some j) : ∃ k, k < K ∧ way t.mask h k = j := by
  obtain ⟨k, e, hb⟩ := T.met i h j hi hj
  refine ⟨k, Classical.byContradiction fun z => ?_, e⟩
  rcases Nat.lt_or_eq_of_le (Nat.le_of_not_lt z) with c | c
  · exact hK (hb K c)
  · rw [c, e] at hK
    exact hK (List.mem_of_getElem? hj)
theorem TabB.add (T : TabB t hs) {h : Int} {K : Nat} (hK : way t.mask h K ∉ t.place.toList) (hb : ∀ c, c < K → way t.mask h c ∈ t.place.toList) :
    ∃ p, (t.put (way t.mask h K)).2 = p ∧ p ≤ hs.length ∧ TabB (t.put (way t.mask h K)).1 (hs.take p ++ h :: hs.drop p) ∧ (t.put (way t.mask h K)).1.mask = t.mask ∧ (t.put (way t.mask h K)).1.led = t.led ∧ (t.put (way t.mask h K)).1.plain = t.plain ∧ (t.put (way t.mask h K)).1.fill = hs.length + 1 := by
  have hjm := way_in (m := t.mask) h K
  generalize hj : way t.mask h K = j at hK hjm ⊢
  have cut := (below_cut T.up j).1
  have pl : SetTable.below t.place j ≤ t.place.toList.length := by simpa using cut
  have ph : SetTable.below t.place j ≤ hs.length := by rw [← T.len]; exact cut
  have pp := put_place t j
  have sz : (t.put j).1.place.size = hs.length + 1 := by
    have := congrArg List.length pp
    rw [len_ins _ pl, Array.length_toList, Array.length_toList, T.len] at this
    exact this
  have grow : ∀ {x : Nat}, x ∈ t.place.toList → x ∈ (t.put j).1.place.toList := fun hx => by rw [pp]; exact mem_ins.2 (.inr hx)
  refine ⟨SetTable.below t.place j, rfl, ph, ⟨ris_insert T.up fun e => hK (List.mem_of_getElem? (by rw [Array.getElem?_toList]; exact e)), put_dm T.nod j, by rw [len_ins _ ph]; exact sz, T.msk, fun x hx => ?_, fun i h' j' h1 h2 => ?_⟩, rfl, rfl, rfl, ?_⟩
  · rw [pp] at hx
    rcases mem_ins.1 hx with rfl | z
    · exact hjm
    · exact T.low x z
  · rw [tins_get hs ph] at h1
    rw [pp, tins_get _ pl] at h2
    have old : ∀ i', hs[i']? = some h' → t.place.toList[i']? = some j' → ∃ k, way (t.put j).1.mask h' k = j' ∧ ∀ c, c < k → way (t.put j).1.mask h' c ∈ (t.put j).1.place.toList := fun i' a b => by
      obtain ⟨k, e, z⟩ := T.met i' h' j' a b
      exact ⟨k, e, fun c hc => grow (z c hc)⟩
    by_cases c : i < SetTable.below t.place j
    · rw [if_pos c] at h1 h2
      exact old i h1 h2
    · rw [if_neg c] at h1 h2
      by_cases d : i = SetTable.below t.place j
      · rw [if_pos d] at h1 h2
        cases h1
        cases h2
        exact ⟨K, hj, fun c hc => grow (hb c hc)⟩
      · rw [if_neg d] at h1 h2
        exact old (i - 1) h1 h2
  · show (t.put j).1.place.size + (t.put j).1.dummies.size = _
    rw [sz, put_dm T.nod j]
    rfl
end
/-! ### all laid anew -/
section
variable {m : Nat}
theorem found (hm : MaskB m) (own : Array (Option Nat)) (h : Int) {j : Nat} (hj : j ≤ m) (hf : oAt own j = none) :
    ∃ K, SetTable.layClean.free m own (SetTable.turns m) (SetTable.bits h % (m + 1)) (SetTable.bits h) = some (way m h K) ∧ oAt own (way m h K) = none ∧ ∀ c, c < K → oAt own (way m h c) ≠ none := by
  obtain ⟨n, hn, e⟩ := runs hm h hj
  generalize eo : off m (SetTable.bits h % (m + 1)) (SetTable.bits h) n = o
  have hw : way m h o = j := by
    unfold way
    rw [← eo, nth_off, itL_run]
    exact e
  obtain ⟨K, a, b, d⟩ := st_least (p := fun c => oAt own (way m h c) = none) o (by show oAt own (way m h o) = none; rw [hw]; exact hf)
  refine ⟨K, free_spec m own _ n _ _ K (by unfold SetTable.turns; omega) (by rw [eo]; exact a) (fun c hc => ?_) ?_, b, d⟩
  · have := d c hc
    cases z : oAt own (way m h c) with
    | none => exact absurd z this
    | some x => rfl
  · show (oAt own (way m h K)).isNone = true
    rw [b]; rfl
theorem one (hm : MaskB m) {did : List Int} {own : Array (Option Nat)} (W : Own m did own) (hl : did.length ≤ m) (h : Int) :
    ∃ j, SetTable.layClean.free m own (SetTable.turns m) (SetTable.bits h % (m + 1)) (SetTable.bits h) = some j ∧ Own m (did ++ [h]) (own.setIfInBounds j (some did.length)) := by
  obtain ⟨ps, hp, hin⟩ := W.ps
  obtain ⟨j0, h0, n0⟩ := st_missing ps (m + 1) (by omega)
  have f0 : oAt own j0 = none := Classical.byContradiction fun z => n0 (hin j0 (by omega) z)
  obtain ⟨K, e1, e2, e3⟩ := found hm own h (show j0 ≤ m by omega) f0
  have wm := way_in (m := m) h K
  generalize hj : way m h K = j at e1 e2 wm
  have me := oAt_set_self (owner := own) (j := j) (some did.length) (by rw [W.sz]; omega)
  have ot : ∀ {i : Nat}, i ≠ j → oAt (own.setIfInBounds j (some did.length)) i = oAt own i := fun z => oAt_set_ne _ z
  have keep : ∀ {i : Nat}, oAt own i ≠ none → oAt (own.setIfInBounds j (some did.length)) i ≠ none := fun {i} hi => by
    rcases Classical.em (i = j) with rfl | c
    · rw [me]; exact fun z => nomatch z
    · rw [ot c]; exact hi
  refine ⟨j, e1, ⟨by rw [Array.size_setIfInBounds]; exact W.sz, fun i k hi e => ?_, fun k hk => ?_, j :: ps, by simp [hp], fun i hi e => ?_⟩⟩
  · rcases Classical.em (i = j) with rfl | c
    · rw [me] at e
      cases e
      exact ⟨h, K, by simp, hj, fun c hc => keep (e3 c hc)⟩
    · rw [ot c] at e
      obtain ⟨h', K', a, b, d⟩ := W.at_ i k hi e
      exact ⟨h', K', by rw [List.getElem?_append_left (List.getElem?_eq_some_iff.mp a).1]; exact a, b, fun c hc => keep (d c hc)⟩
  · rw [List.length_append, List.length_singleton] at hk
    rcases Nat.lt_succ_iff_lt_or_eq.mp hk with c | rfl
    · obtain ⟨i, hi, e⟩ := W.all k c
      exact ⟨i, hi, by rw [ot (fun z => by rw [z, e2] at e; cases e)]; exact e⟩
    · exact ⟨j, wm, me⟩
  · rcases Classical.em (i = j) with rfl | c
    · exact List.mem_cons_self
    · rw [ot c] at e
      exact List.mem_cons_of_mem _ (hin i hi e)
theorem fold (hm : MaskB m) : ∀ (hs did : List Int) (own : Array (Option Nat)), Own m did own → did.length + hs.length ≤ m →
    ∃ own', hs.foldl (stepF m) (some (own, did.length)) = some (own', did.length + hs.length) ∧ Own m (did ++ hs) own'
  | [], did, own, W, _ => ⟨own, rfl, by rw [List.append_nil]; exact W⟩
  | h :: hs, did, own, W, hl => by
    rw [List.length_cons] at hl
    obtain ⟨j, e, W'⟩ := one hm W (by omega) h
    have hlen : (did ++ [h]).length = did.length + 1 := by simp
    obtain ⟨own', f, W2⟩ := fold hm hs (did ++ [h]) _ W' (by omega)
    refine ⟨own', ?_, by simpa using W2⟩
    rw [List.foldl_cons, stepF_some e, ← hlen, f, hlen, List.length_cons]
    congr 2
    omega
theorem laid (hm : MaskB m) {hs : Array Int} (hn : hs.size ≤ m) : ∃ own, SetTable.layClean m hs = some own ∧ Own m hs.toList own := by
  obtain ⟨own, f, W⟩ := fold hm hs.toList [] _ (Own.init m) (by simpa using hn)
  refine ⟨own, ?_, by simpa using W⟩
  rw [layClean_eq]
  have f' : hs.toList.foldl (stepF m) (some (Array.replicate (m + 1) none, 0)) = some (own, 0 + hs.toList.length) := f
  rw [f']
  rfl
theorem anew (t : SetTable) {hs : Array Int} {wanted : Nat} (hw : SetTable.sizeAbove wanted - 1 = m) (hm : MaskB m) (hn : hs.size ≤ m) :
    ∃ t' ord, t.relaid hs wanted = some (t', ord) ∧ ord.toList.Perm (List.range hs.size) ∧ TabB t' (ord.toList.map fun i => hs.getD i 0) ∧ t'.mask = m ∧ t'.led = t.led ∧ t'.plain = t.plain := by
  obtain ⟨own, e, W⟩ := laid hm hn
  obtain ⟨q1, q2⟩ := ris_live (fun j => own.getD j none) (List.range (m + 1)) (by
    unfold Ris
    exact List.pairwise_lt_range)
  have q1' : Ris ((liveOf m own).map (·.1)) := q1
  have q2' : ∀ x ∈ (liveOf m own).map (·.1), x ≤ m := fun x hx => by have := List.mem_range.mp (q2 x hx); omega
  have mem := @mem_live m own W.sz
  have cover : ∀ k, k < hs.size → k ∈ (liveOf m own).map (·.2) := fun k hk => by
    obtain ⟨j, a, b⟩ := W.all k (by simpa using hk)
    exact List.mem_map.mpr ⟨(j, k), mem.2 ⟨a, b⟩, rfl⟩
  have len : (liveOf m own).length = hs.size := by
    obtain ⟨ps, p1, p2⟩ := W.ps
    have nd : ((liveOf m own).map (·.1)).Nodup := List.Pairwise.imp (fun h => Nat.ne_of_lt h) q1'
    have a := nat_nodup_len ((liveOf m own).map (·.1)) ps nd fun x hx => by
      obtain ⟨⟨y, k⟩, hq, rfl⟩ := List.mem_map.mp hx
      obtain ⟨b1, b2⟩ := mem.1 hq
      exact p2 y b1 fun z => by rw [b2] at z; cases z
    have b := nat_nodup_len (List.range hs.size) ((liveOf m own).map (·.2)) List.nodup_range fun k hk => cover k (List.mem_range.mp hk)
    simp only [List.length_map, List.length_range, Array.length_toList] at a b p1
    omega
  refine ⟨tabOf t m own, ((liveOf m own).map (·.2)).toArray, by rw [relaid_eq, hw, e]; rfl, perm_range hs.size _ (by simpa using len) cover, ⟨q1', rfl, ?_, hm, q2', fun i h j h1 h2 => ?_⟩, rfl, rfl, rfl⟩
  · show ((liveOf m own).map (·.1)).toArray.size = _
    simp
  · have h2' : ((liveOf m own).map (·.1))[i]? = some j := h2
    rw [List.getElem?_map] at h2'
    obtain ⟨⟨y, k⟩, hq, rfl⟩ := Option.map_eq_some_iff.mp h2'
    have h1' : (((liveOf m own).map (·.2)).map fun i => hs.getD i 0)[i]? = some h := h1
    rw [List.getElem?_map, List.getElem?_map, hq] at h1'
    have eh : hs.getD k 0 = h := Option.some.inj h1'
    obtain ⟨b1, b2⟩ := mem.1 (List.mem_of_getElem? hq)
    obtain ⟨g, K, a1, a2, a3⟩ := W.at_ y k b1 b2
    have eg : hs.getD k 0 = g := by
      rw [Array.getElem?_toList] at a1
      rw [Array.getD_eq_getD_getElem?, a1]; rfl
    obtain rfl : g = h := eg.symm.trans eh
    refine ⟨K, a2, fun c hc => ?_⟩
    show way m g c ∈ (liveOf m own).map (·.1)
    cases z : oAt own (way m g c) with
    | none => exact absurd z (a3 c hc)
    | some x => exact List.mem_map.mpr ⟨(way m g c, x), mem.2 ⟨way_in g c, z⟩, rfl⟩
end
end Ud.Bg

set_option Elab.async false
set_option linter.all false
set_option maxRecDepth 100000
set_option maxHeartbeats 4000000
/-! Larger sets of rows: a member looked for, a member more. -/
namespace Ud.Bg
open PySem PySem.Spec PyProof.Rows L2 Uc Ud
def Five (m : Nat) : Prop := m = 7 ∨ m = 31 ∨ m = 127 ∨ m = 511 ∨ m = 2047
theorem Five.mask {m : Nat} (h : Five m) : MaskB m := by
  rcases h with rfl | rfl | rfl | rfl | rfl
  · exact mask7
  · exact mask31
  · exact mask127
  · exact mask511
  · exact mask2047
/-- at a stands a set of the rows L -/
structure SetB (P : Program) (w : World) (h : Heap) (a : Addr) (L : List (Addr × List Int)) (es : Array (Int × Value)) (ep : Nat) (t : SetTable) : Prop where
  ob : ∃ o, h.get? a = some o ∧ o.ExactSet ∧ o.data = .set es ep t
  rw_ : es.toList = rowsOf P w L
  tb : TabB t (L.map fun p => thash P w p.2)
  uniq : (L.map (·.2)).Nodup
  each : ∀ p ∈ L, IsT P w h p.2 p.1
  pl : t.plain = true
  ld : w.params.followText "set-order" = true ∨ t.led = true
  rm : L.length * 5 < t.mask * 3
  five : Five t.mask
section
variable {P : Program} {w : World} {A : Around} {E : Value → Shared → Prop} {s : Shared} {a : Addr} {L : List (Addr × List Int)} {es : Array (Int × Value)} {ep : Nat} {t : SetTable}
theorem rows_size (e : es.toList = rowsOf P w L) : es.size = L.length := by
  have := congrArg List.length e
  simpa [rowsOf] using this
theorem SetB.sz (R : SetB P w s.heap a L es ep t) : es.size = L.length := rows_size R.rw_
theorem SetB.fit (R : SetB P w s.heap a L es ep t) : t.fits es.size = true := by
  have h1 := R.tb.len
  have h2 := R.sz
  have h3 := R.rm
  rw [List.length_map] at h1
  simp only [SetTable.fits, SetTable.fill, R.tb.nod, Bool.and_eq_true, beq_iff_eq, decide_eq_true_eq, List.size_toArray, List.length_nil]
  omega
theorem SetB.ent (R : SetB P w s.heap a L es ep t) {i : Nat} {p : Addr × List Int} (h : L[i]? = some p) : es[i]? = some (thash P w p.2, Value.ref p.1) := by
  have : es.toList[i]? = some (thash P w p.2, Value.ref p.1) := by
    rw [R.rw_, rowsOf, List.getElem?_map, h]; rfl
  simpa using this
theorem SetB.noGw (R : SetB P w s.heap a L es ep t) : ¬ t.gaveWay = true := by
  unfold SetTable.gaveWay
  rw [R.tb.msk.odd]
  decide
abbrev stA (m : Nat) (h : Int) (c : Nat) : SetTable.Probe := nth m (runAt m (SetTable.bits h % (m + 1)) (SetTable.bits h)) c
theorem stA_dummy (m : Nat) (h : Int) (c : Nat) : (stA m h c).dummy = none := by
  induction c with
  | zero => rfl
  | succ c ih =>
    show (nth m _ (c + 1)).dummy = none
    rw [nth_succ]
    unfold adv
    split
    · exact ih
    · exact ih
theorem stA_on (m : Nat) (h : Int) (c q : Nat) : nth m (stA m h c) q = stA m h (c + q) := (nth_add m c _ q).symm
/-- from the c-th place of its way on: it is there, or the first gap is found -/
theorem seek (R : SetB P w s.heap a L es ep t) {x : Addr} {k : List Int} (hx : IsT P w s.heap k x) (hu : A.units < cLine) {H : Int} (eH : H = thash P w k) {K : Nat} (hKf : K < 10 * SetTable.turns t.mask)
    (gapK : way t.mask H K ∉ t.place.toList) (full : ∀ c, c < K → way t.mask H c ∈ t.place.toList) {Q : SetFound → Shared → Prop} (yes : k ∈ L.map (·.2) → Q (.there none) s) (no : k ∉ L.map (·.2) → Q (.free (way t.mask H K) false) s) :
    ∀ (f c : Nat) (pr : Option SetTable.Probe), pr.getD (t.probeStart H) = stA t.mask H c → c ≤ K → K - c < f →
      (∀ (i : Nat) (p : Addr × List Int), L[i]? = some p → p.2 = k → ∃ d, c ≤ d ∧ d < K ∧ t.place.toList[i]? = some (way t.mask H d)) → wpAny (model P w) A (setSearchFrom a (.ref x) H true f pr) Q E s
  | 0, _, _, _, _, z, _ => absurd z (Nat.not_lt_zero _)
  | f + 1, c, pr, epr, hc, hf, left => by
    obtain ⟨o, ho, hex, hd⟩ := R.ob
    have jq : ∀ q, (nth t.mask (stA t.mask H c) q).j = way t.mask H (c + q) := fun q => congrArg (·.j) (stA_on t.mask H c q)
    have hashOf : ∀ {i : Nat} {p : Addr × List Int}, L[i]? = some p → (es[i]?.map (·.1)).getD 0 = thash P w p.2 := fun hp => by rw [R.ent hp]; rfl
    have done : (∀ (q i : Nat), q < K - c → t.place.toList[i]? = some (nth t.mask (stA t.mask H c) q).j → (es[i]?.map (·.1)).getD 0 ≠ H) → k ∉ L.map (·.2) := fun hno hm => by
      obtain ⟨p, hp, ek⟩ := List.mem_map.mp hm
      obtain ⟨i, hi⟩ := List.mem_iff_getElem?.mp hp
      obtain ⟨d, d1, d2, d3⟩ := left i p hi ek
      exact hno (d - c) i (by omega) (by rw [jq, show c + (d - c) = d by omega]; exact d3) (by rw [hashOf hi, ek, eH])
    rw [setSearchFrom_succ]
    refine wpAny_bind (wpAny_setState_of ho hd R.fit ?_)
    dsimp only
    refine wp_if_neg R.noGw ?_
    try refine wpAny_bind (wpAny_pure ?_)
    rw [epr]
    have spec := go_spec t R.tb.up R.tb.nod (fun i => (es[i]?.map (·.1)).getD 0) H (10 * SetTable.turns t.mask) (K - c) _ (stA_dummy t.mask H c) (by omega) (fun q hq => by rw [jq]; exact full _ (by omega)) (by rw [jq, show c + (K - c) = K by omega]; exact gapK)
    rcases spec with ⟨q, i, hq, hi, hh, hno, hpr⟩ | ⟨hno, hpr⟩
    · have hpr' : t.probe (fun i => (es[i]?.map (·.1)).getD 0) H (stA t.mask H c) = some (.candidate (way t.mask H (c + q)) i (stA t.mask H (c + (q + 1)))) := by
        rw [← jq, ← stA_on]
        exact hpr
      rw [hpr']
      dsimp only
      rw [jq] at hi
      have il : i < L.length := by
        have h1 := (List.getElem?_eq_some_iff.mp hi).1
        have h2 := R.tb.len
        rw [Array.length_toList] at h1
        rw [List.length_map] at h2
        omega
      obtain ⟨p, hp⟩ : ∃ p, L[i]? = some p := ⟨_, List.getElem?_eq_getElem il⟩
      have mp : p ∈ L := List.mem_of_getElem? hp
      have sl : t.slot (way t.mask H (c + q)) = .live i := slot_live R.tb.up hi
      have rest : wpAny (model P w) A (searchRest a (.ref x) H true f es t (way t.mask H (c + q)) i (stA t.mask H (c + (q + 1)))) Q E s := by
        unfold searchRest
        rw [R.ent hp]
        dsimp only
        refine wpAny_bind (wpAny_holding (wpAny_eqBool_tuple hu (R.each p mp) hx ?_))
        refine wpAny_bind (wpAny_setState_of ho hd R.fit ?_)
        dsimp only
        by_cases ek : p.2 = k
        · exact wp_if_pos (by simp [ek]) (wpAny_pure (yes (List.mem_map.mpr ⟨p, mp, ek⟩)))
        · refine wp_if_neg (by simp [ek]) ?_
          try refine wpAny_bind (wpAny_pure ?_)
          rw [sameMem]
          dsimp only
          simp only [if_true, sl, R.ent hp]
          refine wpAny_bind (wpAny_isSame_ref_self (wpAny_bind (wpAny_pure ?_)))
          simp only [if_true]
          refine wp_if_neg (by simp [ek]) ?_
          refine seek R hx hu eH hKf gapK full yes no f (c + (q + 1)) _ rfl (by omega) (by omega) fun i0 p0 h0 k0 => ?_
          obtain ⟨d, d1, d2, d3⟩ := left i0 p0 h0 k0
          refine ⟨d, Classical.byContradiction fun z => ?_, d2, d3⟩
          by_cases y : d = c + q
          · subst y
            have s0 := slot_live R.tb.up d3
            rw [sl] at s0
            cases s0
            rw [hp] at h0
            cases h0
            exact ek k0
          · exact hno (d - c) i0 (by omega) (by rw [jq, show c + (d - c) = d by omega]; exact d3) (by rw [hashOf h0, k0, eH])
      cases el : t.led with
      | true =>
        refine wp_if_neg (by simp) ?_
        try refine wpAny_bind (wpAny_pure ?_)
        exact rest
      | false =>
        refine wp_if_pos (by simp) ?_
        refine wpAny_bind (seen_tup hx (fun y hy => ?_) ?_)
        · obtain ⟨e, he, rfl⟩ := List.mem_map.mp hy
          have he1 : e ∈ es.toList := by
            have z : e ∈ es ∧ e.1 = H := by simpa using he
            simpa using z.1
          rw [R.rw_] at he1
          obtain ⟨p2, m2, rfl⟩ := List.mem_map.mp he1
          exact ⟨p2.2, p2.1, rfl, R.each p2 m2⟩
        · refine wp_if_neg (by decide) ?_
          try refine wpAny_bind (wpAny_pure ?_)
          exact rest
    · have hpr' : t.probe (fun i => (es[i]?.map (·.1)).getD 0) H (stA t.mask H c) = some (.empty (way t.mask H K) none) := by
        have e2 : (nth t.mask (stA t.mask H c) (K - c)).j = way t.mask H K := by rw [jq, show c + (K - c) = K by omega]
        rw [← e2]
        exact hpr
      rw [hpr']
      exact wpAny_pure (no (done hno))
theorem search (R : SetB P w s.heap a L es ep t) {x : Addr} {k : List Int} (hx : IsT P w s.heap k x) (hu : A.units < cLine) {Q : SetFound → Shared → Prop} (yes : k ∈ L.map (·.2) → Q (.there none) s)
    (no : ∀ K, k ∉ L.map (·.2) → way t.mask (thash P w k) K ∉ t.place.toList → (∀ c, c < K → way t.mask (thash P w k) c ∈ t.place.toList) → Q (.free (way t.mask (thash P w k) K) false) s) : wpAny (model P w) A (setSearch a (.ref x) (thash P w k) true) Q E s := by
  have room := R.rm
  obtain ⟨K, k1, k2, k3⟩ := R.tb.gap (by rw [List.length_map]; omega) (thash P w k)
  have big : K < 100000 := by
    have := R.tb.msk.le
    unfold SetTable.turns at k1
    omega
  unfold setSearch
  refine seek R hx hu rfl k1 k2 k3 yes (fun z => no K z k2 k3) 100000 0 none rfl (Nat.zero_le _) (by omega) fun i p hp ek => ?_
  have hi : (L.map fun p => thash P w p.2)[i]? = some (thash P w k) := by rw [List.getElem?_map, hp, ← ek]; rfl
  have il : i < t.place.toList.length := by
    have h1 := (List.getElem?_eq_some_iff.mp hp).1
    have h2 := R.tb.len
    rw [List.length_map] at h2
    rw [Array.length_toList]
    omega
  have hj := List.getElem?_eq_getElem il
  obtain ⟨d, d1, d2⟩ := R.tb.ahead k2 hi hj
  exact ⟨d, Nat.zero_le _, d1, by rw [hj, d2]⟩
theorem grow77 : SetTable.sizeAbove (SetTable.grown 77) = 512 := by decide +kernel
theorem grow307 : SetTable.sizeAbove (SetTable.grown 307) = 2048 := by decide +kernel
theorem relay {o : Obj} (ho : s.heap.get? a = some o) (hex : o.ExactSet) (hd : o.data = .set es ep t) (hrows : es.toList = rowsOf P w L) (hsz : t.place.size = es.size) (hdm : t.dummies = #[]) (hfl : es.size ≤ t.mask) (un : (L.map (·.2)).Nodup)
    (each : ∀ p ∈ L, IsT P w s.heap p.2 p.1) (pl : t.plain = true) (ld : w.params.followText "set-order" = true ∨ t.led = true) {wanted M : Nat} (hw : SetTable.sizeAbove wanted = M + 1) (hM : Five M) (hn : L.length * 5 < M * 3) {Q : Unit → Shared → Prop}
    (hQ : ∀ h' L' es' ep' t', Heap.SameBut a s.heap h' → SetB P w h' a L' es' ep' t' → L'.Perm L → Q () { s with heap := h' }) : wpAny (model P w) A (setRelay a wanted) Q E s := by
  have hL := rows_size hrows
  have M2 := hM.mask.le
  obtain ⟨t', ord, e, hp, T, em, el, epl⟩ := anew t (hs := es.map (·.1)) (wanted := wanted) (m := M) (by omega) hM.mask (by rw [Array.size_map]; omega)
  rw [Array.size_map, hL] at hp
  obtain ⟨L2, r1, r2, r3⟩ := order_rows L es ord hrows hp
  rw [← r3] at T
  have s2 : (ord.filterMap (es[·]?)).size = es.size := by rw [rows_size r1, r2.length_eq, hL]
  rw [setRelay_eq]
  refine wpAny_bind (wpAny_setState_of ho hd ?_ ?_)
  · simp only [SetTable.fits, SetTable.fill, hdm, Bool.and_eq_true, beq_iff_eq, decide_eq_true_eq, List.size_toArray, List.length_nil]
    omega
  dsimp only
  refine wp_if_neg (by rw [sizeLine_eq, hw]; omega) ?_
  try refine wpAny_bind (wpAny_pure ?_)
  rw [e]
  dsimp only
  refine wpAny_bind ?_
  refine wp_if_neg (by rw [s2]; simp) ?_
  try refine wpAny_bind (wpAny_pure ?_)
  refine wpAny_pure ?_
  dsimp only
  refine wpAny_storeSet_of ho hd ?_ (by rw [s2, hL, sizeLine_eq]; omega)
  have sb : Heap.SameBut a s.heap (s.heap.update a (Obj.putSet (ord.filterMap (es[·]?)) t')) := Heap.SameBut.update ..
  exact hQ _ L2 _ (ep + 1) t' sb ⟨⟨_, store_at ho hd, ⟨hex.1, hex.2.1, hex.2.2⟩, rfl⟩, r1, T, (r2.map (·.2)).nodup_iff.mpr un, fun p m => isT_same (each p (r2.mem_iff.mp m)) ho hd sb, by rw [epl]; exact pl, by rw [el]; exact ld, by rw [r2.length_eq, em]; exact hn, by rw [em]; exact hM⟩ r2
/-- a row put in -/
theorem addB (R : SetB P w s.heap a L es ep t) {x : Addr} {k : List Int} (hx : IsT P w s.heap k x) (hu : A.units < cLine) (hfew : L.length < 1000) {Q : Bool → Shared → Prop}
    (hQ : ∀ b h' L' es' ep' t', Heap.SameBut a s.heap h' → SetB P w h' a L' es' ep' t' → (k ∈ L.map (·.2) → L' = L) → (k ∉ L.map (·.2) → L'.Perm ((x, k) :: L)) → Q b { s with heap := h' }) : wpAny (model P w) A (setAddHashed a (.ref x) (thash P w k)) Q E s := by
  obtain ⟨o, ho, hex, hd⟩ := R.ob
  have hL := R.sz
  have room := R.rm
  unfold setAddHashed
  refine wpAny_holding ?_
  rw [show (100000 : Nat) = 99999 + 1 from rfl, setAddHashedIn_succ]
  refine wpAny_bind (wpAny_setState_of ho hd R.fit ?_)
  dsimp only
  refine wp_if_neg (by simp [byScan, Value.scannable]) ?_
  try refine wpAny_bind (wpAny_pure ?_)
  refine wpAny_bind (search R hx hu (fun m => ?_) fun K m g fu => ?_)
  · dsimp only
    exact wpAny_pure (hQ false s.heap L es ep t (Heap.SameBut.refl a s.heap) R (fun _ => rfl) fun z => absurd m z)
  · dsimp only
    refine wpAny_bind (wpAny_setState_of ho hd R.fit ?_)
    dsimp only
    obtain ⟨p, q1, q2, T, q4, q5, q6, q9⟩ := R.tb.add g fu
    have pl1 : (t.put (way t.mask (thash P w k) K)).1.plain = true := q6.trans R.pl
    generalize t.put (way t.mask (thash P w k) K) = pt at q1 T q4 q5 q6 q9 pl1 ⊢
    obtain ⟨t1, p1⟩ := pt
    dsimp only at q1 T q4 q5 q6 q9 pl1 ⊢
    subst q1
    first
      | (refine wpAny_bind ?_; refine wp_if_pos pl1 ?_; refine hashBy_tup hx ?_)
      | refine wp_if_pos pl1 (wpAny_bind (hashBy_tup hx ?_))
    simp only [if_true]
    have er : (SetTable.insertAt es p1 (thash P w k, Value.ref x)).toList = rowsOf P w (L.take p1 ++ (x, k) :: L.drop p1) := by rw [SetTable.toList_insertAt, rows_put, R.rw_]
    have pm := put_perm L p1 (x, k)
    have T' : TabB t1 ((L.take p1 ++ (x, k) :: L.drop p1).map fun p => thash P w p.2) := by
      rw [List.map_append, List.map_cons, List.map_take, List.map_drop]
      exact T
    generalize L.take p1 ++ (x, k) :: L.drop p1 = L1 at pm er T'
    have l1 : L1.length = L.length + 1 := pm.length_eq
    have e1 := rows_size er
    have un1 : (L1.map (·.2)).Nodup := (pm.map (·.2)).nodup_iff.mpr (List.nodup_cons.mpr ⟨m, R.uniq⟩)
    generalize SetTable.insertAt es p1 (thash P w k, Value.ref x) = es1 at er e1 ⊢
    refine wpAny_bind (wpAny_storeSet_of ho hd ?_ (by rw [e1, sizeLine_eq]; omega))
    have sb : Heap.SameBut a s.heap (s.heap.update a (Obj.putSet es1 t1)) := Heap.SameBut.update ..
    have ho1 := store_at (es' := es1) (t' := t1) ho hd
    generalize s.heap.update a (Obj.putSet es1 t1) = h1 at sb ho1 ⊢
    have each1 : ∀ p ∈ L1, IsT P w h1 p.2 p.1 := fun p mp => by
      rcases List.mem_cons.mp (pm.mem_iff.mp mp) with rfl | mp
      · exact isT_same hx ho hd sb
      · exact isT_same (R.each p mp) ho hd sb
    have ld1 : w.params.followText "set-order" = true ∨ t1.led = true := by rw [q5]; exact R.ld
    have full_iff : t1.tooFull = true ↔ (L.length + 1) * 5 ≥ t.mask * 3 := by
      unfold SetTable.tooFull
      rw [decide_eq_true_eq, q9, List.length_map, q4]
    by_cases hf : t1.tooFull = true
    · first
        | (refine wpAny_bind ?_; refine wp_if_pos (by simp [hf]) ?_)
        | (refine wp_if_pos (by simp [hf]) ?_; refine wpAny_bind ?_)
      have hfull := full_iff.mp hf
      rw [hL]
      have next : ∃ M, SetTable.sizeAbove (SetTable.grown (L.length + 1)) = M + 1 ∧ Five M ∧ (L.length + 1) * 5 < M * 3 := by
        rcases R.five with e | e | e | e | e <;> rw [e] at hfull room
        · exact ⟨31, by rw [show L.length + 1 = 5 by omega, size_20], .inr (.inl rfl), by omega⟩
        · exact ⟨127, by rw [show L.length + 1 = 19 by omega, size_76], .inr (.inr (.inl rfl)), by omega⟩
        · exact ⟨511, by rw [show L.length + 1 = 77 by omega, grow77], .inr (.inr (.inr (.inl rfl))), by omega⟩
        · exact ⟨2047, by rw [show L.length + 1 = 307 by omega, grow307], .inr (.inr (.inr (.inr rfl))), by omega⟩
        · omega
      obtain ⟨M, n1, n2, n3⟩ := next
      have pz : t1.place.size = es1.size := by rw [T'.len, List.length_map, e1]
      refine relay (s := { s with heap := h1 }) ho1 ⟨hex.1, hex.2.1, hex.2.2⟩ rfl er pz T'.nod (by have := R.five; rw [e1, l1, q4]; unfold Five at this; omega) un1 each1 pl1 ld1 n1 n2 (by rw [l1]; exact n3) ?_
      intro h2 L2 es2 ep2 t2 sb2 R2 pm2
      exact wpAny_pure (hQ true h2 L2 es2 ep2 t2 (sb.trans sb2) R2 (fun z => absurd z m) fun _ => pm2.trans pm)
    · first
        | refine wp_if_neg (by simp [hf]) ?_
        | (refine wpAny_bind ?_; refine wp_if_neg (by simp [hf]) ?_; refine wpAny_pure ?_)
      have hn : (L.length + 1) * 5 < t.mask * 3 := Nat.lt_of_not_le fun z => hf (full_iff.mpr z)
      exact wpAny_pure (hQ true h1 L1 es1 (ep + 1) t1 sb ⟨⟨_, ho1, ⟨hex.1, hex.2.1, hex.2.2⟩, rfl⟩, er, T', un1, each1, pl1, ld1, by rw [l1, q4]; exact hn, by rw [q4]; exact R.five⟩ (fun z => absurd z m) fun _ => pm)
theorem SetB.kept {h h' : Heap} (R : SetB P w h a L es ep t) (ha : ∀ o, h.get? a = some o → h'.get? a = some o) (ht : ∀ p ∈ L, IsT P w h' p.2 p.1) : SetB P w h' a L es ep t := by
  obtain ⟨o, ho, r⟩ := R.ob
  exact { R with ob := ⟨o, ha o ho, r⟩, each := ht }
theorem freshB {h : Heap} (ho : h.get? a = some (setObj w)) : SetB P w h a [] #[] 0 (.fresh 0 0 (!w.params.followText "set-order")) where
  ob := ⟨_, ho, ⟨rfl, rfl, rfl⟩, rfl⟩
  rw_ := rfl
  tb := ⟨List.Pairwise.nil, rfl, rfl, mask7, fun _ z => (by cases z), fun i h j z => (by simp at z)⟩
  uniq := List.nodup_nil
  each := fun _ z => nomatch z
  pl := rfl
  ld := by
    show _ ∨ (!w.params.followText "set-order") = true
    cases w.params.followText "set-order" with
    | true => exact .inl rfl
    | false => exact .inr rfl
  rm := by show 0 * 5 < 7 * 3; decide
  five := .inl rfl
end
end Ud.Bg

set_option Elab.async false
set_option linter.all false
set_option maxRecDepth 100000
set_option maxHeartbeats 4000000
/-! Larger sets of rows: made of a list; as an object; its length. -/
namespace Ud.Bg
open PySem PySem.Spec PyProof.Rows L2 Uc Ud
section
variable {P : Program} {w : World} {A : Around} {E : Value → Shared → Prop} {s : Shared}
/-- the walk of set(xs) -/
theorem fill {I : Addr} {fp wr : List Addr} {G : Array GenState → Array GenState → Prop} {n : Nat} {Pv : Nat → Value → Prop} {St : Nat → Shared → Prop} {R : Result → Shared → Prop}
    (W : WalksS P w A.in1 I fp wr G n Pv St) (D : Addr) (hD : D ∉ fp) (ks : List (Addr × List Int)) (en : n = ks.length) (few : ks.length ≤ 1000) (hv : ∀ i v, Pv i v → ∃ p, ks[i]? = some p ∧ v = .ref p.1)
    (h0 : Heap) (hk : ∀ p ∈ ks, IsT P w h0 p.2 p.1) (hD0 : h0.get? D = none) (hw0 : ∀ b ∈ wr, h0.get? b = none) (hu : A.in1.units < cLine)
    (hR : ∀ s' L es ep t, Moved (D :: wr) G s s' → SetB P w s'.heap D L es ep t → Got ks n L → (∀ b o, h0.get? b = some o → s'.heap.get? b = some o) → R (.ok (.ret .none)) s') :
    ∀ (r i : Nat) (s1 : Shared), i + r = n → St i s1 → Moved (D :: wr) G s s1 → (∀ b o, h0.get? b = some o → s1.heap.get? b = some o) → (∃ L es ep t, SetB P w s1.heap D L es ep t ∧ Got ks i L) →
      codeAny (model P w) A (.builtin "set.update.loop" ⟨[.ref D, .ref I], []⟩) R s1 := by
  have hDw : D ∉ wr := fun z => hD (W.sub _ z)
  have wide : ∀ b ∈ wr, b ∈ D :: wr := fun b z => List.mem_cons_of_mem _ z
  have olds : ∀ {s1 s2 : Shared}, Moved wr G s1 s2 → (∀ b o, h0.get? b = some o → s1.heap.get? b = some o) → ∀ b o, h0.get? b = some o → s2.heap.get? b = some o := fun mv kp b o e => mv.heap b o (fun z => by rw [hw0 b z] at e; cases e) (kp b o e)
  have setD : ∀ {s1 s2 : Shared} {i : Nat} {L : List (Addr × List Int)} {es : Array (Int × Value)} {ep : Nat} {t : SetTable}, Moved wr G s1 s2 → (∀ b o, h0.get? b = some o → s2.heap.get? b = some o) → Got ks i L → SetB P w s1.heap D L es ep t → SetB P w s2.heap D L es ep t := fun mv kp g S =>
    S.kept (fun o e => mv.heap D o hDw e) fun p hp => isT_keep (hk p (List.mem_of_mem_take (g.sub p hp))) kp
  intro r
  induction r with
  | zero =>
    intro i s1 ei hst mv0 kp ⟨L, es, ep, t, S, g⟩
    obtain rfl : i = n := by omega
    refine codeAny_builtin F.entry_set_update_loop ?_
    rw [Around.under_plainId F.plain_set_update_loop _]
    show wpAny _ A.in1 (pyNext (.ref I) >>= _) _ _ s1
    refine wpAny_bind (W.done s1 _ _ hst fun s2 mv => ?_)
    show wpAny _ A.in1 (ret Value.none) _ _ s2
    exact wpAny_pure (hR s2 L es ep t (Moved.trans W.gtrans mv0 (mv.mono wide)) (setD mv (olds mv kp) g S) g (olds mv kp))
  | succ r ih =>
    intro i s1 ei hst mv0 kp ⟨L, es, ep, t, S, g⟩
    refine codeAny_builtin F.entry_set_update_loop ?_
    rw [Around.under_plainId F.plain_set_update_loop _]
    show wpAny _ A.in1 (pyNext (.ref I) >>= _) _ _ s1
    refine wpAny_bind (W.item i s1 _ _ (by omega) hst fun v s2 hP hst2 mv => ?_)
    obtain ⟨p, hp, rfl⟩ := hv i v hP
    have kp2 := olds mv kp
    have S2 := setD mv kp2 g S
    have hx : IsT P w s2.heap p.2 p.1 := isT_keep (hk p (List.mem_of_getElem? hp)) kp2
    show wpAny _ A.in1 (holding [Value.ref p.1] (setAdd D (.ref p.1)) >>= _) _ _ s2
    refine wpAny_bind (wpAny_holding ?_)
    unfold setAdd
    refine wpAny_holding (wpAny_bind (wpAny_pyHash_tuple hu hx ?_))
    refine addB (s := { s2 with toks := s2.toks + (p.2.length + 1) }) S2 hx hu (by have := g.len; omega) fun b h' L' es' ep' t' sb S3 c1 c2 => ?_
    have g' : Got ks (i + 1) L' := by
      by_cases c : p.2 ∈ L.map (·.2)
      · rw [c1 c]; exact g.same hp c
      · exact g.more hp (c2 c)
    have kp3 : ∀ b o, h0.get? b = some o → h'.get? b = some o := fun b o e => (sb.2 b fun z => by rw [z, hD0] at e; cases e).trans (kp2 b o e)
    refine wpAny_pure ⟨plainId_quiet F.plain_set_update_loop _, ih (i + 1) _ (by omega) (W.frame _ s2 _ _ hst2 (Nat.le_add_right _ _) fun b hb o e => ?_) ?_ kp3 ⟨L', es', ep', t', S3, g'⟩⟩
    · rw [sb.2 b fun z => hD (by rw [← z]; exact hb)]; exact e
    · refine Moved.trans W.gtrans mv0 ((mv.mono wide).then_heap (Nat.le_add_right _ _) fun b o hb e => ?_)
      rw [sb.2 b fun z => hb (by rw [z]; exact List.mem_cons_self)]; exact e
end
end Ud.Bg
namespace Ud.Bg
open PySem PySem.Spec PyProof.Rows L2 Uc Ud
section
variable {P : Program} {w : World} {A : Around} {E : Value → Shared → Prop} {s : Shared}
set_option maxHeartbeats 8000000 in
/-- set(xs): xs a list of rows -/
theorem call_setB {l : Addr} {its : Array Value} (ks : List (Addr × List Int)) {Q : Value → Shared → Prop} (hh : A.handled = none) (hl : s.heap.IsList l its) (hit : its.toList = ks.map fun p => Value.ref p.1)
    (hk : ∀ p ∈ ks, IsT P w s.heap p.2 p.1) (few : ks.length ≤ 1000) (hu : A.units + 3 < cLine)
    (h : ∀ (h' : Heap) (tk : Nat) L es ep t, SetB P w h' s.heap.objs.size L es ep t → Got ks ks.length L → (∀ b o, s.heap.get? b = some o → h'.get? b = some o) → Q (.ref s.heap.objs.size) { s with heap := h', toks := tk }) :
    wpAny (model P w) A (call (.type "set") [.ref l]) Q E s := by
  have size_ : its.size = ks.length := by simpa using congrArg List.length hit
  obtain ⟨c, tl, hmro⟩ := F.called_set.mro
  have made := F.called_set.made
  have sub := F.called_set.sub
  have notT := F.called_set.notType
  have canC := F.called_set.canCreate
  have tyC := F.typeCall_set_1 (.ref l)
  refine wpAny_call (codeAny_of_tree (show wpAny _ _ (callAny (.type "set") _) _ _ _ from ?_))
  refine wpAny_pure ⟨Code.quiet_builtin _ (by decide +kernel), codeAny_builtin F.entry_type_call ?_⟩
  rw [Around.under_plain (weight_type_call_type "set" [.ref l] []) rfl]
  repeat (any_goals (first | assumption | wp_step))
  obtain ⟨h1, eh1⟩ : ∃ h1, h1 = s.heap.push (setObj w) := ⟨_, rfl⟩
  refine codeAny_mono (code_set_led1 (.ref l) (E := E) (Q₁ := fun obj s₁ => obj = .ref s.heap.objs.size ∧ s₁ = { s with heap := h1 }) ⟨rfl, by rw [eh1]⟩) fun r s₁ hr => ?_
  cases r with
  | error e => exact hr
  | ok fl =>
    cases fl with
    | ret obj =>
      obtain ⟨rfl, rfl⟩ := hr
      have hS : h1.get? s.heap.objs.size = some (setObj w) := by rw [eh1]; exact Heap.get?_push_size _ rfl
      have z1 : h1.objs.size = s.heap.objs.size + 1 := by rw [eh1]; exact Heap.size_push ..
      have up1 : ∀ {b : Addr} {o : Obj}, s.heap.get? b = some o → h1.get? b = some o := fun e => by rw [eh1]; exact Heap.get?_push_of_some _ e
      have ht : Shared.TypeIs { s with heap := h1 } (.ref s.heap.objs.size) "set" := ⟨_, hS, rfl⟩
      have li := F.called_set.init.lookup
      have bi := F.called_set.init.bind (.ref s.heap.objs.size)
      repeat (any_goals (first | assumption | wp_step))
      refine codeAny_mono (codeAny_call_builtin (R := wants (fun r s₂ => r = .none ∧ ∃ h' tk L es ep t, s₂ = { s with heap := h', toks := tk } ∧ SetB P w h' s.heap.objs.size L es ep t ∧ Got ks ks.length L ∧ (∀ b o, s.heap.get? b = some o → h'.get? b = some o)) E) F.called_set.init.plain F.entry_set_init (check_set_init_1 ht ?_)) fun r₂ s₂ hr₂ => ?_
      · obtain ⟨⟨oc, od, odat, osl⟩, ho, hc, nl, hd⟩ := hl
        simp only at hc hd
        subst hc; subst hd
        have ho1 : h1.get? l = some { cls := .type "list", dict := od, data := .seq its nl, slots := osl } := up1 ho
        have s1 := F.sub_list_set
        have s2 := F.sub_list_frozenset
        have nd : (Value.type "list" == Value.type "dict") = false := by decide
        have il : h1.IsList l its := ⟨_, ho1, rfl, nl, rfl⟩
        unfold Builtin.«set.__init__» noKeywords Builtin.Frozenset.updateFrom
        generalize hPI : pyIter = PI
        wp_walk
        subst hPI
        refine wpAny_pyIter_list il ?_
        refine wpAny_bind (wpAny_runValue ?_)
        have ls : l < s.heap.objs.size := Heap.lt_size ho
        have free : ∀ b, s.heap.objs.size ≤ b → s.heap.get? b = none := fun b hb => by
          cases q : s.heap.get? b with
          | none => rfl
          | some o => exact absurd (Heap.lt_size q) (Nat.not_lt.mpr hb)
        have vals : ∀ (i : Nat) (v : Value), its[i]? = some v → ∃ p, ks[i]? = some p ∧ v = .ref p.1 := fun i v e => by
          have q : its.toList[i]? = some v := by simpa using e
          rw [hit, List.getElem?_map] at q
          obtain ⟨p, hp, e2⟩ := Option.map_eq_some_iff.mp q
          exact ⟨p, hp, e2.symm⟩
        have nI : l ≠ h1.objs.size := Nat.ne_of_lt (by rw [z1]; exact Nat.lt_succ_of_lt ls)
        have hS2 : (h1.push { cls := .type "list_iterator", data := .fields #[.ref l, .int 0 0] }).get? s.heap.objs.size = some (setObj w) := Heap.get?_push_of_some _ hS
        refine fill ((Walks.list (by simp [hh]) _ l nI its).toS) s.heap.objs.size (by
            rw [z1]
            intro z
            rcases List.mem_cons.mp z with e | e
            · exact Nat.ne_of_lt (Nat.lt_succ_self _) e
            · exact Nat.ne_of_gt ls (List.mem_singleton.mp e)) ks size_ few vals s.heap hk (free _ (Nat.le_refl _)) (fun b hb => free b (by
            rw [List.mem_singleton.mp hb, z1]
            exact Nat.le_succ _)) hu (fun s' L es ep t mv S g kp => ?_) its.size 0 _ (by omega) ⟨⟨_, Heap.get?_push_size _ rfl, rfl, rfl⟩, il.push _⟩ (Moved.refl fun _ => rfl) (fun b o e => Heap.get?_push_of_some _ (up1 e)) ⟨[], #[], 0, _, freshB hS2, Got.zero ks⟩
        obtain ⟨h', g2, d', tk', os'⟩ := s'
        obtain rfl : g2 = s.gens := mv.gens
        obtain rfl : d' = s.drawn := mv.drawn
        obtain rfl : os' = s.os := mv.os
        show wpAny _ _ _ _ _ _
        refine wpAny_pure (show wpAny _ _ (ret Value.none) _ _ _ from ?_)
        rw [size_] at g
        exact wpAny_pure ⟨rfl, h', tk', L, es, ep, t, rfl, S, g, kp⟩
      · cases r₂ with
        | error e => exact hr₂
        | ok fl₂ =>
          cases fl₂ with
          | ret r =>
            obtain ⟨rfl, h', tk, L, es, ep, t, rfl, S, g, kp⟩ := hr₂
            repeat (any_goals (first | assumption | wp_step))
            exact h _ _ _ _ _ _ S g kp
          | _ => exact hr₂.elim
    | _ => exact hr.elim
end
end Ud.Bg

set_option Elab.async false
set_option linter.all false
set_option maxRecDepth 100000
set_option maxHeartbeats 4000000
/-! Larger sets of rows within the layer. -/
namespace Ud.Bg
open PySem PySem.Spec PyProof.Rows L2 Uc Ud
/-- the set at a, whatever stands at its rows -/
structure SetB0 (P : Program) (w : World) (h : Heap) (a : Addr) (L : List (Addr × List Int)) : Prop where
  ex : ∃ (es : Array (Int × Value)) (ep : Nat) (t : SetTable), (∃ o, h.get? a = some o ∧ o.ExactSet ∧ o.data = .set es ep t) ∧ es.toList = rowsOf P w L ∧ TabB t (L.map fun p => thash P w p.2) ∧ (L.map (·.2)).Nodup ∧ t.plain = true ∧ (w.params.followText "set-order" = true ∨ t.led = true) ∧ L.length * 5 < t.mask * 3 ∧ Five t.mask
def SetBO (P : Program) (w : World) (a : Addr) (L : List (Addr × List Int)) : HO := .ext fun h => SetB0 P w h a L
section
variable {P : Program} {w : World} {h : Heap} {a : Addr} {L : List (Addr × List Int)}
theorem SetB.b0 {es : Array (Int × Value)} {ep : Nat} {t : SetTable} (R : SetB P w h a L es ep t) : SetB0 P w h a L := ⟨es, ep, t, R.ob, R.rw_, R.tb, R.uniq, R.pl, R.ld, R.rm, R.five⟩
theorem SetB0.all (R : SetB0 P w h a L) (each : ∀ p ∈ L, IsT P w h p.2 p.1) : ∃ es ep t, SetB P w h a L es ep t := by
  obtain ⟨es, ep, t, h1, h2, h3, h4, h5, h6, h7, h8⟩ := R.ex
  exact ⟨es, ep, t, h1, h2, h3, h4, each, h5, h6, h7, h8⟩
theorem setBO_new {H : Hp} (R : SetB0 P w h a L) : ObjOk P w H h a (SetBO P w a L) := by
  obtain ⟨es, ep, t, ⟨o, ho, r⟩, q⟩ := id R.ex
  refine ⟨R, ⟨o, ho⟩, fun h1 h2 p k => ?_⟩
  obtain ⟨es', ep', t', ⟨o', ho', r'⟩, q'⟩ := SetB0.ex p
  exact ⟨es', ep', t', ⟨o', k o' ho', r'⟩, q'⟩
end
section
variable {X : Cx}
def rSetB (K : PySem.W.Frag) (P : Program) (w : World) : List V → Hp → VK → Prop := fun xs H Q => ∃ (l : Addr) (ks : List (Addr × List Int)), xs = [V.ref l] ∧ SqL K H l (ks.map fun p => V.ref p.1) ∧ (∀ p ∈ ks, SqT K H p.1 (p.2.map V.int)) ∧ ks.length ≤ 1000 ∧
  ∀ a L, H a = none → (∀ p ∈ L, p ∈ ks) → (∀ p ∈ ks, p.2 ∈ L.map (·.2)) → Q (.ref a) (upd H a (SetBO P w a L))
theorem cr_setB (hc : X.calm = true) (hu : X.A.units + 64 < cLine) : CallR X (.type "set") (rSetB X.K X.prog X.w) := by
  intro pins s σ H xs us Q I r ⟨l, ks, e, hl, hk, few, q⟩
  subst e
  rw [Vals.ref1 r]
  obtain ⟨its, rv, pl, _⟩ := I.list hl
  refine call_setB (P := X.prog) (w := X.w) ks (I.ok.hd hc) pl.isList (by simpa using refs_of_vals rv) (fun p hp => I.isT (hk p hp)) few (by omega) fun h' tk L es ep t R g k => ?_
  exact ⟨.ref s.heap.objs.size, _, I.laid (t' := tk) k (Nat.le_refl _) (setBO_new R.b0), rfl, q _ L (I.hok.fresh (Nat.le_refl _)) (fun p hp => List.mem_of_mem_take (g.sub p hp)) fun p hp => g.all p (by rw [List.take_length]; exact hp)⟩
def rLenB (P : Program) (w : World) : List V → Hp → VK → Prop := fun vs H Q => ∃ (a : Addr) (L : List (Addr × List Int)), vs = [V.ref a] ∧ H a = some (SetBO P w a L) ∧ ((L.map (·.2)).Nodup → Q (.int L.length) H)
theorem cr_lenB : CallR X (.builtin "len") (rLenB X.prog X.w) := fun pins s σ H vs us Q I r ⟨a, L, e, ha, q⟩ => by
  subst e
  rw [Vals.ref1 r]
  have R0 : SetB0 X.prog X.w s.heap a L := (I.hok a _ ha).1
  obtain ⟨es, ep, t, ⟨o, ho, hex, hd⟩, hr, tb, nd, _, _, room, five⟩ := R0.ex
  have hz := rows_size hr
  have ml := five.mask.le
  have h1 := tb.len
  rw [List.length_map] at h1
  refine call_len_set ho hex hd ?_ (by rw [hz]; omega) ⟨.int L.length, H, I.tok _, ⟨_, by rw [hz]⟩, q nd⟩
  simp only [SetTable.fits, SetTable.fill, tb.nod, Bool.and_eq_true, beq_iff_eq, decide_eq_true_eq, List.size_toArray, List.length_nil]
  omega
end
end Ud.Bg

set_option Elab.async false
set_option linter.all false
set_option maxRecDepth 100000
set_option maxHeartbeats 4000000
/-! Comprehensions of sets: ints, rows of ints. -/
namespace Ud
open PySem PySem.Spec PyProof.Rows L2 Uc Ud.Bg
abbrev AddT := Addr → V → Hp → (Hp → Prop) → Prop
/-- what set.add does with a set at D -/
def AddOk (X : Cx) (ad : AddT) : Prop := ∀ (pins : List (Addr × Obj)) (σ : L2.St) (H : Hp) (s : Shared) (E : Value → Shared → Prop) (D : Addr) (y : V) (v : Value) (N : Hp → Prop) (Q : Value → Shared → Prop),
  Inv X pins σ H s → RelV y v → ad D y H N → (∀ s' H', Inv X pins σ H' s' → N H' → Q .none s') → wpAny (model X.prog X.w) X.A (call (.builtin "set.add") [.ref D, v]) Q E s
def NewOk (X : Cx) (O0 : Addr → HO) : Prop := ∀ (H : Hp) (h : Heap) (D : Addr), h.get? D = some (setObj X.w) → ObjOk X.prog X.w H h D (O0 D)
def tSg (wi : TI) (g : TG) (tt : TT) (te : TE) (is : List Nat) (O0 : Addr → HO) (ad : AddT) : TE := fun σ H Q => wi σ H fun J H1 => ∀ D, H1 D = none → ∃ W : Nat → Nat → Hp → Prop, (∃ m, W 0 m (upd H1 D (O0 D))) ∧ ∀ i m H, W i m H →
  (J.stop i H ∧ Q (.ref D) H) ∨ (J.go i H ∧ ∃ Nx : Hp → Prop, (∀ H', Nx H' → ∃ m', m' < m ∧ W (i + 1) m' H') ∧ ∀ x H', J.yld i H x H' → g x (wipe σ is) H' fun σ2 H2 => wipe σ2 is = wipe σ is ∧ tt σ2 H2 fun b H3 => if b = true then te σ2 H3 fun y H4 => ad D y H4 Nx else Nx H3)
section
variable {X : Cx} {elt tg iter : Expr} {ifs : List Expr} {scope : Scope} {own : List (Str × Nat)} {pos : Pos} {wi : TI} {g : TG} {tt : TT} {te : TE} {O0 : Addr → HO} {ad : AddT}
theorem pe_sg (hc : X.calm = true) (hN : X.N.Nodup) (hi : PI X tg iter wi) (ok : BlkOk X.N X.env.scope scope own) (hn : NewOk X O0)
    (hg : Blk X scope fun Y => PG Y tg g) (ht : Blk X scope fun Y => PTs Y ifs tt) (he : Blk X scope fun Y => PE Y elt te) (ha : Blk X scope fun Y => AddOk Y ad) (hs : ∀ x, foldedSetIterable iter X.env x = pure x := by intro _; rfl) :
    PE X (.SetComp elt [⟨tg, iter, ifs, 0⟩] scope pos) (tSg wi g tt te (own.map (·.2)) O0 ad) := ⟨fun pins s σ H Q I hh => by
  rw [PpSet.eval_SetComp]
  have free0 : ∀ y ∈ scope.names, y.2 = .free → ∃ c, X.env.cells.lookup y.1 = some c := fun y hy z => (ok.free y hy z).elim (fun k => I.ok.has _ (.inl k)) fun k => I.ok.has _ (.inr k)
  refine wpAny_comprehension_free rfl hs (closure_ok free0) ok.kind (fun y hy z => by rw [ok.uniq y hy, z]) (thn (hi.run pins s σ H _ I hh) fun xv s1 w1 => thn w1 fun itv s2 w2 => ?_)
  obtain ⟨it, fp, tn, J, H2, rfl, I2, Tn, st2, f2, q⟩ := w2
  refine PpSet.newSet_ok (newEnv_comp ?_)
  have nD : H2 s2.heap.objs.size = none := I2.hok.fresh (Nat.le_refl _)
  obtain ⟨W, ⟨m0, w0⟩, turn⟩ := q s2.heap.objs.size nD
  have hget : (s2.heap.push (setObj X.w)).get? s2.heap.objs.size = some (setObj X.w) := Heap.get?_push_size _ rfl
  have I3 : Inv X pins σ (upd H2 s2.heap.objs.size (O0 s2.heap.objs.size)) { s2 with heap := s2.heap.push (setObj X.w) } := I2.laid (t' := s2.toks) (fun b o z => Heap.get?_push_of_some _ z) (Nat.le_refl _) (hn _ _ _ hget)
  have old : ∀ b o, s2.heap.get? b = some o → (s2.heap.push (setObj X.w)).get? b = some o := fun b o z => Heap.get?_push_of_some _ z
  have hsz : (s2.heap.push (setObj X.w)).objs.size = s2.heap.objs.size + 1 := size_push' _ _
  generalize hD : s2.heap.objs.size = D at *
  generalize hH3 : upd H2 D (O0 D) = H3 at *
  generalize hs3 : ({ s2 with heap := s2.heap.push (setObj X.w) } : Shared) = s3 at *
  have hp3 : s3.heap = s2.heap.push (setObj X.w) := by rw [← hs3]
  have below : ∀ b ∈ fp, b < D := fun b hb => by
    obtain ⟨o, z, _⟩ := Tn.obj _ _ st2 b hb
    rw [← hD]
    exact Heap.lt_size z
  have f3 : ∀ b ∈ fp, FpOk X pins H3 b ∧ b < s3.heap.objs.size := fun b hb => by
    have lt := below b hb
    refine ⟨⟨by rw [← hH3, upd_ne (Nat.ne_of_lt lt)]; exact (f2 b hb).1, (f2 b hb).2⟩, ?_⟩
    rw [hp3, hsz]
    exact Nat.lt_succ_of_lt lt
  have st3 : tn 0 s3.heap := Tn.keep _ _ _ st2 fun b _ o z => by rw [hp3]; exact old b o z
  have I4 := block_start I3 ok hN f3
  have pg := hg s3 H3 s3.heap.objs.size (cellsFrom (s3.heap.objs.size + 1) scope.names (cloFrom X.env.cells scope.names [])) fp
  have pt := ht s3 H3 s3.heap.objs.size (cellsFrom (s3.heap.objs.size + 1) scope.names (cloFrom X.env.cells scope.names [])) fp
  have pe := he s3 H3 s3.heap.objs.size (cellsFrom (s3.heap.objs.size + 1) scope.names (cloFrom X.env.cells scope.names [])) fp
  have pa := ha s3 H3 s3.heap.objs.size (cellsFrom (s3.heap.objs.size + 1) scope.names (cloFrom X.env.cells scope.names [])) fp
  have nfp : ∀ b ∈ fp, H3 b = none := fun b hb => (f3 b hb).1.1
  have nC0 : ∀ b, (∃ o, s3.heap.get? b = some o) → b ≠ s3.heap.objs.size := fun b ⟨o, z⟩ => Nat.ne_of_lt (Heap.lt_size z)
  have sames : ∀ b o, s3.heap.get? b = some o → (pushCells (s3.heap.push { cls := .type "dict", data := .dict #[] }) scope.names).get? b = some o := fun b o z => pushCells_keeps _ _ _ _ (Heap.get?_push_of_some _ z)
  show codeAny _ _ (.compStart (.SetComp elt [⟨tg, iter, ifs, 0⟩] scope pos) 0 (.ref it) (.ref D) (compEnvC scope (cellsFrom (s3.heap.objs.size + 1) scope.names (cloFrom X.env.cells scope.names [])) s3.heap.objs.size X.env)) (compPost (model X.prog X.w) X.A X.xe none (EP X pins σ Q) (.ref D) s3.heap.objs.size) _
  have cL : (compEnvC scope (cellsFrom (s3.heap.objs.size + 1) scope.names (cloFrom X.env.cells scope.names [])) s3.heap.objs.size X.env).locals = s3.heap.objs.size := rfl
  generalize hce : compEnvC scope (cellsFrom (s3.heap.objs.size + 1) scope.names (cloFrom X.env.cells scope.names [])) s3.heap.objs.size X.env = ce at *
  generalize hs4 : ({ s3 with heap := pushCells (s3.heap.push { cls := .type "dict", data := .dict #[] }) scope.names } : Shared) = s4 at I4 ⊢
  have st4 : tn 0 s4.heap := Tn.keep _ _ _ st3 fun b _ o z => by rw [← hs4]; exact sames b o z
  have fpB : ∀ {σ' : L2.St} {H' : Hp} {s' : Shared}, Inv (X.blk s3 H3 scope ce fp) [] σ' H' s' → (∀ b ∈ fp, H' b = none) → ∀ b ∈ fp, FpOk (X.blk s3 H3 scope ce fp) [] H' b := fun {σ' H' s'} I' none' b hb =>
    ⟨none' b hb, (I'.ok.exf b hb).1, I'.ok.exfs b hb, .inl hb, fun x c z => (I'.ok.exf b hb).2 x c z, fun p hp => absurd (show p ∈ ([] : List (Addr × Obj)) ++ [] from hp) (by simp)⟩
  have run : codeAny (model X.prog X.w) X.A (.compLoop (.SetComp elt [⟨tg, iter, ifs, 0⟩] scope pos) 0 (.ref it) (.ref D) ce) (compPost (model X.prog X.w) X.A X.xe none (EP X pins σ Q) (.ref D) s3.heap.objs.size) s4 := by
    refine PpSet.compLoopS_any (fun n t => ∃ i Ht, Inv (X.blk s3 H3 scope ce fp) [] (wipe σ (own.map (·.2))) Ht t ∧ tn i t.heap ∧ (∀ b ∈ fp, Ht b = none) ∧ W i n Ht) ?_ m0 ⟨0, H3, I4, st4, nfp, w0⟩
    rintro n t ⟨i, Ht, It, stt, nt, wt⟩
    rcases turn i n Ht wt with ⟨stop, fin⟩ | ⟨go, Nx, hNx, step⟩
    · refine thnF (Tn.done (X.blk s3 H3 scope ce fp) rfl rfl rfl hc i [] t _ Ht (fun _ _ => False) It (fpB It nt) stt stop) fun r u ⟨hr, Iu⟩ => ?_
      subst hr
      have Ib : Inv X pins σ Ht u := I3.call' (ch := fp) Iu.os Iu.base Iu.hok Iu.bare fun b hb => ⟨(f3 b hb).1.2.2.2.1, (f3 b hb).1.2.1, (f3 b hb).1.2.2.2.2.1, (f3 b hb).1.2.2.2.2.2⟩
      have nC : Ht s3.heap.objs.size = none := by
        have z : Ht ce.locals = none := Iu.free
        rw [cL] at z
        exact z
      obtain ⟨m, hns, _⟩ := Iu.loc
      have hns' : u.heap.Ns ce.locals m := hns
      rw [cL] at hns'
      refine ⟨m, hns', fun h'' sb => ?_⟩
      obtain ⟨g0, g1, g2, g3, g4, g5⟩ := I3.fpOk (Nat.le_refl _) nC
      exact ⟨.ref D, Ht, Ib.turned (t' := u.toks) (fun b o hb z => (sb.2 b hb).trans z) g0 g1 g3 g4 g5, rfl, fin⟩
    · refine thnF (Tn.item (X.blk s3 H3 scope ce fp) rfl rfl rfl hc i [] t _ Ht (fun _ _ => False) It (fpB It nt) stt go) fun r s6 ⟨u, hr, w6⟩ => ?_
      subst hr
      refine thnF w6 fun _ s7 ⟨x, H7, I7, r7, y7, st7, n7⟩ => ?_
      have I7p := I7.pinned (fpB I7 n7) (Tn.obj _ _ st7)
      refine thnF (pg.run _ s7 _ H7 x u _ I7p r7 (step x H7 y7)) fun _ s8 ⟨σ8, H8, I8, hw8, q8⟩ => ?_
      refine thnF (pt.run _ s8 σ8 H8 _ I8 q8) fun b s9 ⟨H9, I9, q9⟩ => ?_
      have next : ∀ {s' : Shared} {H' : Hp}, Inv (X.blk s3 H3 scope ce fp) ([] ++ pinsAt fp s7.heap) σ8 H' s' → Nx H' → ∃ m, m < n ∧ ∃ i Ht, Inv (X.blk s3 H3 scope ce fp) [] (wipe σ (own.map (·.2))) Ht s' ∧ tn i s'.heap ∧ (∀ b ∈ fp, Ht b = none) ∧ W i m Ht := fun {s' H'} I' nx => by
        obtain ⟨m', lt, w'⟩ := hNx H' nx
        have kept : ∀ b ∈ fp, ∀ o, s7.heap.get? b = some o → s'.heap.get? b = some o ∧ H' b = none := fun b hb o z => by
          have := I'.pin (b, o) (List.mem_append_right _ (List.mem_append_right _ (mem_pinsAt hb z)))
          exact ⟨this.1, this.2.1⟩
        refine ⟨m', lt, i + 1, H', (I'.unpinned (pins := [])).weak (by rw [← hw8, wipe_length]) (fun j v z => by rw [← hw8] at z; exact (wipe_some z).1), Tn.keep _ _ _ st7 fun b hb o z => (kept b hb o z).1, fun b hb => ?_, w'⟩
        obtain ⟨o, z, _⟩ := Tn.obj _ _ st7 b hb
        exact (kept b hb o z).2
      cases b with
      | false =>
        simp only [Bool.false_eq_true, if_false] at q9 ⊢
        exact next I9 q9
      | true =>
        simp only [if_true] at q9 ⊢
        refine thnF (pe.run _ s9 σ8 H9 _ I9 q9) fun z s10 ⟨yv, H10, I10, r10, hadd⟩ => ?_
        exact pa _ σ8 H10 s10 _ D yv z Nx _ I10 r10 hadd fun s' H' I' nx => next I' nx
  exact PpSet.codeAny_compStart_set run (Tn.self X.A 0 _ _ _ st4 run)⟩
/-! ### ints -/
def adI (w : World) : AddT := fun D y H N => ∃ (k : Int) (S : Int → Bool) (n : Nat), y = .int k ∧ H D = some (SetO w D S n) ∧ n + 1 < scanBound ∧ N (upd H D (SetO w D (fun j => S j || decide (j = k)) (if S k = true then n else n + 1)))
theorem addOk_I : AddOk X (adI X.w) := fun pins σ H s E D y v N Q I r ⟨k, S, n, e, hD, room, hN⟩ fin => by
  subst e
  obtain ⟨tk, rfl⟩ := r
  refine setR_add (setO_get I hD) room fun h' sb nw => ?_
  have he : ∃ u, h'.get? D = some u := let ⟨o, _, _, _, ho, _⟩ := nw; ⟨o, ho⟩
  exact fin _ _ (I.write (e := D) (t' := s.toks + 1) (by rw [hD]; trivial) (.inl rfl) (fun b u hb hu => (sb.2 b hb).trans hu) he (setO_new nw)) hN
theorem newOk_I : NewOk X fun D => SetO X.w D (fun _ => false) 0 := fun H h D e => setO_new (by
  have := setR_new_at (w := X.w) (ns := []) e
  exact this.congr fun k => by simp)
/-! ### rows of ints -/
def adT (K : PySem.W.Frag) (P : Program) (w : World) : AddT := fun D y H N => ∃ (x : Addr) (k : List Int) (L : List (Addr × List Int)), y = .ref x ∧ SqT K H x (k.map V.int) ∧ (∀ p ∈ L, SqT K H p.1 (p.2.map V.int)) ∧ H D = some (SetBO P w D L) ∧ L.length < 1000 ∧
  ∀ L', (k ∈ L.map (·.2) → L' = L) → (k ∉ L.map (·.2) → L'.Perm ((x, k) :: L)) → N (upd H D (SetBO P w D L'))
theorem addOk_T (hu : X.A.units + 8 < cLine) : AddOk X (adT X.K X.prog X.w) := fun pins σ H s E D y v N Q I r ⟨x, k, L, e, hx, hL, hD, room, hN⟩ fin => by
  subst e
  cases r
  have R0 : SetB0 X.prog X.w s.heap D L := (I.hok D _ hD).1
  obtain ⟨es, ep, t, R⟩ := R0.all fun p hp => I.isT (hL p hp)
  obtain ⟨o, ho, hex, hd⟩ := R.ob
  refine wpAny_call_entry F.slot_set_add ⟨o, ho, hex.1⟩ F.entry_set_add ?_ (F.args_set_add_2 _ _)
  unfold Builtin.«set.add» Builtin.Frozenset.oneOther
  simp only [List.isEmpty_nil, bind_assoc]
  unfold Builtin.Frozenset.addrOf setAdd
  refine wpAny_bind (wpAny_pure ?_)
  try dsimp only
  refine wpAny_bind (wpAny_pure ?_)
  try dsimp only
  refine wpAny_bind (wpAny_holding (wpAny_bind ((TK X.prog X.w).pyHash (k := k) (by show X.A.in1.units < cLine; show X.A.units + 1 < cLine; omega) (I.isT hx) ?_)))
  have R' : SetB X.prog X.w ({ s with toks := s.toks + (TK X.prog X.w).draws k } : Shared).heap D L es ep t := R
  refine addB R' (I.isT hx) (by show X.A.units + 1 < cLine; omega) room fun b h' L' es' ep' t' sb nw k1 k2 => ?_
  have he : ∃ u, h'.get? D = some u := let ⟨o, ho, _⟩ := nw.ob; ⟨o, ho⟩
  show wpAny _ _ (ret Value.none) _ _ _
  exact wpAny_pure ⟨_, rfl, fin _ _ (I.write (e := D) (t' := s.toks + (TK X.prog X.w).draws k) (by rw [hD]; trivial) (.inl rfl) (fun b u hb hu => (sb.2 b hb).trans hu) he (setBO_new nw.b0)) (hN L' k1 k2)⟩
theorem newOk_T : NewOk X fun D => SetBO X.prog X.w D [] := fun H h D e => setBO_new (freshB e).b0
end
end Ud

set_option Elab.async false
set_option linter.all false
set_option maxRecDepth 100000
set_option maxHeartbeats 4000000
/-! Set comprehensions within the judgements. -/
namespace Ud
open PySem PySem.Spec PyProof.Rows L2 Uc
/-- a set at Dl that is being filled: St tells what it has got -/
structure StK (K : PySem.W.Frag) (M : Addr → Prop) (Dl : Addr) (ad : AddT) (okd : D → Bool) (St : List D → Hp → Prop) : Prop where
  ob : ∀ acc H, St acc H → ∃ o, H Dl = some o
  keep : ∀ acc H H', St acc H → H' Dl = H Dl → Gr (fun a => M a ∨ a = Dl) H H' → St acc H'
  add : ∀ acc H y d N, St acc H → Rp K (fun a => M a ∨ a = Dl) H y d → okd d = true → acc.length < 901 → (∀ u, St (acc ++ [d]) (upd H Dl u) → N (upd H Dl u)) → ad Dl y H N
def LsP (X : Cx) (h : Option Hd) (M : Addr → Prop) (H1 : Hp) (Dl : Addr) (St : List D → Hp → Prop) (I : Nat → List D → Prop) (k : Nat) (H' : Hp) : Prop :=
  ∃ acc, Gh h H1 H' ∧ HandOk h (fun a => M a ∨ a = Dl) H' ∧ St acc H' ∧ acc.length ≤ k ∧ I k acc
section
variable {X : Cx} {h : Option Hd} {δ : List Sl} {Ψ : Str → List (Str × D) → Prop} {tst : BF} {g : EF} {ad : AddT} {okd : D → Bool}
theorem ls_turn {B : Addr → Prop} {F : Addr → HO → Prop} {G : V → D → Prop} {M : Addr → Prop} {H1 H' : Hp} {σ3 : L2.St} {Dl : Addr} {St : List D → Hp → Prop} {u : HO} {I : Nat → List D → Prop} {scope : Scope} {ifs : List Expr} {elt : Expr} {k : Nat} {acc : List D} {δ2 : List Sl}
    (sk : StK X.K M Dl ad okd St) (dc : DC X h scope ifs elt tst g) (S3 : SD X.K h B (fun b o => F b o ∨ (b = Dl ∧ o = u)) G (fun a => M a ∨ a = Dl) H' σ3 δ2) (hD : H1 Dl = none) (gH : Gh h H1 H') (hu : H' Dl = some u) (hSt : St acc H') (hl : acc.length ≤ k) (hk : k < 901) (hh : HandOk h M H1)
    (turn : turnT tst g δ2 (fun d => okd d = true ∧ I (k + 1) (acc ++ [d])) (I (k + 1) acc)) :
    tBs X scope ifs σ3 H' fun b H3 => if b = true then eB X scope elt σ3 H3 fun y H4 => ad Dl y H4 (LsP X h M H1 Dl St I (k + 1)) else LsP X h M H1 Dl St I (k + 1) H3 := by
  have item : ∀ {H3 : Hp}, Gh h H' H3 → SD X.K h B (fun b o => F b o ∨ (b = Dl ∧ o = u)) G (fun a => M a ∨ a = Dl) H3 σ3 δ2 → (g δ2).sat (fun d => okd d = true ∧ I (k + 1) (acc ++ [d])) noX →
      eB X scope elt σ3 H3 fun y H4 => ad Dl y H4 (LsP X h M H1 Dl St I (k + 1)) := fun {H3} g3 S3' tr s0 H0 C cl fp => by
    refine ((dc.elt s0 H0 C cl fp).run δ2 _ noX tr).run B _ G _ _ H3 _ (fun _ _ _ _ => False) takes0 S3' (fun v H4 d g4 S4 r4 hI' => ?_) (fun C od H' fs g S ed f => f.elim)
    have hx4 := S4.fk _ _ (.inr ⟨rfl, rfl⟩)
    have st4 : St acc H4 := sk.keep acc H' H4 hSt (by rw [hx4, hu]) ((g3.trans g4).gr S3.hand)
    refine sk.add acc H4 v d _ st4 r4 hI'.1 (by omega) fun w st' => ?_
    refine ⟨acc ++ [d], ?_, S4.hand.put (.inr rfl) fun z e y => ?_, st', by simp; omega, hI'.2⟩
    · intro b o nb z
      rw [upd_ne (ne_of_none z hD)]
      exact g4 b o nb (g3 b o nb (gH b o nb z))
    · obtain ⟨_, ⟨_, k1, _⟩, _⟩ := hh z e
      exact ne_of_none k1 hD y.symm
  rcases dc.one with ⟨rfl, et⟩ | ⟨c, rfl, dt⟩
  · unfold turnT at turn
    rw [et] at turn
    exact item (Gh.refl _ _) S3 turn
  · intro s0 H0 C cl fp
    refine ((dt s0 H0 C cl fp).run δ2 _ noX turn).run B _ G _ _ H' _ (fun _ _ _ _ => False) takes0 S3 (fun b H3 g3 S3' f => ?_) (fun C od H' fs g S ed f => f.elim)
    cases b with
    | true => exact item g3 S3' f
    | false => exact ⟨acc, gH.trans g3, S3'.hand, sk.keep acc H' H3 hSt (by rw [S3'.fk _ _ (.inr ⟨rfl, rfl⟩), hu]) (g3.gr S3.hand), by omega, f⟩
/-- the items of a set comprehension, each checked -/
def gOk (okd : D → Bool) (g : EF) : EF := fun δ => (g δ).bind fun y => .chk (okd y) (.ret y)
def cSc (f : AF) (is : List Nat) (put : D → List Sl → Option (List Sl)) (tst : BF) (okd : D → Bool) (g : EF) : AF := fun δ => (f δ).bind fun ds => .chk (decide (ds.length ≤ 900)) (lcGo is put tst (gOk okd g) δ ds)
/-- what is wished of the new set's filling -/
theorem sc_go {wi : TI} {tg iter elt : Expr} {gt : TG} {is : List Nat} {put : D → List Sl → Option (List Sl)} {scope : Scope} {ifs : List Expr} {fa : AF} {O0 : Addr → HO} {Φ : List D → Prop} (St : (Addr → Prop) → Addr → List D → Hp → Prop) (sk : ∀ M Dl, StK X.K M Dl ad okd (St M Dl))
    (st0 : ∀ M Dl H, H Dl = none → St M Dl [] (upd H Dl (O0 Dl))) (dc : DC X h scope ifs elt tst g) (t : Blk X scope fun Y => Tg Y tg gt is put) (i : DI X h tg iter wi fa) (q0 : (cSc fa is put tst okd g δ).sat Φ Ψ)
    {B : Addr → Prop} {F : Addr → HO → Prop} {G : V → D → Prop} {M : Addr → Prop} {σ : L2.St} {H : Hp} {Q : VK} {W : WX} (tk : Takes X W) (S : SD X.K h B F G M H σ δ)
    (q : ∀ p H' ds, Gh h H H' → SD X.K h B F G M H' σ δ → H p = none → ¬ M p → St M p ds H' → Φ ds → Q (.ref p) H')
    (x0 : ∀ C od H' fs, Gh h H H' → SD X.K h B F G M H' σ δ → ExcD X.K M H' fs od → Ψ C fs → W (.ref (He.ga X.K C)) od σ H') : tSg wi gt (tBs X scope ifs) (eB X scope elt) is O0 ad σ H Q := by
  refine (i.run δ _ Ψ (T.sat_bind.mp q0)).run B F G M σ H _ W tk S (fun J H1 ds Fx Gx g1 S1 Y k => ?_) x0
  obtain ⟨kl, k⟩ := T.sat_chk k
  have b1 : ds.length ≤ 900 := by simpa using kl
  have S1' := S1.subF (F := F) (G := G) (fun b o z => .inl z) fun v d z => .inl z
  intro Dl hD
  let I : Nat → List D → Prop := fun k acc => (lcGo is put tst (gOk okd g) δ (ds.drop k)).sat (fun ys => Φ (acc ++ ys)) Ψ
  have hand1 : HandOk h M H1 := S1.hand
  refine ⟨fun i m H' => m = ds.length - i ∧ i ≤ ds.length ∧ LsP X h M H1 Dl (St M Dl) I i H', ⟨_, rfl, Nat.zero_le _, [], Gh.new hD, S1.hand.up hD, st0 M Dl H1 hD, Nat.le_refl _, by simpa [I] using k⟩, ?_⟩
  rintro j m H' ⟨rfl, hj, hP⟩
  obtain ⟨acc, gH, hand', hSt, hl, hI⟩ := hP
  have fx : ∀ b o, Fx b o → H' b = some o := fun b o z => gH b o (S1.fh b o (.inr z)).nl (S1.fk b o (.inr z))
  by_cases hlt : j < ds.length
  · refine .inr ⟨Y.go H' j fx hlt, LsP X h M H1 Dl (St M Dl) I (j + 1), fun H2 z => ⟨_, by omega, rfl, hlt, z⟩, fun x H2 y => ?_⟩
    obtain ⟨d, hd, all, rp⟩ := Y.yld H' j x H2 fx hlt y
    have ed : ds.drop j = d :: ds.drop (j + 1) := by
      rw [List.drop_eq_getElem_cons hlt, (List.getElem?_eq_some_iff.mp hd).2]
    have hI' : (lcGo is put tst (gOk okd g) δ (ds.drop j)).sat (fun ys => Φ (acc ++ ys)) Ψ := hI
    rw [ed] at hI'
    unfold lcGo at hI'
    cases e : put d (wipeD δ is) with
    | none => rw [e] at hI'; exact hI'.elim
    | some δ2 =>
      rw [e] at hI'
      have tr : turnT tst g δ2 (fun y => okd y = true ∧ I (j + 1) (acc ++ [y])) (I (j + 1) acc) := by
        refine T.sat_mono (fun b z => ?_) (fun _ _ z => z) (T.sat_nox (T.sat_bind.mp hI'))
        cases b with
        | true =>
          refine T.sat_mono (fun y z => ?_) (fun _ _ z => z) (T.sat_bind.mp (T.sat_nox (T.sat_bind.mp z)))
          obtain ⟨ok, z⟩ := T.sat_chk z
          exact ⟨ok, T.sat_mono (fun ys z => by rw [List.append_assoc]; exact z) (fun _ _ z => z) (T.sat_bind.mp z)⟩
        | false => exact z
      obtain ⟨u, hu⟩ := (sk M Dl).ob acc H' hSt
      have SW := S1.wipe is
      have S2 : SD X.K h B (fun b o => F b o ∨ Fx b o) (fun v d => G v d ∨ Gx v d) (fun a => M a ∨ a = Dl) H' (wipe σ is) (wipeD δ is) := SD.up SW hD gH hand' ⟨_, hu⟩
      have r2 := rp (fun a => M a ∨ a = Dl) S2.live fun v d z => S2.gk v d (.inr z)
      have S3 := (SD.addNew SW hD S2 hu).all all
      refine (t X.s_0 X.H_0 0 [] []).run S3 r2 e fun σ3 S4 ew => ?_
      refine ⟨ew.trans (wipe_wipe σ is is fun _ z => z), ?_⟩
      exact ls_turn (F := fun b o => F b o ∨ Fx b o) (sk M Dl) dc S4 hD (gH.trans (Gh.all all)) (all _ _ hu) ((sk M Dl).keep acc H' _ hSt (by rw [all _ _ hu, hu]) fun b o nb z => all b o z) hl (by omega) hand1 tr
  · have e : j = ds.length := by omega
    subst e
    refine .inl ⟨Y.stop H' fx, ?_⟩
    have hand0 : HandOk h M H' := hand'.down (fun a z => .inl z) fun z e => (hand1 z e).1
    have fin : Φ acc := by
      have z : (lcGo is put tst (gOk okd g) δ (ds.drop ds.length)).sat (fun ys => Φ (acc ++ ys)) Ψ := hI
      rw [List.drop_length] at z
      have z' : Φ (acc ++ []) := z
      rwa [List.append_nil] at z'
    exact q Dl H' acc (g1.trans gH) (S1'.step gH hand0) (Gh.free S1' g1 hD) (S1.live.new hD) hSt fin
def insI (x : Int) : List Int → List Int
  | [] => [x]
  | y :: ys => if x < y then x :: y :: ys else if x = y then y :: ys else y :: insI x ys
def setI : List Int → List Int
  | [] => []
  | x :: xs => insI x (setI xs)
theorem insI_mem {x z : Int} : ∀ {l : List Int}, z ∈ insI x l ↔ z = x ∨ z ∈ l
  | [] => by simp [insI]
  | y :: ys => by
    unfold insI
    split
    · simp
    · split
      · rename_i e; subst e; simp
      · rw [List.mem_cons, insI_mem (l := ys), List.mem_cons]
        constructor
        · rintro (h | h | h)
          · exact .inr (.inl h)
          · exact .inl h
          · exact .inr (.inr h)
        · rintro (h | h | h)
          · exact .inr (.inl h)
          · exact .inl h
          · exact .inr (.inr h)
theorem insI_ris {x : Int} : ∀ {l : List Int}, l.Pairwise (· < ·) → (insI x l).Pairwise (· < ·)
  | [], _ => List.pairwise_singleton _ _
  | y :: ys, p => by
    obtain ⟨h1, h2⟩ := List.pairwise_cons.mp p
    unfold insI
    split
    · rename_i e
      refine List.pairwise_cons.mpr ⟨fun z hz => ?_, p⟩
      rcases List.mem_cons.mp hz with rfl | hz
      · exact e
      · exact Int.lt_trans e (h1 z hz)
    · split
      · exact p
      · refine List.pairwise_cons.mpr ⟨fun z hz => ?_, insI_ris h2⟩
        rcases insI_mem.mp hz with rfl | hz
        · omega
        · exact h1 z hz
theorem setI_mem {z : Int} : ∀ {l : List Int}, z ∈ setI l ↔ z ∈ l
  | [] => Iff.rfl
  | x :: xs => by unfold setI; rw [insI_mem, setI_mem, List.mem_cons]
theorem setI_ris : ∀ {l : List Int}, (setI l).Pairwise (· < ·)
  | [] => .nil
  | x :: xs => insI_ris setI_ris
theorem ris_eq : ∀ {l m : List Int}, l.Pairwise (· < ·) → m.Pairwise (· < ·) → (∀ z, z ∈ l ↔ z ∈ m) → l = m
  | [], [], _, _, _ => rfl
  | [], y :: ys, _, _, h => absurd ((h y).mpr List.mem_cons_self) (by simp)
  | x :: xs, [], _, _, h => absurd ((h x).mp List.mem_cons_self) (by simp)
  | x :: xs, y :: ys, p, q, h => by
    obtain ⟨p1, p2⟩ := List.pairwise_cons.mp p
    obtain ⟨q1, q2⟩ := List.pairwise_cons.mp q
    have e : x = y := by
      rcases List.mem_cons.mp ((h x).mp List.mem_cons_self) with e | m1
      · exact e
      · rcases List.mem_cons.mp ((h y).mpr List.mem_cons_self) with e | m2
        · exact e.symm
        · have := q1 x m1
          have := p1 y m2
          omega
    subst e
    rw [ris_eq p2 q2 fun z => ⟨fun m => ?_, fun m => ?_⟩]
    · rcases List.mem_cons.mp ((h z).mp (List.mem_cons_of_mem _ m)) with e | m'
      · have := p1 z m; omega
      · exact m'
    · rcases List.mem_cons.mp ((h z).mpr (List.mem_cons_of_mem _ m)) with e | m'
      · have := q1 z m; omega
      · exact m'
theorem insI_len {x : Int} : ∀ {l : List Int}, l.Pairwise (· < ·) → (insI x l).length = if x ∈ l then l.length else l.length + 1
  | [], _ => by simp [insI]
  | y :: l, p => by
    obtain ⟨p1, p2⟩ := List.pairwise_cons.mp p
    unfold insI
    split
    · rename_i c
      rw [if_neg (fun z => ?_), List.length_cons]
      rcases List.mem_cons.mp z with e | e
      · omega
      · have := p1 x e; omega
    · split
      · rename_i c d
        subst d
        rw [if_pos List.mem_cons_self]
      · rename_i c d
        rw [List.length_cons, insI_len p2, List.length_cons]
        by_cases z : x ∈ l
        · rw [if_pos z, if_pos (List.mem_cons_of_mem _ z)]
        · rw [if_neg z, if_neg fun y => (List.mem_cons.mp y).elim (fun e => d e) z]
theorem setI_snoc {is : List Int} {k : Int} : (setI (is ++ [k])).length = if k ∈ is then (setI is).length else (setI is).length + 1 := by
  have e : setI (is ++ [k]) = insI k (setI is) := ris_eq setI_ris (insI_ris setI_ris) fun z => by rw [setI_mem, insI_mem, setI_mem, List.mem_append, List.mem_singleton]; exact Or.comm
  rw [e, insI_len setI_ris]
  by_cases z : k ∈ is
  · rw [if_pos z, if_pos (setI_mem.mpr z)]
  · rw [if_neg z, if_neg fun y => z (setI_mem.mp y)]
/-! ### ints -/
theorem insI_le {x : Int} {l : List Int} : (insI x l).length ≤ l.length + 1 := by
  induction l with
  | nil => exact Nat.le_refl _
  | cons y l ih =>
    unfold insI
    split
    · exact Nat.le_refl _
    · split
      · exact Nat.le_succ _
      · rw [List.length_cons, List.length_cons]; omega
theorem setI_le : ∀ {is : List Int}, (setI is).length ≤ is.length
  | [] => Nat.le_refl _
  | x :: xs => Nat.le_trans insI_le (Nat.succ_le_succ setI_le)
def StI (w : World) (Dl : Addr) (acc : List D) (H : Hp) : Prop := ∃ (is : List Int) (S : Int → Bool) (n : Nat), acc = is.map D.int ∧ H Dl = some (SetO w Dl S n) ∧ (∀ k, S k = true ↔ k ∈ is) ∧ n ≤ (setI is).length
theorem stK_I {K : PySem.W.Frag} {w : World} (M : Addr → Prop) (Dl : Addr) : StK K M Dl (adI w) isInt (StI w Dl) where
  ob := fun acc H ⟨_, _, _, _, e, _⟩ => ⟨_, e⟩
  keep := fun acc H H' ⟨is, S, n, e1, e2, e3⟩ e _ => ⟨is, S, n, e1, by rw [e]; exact e2, e3⟩
  add := fun acc H y d N ⟨is, S, n, e1, e2, e3, e4⟩ r ok hl fin => by
    obtain ⟨k, rfl⟩ := isInt_ok ok
    obtain rfl := r.int_inv
    subst e1
    rw [List.length_map] at hl
    have hb : n + 1 < scanBound := by
      have : (4096 : Nat) ≤ scanBound := by decide
      have := setI_le (is := is)
      omega
    refine ⟨k, S, n, rfl, e2, hb, fin _ ⟨is ++ [k], _, _, by simp, upd_same, fun j => ?_, ?_⟩⟩
    · rw [Bool.or_eq_true, decide_eq_true_eq, e3 j, List.mem_append, List.mem_singleton]
    · rw [setI_snoc]
      by_cases z : k ∈ is
      · rw [if_pos z, if_pos ((e3 k).mpr z)]; exact e4
      · rw [if_neg z, if_neg fun y => z ((e3 k).mp y)]; omega
def intsOf : List D → Option (List Int)
  | [] => some []
  | .int i :: r => (intsOf r).map (i :: ·)
  | _ :: _ => none
theorem intsOf_map : ∀ {is : List Int}, intsOf (is.map D.int) = some is
  | [] => rfl
  | i :: is => by
    show (intsOf (is.map D.int)).map (i :: ·) = _
    rw [intsOf_map]; rfl
def cSortSc (f : AF) (is : List Nat) (put : D → List Sl → Option (List Sl)) (tst : BF) (g : EF) : EF := fun δ => (cSc f is put tst isInt g δ).bind fun ds => optT (intsOf ds) fun ns => .chk (decide ((setI ns).length ≤ 61)) (.ret (.lst ((setI ns).map D.int)))
theorem rp_ints {K : PySem.W.Frag} {M : Addr → Prop} {H : Hp} : ∀ {ns : List Int}, RpA K M H (ns.map V.int) (ns.map D.int)
  | [] => .nil
  | n :: ns => .cons (.int n) rp_ints
theorem lcGo_len {is : List Nat} {put : D → List Sl → Option (List Sl)} : ∀ {ds : List D} {Φ : List D → Prop} {Ψ : Str → List (Str × D) → Prop}, (lcGo is put tst g δ ds).sat Φ Ψ → (lcGo is put tst g δ ds).sat (fun ys => Φ ys ∧ ys.length ≤ ds.length) Ψ
  | [], Φ, Ψ, q => ⟨q, Nat.le_refl _⟩
  | d :: ds, Φ, Ψ, q => by
    unfold lcGo at q ⊢
    split at q
    · exact q.elim
    · refine T.sat_bind.mpr (T.sat_mono (fun b z => ?_) (fun _ _ z => z) (T.sat_bind.mp q))
      cases b with
      | true =>
        refine T.sat_bind.mpr (T.sat_mono (fun y z => ?_) (fun _ _ z => z) (T.sat_bind.mp z))
        refine T.sat_bind.mpr (T.sat_mono (fun ys z => ?_) (fun _ _ z => z) (lcGo_len (T.sat_bind.mp z)))
        exact ⟨z.1, by rw [List.length_cons, List.length_cons]; omega⟩
      | false => exact T.sat_mono (fun ys z => ⟨z.1, by rw [List.length_cons]; omega⟩) (fun _ _ z => z) (lcGo_len z)
/-- sorted({..}), ints -/
theorem de_sortSc {wi : TI} {tg iter elt : Expr} {gt : TG} {is : List Nat} {put : D → List Sl → Option (List Sl)} {scope : Scope} {ifs : List Expr} {own : List (Str × Nat)} {fa : AF} {x : Str} {p p2 pos : Pos} (hx : x = "sorted") (hm : X.mg x = none) (hN : X.N.Nodup) (ok : BlkOk X.N X.env.scope scope own) (eo : own.map (·.2) = is) (i : DI X h tg iter wi fa) (t : Blk X scope fun Y => Tg Y tg gt is put) (dc : DC X h scope ifs elt tst g)
    (hc : X.calm = true := by rfl) (hfs : ∀ y, foldedSetIterable iter X.env y = pure y := by intro _; rfl) (hg : Gl X x := by rfl) (hn : x ≠ "__name__" := by decide) (hdb : (x == ("__debug__" : Str)) = false := by decide)
    (he : starEach [.SetComp elt [⟨tg, iter, ifs, 0⟩] scope p2] X.env = (false, eval (.SetComp elt [⟨tg, iter, ifs, 0⟩] scope p2) X.env) :: starEach [] X.env := by rfl) (hpl : (backTo pos (starEach [] X.env)).any (·.1) = false := by rfl) :
    DE X h (.Call (.Name x p) [.SetComp elt [⟨tg, iter, ifs, 0⟩] scope p2] [] pos) (cSortSc fa is put tst g) := ⟨fun δ Φ Ψ q => .mk fun B F G M σ H Q W tk S q0 x0 => by
  subst eo
  have pe := pe_sg (X := X) (elt := elt) (ad := adI X.w) hc hN i.pi ok newOk_I (fun s H C cl fp => (t s H C cl fp).pg) (tests_ok dc.ifs) elt_ok (fun s H C cl fp => addOk_I (X := X.blk s H scope (compEnvC scope cl C X.env) fp)) hfs (pos := p2)
  refine eS_of (pe_callB (cr_sortedSet hc) hg hm (by rw [hx]; decide +kernel) (pa_cons pe pa_nil he) hn hdb he hpl) ?_
  have q1 := T.sat_bind.mp q
  refine sc_go (Q := fun v H1 => rSortedSet X.w [v] H1 Q) (O0 := fun D => SetO X.w D (fun _ => false) 0) (fun _ Dl => StI X.w Dl) (fun M Dl => stK_I M Dl) (fun M Dl H hD => ⟨[], fun _ => false, 0, rfl, upd_same, fun k => by simp, Nat.le_refl _⟩) dc t i q1 tk S (fun a H1 ds g1 S1 hn nM ⟨is, T0, n, e1, e2, e3, e4⟩ z => ?_) x0
  subst e1
  rw [intsOf_map] at z
  obtain ⟨kl, z⟩ := T.sat_chk z
  have hlen : (setI is).length ≤ 61 := by simpa using kl
  refine ⟨a, T0, n, rfl, e2, by omega, fun ns p hs hmem hl hp => ?_⟩
  have en : ns = setI is := ris_eq hs setI_ris fun k => by rw [hmem k, e3 k, setI_mem]
  subst en
  exact Ans.lst (Ans.on q0 g1) S1 hp rp_ints z⟩
end
end Ud

set_option Elab.async false
set_option linter.all false
set_option maxRecDepth 100000
set_option maxHeartbeats 4000000
/-! Sets of rows; sets of one's own. -/
namespace Ud
open PySem PySem.Spec PyProof.Rows L2 Uc Ud.Bg
/-- the address of a tuple, alive -/
def LvT (K : PySem.W.Frag) (M : Addr → Prop) (H : Hp) (p : Addr × List Int) : Prop := (¬ M p.1 ∧ H p.1 = some (.tup (p.2.map V.int))) ∨ SqT K (fun _ => none) p.1 (p.2.map V.int)
theorem LvT.sq {K : PySem.W.Frag} {M : Addr → Prop} {H : Hp} {p : Addr × List Int} (l : LvT K M H p) : SqT K H p.1 (p.2.map V.int) := by
  rcases l with ⟨_, e⟩ | e
  · exact SqT.of e
  · exact sqT_const e
theorem LvT.mono {K : PySem.W.Frag} {M : Addr → Prop} {H H' : Hp} {p : Addr × List Int} (l : LvT K M H p) (g : Gr M H H') : LvT K M H' p := l.imp (fun z => ⟨z.1, g _ _ z.1 z.2⟩) id
def rowD (is : List Int) : D := .tup (is.map D.int)
theorem rpA_ints : ∀ {K : PySem.W.Frag} {M : Addr → Prop} {H : Hp} {vs : List V} {is : List Int}, RpA K M H vs (is.map D.int) → vs = is.map V.int
  | _, _, _, _, [], r => by cases r; rfl
  | _, _, _, _, i :: is, r => by
    rw [List.map_cons] at r
    cases r with
    | cons h t => rw [h.int_inv, rpA_ints t]; rfl
theorem rp_row {K : PySem.W.Frag} {M : Addr → Prop} {H : Hp} {v : V} {is : List Int} (r : Rp K M H v (rowD is)) : ∃ a, v = .ref a ∧ LvT K M H (a, is) := by
  obtain ⟨a, xs, rfl, c, rv⟩ := r.tup_inv2
  rw [rpA_ints rv] at c
  exact ⟨a, rfl, c⟩
def isTI : D → Bool
  | .tup xs => xs.all isInt
  | _ => false
theorem isTI_ok {d : D} (e : isTI d = true) : ∃ is, d = rowD is := by
  cases d with
  | tup xs =>
    obtain ⟨is, rfl⟩ := ints_all (show xs.all isInt = true from e)
    exact ⟨is, rfl⟩
  | _ => cases e
def StT (K : PySem.W.Frag) (P : Program) (w : World) (M : Addr → Prop) (Dl : Addr) (acc : List D) (H : Hp) : Prop := ∃ (rs : List (List Int)) (L : List (Addr × List Int)), acc = rs.map rowD ∧ H Dl = some (SetBO P w Dl L) ∧ (∀ r, r ∈ L.map (·.2) ↔ r ∈ rs) ∧ (∀ p ∈ L, LvT K (fun a => M a ∨ a = Dl) H p) ∧ L.length ≤ rs.length
theorem stK_T {K : PySem.W.Frag} {P : Program} {w : World} (M : Addr → Prop) (Dl : Addr) : StK K M Dl (adT K P w) isTI (StT K P w M Dl) where
  ob := fun acc H ⟨_, _, _, e, _⟩ => ⟨_, e⟩
  keep := fun acc H H' ⟨rs, L, e1, e2, e3, e4, e5⟩ e g => ⟨rs, L, e1, by rw [e]; exact e2, e3, fun p hp => (e4 p hp).mono g, e5⟩
  add := fun acc H y d N ⟨rs, L, e1, e2, e3, e4, e5⟩ r ok hl fin => by
    obtain ⟨is, rfl⟩ := isTI_ok ok
    obtain ⟨a, rfl, lv⟩ := rp_row r
    subst e1
    rw [List.length_map] at hl
    refine ⟨a, is, L, rfl, lv.sq, fun p hp => (e4 p hp).sq, e2, by omega, fun L' k1 k2 => fin _ ⟨rs ++ [is], L', by simp, upd_same, ?_⟩⟩
    have up : ∀ p, LvT K (fun a => M a ∨ a = Dl) H p → LvT K (fun a => M a ∨ a = Dl) (upd H Dl (SetBO P w Dl L')) p := fun p l => l.mono fun b o nb z => by rw [upd_ne (fun y => nb (.inr y))]; exact z
    by_cases hin : is ∈ L.map (·.2)
    · have := k1 hin
      subst this
      refine ⟨fun r => ?_, fun p hp => up p (e4 p hp), by rw [List.length_append]; omega⟩
      rw [e3 r, List.mem_append, List.mem_singleton]
      exact ⟨.inl, fun z => z.elim id fun e => by rw [e]; exact (e3 is).mp hin⟩
    · have pm := k2 hin
      refine ⟨fun r => ?_, fun p hp => ?_, by rw [pm.length_eq, List.length_append, List.length_singleton, List.length_cons]; omega⟩
      · rw [(pm.map (·.2)).mem_iff, List.map_cons, List.mem_cons, e3 r, List.mem_append, List.mem_singleton]
        exact Or.comm
      · rcases List.mem_cons.mp (pm.mem_iff.mp hp) with rfl | hp
        · exact up _ lv
        · exact up p (e4 p hp)
/-- without the doubles -/
def dedR {α : Type} [DecidableEq α] : List α → List α
  | [] => []
  | r :: rs => if r ∈ rs then dedR rs else r :: dedR rs
theorem dedR_mem {α : Type} [DecidableEq α] {r : α} : ∀ {rs : List α}, r ∈ dedR rs ↔ r ∈ rs
  | [] => Iff.rfl
  | x :: rs => by
    unfold dedR
    split
    · rename_i e
      rw [dedR_mem, List.mem_cons]
      exact ⟨.inr, fun z => z.elim (fun y => by rw [y]; exact e) id⟩
    · rw [List.mem_cons, dedR_mem, List.mem_cons]
theorem dedR_nodup {α : Type} [DecidableEq α] : ∀ {rs : List α}, (dedR rs).Nodup
  | [] => List.nodup_nil
  | x :: rs => by
    unfold dedR
    split
    · exact dedR_nodup
    · rename_i e
      exact List.nodup_cons.mpr ⟨fun z => e (dedR_mem.mp z), dedR_nodup⟩
theorem pigeon {α : Type} [DecidableEq α] : ∀ (l m : List α), l.Nodup → (∀ x ∈ l, x ∈ m) → l.length ≤ m.length
  | [], _, _, _ => Nat.zero_le _
  | x :: l, m, nd, sub => by
    obtain ⟨h1, h2⟩ := List.nodup_cons.mp nd
    have hx := sub x List.mem_cons_self
    have ih := pigeon l (m.erase x) h2 fun y hy => (List.mem_erase_of_ne fun e => h1 (by rw [← e]; exact hy)).mpr (sub y (List.mem_cons_of_mem _ hy))
    have := List.length_erase_of_mem hx
    have := List.length_pos_of_mem hx
    rw [List.length_cons]
    omega
theorem ded_len {α : Type} [DecidableEq α] {l rs : List α} (nd : l.Nodup) (e : ∀ r, r ∈ l ↔ r ∈ rs) : l.length = (dedR rs).length :=
  Nat.le_antisymm (pigeon _ _ nd fun x hx => dedR_mem.mpr ((e x).mp hx)) (pigeon _ _ dedR_nodup fun x hx => (e x).mpr (dedR_mem.mp hx))
def rowsOfD : List D → Option (List (List Int))
  | [] => some []
  | .tup xs :: r => match intsOf xs, rowsOfD r with
    | some i, some is => some (i :: is)
    | _, _ => none
  | _ :: _ => none
theorem rowsOf_map : ∀ {rs : List (List Int)}, rowsOfD (rs.map rowD) = some rs
  | [] => rfl
  | r :: rs => by
    rw [List.map_cons]
    show (match intsOf (r.map D.int), rowsOfD (rs.map rowD) with
      | some i, some is => some (i :: is)
      | _, _ => none) = _
    rw [intsOf_map, rowsOf_map]
theorem intsOf_inv : ∀ {ds : List D} {is : List Int}, intsOf ds = some is → ds = is.map D.int
  | [], _, e => by cases e; rfl
  | d :: ds, is, e => by
    cases d with
    | int i =>
      obtain ⟨js, e1, rfl⟩ := Option.map_eq_some_iff.mp (show (intsOf ds).map (i :: ·) = some is from e)
      rw [intsOf_inv e1]; rfl
    | _ => cases e
theorem rowsOf_inv : ∀ {ds : List D} {rs : List (List Int)}, rowsOfD ds = some rs → ds = rs.map rowD
  | [], _, e => by cases e; rfl
  | d :: ds, rs, e => by
    cases d with
    | tup xs =>
      unfold rowsOfD at e
      split at e
      · rename_i i is e1 e2
        cases e
        rw [rowsOf_inv e2, intsOf_inv e1]; rfl
      · cases e
    | _ => cases e
section
variable {X : Cx} {h : Option Hd} {δ : List Sl} {e : Expr} {es : List Expr} {pos p p2 q' : Pos} {fa : AF} {f : EF} {tst : BF} {g : EF}
def cLenSc (f : AF) (is : List Nat) (put : D → List Sl → Option (List Sl)) (tst : BF) (g : EF) : EF := fun δ => (cSc f is put tst isTI g δ).bind fun ds => optT (rowsOfD ds) fun rs => .ret (.int (dedR rs).length)
/-- len({..}), rows of ints -/
theorem de_lenSc {wi : TI} {tg iter elt : Expr} {gt : TG} {is : List Nat} {put : D → List Sl → Option (List Sl)} {scope : Scope} {ifs : List Expr} {own : List (Str × Nat)} {fa : AF} {x : Str} {n : Nat} (hr : Room n X.A) (hx : x = "len") (hm : X.mg x = none) (hN : X.N.Nodup) (ok : BlkOk X.N X.env.scope scope own) (eo : own.map (·.2) = is) (i : DI X h tg iter wi fa) (t : Blk X scope fun Y => Tg Y tg gt is put) (dc : DC X h scope ifs elt tst g)
    (hc : X.calm = true := by rfl) (hfs : ∀ y, foldedSetIterable iter X.env y = pure y := by intro _; rfl) (hg : Gl X x := by rfl) (hn : x ≠ "__name__" := by decide) (hdb : (x == ("__debug__" : Str)) = false := by decide)
    (he : starEach [.SetComp elt [⟨tg, iter, ifs, 0⟩] scope p2] X.env = (false, eval (.SetComp elt [⟨tg, iter, ifs, 0⟩] scope p2) X.env) :: starEach [] X.env := by rfl) (hpl : (backTo pos (starEach [] X.env)).any (·.1) = false := by rfl) :
    DE X h (.Call (.Name x p) [.SetComp elt [⟨tg, iter, ifs, 0⟩] scope p2] [] pos) (cLenSc fa is put tst g) := ⟨fun δ Φ Ψ q => .mk fun B F G M σ H Q W tk S q0 x0 => by
  subst eo
  have pe := pe_sg (X := X) (elt := elt) (ad := adT X.K X.prog X.w) hc hN i.pi ok newOk_T (fun s H C cl fp => (t s H C cl fp).pg) (tests_ok dc.ifs) elt_ok (fun s H C cl fp => addOk_T (X := X.blk s H scope (compEnvC scope cl C X.env) fp) (by have := hr.un; show X.A.units + 8 < cLine; omega)) hfs (pos := p2)
  refine eS_of (pe_callB cr_lenB hg hm (by rw [hx]; decide +kernel) (pa_cons pe pa_nil he) hn hdb he hpl) ?_
  refine sc_go (Q := fun v H1 => rLenB X.prog X.w [v] H1 Q) (O0 := fun D => SetBO X.prog X.w D []) (St := fun M Dl => StT X.K X.prog X.w M Dl) (fun M Dl => stK_T M Dl) (fun M Dl H hD => ⟨[], [], rfl, upd_same, fun k => by simp, (fun p hp => absurd hp (by simp)), Nat.le_refl _⟩) dc t i (T.sat_bind.mp q) tk S (fun a H1 ds g1 S1 hn nM ⟨rs, L, e1, e2, e3, e4, e5⟩ z => ?_) x0
  subst e1
  rw [rowsOf_map] at z
  refine ⟨a, L, rfl, e2, fun nd => ?_⟩
  have el : L.length = (dedR rs).length := by rw [← ded_len nd e3, List.length_map]
  rw [el]
  exact Ans.now (Ans.on q0 g1) S1 (.int _) z⟩
def vLenSet : List D → T D
  | [.lst ds] => .chk (decide (ds.length ≤ 900)) (optT (rowsOfD ds) fun rs => .ret (.int (dedR rs).length))
  | _ => .stuck
theorem rpA_rows {K : PySem.W.Frag} {M : Addr → Prop} {H : Hp} : ∀ {vs : List V} {rs : List (List Int)}, RpA K M H vs (rs.map rowD) → ∃ ks : List (Addr × List Int), vs = ks.map (fun p => V.ref p.1) ∧ ks.map (·.2) = rs ∧ ∀ p ∈ ks, LvT K M H p
  | _, [], r => by cases r; exact ⟨[], rfl, rfl, fun p hp => nomatch hp⟩
  | _, i :: rs, r => by
    rw [List.map_cons] at r
    cases r with
    | cons h t =>
      obtain ⟨a, rfl, lv⟩ := rp_row h
      obtain ⟨ks, e1, e2, e3⟩ := rpA_rows t
      refine ⟨(a, i) :: ks, by rw [e1]; rfl, by rw [List.map_cons, e2], fun p hp => ?_⟩
      rcases List.mem_cons.mp hp with rfl | hp
      · exact lv
      · exact e3 p hp
/-- len(set(xs)), rows of ints -/
theorem de_lenSet {x y : Str} {n : Nat} (hr : Room n X.A) (hx : x = "len") (hy : y = "set") (hm : X.mg x = none) (hm2 : X.mg y = none) (w : DE X h e f) (hc : X.calm = true := by rfl) (hg : Gl X x := by rfl) (hn : x ≠ "__name__" := by decide) (hdb : (x == ("__debug__" : Str)) = false := by decide) (hg2 : Gl X y := by rfl) (hn2 : y ≠ "__name__" := by decide) (hdb2 : (y == ("__debug__" : Str)) = false := by decide)
    (he : starEach [e] X.env = (false, eval e X.env) :: starEach [] X.env := by rfl) (hpl : (backTo q' (starEach [] X.env)).any (·.1) = false := by rfl)
    (he2 : starEach [.Call (.Name y p2) [e] [] q'] X.env = (false, eval (.Call (.Name y p2) [e] [] q') X.env) :: starEach [] X.env := by rfl) (hpl2 : (backTo pos (starEach [] X.env)).any (·.1) = false := by rfl) :
    DE X h (.Call (.Name x p) [.Call (.Name y p2) [e] [] q'] [] pos) (cCall vLenSet (cCons f cNil)) := ⟨fun δ Φ Ψ q => .mk fun B F G M σ H Q W tk S q0 x0 => by
  have pe := pe_callTy (X := X) (cr_setB hc hr.units) hg2 hm2 (by rw [hy]; decide +kernel) (pa_cons (peS (X := X) (e := e)) pa_nil he) hn2 hdb2 he hpl (p := p2) (pos := q')
  refine eS_of (pe_callB cr_lenB hg hm (by rw [hx]; decide +kernel) (pa_cons pe pa_nil he2) hn hdb he2 hpl2) ?_
  have q1 : (f δ).sat (fun d => (vLenSet [d]).sat Φ Ψ) Ψ := T.sat_mono (fun d z => T.sat_bind.mp z) (fun _ _ z => z) (T.sat_bind.mp (T.sat_bind.mp q))
  refine (w.run δ _ Ψ q1).run B F G M σ H _ W tk S (fun v H1 d g1 S1 r1 k => ?_) x0
  unfold vLenSet at k
  split at k
  · rename_i ds e0
    cases e0
    obtain ⟨kl, k⟩ := T.sat_chk k
    obtain ⟨rs, er, k⟩ := optT_sat k
    rw [rowsOf_inv er] at r1 kl
    have kl' : rs.length ≤ 900 := by simpa using kl
    obtain ⟨l, vs, rfl, n1, e1, rv⟩ := r1.lst_inv
    obtain ⟨ks, rfl, e2, lv⟩ := rpA_rows rv
    have ekl : ks.length = rs.length := by rw [← e2, List.length_map]
    refine ⟨l, ks, rfl, SqL.of e1, fun p hp => (lv p hp).sq, by omega, fun a L hn sub cov => ?_⟩
    refine ⟨a, L, rfl, upd_same, fun nd => ?_⟩
    have el : L.length = (dedR rs).length := by
      rw [← ded_len nd (rs := rs) fun r => ⟨fun z => ?_, fun z => ?_⟩, List.length_map]
      · obtain ⟨p, hp, rfl⟩ := List.mem_map.mp z
        rw [← e2]
        exact List.mem_map.mpr ⟨p, sub p hp, rfl⟩
      · rw [← e2] at z
        obtain ⟨p, hp, rfl⟩ := List.mem_map.mp z
        exact cov p hp
    rw [el]
    exact q0 _ _ _ (g1.trans (Gh.new hn)) (S1.all (new_all hn)) (.int _) k
  · exact k.elim⟩
end
end Ud

set_option Elab.async false
set_option linter.all false
set_option maxRecDepth 100000
set_option maxHeartbeats 4000000
/-! Sets of ints of one's own. -/
namespace Ud
open PySem PySem.Spec PyProof.Rows L2 Uc
def ownS : Option Sl → Option (Bool × List Int)
  | some (.own (.s b ks)) => some (b, ks)
  | _ => none
theorem ownS_ok {o : Option Sl} {p : Bool × List Int} (e : ownS o = some p) : o = some (.own (.s p.1 p.2)) := by
  unfold ownS at e; split at e
  · cases e; rfl
  · cases e
def intD : D → Option Int
  | .int i => some i
  | _ => none
theorem intD_ok {d : D} {i : Int} (e : intD d = some i) : d = .int i := by
  cases d with
  | int z => cases e; rfl
  | _ => cases e
def gSetNew (i : Nat) (b : Bool) : SF := fun δ => .ret (.nx (δ.set i (.own (.s b []))))
def addK (k : Int) (ks : List Int) : List Int := if k ∈ ks then ks else ks ++ [k]
def gSetAdd (i : Nat) (b : Bool) (f : EF) : SF := fun δ => match ownS δ[i]? with
  | some p => .chk (decide (p.1 = b) && decide (p.2.length ≤ 1000)) ((f δ).on δ fun d => match intD d with
    | some k => .ret (.nx (δ.set i (.own (.s b (addK k p.2)))))
    | none => .stuck)
  | none => .stuck
def cSortOwn (i : Nat) (b : Bool) : EF := fun δ => optT (ownS δ[i]?) fun p => .chk (decide (p.1 = b) && decide (p.2.length ≤ 61)) (.ret (.lst ((setI p.2).map D.int)))
theorem setO_w {w w' : World} (e : w.params.followText "set-order" = w'.params.followText "set-order") (a : Addr) (S : Int → Bool) (n : Nat) : SetO w a S n = SetO w' a S n := by
  unfold SetO SetR
  rw [e]
section
variable {X : Cx} {h : Option Hd} {δ : List Sl} {e : Expr} {es : List Expr} {pos p p1 p2 p3 q' : Pos} {fa : AF} {f : EF} {tst : BF} {g : EF}
theorem ds_setNew {x y : Str} {p' : Pos} (i : Nat) (hN : X.N.Nodup) (hy : y = "set") (hm : X.mg y = none) (hg : Gl X y := by rfl) (hn : y ≠ "__name__" := by decide) (hdb : (y == ("__debug__" : Str)) = false := by decide) (hi : X.N[i]? = some x := by rfl) (hx : Loc X.env.scope x := by first | exact Or.inl rfl | exact Or.inr rfl)
    (hs : swapsWith (.Call (.Name y p) [] [] q') (some (.Name x p')) pos.line X.env = pure false := by rfl) (hf : X.fn x = true ∨ X.env.scope.names.lookup x = some .local := by first | exact .inl rfl | exact .inr rfl) :
    DS X h (.Assign [.Name x p'] (.Call (.Name y p) [] [] q') pos) (gSetNew i (X.w.params.followText "set-order")) := ⟨fun δ P q => .mk fun B F G M σ H D W tk S E => by
  refine sS_of (ps_set hN hi hx (pe_callTy0 cr_set0 hg hm (by rw [hy]; decide +kernel) hn hdb) hs hf) ⟨rfl, fun a hp => ?_⟩
  have S1 := S.all (new_all (o := SetO X.w a (fun _ => false) 0) hp)
  refine E.nx _ _ _ _ (SD.setO (od := .s (X.w.params.followText "set-order") []) S S1 (Gh.new hp) hp upd_same ⟨X.w, rfl, ?_, List.nodup_nil⟩ i) q
  congr 1⟩
theorem ds_setAdd {x : Str} (i : Nat) (w : DE X h e f) (hN : X.N[i]? = some x := by rfl) (hv : Vis X.env.scope x := by first | exact Or.inl rfl | exact Or.inr (Or.inl rfl) | exact Or.inr (Or.inr rfl)) (h1 : (x == ("__debug__" : Str)) = false := by decide) (h2 : (x == ("__classdict__" : Str)) = false := by decide)
    (hpe : PE X (.Call (.Attribute (.Name x p1) "add" p2) [e] [] p3) (tSAdd X.w (tVar i) (tCons (eS X e) tNil)) := by exact pe_sadd (pe_var (by rfl) (by first | exact Or.inl rfl | exact Or.inr (Or.inl rfl) | exact Or.inr (Or.inr rfl)) (by decide) (by decide)) (pa_cons peS pa_nil))
    (hs : swapsWith (.Call (.Attribute (.Name x p1) "add" p2) [e] [] p3) none pos.line X.env = pure false := by rfl) :
    DS X h (.Expr (.Call (.Attribute (.Name x p1) "add" p2) [e] [] p3) pos) (gSetAdd i (X.w.params.followText "set-order") f) := ⟨fun δ P q => .mk fun B F G M σ H D W tk S E => by
  unfold gSetAdd at q
  split at q
  · rename_i p eo
    obtain ⟨kk, q⟩ := T.sat_chk q
    simp only [Bool.and_eq_true, decide_eq_true_eq] at kk
    have hi := ownS_ok eo
    obtain ⟨a, u, e1, mq, nq, hq, ⟨w0, ew, eu, nd⟩, nb, nf⟩ := S.own i _ hi
    have ew' : w0.params.followText "set-order" = X.w.params.followText "set-order" := by rw [ew, kk.1]
    subst eu
    rw [setO_w ew'] at hq
    refine sS_of (ps_expr hpe hs) ⟨_, e1, ⟨a, _, _, rfl, hq⟩, (w.run δ _ _ (T.sat_on.mp q)).run B F G M σ H _ W tk S (fun v H1 d g1 S1 r1 k => ?_) (out_of E)⟩
    have hq1 := g1 a _ nq.nl hq
    split at k
    · rename_i z ez
      rw [intD_ok ez] at r1
      obtain rfl := r1.int_inv
      have few : p.2.length + 1 < scanBound := by
        have : (4096 : Nat) ≤ scanBound := by decide
        omega
      refine ⟨a, z, _, _, rfl, rfl, hq1, few, E.nx M σ _ _ (S1.chg (es := .s (X.w.params.followText "set-order") (addK z p.2)) hi e1 ⟨X.w, rfl, ?_, ?_⟩) k⟩
      · congr 1
        · funext j
          unfold addK
          by_cases hz : z ∈ p.2
          · rw [if_pos hz]
            by_cases ej : j = z
            · subst ej; simp [hz]
            · simp [ej]
          · rw [if_neg hz]
            simp
        · unfold addK
          by_cases hz : z ∈ p.2
          · simp [hz]
          · simp [hz]
      · unfold addK
        split
        · exact nd
        · rename_i hz
          exact List.nodup_append.mpr ⟨nd, by simp, fun a ha b hb => by simp at hb; subst hb; exact fun e => hz (by rw [← e]; exact ha)⟩
    · exact k.elim
  · exact q.elim⟩
theorem de_sortOwn {x y : Str} (i : Nat) (hx : x = "sorted") (hm : X.mg x = none) (hc : X.calm = true := by rfl) (hN : X.N[i]? = some y := by rfl) (hv : Vis X.env.scope y := by first | exact Or.inl rfl | exact Or.inr (Or.inl rfl) | exact Or.inr (Or.inr rfl)) (h1 : (y == ("__debug__" : Str)) = false := by decide) (h2 : (y == ("__classdict__" : Str)) = false := by decide)
    (hg : Gl X x := by rfl) (hn : x ≠ "__name__" := by decide) (hdb : (x == ("__debug__" : Str)) = false := by decide)
    (he : starEach [.Name y p1] X.env = (false, eval (.Name y p1) X.env) :: starEach [] X.env := by rfl) (hpl : (backTo pos (starEach [] X.env)).any (·.1) = false := by rfl) : DE X h (.Call (.Name x p) [.Name y p1] [] pos) (cSortOwn i (X.w.params.followText "set-order")) := ⟨fun δ Φ Ψ q => .mk fun B F G M σ H Q W tk S q0 x0 => by
  refine eS_of (pe_callB (cr_sortedSet hc) hg hm (by rw [hx]; decide +kernel) (pa_cons (pe_var hN hv h1 h2) pa_nil he) hn hdb he hpl) ?_
  obtain ⟨p, eo, q⟩ := optT_sat q
  obtain ⟨kk, q⟩ := T.sat_chk q
  simp only [Bool.and_eq_true, decide_eq_true_eq] at kk
  have hi := ownS_ok eo
  obtain ⟨a, u, e1, mq, nq, hq, ⟨w0, ew, eu, nd⟩, nb, nf⟩ := S.own i _ hi
  have ew' : w0.params.followText "set-order" = X.w.params.followText "set-order" := by rw [ew, kk.1]
  subst eu
  rw [setO_w ew'] at hq
  refine ⟨_, e1, a, _, _, rfl, hq, by omega, fun ns p' hs hmem hl hp => ?_⟩
  have en : ns = setI p.2 := ris_eq hs setI_ris fun k => by rw [hmem k, setI_mem, decide_eq_true_eq]
  subst en
  exact Ans.lst q0 S hp rp_ints q⟩
end
end Ud

set_option Elab.async false
set_option linter.all false
set_option maxRecDepth 100000
set_option maxHeartbeats 4000000
/-! Defs, calls, instances. -/
namespace Ud
open PySem PySem.Spec PyProof.Rows L2 Uc
/-! ### defs -/
def outT : Fl → T D
  | .rt d => .ret d
  | .nx _ => .ret .non
  | .ex _ C fs => .ex C fs
  | _ => .stuck
def fD (m n : Nat) (body : SF) (ds : List D) : T D := .chk (decide (ds.length = m)) ((body (startD n ds)).nox.bind outT)
def startH (n : Nat) (ds : List D) : List Sl := .hand :: (ds.map Sl.val ++ List.replicate (n - (ds.length + 1)) .no)
def fDH (m n : Nat) (body : SF) (ds : List D) : T D := .chk (decide (ds.length + 1 = m)) ((body (startH n ds)).nox.bind outT)
def spT (f : List D → T D) : PSp := fun _ ds Φ Ψ => (f ds).sat Φ Ψ
/-- the law's hand is as `_law_hand` makes it -/
def LawIs (h : Option Hd) : Prop := ∀ q, h = some q → q.law = true → ∃ p l cs, q = lawHd p l cs
def spTH (f : List D → T D) : PSp := fun h ds Φ Ψ => ∃ (q : Hd) (ds' : List D), h = some q ∧ q.law = true ∧ LawIs h ∧ ds = .at_ (.ref q.p) :: ds' ∧ (f ds').sat Φ Ψ
theorem out_sat {Φ : D → Prop} {Ψ : Str → List (Str × D) → Prop} {t : T Fl} (q : (t.nox.bind outT).sat Φ Ψ) : t.sat (Po.of { nx := fun _ => Φ .non, rt := Φ, ex := fun _ => Ψ }) noX :=
  T.sat_mono (fun fl z => by
    cases fl with
    | nx _ => exact z
    | rt _ => exact z
    | bk _ => exact z.elim
    | ct _ => exact z.elim
    | ex _ _ _ => exact z) (fun _ _ z => z) (T.sat_nox (T.sat_bind.mp q))
theorem okT {Pg : Program} {w : World} {K : PySem.W.Frag} {mg : Str → Option Value} {base : Heap} {x qual : Str} {params : Arguments} {body : List Stmt} {scope : Scope} {f : Addr} {fd : FuncData} {N ps : List Str} {k : Nat} {g : SF}
    {dvs0 : List V} {kws0 : List (Str × V)} (Fn : FunD K x qual params body scope dvs0 kws0 f fd) (Sc : FnScope N ps scope)
    (hb : ∀ (X : Cx) (h : Option Hd) (cdv : Value) (A : Around) (outer : List Env) (s : Shared) (H : Hp) (E : XK), Room k (A.deeper (envOfC qual scope s.heap.objs.size f cdv)) →
      X = cxOf (L2.CX Pg w) Pg w K mg base N qual scope f cdv A outer s H E → DB (cxOf (L2.CX Pg w) Pg w K mg base N qual scope f cdv A outer s H E) h body g) :
    FnOk Pg w K mg base (L2.CX Pg w) (k + 1) f fd ps (spD K (spT (fD ps.length N.length g))) :=
  okD Fn Sc (fun h ds Φ Ψ q => by simpa using (T.sat_chk q).1) fun X h ds Φ Ψ cdv A outer s H E hr q hX => (hb X h cdv A outer s H E hr hX).run _ _ (out_sat (T.sat_chk q).2)
theorem SD.toHand {K : PySem.W.Frag} {B : Addr → Prop} {F : Addr → HO → Prop} {G : V → D → Prop} {M : Addr → Prop} {H : Hp} {σ : L2.St} {δ : List Sl} {q : Hd} (ql : q.law = true) (S : SD K (some q) B F G M H σ δ) (i : Nat) (e : δ[i]? = some (.val (.at_ (.ref q.p)))) : SD K (some q) B F G M H σ (δ.set i .hand) := by
  obtain ⟨v, hv, r⟩ := S.val i _ e
  obtain rfl := r.at_inv
  have := S.setHd ql i
  have es : σ.set i (some (V.ref q.p)) = σ := by
    refine List.ext_getElem? fun j => ?_
    by_cases z : i = j
    · subst z
      rw [List.getElem?_set_self ((List.getElem?_eq_some_iff.mp hv).1), hv]
    · rw [List.getElem?_set_ne z]
  rw [es] at this
  exact this
theorem okTH {Pg : Program} {w : World} {K : PySem.W.Frag} {mg : Str → Option Value} {base : Heap} {x qual : Str} {params : Arguments} {body : List Stmt} {scope : Scope} {f : Addr} {fd : FuncData} {N ps : List Str} {k : Nat} {g : SF}
    {dvs0 : List V} {kws0 : List (Str × V)} (Fn : FunD K x qual params body scope dvs0 kws0 f fd) (Sc : FnScope N ps scope)
    (hb : ∀ (X : Cx) (h : Option Hd), LawIs h → ∀ (cdv : Value) (A : Around) (outer : List Env) (s : Shared) (H : Hp) (E : XK), Room k (A.deeper (envOfC qual scope s.heap.objs.size f cdv)) →
      X = cxOf (L2.CX Pg w) Pg w K mg base N qual scope f cdv A outer s H E → DB (cxOf (L2.CX Pg w) Pg w K mg base N qual scope f cdv A outer s H E) h body g) :
    FnOk Pg w K mg base (L2.CX Pg w) (k + 1) f fd ps (spD K (spTH (fDH ps.length N.length g))) :=
  okD Fn Sc (fun h ds Φ Ψ ⟨q, ds', _, _, _, e, z⟩ => by
    subst e
    simpa using (T.sat_chk z).1) fun X h ds Φ Ψ cdv A outer s H E hr ⟨q, ds', eh, ql, li, e, z⟩ hX => by
    subst e eh
    have wb := (hb X (some q) li cdv A outer s H E hr hX).run _ _ (out_sat (T.sat_chk z).2)
    refine .mk fun B F G M σ H D W tk S E => ?_
    have e0 : (startD N.length (.at_ (.ref q.p) :: ds'))[0]? = some (.val (.at_ (.ref q.p))) := rfl
    have S' := SD.toHand ql S 0 e0
    exact wb.run B F G M σ H D W tk S' E
/-! ### calls -/
/-- a def, as a call of it is walked -/
structure Ok (Pg : Program) (w : World) (K : PySem.W.Frag) (mg : Str → Option Value) (base : Heap) (x : Str) (k : Nat) (ps : List Str) (sp : Sp) : Prop where
  ex : ∃ (f : Addr) (fd : FuncData), mg x = some (.ref f) ∧ PySem.W.keepIn K (.ref f) = true ∧ L2.Binds K fd ps [] ∧ FnOk Pg w K mg base (L2.CX Pg w) k f fd ps sp
def noT : List D → T D := fun _ => .stuck
section
variable {X : Cx} {h : Option Hd} {a b c e o : Expr} {es : List Expr} {pos p apos : Pos} {st : Stmt} {rest body orelse : List Stmt} {f g fo : EF} {fa : AF} {t : BF} {sf sg sr : SF} {P : Po} {δ : List Sl}
theorem de_call {x : Str} {k : Nat} {ps : List Str} {g : List D → T D} (O : Ok X.prog X.w X.K X.mg X.base x k ps (spD X.K (spT g))) (hr : Room k X.A) (w : DA X h (e :: es) fa) (hg : Gl X x := by rfl) (hdb : (x == ("__debug__" : Str)) = false := by decide)
    (he : starEach (e :: es) X.env = (false, eval e X.env) :: starEach es X.env := by rfl) (hpl : (backTo pos (starEach es X.env)).any (·.1) = false := by rfl) : DE X h (.Call (.Name x p) (e :: es) [] pos) (cCall g fa) := ⟨fun δ Φ Ψ q => by
  obtain ⟨f, fd, hm, hk, hb, F⟩ := O.ex
  exact we_call none (.inr rfl) F hr hm hk hb (w.run δ _ Ψ (T.sat_bindM _ q fun ds q2 => q2)) hg hdb he hpl⟩
def isHd : Option Sl → Bool
  | some .hand => true
  | _ => false
theorem isHd_ok {o : Option Sl} (e : isHd o = true) : o = some .hand := by
  unfold isHd at e; split at e
  · rfl
  · cases e
theorem we_hand {x : Str} {q : Hd} {Φ : D → Prop} {Ψ : Str → List (Str × D) → Prop} (i : Nat) (hd : δ[i]? = some .hand) (k : Φ (.at_ (.ref q.p))) (hN : X.N[i]? = some x := by rfl)
    (hv : Vis X.env.scope x := by first | exact Or.inl rfl | exact Or.inr (Or.inl rfl) | exact Or.inr (Or.inr rfl)) (h1 : (x == ("__debug__" : Str)) = false := by decide) (h2 : (x == ("__classdict__" : Str)) = false := by decide) : WE X (some q) (.Name x pos) δ Φ Ψ := .mk fun B F G M σ H Q W tk S q' _ => by
  obtain ⟨q2, e2, _, e⟩ := S.hnd i hd
  cases e2
  exact eS_of (pe_var hN hv h1 h2) ⟨_, e, q' _ H _ (Gh.refl _ _) S (.at_ _) k⟩
/-- a call that is given the hand first -/
def cCallH (i : Nat) (g : List D → T D) (f : AF) : EF := fun δ => .chk (isHd δ[i]?) ((f δ).bind g)
theorem de_callH {x y : Str} {py : Pos} {k : Nat} {ps : List Str} {g : List D → T D} (i : Nat) (li : LawIs h) (O : Ok X.prog X.w X.K X.mg X.base x k ps (spD X.K (spTH g))) (hr : Room k X.A) (w : DA X h es fa) (hN : X.N[i]? = some y := by rfl)
    (hv : Vis X.env.scope y := by first | exact Or.inl rfl | exact Or.inr (Or.inl rfl) | exact Or.inr (Or.inr rfl)) (h1 : (y == ("__debug__" : Str)) = false := by decide) (h2 : (y == ("__classdict__" : Str)) = false := by decide) (hg : Gl X x := by rfl) (hdb : (x == ("__debug__" : Str)) = false := by decide)
    (he : starEach (.Name y py :: es) X.env = (false, eval (.Name y py) X.env) :: starEach es X.env := by rfl) (hpl : (backTo pos (starEach es X.env)).any (·.1) = false := by rfl) : DE X h (.Call (.Name x p) (.Name y py :: es) [] pos) (cCallH i g fa) := ⟨fun δ Φ Ψ q => by
  obtain ⟨k1, q⟩ := T.sat_chk q
  have hd := isHd_ok k1
  obtain ⟨f, fd, hm, hk, hb, Fn⟩ := O.ex
  refine .mk fun B F G M σ H Q W tk S q' x0 => ?_
  obtain ⟨hq, eh, ql, _⟩ := S.hnd i hd
  subst eh
  refine (we_call (X := X) (h := some hq) (Φ := Φ) (Ψ := Ψ) (some hq) (.inl ⟨rfl, fun q e => by cases e; exact ql⟩) Fn hr hm hk hb (wa_cons (we_hand i hd (w.run δ _ Ψ (T.sat_bindM _ q fun ds q2 => ⟨hq, ds, rfl, ql, li, rfl, q2⟩)) hN hv h1 h2) he) hg hdb he hpl).run B F G M σ H Q W tk S q' x0⟩
/-- the hand comes; the rest with it -/
def intsZ : List D → Option (List Int)
  | [] => some []
  | .int i :: r => (intsZ r).map (i :: ·)
  | _ :: _ => none
theorem intsZ_inv : ∀ {ds : List D} {is : List Int}, intsZ ds = some is → ds = is.map D.int
  | [], _, e => by cases e; rfl
  | d :: ds, is, e => by
    cases d with
    | int i =>
      obtain ⟨js, e1, rfl⟩ := Option.map_eq_some_iff.mp (show (intsZ ds).map (i :: ·) = some is from e)
      rw [intsZ_inv e1]; rfl
    | _ => cases e
theorem intsZ_map : ∀ {is : List Int}, intsZ (is.map D.int) = some is
  | [] => rfl
  | i :: is => by
    show (intsZ (is.map D.int)).map (i :: ·) = _
    rw [intsZ_map]; rfl
def zl : D → Option (List Int)
  | .zlst ds => intsZ ds
  | _ => none
def gHand (i : Nat) (f : EF) (r : SF) : SF := fun δ => (f δ).on δ fun d => match zl d with
  | some is => .chk (decide (is.length ≤ 90000)) ((r (δ.set i .hand)).bind fun
    | .rt d => .ret (.rt d)
    | _ => .stuck)
  | none => .stuck
theorem db_hand {x y : Str} {p' pos2 : Pos} {k : Nat} {ps : List Str} {fA : Addr} {fd : FuncData} {mk : Addr → Addr → List Int → Hd} (hmk : ∀ p l cs, (mk p l cs).p = p ∧ (mk p l cs).law = true) (i : Nat) (hN : X.N.Nodup) (Fn : FnOk X.prog X.w X.K X.mg X.base (L2.CX X.prog X.w) k fA fd ps (spHand X.K mk)) (hr : Room k X.A) (hm : X.mg x = some (.ref fA)) (hk : PySem.W.keepIn X.K (.ref fA) = true) (hb : Binds X.K fd ps [])
    (w : DE X none e f) (w2 : ∀ p l cs, DB X (some (mk p l cs)) rest sr)
    (hg : Gl X x := by rfl) (hdb : (x == ("__debug__" : Str)) = false := by decide) (he : starEach [e] X.env = [(false, eval e X.env)] := by rfl) (hpl : (backTo pos (starEach [] X.env)).any (·.1) = false := by rfl)
    (hi : X.N[i]? = some y := by rfl) (hx : Loc X.env.scope y := by first | exact Or.inl rfl | exact Or.inr rfl) (hs : swapsWith (.Call (.Name x p) [e] [] pos) (some (.Name y p')) pos2.line X.env = pure false := by rfl)
    (hf : X.fn y = true ∨ X.env.scope.names.lookup y = some .local := by first | exact .inl rfl | exact .inr rfl) : DB X none (.Assign [.Name y p'] (.Call (.Name x p) [e] [] pos) pos2 :: rest) (gHand i f sr) := ⟨fun δ P q =>
  wb_hand hmk i hN Fn hr hm hk hb (w.run δ _ _ (T.sat_onM _ q fun d q2 => by
    split at q2
    · rename_i is ez
      obtain ⟨kl, q3⟩ := T.sat_chk q2
      have ed : d = .zlst (is.map D.int) := by
        unfold zl at ez; split at ez
        · rw [intsZ_inv ez]
        · cases ez
      refine ⟨is, ed, by simpa using kl, fun p l cs => (w2 p l cs).run _ _ (T.sat_bindM _ q3 fun fl z => ?_)⟩
      cases fl with
      | rt d => exact z
      | nx _ => exact z.elim
      | bk _ => exact z.elim
      | ct _ => exact z.elim
      | ex _ _ _ => exact z.elim
    · exact q2.elim)) hg hdb he hpl hi hx hs hf⟩
/-! ### isinstance -/
def isiT (cs : List Str) (cl : List Kl) (d : D) : T D := match klOf d with
  | some t => .chk (t.in_ cs) (.ret (.bl (isiAny t cl)))
  | none => .stuck
def cIsi (cs : List Str) (cl : List Kl) (f : EF) : EF := fun δ => (f δ).bind (isiT cs cl)
theorem isiT_ok {cs : List Str} {cl : List Kl} {d : D} {Φ : D → Prop} {Ψ : Str → List (Str × D) → Prop} (q : (isiT cs cl d).sat Φ Ψ) : ∃ t, klOf d = some t ∧ t.in_ cs = true ∧ Φ (.bl (isiAny t cl)) := by
  unfold isiT at q
  split at q
  · rename_i t e
    exact ⟨t, e, (T.sat_chk q).1, (T.sat_chk q).2⟩
  · exact q.elim
/-- the names of classes, as arguments -/
inductive DKl (X : Cx) : List Expr → List Kl → Prop
  | nil : DKl X [] []
  | own {x : Str} {p : Pos} {es : List Expr} {cl : List Kl} (hm : X.mg x = some (.ref (He.ga X.K x))) (t : DKl X es cl) (hs : starEach (.Name x p :: es) X.env = (false, eval (.Name x p) X.env) :: starEach es X.env := by rfl) (hg : Gl X x := by rfl) (hd : (x == ("__debug__" : Str)) = false := by decide) : DKl X (.Name x p :: es) (.own x :: cl)
  | ty {x : Str} {p : Pos} {es : List Expr} {cl : List Kl} (n : String) (hm : X.mg x = none) (hv : bootBuiltins x = some (.type n)) (t : DKl X es cl) (hs : starEach (.Name x p :: es) X.env = (false, eval (.Name x p) X.env) :: starEach es X.env := by rfl) (hg : Gl X x := by rfl) (hn : x ≠ "__name__" := by decide) (hd : (x == ("__debug__" : Str)) = false := by decide) : DKl X (.Name x p :: es) (.ty n :: cl)
theorem DKl.wa {Ψ : Str → List (Str × D) → Prop} : ∀ {es : List Expr} {cl : List Kl} {Φ : List D → Prop}, DKl X es cl → Φ (cl.map Kl.d) → WA X h es δ Φ Ψ
  | _, _, _, .nil, k => wa_nil k
  | _, _, _, .own hm t hs hg hd, k => wa_cons ((de_cls (h := h) hm hg hd).run δ _ Ψ (DKl.wa t k)) hs
  | _, _, _, .ty n hm hv t hs hg hn hd, k => wa_cons ((de_ty (h := h) n hm hv hg hn hd).run δ _ Ψ (DKl.wa t k)) hs
theorem de_isi {cs : List Str} (kf : KitF X.K cs) (hcl : ∀ C ∈ cs, Cls X.K (He.ga X.K C)) {x : Str} {c : Kl} (hx : x = "isinstance") (hm : X.mg x = none) (w : DE X h e f) (k : DKl X [b] [c]) (hc : c.in_ cs = true) (hg : Gl X x := by rfl) (hn : x ≠ "__name__" := by decide) (hdb : (x == ("__debug__" : Str)) = false := by decide)
    (he : starEach [e, b] X.env = (false, eval e X.env) :: starEach [b] X.env := by rfl) (hpl : (backTo pos (starEach [b] X.env)).any (·.1) = false := by rfl) : DE X h (.Call (.Name x p) [e, b] [] pos) (cIsi cs [c] f) := ⟨fun δ Φ Ψ q =>
  we_isi kf hx hm (wa_cons (w.run δ _ Ψ (T.sat_bindM _ q fun d q2 => by
    obtain ⟨t, e1, e2, q3⟩ := isiT_ok q2
    refine k.wa ⟨d, t, c, rfl, e1, e2, hc, fun C z => hcl C (in_own e2 C z), ?_⟩
    have : isiAny t [c] = isi1 t c := by unfold isiAny; simp
    rw [← this]; exact q3)) he) hg hn hdb he hpl⟩
theorem de_isiT {cs : List Str} (kf : KitF X.K cs) (hcl : ∀ C ∈ cs, Cls X.K (He.ga X.K C)) {x : Str} {kt : Nat} {tpos : Pos} {cl : List Kl} (hx : x = "isinstance") (hm : X.mg x = none) (w : DE X h e f) (k : DKl X es cl) (hc : ∀ c ∈ cl, c.in_ cs = true) (hl : cl.length ≤ 1000) (hg : Gl X x := by rfl) (hn : x ≠ "__name__" := by decide) (hdb : (x == ("__debug__" : Str)) = false := by decide)
    (he : starEach [e, .Tuple es kt tpos] X.env = (false, eval e X.env) :: starEach [.Tuple es kt tpos] X.env := by rfl) (he2 : starEach [.Tuple es kt tpos] X.env = (false, eval (.Tuple es kt tpos) X.env) :: starEach [] X.env := by rfl) (hpl : (backTo pos (starEach [.Tuple es kt tpos] X.env)).any (·.1) = false := by rfl) :
    DE X h (.Call (.Name x p) [e, .Tuple es kt tpos] [] pos) (cIsi cs cl f) := ⟨fun δ Φ Ψ q =>
  we_isiT kf cl hc hx hm (w.run δ _ Ψ (T.sat_bindM _ q fun d q2 => by
    obtain ⟨t, e1, e2, q3⟩ := isiT_ok q2
    exact ⟨t, e1, e2, fun C z => hcl C (in_own e2 C z), k.wa ⟨rfl, hl, q3⟩⟩)) hg hn hdb he he2 hpl⟩
/-! ### chained comparisons -/
theorem we_chain {Φ : D → Prop} {Ψ : Str → List (Str × D) → Prop} {op op' : CmpOp} {r r' : R2} {S S' : D → D → (D → Prop) → Prop} (ho : OpR X (compareOp op) r) (ho' : OpR X (compareOp op') r') (hS : OpS X h r S) (hS' : OpS X h r' S')
    (w : WE X h a δ (fun x => WE X h b δ (fun y => S x y (fun d => ∃ k, d = .bl k ∧ if k = true then WE X h c δ (fun z => S' y z Φ) Ψ else Φ (.bl false))) Ψ) Ψ) (hm : lastMarks [op, op'] [b, c] = false) : WE X h (.Compare a [op, op'] [b, c] pos) δ Φ Ψ := .mk fun B F G M σ H Q W tk S0 q x =>
  eS_of (pe_chain ho ho' peS peS peS hm) (w.run B F G M σ H _ W tk S0 (fun v H1 d g1 S1 r1 w2 => w2.run B F G M σ H1 _ W tk S1 (fun u H2 d2 g2 S2 r2 k =>
    hS B F G M σ δ H2 v u d d2 _ _ S2 (r1.mono (g2.gr S1.hand)) r2 k (fun z H3 d3 g3 S3 r3 ⟨kk, e3, f3⟩ => by
      subst e3
      obtain rfl := r3.bl_inv
      refine ⟨kk, rfl, ?_⟩
      cases kk with
      | true =>
        simp only [if_true] at f3 ⊢
        exact f3.run B F G M σ H3 _ W tk S3 (fun y H4 d4 g4 S4 r4 k4 => hS' B F G M σ δ H4 u y d2 d4 Q Φ S4 ((r2.mono (g3.gr S2.hand)).mono (g4.gr S3.hand)) r4 k4 (Ans.on q (((g1.trans g2).trans g3).trans g4))) (Out.on x ((g1.trans g2).trans g3))
      | false =>
        simp only [Bool.false_eq_true, if_false] at f3 ⊢
        exact q _ H3 _ ((g1.trans g2).trans g3) S3 (.bl false) f3)) (Out.on x g1)) x)
def bB2 (v1 v2 : D → D → T Bool) (f g k : EF) : BF := fun δ => (f δ).bind fun x => (g δ).bind fun y => (v1 x y).bind fun b => .cond b ((k δ).bind fun z => v2 y z) (.ret false)
theorem de_chain {op op' : CmpOp} {r r' : R2} {S S' : D → D → (D → Prop) → Prop} {v v' : D → D → T Bool} {k : EF} (ho : OpR X (compareOp op) r) (ho' : OpR X (compareOp op') r') (hS : OpS X h r S) (hS' : OpS X h r' S') (hv : ∀ {x y Φ Ψ}, (v x y).sat (fun k => Φ (.bl k)) Ψ → S x y Φ) (hv' : ∀ {x y Φ Ψ}, (v' x y).sat (fun k => Φ (.bl k)) Ψ → S' x y Φ)
    (w : DE X h a f) (w2 : DE X h b g) (w3 : DE X h c k) (hm : lastMarks [op, op'] [b, c] = false) : DE X h (.Compare a [op, op'] [b, c] pos) (cB (bB2 v v' f g k)) := ⟨fun δ Φ Ψ q =>
  we_chain ho ho' hS hS' (hm := hm) (w.run δ _ Ψ (T.sat_bindM _ (T.sat_bind.mp q) fun x q2 => w2.run δ _ Ψ (T.sat_bindM _ q2 fun y q3 => hv (Ψ := Ψ) (T.sat_mono (fun b z => ⟨b, rfl, by
    cases b with
    | true =>
      simp only [if_true]
      exact w3.run δ _ Ψ (T.sat_bindM _ z fun zz q4 => hv' q4)
    | false => exact z⟩) (fun _ _ z => z) (T.sat_bind.mp q3)))))⟩
theorem de_lele {k : EF} (w : DE X h a f) (w2 : DE X h b g) (w3 : DE X h c k) (hm : lastMarks [.LtE, .LtE] [b, c] = false := by rfl) : DE X h (.Compare a [.LtE, .LtE] [b, c] pos) (cB (bB2 vLe vLe f g k)) := de_chain op_le op_le opS_B0 opS_B0 vLe_ok vLe_ok w w2 w3 hm
theorem cB_bl {t : BF} (w : DE X h e (cB t)) (he : ∀ whole, isTrue e X.env whole = (do let v ← whole; standAt e.pos; holding [v] (truthy v)) := by intro _; rfl) : DT X h e (bV (cB t)) := dt_val w he
/-! ### fields -/
def fldT (cs : List Str) (n : Str) : D → T D
  | .ins C fs => .chk (cs.contains C) (match fs.lookup n with
    | some d => .ret d
    | none => .stuck)
  | _ => .stuck
def cFld (cs : List Str) (n : Str) (f : EF) : EF := fun δ => (f δ).bind (fldT cs n)
structure FldF (K : PySem.W.Frag) (cs : List Str) (n : Str) : Prop where
  cl : ∀ C ∈ cs, Cls K (He.ga K C)
  no : ∀ C ∈ cs, NoAttr K (He.ga K C) n
theorem we_fld {Φ : D → Prop} {Ψ : Str → List (Str × D) → Prop} {n : Str} (w : WE X h e δ (fun d => ∃ C fs dv, d = .ins C fs ∧ Cls X.K (He.ga X.K C) ∧ NoAttr X.K (He.ga X.K C) n ∧ fs.lookup n = some dv ∧ Φ dv) Ψ) (hb : attributeBase e n X.env (eval e X.env) = eval e X.env := by rfl) : WE X h (.Attribute e n pos) δ Φ Ψ := .mk fun B F G M σ H Q W tk S q x =>
  eS_of (pe_fld peS hb) (w.run B F G M σ H _ W tk S (fun v H1 d g1 S1 r1 ⟨C, fs, dv, e1, hc, hf, hl, k⟩ => by
    subst e1
    obtain ⟨a, dx, fv, rfl, na, ha, rf⟩ := r1.ins_inv
    obtain ⟨u, hu, ru⟩ := rf.look hl
    exact ⟨a, _, dx, fv, u, rfl, ha, hc, hf, hu, Ans.now (Ans.on q g1) S1 ru k⟩) x)
theorem de_fld {n : Str} {cs : List Str} (ff : FldF X.K cs n) (w : DE X h e f) (hb : attributeBase e n X.env (eval e X.env) = eval e X.env := by rfl) : DE X h (.Attribute e n pos) (cFld cs n f) := ⟨fun δ Φ Ψ q => we_fld (w.run δ _ Ψ (T.sat_bindM _ q fun d q2 => by
  unfold fldT at q2
  split at q2
  · rename_i C fs
    obtain ⟨k, q2⟩ := T.sat_chk q2
    have hC : C ∈ cs := by simpa using k
    split at q2
    · rename_i dv e
      exact ⟨C, fs, dv, rfl, ff.cl C hC, ff.no C hC, e, q2⟩
    · exact q2.elim
  · exact q2.elim)) hb⟩
/-! ### the instance that is being made -/
def slfI : Option Sl → Option (Str × List (Str × D))
  | some (.self C fs) => some (C, fs)
  | _ => none
theorem slfI_ok {o : Option Sl} {C : Str} {fs : List (Str × D)} (e : slfI o = some (C, fs)) : o = some (.self C fs) := by
  unfold slfI at e; split at e
  · cases e; rfl
  · cases e
/-- x.n, x the instance that is being made -/
def cFldS (i : Nat) (cs : List Str) (n : Str) : EF := fun δ => match slfI δ[i]? with
  | some (C, fs) => fldT cs n (.ins C fs)
  | none => .stuck
theorem de_fldS {x n : Str} {px : Pos} {cs : List Str} (i : Nat) (ff : FldF X.K cs n) (hN : X.N[i]? = some x := by rfl) (hv : Vis X.env.scope x := by first | exact Or.inl rfl | exact Or.inr (Or.inl rfl) | exact Or.inr (Or.inr rfl)) (h1 : (x == ("__debug__" : Str)) = false := by decide) (h2 : (x == ("__classdict__" : Str)) = false := by decide)
    (hb : attributeBase (.Name x px) n X.env (eval (.Name x px) X.env) = eval (.Name x px) X.env := by rfl) : DE X h (.Attribute (.Name x px) n pos) (cFldS i cs n) := ⟨fun δ Φ Ψ q => .mk fun B F G M σ H Q W tk S q' x0 => by
  unfold cFldS at q
  split at q
  · rename_i C fs eo
    obtain ⟨hq, _, _, e1, dx, fv, hp, rf⟩ := S.slf i _ _ (slfI_ok eo)
    obtain ⟨k, q⟩ := T.sat_chk (show (T.chk (cs.contains C) (match fs.lookup n with | some d => .ret d | none => .stuck)).sat Φ Ψ from q)
    have hC : C ∈ cs := by simpa using k
    split at q
    · rename_i dv el
      obtain ⟨w, hw, rw'⟩ := rf.look el
      exact eS_of (pe_fld (pe_var hN hv h1 h2) hb) ⟨_, e1, hq.p, _, dx, fv, w, rfl, hp, ff.cl C hC, ff.no C hC, hw, Ans.now q' S rw' q⟩
    · exact q.elim
  · exact q.elim⟩
def putD (n : Str) (d : D) : List (Str × D) → List (Str × D)
  | [] => [(n, d)]
  | (m, e) :: r => if m = n then (m, d) :: r else (m, e) :: putD n d r
theorem rpF_put {K : PySem.W.Frag} {M : Addr → Prop} {H : Hp} {n : Str} {v : V} {d : D} (r : Rp K M H v d) : ∀ {fv : List (Str × V)} {fs : List (Str × D)}, RpF K M H fv fs → RpF K M H (putF n v fv) (putD n d fs)
  | _, _, .nil => .cons r .nil
  | _, _, .cons (f := m) (vs := fv) (ds := fs) h t => by
    unfold putF putD
    by_cases e : m = n
    · rw [if_pos e, if_pos e]; exact .cons r t
    · rw [if_neg e, if_neg e]; exact .cons h (rpF_put r t)
theorem rpF_len {K : PySem.W.Frag} {M : Addr → Prop} {H : Hp} : ∀ {fv : List (Str × V)} {fs : List (Str × D)}, RpF K M H fv fs → fv.length = fs.length
  | _, _, .nil => rfl
  | _, _, .cons _ t => congrArg (· + 1) (rpF_len t)
/-- the law's hand is no instance that is being made -/
def selfHd (K : PySem.W.Frag) (a : Addr) (C : Str) : Hd where
  p := a
  law := false
  I := fun o => ∃ dx fv, o = .ins (He.ga K C) dx fv
  J := fun _ _ => False
theorem SD.setSelf {K : PySem.W.Frag} {B : Addr → Prop} {F : Addr → HO → Prop} {G : V → D → Prop} {M : Addr → Prop} {H : Hp} {σ : L2.St} {δ : List Sl} {q : Hd} {i : Nat} {C : Str} {fs fs2 : List (Str × D)} {dx : Addr} {fv2 : List (Str × V)} (S : SD K (some q) B F G M H σ δ) (hi : δ[i]? = some (.self C fs)) (one : ∀ j C' fs', j ≠ i → δ[j]? ≠ some (.self C' fs'))
    (hI : q.I (.ins (He.ga K C) dx fv2)) (hJ : ∀ b o, ¬ q.J b o) (r : RpF K M H fv2 fs2) : SD K (some q) B F G M (upd H q.p (.ins (He.ga K C) dx fv2)) σ (δ.set i (.self C fs2)) := by
  obtain ⟨hq, eh, ql, e1, _⟩ := S.slf i C fs hi
  cases eh
  have mq : M q.p := (S.hand q rfl).1
  have gr : Gr M H (upd H q.p (.ins (He.ga K C) dx fv2)) := fun b o n e => by rw [upd_ne (fun z => n (by rw [z]; exact mq))]; exact e
  refine ⟨by rw [List.length_set]; exact S.len, fun j d e => ?_, fun j o e => ?_, fun j e => ?_, fun j C' fs' e => ?_, fun j l d1 d2 p ne e1 e2 => ?_, fun z e => ?_, fun a z => ?_, fun b o z => ?_, S.fh, fun v d z => (S.gk v d z).mono gr, S.mb⟩
  · rcases slot_set e with ⟨rfl, q1, hl⟩ | ⟨ne, q1⟩
    · cases q1
    · obtain ⟨u, e2, r2⟩ := S.val j d q1
      exact ⟨u, e2, r2.mono gr⟩
  · rcases slot_set e with ⟨rfl, q1, hl⟩ | ⟨ne, q1⟩
    · cases q1
    · obtain ⟨p', xs', e2, m, nh, hp', r', z⟩ := S.own j o q1
      exact ⟨p', xs', e2, m, nh, by rw [upd_ne (nh q rfl)]; exact hp', r'.mono gr, z⟩
  · rcases slot_set e with ⟨rfl, q1, hl⟩ | ⟨ne, q1⟩
    · cases q1
    · exact S.hnd j q1
  · rcases slot_set e with ⟨rfl, q1, hl⟩ | ⟨ne, q1⟩
    · cases q1
      exact ⟨q, rfl, ql, e1, dx, fv2, upd_same, r.mono gr⟩
    · exact absurd q1 (one j C' fs' ne)
  · rcases slot_set e1 with ⟨rfl, q1, _⟩ | ⟨n1, q1⟩
    · cases q1
    · rcases slot_set e2 with ⟨rfl, q2, _⟩ | ⟨n2, q2⟩
      · cases q2
      · exact S.dis j l d1 d2 p ne q1 q2
  · cases e
    exact ⟨mq, ⟨_, upd_same, hI⟩, fun l o z => absurd z (hJ l o)⟩
  · by_cases y : a = q.p
    · exact ⟨_, by rw [y]; exact upd_same⟩
    · obtain ⟨o, e⟩ := S.live a z
      exact ⟨o, by rw [upd_ne y]; exact e⟩
  · rw [upd_ne (S.fh b o z q rfl)]
    exact S.fk b o z
/-- only one slot is the instance -/
def loneS (i : Nat) (δ : List Sl) : Bool := (List.range δ.length).all fun j => j == i || (slfI δ[j]?).isNone
theorem loneS_ok {i : Nat} {δ : List Sl} (e : loneS i δ = true) : ∀ j C' fs', j ≠ i → δ[j]? ≠ some (.self C' fs') := fun j C' fs' ne z => by
  have hj : j < δ.length := (List.getElem?_eq_some_iff.mp z).1
  have := List.all_eq_true.mp e j (List.mem_range.mpr hj)
  rw [z] at this
  rcases Bool.or_eq_true_iff.mp this with y | y
  · exact ne (by simpa using y)
  · cases y
/-- x.n = e, x the instance that is being made -/
def gAttr (i : Nat) (cs : List Str) (n : Str) (f : EF) : SF := fun δ => (f δ).on δ fun d => match slfI δ[i]? with
  | some (C, fs) => .chk (cs.contains C && (decide (fs.length < 1000) && loneS i δ)) (.ret (.nx (δ.set i (.self C (putD n d fs)))))
  | none => .stuck
/-- h is the instance of this class that is being made -/
def SelfOk (K : PySem.W.Frag) (h : Option Hd) : Prop := ∀ q, h = some q → q.law = false → ∃ C, q = selfHd K q.p C
theorem ds_attr {x n : Str} {px pa : Pos} {cs : List Str} (so : SelfOk X.K h) (i : Nat) (ff : FldF X.K cs n) (w : DE X h e f) (hN : X.N[i]? = some x := by rfl) (hv : Vis X.env.scope x := by first | exact Or.inl rfl | exact Or.inr (Or.inl rfl) | exact Or.inr (Or.inr rfl)) (h1 : (x == ("__debug__" : Str)) = false := by decide) (h2 : (x == ("__classdict__" : Str)) = false := by decide)
    (hs : swapsWith e (some (.Attribute (.Name x px) n pa)) pos.line X.env = pure false := by rfl) : DS X h (.Assign [.Attribute (.Name x px) n pa] e pos) (gAttr i cs n f) := ⟨fun δ P q => .mk fun B F G M σ H D W tk S E => by
  refine sS_of (ps_fld (pe_var hN hv h1 h2) peS hs) ?_
  refine (w.run δ _ _ (T.sat_on.mp q)).run B F G M σ H _ W tk S (fun v H1 d g1 S1 r1 k => ?_) (out_of E)
  split at k
  · rename_i C fs eo
    obtain ⟨kk, k⟩ := T.sat_chk k
    simp only [Bool.and_eq_true, decide_eq_true_eq] at kk
    have hC : C ∈ cs := by simpa using kk.1
    obtain ⟨hq, eh, ql, e1, dx, fv, hp, rf⟩ := S1.slf i _ _ (slfI_ok eo)
    obtain ⟨C', eq⟩ := so hq eh ql
    refine ⟨_, e1, hq.p, _, dx, fv, rfl, hp, ff.cl C hC, ff.no C hC, by rw [rpF_len rf]; exact kk.2.1, ?_⟩
    subst eh
    have hI : hq.I (.ins (He.ga X.K C) dx (putF n v fv)) := by
      obtain ⟨_, ⟨o, ho, io⟩, _⟩ := S1.hand hq rfl
      rw [hp] at ho
      cases ho
      rw [eq] at io ⊢
      obtain ⟨dx', fv', z⟩ := io
      injection z with z1 z2 z3
      exact ⟨dx, _, by rw [z1]⟩
    exact E.nx M σ _ _ (S1.setSelf (slfI_ok eo) (loneS_ok kk.2.2) hI (fun b o z => by rw [eq] at z; exact z) (rpF_put r1 rf)) k
  · exact k.elim⟩
/-! ### instances made -/
/-- what an own __init__ promises: the fields of the new instance -/
def spMk (K : PySem.W.Frag) (C : Str) (f : List D → T (List (Str × D))) : Sp := fun vs H Q E => ∃ (B : Addr → Prop) (a dx : Addr) (ws : List V) (ds : List D) (Φ : List (Str × D) → Prop) (Ψ : Str → List (Str × D) → Prop), vs = .ref a :: ws ∧
  RpA K (fun b => B b ∨ b = a) H ws ds ∧ Live B H ∧ ¬ B a ∧ H a = some (.ins (He.ga K C) dx []) ∧ (f ds).sat Φ Ψ ∧
  (∀ H' dx' fv fs, (∀ b o, b ≠ a → H b = some o → H' b = some o) → H' a = some (.ins (He.ga K C) dx' fv) → RpF K B H' fv fs → Φ fs → Q .non H') ∧
  (∀ C' od H' fs, (∀ b o, b ≠ a → H b = some o → H' b = some o) → ExcD K B H' fs od → Ψ C' fs → E (.ref (He.ga K C')) od H')
def outI (C : Str) : Fl → T (List (Str × D))
  | .nx δ => match slfI δ[0]? with
    | some (C', fs) => .chk (decide (C' = C)) (.ret fs)
    | none => .stuck
  | .ex _ C fs => .ex C fs
  | _ => .stuck
def startI (n : Nat) (C : Str) (ds : List D) : List Sl := .self C [] :: (ds.map Sl.val ++ List.replicate (n - (ds.length + 1)) .no)
def fI (m n : Nat) (C : Str) (body : SF) (ds : List D) : T (List (Str × D)) := .chk (decide (ds.length + 1 = m)) ((body (startI n C ds)).nox.bind (outI C))
theorem startI_val {n : Nat} {C : Str} {ds : List D} {i : Nat} {s : Sl} (e : (startI n C ds)[i]? = some s) : (i = 0 ∧ s = .self C []) ∨ (∃ j d, i = j + 1 ∧ ds[j]? = some d ∧ s = .val d) ∨ s = .no := by
  cases i with
  | zero => exact .inl ⟨rfl, (Option.some.inj e).symm⟩
  | succ j =>
    have e' : (ds.map Sl.val ++ List.replicate (n - (ds.length + 1)) .no)[j]? = some s := e
    rw [List.getElem?_append] at e'
    split at e'
    · rw [List.getElem?_map] at e'
      cases q : ds[j]? with
      | none => rw [q] at e'; cases e'
      | some d => rw [q] at e'; exact .inr (.inl ⟨j, d, rfl, q, (Option.some.inj e').symm⟩)
    · rw [List.getElem?_replicate] at e'
      split at e'
      · exact .inr (.inr (Option.some.inj e').symm)
      · cases e'
end
theorem okI {Pg : Program} {w : World} {K : PySem.W.Frag} {mg : Str → Option Value} {base : Heap} {x qual : Str} {params : Arguments} {body : List Stmt} {scope : Scope} {f : Addr} {fd : FuncData} {N ps : List Str} {k : Nat} {g : SF} (C : Str)
    {dvs0 : List V} {kws0 : List (Str × V)} (Fn : FunD K x qual params body scope dvs0 kws0 f fd) (Sc : FnScope N ps scope)
    (hb : ∀ (X : Cx) (h : Option Hd) (cdv : Value) (A : Around) (outer : List Env) (s : Shared) (H : Hp) (E : XK), SelfOk K h → Room k (A.deeper (envOfC qual scope s.heap.objs.size f cdv)) →
      X = cxOf (L2.CX Pg w) Pg w K mg base N qual scope f cdv A outer s H E → DB (cxOf (L2.CX Pg w) Pg w K mg base N qual scope f cdv A outer s H E) h body g) :
    FnOk Pg w K mg base (L2.CX Pg w) (k + 1) f fd ps (spMk K C (fI ps.length N.length C g)) := by
  refine Fn.ok Sc (fun vs H Q E hp => ?_) (fun cdv A outer s H vs Q E hr hp => ⟨bS _ _, pbS, ?_⟩)
  · obtain ⟨B, a, dx, ws, ds, Φ, Ψ, rfl, r, _, _, _, q, _⟩ := hp
    have := (T.sat_chk q).1
    rw [List.length_cons, r.length]
    simpa using this
  · obtain ⟨B, a, dx, ws, ds, Φ, Ψ, rfl, r, live, nb, ha, q, fin, exf⟩ := hp
    have q2 := (T.sat_chk q).2
    have so : SelfOk K (some (selfHd K a C)) := fun z e _ => by cases e; exact ⟨C, rfl⟩
    have sat : (g (startI N.length C ds)).sat (Po.of { nx := fun δ => (outI C (.nx δ)).sat Φ Ψ, rt := fun _ => False, ex := fun _ => Ψ }) noX := T.sat_mono (fun fl z => by
      cases fl with
      | nx _ => exact z
      | rt _ => exact z.elim
      | bk _ => exact z.elim
      | ct _ => exact z.elim
      | ex _ _ _ => exact z) (fun _ _ z => z) (T.sat_nox (T.sat_bind.mp q2))
    refine ((hb _ (some (selfHd K a C)) cdv A outer s H E so hr rfl).run _ _ sat).run B (fun b o => b ≠ a ∧ H b = some o) (fun _ _ => False) (fun b => B b ∨ b = a) _ H _ (fun cls d _ H' => E cls d H') (takes_of rfl rfl rfl rfl) ?_ ?_
    · have hl := r.length
      refine ⟨?_, fun i d e => ?_, fun i o e => ?_, fun i e => ?_, fun i C' fs e => ?_, fun i j d1 d2 p ne e1 => ?_, fun z e => ?_, fun b z => ?_, fun b o z => z.2, fun b o z q e => by cases e; exact z.1, fun _ _ z => z.elim, fun b z => .inl z⟩
      · unfold L2.start startI
        simp only [List.length_append, List.length_map, List.length_replicate, List.length_cons, hl]
        omega
      · rcases startI_val e with ⟨rfl, e1⟩ | ⟨j, d', rfl, e1, e2⟩ | e2
        · cases e1
        · cases e2
          obtain ⟨v, hv, rv⟩ := r.get e1
          refine ⟨v, ?_, rv⟩
          unfold L2.start
          have hj : j < ws.length := (List.getElem?_eq_some_iff.mp hv).1
          rw [List.getElem?_append, if_pos (by rw [List.length_map, List.length_cons]; omega), List.getElem?_map, List.getElem?_cons_succ, hv]
          rfl
        · cases e2
      · rcases startI_val e with ⟨_, e1⟩ | ⟨j, d', _, _, e2⟩ | e2
        · cases e1
        · cases e2
        · cases e2
      · rcases startI_val e with ⟨_, e1⟩ | ⟨j, d', _, _, e2⟩ | e2
        · cases e1
        · cases e2
        · cases e2
      · rcases startI_val e with ⟨rfl, e1⟩ | ⟨j, d', _, _, e2⟩ | e2
        · cases e1
          exact ⟨_, rfl, rfl, rfl, dx, [], ha, .nil⟩
        · cases e2
        · cases e2
      · rcases startI_val e1 with ⟨_, e1⟩ | ⟨j, d', _, _, e2⟩ | e2
        · cases e1
        · cases e2
        · cases e2
      · cases e
        exact ⟨.inr rfl, ⟨_, ha, dx, [], rfl⟩, fun _ _ z => z.elim⟩
      · rcases z with z | z
        · exact live b z
        · exact ⟨_, by rw [z]; exact ha⟩
    · refine ⟨fun M σ H' δ S' k => ?_, fun M σ H' δ v d S' r' k => k.elim, fun M σ H' δ S' k => False.elim k, fun M σ H' δ S' k => False.elim k, fun M σ H' δ C' od fs S' ed k => ?_⟩
      · have k' : (match slfI δ[0]? with
          | some (C', fs) => T.chk (decide (C' = C)) (T.ret fs)
          | none => T.stuck).sat Φ Ψ := k
        split at k'
        · rename_i C' fs eo
          obtain ⟨ec0, k2⟩ := T.sat_chk k'
          have ec : C' = C := by simpa using ec0
          subst ec
          obtain ⟨z, ez, _, _, dx', fv, hp, rf⟩ := S'.slf 0 _ _ (slfI_ok eo)
          cases ez
          exact fin H' dx' fv fs (fun b o n e => S'.fk b o ⟨n, e⟩) hp (rf.wid S'.mb) k2
        · exact k'.elim
      · refine exf C' od H' fs (fun b o n e => S'.fk b o ⟨n, e⟩) ?_ k
        cases od with
        | none => exact ed
        | some d =>
          obtain ⟨n, fv, e, rf⟩ := ed
          exact ⟨fun z => n (S'.mb _ z), fv, e, rf.wid S'.mb⟩
/-- a class: calls of it make instances -/
structure OkC (Pg : Program) (w : World) (K : PySem.W.Frag) (mg : Str → Option Value) (base : Heap) (C : Str) (k : Nat) (ps : List Str) (f : List D → T (List (Str × D))) : Prop where
  ex : ∃ (fI : Addr) (fd : FuncData), mg C = some (.ref (He.ga K C)) ∧ Mk K (He.ga K C) fI ∧ L2.Binds K fd ps [] ∧ FnOk Pg w K mg base (L2.CX Pg w) k fI fd ps (spMk K C f)
def insT (C : Str) (f : List D → T (List (Str × D))) (ds : List D) : T D := (f ds).nox.bind fun fs => .ret (.ins C fs)
theorem de_new {X : Cx} {h : Option Hd} {e : Expr} {es : List Expr} {p pos : Pos} {fa : AF} {C : Str} {k : Nat} {ps : List Str} {f : List D → T (List (Str × D))} (O : OkC X.prog X.w X.K X.mg X.base C k ps f) (hr : Room (k + 1) X.A) (w : DA X h (e :: es) fa) (hg : Gl X C := by rfl) (hdb : (C == ("__debug__" : Str)) = false := by decide)
    (he : starEach (e :: es) X.env = (false, eval e X.env) :: starEach es X.env := by rfl) (hpl : (backTo pos (starEach es X.env)).any (·.1) = false := by rfl) : DE X h (.Call (.Name C p) (e :: es) [] pos) (cCall (insT C f) fa) := ⟨fun δ Φ Ψ q => .mk fun B F0 G M σ H Q W tk S0 q' x0 => by
  obtain ⟨fI, fd, hm, Mk0, hb, F⟩ := O.ex
  refine eS_of (pe_make (E := E0) Mk0 F hr hg hm hb .nil passL paS hdb he hpl) ((w.run δ _ Ψ (T.sat_bind.mp q)).run B F0 G M σ H _ W tk S0 (fun vs H1 ds g1 S1 r1 kk => ?_) x0)
  intro x dx hx hdx ne
  have kk1 := T.sat_nox (T.sat_bind.mp kk)
  rw [List.append_nil]
  have n1 : ∀ b o, H1 b = some o → (upd (upd H1 dx (.own x)) x (.ins (He.ga X.K C) dx [])) b = some o := fun b o z => by rw [upd_ne (ne_of_none z hx), upd_ne (ne_of_none z hdx)]; exact z
  have rx : RpA X.K (fun b => M b ∨ b = x) (upd (upd H1 dx (.own x)) x (.ins (He.ga X.K C) dx [])) vs ds := (r1.nar (M' := fun b => M b ∨ b = x) fun a z => z.elim .inl fun y => .inr (by rw [y]; exact hx)).mono fun b o _ z => n1 b o z
  refine ⟨M, x, dx, vs, ds, _, noX, rfl, rx, fun a z => let ⟨o, e⟩ := S1.live a z; ⟨o, n1 a o e⟩, S1.live.new hx, upd_same, kk1, fun H' dx' fv fs kp hx' rf kf => ?_, fun _ _ _ _ _ _ z => z.elim⟩
  have all : ∀ b o, H1 b = some o → H' b = some o := fun b o z => kp b o (ne_of_none z hx) (n1 b o z)
  exact ⟨rfl, q' _ H' _ (g1.trans (Gh.all all)) (S1.all all) (.ins (S1.live.new hx) hx' rf) kf⟩⟩
end Ud

set_option Elab.async false
set_option linter.all false
set_option maxRecDepth 100000
set_option maxHeartbeats 4000000
/-! Methods, == and != of own instances. -/
namespace Ud
open PySem PySem.Spec PyProof.Rows L2 Uc
section
variable {prog : Program} {w : World} {A : Around} {E : Value → Shared → Prop} {s : Shared} {K : PySem.W.Frag} {x C f : Addr} {ox : Obj} {od : Option Obj} {b tb : Value}
/-- object.__ne__ asks the own __eq__ -/
theorem ne_call (X : K.In s.heap) (I : PySem.W.InstAt s.heap x ox C od) (hu : A.in1.units < cLine) (he : PySem.W.findIn K (.ref C) "__eq__" = some (some (.ref f))) (hf : PySem.W.isFn K (.ref f) = true) (ho : PySem.W.mroIn K C (.type "object") = some true) {Q : Value → Shared → Prop}
    (hcall : wpAny (model prog w) A.in1 (call (.ref f) [.ref x, b]) (fun v s' => ∃ k, v = .bool k ∧ Q (.bool (!k)) s') E s) : wpAny (model prog w) A (call (.builtin "object.__ne__") [.ref x, b]) Q E s := by
  refine wpAny_call (codeAny_call_builtin PySem.F.cmp_object.ne.plain PySem.F.cmpEntry_ne ?_)
  simp only [checkBuiltinCall, PySem.F.cmpKind_ne, PySem.F.cmpSplit_ne]
  refine wpAny_bind ?_
  unfold isInstance
  refine wpAny_bind (I.type.here ((PySem.W.looks_mroIn X ho).here ?_))
  rw [if_neg (by simp)]
  have body : wpAny (model prog w) A.in1 (Builtin.«object.__ne__» ⟨[.ref x, b], []⟩) (fun fin s' => ∃ v, fin = .done (.ret v) ∧ Q v s') E s := by
    unfold Builtin.«object.__ne__»
    repeat (first
      | with_reducible refine wpAny_cRoomFor hu ?_
      | (refine wpAny_bind (m := callSpecialIfBound? (.ref x) (Str.ofString "__eq__") [b]) (PySem.W.ifBound_K X I he hf (wpAny_mono hcall (fun r s' hr => by
          obtain ⟨k, rfl, hq⟩ := hr
          repeat (first | exact ⟨_, rfl, hq⟩ | exact wpAny_pure ⟨_, rfl, hq⟩ | exact wpAny_truthy_bool ⟨_, rfl, hq⟩ | (refine wpAny_bind (m := truthy (.bool _)) (wpAny_truthy_bool ?_)) | wp_step)) fun _ _ e => e)))
      | wp_step)
  have body' : wpAny (model prog w) A.in1 (Builtin.«object.__ne__» ⟨[.ref x, b], []⟩) (fun fin s' => match fin with
      | .done f => match (Except.ok f : Except Value Flow) with
        | .ok (.ret v) => Q v s'
        | .ok _ => False
        | .error e => E e s'
      | .again c' => c'.quiet = true ∧ codeAny (model prog w) A c' (fun r s' => match r with
        | .ok (.ret v) => Q v s'
        | .ok _ => False
        | .error e => E e s') s') E s := wpAny_mono body (fun fin s' ⟨v, e, q⟩ => by subst e; exact q) fun _ _ e => e
  have ha := PySem.F.cmpArgs_ne (.ref x) b
  cases hsig : Manifest.signature? "object.__ne__" with
  | none => exact wpAny_pure body'
  | some sig =>
    simp only [argsOk, hsig] at ha
    have h2 : Bind.checkArgs "object.__ne__" sig ⟨[.ref x, b], []⟩ = pure () := ha
    show wpAny _ A.in1 (Bind.checkArgs "object.__ne__" sig ⟨[.ref x, b], []⟩) _ _ _
    rw [h2]
    exact wpAny_pure body'
/-- x != b, x an own instance with an own __eq__ and no __ne__ -/
theorem ne_K (X : K.In s.heap) (hu : A.units + 2 < cLine) (I : PySem.W.InstAt s.heap x ox C od) (hb : PySem.W.Looks (model prog w) s.heap (typeOf b) tb) (hn : PySem.W.notFirst K C tb = true) (hne : PySem.W.findIn K (.ref C) "__ne__" = some (some (.builtin "object.__ne__")))
    (he : PySem.W.findIn K (.ref C) "__eq__" = some (some (.ref f))) (hf : PySem.W.isFn K (.ref f) = true) (ho : PySem.W.mroIn K C (.type "object") = some true) {Q : Value → Shared → Prop}
    (hcall : wpAny (model prog w) A.in1 (call (.ref f) [.ref x, b]) (fun v s' => ∃ k, v = .bool k ∧ Q (.bool (!k)) s') E s) : wpAny (model prog w) A (richCompare .NotEq (.ref x) b) Q E s := by
  have u1 : A.in1.units < cLine := by show A.units + 1 < cLine; omega
  have one : wpAny (model prog w) A (tryCompare (.ref x) "__ne__" b) (fun r s' => ∃ v, r = some v ∧ Q v s') E s := by
    unfold tryCompare
    refine wpAny_bind ?_
    simp only [callSpecialIfBound?, bindSpecialIfBound?]
    refine wpAny_holding (wpAny_bind (wpAny_bind (wpAny_bind (I.type.here ((PySem.W.looks_findIn X hne).here ?_)))))
    refine wpAny_bind (wpAny_askSetting (wpAny_ite ?_))
    have fin : ∀ R : Option Value → Shared → Prop, (∀ k s', Q (.bool (!k)) s' → R (some (.bool (!k))) s') → wpAny (model prog w) A (call (.builtin "object.__ne__") ([.ref x] ++ [b]) >>= fun v => pure (some v)) R E s := fun R hR =>
      wpAny_bind (wpAny_mono (ne_call X I u1 he hf ho (Q := fun v s' => R (some v) s') (wpAny_mono hcall (fun v s' ⟨k, e, q⟩ => ⟨k, e, hR k s' q⟩) fun _ _ e => e)) (fun v s' z => wpAny_pure z) fun _ _ e => e)
    simp only [PySem.F.cmp_object.ne.bind]
    split
    · exact wpAny_bind (wpAny_pure (wpAny_pure (by exact fin _ fun k s' q => wpAny_pure ⟨_, rfl, q⟩)))
    · exact wpAny_tryCatch (wpAny_bind (wpAny_pure (wpAny_pure (by exact fin _ fun k s' q => wpAny_pure ⟨_, rfl, q⟩))))
  unfold richCompare
  simp only [oneThing_ref]
  refine wpAny_holding (wpAny_bind (wpAny_cRoomFor (by omega) ?_))
  refine wpAny_bind (I.type.here (wpAny_bind (hb.here ?_)))
  split
  · rename_i q
    have e : PySem.W.subIn K tb (.ref C) = some false := by
      rcases Bool.or_eq_true_iff.mp hn with e | e
      · rw [beq_iff_eq.mp e] at q; simp at q
      · exact beq_iff_eq.mp e
    refine wpAny_bind ((PySem.W.looks_subIn X e).here ?_)
    simp only [Bool.false_eq_true, if_false]
    refine wpAny_bind (wpAny_mono one (fun r s' z => ?_) fun _ _ e => e)
    obtain ⟨v, rfl, hq⟩ := z
    exact wpAny_pure hq
  · refine wpAny_bind (wpAny_pure ?_)
    simp only [Bool.false_eq_true, if_false]
    refine wpAny_bind (wpAny_mono one (fun r s' z => ?_) fun _ _ e => e)
    obtain ⟨v, rfl, hq⟩ := z
    exact wpAny_pure hq
end
section
variable {X : Cx} {h : Option Hd}
/-- x's class has an own __eq__ that is called; its promise -/
structure EqFn (X : Cx) (j : Nat) (C f : Addr) (fd : FuncData) (ps : List Str) (sp : Sp) : Prop where
  F : FnOk X.prog X.w X.K X.mg X.base (L2.CX X.prog X.w) j f fd ps sp
  hs : PySem.W.findIn X.K (.ref C) "__eq__" = some (some (.ref f))
  hf : PySem.W.isFn X.K (.ref f) = true
  hb : L2.Binds X.K fd ps []
def rOwn (X : Cx) (j : Nat) (k : Bool → Bool) : R2 := fun x y H Q => ∃ (a C dx f : Addr) (fs : List (Str × V)) (fd : FuncData) (ps : List Str) (sp : Sp) (ty : Value), EqFn X j C f fd ps sp ∧ x = .ref a ∧ H a = some (.ins C dx fs) ∧ TyX X.K H y ty ∧ PySem.W.notFirst X.K C ty = true ∧
  PySem.W.findIn X.K (.ref C) "__ne__" = some (some (.builtin "object.__ne__")) ∧ PySem.W.mroIn X.K C (.type "object") = some true ∧ sp [x, y] H (fun v H' => ∃ b, v = .bl b ∧ Q (.bl (k b)) H') E0
theorem eq_run {A : Around} {j : Nat} {C f : Addr} {fd : FuncData} {ps : List Str} {sp : Sp} (e : EqFn X j C f fd ps sp) (hr : Room j A) (hA : A.frames = X.A.frames) {pins : List (Addr × Obj)} {σ : L2.St} {H : Hp} {s : Shared} {Q : VK} {us : List Value} {vs : List V} (I : Inv X pins σ H s) (r : Vals vs us) (q : sp vs H Q E0) :
    wpAny (model X.prog X.w) A (call (.ref f) us) (EP X pins σ Q) X.xe s := by
  have hl : us.length = ps.length := by rw [← r.length]; exact e.F.len _ _ _ _ q
  have e0 : Env0 X.prog X.w X.K X.mg X.base A X.stack s H := by
    have z := I.env0
    exact ⟨by rw [hA]; exact z.frames, z.mod, z.bs, z.bsz, z.funs, z.frf, z.hok, z.bare⟩
  refine wpAny_call (codeAny_mono (e.F.run A X.stack s H ⟨us, []⟩ us vs Q E0 hr e0 (by
    have := e.hb s us I.kIn (by simpa using hl)
    simpa using this) r q) fun r s' hq => ?_)
  cases r with
  | error er => exact passL pins σ H s er s' I hq
  | ok fl =>
    cases fl with
    | ret u => exact I.after hq
    | next => exact False.elim hq
    | brk => exact False.elim hq
    | cont => exact False.elim hq
theorem op_ownEq {j : Nat} (hr : Room (j + 2) X.A) : OpR X (compareOp .Eq) (rOwn X j fun b => b) := by
  intro pins s σ H x y v u Q I rx ry hq
  obtain ⟨a, C, dx, f, fs, fd, ps, sp, ty, e, rfl, ha, hty, hn, _, _, q⟩ := hq
  cases rx
  obtain ⟨mA, J, _⟩ := ins_get I.hok ha
  obtain ⟨od, J, _⟩ := J.look
  obtain ⟨m, hF⟩ := I.fr
  obtain ⟨P, Z, p, _⟩ := kit_of I ry hty
  show wpAny (model X.prog X.w) X.A (richCompare .Eq (.ref a) u) (EP X pins σ Q) X.xe s
  refine PySem.W.cmp_K (op := .Eq) hr.units0 hF I.ok.mod.kin J (Z.ty _ _ I.kIn p) hn e.hs e.hf ?_
  refine wpAny_mono (eq_run e (hr.mono (by omega)) rfl I (show Vals [V.ref a, y] [Value.ref a, u] from .cons rfl (.cons ry .nil)) q) (fun w s' z => ?_) fun _ _ x => x
  obtain ⟨z', H', I', rz, b, ez, qz⟩ := z
  subst ez
  obtain rfl : w = Value.bool b := rz
  exact ⟨.bl b, H', I', rfl, qz⟩
theorem op_ownNe {j : Nat} (hr : Room (j + 2) X.A) : OpR X (compareOp .NotEq) (rOwn X j fun b => !b) := by
  intro pins s σ H x y v u Q I rx ry hq
  obtain ⟨a, C, dx, f, fs, fd, ps, sp, ty, e, rfl, ha, hty, hn, hne, ho, q⟩ := hq
  cases rx
  obtain ⟨mA, J, _⟩ := ins_get I.hok ha
  obtain ⟨od, J, _⟩ := J.look
  obtain ⟨P, Z, p, _⟩ := kit_of I ry hty
  show wpAny (model X.prog X.w) X.A (richCompare .NotEq (.ref a) u) (EP X pins σ Q) X.xe s
  refine ne_K I.kIn (by have := hr.un; omega) J (Z.ty _ _ I.kIn p) hn hne e.hs e.hf ho ?_
  refine wpAny_mono (eq_run (A := X.A.in1) e ((hr.mono (by omega : j + 1 ≤ j + 2)).in1) rfl I (show Vals [V.ref a, y] [Value.ref a, u] from .cons rfl (.cons ry .nil)) q) (fun w s' z => ?_) fun _ _ x => x
  obtain ⟨z', H', I', rz, b, ez, qz⟩ := z
  subst ez
  obtain rfl : w = Value.bool b := rz
  exact ⟨b, rfl, .bl (!b), H', I', rfl, qz⟩
/-! ### methods -/
structure OkM (Pg : Program) (w : World) (K : PySem.W.Frag) (mg : Str → Option Value) (base : Heap) (C m : Str) (k : Nat) (ps : List Str) (g : List D → T D) : Prop where
  cl : Cls K (He.ga K C)
  ex : ∃ (f : Addr) (fd : FuncData), Meth K (He.ga K C) m f ∧ L2.Binds K fd ps [] ∧ FnOk Pg w K mg base (L2.CX Pg w) k f fd ps (spD K (spT g))
/-- the own classes with an own ==, and what theirs comes to -/
structure EqTab (X : Cx) (cs : List Str) (j : Nat) (E : List (Str × (List D → T D))) : Prop where
  kf : KitF X.K cs
  cl : ∀ C ∈ cs, Cls X.K (He.ga X.K C)
  ok : ∀ C g, E.lookup C = some g → C ∈ cs ∧ ∃ ps, OkM X.prog X.w X.K X.mg X.base C "__eq__" j ps g
def eqT (cs : List Str) (E : List (Str × (List D → T D))) (x y : D) : T Bool := match x with
  | .ins C _ => match E.lookup C with
    | some g => match klOf y with
      | some t => .chk (t.in_ cs) ((g [x, y]).nox.bind blT)
      | none => .stuck
    | none => .stuck
  | _ => vEqX x y
def neT (cs : List Str) (E : List (Str × (List D → T D))) (x y : D) : T Bool := match x with
  | .ins C _ => match E.lookup C with
    | some g => match klOf y with
      | some t => .chk (t.in_ cs) ((g [x, y]).nox.bind fun d => (blT d).bind fun b => .ret (!b))
      | none => .stuck
    | none => .stuck
  | _ => vNeD x y
theorem own_of {cs : List Str} {j : Nat} {E : List (Str × (List D → T D))} (tb : EqTab X cs j E) {B : Addr → Prop} {F : Addr → HO → Prop} {G : V → D → Prop} {M : Addr → Prop} {σ : L2.St} {δ : List Sl} {H : Hp} {x y : V} {dx dy : D} {Q : VK} {C : Str} {fs : List (Str × D)} {g : List D → T D} {t : Kl} {k : Bool → Bool}
    (S : SD X.K h B F G M H σ δ) (r1 : Rp X.K M H x dx) (r2 : Rp X.K M H y dy) (ed : dx = .ins C fs) (eg : E.lookup C = some g) (et : klOf dy = some t) (it : t.in_ cs = true) (q : (g [dx, dy]).sat (fun d => ∃ b, d = .bl b ∧ ∀ H', Gh h H H' → SD X.K h B F G M H' σ δ → Q (.bl (k b)) H') noX) : rOwn X j k x y H Q := by
  obtain ⟨hC, ps, ok⟩ := tb.ok C g eg
  obtain ⟨f, fd, hm, hb, Fn⟩ := ok.ex
  subst ed
  have r1' := r1
  obtain ⟨a, dd, fv, rfl, na, ha, rf⟩ := r1.ins_inv
  refine ⟨a, _, dd, f, fv, fd, ps, _, _, ⟨Fn, hm.at_, hm.fn, hb⟩, rfl, ha, tyD_of tb.kf r2 et fun C' z => ⟨in_own it C' z, tb.cl C' (in_own it C' z)⟩, tb.kf.nf C t hC it, tb.kf.ne C hC, tb.kf.hm C hC, ?_⟩
  refine ⟨none, M, [.ins C fs, dy], _, noX, .cons r1' (.cons r2 .nil), fun p z => (nomatch z), S.live, fun p z => (nomatch z), q, fun v H' d g k r ⟨b, e, z⟩ => ?_, fun _ _ _ _ _ _ _ z => z.elim⟩
  subst e
  obtain rfl := r.bl_inv
  exact ⟨b, rfl, z H' g.none (S.all fun b o y => g b o (fun q w _ => nomatch w) y)⟩
theorem opS_eqT {cs : List Str} {j : Nat} {E : List (Str × (List D → T D))} (tb : EqTab X cs j E) : OpS X h (fun x y H Q => rEqX X.K x y H Q ∨ rOwn X j (fun b => b) x y H Q) (fun x y Φ => (eqT cs E x y).sat (fun k => Φ (.bl k)) noX) := fun B F G M σ δ H x y dx dy Q Φ S r1 r2 k q => by
  have data : (vEqX dx dy).sat (fun k => Φ (.bl k)) noX → rEqX X.K x y H Q := fun k => by
    obtain ⟨b, e, k⟩ := optT_sat k
    exact ⟨M, dx, dy, b, r1, r2, e, Ans.now q S (.bl _) k⟩
  cases dx with
  | ins C fs =>
    refine .inr ?_
    have k' : (match E.lookup C with
      | some g => match klOf dy with
        | some t => T.chk (t.in_ cs) ((g [.ins C fs, dy]).nox.bind blT)
        | none => .stuck
      | none => .stuck).sat (fun k => Φ (.bl k)) noX := k
    split at k'
    · rename_i g eg
      split at k'
      · rename_i t et
        obtain ⟨it, k2⟩ := T.sat_chk k'
        exact own_of (k := fun b => b) tb S r1 r2 rfl eg et it (T.sat_mono (fun d z => by
          obtain ⟨b, e, z⟩ := blT_sat z
          exact ⟨b, e, fun H' g' S' => q _ H' _ g' S' (.bl b) z⟩) (fun _ _ z => z) (T.sat_nox (T.sat_bind.mp k2)))
      · exact k'.elim
    · exact k'.elim
  | _ => exact .inl (data k)
theorem opS_neT {cs : List Str} {j : Nat} {E : List (Str × (List D → T D))} (tb : EqTab X cs j E) : OpS X h (fun x y H Q => rNeD X.K x y H Q ∨ rOwn X j (fun b => !b) x y H Q) (fun x y Φ => (neT cs E x y).sat (fun k => Φ (.bl k)) noX) := fun B F G M σ δ H x y dx dy Q Φ S r1 r2 k q => by
  have data : (vNeD dx dy).sat (fun k => Φ (.bl k)) noX → rNeD X.K x y H Q := fun k => opS_neD (h := h) B F G M σ δ H x y dx dy Q Φ S r1 r2 (vNeD_ok k) q
  cases dx with
  | ins C fs =>
    refine .inr ?_
    have k' : (match E.lookup C with
      | some g => match klOf dy with
        | some t => T.chk (t.in_ cs) ((g [.ins C fs, dy]).nox.bind fun d => (blT d).bind fun b => .ret (!b))
        | none => .stuck
      | none => .stuck).sat (fun k => Φ (.bl k)) noX := k
    split at k'
    · rename_i g eg
      split at k'
      · rename_i t et
        obtain ⟨it, k2⟩ := T.sat_chk k'
        exact own_of (k := fun b => !b) tb S r1 r2 rfl eg et it (T.sat_mono (fun d z => by
          obtain ⟨b, e, z⟩ := blT_sat (T.sat_bind.mp z)
          exact ⟨b, e, fun H' g' S' => q _ H' _ g' S' (.bl _) z⟩) (fun _ _ z => z) (T.sat_nox (T.sat_bind.mp k2)))
      · exact k'.elim
    · exact k'.elim
  | _ => exact .inl (data k)
/-- a comparison may be asked whose tree lets nothing out -/
def vNox (v : D → D → T Bool) (x y : D) : T Bool := (v x y).nox
section
variable {a b e o : Expr} {es : List Expr} {pos p apos : Pos} {f g fo : EF} {fa : AF}
theorem de_eqO {cs : List Str} {j : Nat} {E : List (Str × (List D → T D))} (tb : EqTab X cs j E) (hr : Room (j + 2) X.A) (w : DE X h a f) (w2 : DE X h b g) : DE X h (.Compare a [.Eq] [b] pos) (cB (bB (vNox (eqT cs E)) f g)) := de_cmp ((op_eqX (by have := hr.un; omega)).or (op_ownEq hr)) (opS_eqT tb) (fun q => T.sat_nox q) w w2 (nomark _)
theorem de_neO {cs : List Str} {j : Nat} {E : List (Str × (List D → T D))} (tb : EqTab X cs j E) (hr : Room (j + 2) X.A) (w : DE X h a f) (w2 : DE X h b g) : DE X h (.Compare a [.NotEq] [b] pos) (cB (bB (vNox (neT cs E)) f g)) := de_cmp ((op_neD hr.units).or (op_ownNe hr)) (opS_neT tb) (fun q => T.sat_nox q) w w2 (nomark _)
theorem dt_eqO {cs : List Str} {j : Nat} {E : List (Str × (List D → T D))} (tb : EqTab X cs j E) (hr : Room (j + 2) X.A) (w : DE X h a f) (w2 : DE X h b g) : DT X h (.Compare a [.Eq] [b] pos) (bB (vNox (eqT cs E)) f g) := dt_cmp ((op_eqX (by have := hr.un; omega)).or (op_ownEq hr)) (opS_eqT tb) (fun q => T.sat_nox q) w w2 (nomark _)
theorem dt_neO {cs : List Str} {j : Nat} {E : List (Str × (List D → T D))} (tb : EqTab X cs j E) (hr : Room (j + 2) X.A) (w : DE X h a f) (w2 : DE X h b g) : DT X h (.Compare a [.NotEq] [b] pos) (bB (vNox (neT cs E)) f g) := dt_cmp ((op_neD hr.units).or (op_ownNe hr)) (opS_neT tb) (fun q => T.sat_nox q) w w2 (nomark _)
theorem RpF.none {K : PySem.W.Frag} {M : Addr → Prop} {H : Hp} {n : Str} : ∀ {fv : List (Str × V)} {fs : List (Str × D)}, RpF K M H fv fs → fs.lookup n = none → fv.lookup n = none
  | _, _, .nil, _ => rfl
  | _, _, .cons (f := m) h t, e => by
    by_cases q : n = m
    · subst q
      simp [List.lookup] at e
    · have q2 : (n == m) = false := by simpa using q
      simp only [List.lookup, q2] at e ⊢
      exact RpF.none t e
/-- o.m(..), o of the class C -/
def isOf (C m : Str) : D → Bool
  | .ins C' fs => decide (C' = C) && (fs.lookup m).isNone
  | _ => false
def cMeth (C m : Str) (g : List D → T D) (fo : EF) (fa : AF) : EF := fun δ => (fo δ).bind fun d => .chk (isOf C m d) ((fa δ).bind fun ds => (g (d :: ds)).nox)
theorem de_meth {C m : Str} {k : Nat} {ps : List Str} {g : List D → T D} (O : OkM X.prog X.w X.K X.mg X.base C m k ps g) (hr : Room k X.A) (w0 : DE X h o fo) (w : DA X h (e :: es) fa) (pl : Sem Bool)
    (ht : eval (.Call (.Attribute o m apos) (e :: es) [] pos) X.env = (do
      let ov ← eval o X.env
      standAt apos.atName
      let (f, first) ← holding [ov] (getMethod ov m pl)
      callWith pos f first (backTo pos (starEach (e :: es) X.env)) (backToKw pos (keywordEach [] X.env))))
    (hst : starEach (e :: es) X.env = (false, eval e X.env) :: starEach es X.env := by rfl) (hpl : (backTo pos (starEach es X.env)).any (·.1) = false := by rfl) : DE X h (.Call (.Attribute o m apos) (e :: es) [] pos) (cMeth C m g fo fa) := ⟨fun δ Φ Ψ q => .mk fun B F0 G M σ H Q W tk S0 q' x0 => by
  obtain ⟨f, fd, hm, hb, F⟩ := O.ex
  refine eS_of (pe_meth (pl := pl) (E := E0) peS O.cl hm F hr hb .nil passL paS hst hpl ht) ?_
  refine (w0.run δ _ Ψ (T.sat_bind.mp q)).run B F0 G M σ H _ W tk S0 (fun v H1 d g1 S1 r1 k => ?_) x0
  obtain ⟨k1, k2⟩ := T.sat_chk k
  cases d with
  | ins C' fs =>
    have k1' : (decide (C' = C) && (fs.lookup m).isNone) = true := k1
    simp only [Bool.and_eq_true, decide_eq_true_eq, Option.isNone_iff_eq_none] at k1'
    obtain ⟨rfl, hno⟩ := k1'
    have r1' := r1
    obtain ⟨a, dx, fv, rfl, na, ha, rf⟩ := r1.ins_inv
    refine ⟨a, dx, fv, rfl, ha, RpF.none rf hno, ?_⟩
    refine (w.run δ _ Ψ (T.sat_bind.mp k2)).run B F0 G M σ H1 _ W tk S1 (fun vs H2 ds g2 S2 r2 k3 => ?_) (Out.on x0 g1)
    rw [List.append_nil]
    refine ⟨none, M, .ins C' fs :: ds, Φ, noX, .cons (r1'.mono (g2.gr S1.hand)) r2, fun p z => (nomatch z), S2.live, fun p z => (nomatch z), T.sat_nox k3, fun v H' d g k r z => ?_, fun _ _ _ _ _ _ _ z => z.elim⟩
    exact q' v H' d ((g1.trans g2).trans g.none) (S2.all fun b o y => g b o (fun q w _ => nomatch w) y) r z
  | _ => cases k1⟩
end
end
end Ud

set_option Elab.async false
set_option linter.all false
set_option maxRecDepth 100000
set_option maxHeartbeats 4000000
/-! x[i] = v, x a list of one's own; lists made by comprehension and assigned. -/
namespace Ud
open PySem PySem.Spec PyProof.Rows L2 Uc
def gPut (i : Nat) (kf f : EF) : SF := fun δ => match ownL δ[i]? with
  | some ds => (f δ).on δ fun d => (kf δ).on δ fun kd => match intD kd with
    | some k => match ixN ds.length k with
      | some j => .ret (.nx (δ.set i (.own (.l (ds.set j d)))))
      | none => .stuck
    | none => .stuck
  | none => .stuck
section
variable {X : Cx} {h : Option Hd} {δ : List Sl} {e ix : Expr} {es : List Expr} {pos p p1 p2 p3 q' : Pos} {fa : AF} {f k : EF} {tst : BF} {g : EF}
theorem RpA.set {K : PySem.W.Frag} {M : Addr → Prop} {H : Hp} : ∀ {vs : List V} {ds : List D} {j : Nat} {v : V} {d : D}, RpA K M H vs ds → Rp K M H v d → RpA K M H (vs.set j v) (ds.set j d)
  | _, _, _, _, _, .nil, _ => .nil
  | _, _, 0, _, _, .cons _ t, r => .cons r t
  | _, _, j + 1, _, _, .cons h t, r => .cons h (RpA.set t r)
theorem ds_put {x : Str} (i : Nat) (w : DE X h e f) (w2 : DE X h ix k) (hN : X.N[i]? = some x := by rfl) (hv : Vis X.env.scope x := by first | exact Or.inl rfl | exact Or.inr (Or.inl rfl) | exact Or.inr (Or.inr rfl)) (h1 : (x == ("__debug__" : Str)) = false := by decide) (h2 : (x == ("__classdict__" : Str)) = false := by decide)
    (ha : ∀ v, assign (.Subscript (.Name x p1) ix p2) X.env v = (do
      let ov ← holding [v] (eval (.Name x p1) X.env)
      let iv ← holding [v, ov] (eval ix X.env)
      standAt p2
      holding [v, ov, iv] (setItem ov iv v)
      release [v, ov, iv] []) := by intro _; rfl)
    (hs : swapsWithSole [.Subscript (.Name x p1) ix p2] e pos.line X.env = pure false := by rfl) (hw : swappedStores [.Subscript (.Name x p1) ix p2] e X.env = pure none := by rfl)
    (h3 : (assignEach [.Subscript (.Name x p1) ix p2] X.env).map (·.2) = [assign (.Subscript (.Name x p1) ix p2) X.env] := by rfl) :
    DS X h (.Assign [.Subscript (.Name x p1) ix p2] e pos) (gPut i k f) := ⟨fun δ P q => .mk fun B F G M σ H D W tk S E => by
  have q' : (match ownL δ[i]? with
    | some ds => (f δ).on δ fun d => (k δ).on δ fun kd => match intD kd with
      | some k => match ixN ds.length k with
        | some j => .ret (.nx (δ.set i (.own (.l (ds.set j d)))))
        | none => .stuck
      | none => .stuck
    | none => T.stuck).sat P.of noX := q
  split at q'
  · rename_i ds eo
    have hi := ownL_ok eo
    refine sS_of (ps_asg peS (pg_sub (pe_var hN hv h1 h2) peS set_list (by intro v; exact ha v)) hs hw h3) ?_
    refine (w.run δ _ _ (T.sat_on.mp q')).run B F G M σ H _ W tk S (fun v H1 d g1 S1 r1 q1 => ?_) (out_of E)
    obtain ⟨a, u, e1, mq, nq, hq, ⟨xs, eu, rx⟩, nb, nf⟩ := S1.own i _ hi
    subst eu
    refine ⟨_, e1, ?_⟩
    refine (w2.run δ _ _ (T.sat_on.mp q1)).run B F G M σ H1 _ W tk S1 (fun kv H2 kd g2 S2 r2 q2 => ?_) (Out.on (out_of E) g1)
    split at q2
    · rename_i z e4
      split at q2
      · rename_i j ej
        rw [intD_ok e4] at r2
        obtain rfl := r2.int_inv
        have hq2 := g2 a _ nq.nl hq
        refine ⟨a, xs, z, j, rfl, rfl, hq2, by rw [rx.length]; exact ej, ?_⟩
        exact E.nx M σ _ _ (S2.chg (es := .l (ds.set j d)) hi e1 ⟨_, rfl, RpA.set (rx.mono (g2.gr S1.hand)) (r1.mono (g2.gr S1.hand))⟩) q2
      · exact q2.elim
    · exact q2.elim
  · exact q'.elim⟩
/-- x = [..], on one line -/
theorem ds_ownLc {wi : TI} {tg iter elt : Expr} {gt : TG} {is : List Nat} {put : D → List Sl → Option (List Sl)} {scope : Scope} {ifs : List Expr} {own : List (Str × Nat)} {y : Str} {py spos : Pos} (i : Nat) (hN : X.N.Nodup) (ok : BlkOk X.N X.env.scope scope own) (eo : own.map (·.2) = is) (di : DI X h tg iter wi fa) (t : Blk X scope fun Y => Tg Y tg gt is put) (dc : DC X h scope ifs elt tst g)
    (hy : X.N[i]? = some y := by rfl) (hyl : X.env.scope.names.lookup y = some .local := by rfl) (hsw : swapsWith (.ListComp elt [⟨tg, iter, ifs, 0⟩] scope pos) (some (.Name y py)) spos.line X.env = pure true := by rfl)
    (hc : X.calm = true := by rfl) (hfs : ∀ y, foldedSetIterable iter X.env y = pure y := by intro _; rfl) : DS X h (.Assign [.Name y py] (.ListComp elt [⟨tg, iter, ifs, 0⟩] scope pos) spos) (gOwn i (cLc fa is put tst g)) := ⟨fun δ P q => .mk fun B F G M σ H D W tk S E => by
  subst eo
  refine sS_of (ps_setLc hc hN hy hyl hsw di.pi ok (fun s H C cl fp => (t s H C cl fp).pg) (tests_ok dc.ifs) elt_ok hfs) ?_
  exact (wl_lc di dc t (T.sat_on.mp q)).run B F G M σ H _ W tk S (fun p H1 xs ds g1 S1 n hp nr k => E.nx _ _ H1 _ (SD.setO (od := .l ds) S S1 g1 n hp ⟨xs, rfl, nr⟩ i) k) (out_of E)⟩
theorem ds_setLc {wi : TI} {tg iter elt : Expr} {gt : TG} {is : List Nat} {put : D → List Sl → Option (List Sl)} {scope : Scope} {ifs : List Expr} {own : List (Str × Nat)} {y : Str} {py spos : Pos} (i : Nat) (hN : X.N.Nodup) (ok : BlkOk X.N X.env.scope scope own) (eo : own.map (·.2) = is) (di : DI X h tg iter wi fa) (t : Blk X scope fun Y => Tg Y tg gt is put) (dc : DC X h scope ifs elt tst g)
    (hy : X.N[i]? = some y := by rfl) (hyl : X.env.scope.names.lookup y = some .local := by rfl) (hsw : swapsWith (.ListComp elt [⟨tg, iter, ifs, 0⟩] scope pos) (some (.Name y py)) spos.line X.env = pure true := by rfl)
    (hc : X.calm = true := by rfl) (hfs : ∀ y, foldedSetIterable iter X.env y = pure y := by intro _; rfl) : DS X h (.Assign [.Name y py] (.ListComp elt [⟨tg, iter, ifs, 0⟩] scope pos) spos) (gSet i (cFr (cLc fa is put tst g))) := ⟨fun δ P q => .mk fun B F G M σ H D W tk S E => by
  subst eo
  refine sS_of (ps_setLc hc hN hy hyl hsw di.pi ok (fun s H C cl fp => (t s H C cl fp).pg) (tests_ok dc.ifs) elt_ok hfs) ?_
  have q1 := T.sat_bind.mp (T.sat_on.mp q)
  exact (wl_lc di dc t q1).run B F G M σ H _ W tk S (fun p H1 xs ds g1 S1 n hp nr k => E.nx _ _ H1 _ (S1.setV i (.lst (S.live.new n) hp (nr.wid fun a z => .inl z))) k) (out_of E)⟩
end
end Ud

set_option Elab.async false
set_option linter.all false
set_option maxRecDepth 100000
set_option maxHeartbeats 4000000
/-! Dicts with tuples for keys: setdefault, comprehensions. -/
namespace Ud
open PySem PySem.Spec PyProof.Rows L2 Uc
section
variable {X : Cx} {pins : List (Addr × Obj)} {σ : L2.St} {H : Hp} {s : Shared} {a b : Addr} {r : Value} {d v : V} {k : List Key} {A : Around} {E : Value → Shared → Prop}
theorem dT_put {kvs : List (List Key × V)} {h' : Heap} {xs : List (List Key × Addr × Value)} {tk : Tok} (I : Inv X pins σ H s) (e : H a = some (.dT kvs)) (eb : H b = some (.tup (k.map kV))) (rel : KT H kvs xs) (hd : (a == sysModules) = false) (hl : kvs.length < sizeLine) (rv : RelV v r)
    (dd : h'.DictOfH (tupleKind (mixKind X.prog X.w)) a (storedH xs k b r)) (hs : Heap.SameBut a s.heap h') : Inv X pins σ (upd H a (.dT (putK kvs k v))) { s with heap := h', toks := tk } := by
  have hz : (putK kvs k v).length ≤ sizeLine := by have := length_putK kvs k v; omega
  obtain ⟨q, es, ep, hq, h2, h3, h4, _, h5⟩ := dd
  refine d_write I (by rw [e]; exact True.intro) hs ⟨q, hq⟩ ⟨hz, hd, _, (rel.put k eb rv).keeps fun c ys ec => ?_, q, es, ep, hq, h2, h3, h4, h5⟩
  rw [upd_ne (fun z => by rw [z, e] at ec; cases ec)]
  exact ec
theorem dT_setd {kvs : List (List Key × V)} {Q : Value → Shared → Prop} (hu : A.units + 1 < cLine) (I : Inv X pins σ H s) (e : H a = some (.dT kvs)) (eb : H b = some (.tup (k.map kV))) (rd : RelV d r) (hl : kvs.length < sizeLine)
    (h1 : ∀ v, valV kvs k = some v → ∀ (w' : Value) (s' : Shared), Inv X pins σ H s' → RelV v w' → Q w' s') (h2 : valV kvs k = none → ∀ (s' : Shared), Inv X pins σ (upd H a (.dT (putK kvs k d))) s' → Q r s') :
    wpAny (model X.prog X.w) A (call (.builtin "dict.setdefault") [.ref a, .ref b, r]) Q E s := by
  obtain ⟨z, hd, xs, rel, dd⟩ := dt_of I.hok e
  have hz : xs.length ≤ sizeLine := by rw [← Paired.length rel]; exact z
  have q := rel.val k
  refine call_setdefault_heap (hsz := hz) (tupleKind_room_in1 hu) (key_of I.hok eb) hd dd (fun p hp => ?_) fun hn h' dd' hs => ?_
  · rw [hp] at q
    cases q0 : valV kvs k with
    | none => rw [q0] at q; exact (show False from q).elim
    | some v0 => rw [q0] at q; exact h1 v0 q0 _ _ (I.tok _) q
  · rw [hn] at q
    cases q0 : valV kvs k with
    | some v0 => rw [q0] at q; exact (show False from q).elim
    | none => exact h2 q0 _ (dT_put I e eb rel hd hl rd dd' hs)
theorem dT_set {kvs : List (List Key × V)} {Q : Unit → Shared → Prop} (hu : A.units < cLine) (I : Inv X pins σ H s) (e : H a = some (.dT kvs)) (eb : H b = some (.tup (k.map kV))) (rv : RelV v r) (hl : kvs.length < sizeLine)
    (h : ∀ s', Inv X pins σ (upd H a (.dT (putK kvs k v))) s' → Q () s') : wpAny (model X.prog X.w) A (dictSet a (.ref b) r) Q E s := by
  obtain ⟨z, hd, xs, rel, dd⟩ := dt_of I.hok e
  have hz : xs.length ≤ sizeLine := by rw [← Paired.length rel]; exact z
  exact wpAny_dictSet_heap (hsz := hz) (by show A.units < cLine; exact hu) (key_of I.hok eb) dd fun h' dd' hs => h _ (dT_put I e eb rel hd hl rv dd' hs)
end
/-- d.setdefault((..), z) -/
def tDSetT (td ty tx : TE) : TE := fun σ H Q => td σ H fun x H1 => ∃ a, x = .ref a ∧ IsD H1 a ∧ ty σ H1 fun y H2 => tx σ H2 fun z H3 => ∃ (kvs : List (List Key × V)) (k : List Key) (b : Addr), H3 a = some (.dT kvs) ∧ y = .ref b ∧ H3 b = some (.tup (k.map kV)) ∧ kvs.length < sizeLine ∧
  (∀ v, valV kvs k = some v → Q v H3) ∧ (valV kvs k = none → Q z (upd H3 a (.dT (putK kvs k z))))
section
variable {X : Cx} {o e f : Expr} {td ty tx : TE} {apos cpos : Pos}
theorem pe_dsetT (hu : X.A.units + 1 < cLine) (ho : PE X o td) (he : PE X e ty) (hf : PE X f tx) (m : M2 X o "setdefault" apos e f cpos) : PE X (.Call (.Attribute o "setdefault" apos) [e, f] [] cpos) (tDSetT td ty tx) := ⟨fun pins s σ H Q I hh => by
  refine wpAny_Call_method m.base m.few m.line PySem.F.plainAttrs_dict PySem.F.slot_dict_setdefault PySem.F.type_dict_setdefault (thn (ho.run pins s σ H _ I hh) fun u s1 ⟨x, H1, I1, rx, a, ex, isd, q1⟩ => ?_)
  subst ex
  cases rx
  obtain ⟨t1, t2, _⟩ := isD_at I1 isd
  refine ⟨t1, t2, ?_⟩
  rw [m.trees]
  refine Calls.callWith_builtin rfl (Calls.evalArgs_plain (Calls.spliced_cons (thn (he.run pins s1 σ H1 _ I1 q1) fun iv s2 ⟨y, H2, I2, ry, q2⟩ => Calls.spliced_cons (thn (hf.run pins s2 σ H2 _ I2 q2) fun fv s3 ⟨z, H3, I3, rz, kvs, k, b, ea, ey, eb, hl, q3, q4⟩ => Calls.spliced_nil ?_))))
  subst ey
  cases ry
  exact dT_setd hu I3 ea eb rz hl (fun v hv w' s4 I4 rw' => ⟨v, _, I4, rw', q3 v hv⟩) fun hn s4 I4 => ⟨z, _, I4, rz, q4 hn⟩⟩
end
/-! ### {k: v for ..}, k a tuple -/
def tDcT (wi : TI) (g : TG) (tt : TT) (tk tv : TE) (is : List Nat) : TE := fun σ H Q => wi σ H fun J H1 => ∀ D, H1 D = none → ∃ W : Nat → Nat → Hp → Prop, (∃ m, W 0 m (upd H1 D (.dT []))) ∧ ∀ i m H, W i m H →
  (J.stop i H ∧ Q (.ref D) H) ∨ (J.go i H ∧ ∃ Nx : Hp → Prop, (∀ H', Nx H' → ∃ m', m' < m ∧ W (i + 1) m' H') ∧ ∀ x H', J.yld i H x H' → g x (wipe σ is) H' fun σ2 H2 => wipe σ2 is = wipe σ is ∧ tt σ2 H2 fun b H3 =>
    if b = true then tk σ2 H3 fun y H4 => tv σ2 H4 fun z H5 => ∃ kvs k b, y = .ref b ∧ H5 b = some (.tup (k.map kV)) ∧ H5 D = some (.dT kvs) ∧ kvs.length < sizeLine ∧ Nx (upd H5 D (.dT (putK kvs k z))) else Nx H3)
section
variable {X : Cx} {kx vx tg iter : Expr} {ifs : List Expr} {scope : Scope} {own : List (Str × Nat)} {pos : Pos} {wi : TI} {g : TG} {tt : TT} {tk tv : TE}
theorem pe_dcT (hc : X.calm = true) (hu : X.A.units + 1 < cLine) (hN : X.N.Nodup) (hi : PI X tg iter wi) (ok : BlkOk X.N X.env.scope scope own)
    (hg : Blk X scope fun Y => PG Y tg g) (ht : Blk X scope fun Y => PTs Y ifs tt) (hk : Blk X scope fun Y => PE Y kx tk) (he : Blk X scope fun Y => PE Y vx tv) (hs : ∀ x, foldedSetIterable iter X.env x = pure x := by intro _; rfl) :
    PE X (.DictComp kx vx [⟨tg, iter, ifs, 0⟩] scope pos) (tDcT wi g tt tk tv (own.map (·.2))) := ⟨fun pins s σ H Q I hh => by
  rw [arm_eval_DictComp]
  have free0 : ∀ y ∈ scope.names, y.2 = .free → ∃ c, X.env.cells.lookup y.1 = some c := fun y hy z => (ok.free y hy z).elim (fun k => I.ok.has _ (.inl k)) fun k => I.ok.has _ (.inr k)
  refine wpAny_comprehension_free (use := none) rfl hs (closure_ok free0) ok.kind (fun y hy z => by rw [ok.uniq y hy, z]) (thn (hi.run pins s σ H _ I hh) fun xv s1 w1 => thn w1 fun itv s2 w2 => ?_)
  obtain ⟨it, fp, tn, J, H2, rfl, I2, Tn, st2, f2, q⟩ := w2
  refine wpAny_newObj_type (newEnv_comp ?_)
  have nD : H2 s2.heap.objs.size = none := I2.hok.fresh (Nat.le_refl _)
  obtain ⟨W, ⟨m0, w0⟩, turn⟩ := q s2.heap.objs.size nD
  have I3 : Inv X pins σ (upd H2 s2.heap.objs.size (.dT [])) { s2 with heap := s2.heap.push { cls := .type "dict", data := .dict #[] } } := I2.laid (t' := s2.toks) (fun b o z => Heap.get?_push_of_some _ z) (Nat.le_refl _) (dt_empty s2.heap I2.big)
  have old : ∀ b o, s2.heap.get? b = some o → (s2.heap.push { cls := .type "dict", data := .dict #[] }).get? b = some o := fun b o z => Heap.get?_push_of_some _ z
  have hsz : (s2.heap.push { cls := .type "dict", data := .dict #[] }).objs.size = s2.heap.objs.size + 1 := size_push' _ _
  generalize hD : s2.heap.objs.size = D at *
  generalize hH3 : upd H2 D (.dT []) = H3 at *
  generalize hs3 : ({ s2 with heap := s2.heap.push { cls := .type "dict", data := .dict #[] } } : Shared) = s3 at *
  have hp3 : s3.heap = s2.heap.push { cls := .type "dict", data := .dict #[] } := by rw [← hs3]
  have below : ∀ b ∈ fp, b < D := fun b hb => by
    obtain ⟨o, z, _⟩ := Tn.obj _ _ st2 b hb
    rw [← hD]
    exact Heap.lt_size z
  have f3 : ∀ b ∈ fp, FpOk X pins H3 b ∧ b < s3.heap.objs.size := fun b hb => by
    have lt := below b hb
    refine ⟨⟨by rw [← hH3, upd_ne (Nat.ne_of_lt lt)]; exact (f2 b hb).1, (f2 b hb).2⟩, ?_⟩
    rw [hp3, hsz]
    exact Nat.lt_succ_of_lt lt
  have st3 : tn 0 s3.heap := Tn.keep _ _ _ st2 fun b _ o z => by rw [hp3]; exact old b o z
  have I4 := block_start I3 ok hN f3
  have pg := hg s3 H3 s3.heap.objs.size (cellsFrom (s3.heap.objs.size + 1) scope.names (cloFrom X.env.cells scope.names [])) fp
  have pt := ht s3 H3 s3.heap.objs.size (cellsFrom (s3.heap.objs.size + 1) scope.names (cloFrom X.env.cells scope.names [])) fp
  have pk := hk s3 H3 s3.heap.objs.size (cellsFrom (s3.heap.objs.size + 1) scope.names (cloFrom X.env.cells scope.names [])) fp
  have pe := he s3 H3 s3.heap.objs.size (cellsFrom (s3.heap.objs.size + 1) scope.names (cloFrom X.env.cells scope.names [])) fp
  have nfp : ∀ b ∈ fp, H3 b = none := fun b hb => (f3 b hb).1.1
  have sames : ∀ b o, s3.heap.get? b = some o → (pushCells (s3.heap.push { cls := .type "dict", data := .dict #[] }) scope.names).get? b = some o := fun b o z => pushCells_keeps _ _ _ _ (Heap.get?_push_of_some _ z)
  show codeAny _ _ (.compStart (.DictComp kx vx [⟨tg, iter, ifs, 0⟩] scope pos) 0 (.ref it) (.ref D) (compEnvC scope (cellsFrom (s3.heap.objs.size + 1) scope.names (cloFrom X.env.cells scope.names [])) s3.heap.objs.size X.env)) (compPost (model X.prog X.w) X.A X.xe none (EP X pins σ Q) (.ref D) s3.heap.objs.size) _
  have cL : (compEnvC scope (cellsFrom (s3.heap.objs.size + 1) scope.names (cloFrom X.env.cells scope.names [])) s3.heap.objs.size X.env).locals = s3.heap.objs.size := rfl
  generalize hce : compEnvC scope (cellsFrom (s3.heap.objs.size + 1) scope.names (cloFrom X.env.cells scope.names [])) s3.heap.objs.size X.env = ce at *
  generalize hs4 : ({ s3 with heap := pushCells (s3.heap.push { cls := .type "dict", data := .dict #[] }) scope.names } : Shared) = s4 at I4 ⊢
  have st4 : tn 0 s4.heap := Tn.keep _ _ _ st3 fun b _ o z => by rw [← hs4]; exact sames b o z
  have fpB : ∀ {σ' : L2.St} {H' : Hp} {s' : Shared}, Inv (X.blk s3 H3 scope ce fp) [] σ' H' s' → (∀ b ∈ fp, H' b = none) → ∀ b ∈ fp, FpOk (X.blk s3 H3 scope ce fp) [] H' b := fun {σ' H' s'} I' none' b hb =>
    ⟨none' b hb, (I'.ok.exf b hb).1, I'.ok.exfs b hb, .inl hb, fun x c z => (I'.ok.exf b hb).2 x c z, fun p hp => absurd (show p ∈ ([] : List (Addr × Obj)) ++ [] from hp) (by simp)⟩
  have run : codeAny (model X.prog X.w) X.A (.compLoop (.DictComp kx vx [⟨tg, iter, ifs, 0⟩] scope pos) 0 (.ref it) (.ref D) ce) (compPost (model X.prog X.w) X.A X.xe none (EP X pins σ Q) (.ref D) s3.heap.objs.size) s4 := by
    refine compLoop_anyD (fun n t => ∃ i Ht, Inv (X.blk s3 H3 scope ce fp) [] (wipe σ (own.map (·.2))) Ht t ∧ tn i t.heap ∧ (∀ b ∈ fp, Ht b = none) ∧ W i n Ht) ?_ m0 ⟨0, H3, I4, st4, nfp, w0⟩
    rintro n t ⟨i, Ht, It, stt, nt, wt⟩
    rcases turn i n Ht wt with ⟨stop, fin⟩ | ⟨go, Nx, hNx, step⟩
    · refine thnF (Tn.done (X.blk s3 H3 scope ce fp) rfl rfl rfl hc i [] t _ Ht (fun _ _ => False) It (fpB It nt) stt stop) fun r u ⟨hr, Iu⟩ => ?_
      subst hr
      have Ib : Inv X pins σ Ht u := I3.call' (ch := fp) Iu.os Iu.base Iu.hok Iu.bare fun b hb => ⟨(f3 b hb).1.2.2.2.1, (f3 b hb).1.2.1, (f3 b hb).1.2.2.2.2.1, (f3 b hb).1.2.2.2.2.2⟩
      have nC : Ht s3.heap.objs.size = none := by
        have z : Ht ce.locals = none := Iu.free
        rw [cL] at z
        exact z
      obtain ⟨m, hns, _⟩ := Iu.loc
      have hns' : u.heap.Ns ce.locals m := hns
      rw [cL] at hns'
      refine ⟨m, hns', fun h'' sb => ?_⟩
      obtain ⟨g0, g1, g2, g3, g4, g5⟩ := I3.fpOk (Nat.le_refl _) nC
      exact ⟨.ref D, Ht, Ib.turned (t' := u.toks) (fun b o hb z => (sb.2 b hb).trans z) g0 g1 g3 g4 g5, rfl, fin⟩
    · refine thnF (Tn.item (X.blk s3 H3 scope ce fp) rfl rfl rfl hc i [] t _ Ht (fun _ _ => False) It (fpB It nt) stt go) fun r s6 ⟨u, hr, w6⟩ => ?_
      subst hr
      refine thnF w6 fun _ s7 ⟨x, H7, I7, r7, y7, st7, n7⟩ => ?_
      have I7p := I7.pinned (fpB I7 n7) (Tn.obj _ _ st7)
      refine thnF (pg.run _ s7 _ H7 x u _ I7p r7 (step x H7 y7)) fun _ s8 ⟨σ8, H8, I8, hw8, q8⟩ => ?_
      refine thnF (pt.run _ s8 σ8 H8 _ I8 q8) fun b s9 ⟨H9, I9, q9⟩ => ?_
      have next : ∀ {s' : Shared} {H' : Hp}, Inv (X.blk s3 H3 scope ce fp) ([] ++ pinsAt fp s7.heap) σ8 H' s' → Nx H' → ∃ m, m < n ∧ ∃ i Ht, Inv (X.blk s3 H3 scope ce fp) [] (wipe σ (own.map (·.2))) Ht s' ∧ tn i s'.heap ∧ (∀ b ∈ fp, Ht b = none) ∧ W i m Ht := fun {s' H'} I' nx => by
        obtain ⟨m', lt, w'⟩ := hNx H' nx
        have kept : ∀ b ∈ fp, ∀ o, s7.heap.get? b = some o → s'.heap.get? b = some o ∧ H' b = none := fun b hb o z => by
          have := I'.pin (b, o) (List.mem_append_right _ (List.mem_append_right _ (mem_pinsAt hb z)))
          exact ⟨this.1, this.2.1⟩
        refine ⟨m', lt, i + 1, H', (I'.unpinned (pins := [])).weak (by rw [← hw8, wipe_length]) (fun j v z => by rw [← hw8] at z; exact (wipe_some z).1), Tn.keep _ _ _ st7 fun b hb o z => (kept b hb o z).1, fun b hb => ?_, w'⟩
        obtain ⟨o, z, _⟩ := Tn.obj _ _ st7 b hb
        exact (kept b hb o z).2
      cases b with
      | false =>
        simp only [Bool.false_eq_true, if_false] at q9 ⊢
        exact next I9 q9
      | true =>
        simp only [if_true] at q9 ⊢
        refine thnF (pk.run _ s9 σ8 H9 _ I9 q9) fun z1 s10 ⟨yk, H10, I10, r10, q10⟩ => ?_
        refine thnF (pe.run _ s10 σ8 H10 _ I10 q10) fun z2 s11 ⟨yv, H11, I11, r11, kvs, k, b, ek, eb, hD11, hz11, nx⟩ => ?_
        subst ek
        cases r10
        exact dT_set (X := X.blk s3 H3 scope ce fp) (A := X.A) (by omega) I11 hD11 eb r11 hz11 fun s12 I12 => next I12 nx
  exact codeAny_compStart_dict run (Tn.self X.A 0 _ _ _ st4 run)⟩
end
end Ud

set_option Elab.async false
set_option linter.all false
set_option maxRecDepth 100000
set_option maxHeartbeats 4000000
/-! What the head says: with tables. -/
namespace Ud
open PySem PySem.Spec PyProof.Rows L2 Uc
abbrev TabL := List ((PySem.W.Frag → Addr) × List Str)
abbrev AlW := He.AlD × List (Option (List (Option (Str × Int))))
def obsW (B : PySem.W.Frag → Bool) (fn : List He.DefD) (ts : TabL) (K : PySem.W.Frag) : AlW := (obsU B fn K, ts.map fun t => He.dicW K (t.1 K))
def valW (fn : List He.DefD) (ts : TabL) (w : World) : AlW := (He.valD fn, ts.map fun t => some (He.keysIn w.params t.2))
def obsWG (n : Nat) (B : PySem.W.Frag → Bool) (fn : List He.DefD) (ts : TabL) (g : Addr → Option Obj) : AlW := obsW B fn ts (He.frG g (He.asD g n))
structure SaysW (B : PySem.W.Frag → Bool) (fn : List He.DefD) (ts : TabL) (w : World) (K : PySem.W.Frag) : Prop where
  u : SaysU B fn K
  t : ts.map (fun t => He.dicW K (t.1 K)) = ts.map fun t => some (He.keysIn w.params t.2)
theorem SaysW.tab {B : PySem.W.Frag → Bool} {fn : List He.DefD} {ts : TabL} {w : World} {K : PySem.W.Frag} (c : SaysW B fn ts w K) (i : Nat) {t : (PySem.W.Frag → Addr) × List Str} (h : ts[i]? = some t := by rfl) : ∃ es n, KDict K w (t.1 K) es n := by
  have e2 : (ts.map fun t => He.dicW K (t.1 K))[i]? = (ts.map fun t => some (He.keysIn w.params t.2))[i]? := by rw [c.t]
  rw [List.getElem?_map, List.getElem?_map, h] at e2
  exact He.dicW_ok (Option.some.inj e2)
def hookW (n : Nat) (B : PySem.W.Frag → Bool) (fn : List He.DefD) (ts : TabL) : PySem.W.Hook where
  α := AlW
  obs := fun s => obsWG n B fn ts s.heap.get?
  val := fun w => valW fn ts w
  says := fun w h => ∃ K : PySem.W.Frag, K.In h ∧ SaysW B fn ts w K
  of := fun w _ e => ⟨_, He.frG_in, saysU_of (congrArg (fun z : AlW => z.1) e), congrArg (fun z : AlW => z.2) e⟩
  keeps := fun _ _ _ ⟨K, hK, c⟩ k => ⟨K, PySem.W.Frag.In.keeps hK k, c⟩
theorem obsWG_eq {n : Nat} {B : PySem.W.Frag → Bool} {fn : List He.DefD} {ts : TabL} {g : Addr → Option Obj} {s : Shared} (h : ∀ a, g a = s.heap.get? a) : obsWG n B fn ts g = (hookW n B fn ts).obs s := by
  have e : g = s.heap.get? := funext h
  rw [e] <;> rfl
/-! ### tests of what the head says -/
/-- a global int -/
def intB (K : PySem.W.Frag) (x : Str) (i : Int) : Bool := match PySem.W.nsIn K mainGlobals x with
  | some (some (.int j _)) => decide (i = j)
  | _ => false
theorem intB_ok {K : PySem.W.Frag} {x : Str} {i : Int} (h : intB K x i = true) : ∃ tk, PySem.W.nsIn K mainGlobals x = some (some (.int i tk)) := by
  unfold intB at h
  split at h
  · rename_i j tk e
    have : i = j := of_decide_eq_true h
    exact ⟨tk, by rw [e, this]⟩
  · cases h
/-- data that a written tuple may hold -/
def flatD : D → Option V
  | .non => some .non
  | .bl b => some (.bl b)
  | .int i => some (.int i)
  | .str s => some (.str s)
  | _ => none
theorem flatD_rp {K : PySem.W.Frag} {M : Addr → Prop} {H : Hp} {d : D} {v : V} (e : flatD d = some v) : Rp K M H v d := by
  cases d with
  | non => cases e; exact .non
  | bl b => cases e; exact .bl b
  | int i => cases e; exact .int i
  | str s => cases e; exact .str s
  | _ => cases e
def tupItems (K : PySem.W.Frag) : List D → List Value → Bool
  | [], [] => true
  | d :: ds, u :: us => (match flatD d with
    | some v => He.relB v u
    | none => false) && tupItems K ds us
  | _, _ => false
def tupB (K : PySem.W.Frag) (x : Str) (ds : List D) : Bool := He.eqO (PySem.W.nsIn K mainGlobals x) (some (some (.ref (He.ga K x)))) && match K.lookup (He.ga K x) with
  | some ⟨.type c, _, .seq its _, _⟩ => decide (c = "tuple") && (decide (its.size ≤ 1000) && tupItems K ds its.toList)
  | _ => false
theorem tupItems_ok {K : PySem.W.Frag} : ∀ {ds : List D} {us : List Value}, tupItems K ds us = true → ∃ vs, Vals vs us ∧ ∀ M H, RpA K M H vs ds
  | [], [], _ => ⟨[], .nil, fun _ _ => .nil⟩
  | [], _ :: _, h => nomatch h
  | _ :: _, [], h => nomatch h
  | d :: ds, u :: us, h => by
    unfold tupItems at h
    rw [Bool.and_eq_true] at h
    obtain ⟨vs, r, all⟩ := tupItems_ok h.2
    cases e : flatD d with
    | none => rw [e] at h; cases h.1
    | some v =>
      rw [e] at h
      exact ⟨v :: vs, .cons (He.relB_ok h.1) r, fun M H => .cons (flatD_rp e) (all M H)⟩
theorem tupB_ok {K : PySem.W.Frag} {x : Str} {ds : List D} (h : tupB K x ds = true) : PySem.W.nsIn K mainGlobals x = some (some (.ref (He.ga K x))) ∧ ∃ vs, SqT K (fun _ => none) (He.ga K x) vs ∧ ∀ M H, RpA K M H vs ds := by
  unfold tupB at h
  rw [Bool.and_eq_true] at h
  refine ⟨He.eqO_ok h.1, ?_⟩
  have h2 := h.2
  split at h2
  · rename_i c _ its n _ e
    simp only [Bool.and_eq_true, decide_eq_true_eq] at h2
    obtain ⟨ec, hz, ht⟩ := h2
    subst ec
    obtain ⟨vs, r, all⟩ := tupItems_ok ht
    exact ⟨vs, .inr ⟨_, its, n, e, rfl, rfl, szOf (by omega), r⟩, all⟩
  · cases h2
/-- what a written dict shows -/
def tblB (K : PySem.W.Frag) (a : Addr) (tb : Tbl) : Bool := (tb.all fun q => match flatD q.2, PySem.W.nsIn K a q.1 with
  | some v, some (some u) => He.relB v u
  | _, _ => false) && match K.lookup a with
  | some ⟨_, _, .dict es _, _⟩ => es.toList.all fun e => match e.key with
    | .str x _ => (tb.lookup x).isSome
    | _ => false
  | _ => false
theorem lookup_mem {tb : Tbl} {s : Str} {d : D} (e : tb.lookup s = some d) : (s, d) ∈ tb := by
  induction tb with
  | nil => cases e
  | cons q tb ih =>
    obtain ⟨k, d'⟩ := q
    by_cases z : s = k
    · subst z
      simp [List.lookup] at e
      subst e
      exact List.mem_cons_self
    · have z2 : (s == k) = false := by simpa using z
      simp [List.lookup, z2] at e
      exact List.mem_cons_of_mem _ (ih e)
theorem ktbl_of {K : PySem.W.Frag} {w : World} {a : Addr} {tb : Tbl} (kd : ∃ es n, KDict K w a es n) (h : tblB K a tb = true) : KTbl K w a tb := by
  unfold tblB at h
  rw [Bool.and_eq_true, List.all_eq_true] at h
  refine ⟨kd, fun s e => ?_, fun s d e => ?_⟩
  · obtain ⟨es, n, D⟩ := kd
    have h2 := h.2
    rw [D.at_] at h2
    dsimp only at h2
    rw [List.all_eq_true] at h2
    unfold PySem.W.nsIn
    rw [D.at_]
    dsimp only
    have nokey : es.toList.find? (·.key.isStr s) = none := List.find?_eq_none.mpr fun x hx z => by
      have := h2 x hx
      obtain ⟨y, t, ey, _⟩ := PySem.W.KeysLit.all D.lit x hx
      rw [ey] at this z
      dsimp only at this
      have ez : y = s := by simpa [Value.isStr] using z
      rw [ez, e] at this
      cases this
    have noref : es.toList.any (·.refKey) = false := by
      rw [List.any_eq_false]
      intro x hx z
      obtain ⟨y, t, ey, _⟩ := PySem.W.KeysLit.all D.lit x hx
      unfold DictEntry.refKey at z
      rw [ey] at z
      cases z
    rw [nokey, noref]
    rfl
  · have h1 := h.1 _ (lookup_mem e)
    dsimp only at h1
    cases e1 : flatD d with
    | none => rw [e1] at h1; cases h1
    | some v =>
      rw [e1] at h1
      cases e2 : PySem.W.nsIn K a s with
      | none => rw [e2] at h1; cases h1
      | some r =>
        rw [e2] at h1
        cases r with
        | none => cases h1
        | some u => exact ⟨u, v, rfl, He.relB_ok h1, fun M H => flatD_rp e1⟩
/-- a class: plain; its instances' fields are no names of it; its __init__ -/
def cls1 (K : PySem.W.Frag) (C : Str) : Bool := PySem.W.plainGet K (He.ga K C) Str.empty && (PySem.W.hasDictIn K (He.ga K C) && (PySem.W.plainOver K (He.ga K C) && He.eqO (PySem.W.findIn K (.ref (He.ga K C)) "__setattr__") (some (some (.builtin "object.__setattr__")))))
theorem cls1_ok {K : PySem.W.Frag} {C : Str} (h : cls1 K C = true) : Cls K (He.ga K C) := by
  unfold cls1 at h
  simp only [Bool.and_eq_true] at h
  exact ⟨h.1, h.2.1, h.2.2.1, He.eqO_ok h.2.2.2⟩
def mk1 (K : PySem.W.Frag) (C : Str) : Bool := PySem.W.makesIn K (He.ga K C) && (He.eqO (PySem.W.findIn K (.ref (He.ga K C)) "__init__") (some (some (.ref (He.ma K (He.ga K C) "__init__")))) && (PySem.W.isFn K (.ref (He.ma K (He.ga K C) "__init__")) && PySem.W.keepIn K (.ref (He.ga K C))))
theorem mk1_ok {K : PySem.W.Frag} {C : Str} (h : mk1 K C = true) : Mk K (He.ga K C) (He.ma K (He.ga K C) "__init__") := by
  unfold mk1 at h
  simp only [Bool.and_eq_true] at h
  exact ⟨h.1, He.eqO_ok h.2.1, h.2.2.1, h.2.2.2⟩
def meth1 (K : PySem.W.Frag) (C m : Str) : Bool := He.eqO (PySem.W.findIn K (.ref (He.ga K C)) m) (some (some (.ref (He.ma K (He.ga K C) m)))) && (PySem.W.isFn K (.ref (He.ma K (He.ga K C) m)) && PySem.W.keepIn K (.ref (He.ma K (He.ga K C) m)))
theorem meth1_ok {K : PySem.W.Frag} {C m : Str} (h : meth1 K C m = true) : Meth K (He.ga K C) m (He.ma K (He.ga K C) m) := by
  unfold meth1 at h
  simp only [Bool.and_eq_true] at h
  exact ⟨He.eqO_ok h.1, h.2.1, h.2.2⟩
/-- all that a head says of names -/
structure Names where
  refs : List Str
  nums : List (Str × Int)
  tups : List (Str × List D)
  frees : List Str
  cs : List Str
  flds : List (Str × List Str)
  mks : List Str
  meths : List (Str × Str)
  tbls : List (Str × Tbl)
def Names.B (N : Names) (K : PySem.W.Frag) : Bool :=
  (N.refs.all fun x => He.eqO (PySem.W.nsIn K mainGlobals x) (some (some (.ref (He.ga K x))))) &&
  ((N.nums.all fun q => intB K q.1 q.2) && ((N.tups.all fun q => tupB K q.1 q.2) && ((N.frees.all fun x => He.eqO (PySem.W.nsIn K mainGlobals x) (some none)) &&
  (kitB K N.cs && ((N.cs.all fun C => cls1 K C) && ((N.flds.all fun q => q.2.all fun C => He.eqO (PySem.W.findIn K (.ref (He.ga K C)) q.1) (some none)) &&
  ((N.mks.all fun C => mk1 K C) && ((N.meths.all fun q => meth1 K q.1 q.2) && N.tbls.all fun q => tblB K (He.ga K q.1) q.2))))))))
structure Says (N : Names) (K : PySem.W.Frag) (mg : Str → Option Value) : Prop where
  g : ∀ x ∈ N.refs, mg x = some (.ref (He.ga K x))
  i : ∀ q ∈ N.nums, ∃ tk, mg q.1 = some (.int q.2 tk)
  t : ∀ q ∈ N.tups, ∃ l vs, mg q.1 = some (.ref l) ∧ SqT K (fun _ => none) l vs ∧ ∀ M H, RpA K M H vs q.2
  fr : ∀ x ∈ N.frees, mg x = none
  kf : KitF K N.cs
  cl : ∀ C ∈ N.cs, Cls K (He.ga K C)
  fl : ∀ q ∈ N.flds, ∀ C ∈ q.2, NoAttr K (He.ga K C) q.1
  mm : ∀ C ∈ N.mks, Mk K (He.ga K C) (He.ma K (He.ga K C) "__init__")
  me : ∀ q ∈ N.meths, Meth K (He.ga K q.1) q.2 (He.ma K (He.ga K q.1) q.2)
  tb : ∀ q ∈ N.tbls, tblB K (He.ga K q.1) q.2 = true
theorem says_of {N : Names} {K : PySem.W.Frag} {h : Heap} {mg : Str → Option Value} (X : K.In h) (Gn : h.Ns mainGlobals mg) (b : N.B K = true) : Says N K mg := by
  unfold Names.B at b
  simp only [Bool.and_eq_true, List.all_eq_true] at b
  obtain ⟨b1, b2, b3, b4, b5, b6, b7, b8, b9, b10⟩ := b
  refine ⟨fun x hx => PySem.W.mg_of X Gn (He.eqO_ok (b1 x hx)), fun q hq => ?_, fun q hq => ?_, fun x hx => PySem.W.mg_none_of X Gn (He.eqO_ok (b4 x hx)), kitF_of b5, fun C hC => cls1_ok (b6 C hC), fun q hq C hC => He.eqO_ok (b7 q hq C hC), fun C hC => mk1_ok (b8 C hC), fun q hq => meth1_ok (b9 q hq), b10⟩
  · obtain ⟨tk, e⟩ := intB_ok (b2 q hq)
    exact ⟨tk, PySem.W.mg_of X Gn e⟩
  · obtain ⟨e, vs, s, r⟩ := tupB_ok (b3 q hq)
    exact ⟨_, vs, PySem.W.mg_of X Gn e, s, r⟩
theorem Says.ff {N : Names} {K : PySem.W.Frag} {mg : Str → Option Value} (s : Says N K mg) (n : Str) (cs : List Str) (h : (n, cs) ∈ N.flds) (hc : cs.all (fun C => N.cs.contains C) = true) : FldF K cs n :=
  ⟨fun C hC => s.cl C (by simpa using List.all_eq_true.mp hc C hC), fun C hC => s.fl _ h C hC⟩
end Ud

set_option Elab.async false
set_option linter.all false
set_option maxRecDepth 100000
set_option maxHeartbeats 4000000
/-! What the written-out terms use. -/
namespace Ud
open PySem PySem.Spec PyProof.Rows L2 Uc
section
variable {X : Cx} {h : Option Hd} {a b c e : Expr} {es : List Expr} {pos p : Pos} {f g : EF} {fa : AF}
theorem de_gI {x : Str} {i : Int} (hm : ∃ tk, X.mg x = some (.int i tk)) (hg : Gl X x := by rfl) (hd : (x == ("__debug__" : Str)) = false := by decide) : DE X h (.Name x pos) (cK (.int i)) := let ⟨_, z⟩ := hm; de_gint z hg hd
theorem de_gT {x : Str} {ds : List D} (hm : ∃ l vs, X.mg x = some (.ref l) ∧ SqT X.K (fun _ => none) l vs ∧ ∀ M H, RpA X.K M H vs ds) (hg : Gl X x := by rfl) (hd : (x == ("__debug__" : Str)) = false := by decide) : DE X h (.Name x pos) (cK (.tup ds)) := let ⟨_, _, z, s, r⟩ := hm; de_gtup z s r hg hd
theorem opS_eqX : OpS X h (rEqX X.K) (fun x y Φ => (vEqX x y).sat (fun k => Φ (.bl k)) noX) := fun B F G M σ δ H x y dx dy Q Φ S r1 r2 k q => by
  obtain ⟨b, e, k⟩ := optT_sat k
  exact ⟨M, dx, dy, b, r1, r2, e, Ans.now q S (.bl _) k⟩
theorem vEqX_nox {x y : D} {Φ : Bool → Prop} {Ψ : Str → List (Str × D) → Prop} (q : (vEqX x y).sat Φ Ψ) : (vEqX x y).sat Φ noX := by
  obtain ⟨b, e, k⟩ := optT_sat q
  unfold vEqX optT
  rw [e]
  exact k
theorem de_eqX {n : Nat} (hr : Room n X.A) (w : DE X h a f) (w2 : DE X h b g) : DE X h (.Compare a [.Eq] [b] pos) (cB (bB vEqX f g)) := de_cmp (op_eqX (by have := hr.un; omega)) opS_eqX (fun q => vEqX_nox q) w w2 (nomark _)
theorem dt_eqX {n : Nat} (hr : Room n X.A) (w : DE X h a f) (w2 : DE X h b g) : DT X h (.Compare a [.Eq] [b] pos) (bB vEqX f g) := dt_cmp (op_eqX (by have := hr.un; omega)) opS_eqX (fun q => vEqX_nox q) w w2 (nomark _)
theorem dt_notKd {x : Str} {l : Addr} {tb : Tbl} (kt : KTbl X.K X.w l tb) (hm : X.mg x = some (.ref l)) (w : DE X h a f) (hg : Gl X x := by rfl) (hd : (x == ("__debug__" : Str)) = false := by decide) : DT X h (.Compare a [.NotIn] [.Name x p] pos) (bNotKd tb f) := ⟨fun δ Φ Ψ q => by
  obtain ⟨es, n, kd⟩ := kt.kd
  refine wt_cmp (op_notIn_kd kd) (S := fun x y Φ => ∃ s, x = .str s ∧ y = .at_ (.ref l) ∧ Φ (.bl (!(tb.lookup s).isSome))) (fun B F G M σ δ H x y dx dy Q Φ S r1 r2 ⟨s, e1, e2, k⟩ q => ?_) (w.run δ _ Ψ (T.sat_bindM _ q fun d q2 => ?_)) rfl
  · subst e1 e2
    obtain rfl := r1.str_inv
    obtain rfl := r2.at_inv
    cases e : tb.lookup s with
    | none =>
      rw [e] at k
      exact ⟨s, none, rfl, rfl, kt.no s e, Ans.now q S (.bl _) k⟩
    | some d =>
      rw [e] at k
      obtain ⟨u, v, h1, _⟩ := kt.yes s d e
      exact ⟨s, some u, rfl, rfl, h1, Ans.now q S (.bl _) k⟩
  · obtain ⟨s, es, q2⟩ := optT_sat q2
    exact (de_kd (h := h) hm hg hd).run δ _ Ψ ⟨s, strD_ok es, rfl, _, rfl, q2⟩⟩
end
/-- an own == of the classes of E -/
structure EqD (Pg : Program) (w : World) (K : PySem.W.Frag) (mg : Str → Option Value) (base : Heap) (cs : List Str) (j : Nat) (E : List (Str × (List D → T D))) : Prop where
  ok : ∀ C g, E.lookup C = some g → C ∈ cs ∧ ∃ ps, OkM Pg w K mg base C "__eq__" j ps g
section
variable {Pg : Program} {w : World} {K : PySem.W.Frag} {mg : Str → Option Value} {base : Heap} {cs : List Str} {j : Nat} {E : List (Str × (List D → T D))}
theorem eqD_nil : EqD Pg w K mg base cs j [] := ⟨fun _ _ e => nomatch e⟩
theorem eqD_cons {C : Str} {ps : List Str} {g : List D → T D} {k : Nat} (O : OkM Pg w K mg base C "__eq__" k ps g) (t : EqD Pg w K mg base cs j E) (hk : k ≤ j := by omega) (hc : C ∈ cs := by decide +kernel) : EqD Pg w K mg base cs j ((C, g) :: E) := ⟨fun C' g' e => by
  by_cases z : C' = C
  · subst z
    have : g = g' := by simpa [List.lookup] using e
    subst this
    obtain ⟨f, fd, m, b, F⟩ := O.ex
    exact ⟨hc, ps, O.cl, ⟨f, fd, m, b, F.mono hk⟩⟩
  · have z2 : (C' == C) = false := by simpa using z
    simp only [List.lookup, z2] at e
    exact t.ok C' g' e⟩
end
theorem EqD.tab {X : Cx} {cs : List Str} {j : Nat} {E : List (Str × (List D → T D))} (t : EqD X.prog X.w X.K X.mg X.base cs j E) (kf : KitF X.K cs) (cl : ∀ C ∈ cs, Cls X.K (He.ga X.K C)) : EqTab X cs j E := ⟨kf, cl, t.ok⟩
theorem lawIs (p l : Addr) (cs : List Int) : LawIs (some (lawHd p l cs)) := fun q e _ => by cases e; exact ⟨p, l, cs, rfl⟩
theorem Ok.up {Pg : Program} {w : World} {K : PySem.W.Frag} {mg : Str → Option Value} {base : Heap} {x : Str} {k k' : Nat} {ps : List Str} {sp : Sp} (O : Ok Pg w K mg base x k ps sp) (h : k ≤ k') : Ok Pg w K mg base x k' ps sp := let ⟨f, fd, a, b, c, F⟩ := O.ex; ⟨⟨f, fd, a, b, c, F.mono h⟩⟩
/-- what no call comes to -/
theorem okNo {Pg : Program} {w : World} {K : PySem.W.Frag} {mg : Str → Option Value} {base : Heap} {f : Addr} {fd : FuncData} {ps : List Str} {k : Nat} : FnOk Pg w K mg base (L2.CX Pg w) k f fd ps (spD K (spT noT)) :=
  ⟨fun vs H Q E hp => by obtain ⟨_, _, _, _, _, _, _, _, _, s, _⟩ := hp; exact s.elim, fun A outer s H args us vs Q E hr e0 b r hp => by obtain ⟨_, _, _, _, _, _, _, _, _, s, _⟩ := hp; exact s.elim⟩
end Ud
namespace Ud
open PySem PySem.Spec PyProof.Rows L2 Uc
section
variable {N : Names} {X : Cx} {h : Option Hd} {a b c e : Expr} {es : List Expr} {pos p : Pos} {f g : EF} {fa : AF}
theorem isiN (T : Says N X.K X.mg) {x : Str} {c : Kl} (hx : x = "isinstance") (hm : X.mg x = none) (w : DE X h e f) (k : DKl X [b] [c]) (hc : c.in_ N.cs = true) (hg : Gl X x := by rfl) (hn : x ≠ "__name__" := by decide) (hdb : (x == ("__debug__" : Str)) = false := by decide)
    (he : starEach [e, b] X.env = (false, eval e X.env) :: starEach [b] X.env := by rfl) (hpl : (backTo pos (starEach [b] X.env)).any (·.1) = false := by rfl) : DE X h (.Call (.Name x p) [e, b] [] pos) (cIsi N.cs [c] f) := de_isi T.kf T.cl hx hm w k hc hg hn hdb he hpl
theorem isiTN (T : Says N X.K X.mg) {x : Str} {kt : Nat} {tpos : Pos} {cl : List Kl} (hx : x = "isinstance") (hm : X.mg x = none) (w : DE X h e f) (k : DKl X es cl) (hc : ∀ c ∈ cl, c.in_ N.cs = true) (hl : cl.length ≤ 1000) (hg : Gl X x := by rfl) (hn : x ≠ "__name__" := by decide) (hdb : (x == ("__debug__" : Str)) = false := by decide)
    (he : starEach [e, .Tuple es kt tpos] X.env = (false, eval e X.env) :: starEach [.Tuple es kt tpos] X.env := by rfl) (he2 : starEach [.Tuple es kt tpos] X.env = (false, eval (.Tuple es kt tpos) X.env) :: starEach [] X.env := by rfl) (hpl : (backTo pos (starEach [.Tuple es kt tpos] X.env)).any (·.1) = false := by rfl) :
    DE X h (.Call (.Name x p) [e, .Tuple es kt tpos] [] pos) (cIsi N.cs cl f) := de_isiT T.kf T.cl hx hm w k hc hl hg hn hdb he he2 hpl
theorem EqD.tabN {j : Nat} {E : List (Str × (List D → T D))} (t : EqD X.prog X.w X.K X.mg X.base N.cs j E) (T : Says N X.K X.mg) : EqTab X N.cs j E := ⟨T.kf, T.cl, t.ok⟩
end
end Ud
namespace Ud
open PySem PySem.Spec PyProof.Rows L2 Uc
section
variable {X : Cx} {h : Option Hd} {a b c e : Expr} {es : List Expr} {pos p : Pos} {f g k : EF} {fa : AF} {δ : List Sl}
theorem wt_chain {Φb : Bool → Prop} {Ψ : Str → List (Str × D) → Prop} {op op' : CmpOp} {r r' : R2} {S S' : D → D → (D → Prop) → Prop} (ho : OpR X (compareOp op) r) (ho' : OpR X (compareOp op') r') (hS : OpS X h r S) (hS' : OpS X h r' S')
    (w : WE X h a δ (fun x => WE X h b δ (fun y => S x y (fun d => ∃ k, d = .bl k ∧ if k = true then WE X h c δ (fun z => S' y z (fun d => ∃ k, d = .bl k ∧ Φb k)) Ψ else Φb false)) Ψ) Ψ) (hm : lastMarks [op, op'] [b, c] = false) : WT X h (.Compare a [op, op'] [b, c] pos) δ Φb Ψ := .mk fun B F G M σ H Q W tk S0 q x =>
  tS_of (pt_chain ho ho' peS peS peS hm) (w.run B F G M σ H _ W tk S0 (fun v H1 d g1 S1 r1 w2 => w2.run B F G M σ H1 _ W tk S1 (fun u H2 d2 g2 S2 r2 kk =>
    hS B F G M σ δ H2 v u d d2 _ _ S2 (r1.mono (g2.gr S1.hand)) r2 kk (fun z H3 d3 g3 S3 r3 ⟨k3, e3, f3⟩ => by
      subst e3
      obtain rfl := r3.bl_inv
      refine ⟨k3, rfl, ?_⟩
      cases k3 with
      | true =>
        simp only [if_true] at f3 ⊢
        exact f3.run B F G M σ H3 _ W tk S3 (fun y H4 d4 g4 S4 r4 k4 => hS' B F G M σ δ H4 u y d2 d4 _ _ S4 ((r2.mono (g3.gr S2.hand)).mono (g4.gr S3.hand)) r4 k4 fun z5 H5 d5 g5 S5 r5 ⟨k5, e5, f5⟩ => by
          subst e5
          obtain rfl := r5.bl_inv
          exact ⟨k5, rfl, q k5 H5 ((((g1.trans g2).trans g3).trans g4).trans g5) S5 f5⟩) (Out.on x ((g1.trans g2).trans g3))
      | false =>
        simp only [Bool.false_eq_true, if_false] at f3 ⊢
        exact ⟨false, rfl, q false H3 ((g1.trans g2).trans g3) S3 f3⟩)) (Out.on x g1)) x)
theorem dt_lele (w : DE X h a f) (w2 : DE X h b g) (w3 : DE X h c k) (hm : lastMarks [.LtE, .LtE] [b, c] = false := by rfl) : DT X h (.Compare a [.LtE, .LtE] [b, c] pos) (bB2 vLe vLe f g k) := ⟨fun δ Φ Ψ q =>
  wt_chain op_le op_le opS_B0 opS_B0 (hm := hm) (w.run δ _ Ψ (T.sat_bindM _ q fun x q2 => w2.run δ _ Ψ (T.sat_bindM _ q2 fun y q3 => vLe_ok (Ψ := Ψ) (T.sat_mono (fun b z => ⟨b, rfl, by
    cases b with
    | true =>
      simp only [if_true]
      exact w3.run δ _ Ψ (T.sat_bindM _ z fun zz q4 => vLe_ok (Ψ := Ψ) (T.sat_mono (fun k z => ⟨k, rfl, z⟩) (fun _ _ z => z) q4))
    | false => exact z⟩) (fun _ _ z => z) (T.sat_bind.mp q3)))))⟩
end
end Ud
namespace Ud
open PySem PySem.Spec PyProof.Rows L2 Uc
theorem tgA {X : Cx} {es : List Expr} {kt : Nat} {pt : Pos} (is : List Nat) (hN : X.N.Nodup) (na : NamesAt X es is := by repeat first | exact NamesAt.nil | refine NamesAt.cons rfl (by first | exact Or.inl rfl | exact Or.inr rfl) (by first | exact .inl rfl | exact .inr rfl) ?_) (hn : (assignEach es X.env).length = is.length := by rfl) (hst : (assignEach es X.env).findIdx? (·.1) = none := by rfl) (hc : X.calm = true := by rfl) : Tg X (.Tuple es kt pt) (gTup X.K is.length (gNames is)) is (putT is) := tg_tup (kt := kt) (pt := pt) is hN na hn hst hc
end Ud

set_option Elab.async false
set_option linter.all false
set_option maxRecDepth 100000
set_option maxHeartbeats 4000000
namespace V95
open PySem PySem.Spec PyProof.Rows L2 Uc Ud
def top (i : Nat) : Stmt := PySem.Challenge.pw_unmetcells_k95_whole_results_equal_by_al.main.body.getD i (.Pass ⟨0, 0, 0, 0⟩)
abbrev s_l_hand : Stmt := top 79
abbrev s_l_mix : Stmt := top 78
abbrev s_l_draw : Stmt := top 80
abbrev s_is_whole : Stmt := top 10
abbrev s_is_from : Stmt := top 11
abbrev s_is_sequence : Stmt := top 12
abbrev s_is_row : Stmt := top 13
abbrev s_is_call : Stmt := top 19
abbrev s_is_answer : Stmt := top 20
abbrev s_is_way : Stmt := top 21
abbrev s_checked_ways : Stmt := top 22
abbrev s_ends_table : Stmt := top 23
abbrev s_Book_init : Stmt := inClass (top 24) 0
abbrev s_is_entry : Stmt := top 28
abbrev s_check_history : Stmt := top 29
abbrev s_Book_ends_from : Stmt := inClass (top 24) 7
abbrev s_standing_behind : Stmt := top 33
abbrev s_calls_of : Stmt := top 30
abbrev s_standing_of : Stmt := top 34
abbrev s_is_right : Stmt := top 35
abbrev s_checked_past : Stmt := top 45
abbrev s_check_row : Stmt := top 43
abbrev s_checked_script : Stmt := top 42
abbrev s_check_scripts : Stmt := top 41
abbrev s_turns_of : Stmt := top 44
abbrev s_cut_count : Stmt := top 46
abbrev s_Wish_init : Stmt := inClass (top 47) 0
abbrev s_l_wish : Stmt := top 81
abbrev s_check_frame : Stmt := top 63
abbrev s_word_of : Stmt := top 14
abbrev s_deed_word : Stmt := top 64
abbrev s_checked_deed : Stmt := top 65
abbrev s_Foreign_init : Stmt := inClass (top 66) 0
abbrev s_Barred_init : Stmt := inClass (top 49) 0
abbrev s_Run_init : Stmt := inClass (top 56) 0
abbrev s_Exchange_init : Stmt := inClass (top 76) 0
abbrev s_Past_init : Stmt := inClass (top 70) 0
abbrev s_Unlike_init : Stmt := inClass (top 71) 0
abbrev s_l_first : Stmt := top 82
abbrev s_Meets_init : Stmt := inClass (top 72) 0
abbrev s_Clash_init : Stmt := inClass (top 68) 0
abbrev s_BarredStretch_init : Stmt := inClass (top 51) 0
abbrev s_Parting_init : Stmt := inClass (top 52) 0
abbrev s_Needless_init : Stmt := inClass (top 74) 0
abbrev s_Trial_init : Stmt := inClass (top 54) 0
abbrev s_l_second : Stmt := top 83
abbrev s_l_made : Stmt := top 84
abbrev s_Book_eq : Stmt := inClass (top 24) 5
abbrev s_Wish_eq : Stmt := inClass (top 47) 1
abbrev s_Barred_eq : Stmt := inClass (top 49) 1
abbrev s_BarredStretch_eq : Stmt := inClass (top 51) 1
abbrev s_Parting_eq : Stmt := inClass (top 52) 1
abbrev s_Trial_eq : Stmt := inClass (top 54) 1
abbrev s_Run_eq : Stmt := inClass (top 56) 2
abbrev s_Foreign_eq : Stmt := inClass (top 66) 1
abbrev s_Clash_eq : Stmt := inClass (top 68) 1
abbrev s_Past_eq : Stmt := inClass (top 70) 1
abbrev s_Unlike_eq : Stmt := inClass (top 71) 1
abbrev s_Meets_eq : Stmt := inClass (top 72) 1
abbrev s_Needless_eq : Stmt := inClass (top 74) 1
abbrev s_Exchange_eq : Stmt := inClass (top 76) 1
abbrev s_l_compared : Stmt := top 85
abbrev s_law : Stmt := top 86
def d_l_hand : He.DefD := ⟨("_law_hand", none), "_law_hand", "_law_hand", defArgs s_l_hand, defBody s_l_hand, defScope s_l_hand, [], []⟩
def d_l_mix : He.DefD := ⟨("_law_mix", none), "_law_mix", "_law_mix", defArgs s_l_mix, defBody s_l_mix, defScope s_l_mix, [], []⟩
def d_l_draw : He.DefD := ⟨("_law_draw", none), "_law_draw", "_law_draw", defArgs s_l_draw, defBody s_l_draw, defScope s_l_draw, [], []⟩
def d_is_whole : He.DefD := ⟨("is_whole", none), "is_whole", "is_whole", defArgs s_is_whole, defBody s_is_whole, defScope s_is_whole, [], []⟩
def d_is_from : He.DefD := ⟨("is_from", none), "is_from", "is_from", defArgs s_is_from, defBody s_is_from, defScope s_is_from, [], []⟩
def d_is_sequence : He.DefD := ⟨("is_sequence", none), "is_sequence", "is_sequence", defArgs s_is_sequence, defBody s_is_sequence, defScope s_is_sequence, [], []⟩
def d_is_row : He.DefD := ⟨("is_row", none), "is_row", "is_row", defArgs s_is_row, defBody s_is_row, defScope s_is_row, [], []⟩
def d_is_call : He.DefD := ⟨("is_call", none), "is_call", "is_call", defArgs s_is_call, defBody s_is_call, defScope s_is_call, [], []⟩
def d_is_answer : He.DefD := ⟨("is_answer", none), "is_answer", "is_answer", defArgs s_is_answer, defBody s_is_answer, defScope s_is_answer, [], []⟩
def d_is_way : He.DefD := ⟨("is_way", none), "is_way", "is_way", defArgs s_is_way, defBody s_is_way, defScope s_is_way, [], []⟩
def d_checked_ways : He.DefD := ⟨("checked_ways", none), "checked_ways", "checked_ways", defArgs s_checked_ways, defBody s_checked_ways, defScope s_checked_ways, [], []⟩
def d_ends_table : He.DefD := ⟨("ends_table", none), "ends_table", "ends_table", defArgs s_ends_table, defBody s_ends_table, defScope s_ends_table, [], []⟩
def d_Book_init : He.DefD := ⟨("Book", some "__init__"), "__init__", "Book.__init__", defArgs s_Book_init, defBody s_Book_init, defScope s_Book_init, [], []⟩
def d_is_entry : He.DefD := ⟨("is_entry", none), "is_entry", "is_entry", defArgs s_is_entry, defBody s_is_entry, defScope s_is_entry, [], []⟩
def d_check_history : He.DefD := ⟨("check_history", none), "check_history", "check_history", defArgs s_check_history, defBody s_check_history, defScope s_check_history, [], []⟩
def d_Book_ends_from : He.DefD := ⟨("Book", some "ends_from"), "ends_from", "Book.ends_from", defArgs s_Book_ends_from, defBody s_Book_ends_from, defScope s_Book_ends_from, [], []⟩
def d_standing_behind : He.DefD := ⟨("standing_behind", none), "standing_behind", "standing_behind", defArgs s_standing_behind, defBody s_standing_behind, defScope s_standing_behind, [], []⟩
def d_calls_of : He.DefD := ⟨("calls_of", none), "calls_of", "calls_of", defArgs s_calls_of, defBody s_calls_of, defScope s_calls_of, [], []⟩
def d_standing_of : He.DefD := ⟨("standing_of", none), "standing_of", "standing_of", defArgs s_standing_of, defBody s_standing_of, defScope s_standing_of, [], []⟩
def d_is_right : He.DefD := ⟨("is_right", none), "is_right", "is_right", defArgs s_is_right, defBody s_is_right, defScope s_is_right, [], []⟩
def d_checked_past : He.DefD := ⟨("checked_past", none), "checked_past", "checked_past", defArgs s_checked_past, defBody s_checked_past, defScope s_checked_past, [], []⟩
def d_check_row : He.DefD := ⟨("check_row", none), "check_row", "check_row", defArgs s_check_row, defBody s_check_row, defScope s_check_row, [], []⟩
def d_checked_script : He.DefD := ⟨("checked_script", none), "checked_script", "checked_script", defArgs s_checked_script, defBody s_checked_script, defScope s_checked_script, [], []⟩
def d_check_scripts : He.DefD := ⟨("check_scripts", none), "check_scripts", "check_scripts", defArgs s_check_scripts, defBody s_check_scripts, defScope s_check_scripts, [], []⟩
def d_turns_of : He.DefD := ⟨("turns_of", none), "turns_of", "turns_of", defArgs s_turns_of, defBody s_turns_of, defScope s_turns_of, [], []⟩
def d_cut_count : He.DefD := ⟨("cut_count", none), "cut_count", "cut_count", defArgs s_cut_count, defBody s_cut_count, defScope s_cut_count, [], []⟩
def d_Wish_init : He.DefD := ⟨("Wish", some "__init__"), "__init__", "Wish.__init__", defArgs s_Wish_init, defBody s_Wish_init, defScope s_Wish_init, [], []⟩
def d_l_wish : He.DefD := ⟨("_law_wish", none), "_law_wish", "_law_wish", defArgs s_l_wish, defBody s_l_wish, defScope s_l_wish, [], []⟩
def d_check_frame : He.DefD := ⟨("check_frame", none), "check_frame", "check_frame", defArgs s_check_frame, defBody s_check_frame, defScope s_check_frame, [], []⟩
def d_word_of : He.DefD := ⟨("word_of", none), "word_of", "word_of", defArgs s_word_of, defBody s_word_of, defScope s_word_of, [], []⟩
def d_deed_word : He.DefD := ⟨("deed_word", none), "deed_word", "deed_word", defArgs s_deed_word, defBody s_deed_word, defScope s_deed_word, [], []⟩
def d_checked_deed : He.DefD := ⟨("checked_deed", none), "checked_deed", "checked_deed", defArgs s_checked_deed, defBody s_checked_deed, defScope s_checked_deed, [], []⟩
def d_Foreign_init : He.DefD := ⟨("Foreign", some "__init__"), "__init__", "Foreign.__init__", defArgs s_Foreign_init, defBody s_Foreign_init, defScope s_Foreign_init, [], []⟩
def d_Barred_init : He.DefD := ⟨("Barred", some "__init__"), "__init__", "Barred.__init__", defArgs s_Barred_init, defBody s_Barred_init, defScope s_Barred_init, [], []⟩
def d_Run_init : He.DefD := ⟨("Run", some "__init__"), "__init__", "Run.__init__", defArgs s_Run_init, defBody s_Run_init, defScope s_Run_init, [], []⟩
def d_Exchange_init : He.DefD := ⟨("Exchange", some "__init__"), "__init__", "Exchange.__init__", defArgs s_Exchange_init, defBody s_Exchange_init, defScope s_Exchange_init, [], []⟩
def d_Past_init : He.DefD := ⟨("Past", some "__init__"), "__init__", "Past.__init__", defArgs s_Past_init, defBody s_Past_init, defScope s_Past_init, [], []⟩
def d_Unlike_init : He.DefD := ⟨("Unlike", some "__init__"), "__init__", "Unlike.__init__", defArgs s_Unlike_init, defBody s_Unlike_init, defScope s_Unlike_init, [], []⟩
def d_l_first : He.DefD := ⟨("_law_first", none), "_law_first", "_law_first", defArgs s_l_first, defBody s_l_first, defScope s_l_first, [], []⟩
def d_Meets_init : He.DefD := ⟨("Meets", some "__init__"), "__init__", "Meets.__init__", defArgs s_Meets_init, defBody s_Meets_init, defScope s_Meets_init, [], []⟩
def d_Clash_init : He.DefD := ⟨("Clash", some "__init__"), "__init__", "Clash.__init__", defArgs s_Clash_init, defBody s_Clash_init, defScope s_Clash_init, [], []⟩
def d_BarredStretch_init : He.DefD := ⟨("BarredStretch", some "__init__"), "__init__", "BarredStretch.__init__", defArgs s_BarredStretch_init, defBody s_BarredStretch_init, defScope s_BarredStretch_init, [], []⟩
def d_Parting_init : He.DefD := ⟨("Parting", some "__init__"), "__init__", "Parting.__init__", defArgs s_Parting_init, defBody s_Parting_init, defScope s_Parting_init, [], []⟩
def d_Needless_init : He.DefD := ⟨("Needless", some "__init__"), "__init__", "Needless.__init__", defArgs s_Needless_init, defBody s_Needless_init, defScope s_Needless_init, [], []⟩
def d_Trial_init : He.DefD := ⟨("Trial", some "__init__"), "__init__", "Trial.__init__", defArgs s_Trial_init, defBody s_Trial_init, defScope s_Trial_init, [], []⟩
def d_l_second : He.DefD := ⟨("_law_second", none), "_law_second", "_law_second", defArgs s_l_second, defBody s_l_second, defScope s_l_second, [], []⟩
def d_l_made : He.DefD := ⟨("_law_made", none), "_law_made", "_law_made", defArgs s_l_made, defBody s_l_made, defScope s_l_made, [], []⟩
def d_Book_eq : He.DefD := ⟨("Book", some "__eq__"), "__eq__", "Book.__eq__", defArgs s_Book_eq, defBody s_Book_eq, defScope s_Book_eq, [], []⟩
def d_Wish_eq : He.DefD := ⟨("Wish", some "__eq__"), "__eq__", "Wish.__eq__", defArgs s_Wish_eq, defBody s_Wish_eq, defScope s_Wish_eq, [], []⟩
def d_Barred_eq : He.DefD := ⟨("Barred", some "__eq__"), "__eq__", "Barred.__eq__", defArgs s_Barred_eq, defBody s_Barred_eq, defScope s_Barred_eq, [], []⟩
def d_BarredStretch_eq : He.DefD := ⟨("BarredStretch", some "__eq__"), "__eq__", "BarredStretch.__eq__", defArgs s_BarredStretch_eq, defBody s_BarredStretch_eq, defScope s_BarredStretch_eq, [], []⟩
def d_Parting_eq : He.DefD := ⟨("Parting", some "__eq__"), "__eq__", "Parting.__eq__", defArgs s_Parting_eq, defBody s_Parting_eq, defScope s_Parting_eq, [], []⟩
def d_Trial_eq : He.DefD := ⟨("Trial", some "__eq__"), "__eq__", "Trial.__eq__", defArgs s_Trial_eq, defBody s_Trial_eq, defScope s_Trial_eq, [], []⟩
def d_Run_eq : He.DefD := ⟨("Run", some "__eq__"), "__eq__", "Run.__eq__", defArgs s_Run_eq, defBody s_Run_eq, defScope s_Run_eq, [], []⟩
def d_Foreign_eq : He.DefD := ⟨("Foreign", some "__eq__"), "__eq__", "Foreign.__eq__", defArgs s_Foreign_eq, defBody s_Foreign_eq, defScope s_Foreign_eq, [], []⟩
def d_Clash_eq : He.DefD := ⟨("Clash", some "__eq__"), "__eq__", "Clash.__eq__", defArgs s_Clash_eq, defBody s_Clash_eq, defScope s_Clash_eq, [], []⟩
def d_Past_eq : He.DefD := ⟨("Past", some "__eq__"), "__eq__", "Past.__eq__", defArgs s_Past_eq, defBody s_Past_eq, defScope s_Past_eq, [], []⟩
def d_Unlike_eq : He.DefD := ⟨("Unlike", some "__eq__"), "__eq__", "Unlike.__eq__", defArgs s_Unlike_eq, defBody s_Unlike_eq, defScope s_Unlike_eq, [], []⟩
def d_Meets_eq : He.DefD := ⟨("Meets", some "__eq__"), "__eq__", "Meets.__eq__", defArgs s_Meets_eq, defBody s_Meets_eq, defScope s_Meets_eq, [], []⟩
def d_Needless_eq : He.DefD := ⟨("Needless", some "__eq__"), "__eq__", "Needless.__eq__", defArgs s_Needless_eq, defBody s_Needless_eq, defScope s_Needless_eq, [], []⟩
def d_Exchange_eq : He.DefD := ⟨("Exchange", some "__eq__"), "__eq__", "Exchange.__eq__", defArgs s_Exchange_eq, defBody s_Exchange_eq, defScope s_Exchange_eq, [], []⟩
def d_l_compared : He.DefD := ⟨("_law_compared", none), "_law_compared", "_law_compared", defArgs s_l_compared, defBody s_l_compared, defScope s_l_compared, [], []⟩
def d_law : He.DefD := ⟨("law", none), "law", "law", defArgs s_law, defBody s_law, defScope s_law, [], []⟩
abbrev cs : List PySem.Str := ["Book", "Wish", "Barred", "BarredStretch", "Parting", "Trial", "Run", "Foreign", "Clash", "Past", "Unlike", "Meets", "Needless", "Exchange"]
abbrev fl_ways : List PySem.Str := ["Book"]
abbrev fl_states : List PySem.Str := ["Book"]
abbrev fl_calls : List PySem.Str := ["Book", "Foreign"]
abbrev fl__borne : List PySem.Str := ["Book"]
abbrev fl__ends : List PySem.Str := ["Book"]
abbrev fl_book : List PySem.Str := ["Wish"]
abbrev fl_past : List PySem.Str := ["Wish"]
abbrev fl_scripts : List PySem.Str := ["Wish"]
abbrev fl_cut : List PySem.Str := ["Barred", "Clash", "Unlike", "Meets"]
abbrev fl_joint : List PySem.Str := ["Barred", "BarredStretch"]
abbrev fl_plan : List PySem.Str := ["Barred", "BarredStretch"]
abbrev fl_stretch : List PySem.Str := ["BarredStretch"]
abbrev fl_counts : List PySem.Str := ["BarredStretch"]
abbrev fl_seams : List PySem.Str := ["Parting"]
abbrev fl_joints : List PySem.Str := ["Parting"]
abbrev fl_wish : List PySem.Str := ["Trial"]
abbrev fl_met : List PySem.Str := ["Trial"]
abbrev fl_won : List PySem.Str := ["Trial"]
abbrev fl_lost : List PySem.Str := ["Trial"]
abbrev fl_entries : List PySem.Str := ["Run"]
abbrev fl_marks : List PySem.Str := ["Run"]
abbrev fl_cells : List PySem.Str := ["Run"]
abbrev fl_sizes : List PySem.Str := ["Foreign"]
abbrev fl_rows : List PySem.Str := ["Foreign"]
abbrev fl_heads : List PySem.Str := ["Clash"]
abbrev fl_what : List PySem.Str := ["Clash"]
abbrev fl_trail : List PySem.Str := ["Clash"]
abbrev fl_index : List PySem.Str := ["Past"]
abbrev fl_hand : List PySem.Str := ["Unlike"]
abbrev fl_call : List PySem.Str := ["Unlike"]
abbrev fl_one : List PySem.Str := ["Meets"]
abbrev fl_other : List PySem.Str := ["Meets"]
abbrev fl_cell : List PySem.Str := ["Meets"]
abbrev fl_way : List PySem.Str := ["Needless"]
abbrev fl_ahead : List PySem.Str := ["Exchange"]
abbrev fl_behind : List PySem.Str := ["Exchange"]
abbrev fl_meets : List PySem.Str := ["Exchange"]
abbrev tb_DEEDS : Tbl := [("say", .int 2), ("read", .int 3), ("write", .int 4)]
def NN : Names where
  refs := (["_law_hand", "_law_mix", "_law_draw", "is_whole", "is_from", "is_sequence", "is_row", "is_call", "is_answer", "is_way", "checked_ways", "ends_table", "is_entry", "check_history", "standing_behind"] : List PySem.Str) ++ (["calls_of", "standing_of", "is_right", "checked_past", "check_row", "checked_script", "check_scripts", "turns_of", "cut_count", "_law_wish", "check_frame", "word_of", "deed_word", "checked_deed", "_law_first"] : List PySem.Str) ++ (["_law_second", "_law_made", "_law_compared", "law", "Book", "Wish", "Barred", "BarredStretch", "Parting", "Trial", "Run", "Foreign", "Clash", "Past", "Unlike"] : List PySem.Str) ++ (["Meets", "Needless", "Exchange", "DEEDS"] : List PySem.Str)
  nums := ([("MOST_STATES", 6), ("MOST_CALLS", 4), ("MOST_WAYS", 432), ("MOST_HAND", 9), ("MOST_ENTRIES", 400), ("MOST_SCRIPTS", 3), ("MOST_DEPTH", 3), ("MOST_PAST", 6)] : List (PySem.Str × Int)) ++ ([("MOST_CUTS", 200), ("MOST_VALUES", 3), ("MOST_TOUCHES", 5), ("HANDS", 4)] : List (PySem.Str × Int))
  tups := ([("START", [.int 0]), ("CELLS", [.str "c0", .str "c1", .str "c2"])] : List (PySem.Str × List D))
  frees := (["int", "abs", "len", "range", "enumerate", "isinstance", "tuple", "sorted", "bool", "str", "list", "set", "all"] : List PySem.Str)
  cs := cs
  flds := ([("ways", fl_ways), ("states", fl_states), ("calls", fl_calls), ("_borne", fl__borne), ("_ends", fl__ends), ("book", fl_book), ("past", fl_past), ("scripts", fl_scripts)] : List (PySem.Str × List PySem.Str)) ++ ([("cut", fl_cut), ("joint", fl_joint), ("plan", fl_plan), ("stretch", fl_stretch), ("counts", fl_counts), ("seams", fl_seams), ("joints", fl_joints), ("wish", fl_wish)] : List (PySem.Str × List PySem.Str)) ++ ([("met", fl_met), ("won", fl_won), ("lost", fl_lost), ("entries", fl_entries), ("marks", fl_marks), ("cells", fl_cells), ("sizes", fl_sizes), ("rows", fl_rows)] : List (PySem.Str × List PySem.Str)) ++ ([("heads", fl_heads), ("what", fl_what), ("trail", fl_trail), ("index", fl_index), ("hand", fl_hand), ("call", fl_call), ("one", fl_one), ("other", fl_other)] : List (PySem.Str × List PySem.Str)) ++ ([("cell", fl_cell), ("way", fl_way), ("ahead", fl_ahead), ("behind", fl_behind), ("meets", fl_meets)] : List (PySem.Str × List PySem.Str))
  mks := cs
  meths := ([("Book", "ends_from"), ("Book", "__eq__"), ("Wish", "__eq__"), ("Barred", "__eq__"), ("BarredStretch", "__eq__"), ("Parting", "__eq__"), ("Trial", "__eq__"), ("Run", "__eq__")] : List (PySem.Str × PySem.Str)) ++ ([("Foreign", "__eq__"), ("Clash", "__eq__"), ("Past", "__eq__"), ("Unlike", "__eq__"), ("Meets", "__eq__"), ("Needless", "__eq__"), ("Exchange", "__eq__")] : List (PySem.Str × PySem.Str))
  tbls := ([("DEEDS", tb_DEEDS)] : List (PySem.Str × Tbl))
theorem NN.mem_t (i : Nat) (h : i < NN.tups.length := by decide) : NN.tups[i] ∈ NN.tups := List.getElem_mem h
def fn : List He.DefD := [d_l_hand, d_l_mix, d_l_draw, d_is_whole, d_is_from, d_is_sequence, d_is_row, d_is_call, d_is_answer, d_is_way, d_checked_ways, d_ends_table, d_Book_init, d_is_entry, d_check_history] ++ [d_Book_ends_from, d_standing_behind, d_calls_of, d_standing_of, d_is_right, d_checked_past, d_check_row, d_checked_script, d_check_scripts, d_turns_of, d_cut_count, d_Wish_init, d_l_wish, d_check_frame, d_word_of] ++ [d_deed_word, d_checked_deed, d_Foreign_init, d_Barred_init, d_Run_init, d_Exchange_init, d_Past_init, d_Unlike_init, d_l_first, d_Meets_init, d_Clash_init, d_BarredStretch_init, d_Parting_init, d_Needless_init, d_Trial_init] ++ [d_l_second, d_l_made, d_Book_eq, d_Wish_eq, d_Barred_eq, d_BarredStretch_eq, d_Parting_eq, d_Trial_eq, d_Run_eq, d_Foreign_eq, d_Clash_eq, d_Past_eq, d_Unlike_eq, d_Meets_eq, d_Needless_eq] ++ [d_Exchange_eq, d_l_compared, d_law]
def ts : TabL := [(fun K => He.ga K "DEEDS", ["say", "read", "write"])]
def loose : List PySem.Str := (["_wall", "CallError", "BadBook", "BadHistory", "TooMany", "BadScripts", "BadPast", "BadForeign", "is_whole", "is_from", "is_sequence", "is_row", "word_of", "MOST_STATES", "MOST_CALLS"] : List PySem.Str) ++ (["MOST_WAYS", "is_call", "is_answer", "is_way", "checked_ways", "ends_table", "Book", "MOST_HAND", "MOST_ENTRIES", "is_entry", "check_history", "calls_of", "START", "standing_behind", "standing_of"] : List PySem.Str) ++ (["is_right", "MOST_SCRIPTS", "MOST_DEPTH", "MOST_PAST", "MOST_CUTS", "check_scripts", "checked_script", "check_row", "turns_of", "checked_past", "cut_count", "Wish", "Barred", "BarredStretch", "Parting"] : List PySem.Str) ++ (["Trial", "Run", "CELLS", "MOST_VALUES", "MOST_TOUCHES", "DEEDS", "HANDS", "check_frame", "deed_word", "checked_deed", "Foreign", "Clash", "Past", "Unlike", "Meets"] : List PySem.Str) ++ (["Needless", "Exchange", "_law_mix", "_law_hand", "_law_draw", "_law_wish", "_law_first", "_law_second", "_law_made", "_law_compared"] : List PySem.Str)
abbrev FnP (K : PySem.W.Frag) (x : Str) (st : Stmt) (f : Addr) (fd : FuncData) : Prop := FunD K x x (defArgs st) (defBody st) (defScope st) [] [] f fd
abbrev n_l_hand : List PySem.Str := ["_law_script", "_law_total", "_law_k", "_law_cell"]
theorem sc_l_hand : FnScope n_l_hand ["_law_script"] (defScope s_l_hand) := ⟨rfl, rfl, rfl, by decide +kernel, rfl, by decide +kernel, by decide +kernel⟩
abbrev n_l_mix : List PySem.Str := ["_law_number", "_law_turn", "_law_once", "_law_twice"]
theorem sc_l_mix : FnScope n_l_mix ["_law_number", "_law_turn"] (defScope s_l_mix) := ⟨rfl, rfl, rfl, by decide +kernel, rfl, by decide +kernel, by decide +kernel⟩
abbrev n_l_draw : List PySem.Str := ["_law_hand_here", "_law_many", "_law_cell", "_law_rest"]
theorem sc_l_draw : FnScope n_l_draw ["_law_hand_here", "_law_many"] (defScope s_l_draw) := ⟨rfl, rfl, rfl, by decide +kernel, rfl, by decide +kernel, by decide +kernel⟩
abbrev n_is_whole : List PySem.Str := ["thing"]
theorem sc_is_whole : FnScope n_is_whole ["thing"] (defScope s_is_whole) := ⟨rfl, rfl, rfl, by decide +kernel, rfl, by decide +kernel, by decide +kernel⟩
abbrev n_is_from : List PySem.Str := ["thing", "low", "high"]
theorem sc_is_from : FnScope n_is_from ["thing", "low", "high"] (defScope s_is_from) := ⟨rfl, rfl, rfl, by decide +kernel, rfl, by decide +kernel, by decide +kernel⟩
abbrev n_is_sequence : List PySem.Str := ["thing"]
theorem sc_is_sequence : FnScope n_is_sequence ["thing"] (defScope s_is_sequence) := ⟨rfl, rfl, rfl, by decide +kernel, rfl, by decide +kernel, by decide +kernel⟩
abbrev n_is_row : List PySem.Str := ["thing", "length"]
theorem sc_is_row : FnScope n_is_row ["thing", "length"] (defScope s_is_row) := ⟨rfl, rfl, rfl, by decide +kernel, rfl, by decide +kernel, by decide +kernel⟩
abbrev n_is_call : List PySem.Str := ["calls", "thing"]
theorem sc_is_call : FnScope n_is_call ["calls", "thing"] (defScope s_is_call) := ⟨rfl, rfl, rfl, by decide +kernel, rfl, by decide +kernel, by decide +kernel⟩
abbrev n_is_answer : List PySem.Str := ["thing"]
theorem sc_is_answer : FnScope n_is_answer ["thing"] (defScope s_is_answer) := ⟨rfl, rfl, rfl, by decide +kernel, rfl, by decide +kernel, by decide +kernel⟩
abbrev n_is_way : List PySem.Str := ["states", "calls", "thing", "state", "call", "answer", "after"]
theorem sc_is_way : FnScope n_is_way ["states", "calls", "thing"] (defScope s_is_way) := ⟨rfl, rfl, rfl, by decide +kernel, rfl, by decide +kernel, by decide +kernel⟩
abbrev n_checked_ways : List PySem.Str := ["states", "calls", "ways", "way", "rows", "row"]
theorem sc_checked_ways : FnScope n_checked_ways ["states", "calls", "ways"] (defScope s_checked_ways) := ⟨rfl, rfl, rfl, by decide +kernel, rfl, by decide +kernel, by decide +kernel⟩
abbrev n_ends_table : List PySem.Str := ["ways", "table", "state", "call", "answer", "after", "key"]
theorem sc_ends_table : FnScope n_ends_table ["ways"] (defScope s_ends_table) := ⟨rfl, rfl, rfl, by decide +kernel, rfl, by decide +kernel, by decide +kernel⟩
abbrev n_Book_init : List PySem.Str := ["self", "states", "calls", "ways", "way"]
theorem sc_Book_init : FnScope n_Book_init ["self", "states", "calls", "ways"] (defScope s_Book_init) := ⟨rfl, rfl, rfl, by decide +kernel, rfl, by decide +kernel, by decide +kernel⟩
abbrev n_is_entry : List PySem.Str := ["book", "thing"]
theorem sc_is_entry : FnScope n_is_entry ["book", "thing"] (defScope s_is_entry) := ⟨rfl, rfl, rfl, by decide +kernel, rfl, by decide +kernel, by decide +kernel⟩
abbrev n_check_history : List PySem.Str := ["book", "history", "index", "entry"]
theorem sc_check_history : FnScope n_check_history ["book", "history"] (defScope s_check_history) := ⟨rfl, rfl, rfl, by decide +kernel, rfl, by decide +kernel, by decide +kernel⟩
abbrev n_Book_ends_from : List PySem.Str := ["self", "standing", "call", "answer", "found", "state", "after"]
theorem sc_Book_ends_from : FnScope n_Book_ends_from ["self", "standing", "call", "answer"] (defScope s_Book_ends_from) := ⟨rfl, rfl, rfl, by decide +kernel, rfl, by decide +kernel, by decide +kernel⟩
abbrev n_standing_behind : List PySem.Str := ["book", "standing", "trail", "call", "answer"]
theorem sc_standing_behind : FnScope n_standing_behind ["book", "standing", "trail"] (defScope s_standing_behind) := ⟨rfl, rfl, rfl, by decide +kernel, rfl, by decide +kernel, by decide +kernel⟩
abbrev n_calls_of : List PySem.Str := ["history", "entry"]
theorem sc_calls_of : FnScope n_calls_of ["history"] (defScope s_calls_of) := ⟨rfl, rfl, rfl, by decide +kernel, rfl, by decide +kernel, by decide +kernel⟩
abbrev n_standing_of : List PySem.Str := ["book", "history"]
theorem sc_standing_of : FnScope n_standing_of ["book", "history"] (defScope s_standing_of) := ⟨rfl, rfl, rfl, by decide +kernel, rfl, by decide +kernel, by decide +kernel⟩
abbrev n_is_right : List PySem.Str := ["book", "history"]
theorem sc_is_right : FnScope n_is_right ["book", "history"] (defScope s_is_right) := ⟨rfl, rfl, rfl, by decide +kernel, rfl, by decide +kernel, by decide +kernel⟩
abbrev n_checked_past : List PySem.Str := ["book", "past", "checked"]
theorem sc_checked_past : FnScope n_checked_past ["book", "past"] (defScope s_checked_past) := ⟨rfl, rfl, rfl, by decide +kernel, rfl, by decide +kernel, by decide +kernel⟩
abbrev n_check_row : List PySem.Str := ["book", "hand", "row", "depth", "least"]
theorem sc_check_row : FnScope n_check_row ["book", "hand", "row", "depth", "least"] (defScope s_check_row) := ⟨rfl, rfl, rfl, by decide +kernel, rfl, by decide +kernel, by decide +kernel⟩
abbrev n_checked_script : List PySem.Str := ["book", "hand", "script", "depth", "rows", "least", "row", "call", "answer", "behind"]
theorem sc_checked_script : FnScope n_checked_script ["book", "hand", "script", "depth"] (defScope s_checked_script) := ⟨rfl, rfl, rfl, by decide +kernel, rfl, by decide +kernel, by decide +kernel⟩
abbrev n_check_scripts : List PySem.Str := ["book", "scripts", "hand", "script"]
theorem sc_check_scripts : FnScope n_check_scripts ["book", "scripts"] (defScope s_check_scripts) := ⟨rfl, rfl, rfl, by decide +kernel, rfl, by decide +kernel, by decide +kernel⟩
abbrev n_turns_of : List PySem.Str := ["script", "turns", "call", "_", "behind", "turn"]
theorem sc_turns_of : FnScope n_turns_of ["script"] (defScope s_turns_of) := ⟨rfl, rfl, rfl, by decide +kernel, rfl, by decide +kernel, by decide +kernel⟩
abbrev n_cut_count : List PySem.Str := ["scripts", "count", "script"]
theorem sc_cut_count : FnScope n_cut_count ["scripts"] (defScope s_cut_count) := ⟨rfl, rfl, rfl, by decide +kernel, rfl, by decide +kernel, by decide +kernel⟩
abbrev n_Wish_init : List PySem.Str := ["self", "book", "past", "scripts", "entries", "trees"]
theorem sc_Wish_init : FnScope n_Wish_init ["self", "book", "past", "scripts"] (defScope s_Wish_init) := ⟨rfl, rfl, rfl, by decide +kernel, rfl, by decide +kernel, by decide +kernel⟩
abbrev n_l_wish : List PySem.Str := ["_law_a", "_law_b", "_law_c", "_law_book"]
theorem sc_l_wish : FnScope n_l_wish ["_law_a", "_law_b", "_law_c"] (defScope s_l_wish) := ⟨rfl, rfl, rfl, by decide +kernel, rfl, by decide +kernel, by decide +kernel⟩
abbrev n_check_frame : List PySem.Str := ["sizes", "rows", "hand", "deeds", "size"]
theorem sc_check_frame : FnScope n_check_frame ["sizes", "rows"] (defScope s_check_frame) := ⟨rfl, rfl, rfl, by decide +kernel, rfl, by decide +kernel, by decide +kernel⟩
abbrev n_word_of : List PySem.Str := ["thing"]
theorem sc_word_of : FnScope n_word_of ["thing"] (defScope s_word_of) := ⟨rfl, rfl, rfl, by decide +kernel, rfl, by decide +kernel, by decide +kernel⟩
abbrev n_deed_word : List PySem.Str := ["sizes", "deed", "above", "size"]
theorem sc_deed_word : FnScope n_deed_word ["sizes", "deed", "above"] (defScope s_deed_word) := ⟨rfl, rfl, rfl, by decide +kernel, rfl, by decide +kernel, by decide +kernel⟩
abbrev n_checked_deed : List PySem.Str := ["sizes", "hand", "call", "deed", "above", "what", "below", "lesser"]
theorem sc_checked_deed : FnScope n_checked_deed ["sizes", "hand", "call", "deed", "above"] (defScope s_checked_deed) := ⟨rfl, rfl, rfl, by decide +kernel, rfl, by decide +kernel, by decide +kernel⟩
abbrev n_Foreign_init : List PySem.Str := ["self", "sizes", "rows", "table", "hand", "deeds", "call", "deed"]
theorem sc_Foreign_init : FnScope n_Foreign_init ["self", "sizes", "rows"] (defScope s_Foreign_init) := ⟨rfl, rfl, rfl, by decide +kernel, rfl, by decide +kernel, by decide +kernel⟩
abbrev n_Barred_init : List PySem.Str := ["self", "cut", "joint", "plan"]
theorem sc_Barred_init : FnScope n_Barred_init ["self", "cut", "joint", "plan"] (defScope s_Barred_init) := ⟨rfl, rfl, rfl, by decide +kernel, rfl, by decide +kernel, by decide +kernel⟩
abbrev n_Run_init : List PySem.Str := ["self", "entries", "marks", "cells"]
theorem sc_Run_init : FnScope n_Run_init ["self", "entries", "marks", "cells"] (defScope s_Run_init) := ⟨rfl, rfl, rfl, by decide +kernel, rfl, by decide +kernel, by decide +kernel⟩
abbrev n_Exchange_init : List PySem.Str := ["self", "ahead", "behind", "meets"]
theorem sc_Exchange_init : FnScope n_Exchange_init ["self", "ahead", "behind", "meets"] (defScope s_Exchange_init) := ⟨rfl, rfl, rfl, by decide +kernel, rfl, by decide +kernel, by decide +kernel⟩
abbrev n_Past_init : List PySem.Str := ["self", "index"]
theorem sc_Past_init : FnScope n_Past_init ["self", "index"] (defScope s_Past_init) := ⟨rfl, rfl, rfl, by decide +kernel, rfl, by decide +kernel, by decide +kernel⟩
abbrev n_Unlike_init : List PySem.Str := ["self", "cut", "hand", "call"]
theorem sc_Unlike_init : FnScope n_Unlike_init ["self", "cut", "hand", "call"] (defScope s_Unlike_init) := ⟨rfl, rfl, rfl, by decide +kernel, rfl, by decide +kernel, by decide +kernel⟩
abbrev n_l_first : List PySem.Str := ["_law_which", "_law_n"]
theorem sc_l_first : FnScope n_l_first ["_law_which", "_law_n"] (defScope s_l_first) := ⟨rfl, rfl, rfl, by decide +kernel, rfl, by decide +kernel, by decide +kernel⟩
abbrev n_Meets_init : List PySem.Str := ["self", "cut", "one", "other", "cell"]
theorem sc_Meets_init : FnScope n_Meets_init ["self", "cut", "one", "other", "cell"] (defScope s_Meets_init) := ⟨rfl, rfl, rfl, by decide +kernel, rfl, by decide +kernel, by decide +kernel⟩
abbrev n_Clash_init : List PySem.Str := ["self", "cut", "heads", "what", "trail"]
theorem sc_Clash_init : FnScope n_Clash_init ["self", "cut", "heads", "what", "trail"] (defScope s_Clash_init) := ⟨rfl, rfl, rfl, by decide +kernel, rfl, by decide +kernel, by decide +kernel⟩
abbrev n_BarredStretch_init : List PySem.Str := ["self", "stretch", "counts", "joint", "plan"]
theorem sc_BarredStretch_init : FnScope n_BarredStretch_init ["self", "stretch", "counts", "joint", "plan"] (defScope s_BarredStretch_init) := ⟨rfl, rfl, rfl, by decide +kernel, rfl, by decide +kernel, by decide +kernel⟩
abbrev n_Parting_init : List PySem.Str := ["self", "seams", "joints"]
theorem sc_Parting_init : FnScope n_Parting_init ["self", "seams", "joints"] (defScope s_Parting_init) := ⟨rfl, rfl, rfl, by decide +kernel, rfl, by decide +kernel, by decide +kernel⟩
abbrev n_Needless_init : List PySem.Str := ["self", "way"]
theorem sc_Needless_init : FnScope n_Needless_init ["self", "way"] (defScope s_Needless_init) := ⟨rfl, rfl, rfl, by decide +kernel, rfl, by decide +kernel, by decide +kernel⟩
abbrev n_Trial_init : List PySem.Str := ["self", "wish", "met", "won", "lost"]
theorem sc_Trial_init : FnScope n_Trial_init ["self", "wish", "met", "won", "lost"] (defScope s_Trial_init) := ⟨rfl, rfl, rfl, by decide +kernel, rfl, by decide +kernel, by decide +kernel⟩
abbrev n_l_second : List PySem.Str := ["_law_which", "_law_n"]
theorem sc_l_second : FnScope n_l_second ["_law_which", "_law_n"] (defScope s_l_second) := ⟨rfl, rfl, rfl, by decide +kernel, rfl, by decide +kernel, by decide +kernel⟩
abbrev n_l_made : List PySem.Str := ["_law_which", "_law_n"]
theorem sc_l_made : FnScope n_l_made ["_law_which", "_law_n"] (defScope s_l_made) := ⟨rfl, rfl, rfl, by decide +kernel, rfl, by decide +kernel, by decide +kernel⟩
abbrev n_Book_eq : List PySem.Str := ["self", "other"]
theorem sc_Book_eq : FnScope n_Book_eq ["self", "other"] (defScope s_Book_eq) := ⟨rfl, rfl, rfl, by decide +kernel, rfl, by decide +kernel, by decide +kernel⟩
abbrev n_Wish_eq : List PySem.Str := ["self", "other"]
theorem sc_Wish_eq : FnScope n_Wish_eq ["self", "other"] (defScope s_Wish_eq) := ⟨rfl, rfl, rfl, by decide +kernel, rfl, by decide +kernel, by decide +kernel⟩
abbrev n_Barred_eq : List PySem.Str := ["self", "other"]
theorem sc_Barred_eq : FnScope n_Barred_eq ["self", "other"] (defScope s_Barred_eq) := ⟨rfl, rfl, rfl, by decide +kernel, rfl, by decide +kernel, by decide +kernel⟩
abbrev n_BarredStretch_eq : List PySem.Str := ["self", "other"]
theorem sc_BarredStretch_eq : FnScope n_BarredStretch_eq ["self", "other"] (defScope s_BarredStretch_eq) := ⟨rfl, rfl, rfl, by decide +kernel, rfl, by decide +kernel, by decide +kernel⟩
abbrev n_Parting_eq : List PySem.Str := ["self", "other"]
theorem sc_Parting_eq : FnScope n_Parting_eq ["self", "other"] (defScope s_Parting_eq) := ⟨rfl, rfl, rfl, by decide +kernel, rfl, by decide +kernel, by decide +kernel⟩
abbrev n_Trial_eq : List PySem.Str := ["self", "other"]
theorem sc_Trial_eq : FnScope n_Trial_eq ["self", "other"] (defScope s_Trial_eq) := ⟨rfl, rfl, rfl, by decide +kernel, rfl, by decide +kernel, by decide +kernel⟩
abbrev n_Run_eq : List PySem.Str := ["self", "other"]
theorem sc_Run_eq : FnScope n_Run_eq ["self", "other"] (defScope s_Run_eq) := ⟨rfl, rfl, rfl, by decide +kernel, rfl, by decide +kernel, by decide +kernel⟩
abbrev n_Foreign_eq : List PySem.Str := ["self", "other"]
theorem sc_Foreign_eq : FnScope n_Foreign_eq ["self", "other"] (defScope s_Foreign_eq) := ⟨rfl, rfl, rfl, by decide +kernel, rfl, by decide +kernel, by decide +kernel⟩
abbrev n_Clash_eq : List PySem.Str := ["self", "other"]
theorem sc_Clash_eq : FnScope n_Clash_eq ["self", "other"] (defScope s_Clash_eq) := ⟨rfl, rfl, rfl, by decide +kernel, rfl, by decide +kernel, by decide +kernel⟩
abbrev n_Past_eq : List PySem.Str := ["self", "other"]
theorem sc_Past_eq : FnScope n_Past_eq ["self", "other"] (defScope s_Past_eq) := ⟨rfl, rfl, rfl, by decide +kernel, rfl, by decide +kernel, by decide +kernel⟩
abbrev n_Unlike_eq : List PySem.Str := ["self", "other"]
theorem sc_Unlike_eq : FnScope n_Unlike_eq ["self", "other"] (defScope s_Unlike_eq) := ⟨rfl, rfl, rfl, by decide +kernel, rfl, by decide +kernel, by decide +kernel⟩
abbrev n_Meets_eq : List PySem.Str := ["self", "other"]
theorem sc_Meets_eq : FnScope n_Meets_eq ["self", "other"] (defScope s_Meets_eq) := ⟨rfl, rfl, rfl, by decide +kernel, rfl, by decide +kernel, by decide +kernel⟩
abbrev n_Needless_eq : List PySem.Str := ["self", "other"]
theorem sc_Needless_eq : FnScope n_Needless_eq ["self", "other"] (defScope s_Needless_eq) := ⟨rfl, rfl, rfl, by decide +kernel, rfl, by decide +kernel, by decide +kernel⟩
abbrev n_Exchange_eq : List PySem.Str := ["self", "other"]
theorem sc_Exchange_eq : FnScope n_Exchange_eq ["self", "other"] (defScope s_Exchange_eq) := ⟨rfl, rfl, rfl, by decide +kernel, rfl, by decide +kernel, by decide +kernel⟩
abbrev n_l_compared : List PySem.Str := ["_law_one", "_law_other", "_law_same"]
theorem sc_l_compared : FnScope n_l_compared ["_law_one", "_law_other", "_law_same"] (defScope s_l_compared) := ⟨rfl, rfl, rfl, by decide +kernel, rfl, by decide +kernel, by decide +kernel⟩
abbrev n_law : List PySem.Str := ["_law_script", "_law_hand_here", "_law_parts", "_law_made_here", "_law_which", "_law_k", "_law_n", "_law_one", "_law_at", "_law_m", "_law_other"]
theorem sc_law : FnScope n_law ["_law_script"] (defScope s_law) := ⟨rfl, rfl, rfl, by decide +kernel, rfl, by decide +kernel, by decide +kernel⟩
end V95

set_option Elab.async false
set_option linter.all false
set_option maxRecDepth 100000
set_option maxHeartbeats 4000000
/-! What the head says, over written addresses. -/
namespace Ud
open PySem PySem.Spec PyProof.Rows L2 Uc
def obsL (as : List Addr) (B : PySem.W.Frag → Bool) (fn : List He.DefD) (ts : TabL) (g : Addr → Option Obj) : AlW := obsW B fn ts (He.frG g as)
def hookL (as : List Addr) (B : PySem.W.Frag → Bool) (fn : List He.DefD) (ts : TabL) : PySem.W.Hook where
  α := AlW
  obs := fun s => obsL as B fn ts s.heap.get?
  val := fun w => valW fn ts w
  says := fun w h => ∃ K : PySem.W.Frag, K.In h ∧ SaysW B fn ts w K
  of := fun w _ e => ⟨_, He.frG_in, saysU_of (congrArg (fun z : AlW => z.1) e), congrArg (fun z : AlW => z.2) e⟩
  keeps := fun _ _ _ ⟨K, hK, c⟩ k => ⟨K, PySem.W.Frag.In.keeps hK k, c⟩
theorem obsL_eq {as : List Addr} {B : PySem.W.Frag → Bool} {fn : List He.DefD} {ts : TabL} {g : Addr → Option Obj} {s : Shared} (h : ∀ a, g a = s.heap.get? a) : obsL as B fn ts g = (hookL as B fn ts).obs s := by
  have e : g = s.heap.get? := funext h
  rw [e] <;> rfl
end Ud

set_option Elab.async false
set_option linter.all false
set_option maxRecDepth 100000
set_option maxHeartbeats 0
namespace V95
open PySem PySem.Spec PyProof.Rows L2 Uc Ud
abbrev R : PySem.W.OpenRow := PySem.W.OpenLaw.row PySem.Challenge.rw_unmetcells_k95_whole_results_equal_by_al
def as_ : List Addr := [3, 6, 4, 21, 31, 51, 70, 89, 108, 120, 139, 148, 155, 162, 169, 176, 183, 190, 197, 202] ++ [207, 286, 297, 302, 307, 308, 315, 322, 329, 334, 341, 348, 355, 362, 369, 393, 421, 449, 477, 505] ++ [539, 544, 545, 550, 557, 562, 598, 626, 654, 682, 710, 738, 766, 777, 782, 789, 796, 803, 810, 817] ++ [824, 829, 0, 20, 30, 50, 69, 88, 107, 119, 138, 147, 154, 161, 168, 175, 182, 189, 196, 201] ++ [206, 285, 296, 301, 306, 314, 321, 328, 333, 340, 347, 354, 361, 368, 392, 420, 448, 476, 504, 538] ++ [549, 556, 561, 597, 625, 653, 681, 709, 737, 765, 776, 781, 788, 795, 802, 809, 816, 823, 828, 32] ++ [48, 67, 86, 105, 136, 219, 227, 234, 241, 248, 255, 262, 269, 276, 283, 287, 288, 383, 390, 394] ++ [395, 411, 418, 422, 423, 439, 446, 450, 451, 467, 474, 478, 479, 495, 502, 506, 507, 523, 529, 536] ++ [540, 541, 574, 581, 588, 595, 599, 600, 616, 623, 627, 628, 644, 651, 655, 656, 672, 679, 683, 684] ++ [700, 707, 711, 712, 728, 735, 739, 740, 756, 763, 767, 768, 47, 66, 85, 104, 135, 218, 226, 233] ++ [240, 247, 254, 261, 268, 275, 282, 382, 389, 410, 417, 438, 445, 466, 473, 494, 501, 522, 528, 535] ++ [573, 580, 587, 594, 615, 622, 643, 650, 671, 678, 699, 706, 727, 734, 755, 762, 225, 527]
abbrev hk : PySem.W.Hook := hookL as_ NN.B fn ts
def ob (s : PySem.W.SharedT) : AlW := obsL as_ NN.B fn ts (HandSHeadRun.getT s)
theorem run0 (w : World) : HandSHeadRun.RunEq R (PySem.W.view R.prog [86]) hk ob 60000 loose (w.withFollow "special-get-raises" false) := by
  intro os
  kernel_rfl
theorem run1 (w : World) : HandSHeadRun.RunEq R (PySem.W.view R.prog [86]) hk ob 60000 loose (w.withFollow "special-get-raises" true) := by
  intro os
  kernel_rfl
theorem run (w : World) : HandSHeadRun.RunEq R (PySem.W.view R.prog [86]) hk ob 60000 loose w := PySem.W.byRow2 "special-get-raises" (P := fun w => HandSHeadRun.RunEq R (PySem.W.view R.prog [86]) hk ob 60000 loose w) run0 run1 w
end V95

set_option Elab.async false
set_option linter.all false
set_option maxRecDepth 100000
set_option maxHeartbeats 4000000
/-! The law's own def; what a table of ends comes to. -/
namespace Ud
open PySem PySem.Spec PyProof.Rows L2 Uc
/-- a promise that is asked without a hand -/
def spL (S : PSp) : PSp := fun h ds Φ Ψ => h = none ∧ S h ds Φ Ψ
theorem okL {Pg : Program} {w : World} {K : PySem.W.Frag} {mg : Str → Option Value} {base : Heap} {x qual : Str} {params : Arguments} {body : List Stmt} {scope : Scope} {f : Addr} {fd : FuncData} {N ps : List Str} {k : Nat} {g : SF}
    {dvs0 : List V} {kws0 : List (Str × V)} (Fn : FunD K x qual params body scope dvs0 kws0 f fd) (Sc : FnScope N ps scope)
    (hb : ∀ (X : Cx) (cdv : Value) (A : Around) (outer : List Env) (s : Shared) (H : Hp) (E : XK), Room k (A.deeper (envOfC qual scope s.heap.objs.size f cdv)) →
      X = cxOf (L2.CX Pg w) Pg w K mg base N qual scope f cdv A outer s H E → DB (cxOf (L2.CX Pg w) Pg w K mg base N qual scope f cdv A outer s H E) none body g) :
    FnOk Pg w K mg base (L2.CX Pg w) (k + 1) f fd ps (spD K (spL (spT (fD ps.length N.length g)))) :=
  okD Fn Sc (fun h ds Φ Ψ q => by simpa using (T.sat_chk q.2).1) fun X h ds Φ Ψ cdv A outer s H E hr q hX => by
    obtain ⟨rfl, q⟩ := q
    exact (hb X cdv A outer s H E hr hX).run _ _ (out_sat (T.sat_chk q).2)
/-- the law's hand is made -/
structure HandF (Pg : Program) (w : World) (K : PySem.W.Frag) (mg : Str → Option Value) (base : Heap) where
  f : Addr
  fd : FuncData
  F : FnOk Pg w K mg base (L2.CX Pg w) 1 f fd ["_law_script"] (spHand K lawHd)
  g : mg "_law_hand" = some (.ref f)
  k : PySem.W.keepIn K (.ref f) = true
  b : Binds K fd ["_law_script"] []
/-! ### a table: at each state, call and answer the ends -/
def putE (k : List Key) (x : Int) : List (List Key × List Int) → List (List Key × List Int)
  | [] => [(k, [x])]
  | (q, l) :: r => if q = k then (q, l ++ [x]) :: r else (q, l) :: putE k x r
def row4 : D → Option (List Key × Int)
  | .tup [.int a, .int b, .int c, .int d] => some ([.inl a, .inl b, .inl c], d)
  | _ => none
def endsE : List D → List (List Key × List Int) → Option (List (List Key × List Int))
  | [], t => some t
  | d :: ds, t => match row4 d with
    | some (k, x) => endsE ds (putE k x t)
    | none => none
def endsT : List D → T D
  | [d] => optT (seqOf d) fun ds => .chk (decide (ds.length ≤ 90000)) (optT (endsE ds []) fun t => .ret (.dt (t.map (·.1)) (t.map fun p => .tup (p.2.map D.int))))
  | _ => .stuck
end Ud

set_option Elab.async false
set_option linter.all false
set_option maxRecDepth 100000
set_option maxHeartbeats 4000000
namespace V95
open PySem PySem.Spec PyProof.Rows L2 Uc Ud
def f_l_draw : List D → T D
  | [.int n] => .draw n fun i => .ret (.int i)
  | _ => .stuck
def b_is_whole : SF :=
  (gRet (cAnd (cIsi NN.cs [.ty "int"] (cV 0)) (cNot (cIsi NN.cs [.ty "bool"] (cV 0)))))
def f_is_whole : List D → T D := fD 1 1 (b_is_whole)
def b_is_from : SF :=
  (gRet (cAnd (cCall f_is_whole (cCons (cV 0) cNil)) (cB (bB2 vLe vLe (cV 1) (cV 0) (cV 2)))))
def f_is_from : List D → T D := fD 3 3 (b_is_from)
def b_is_sequence : SF :=
  (gRet (cIsi NN.cs [.ty "list", .ty "tuple"] (cV 0)))
def f_is_sequence : List D → T D := fD 1 1 (b_is_sequence)
def b_is_row : SF :=
  (gRet (cAnd (cCall f_is_sequence (cCons (cV 0) cNil)) (cB (bB vEqX (cCall vLen (cCons (cV 0) cNil)) (cV 1)))))
def f_is_row : List D → T D := fD 2 2 (b_is_row)
def b_is_call : SF :=
  (gRet (cCall f_is_from (cCons (cV 1) (cCons (cK (.int 0)) (cCons (cBin vSub (cV 0) (cK (.int 1))) cNil)))))
def f_is_call : List D → T D := fD 2 2 (b_is_call)
def b_is_answer : SF :=
  (gRet (cCall f_is_from (cCons (cV 0) (cCons (cK (.int 0)) (cCons (cK (.int 2)) cNil)))))
def f_is_answer : List D → T D := fD 1 1 (b_is_answer)
def b_is_way : SF :=
  (gSeq (gIf (bNot (bV (cCall f_is_row (cCons (cV 2) (cCons (cK (.int 4)) cNil))))) (gRet (cK (.bl false))) gNil)
    (gSeq (gUnp [3, 4, 5, 6] (cV 2))
    (gRet (cAnd (cCall f_is_from (cCons (cV 3) (cCons (cK (.int 0)) (cCons (cBin vSub (cV 0) (cK (.int 1))) cNil)))) (cAnd (cCall f_is_call (cCons (cV 1) (cCons (cV 4) cNil))) (cAnd (cCall f_is_answer (cCons (cV 5) cNil)) (cCall f_is_from (cCons (cV 6) (cCons (cK (.int 0)) (cCons (cBin vSub (cV 0) (cK (.int 1))) cNil))))))))))
def f_is_way : List D → T D := fD 3 7 (b_is_way)
def b_checked_ways : SF :=
  (gSeq (gIf (bNot (bV (cCall f_is_from (cCons (cV 0) (cCons (cK (.int 1)) (cCons (cK (.int 6)) cNil)))))) gX gNil)
    (gSeq (gIf (bNot (bV (cCall f_is_from (cCons (cV 1) (cCons (cK (.int 1)) (cCons (cK (.int 4)) cNil)))))) gX gNil)
    (gSeq (gIf (bOr (bNot (bV (cCall f_is_sequence (cCons (cV 2) cNil)))) (bB vGt (cCall vLen (cCons (cV 2) cNil)) (cK (.int 432)))) gX gNil)
    (gSeq (gFor (cIt (cV 2)) (putN 3) (gIf (bNot (bV (cCall f_is_way (cCons (cV 0) (cCons (cV 1) (cCons (cV 3) cNil)))))) gX gNil))
    (gSeq (gSet 4 (cCall vSorted (cCons (cFr (cLc (cIt (cV 2)) [3] (putN 3) bYes (cCall vTuple (cCons (cV 3) cNil)))) cNil)))
    (gSeq (gIf (bB vLt (cCall vLenSet (cCons (cV 4) cNil)) (cCall vLen (cCons (cV 4) cNil))) gX gNil)
    (gSeq (gIf (bB vLt (cLenSc (cIt (cV 4)) [5] (putN 5) bYes (cTup (cCons (cBin vIx (cV 5) (cK (.int 0))) (cCons (cBin vIx (cV 5) (cK (.int 1))) cNil)))) (cBin vMul (cV 0) (cV 1))) gX gNil)
    (gRet (cCall vTuple (cCons (cV 4) cNil))))))))))
def f_checked_ways : List D → T D := fD 3 6 (b_checked_ways)
def f_ends_table : List D → T D := endsT
def b_Book_init : SF :=
  (gSeq (gAttr 0 fl_ways "ways" (cCall f_checked_ways (cCons (cV 1) (cCons (cV 2) (cCons (cV 3) cNil)))))
    (gSeq (gAttr 0 fl_states "states" (cV 1))
    (gSeq (gAttr 0 fl_calls "calls" (cV 2))
    (gSeq (gAttr 0 fl__borne "_borne" (cCall vTuple (cCons (cSortSc (cIt (cFldS 0 fl_ways "ways")) [4] (putN 4) bYes (cBin vIx (cV 4) (cK (.int 2)))) cNil)))
    (gAttr 0 fl__ends "_ends" (cCall f_ends_table (cCons (cFldS 0 fl_ways "ways") cNil)))))))
def i_Book : List D → T (List (PySem.Str × D)) := fI 4 5 "Book" (b_Book_init)
def b_is_entry : SF :=
  (gRet (cAnd (cCall f_is_row (cCons (cV 1) (cCons (cK (.int 3)) cNil))) (cAnd (cCall f_is_from (cCons (cBin vIx (cV 1) (cK (.int 0))) (cCons (cK (.int 0)) (cCons (cK (.int 9)) cNil)))) (cAnd (cCall f_is_call (cCons (cFld fl_calls "calls" (cV 0)) (cCons (cBin vIx (cV 1) (cK (.int 1))) cNil))) (cCall f_is_answer (cCons (cBin vIx (cV 1) (cK (.int 2))) cNil))))))
def f_is_entry : List D → T D := fD 2 2 (b_is_entry)
def b_check_history : SF :=
  (gSeq (gIf (bNot (bV (cCall f_is_sequence (cCons (cV 1) cNil)))) gX gNil)
    (gSeq (gIf (bB vGt (cCall vLen (cCons (cV 1) cNil)) (cK (.int 400))) gX gNil)
    (gSeq (gFor (cEnum (cV 1)) (putT [2, 3]) (gIf (bNot (bV (cCall f_is_entry (cCons (cV 0) (cCons (cV 3) cNil))))) gX gNil))
    (gRet (cCall vTuple (cCons (cFr (cLc (cIt (cV 1)) [3] (putN 3) bYes (cCall vTuple (cCons (cV 3) cNil)))) cNil))))))
def f_check_history : List D → T D := fD 2 4 (b_check_history)
def b_Book_ends_from (bb : Bool) : SF :=
  (gSeq (gSetNew 4 bb)
    (gSeq (gFor (cIt (cV 1)) (putN 5) (gFor (cIt (cGetT (cFld fl__ends "_ends" (cV 0)) (cCons (cV 5) (cCons (cV 2) (cCons (cV 3) cNil))) (cTup cNil))) (putN 6) (gSetAdd 4 bb (cV 6))))
    (gRet (cCall vTuple (cCons (cSortOwn 4 bb) cNil)))))
def m_Book_ends_from (bb : Bool) : List D → T D := fD 4 7 (b_Book_ends_from bb)
def b_standing_behind (bb : Bool) : SF :=
  (gSeq (gFor (cIt (cV 2)) (putT [3, 4]) (gSet 1 (cMeth "Book" "ends_from" (m_Book_ends_from bb) (cV 0) (cCons (cV 1) (cCons (cV 3) (cCons (cV 4) cNil))))))
    (gRet (cV 1)))
def f_standing_behind (bb : Bool) : List D → T D := fD 3 5 (b_standing_behind bb)
def b_calls_of : SF :=
  (gRet (cCall vTuple (cCons (cFr (cLc (cIt (cV 0)) [1] (putN 1) bYes (cTup (cCons (cBin vIx (cV 1) (cK (.int 1))) (cCons (cBin vIx (cV 1) (cK (.int 2))) cNil))))) cNil)))
def f_calls_of : List D → T D := fD 1 2 (b_calls_of)
def b_standing_of (bb : Bool) : SF :=
  (gRet (cCall (f_standing_behind bb) (cCons (cV 0) (cCons (cK (.tup [.int 0])) (cCons (cCall f_calls_of (cCons (cCall f_check_history (cCons (cV 0) (cCons (cV 1) cNil))) cNil)) cNil)))))
def f_standing_of (bb : Bool) : List D → T D := fD 2 2 (b_standing_of bb)
def b_is_right (bb : Bool) : SF :=
  (gRet (cB (bB vNeD (cCall (f_standing_of bb) (cCons (cV 0) (cCons (cV 1) cNil))) (cTup cNil))))
def f_is_right (bb : Bool) : List D → T D := fD 2 2 (b_is_right bb)
def b_checked_past (bb : Bool) : SF :=
  (gSeq (gThru (gSet 2 (cCall f_check_history (cCons (cV 0) (cCons (cV 1) cNil)))))
    (gSeq (gIf (bOr (bB vGt (cCall vLen (cCons (cV 2) cNil)) (cK (.int 6))) (bNot (bV (cCall (f_is_right bb) (cCons (cV 0) (cCons (cV 2) cNil)))))) gX gNil)
    (gRet (cV 2))))
def f_checked_past (bb : Bool) : List D → T D := fD 2 3 (b_checked_past bb)
def b_check_row : SF :=
  (gSeq (gIf (bNot (bV (cCall f_is_row (cCons (cV 2) (cCons (cK (.int 3)) cNil))))) gX gNil)
    (gSeq (gIf (bB vGt (cV 3) (cK (.int 3))) gX gNil)
    (gSeq (gIf (bOr (bNot (bV (cCall f_is_call (cCons (cFld fl_calls "calls" (cV 0)) (cCons (cBin vIx (cV 2) (cK (.int 0))) cNil))))) (bB vLt (cBin vIx (cV 2) (cK (.int 0))) (cV 4))) gX gNil)
    (gIf (bNot (bV (cCall f_is_answer (cCons (cBin vIx (cV 2) (cK (.int 1))) cNil)))) gX gNil))))
def f_check_row : List D → T D := fD 5 5 (b_check_row)
def b_checked_script (self_ : List D → T D) : SF :=
  (gSeq (gIf (bNot (bV (cCall f_is_sequence (cCons (cV 2) cNil)))) gX gNil)
    (gSeq (gOwn 4 (cLst cNil))
    (gSeq (gSet 5 (cK (.int 0)))
    (gSeq (gFor (cIt (cV 2)) (putN 6) (gSeq (gDrop (cCall f_check_row (cCons (cV 0) (cCons (cV 1) (cCons (cV 6) (cCons (cV 3) (cCons (cV 5) cNil)))))))
    (gSeq (gUnp [7, 8, 9] (cV 6))
    (gSeq (gApp 4 (cTup (cCons (cV 7) (cCons (cV 8) (cCons (cCall self_ (cCons (cV 0) (cCons (cV 1) (cCons (cV 9) (cCons (cBin vAdd (cV 3) (cK (.int 1))) cNil))))) cNil)))))
    (gSet 5 (cBin vAdd (cV 7) (cK (.int 1))))))))
    (gGive 4 (gRet (cCall vTuple (cCons (cV 4) cNil))))))))
def f_checked_script : Nat → List D → T D
  | 0 => noT
  | n + 1 => fD 4 10 (b_checked_script (f_checked_script n))
def b_check_scripts : SF :=
  (gSeq (gIf (bOr (bNot (bV (cCall f_is_sequence (cCons (cV 1) cNil)))) (bNot (bB2 vLe vLe (cK (.int 1)) (cCall vLen (cCons (cV 1) cNil)) (cK (.int 3))))) gX gNil)
    (gRet (cCall vTuple (cCons (cFr (cLc (cEnum (cV 1)) [2, 3] (putT [2, 3]) bYes (cCall (f_checked_script 3) (cCons (cV 0) (cCons (cV 2) (cCons (cV 3) (cCons (cK (.int 1)) cNil))))))) cNil))))
def f_check_scripts : List D → T D := fD 2 4 (b_check_scripts)
def b_turns_of (self_ : List D → T D) : SF :=
  (gSeq (gOwn 1 (cLst (cCons (cTup cNil) cNil)))
    (gSeq (gFor (cIt (cV 0)) (putT [2, 3, 4]) (gFor (cIt (cCall self_ (cCons (cV 4) cNil))) (putN 5) (gApp 1 (cBin vAdd (cTup (cCons (cV 2) cNil)) (cV 5)))))
    (gGive 1 (gRet (cCall vTuple (cCons (cV 1) cNil))))))
def f_turns_of : Nat → List D → T D
  | 0 => noT
  | n + 1 => fD 1 6 (b_turns_of (f_turns_of n))
def b_cut_count : SF :=
  (gSeq (gSet 1 (cK (.int 1)))
    (gSeq (gFor (cIt (cV 0)) (putN 2) (gSet 1 (cBin vMul (cV 1) (cCall vLen (cCons (cCall (f_turns_of 3) (cCons (cV 2) cNil)) cNil)))))
    (gRet (cV 1))))
def f_cut_count : List D → T D := fD 1 3 (b_cut_count)
def b_Wish_init (bb : Bool) : SF :=
  (gSeq (gSet 4 (cCall (f_checked_past bb) (cCons (cV 1) (cCons (cV 2) cNil))))
    (gSeq (gSet 5 (cCall f_check_scripts (cCons (cV 1) (cCons (cV 3) cNil))))
    (gSeq (gIf (bB vGt (cCall f_cut_count (cCons (cV 5) cNil)) (cK (.int 200))) gX gNil)
    (gSeq (gAttr 0 fl_book "book" (cCall (insT "Book" (i_Book)) (cCons (cFld fl_states "states" (cV 1)) (cCons (cFld fl_calls "calls" (cV 1)) (cCons (cFld fl_ways "ways" (cV 1)) cNil)))))
    (gSeq (gAttr 0 fl_past "past" (cV 4))
    (gAttr 0 fl_scripts "scripts" (cV 5)))))))
def i_Wish (bb : Bool) : List D → T (List (PySem.Str × D)) := fI 4 6 "Wish" (b_Wish_init bb)
def b_l_wish (bb : Bool) : SF :=
  (gSeq (gSet 3 (cCall (insT "Book" (i_Book)) (cCons (cK (.int 1)) (cCons (cK (.int 2)) (cCons (cFr (cLst (cCons (cTup (cCons (cK (.int 0)) (cCons (cK (.int 0)) (cCons (cK (.int 0)) (cCons (cK (.int 0)) cNil))))) (cCons (cTup (cCons (cK (.int 0)) (cCons (cK (.int 1)) (cCons (cV 0) (cCons (cK (.int 0)) cNil))))) cNil)))) cNil)))))
    (gRet (cCall (insT "Wish" (i_Wish bb)) (cCons (cV 3) (cCons (cFr (cLst (cCons (cTup (cCons (cV 1) (cCons (cK (.int 0)) (cCons (cK (.int 0)) cNil)))) cNil))) (cCons (cFr (cLst (cCons (cFr (cLst (cCons (cTup (cCons (cK (.int 0)) (cCons (cV 2) (cCons (cTup cNil) cNil)))) cNil))) cNil))) cNil))))))
def f_l_wish (bb : Bool) : List D → T D := fD 3 4 (b_l_wish bb)
def b_check_frame : SF :=
  (gSeq (gIf (bOr (bNot (bV (cCall f_is_sequence (cCons (cV 0) cNil)))) (bNot (bB2 vLe vLe (cK (.int 1)) (cCall vLen (cCons (cV 0) cNil)) (cCall vLen (cCons (cK (.tup [.str "c0", .str "c1", .str "c2"])) cNil))))) gX gNil)
    (gSeq (gIf (bNot (bV (cCall vAll (cCons (cFr (cLc (cIt (cV 0)) [4] (putN 4) bYes (cCall f_is_from (cCons (cV 4) (cCons (cK (.int 1)) (cCons (cK (.int 3)) cNil)))))) cNil)))) gX gNil)
    (gSeq (gIf (bNot (bV (cCall f_is_row (cCons (cV 1) (cCons (cK (.int 4)) cNil))))) gX gNil)
    (gFor (cEnum (cV 1)) (putT [2, 3]) (gIf (bOr (bNot (bV (cCall f_is_sequence (cCons (cV 3) cNil)))) (bOr (bNot (bB2 vLe vLe (cK (.int 1)) (cCall vLen (cCons (cV 3) cNil)) (cK (.int 4)))) (bB vNeD (cCall vLen (cCons (cV 3) cNil)) (cCall vLen (cCons (cBin vIx (cV 1) (cK (.int 0))) cNil))))) gX gNil)))))
def f_check_frame : List D → T D := fD 2 5 (b_check_frame)
def b_word_of : SF :=
  (gSeq (gIf (bOr (bNot (bV (cCall f_is_sequence (cCons (cV 0) cNil)))) (bOr (bB vEqX (cCall vLen (cCons (cV 0) cNil)) (cK (.int 0))) (bNot (bV (cIsi NN.cs [.ty "str"] (cBin vIx (cV 0) (cK (.int 0)))))))) (gRet (cK .non)) gNil)
    (gRet (cBin vIx (cV 0) (cK (.int 0)))))
def f_word_of : List D → T D := fD 1 1 (b_word_of)
def b_deed_word : SF :=
  (gSeq (gIf (bOr (bNotKd tb_DEEDS (cCall f_word_of (cCons (cV 1) cNil))) (bB vNeD (cCall vLen (cCons (cV 1) cNil)) (cIxKd tb_DEEDS (cBin vIx (cV 1) (cK (.int 0)))))) (gRet (cK (.str "shape"))) gNil)
    (gSeq (gIf (bB vEqX (cBin vIx (cV 1) (cK (.int 0))) (cK (.str "say"))) (gRet (cIfx (bV (cCall f_is_answer (cCons (cBin vIx (cV 1) (cK (.int 1))) cNil))) (cK .non) (cK (.str "answer")))) gNil)
    (gSeq (gIf (bB vEqX (cV 2) (cK (.int 5))) (gRet (cK (.str "depth"))) gNil)
    (gSeq (gIf (bNot (bV (cCall f_is_from (cCons (cBin vIx (cV 1) (cK (.int 1))) (cCons (cK (.int 0)) (cCons (cBin vSub (cCall vLen (cCons (cV 0) cNil)) (cK (.int 1))) cNil)))))) (gRet (cK (.str "cell"))) gNil)
    (gSeq (gSet 3 (cBin vIx (cV 0) (cBin vIx (cV 1) (cK (.int 1)))))
    (gSeq (gIf (bB vEqX (cBin vIx (cV 1) (cK (.int 0))) (cK (.str "read"))) (gRet (cIfx (bV (cCall f_is_row (cCons (cBin vIx (cV 1) (cK (.int 2))) (cCons (cV 3) cNil)))) (cK .non) (cK (.str "deeds")))) gNil)
    (gRet (cIfx (bV (cCall f_is_from (cCons (cBin vIx (cV 1) (cK (.int 2))) (cCons (cK (.int 0)) (cCons (cBin vSub (cV 3) (cK (.int 1))) cNil))))) (cK .non) (cK (.str "value"))))))))))
def f_deed_word : List D → T D := fD 3 4 (b_deed_word)
def b_checked_deed (self_ : List D → T D) : SF :=
  (gSeq (gSet 5 (cCall f_deed_word (cCons (cV 0) (cCons (cV 3) (cCons (cV 4) cNil)))))
    (gSeq (gIf (bNot (bNon (cV 5))) gX gNil)
    (gSeq (gIf (bB vEqX (cBin vIx (cV 3) (cK (.int 0))) (cK (.str "say"))) (gRet (cCall vTuple (cCons (cV 3) cNil))) gNil)
    (gSeq (gIf (bB vEqX (cBin vIx (cV 3) (cK (.int 0))) (cK (.str "read"))) (gSeq (gSet 6 (cFr (cLc (cIt (cBin vIx (cV 3) (cK (.int 2)))) [7] (putN 7) bYes (cCall self_ (cCons (cV 0) (cCons (cV 1) (cCons (cV 2) (cCons (cV 7) (cCons (cBin vAdd (cV 4) (cK (.int 1))) cNil)))))))))
    (gRet (cTup (cCons (cK (.str "read")) (cCons (cBin vIx (cV 3) (cK (.int 1))) (cCons (cCall vTuple (cCons (cV 6) cNil)) cNil)))))) gNil)
    (gRet (cTup (cCons (cK (.str "write")) (cCons (cBin vIx (cV 3) (cK (.int 1))) (cCons (cBin vIx (cV 3) (cK (.int 2))) (cCons (cCall self_ (cCons (cV 0) (cCons (cV 1) (cCons (cV 2) (cCons (cBin vIx (cV 3) (cK (.int 3))) (cCons (cBin vAdd (cV 4) (cK (.int 1))) cNil)))))) cNil))))))))))
def f_checked_deed : Nat → List D → T D
  | 0 => noT
  | n + 1 => fD 5 8 (b_checked_deed (f_checked_deed n))
def b_Foreign_init : SF :=
  (gSeq (gDrop (cCall f_check_frame (cCons (cV 1) (cCons (cV 2) cNil))))
    (gSeq (gOwn 3 (cLst cNil))
    (gSeq (gFor (cEnum (cV 2)) (putT [4, 5]) (gApp 3 (cCall vTuple (cCons (cFr (cLc (cEnum (cV 5)) [6, 7] (putT [6, 7]) bYes (cCall (f_checked_deed 2) (cCons (cV 1) (cCons (cV 4) (cCons (cV 6) (cCons (cV 7) (cCons (cK (.int 0)) cNil)))))))) cNil))))
    (gSeq (gAttr 0 fl_sizes "sizes" (cCall vTuple (cCons (cV 1) cNil)))
    (gGive 3 (gSeq (gAttr 0 fl_rows "rows" (cCall vTuple (cCons (cV 3) cNil)))
    (gAttr 0 fl_calls "calls" (cCall vLen (cCons (cBin vIx (cV 2) (cK (.int 0))) cNil)))))))))
def i_Foreign : List D → T (List (PySem.Str × D)) := fI 3 8 "Foreign" (b_Foreign_init)
def b_Barred_init : SF :=
  (gSeq (gAttr 0 fl_cut "cut" (cV 1))
    (gSeq (gAttr 0 fl_joint "joint" (cV 2))
    (gAttr 0 fl_plan "plan" (cV 3))))
def i_Barred : List D → T (List (PySem.Str × D)) := fI 4 4 "Barred" (b_Barred_init)
def b_Run_init : SF :=
  (gSeq (gAttr 0 fl_entries "entries" (cV 1))
    (gSeq (gAttr 0 fl_marks "marks" (cV 2))
    (gAttr 0 fl_cells "cells" (cV 3))))
def i_Run : List D → T (List (PySem.Str × D)) := fI 4 4 "Run" (b_Run_init)
def b_Exchange_init : SF :=
  (gSeq (gAttr 0 fl_ahead "ahead" (cV 1))
    (gSeq (gAttr 0 fl_behind "behind" (cV 2))
    (gAttr 0 fl_meets "meets" (cV 3))))
def i_Exchange : List D → T (List (PySem.Str × D)) := fI 4 4 "Exchange" (b_Exchange_init)
def b_Past_init : SF :=
  (gAttr 0 fl_index "index" (cV 1))
def i_Past : List D → T (List (PySem.Str × D)) := fI 2 2 "Past" (b_Past_init)
def b_Unlike_init : SF :=
  (gSeq (gAttr 0 fl_cut "cut" (cV 1))
    (gSeq (gAttr 0 fl_hand "hand" (cV 2))
    (gAttr 0 fl_call "call" (cV 3))))
def i_Unlike : List D → T (List (PySem.Str × D)) := fI 4 4 "Unlike" (b_Unlike_init)
def b_l_first (bb : Bool) : SF :=
  (gSeq (gIf (bB vEqX (cV 0) (cK (.int 0))) (gRet (cCall (f_l_wish bb) (cCons (cBin vIx (cV 1) (cK (.int 0))) (cCons (cBin vIx (cV 1) (cK (.int 1))) (cCons (cBin vIx (cV 1) (cK (.int 2))) cNil))))) gNil)
    (gSeq (gIf (bB vEqX (cV 0) (cK (.int 1))) (gRet (cCall (insT "Foreign" (i_Foreign)) (cCons (cTup (cCons (cBin vAdd (cBin vIx (cV 1) (cK (.int 0))) (cK (.int 1))) cNil)) (cCons (cBin vMul (cFr (cLst (cCons (cFr (cLst (cCons (cTup (cCons (cK (.str "say")) (cCons (cBin vIx (cV 1) (cK (.int 1))) cNil))) cNil))) cNil))) (cK (.int 4))) cNil)))) gNil)
    (gSeq (gIf (bB vEqX (cV 0) (cK (.int 2))) (gRet (cCall (insT "Barred" (i_Barred)) (cCons (cTup (cCons (cTup (cCons (cBin vIx (cV 1) (cK (.int 0))) cNil)) (cCons (cTup cNil) cNil))) (cCons (cTup (cCons (cTup (cCons (cBin vIx (cV 1) (cK (.int 1))) cNil)) cNil)) (cCons (cTup (cCons (cTup (cCons (cTup (cCons (cTup (cCons (cK (.int 0)) cNil)) cNil)) (cCons (cBin vIx (cV 1) (cK (.int 2))) cNil))) cNil)) cNil))))) gNil)
    (gSeq (gIf (bB vEqX (cV 0) (cK (.int 3))) (gRet (cCall (insT "Run" (i_Run)) (cCons (cTup (cCons (cTup (cCons (cBin vIx (cV 1) (cK (.int 0))) (cCons (cK (.int 0)) (cCons (cK (.int 0)) cNil)))) cNil)) (cCons (cTup (cCons (cTup (cCons (cTup (cCons (cK (.str "c0")) cNil)) (cCons (cTup (cCons (cBin vAdd (cK (.str "c")) (cCall vStr (cCons (cBin vIx (cV 1) (cK (.int 1))) cNil))) cNil)) cNil))) cNil)) (cCons (cDisp1 (cK (.str "c0")) (cBin vIx (cV 1) (cK (.int 2)))) cNil))))) gNil)
    (gSeq (gIf (bB vEqX (cV 0) (cK (.int 4))) (gRet (cCall (insT "Exchange" (i_Exchange)) (cCons (cTup (cCons (cK (.int 0)) (cCons (cK (.int 0)) (cCons (cDisp1 (cK (.str "c0")) (cBin vIx (cV 1) (cK (.int 0)))) cNil)))) (cCons (cTup (cCons (cK (.int 0)) (cCons (cBin vIx (cV 1) (cK (.int 1))) (cCons (cDisp1 (cK (.str "c0")) (cK (.int 0))) cNil)))) (cCons (cBin vIx (cFr (cLst (cCons (cK .non) (cCons (cK (.str "c0")) (cCons (cK (.str "c1")) cNil))))) (cBin vIx (cV 1) (cK (.int 2)))) cNil))))) gNil)
    (gSeq (gIf (bB vEqX (cV 0) (cK (.int 5))) (gRet (cCall (insT "Past" (i_Past)) (cCons (cBin vIx (cV 1) (cK (.int 0))) cNil))) gNil)
    (gRet (cCall (insT "Unlike" (i_Unlike)) (cCons (cTup (cCons (cTup (cCons (cBin vIx (cV 1) (cK (.int 0))) cNil)) (cCons (cTup cNil) cNil))) (cCons (cBin vIx (cV 1) (cK (.int 1))) (cCons (cBin vIx (cV 1) (cK (.int 2))) cNil)))))))))))
def f_l_first (bb : Bool) : List D → T D := fD 2 2 (b_l_first bb)
def b_Meets_init : SF :=
  (gSeq (gAttr 0 fl_cut "cut" (cV 1))
    (gSeq (gAttr 0 fl_one "one" (cV 2))
    (gSeq (gAttr 0 fl_other "other" (cV 3))
    (gAttr 0 fl_cell "cell" (cV 4)))))
def i_Meets : List D → T (List (PySem.Str × D)) := fI 5 5 "Meets" (b_Meets_init)
def b_Clash_init : SF :=
  (gSeq (gAttr 0 fl_cut "cut" (cV 1))
    (gSeq (gAttr 0 fl_heads "heads" (cV 2))
    (gSeq (gAttr 0 fl_what "what" (cV 3))
    (gAttr 0 fl_trail "trail" (cV 4)))))
def i_Clash : List D → T (List (PySem.Str × D)) := fI 5 5 "Clash" (b_Clash_init)
def b_BarredStretch_init : SF :=
  (gSeq (gAttr 0 fl_stretch "stretch" (cV 1))
    (gSeq (gAttr 0 fl_counts "counts" (cV 2))
    (gSeq (gAttr 0 fl_joint "joint" (cV 3))
    (gAttr 0 fl_plan "plan" (cV 4)))))
def i_BarredStretch : List D → T (List (PySem.Str × D)) := fI 5 5 "BarredStretch" (b_BarredStretch_init)
def b_Parting_init : SF :=
  (gSeq (gAttr 0 fl_seams "seams" (cV 1))
    (gAttr 0 fl_joints "joints" (cV 2)))
def i_Parting : List D → T (List (PySem.Str × D)) := fI 3 3 "Parting" (b_Parting_init)
def b_Needless_init : SF :=
  (gAttr 0 fl_way "way" (cV 1))
def i_Needless : List D → T (List (PySem.Str × D)) := fI 2 2 "Needless" (b_Needless_init)
def b_Trial_init : SF :=
  (gSeq (gAttr 0 fl_wish "wish" (cV 1))
    (gSeq (gAttr 0 fl_met "met" (cV 2))
    (gSeq (gAttr 0 fl_won "won" (cV 3))
    (gAttr 0 fl_lost "lost" (cV 4)))))
def i_Trial : List D → T (List (PySem.Str × D)) := fI 5 5 "Trial" (b_Trial_init)
def b_l_second (bb : Bool) : SF :=
  (gSeq (gIf (bB vEqX (cV 0) (cK (.int 7))) (gRet (cCall (insT "Meets" (i_Meets)) (cCons (cTup (cCons (cTup (cCons (cBin vIx (cV 1) (cK (.int 0))) cNil)) (cCons (cTup cNil) cNil))) (cCons (cTup (cCons (cK (.int 0)) (cCons (cBin vIx (cV 1) (cK (.int 1))) cNil))) (cCons (cTup (cCons (cK (.int 1)) (cCons (cBin vIx (cV 1) (cK (.int 2))) cNil))) (cCons (cBin vAdd (cK (.str "c")) (cCall vStr (cCons (cBin vIx (cV 1) (cK (.int 3))) cNil))) cNil)))))) gNil)
    (gSeq (gIf (bB vEqX (cV 0) (cK (.int 8))) (gRet (cCall (insT "Clash" (i_Clash)) (cCons (cTup (cCons (cTup (cCons (cBin vIx (cV 1) (cK (.int 0))) cNil)) (cCons (cTup cNil) cNil))) (cCons (cTup (cCons (cTup (cCons (cK (.int 0)) (cCons (cK (.int 0)) (cCons (cBin vIx (cV 1) (cK (.int 1))) cNil)))) cNil)) (cCons (cBin vIx (cFr (cLst (cCons (cK (.str "answer")) (cCons (cK (.str "ends")) (cCons (cK (.str "else")) cNil))))) (cBin vIx (cV 1) (cK (.int 2)))) (cCons (cTup (cCons (cTup (cCons (cK (.int 0)) (cCons (cBin vIx (cV 1) (cK (.int 3))) cNil))) cNil)) cNil)))))) gNil)
    (gSeq (gIf (bB vEqX (cV 0) (cK (.int 9))) (gRet (cCall (insT "BarredStretch" (i_BarredStretch)) (cCons (cBin vIx (cV 1) (cK (.int 0))) (cCons (cTup (cCons (cBin vIx (cV 1) (cK (.int 1))) cNil)) (cCons (cTup (cCons (cTup (cCons (cBin vIx (cV 1) (cK (.int 2))) cNil)) cNil)) (cCons (cTup (cCons (cTup (cCons (cTup (cCons (cTup (cCons (cK (.int 0)) cNil)) cNil)) (cCons (cBin vIx (cV 1) (cK (.int 3))) cNil))) cNil)) cNil)))))) gNil)
    (gSeq (gIf (bB vEqX (cV 0) (cK (.int 10))) (gRet (cCall (insT "Parting" (i_Parting)) (cCons (cTup (cCons (cBin vAdd (cK (.int 1)) (cBin vIx (cV 1) (cK (.int 0)))) cNil)) (cCons (cTup (cCons (cTup (cCons (cTup (cCons (cBin vIx (cV 1) (cK (.int 1))) cNil)) cNil)) cNil)) cNil)))) gNil)
    (gSeq (gIf (bB vEqX (cV 0) (cK (.int 11))) (gRet (cCall (insT "Needless" (i_Needless)) (cCons (cTup (cCons (cBin vIx (cV 1) (cK (.int 0))) (cCons (cK (.int 0)) (cCons (cK (.int 0)) (cCons (cK (.int 0)) cNil))))) cNil))) gNil)
    (gRet (cCall (insT "Trial" (i_Trial)) (cCons (cCall (f_l_wish bb) (cCons (cBin vIx (cV 1) (cK (.int 0))) (cCons (cK (.int 0)) (cCons (cK (.int 0)) cNil)))) (cCons (cTup (cCons (cBin vIx (cV 1) (cK (.int 1))) cNil)) (cCons (cTup (cCons (cBin vIx (cV 1) (cK (.int 2))) cNil)) (cCons (cTup (cCons (cBin vIx (cV 1) (cK (.int 3))) cNil)) cNil)))))))))))
def f_l_second (bb : Bool) : List D → T D := fD 2 2 (b_l_second bb)
def b_l_made (bb : Bool) : SF :=
  (gRet (cIfx (bB vLt (cV 0) (cK (.int 7))) (cCall (f_l_first bb) (cCons (cV 0) (cCons (cV 1) cNil))) (cCall (f_l_second bb) (cCons (cV 0) (cCons (cV 1) cNil)))))
def f_l_made (bb : Bool) : List D → T D := fD 2 2 (b_l_made bb)
def b_Book_eq : SF :=
  (gRet (cAnd (cIsi NN.cs [.own "Book"] (cV 1)) (cAnd (cB (bB vEqX (cFld fl_states "states" (cV 0)) (cFld fl_states "states" (cV 1)))) (cAnd (cB (bB vEqX (cFld fl_calls "calls" (cV 0)) (cFld fl_calls "calls" (cV 1)))) (cB (bB vEqX (cFld fl_ways "ways" (cV 0)) (cFld fl_ways "ways" (cV 1))))))))
def m_Book_eq : List D → T D := fD 2 2 (b_Book_eq)
def eqs_Wish_eq : List (PySem.Str × (List D → T D)) := [("Book", m_Book_eq)]
def b_Wish_eq : SF :=
  (gRet (cAnd (cIsi NN.cs [.own "Wish"] (cV 1)) (cAnd (cB (bB (vNox (eqT NN.cs eqs_Wish_eq)) (cFld fl_book "book" (cV 0)) (cFld fl_book "book" (cV 1)))) (cAnd (cB (bB (vNox (eqT NN.cs eqs_Wish_eq)) (cFld fl_past "past" (cV 0)) (cFld fl_past "past" (cV 1)))) (cB (bB (vNox (eqT NN.cs eqs_Wish_eq)) (cFld fl_scripts "scripts" (cV 0)) (cFld fl_scripts "scripts" (cV 1))))))))
def m_Wish_eq : List D → T D := fD 2 2 (b_Wish_eq)
def b_Barred_eq : SF :=
  (gRet (cAnd (cIsi NN.cs [.own "Barred"] (cV 1)) (cAnd (cB (bB vEqX (cFld fl_cut "cut" (cV 0)) (cFld fl_cut "cut" (cV 1)))) (cAnd (cB (bB vEqX (cFld fl_joint "joint" (cV 0)) (cFld fl_joint "joint" (cV 1)))) (cB (bB vEqX (cFld fl_plan "plan" (cV 0)) (cFld fl_plan "plan" (cV 1))))))))
def m_Barred_eq : List D → T D := fD 2 2 (b_Barred_eq)
def b_BarredStretch_eq : SF :=
  (gRet (cAnd (cIsi NN.cs [.own "BarredStretch"] (cV 1)) (cAnd (cB (bB vEqX (cFld fl_stretch "stretch" (cV 0)) (cFld fl_stretch "stretch" (cV 1)))) (cAnd (cB (bB vEqX (cFld fl_counts "counts" (cV 0)) (cFld fl_counts "counts" (cV 1)))) (cAnd (cB (bB vEqX (cFld fl_joint "joint" (cV 0)) (cFld fl_joint "joint" (cV 1)))) (cB (bB vEqX (cFld fl_plan "plan" (cV 0)) (cFld fl_plan "plan" (cV 1)))))))))
def m_BarredStretch_eq : List D → T D := fD 2 2 (b_BarredStretch_eq)
def b_Parting_eq : SF :=
  (gRet (cAnd (cIsi NN.cs [.own "Parting"] (cV 1)) (cAnd (cB (bB vEqX (cFld fl_seams "seams" (cV 0)) (cFld fl_seams "seams" (cV 1)))) (cB (bB vEqX (cFld fl_joints "joints" (cV 0)) (cFld fl_joints "joints" (cV 1)))))))
def m_Parting_eq : List D → T D := fD 2 2 (b_Parting_eq)
def eqs_Trial_eq : List (PySem.Str × (List D → T D)) := [("Wish", m_Wish_eq)]
def b_Trial_eq : SF :=
  (gRet (cAnd (cIsi NN.cs [.own "Trial"] (cV 1)) (cAnd (cB (bB (vNox (eqT NN.cs eqs_Trial_eq)) (cFld fl_wish "wish" (cV 0)) (cFld fl_wish "wish" (cV 1)))) (cAnd (cB (bB (vNox (eqT NN.cs eqs_Trial_eq)) (cFld fl_met "met" (cV 0)) (cFld fl_met "met" (cV 1)))) (cAnd (cB (bB (vNox (eqT NN.cs eqs_Trial_eq)) (cFld fl_won "won" (cV 0)) (cFld fl_won "won" (cV 1)))) (cB (bB (vNox (eqT NN.cs eqs_Trial_eq)) (cFld fl_lost "lost" (cV 0)) (cFld fl_lost "lost" (cV 1)))))))))
def m_Trial_eq : List D → T D := fD 2 2 (b_Trial_eq)
def b_Run_eq : SF :=
  (gRet (cAnd (cIsi NN.cs [.own "Run"] (cV 1)) (cAnd (cB (bB vEqX (cFld fl_entries "entries" (cV 0)) (cFld fl_entries "entries" (cV 1)))) (cAnd (cB (bB vEqX (cFld fl_marks "marks" (cV 0)) (cFld fl_marks "marks" (cV 1)))) (cB (bB vEqX (cFld fl_cells "cells" (cV 0)) (cFld fl_cells "cells" (cV 1))))))))
def m_Run_eq : List D → T D := fD 2 2 (b_Run_eq)
def b_Foreign_eq : SF :=
  (gRet (cAnd (cIsi NN.cs [.own "Foreign"] (cV 1)) (cAnd (cB (bB vEqX (cFld fl_sizes "sizes" (cV 0)) (cFld fl_sizes "sizes" (cV 1)))) (cB (bB vEqX (cFld fl_rows "rows" (cV 0)) (cFld fl_rows "rows" (cV 1)))))))
def m_Foreign_eq : List D → T D := fD 2 2 (b_Foreign_eq)
def b_Clash_eq : SF :=
  (gRet (cAnd (cIsi NN.cs [.own "Clash"] (cV 1)) (cAnd (cB (bB vEqX (cFld fl_cut "cut" (cV 0)) (cFld fl_cut "cut" (cV 1)))) (cAnd (cB (bB vEqX (cFld fl_heads "heads" (cV 0)) (cFld fl_heads "heads" (cV 1)))) (cAnd (cB (bB vEqX (cFld fl_what "what" (cV 0)) (cFld fl_what "what" (cV 1)))) (cB (bB vEqX (cFld fl_trail "trail" (cV 0)) (cFld fl_trail "trail" (cV 1)))))))))
def m_Clash_eq : List D → T D := fD 2 2 (b_Clash_eq)
def b_Past_eq : SF :=
  (gRet (cAnd (cIsi NN.cs [.own "Past"] (cV 1)) (cB (bB vEqX (cFld fl_index "index" (cV 0)) (cFld fl_index "index" (cV 1))))))
def m_Past_eq : List D → T D := fD 2 2 (b_Past_eq)
def b_Unlike_eq : SF :=
  (gRet (cAnd (cIsi NN.cs [.own "Unlike"] (cV 1)) (cAnd (cB (bB vEqX (cFld fl_cut "cut" (cV 0)) (cFld fl_cut "cut" (cV 1)))) (cAnd (cB (bB vEqX (cFld fl_hand "hand" (cV 0)) (cFld fl_hand "hand" (cV 1)))) (cB (bB vEqX (cFld fl_call "call" (cV 0)) (cFld fl_call "call" (cV 1))))))))
def m_Unlike_eq : List D → T D := fD 2 2 (b_Unlike_eq)
def b_Meets_eq : SF :=
  (gRet (cAnd (cIsi NN.cs [.own "Meets"] (cV 1)) (cAnd (cB (bB vEqX (cFld fl_cut "cut" (cV 0)) (cFld fl_cut "cut" (cV 1)))) (cAnd (cB (bB vEqX (cFld fl_one "one" (cV 0)) (cFld fl_one "one" (cV 1)))) (cAnd (cB (bB vEqX (cFld fl_other "other" (cV 0)) (cFld fl_other "other" (cV 1)))) (cB (bB vEqX (cFld fl_cell "cell" (cV 0)) (cFld fl_cell "cell" (cV 1)))))))))
def m_Meets_eq : List D → T D := fD 2 2 (b_Meets_eq)
def b_Needless_eq : SF :=
  (gRet (cAnd (cIsi NN.cs [.own "Needless"] (cV 1)) (cB (bB vEqX (cFld fl_way "way" (cV 0)) (cFld fl_way "way" (cV 1))))))
def m_Needless_eq : List D → T D := fD 2 2 (b_Needless_eq)
def b_Exchange_eq : SF :=
  (gRet (cAnd (cIsi NN.cs [.own "Exchange"] (cV 1)) (cAnd (cB (bB vEqX (cFld fl_ahead "ahead" (cV 0)) (cFld fl_ahead "ahead" (cV 1)))) (cAnd (cB (bB vEqX (cFld fl_behind "behind" (cV 0)) (cFld fl_behind "behind" (cV 1)))) (cB (bB vEqX (cFld fl_meets "meets" (cV 0)) (cFld fl_meets "meets" (cV 1))))))))
def m_Exchange_eq : List D → T D := fD 2 2 (b_Exchange_eq)
def eqs_l_compared : List (PySem.Str × (List D → T D)) := [("Book", m_Book_eq), ("Wish", m_Wish_eq), ("Barred", m_Barred_eq), ("BarredStretch", m_BarredStretch_eq), ("Parting", m_Parting_eq), ("Trial", m_Trial_eq), ("Run", m_Run_eq), ("Foreign", m_Foreign_eq), ("Clash", m_Clash_eq), ("Past", m_Past_eq), ("Unlike", m_Unlike_eq), ("Meets", m_Meets_eq), ("Needless", m_Needless_eq), ("Exchange", m_Exchange_eq)]
def b_l_compared : SF :=
  (gSeq (gIf (bOr (bB (vNox (neT NN.cs eqs_l_compared)) (cB (bB (vNox (eqT NN.cs eqs_l_compared)) (cV 0) (cV 1))) (cV 2)) (bB (vNox (neT NN.cs eqs_l_compared)) (cB (bB (vNox (eqT NN.cs eqs_l_compared)) (cV 1) (cV 0))) (cV 2))) (gRet (cK (.bl false))) gNil)
    (gRet (cAnd (cB (bB (vNox (neT NN.cs eqs_l_compared)) (cB (bB (vNox (neT NN.cs eqs_l_compared)) (cV 0) (cV 1))) (cV 2))) (cB (bB (vNox (neT NN.cs eqs_l_compared)) (cB (bB (vNox (neT NN.cs eqs_l_compared)) (cV 1) (cV 0))) (cV 2))))))
def f_l_compared : List D → T D := fD 3 3 (b_l_compared)
def eqs_law : List (PySem.Str × (List D → T D)) := [("Book", m_Book_eq), ("Wish", m_Wish_eq), ("Barred", m_Barred_eq), ("BarredStretch", m_BarredStretch_eq), ("Parting", m_Parting_eq), ("Trial", m_Trial_eq), ("Run", m_Run_eq), ("Foreign", m_Foreign_eq), ("Clash", m_Clash_eq), ("Past", m_Past_eq), ("Unlike", m_Unlike_eq), ("Meets", m_Meets_eq), ("Needless", m_Needless_eq), ("Exchange", m_Exchange_eq)]
def b_law (bb : Bool) : SF :=
  (gHand 1 (cV 0) (gSeq (gSet 2 (cFr (cLst (cCons (cK (.int 3)) (cCons (cK (.int 2)) (cCons (cK (.int 3)) (cCons (cK (.int 3)) (cCons (cK (.int 3)) (cCons (cK (.int 1)) (cCons (cK (.int 3)) (cCons (cK (.int 4)) (cCons (cK (.int 4)) (cCons (cK (.int 4)) (cCons (cK (.int 2)) (cCons (cK (.int 1)) (cCons (cK (.int 4)) cNil))))))))))))))))
    (gSeq (gOwn 3 (cLst cNil))
    (gSeq (gFor (cRng1 (cCons (cK (.int 13)) cNil)) (putN 4) (gSeq (gSet 6 (cFr (cLc (cRng1 (cCons (cK (.int 4)) cNil)) [5] (putN 5) bYes (cCallH 1 f_l_draw (cCons (cK (.int 3)) cNil)))))
    (gSeq (gSet 7 (cCall (f_l_made bb) (cCons (cV 4) (cCons (cV 6) cNil))))
    (gSeq (gIf (bNot (bV (cCall f_l_compared (cCons (cV 7) (cCons (cCall (f_l_made bb) (cCons (cV 4) (cCons (cFr (cNewL (cCons (cV 6) cNil))) cNil))) (cCons (cK (.bl true)) cNil)))))) (gRet (cK (.bl false))) gNil)
    (gSeq (gFor (cRng1 (cCons (cBin vIx (cV 2) (cV 4)) cNil)) (putN 8) (gSeq (gOwn 9 (cNewL (cCons (cV 6) cNil)))
    (gSeq (gPut 9 (cV 8) (cBin vMod (cCall vInt (cCons (cBin vAdd (cBin vAdd (cBin vIx (cV 6) (cV 8)) (cK (.int 1))) (cCallH 1 f_l_draw (cCons (cK (.int 2)) cNil))) cNil)) (cK (.int 3))))
    (gGive 9 (gIf (bNot (bV (cCall f_l_compared (cCons (cV 7) (cCons (cCall (f_l_made bb) (cCons (cV 4) (cCons (cV 9) cNil))) (cCons (cK (.bl false)) cNil)))))) (gRet (cK (.bl false))) gNil)))))
    (gSeq (gIf (bOr (bB (vNox (eqT NN.cs eqs_law)) (cV 7) (cK (.int 0))) (bOr (bB (vNox (eqT NN.cs eqs_law)) (cV 7) (cK (.str ""))) (bB (vNox (eqT NN.cs eqs_law)) (cV 7) (cV 6)))) (gRet (cK (.bl false))) gNil)
    (gApp 3 (cV 7))))))))
    (gGive 3 (gSeq (gFor (cRng1 (cCons (cK (.int 13)) cNil)) (putN 5) (gGive 3 (gFor (cRng1 (cCons (cK (.int 13)) cNil)) (putN 10) (gGive 3 (gIf (bNot (bV (cCall f_l_compared (cCons (cBin vIx (cV 3) (cV 5)) (cCons (cBin vIx (cV 3) (cV 10)) (cCons (cB (bB (vNox (eqT NN.cs eqs_law)) (cV 5) (cV 10))) cNil)))))) (gRet (cK (.bl false))) gNil)))))
    (gRet (cK (.bl true)))))))))
def f_law (bb : Bool) : List D → T D := fD 1 11 (b_law bb)
end V95

set_option Elab.async false
set_option linter.all false
set_option maxRecDepth 100000
set_option maxHeartbeats 4000000
/-! Loops with invariants; a def's start without a hand. -/
namespace Ud
open PySem PySem.Spec PyProof.Rows L2 Uc
theorem goF_inv {put : D → List Sl → Option (List Sl)} {body : SF} {P : Po} (I : Nat → List Sl → Prop) : ∀ (ds : List D) (n : Nat) (δ : List Sl),
    (∀ k δ d, ds[k]? = some d → I (n + k) δ → ∃ δ2, put d δ = some δ2 ∧ (body δ2).sat (Po.of ⟨I (n + k + 1), P.rt, P.nx, I (n + k + 1), P.ex⟩) noX) → (∀ δ, I (n + ds.length) δ → P.nx δ) → I n δ → (goF put body ds δ).sat P.of noX
  | [], n, δ, _, he, h0 => he δ h0
  | d :: ds, n, δ, hs, he, h0 => by
    obtain ⟨δ2, e, q⟩ := hs 0 δ d rfl h0
    unfold goF
    rw [e]
    refine T.sat_bind.mpr (T.sat_mono (fun fl z => ?_) (fun _ _ z => z) q)
    have go : ∀ δ', I (n + 1) δ' → (goF put body ds δ').sat P.of noX := fun δ' z => goF_inv I ds (n + 1) δ' (fun k δ d' e' i => by
      have := hs (k + 1) δ d' (by simpa using e') (by rw [show n + (k + 1) = n + 1 + k by omega]; exact i)
      rw [show n + (k + 1) + 1 = n + 1 + k + 1 by omega] at this
      exact this) (fun δ i => he δ (by rw [List.length_cons, show n + (ds.length + 1) = n + 1 + ds.length by omega]; exact i)) z
    cases fl with
    | nx δ' => exact go δ' z
    | ct δ' => exact go δ' z
    | bk _ => exact z
    | rt _ => exact z
    | ex _ _ _ => exact z
theorem lcGo_inv {is : List Nat} {put : D → List Sl → Option (List Sl)} {tst : BF} {g : EF} {δ : List Sl} {Φ : List D → Prop} {Ψ : Str → List (Str × D) → Prop} (I : Nat → List D → Prop) : ∀ (ds : List D) (acc : List D),
    (∀ k d, ds[k]? = some d → ∃ δ2, put d (wipeD δ is) = some δ2 ∧ tst δ2 = .ret true ∧ ∀ acc, I k acc → (g δ2).sat (fun y => I (k + 1) (acc ++ [y])) noX) → (∀ acc, I ds.length acc → Φ acc) → I 0 acc → (lcGo is put tst g δ ds).sat (fun ys => Φ (acc ++ ys)) Ψ
  | ds, acc, hs, he, h0 => by
    have nox_sat : ∀ {α : Type} {t : T α} {R : α → Prop} {S : Str → List (Str × D) → Prop}, t.sat R noX → t.nox.sat R S := fun {α t} => by
      intro R S q
      induction t with
      | ret a => exact q
      | ex C fs => exact q.elim
      | stuck => exact q.elim
      | draw n k ih => exact ⟨q.1, fun i h0 h1 => ih i (q.2 i h0 h1)⟩
    suffices h : ∀ (m n : Nat) (acc : List D), n + m = ds.length → I n acc → (lcGo is put tst g δ (ds.drop n)).sat (fun ys => Φ (acc ++ ys)) Ψ from by simpa using h ds.length 0 acc (by omega) h0
    intro m
    induction m with
    | zero =>
      intro n acc e i
      rw [show n = ds.length by omega] at i ⊢
      rw [List.drop_length]
      show Φ (acc ++ [])
      rw [List.append_nil]
      exact he acc i
    | succ m ih =>
      intro n acc e i
      have hn : n < ds.length := by omega
      rw [List.drop_eq_getElem_cons hn]
      obtain ⟨δ2, e1, e2, q⟩ := hs n ds[n] (List.getElem?_eq_getElem hn)
      unfold lcGo
      rw [e1]
      dsimp only
      rw [e2]
      show ((g δ2).nox.bind fun y => (lcGo is put tst g δ (ds.drop (n + 1))).bind fun ys => .ret (y :: ys)).sat _ _
      refine T.sat_bind.mpr (T.sat_mono (fun y z => ?_) (fun _ _ z => z) (nox_sat (q acc i)))
      refine T.sat_bind.mpr (T.sat_mono (fun ys z => ?_) (fun _ _ z => z) (ih (n + 1) (acc ++ [y]) (by omega) z))
      show Φ (acc ++ y :: ys)
      rw [List.append_assoc] at z
      exact z
theorem SD.begin {K : PySem.W.Frag} {N : List Str} {M : Addr → Prop} {vs : List V} {ds : List D} {H : Hp} (r : RpA K M H vs ds) : SD K none (fun _ => False) (fun b o => H b = some o) (fun _ _ => False) (fun _ => False) H (L2.start N vs) (startD N.length ds) := by
  have hl := r.length
  refine ⟨?_, fun i d e => ?_, fun i ds' e => ?_, fun i e => ?_, fun i C fs e => ?_, fun i j ds1 es p ne e e1 => ?_, fun _ z => (nomatch z), fun _ z => z.elim, fun b o e => e, fun _ _ _ _ z => (nomatch z), fun _ _ z => z.elim, fun _ z => z.elim⟩
  · unfold L2.start startD
    rw [List.length_append, List.length_append, List.length_map, List.length_map, List.length_replicate, List.length_replicate, hl]
  · rcases startD_val e with ⟨d', e1, e2⟩ | e2
    · cases e2
      obtain ⟨v, hv, rv⟩ := r.get e1
      refine ⟨v, ?_, rv.wid fun _ z => z.elim⟩
      unfold L2.start
      have hi : i < vs.length := (List.getElem?_eq_some_iff.mp hv).1
      rw [List.getElem?_append, if_pos (by rw [List.length_map]; exact hi), List.getElem?_map, hv]
      rfl
    · cases e2
  · rcases startD_val e with ⟨d', e1, e2⟩ | e2
    · cases e2
    · cases e2
  · rcases startD_val e with ⟨d', e1, e2⟩ | e2
    · cases e2
    · cases e2
  · rcases startD_val e with ⟨d', e1, e2⟩ | e2
    · cases e2
    · cases e2
  · rcases startD_val e with ⟨d', e1, e2⟩ | e2
    · cases e2
    · cases e2
end Ud

set_option Elab.async false
set_option linter.all false
set_option maxRecDepth 100000
set_option maxHeartbeats 4000000
namespace V95
open PySem PySem.Spec PyProof.Rows L2 Uc Ud
local macro_rules | `(tactic| walk_at "uv") => `(tactic| first
  | refine we_var 0 _ rfl ?_ | refine we_var 1 _ rfl ?_ | refine we_var 2 _ rfl ?_ | refine we_var 3 _ rfl ?_)
local macro_rules | `(tactic| walk_at "us") => `(tactic| first
  | with_reducible exact trivial
  | ((with_reducible refine posI ?_); first | decide | omega)
  | ((with_reducible refine cmulR ?_ ?_) <;> decide)
  | ((with_reducible refine cmulL ?_ ?_) <;> omega)
  | ((with_reducible refine cmulR ?_ ?_) <;> omega)
  | ((with_reducible refine cdivW ?_ ?_) <;> first | decide | omega)
  | ((with_reducible refine cpow ?_ ?_ ?_) <;> decide))
local macro_rules | `(tactic| walk_at "ue") => `(tactic| first
  | with_reducible refine wa_nil ?_ | refine wa_cons ?_ | with_reducible refine we_int ?_ | with_reducible refine we_str ?_ | with_reducible refine we_bl ?_ | with_reducible refine we_non ?_ | walk_at "uv"
  | with_reducible refine we_add ?_ | with_reducible refine we_sub ?_ | with_reducible refine we_mul ?_ | with_reducible refine we_div ?_ | with_reducible refine we_mod ?_ | with_reducible refine we_pow ?_
  | with_reducible refine sAdd_int ?_ | with_reducible refine sInt_int ?_ | with_reducible refine sLen_lst ?_ | with_reducible refine sLen_tup ?_ | ((with_reducible refine sI_go ?c ?_); (case c => walk_at "us")))
section
variable {Pg : Program} {w : World} {K : PySem.W.Frag} {mg : Str → Option Value} {base : Heap} {f fM : Addr} {fd fdM : FuncData}
/-- two ints to an int from 0 on -/
def S_mix : PSp := fun _ ds Φ _ => ∃ a b : Int, ds = [.int a, .int b] ∧ ∀ r : Int, 0 ≤ r → Φ (.int r)
theorem ok_mix (mi : mg "int" = none) (Fn : FnP K "_law_mix" s_l_mix f fd) : FnOk Pg w K mg base (L2.CX Pg w) 1 f fd ["_law_number", "_law_turn"] (spD K S_mix) := by
  refine okD (k := 0) (N := n_l_mix) (ps := ["_law_number", "_law_turn"]) Fn sc_l_mix (fun h ds Φ Ψ ⟨a, b, e, _⟩ => by rw [e]; rfl) fun X h ds Φ Ψ cdv A outer s H E hr hS hX => ?_
  obtain ⟨a, b, rfl, k⟩ := hS
  refine wb_cons (ws_set 2 sc_l_mix.nd ?_)
  repeat first | walk_at "ue" | refine we_intc rfl mi ?_
  refine wb_cons (ws_set 3 sc_l_mix.nd ?_)
  repeat first | walk_at "ue" | refine we_intc rfl mi ?_
  refine wb_cons (ws_ret ?_)
  repeat first | walk_at "ue" | refine we_intc rfl mi ?_
  refine k _ ?_
  omega
theorem draw_inv {ds : List D} {Φ : D → Prop} {Ψ : Str → List (Str × D) → Prop} (q : (f_l_draw ds).sat Φ Ψ) : ∃ n : Int, ds = [.int n] ∧ 0 < n ∧ n < 2 ^ 64 ∧ ∀ r : Int, 0 ≤ r → r < n → Φ (.int r) := by
  unfold f_l_draw at q
  split at q
  · rename_i n
    exact ⟨n, rfl, q.1.1, q.1.2, fun r h0 h1 => q.2 r h0 h1⟩
  · exact q.elim
theorem ok_draw (mi : mg "int" = none) (ml : mg "len" = none) (Fn : FnP K "_law_draw" s_l_draw f fd) (FM : FnP K "_law_mix" s_l_mix fM fdM) (gM : mg "_law_mix" = some (.ref fM)) : FnOk Pg w K mg base (L2.CX Pg w) 2 f fd ["_law_hand_here", "_law_many"] (spD K (spTH f_l_draw)) := by
  have GM : FnOk Pg w K mg base (L2.CX Pg w) 1 fM fdM ["_law_number", "_law_turn"] (spD K S_mix) := ok_mix mi FM
  have bM : L2.Binds K fdM ["_law_number", "_law_turn"] [] := FM.bindsN fun _ _ _ _ _ _ us hl => match us, hl with | [_, _], _ => rfl
  have bi : bootBuiltins "int" = some (.type "int") := by decide +kernel
  refine Fn.ok sc_l_draw (fun vs H Q E hp => ?_) (fun cdv A outer s H vs Q E hr hp => ?_)
  · obtain ⟨h, B, ds, Φ, Ψ, r, _, _, _, ⟨q, ds', _, _, _, e, z⟩, _⟩ := hp
    obtain ⟨n, rfl, _⟩ := draw_inv z
    rw [r.length, e]
    rfl
  · obtain ⟨h, B, ds, Φ, Ψ, r, hand, live, _, ⟨q0, ds', rfl, ql, li, rfl, z⟩, done, _⟩ := hp
    obtain ⟨n, rfl, n0, n1, k⟩ := draw_inv z
    obtain ⟨pq, lq, csq, rfl⟩ := li q0 rfl ql
    obtain ⟨v1, v2, rfl, r1, r2⟩ := rpA_two r
    obtain rfl := r1.at_inv
    obtain rfl := r2.int_inv
    obtain ⟨mq, ⟨o, h1, i, rest, tot, rfl, h4⟩, hJ⟩ := hand _ rfl
    obtain ⟨h2, h3⟩ := hJ lq _ ⟨rfl, rfl⟩
    have h1 : H pq = some (.lst [.ref lq, .int i, .int rest, .int tot]) := h1
    have hr1 : Room 1 _ := hr
    -- the end: a number below n, the hand with new numbers
    have nl : lq ≠ pq := fun z => h3 (by rw [z]; exact mq)
    have fin : ∀ (H2 : Hp) (i' rest' tot' x : Int), 0 ≤ i' → (∀ b o, (upd H pq (.lst [.ref lq, .int i', .int rest', .int tot'])) b = some o → H2 b = some o) → Q (.int (x % n)) H2 := fun H2 i' rest' tot' x hi hk => by
      refine done _ _ (.int (x % n)) (fun b o nb e => hk b o (by have nb2 : b ≠ pq := nb _ rfl rfl; rw [upd_ne nb2]; exact e)) (fun q' e => ?_) (.int _) (k _ (Int.emod_nonneg _ (by omega)) (Int.emod_lt_of_pos _ n0))
      cases e
      refine ⟨mq, ⟨_, hk _ _ upd_same, i', rest', tot', rfl, hi⟩, fun b o z => ?_⟩
      obtain ⟨rfl, rfl⟩ := z
      exact ⟨hk _ _ (by rw [upd_ne nl]; exact h2), h3⟩
    -- a draw's mix
    have mix : ∀ (H' : Hp) (a b : Int) (Q' : VK), (∀ r H2, (∀ c o, H' c = some o → H2 c = some o) → Q' (.int r) H2) → spD K S_mix [.int a, .int b] H' Q' E0 := fun H' a b Q' kk => by
      refine ⟨none, fun _ => False, [.int a, .int b], fun d => ∃ r : Int, d = .int r, fun _ _ => False, .cons (.int a) (.cons (.int b) .nil), (fun _ z => nomatch z), (fun _ z => z.elim), (fun _ z => nomatch z), ⟨a, b, rfl, fun r _ => ⟨r, rfl⟩⟩, ?_, fun _ _ _ _ _ _ _ z => z.elim⟩
      intro v H2 d g _ rr e
      obtain ⟨r, rfl⟩ := e
      obtain rfl := rr.int_inv
      exact kk r H2 fun c o z => g c o (fun _ y => nomatch y) z
    have hl2 : ∀ (o : HO), (upd H pq o) lq = some (.lst (csq.map V.int)) := fun o => by rw [upd_ne nl]; exact h2
    let X : Cx := cxOf (L2.CX Pg w) Pg w K mg base n_l_draw "_law_draw" (defScope s_l_draw) f cdv A outer s H E
    let D0 : Ends := { nx := fun x H' => Q V.non H', rt := Q }
    have tail : ∀ (H1 : Hp) (x : Option V) (i' rest' : Int), 0 ≤ i' → H1 pq = some (.lst [.ref lq, .int i', .int rest', .int tot]) → (∀ b o, b ≠ pq → H b = some o → H1 b = some o) → bS X ((defBody s_l_draw).tail) D0 [some (.ref pq), some (.int n), x, none] H1 := by
      intro H1 x i' rest' hi' e1 kp
      refine bS_of (X := X) (b := (defBody s_l_draw).tail) (by exact (pss_cons (ps_if (pt_cmpR op_gt (pe_ix ix_list (pv 0) pe_int (fun _ _ => rfl)) pe_int (nomark _))
        (pss_cons (ps_set (i := 3) sc_l_draw.nd rfl (Or.inl rfl) (pe_ix ix_list (pv 0) pe_int (fun _ _ => rfl)))
        (pss_cons (ps_asg (pe_op op_fdivW (pv 3) (pv 1)) (pg_sub (pv 0) pe_int set_list))
        (pss_one (ps_ret (pe_op op_mod (pe_callTy call_int1 rfl mi bi (pa_cons (pv 3) pa_nil)) (pv 1)))))) pss_nil)
        (pss_cons (ps_asg (pe_op op_mod (pe_callTy call_int1 rfl mi bi (pa_cons (pe_op op_add (pe_ix ix_list (pv 0) pe_int (fun _ _ => rfl)) pe_int) pa_nil)) pe_int) (pg_sub (pv 0) pe_int set_list))
        (pss_one (ps_ret (pe_op op_mod (pe_callTy call_int1 rfl mi bi (pa_cons (pe_call GM hr1 rfl gM FM.kp bM .nil passL (pa_cons (pe_ix ix_list (pv 0) pe_int (fun _ _ => rfl)) (pa_cons (pe_ix ix_list (pv 0) pe_int (fun _ _ => rfl)) pa_nil))) pa_nil)) (pv 1))))))) ?_
      refine ⟨_, rfl, pq, _, 2, .int rest', rfl, rfl, SqL.of e1, rfl, ?_⟩
      refine ⟨_, _, rfl, rfl, _, rfl, ?_⟩
      refine ite2 (fun z1 => ?_) (fun z1 => ?_)
      · refine ⟨_, rfl, pq, _, 2, .int rest', rfl, rfl, SqL.of e1, rfl, ?_⟩
        refine ⟨_, rfl, _, rfl, _, _, rfl, rfl, cdivW n0 n1, ?_⟩
        refine ⟨_, rfl, pq, _, 2, 2, rfl, rfl, e1, rfl, ?_⟩
        refine ⟨_, rfl, .inl ⟨_, rfl, ?_⟩⟩
        refine ⟨_, rfl, _, _, rfl, rfl, n0, ?_⟩
        exact fin _ i' _ tot _ hi' fun b o e => by
          by_cases eb : b = pq
          · rw [eb] at e ⊢
            rw [upd_same] at e ⊢
            exact e
          · rw [upd_ne eb] at e ⊢
            exact kp b o eb e
      · refine ⟨_, rfl, pq, _, 3, .int tot, rfl, rfl, SqL.of e1, rfl, ?_⟩
        refine ⟨_, _, rfl, rfl, .inl ⟨_, rfl, ?_⟩⟩
        refine ⟨_, _, rfl, rfl, (by show (0 : Int) < _; decide), ?_⟩
        refine ⟨_, rfl, pq, _, 3, 3, rfl, rfl, e1, rfl, ?_⟩
        refine ⟨_, rfl, pq, _, 3, .int _, rfl, rfl, SqL.of upd_same, rfl, ?_⟩
        refine ⟨_, rfl, pq, _, 1, .int i', rfl, rfl, SqL.of upd_same, rfl, ?_⟩
        refine mix _ _ _ _ fun r H2 hk => ?_
        refine .inl ⟨_, rfl, ?_⟩
        refine ⟨_, rfl, _, _, rfl, rfl, n0, ?_⟩
        exact fin _ i' rest' _ _ hi' fun b o e => by
          refine hk b o ?_
          by_cases eb : b = pq
          · rw [eb] at e ⊢
            rw [upd_same] at e ⊢
            exact e
          · rw [upd_ne eb] at e ⊢
            exact kp b o eb e
    refine ⟨_, pss_cons (ps_if (PW.pt (pw_and (pt_cmpR op_eq (pe_ix ix_list (pv 0) pe_int (fun _ _ => rfl)) pe_int (nomark _)) (pw_and1 (pt_cmpR op_lt (pe_ix ix_list (pv 0) pe_int (fun _ _ => rfl)) (pe_callB call_len rfl ml boot_len (pa_cons (pe_ix ix_list (pv 0) pe_int (fun _ _ => rfl)) pa_nil)) (nomark _)))))
      (pss_cons (ps_set (i := 2) sc_l_draw.nd rfl (Or.inl rfl) (pe_ix ix_list (pe_ix ix_list (pv 0) pe_int (fun _ _ => rfl)) (pe_ix ix_list (pv 0) pe_int (fun _ _ => rfl)) (fun _ _ => rfl)))
      (pss_cons (ps_asg (pe_op op_add (pe_ix ix_list (pv 0) pe_int (fun _ _ => rfl)) pe_int) (pg_sub (pv 0) pe_int set_list))
      (pss_cons (ps_if (pt_cmpR op_lt (pv 2) (pe_op op_pow pe_int pe_int) (nomark _))
        (pss_one (ps_ret (pe_op op_mod (pe_callTy call_int1 rfl mi bi (pa_cons (pe_call GM hr1 rfl gM FM.kp bM .nil passL (pa_cons (pe_op op_mod (pe_callTy call_int1 rfl mi bi (pa_cons (pv 2) pa_nil)) pe_int) (pa_cons (pe_ix ix_list (pv 0) pe_int (fun _ _ => rfl)) pa_nil))) pa_nil)) (pv 1)))) pss_nil)
      (pss_one (ps_asg (pv 2) (pg_sub (pv 0) pe_int set_list)))))) pss_nil) pbS, ?_⟩
    have same : ∀ b o, b ≠ pq → H b = some o → H b = some o := fun _ _ _ e => e
    refine ⟨_, rfl, pq, _, 2, .int rest, rfl, rfl, SqL.of h1, rfl, ?_⟩
    refine ⟨rfl, _, rfl, ?_⟩
    refine ite2 (fun z0 => ?_) (fun z0 => ?_)
    · have e0 : rest = 0 := by simpa using z0
      subst e0
      refine ⟨_, rfl, pq, _, 1, .int i, rfl, rfl, SqL.of h1, rfl, ?_⟩
      refine ⟨_, rfl, pq, _, 0, .ref lq, rfl, rfl, SqL.of h1, rfl, ?_⟩
      refine ⟨_, _, rfl, .inl ⟨_, SqL.of h2, rfl⟩, ?_⟩
      refine ⟨_, _, rfl, rfl, _, rfl, ?_⟩
      refine ite2 (fun z1 => ?_) (fun z1 => ?_)
      · have il : i < csq.length := by simpa using z1
        obtain ⟨j, rfl⟩ := Int.eq_ofNat_of_zero_le h4
        obtain ⟨c, ec⟩ : ∃ c, csq[j]? = some c := ⟨_, List.getElem?_eq_getElem (by omega)⟩
        refine ⟨_, rfl, pq, _, 0, .ref lq, rfl, rfl, SqL.of h1, rfl, ?_⟩
        refine ⟨_, rfl, pq, _, 1, .int j, rfl, rfl, SqL.of h1, rfl, ?_⟩
        refine ⟨lq, _, j, .int c, rfl, rfl, SqL.of h2, ?_, ?_⟩
        · exact atI_nat (by rw [List.getElem?_map, ec]; rfl)
        refine ⟨_, rfl, pq, _, 1, .int j, rfl, rfl, SqL.of h1, rfl, ?_⟩
        refine ⟨_, _, rfl, rfl, ?_⟩
        refine ⟨_, rfl, pq, _, 1, 1, rfl, rfl, h1, rfl, ?_⟩
        refine ⟨_, rfl, _, _, rfl, rfl, cpow (by decide) (by decide) (by decide), ?_⟩
        refine ⟨_, _, rfl, rfl, _, rfl, ?_⟩
        refine ite2 (fun z2 => ?_) (fun z2 => ?_)
        · refine ⟨_, rfl, .inl ⟨_, rfl, ?_⟩⟩
          refine ⟨_, _, rfl, rfl, (by show (0 : Int) < _; decide), ?_⟩
          refine ⟨_, rfl, pq, _, 1, .int _, rfl, rfl, SqL.of upd_same, rfl, ?_⟩
          refine mix _ _ _ _ fun r H2 hk => ?_
          refine .inl ⟨_, rfl, ?_⟩
          refine ⟨_, rfl, _, _, rfl, rfl, n0, ?_⟩
          exact fin _ _ 0 tot _ (by omega) fun b o e => hk b o e
        · refine ⟨_, rfl, _, rfl, pq, _, 2, 2, rfl, rfl, upd_same, rfl, ?_⟩
          refine tail _ _ (j + 1) c (by omega) upd_same fun b o nb e => ?_
          rw [upd_ne nb, upd_ne nb]
          exact e
      · exact tail H none i 0 h4 h1 same
    · exact tail H none i rest h4 h1 same
theorem rpA_ints {K : PySem.W.Frag} {M : Addr → Prop} {H : Hp} : ∀ {is : List Int} {vs : List V}, RpA K M H vs (is.map D.int) → vs = is.map V.int
  | [], _, .nil => rfl
  | i :: is, _, .cons h t => by rw [rpA_ints t, h.int_inv]; rfl
theorem vMul_ok {i j : Int} (z : (inW i || inW j) = true) : vMul (.int i) (.int j) = .ret (.int (i * j)) := by
  show T.chk (inW i || inW j) _ = _
  rw [z]; rfl
theorem ends_nx {X : Cx} {B : Addr → Prop} {F : Addr → HO → Prop} {G : V → D → Prop} {R : List Sl → Prop} {D0 : Ends} {W : WX} (k : ∀ M σ H δ, SD X.K none B F G M H σ δ → R δ → D0.nx σ H) : EndsOk X none B F G ⟨R, fun _ => False, fun _ => False, fun _ => False, fun _ _ _ => False⟩ D0 W :=
  ⟨k, fun M σ H δ v d _ _ z => z.elim, fun M σ H δ _ z => z.elim, fun M σ H δ _ z => z.elim, fun M σ H δ C od fs _ _ z => z.elim⟩
theorem ok_hand (me : mg "enumerate" = none) (ma : mg "abs" = none) (mi : mg "int" = none) (Fn : FnP K "_law_hand" s_l_hand f fd) : FnOk Pg w K mg base (L2.CX Pg w) 1 f fd ["_law_script"] (spHand K lawHd) := by
  refine Fn.ok sc_l_hand (fun vs H Q E hp => ?_) (fun cdv A outer s H vs Q E hr hp => ?_)
  · obtain ⟨M, is, r, _⟩ := hp
    rw [r.length]
    rfl
  · obtain ⟨M, is, r, hl, done⟩ := hp
    obtain ⟨v, rfl, rv⟩ := rpA_one r
    let X : Cx := cxOf (L2.CX Pg w) Pg w K mg base n_l_hand "_law_hand" (defScope s_l_hand) f cdv A outer s H E
    refine ⟨_, pss_cons psS (pss_cons psS (pss_one (ps_ret (pe_lst (pa_cons peS (pa_cons pe_int (pa_cons pe_int (pa_cons (pv 1) pa_nil)))))))), ?_⟩
    have S0 : SD K none (fun _ => False) (fun b o => H b = some o) (fun _ _ => False) (fun _ => False) H (L2.start n_l_hand [v]) [.val (.zlst (is.map D.int)), .no, .no, .no] := SD.begin (N := n_l_hand) r
    have tk : Takes X (fun cls d _ H' => E cls d H') := takes_of rfl rfl rfl rfl
    refine ((ds_set (X := X) 1 sc_l_hand.nd (f := cK (.int 7)) de_int).run [.val (.zlst (is.map D.int)), .no, .no, .no] ⟨fun δ => δ = [.val (.zlst (is.map D.int)), .val (.int 7), .no, .no], fun _ => False, fun _ => False, fun _ => False, fun _ _ _ => False⟩ (by exact rfl)).run _ _ _ _ _ H _ _ tk S0 (ends_nx fun M1 σ1 H1 δ1 S1 e1 => ?_)
    subst e1
    refine ((ds_for (X := X) (passes_of rfl) (di_enum me (de_var 0)) (tgA [2, 3] sc_l_hand.nd) (db_one (ds_set 1 sc_l_hand.nd (de_mod (de_intc rfl mi (da_cons (de_add (de_mul (de_var 1) de_int) (de_mul (de_intc rfl mi (da_cons (de_var 3) da_nil)) (de_add (de_var 2) de_int))) da_nil)) de_int)))).run _ ⟨fun δ => ∃ (t : Int) (x y : Sl), δ = [.val (.zlst (is.map D.int)), .val (.int t), x, y], fun _ => False, fun _ => False, fun _ => False, fun _ _ _ => False⟩ ?_).run _ _ _ _ _ H1 _ _ tk S1 (ends_nx fun M2 σ2 H2 δ2 S2 e2 => ?_)
    · refine goF_inv (fun _ δ => ∃ (t : Int) (x y : Sl), δ = [.val (.zlst (is.map D.int)), .val (.int t), x, y]) (enumD (is.map D.int)) 0 _ (fun k δ d hd ⟨t, x, y, e⟩ => ?_) (fun δ z => z) ⟨_, _, _, rfl⟩
      subst e
      have hk : k < is.length := by have := (List.getElem?_eq_some_iff.mp hd).1; rw [enumD_len] at this; simpa using this
      have h2 := enumD_get (ds := is.map D.int) (i := k) (d := D.int is[k]) (by rw [List.getElem?_map, List.getElem?_eq_getElem hk]; rfl)
      have ed := h2.symm.trans hd
      cases ed
      refine ⟨_, rfl, ?_⟩
      have z1 : (inW t || inW 41) = true := by rw [show inW 41 = true by decide, Bool.or_true]
      have z2 : (inW is[k] || inW ((k : Int) + 3)) = true := by
        rw [show inW ((k : Int) + 3) = true by simp only [inW, Bool.and_eq_true, decide_eq_true_eq]; omega, Bool.or_true]
      have m1 : vMul (.int t) (.int 41) = .ret (.int (t * 41)) := vMul_ok z1
      have m2 : vMul (.int is[k]) (.int ((k : Int) + 3)) = .ret (.int (is[k] * ((k : Int) + 3))) := vMul_ok z2
      show (T.on _ ((((((vMul (.int t) (.int 41)).bind fun x => (vMul (.int is[k]) (.int ((k : Int) + 3))).bind fun y => vAdd x y).bind fun d => T.ret [d]).bind vInt).bind fun x => vMod x (.int 2147483629))) fun d => T.ret (Fl.nx _)).sat _ _
      rw [m1, m2]
      exact ⟨_, _, _, rfl⟩
    · obtain ⟨t, x, y, rfl⟩ := e2
      refine ((df_lc (X := X) (own := [("_law_cell", 3)]) sc_l_hand.nd (blkOk_by (by show blkC n_l_hand (defScope s_l_hand) _ _ = true; decide +kernel)) rfl (di_seq (de_var 0)) (fun s0 H0 C0 cl0 fp0 => (tg_name 3 sc_l_hand.nd)) (dc_all (fun s0 H0 C0 cl0 fp0 => (de_abs rfl ma (da_cons (de_intc rfl mi (da_cons (de_var 3) da_nil)) da_nil))))).run _ (fun ds => ∃ cs : List Int, ds = cs.map D.int) (fun _ _ => False) ?_).run _ _ _ _ _ H2 _ _ tk S2 (fun l H3 xs ds g3 S3 n3 hl3 r3 ⟨cs, e3⟩ => ?_) (fun _ _ _ _ _ _ _ z => z.elim)
      · show (T.chk (decide ((is.map D.int).length ≤ 90000)) _).sat _ _
        rw [List.length_map, decide_eq_true hl]
        refine lcGo_inv (fun _ acc => ∃ cs : List Int, acc = cs.map D.int) (is.map D.int) [] (fun k d hd => ?_) (fun acc z => z) ⟨[], rfl⟩
        rw [List.getElem?_map] at hd
        obtain ⟨c, _, rfl⟩ := Option.map_eq_some_iff.mp hd
        refine ⟨_, rfl, rfl, fun acc ⟨cs, e⟩ => ⟨cs ++ [if c < 0 then -c else c], ?_⟩⟩
        rw [e, List.map_append]
        rfl
      · subst e3
        have xe := rpA_ints r3
        subst xe
        obtain ⟨vt, et, rt⟩ := S3.val 1 _ rfl
        obtain rfl := rt.int_inv
        refine ⟨_, et, ?_⟩
        refine ⟨szOf (by show 4 ≤ 100000; decide), fun p hp => ?_⟩
        have n0 : ∀ b, H2 b = none → H b = none := fun b z => by
          cases y : H b with
          | none => rfl
          | some o => rw [S2.fk b o y] at z; cases z
        have n03 : ∀ b, H3 b = none → H b = none := fun b z => by
          cases y : H b with
          | none => rfl
          | some o => rw [S3.fk b o y] at z; cases z
        refine done p l cs _ (n03 p hp) (n0 l n3) (fun z => ne_of_none hl3 hp z.symm) ⟨_, upd_same, 0, 0, _, rfl, Int.le_refl 0⟩ (fun b o z => ?_) fun b o z => ?_
        · obtain ⟨rfl, rfl⟩ := z
          exact ⟨rfl, by rw [upd_ne (ne_of_none hl3 hp)]; exact hl3⟩
        · rw [upd_ne (ne_of_none (S3.fk b o z) hp)]
          exact S3.fk b o z
end
end V95

set_option Elab.async false
set_option linter.all false
set_option maxRecDepth 100000
set_option maxHeartbeats 4000000
/-! A table of lists under tuple keys: how it stands in the heap. -/
namespace Ud
open PySem PySem.Spec PyProof.Rows L2 Uc
inductive TR (H : Hp) : List (List Key × V) → List (List Key × List Int) → Prop
  | nil : TR H [] []
  | cons {k : List Key} {l : Addr} {xs : List Int} {r : List (List Key × V)} {t : List (List Key × List Int)} (h : H l = some (.lst (xs.map V.int))) (rr : TR H r t) : TR H ((k, .ref l) :: r) ((k, xs) :: t)
section
variable {H H' : Hp} {kvs : List (List Key × V)} {t : List (List Key × List Int)} {k : List Key} {x : Int}
theorem TR.mono : ∀ {kvs : List (List Key × V)} {t : List (List Key × List Int)}, TR H kvs t → (∀ l o, V.ref l ∈ kvs.map Prod.snd → H l = some o → H' l = some o) → TR H' kvs t
  | _, _, .nil, _ => .nil
  | _, _, .cons h r, w => .cons (w _ _ List.mem_cons_self h) (r.mono fun l o z => w l o (List.mem_cons_of_mem _ z))
theorem TR.keys : ∀ {kvs : List (List Key × V)} {t : List (List Key × List Int)}, TR H kvs t → kvs.map Prod.fst = t.map Prod.fst
  | _, _, .nil => rfl
  | _, _, .cons h r => congrArg (_ :: ·) r.keys
theorem TR.length (r : TR H kvs t) : kvs.length = t.length := by
  have := congrArg List.length r.keys
  simpa using this
theorem TR.none (x : Int) : ∀ {kvs : List (List Key × V)} {t : List (List Key × List Int)}, TR H kvs t → valV kvs k = Option.none → putE k x t = t ++ [(k, [x])] ∧ k ∉ t.map Prod.fst
  | _, _, .nil, _ => ⟨rfl, by simp⟩
  | _, _, .cons (k := q) (xs := xs) (t := t) h r, e => by
    have ne : ¬ q = k := fun z => by rw [valV_pos (p := (q, _)) z] at e; cases e
    rw [valV_neg (p := (q, _)) ne] at e
    obtain ⟨e1, e2⟩ := TR.none x r e
    refine ⟨?_, ?_⟩
    · show (if q = k then _ else (q, xs) :: putE k x t) = _
      rw [if_neg ne, e1]; rfl
    · simp only [List.map_cons, List.mem_cons, not_or]
      exact ⟨fun z => ne z.symm, e2⟩
theorem putK_none {v : V} (e : valV kvs k = Option.none) : putK kvs k v = kvs ++ [(k, v)] := by
  unfold putK
  rw [valV_any, e]
  rfl
theorem TR.snoc {l : Addr} : ∀ {kvs : List (List Key × V)} {t : List (List Key × List Int)}, TR H kvs t → H l = some (.lst ([x].map V.int)) → TR H (kvs ++ [(k, .ref l)]) (t ++ [(k, [x])])
  | _, _, .nil, e => .cons e .nil
  | _, _, .cons h r, e => .cons h (r.snoc e)
theorem TR.some : ∀ {kvs : List (List Key × V)} {t : List (List Key × List Int)} {v : V}, TR H kvs t → (kvs.map Prod.snd).Nodup → valV kvs k = Option.some v →
    ∃ l xs, v = .ref l ∧ V.ref l ∈ kvs.map Prod.snd ∧ H l = Option.some (.lst (xs.map V.int)) ∧ (k, xs) ∈ t ∧ TR (upd H l (.lst (xs.map V.int ++ [.int x]))) kvs (putE k x t) ∧ (putE k x t).map Prod.fst = t.map Prod.fst ∧ ∀ p ∈ putE k x t, p ∈ t ∨ p = (k, xs ++ [x])
  | _, _, v, .nil, _, e => by cases e
  | _, _, v, .cons (k := q) (l := l) (xs := xs) (r := r) (t := t) h rr, nd, e => by
    have nd' : (V.ref l :: r.map Prod.snd).Nodup := nd
    obtain ⟨n1, n2⟩ := List.nodup_cons.mp nd'
    by_cases z : q = k
    · rw [valV_pos (p := (q, V.ref l)) z] at e
      cases e
      have ep : putE k x ((q, xs) :: t) = (q, xs ++ [x]) :: t := by
        show (if q = k then (q, xs ++ [x]) :: t else _) = _
        rw [if_pos z]
      refine ⟨l, xs, rfl, List.mem_cons_self, h, by rw [← z]; exact List.mem_cons_self, ?_, by rw [ep]; rfl, fun p hp => ?_⟩
      · rw [ep]
        refine .cons (by rw [upd_same, List.map_append]; rfl) (rr.mono fun l' o m e' => ?_)
        rw [upd_ne (fun y => n1 (by rw [← y]; exact m))]
        exact e'
      · rw [ep] at hp
        rcases List.mem_cons.mp hp with y | y
        · exact .inr (by rw [y, z])
        · exact .inl (List.mem_cons_of_mem _ y)
    · rw [valV_neg (p := (q, V.ref l)) z] at e
      obtain ⟨l', ys, e1, m, e2, m2, r2, ek, ea⟩ := rr.some n2 e
      subst e1
      have ep : putE k x ((q, xs) :: t) = (q, xs) :: putE k x t := by
        show (if q = k then _ else (q, xs) :: putE k x t) = _
        rw [if_neg z]
      refine ⟨l', ys, rfl, List.mem_cons_of_mem _ m, e2, List.mem_cons_of_mem _ m2, ?_, by rw [ep]; exact congrArg (q :: ·) ek, fun p hp => ?_⟩
      · rw [ep]
        refine .cons ?_ r2
        rw [upd_ne (fun y => n1 (by rw [y]; exact m))]
        exact h
      · rw [ep] at hp
        rcases List.mem_cons.mp hp with y | y
        · exact .inl (by rw [y]; exact List.mem_cons_self)
        · rcases ea p y with y | y
          · exact .inl (List.mem_cons_of_mem _ y)
          · exact .inr y
theorem TR.get : ∀ {kvs : List (List Key × V)} {t : List (List Key × List Int)} {i : Nat} {p : List Key × V}, TR H kvs t → kvs[i]? = Option.some p → ∃ l xs, p.2 = .ref l ∧ H l = Option.some (.lst (xs.map V.int)) ∧ t[i]? = Option.some (p.1, xs)
  | _, _, _, _, .nil, e => by simp at e
  | _, _, 0, _, .cons h r, e => by simp at e; subst e; exact ⟨_, _, rfl, h, rfl⟩
  | _, _, i + 1, _, .cons h r, e => by
    obtain ⟨l, xs, h1, h2, h3⟩ := r.get (i := i) (by simpa using e)
    exact ⟨l, xs, h1, h2, by simpa using h3⟩
end
theorem row4_ok {d : D} {k : List Key} {x : Int} (e : row4 d = some (k, x)) : ∃ a b c, d = .tup [.int a, .int b, .int c, .int x] ∧ k = [.inl a, .inl b, .inl c] := by
  unfold row4 at e
  split at e
  · cases e
    exact ⟨_, _, _, rfl, rfl⟩
  · cases e
theorem endsE_cons {d : D} {ds : List D} {t r : List (List Key × List Int)} (e : endsE (d :: ds) t = some r) : ∃ a b c x, d = .tup [.int a, .int b, .int c, .int x] ∧ endsE ds (putE [.inl a, .inl b, .inl c] x t) = some r := by
  have e' : (match row4 d with
    | some (k, x) => endsE ds (putE k x t)
    | none => none) = some r := e
  split at e'
  · rename_i k x ek
    obtain ⟨a, b, c, rfl, rfl⟩ := row4_ok ek
    exact ⟨a, b, c, x, rfl, e'⟩
  · cases e'
/-- a table of tuples: what the comprehension has laid -/
inductive TT' (H : Hp) : List (List Key × V) → List (List Key × List Int) → Prop
  | nil : TT' H [] []
  | cons {k : List Key} {l : Addr} {xs : List Int} {r : List (List Key × V)} {t : List (List Key × List Int)} (h : H l = some (.tup (xs.map V.int))) (rr : TT' H r t) : TT' H ((k, .ref l) :: r) ((k, xs) :: t)
theorem TT'.mono {H H' : Hp} (w : ∀ l o, H l = some o → (∃ xs, o = .tup xs) → H' l = some o) : ∀ {kvs : List (List Key × V)} {t : List (List Key × List Int)}, TT' H kvs t → TT' H' kvs t
  | _, _, .nil => .nil
  | _, _, .cons h r => .cons (w _ _ h ⟨_, rfl⟩) (r.mono w)
theorem TT'.snoc {H : Hp} {k : List Key} {xs : List Int} {l : Addr} : ∀ {kvs : List (List Key × V)} {t : List (List Key × List Int)}, TT' H kvs t → H l = some (.tup (xs.map V.int)) → TT' H (kvs ++ [(k, .ref l)]) (t ++ [(k, xs)])
  | _, _, .nil, e => .cons e .nil
  | _, _, .cons h r, e => .cons h (r.snoc e)
theorem TT'.keys {H : Hp} : ∀ {kvs : List (List Key × V)} {t : List (List Key × List Int)}, TT' H kvs t → kvs.map Prod.fst = t.map Prod.fst
  | _, _, .nil => rfl
  | _, _, .cons h r => congrArg (_ :: ·) r.keys
theorem rpA_mapInt {K : PySem.W.Frag} {M : Addr → Prop} {H : Hp} : ∀ xs : List Int, RpA K M H (xs.map V.int) (xs.map D.int)
  | [] => .nil
  | x :: xs => .cons (.int x) (rpA_mapInt xs)
theorem TT'.rp {K : PySem.W.Frag} {M : Addr → Prop} {H : Hp} : ∀ {kvs : List (List Key × V)} {t : List (List Key × List Int)}, TT' H kvs t → (∀ l, V.ref l ∈ kvs.map Prod.snd → ¬ M l) → RpA K M H (kvs.map Prod.snd) (t.map fun p => .tup (p.2.map D.int))
  | _, _, .nil, _ => .nil
  | _, _, .cons h r, w => .cons (.tup (w _ List.mem_cons_self) h (rpA_mapInt _)) (r.rp fun l z => w l (List.mem_cons_of_mem _ z))
theorem valV_notin {kvs : List (List Key × V)} {k : List Key} (h : k ∉ kvs.map Prod.fst) : valV kvs k = none := by
  induction kvs with
  | nil => rfl
  | cons p r ih =>
    simp only [List.map_cons, List.mem_cons, not_or] at h
    rw [valV_neg (fun z => h.1 z.symm)]
    exact ih h.2
theorem valV_at {kvs : List (List Key × V)} (nd : (kvs.map Prod.fst).Nodup) : ∀ {i : Nat} {p : List Key × V}, kvs[i]? = some p → valV kvs p.1 = some p.2 := by
  induction kvs with
  | nil => intro i p e; simp at e
  | cons q r ih =>
    intro i p e
    have nd' : (q.1 :: r.map Prod.fst).Nodup := nd
    obtain ⟨n1, n2⟩ := List.nodup_cons.mp nd'
    match i, e with
    | 0, e => simp at e; subst e; exact valV_pos rfl
    | i + 1, e =>
      have e' : r[i]? = some p := by simpa using e
      have m : p.1 ∈ r.map Prod.fst := List.mem_map.mpr ⟨p, List.mem_of_getElem? e', rfl⟩
      rw [valV_neg (fun z => n1 (by rw [z]; exact m))]
      exact ih n2 e'
/-- the table stands at p, all that stood before stands -/
structure TbS (H0 H : Hp) (p : Addr) (n : Nat) (t : List (List Key × List Int)) : Prop where
  ex : ∃ kvs, H p = some (.dT kvs) ∧ TR H kvs t ∧ (kvs.map Prod.snd).Nodup ∧ ∀ l, V.ref l ∈ kvs.map Prod.snd → H0 l = none
  nk : (t.map Prod.fst).Nodup
  l1 : t.length ≤ n
  l2 : ∀ q ∈ t, q.2.length ≤ n
  kp : ∀ b o, H0 b = some o → H b = some o
abbrev rTup (K : PySem.W.Frag) : List V → Hp → VK → Prop := fun xs H Q => ∃ p ys, xs = [.ref p] ∧ ((SqL K H p ys ∧ ∀ l, H l = none → Q (.ref l) (upd H l (.tup ys))) ∨ (SqT K H p ys ∧ Q (.ref p) H))
theorem ends_body {K : PySem.W.Frag} {H0 H : Hp} {p : Addr} {n : Nat} {t : List (List Key × List Int)} {σ : L2.St} {a m c x : Int} {D : Ends} (hp0 : H0 p = none) (S : TbS H0 H p n t) (hn : n < 90000)
    (s1 : σ[1]? = some (some (.ref p))) (s2 : σ[2]? = some (some (.int a))) (s3 : σ[3]? = some (some (.int m))) (s4 : σ[4]? = some (some (.int c))) (s5 : σ[5]? = some (some (.int x)))
    (fin : ∀ H', TbS H0 H' p (n + 1) (putE [.inl a, .inl m, .inl c] x t) → D.nx σ H') :
    tDrop (tBM K "list" rAppend (tDSetT (tVar 1) (tTup (tCons (tVar 2) (tCons (tVar 3) (tCons (tVar 4) tNil)))) (tLst tNil)) (tCons (tVar 5) tNil)) D σ H := by
  obtain ⟨⟨kvs, e, r, nd, nw⟩, nk, l1, l2, kp⟩ := S
  have lk : kvs.length = t.length := r.length
  refine ⟨.ref p, s1, p, rfl, .inr ⟨kvs, .inl e⟩, ?_⟩
  refine ⟨_, s2, _, s3, _, s4, szOf (by show 3 ≤ 100000; decide), fun q hq => ?_⟩
  refine ⟨szOf (by show 0 ≤ 100000; decide), fun l hl => ?_⟩
  have ql : q ≠ l := fun z => by rw [z, upd_same] at hl; cases hl
  have hlH : H l = none := by rw [upd_ne (Ne.symm ql)] at hl; exact hl
  have up : ∀ b o, H b = some o → (upd (upd H q (.tup [.int a, .int m, .int c])) l (.lst [])) b = some o := fun b o z => by rw [upd_ne (ne_of_none z hlH), upd_ne (ne_of_none z hq)]; exact z
  have q3 : (upd (upd H q (.tup [.int a, .int m, .int c])) l (.lst [])) q = some (.tup [.int a, .int m, .int c]) := by rw [upd_ne ql, upd_same]
  have z3 : (upd (upd H q (.tup [.int a, .int m, .int c])) l (.lst [])) l = some (.lst []) := upd_same
  generalize upd (upd H q (.tup [.int a, .int m, .int c])) l (.lst []) = H3 at *
  have e3 : H3 p = some (.dT kvs) := up _ _ e
  have r3 : TR H3 kvs t := r.mono fun l o _ z => up l o z
  have l0 : ∀ b o, H0 b = some o → H b ≠ none := fun b o z => by rw [kp b o z]; exact fun y => nomatch y
  have hl0 : H0 l = none := by
    cases y : H0 l with
    | none => rfl
    | some o => exact absurd hlH (l0 l o y)
  refine ⟨kvs, [.inl a, .inl m, .inl c], q, e3, rfl, q3, szLt (by omega), fun v hv => ?_, fun hv => ?_⟩
  · obtain ⟨l', xs, rfl, me, el, mt, r2, ek, ea⟩ := r3.some (x := x) nd hv
    have nl : l' ≠ p := fun z => by rw [z, e3] at el; cases el
    have lx : xs.length ≤ n := l2 _ mt
    refine ⟨.inl ⟨rfl, _, SqL.of el⟩, _, s5, l', _, _, rfl, rfl, el, szLt (by rw [List.length_map]; omega), fin _ ⟨⟨kvs, by rw [upd_ne (Ne.symm nl)]; exact e3, r2, nd, nw⟩, by rw [ek]; exact nk, ?_, fun y hy => ?_, fun b o z => ?_⟩⟩
    · have := congrArg List.length ek; simp only [List.length_map] at this; omega
    · rcases ea y hy with y1 | y1
      · have := l2 _ y1; omega
      · rw [y1]
        show (xs ++ [x]).length ≤ n + 1
        rw [List.length_append]
        exact Nat.succ_le_succ lx
    · have hb : b ≠ l' := fun y => by rw [y, nw _ me] at z; cases z
      rw [upd_ne hb]; exact up _ _ (kp b o z)
  · obtain ⟨e1, e2⟩ := TR.none x r3 hv
    have lp : l ≠ p := fun z => by rw [z, e3] at z3; cases z3
    have kn : putK kvs [.inl a, .inl m, .inl c] (.ref l) = kvs ++ [([.inl a, .inl m, .inl c], .ref l)] := putK_none hv
    have z4 : (upd H3 p (.dT (putK kvs [.inl a, .inl m, .inl c] (.ref l)))) l = some (.lst []) := by rw [upd_ne lp]; exact z3
    have nin : V.ref l ∉ kvs.map Prod.snd := fun z => by
      obtain ⟨y, hy, ey⟩ := List.mem_map.mp z
      obtain ⟨i, hi⟩ := List.mem_iff_getElem?.mp hy
      obtain ⟨l2, xs, h1, h2, _⟩ := r.get hi
      rw [ey] at h1
      cases h1
      rw [hlH] at h2
      cases h2
    refine ⟨.inl ⟨rfl, _, SqL.of z4⟩, _, s5, l, _, _, rfl, rfl, z4, szLt (by show 0 < 100000; decide), fin _ ⟨⟨putK kvs [.inl a, .inl m, .inl c] (.ref l), by rw [upd_ne (Ne.symm lp)]; exact upd_same, ?_, ?_, ?_⟩, ?_, ?_, fun y hy => ?_, fun b o z => ?_⟩⟩
    · rw [kn, e1]
      refine TR.snoc (r3.mono fun l' o m' z => ?_) (by rw [upd_same]; rfl)
      have n1 : l' ≠ l := fun y => nin (by rw [← y]; exact m')
      have n2 : l' ≠ p := fun y => by
        obtain ⟨y', hy, ey⟩ := List.mem_map.mp m'
        obtain ⟨i, hi⟩ := List.mem_iff_getElem?.mp hy
        obtain ⟨l2, xs, h1, h2, _⟩ := r3.get hi
        rw [ey] at h1
        cases h1
        rw [y, e3] at h2
        cases h2
      rw [upd_ne n1, upd_ne n2]
      exact z
    · rw [kn, List.map_append]
      exact List.nodup_append.mpr ⟨nd, by simp, fun a ha b hb => by
        have hb' : b = V.ref l := by simpa using hb
        subst hb'
        exact fun y => nin (by rw [← y]; exact ha)⟩
    · intro l' hl'
      rw [kn, List.map_append] at hl'
      rcases List.mem_append.mp hl' with y | y
      · exact nw _ y
      · have : l' = l := by simpa using y
        rw [this]; exact hl0
    · rw [e1, List.map_append]
      exact List.nodup_append.mpr ⟨nk, by simp, fun a' ha b hb => by
        have hb' : b = [.inl a, .inl m, .inl c] := by simpa using hb
        subst hb'
        exact fun y => e2 (by rw [← y]; exact ha)⟩
    · rw [e1, List.length_append]
      exact Nat.succ_le_succ l1
    · rw [e1] at hy
      rcases List.mem_append.mp hy with y1 | y1
      · have := l2 _ y1; omega
      · have : y = ([.inl a, .inl m, .inl c], [x]) := by simpa using y1
        rw [this]
        show 1 ≤ n + 1
        omega
    · have h3 := up _ _ (kp b o z)
      have n1 : b ≠ l := fun y => by rw [y, hl0] at z; cases z
      have n2 : b ≠ p := fun y => by rw [y, hp0] at z; cases z
      rw [upd_ne n1, upd_ne n2]
      exact h3
theorem yes_go {H : Hp} {σ : L2.St} {P R : Hp → Prop} (h : P H) : tYes σ H fun b H3 => if b = true then P H3 else R H3 := by
  unfold tYes
  simp only [if_true]
  exact h
theorem ends_tail {K : PySem.W.Frag} {H0 H : Hp} {p : Addr} {n : Nat} {t : List (List Key × List Int)} {σ : L2.St} {D : Ends} (hp0 : H0 p = none) (S : TbS H0 H p n t) (hn : n ≤ 90000) (s1 : σ[1]? = some (some (.ref p))) (sl : 6 < σ.length)
    (fin : ∀ q H' kv, H0 q = none → H' q = some (.dT kv) → TT' H' kv t → (∀ l, V.ref l ∈ kv.map Prod.snd → H0 l = none) → (∀ b o, H0 b = some o → H' b = some o) → D.rt (.ref q) H') :
    tRet (tLockE (tDcT (iKeys (tVar 1)) (gName 6) tYes (tVar 6) (tCB (rTup K) (tCons (tDGet (tVar 1) (tVar 6)) tNil)) [6])) D σ H := by
  obtain ⟨⟨kvs, e, r, nd, nw⟩, nk, l1, l2, kp⟩ := S
  have lk : kvs.length = t.length := r.length
  have nkk : (kvs.map Prod.fst).Nodup := by rw [r.keys]; exact nk
  refine ⟨p, _, e, trivial, fun od => ?_⟩
  have up : ∀ b o, H0 b = some o → (upd H p (.frz od (.dT kvs))) b = some o := fun b o z => by
    rw [upd_ne (fun y => by rw [y, hp0] at z; cases z)]; exact kp b o z
  have eF : (upd H p (.frz od (.dT kvs))) p = some (.frz od (.dT kvs)) := upd_same
  have rF : TR (upd H p (.frz od (.dT kvs))) kvs t := r.mono fun l o m z => by
    rw [upd_ne (fun y => by
      obtain ⟨y', hy, ey⟩ := List.mem_map.mp m
      obtain ⟨i, hi⟩ := List.mem_iff_getElem?.mp hy
      obtain ⟨l2, xs, h1, h2, _⟩ := r.get hi
      rw [ey] at h1
      cases h1
      rw [y, e] at h2
      cases h2)]
    exact z
  generalize upd H p (.frz od (.dT kvs)) = HF at *
  refine ⟨.ref p, s1, p, od, rfl, .inr ⟨kvs, eF, fun Dd hD => ?_⟩⟩
  have hD0 : H0 Dd = none := by
    cases y : H0 Dd with
    | none => rfl
    | some o => rw [up _ _ y] at hD; cases hD
  refine ⟨fun i m Hc => m + i = t.length ∧ ∃ kv, Hc Dd = some (.dT kv) ∧ TT' Hc kv (t.take i) ∧ (∀ l, V.ref l ∈ kv.map Prod.snd → H0 l = none) ∧ ∀ b o, HF b = some o → Hc b = some o, ⟨t.length, rfl, [], upd_same, .nil, fun l z => (by simp at z), fun b o z => by rw [upd_ne (ne_of_none z hD)]; exact z⟩, ?_⟩
  rintro i m Hc ⟨hm, kv, eD, tt, nv, kc⟩
  have eP := kc _ _ eF
  by_cases hi : t.length ≤ i
  · refine .inl ⟨⟨eP, by omega⟩, eP, ?_⟩
    have ei : t.take i = t := List.take_of_length_le hi
    rw [ei] at tt
    have dp : Dd ≠ p := fun y => by rw [y, eP] at eD; cases eD
    refine fin Dd _ kv hD0 (by rw [upd_ne dp]; exact eD) (tt.mono fun l o z ⟨xs, ex⟩ => ?_) nv fun b o z => ?_
    · rw [upd_ne (fun y => by rw [y, eP] at z; cases z; cases ex)]; exact z
    · rw [upd_ne (fun y => by rw [y, hp0] at z; cases z)]; exact kc _ _ (up _ _ z)
  · have hlt : i < t.length := by omega
    refine .inr ⟨⟨eP, by omega⟩, fun Hn => (m - 1) + (i + 1) = t.length ∧ ∃ kv, Hn Dd = some (.dT kv) ∧ TT' Hn kv (t.take (i + 1)) ∧ (∀ l, V.ref l ∈ kv.map Prod.snd → H0 l = none) ∧ ∀ b o, HF b = some o → Hn b = some o, fun H' z => ⟨m - 1, by omega, z⟩, ?_⟩
    rintro x H' ⟨rfl, k, v, q, ekv, rfl, eq⟩
    show wipe ((wipe σ [6]).set 6 (some (.ref q))) [6] = wipe σ [6] ∧ _
    refine ⟨by show ((σ.set 6 none).set 6 _).set 6 none = σ.set 6 none; rw [List.set_set, List.set_set], ?_⟩
    have w6 : ((wipe σ [6]).set 6 (some (V.ref q)))[6]? = some (some (.ref q)) := by
      rw [List.getElem?_set_self (by rw [wipe_length]; exact sl)]
    have w1 : ((wipe σ [6]).set 6 (some (V.ref q)))[1]? = some (some (.ref p)) := by
      rw [List.getElem?_set_ne (by decide)]
      show (σ.set 6 none)[1]? = _
      rw [List.getElem?_set_ne (by decide)]
      exact s1
    obtain ⟨l, xs, ev, el, et⟩ := rF.get ekv
    dsimp only at ev et
    subst ev
    refine yes_go ?_
    refine ⟨_, w6, _, w1, _, w6, p, .ref l, rfl, .inr ⟨kvs, k, q, .inr ⟨od, eP⟩, rfl, eq, (valV_at nkk ekv).symm⟩, ?_⟩
    have el2 := kc _ _ el
    refine ⟨l, _, rfl, .inl ⟨SqL.of el2, fun l2 hl2 => ?_⟩⟩
    have nD : Dd ≠ l2 := fun y => by rw [y, hl2] at eD; cases eD
    have nq : q ≠ l2 := fun y => by rw [y, hl2] at eq; cases eq
    have kk : kv.map Prod.fst = (t.take i).map Prod.fst := tt.keys
    have lkv : kv.length = i := by
      have := congrArg List.length kk
      simp only [List.length_map, List.length_take] at this
      omega
    have kn : k ∉ kv.map Prod.fst := fun z => by
      rw [kk] at z
      obtain ⟨y, hy, ey⟩ := List.mem_map.mp z
      obtain ⟨j, hj⟩ := List.mem_iff_getElem?.mp hy
      have hji : j < i := by
        have := (List.getElem?_eq_some_iff.mp hj).1
        rw [List.length_take] at this; omega
      rw [List.getElem?_take_of_lt hji] at hj
      have e1 : (t.map Prod.fst)[j]? = some k := by rw [List.getElem?_map, hj]; exact congrArg some ey
      have e2 : (t.map Prod.fst)[i]? = some k := by rw [List.getElem?_map, et]; rfl
      obtain ⟨j1, f1⟩ := List.getElem?_eq_some_iff.mp e1
      obtain ⟨j2, f2⟩ := List.getElem?_eq_some_iff.mp e2
      exact (List.pairwise_iff_getElem.mp nk) j i j1 j2 hji (f1.trans f2.symm)
    have pk : putK kv k (.ref l2) = kv ++ [(k, .ref l2)] := putK_none (valV_notin kn)
    refine ⟨kv, k, q, rfl, by rw [upd_ne nq]; exact eq, by rw [upd_ne nD]; exact eD, szLt (by omega), by omega, _, upd_same, ?_, fun l3 z => ?_, fun b o z => ?_⟩
    · rw [pk, List.take_succ, et]
      refine TT'.snoc (tt.mono fun l3 o z ⟨xs3, ex⟩ => ?_) ?_
      · rw [upd_ne (fun y => by rw [y, eD] at z; cases z; cases ex), upd_ne (fun y => by rw [y, hl2] at z; cases z)]
        exact z
      · rw [upd_ne (Ne.symm nD), upd_same]
    · rw [pk, List.map_append] at z
      rcases List.mem_append.mp z with y | y
      · exact nv _ y
      · have : l3 = l2 := by simpa using y
        rw [this]
        cases y : H0 l2 with
        | none => rfl
        | some o => rw [kc _ _ (up _ _ y)] at hl2; cases hl2
    · rw [upd_ne (fun y => by rw [y, hD] at z; cases z), upd_ne (fun y => by rw [y] at z; rw [kc _ _ z] at hl2; cases hl2)]
      exact kc _ _ z
end Ud

set_option Elab.async false
set_option linter.all false
set_option maxRecDepth 100000
set_option maxHeartbeats 4000000
namespace V95
open PySem PySem.Spec PyProof.Rows L2 Uc Ud
section
variable {Pg : Program} {w : World} {K : PySem.W.Frag} {mg : Str → Option Value} {base : Heap} {f : Addr} {fd : FuncData}
def endsLoop (g : TG) (tb tz : TS) (D : Ends) (σ0 : L2.St) (J : It) (H1 : Hp) : Prop :=
  ∃ W : Nat → Nat → L2.St → Hp → Prop, (∃ m, W 0 m σ0 H1) ∧ ∀ i m σ H, W i m σ H →
    (J.stop i H ∧ tz D σ H) ∨ (J.go i H ∧ ∃ N : L2.St → Hp → Prop, (∀ σ' H', N σ' H' → ∃ m', m' < m ∧ W (i + 1) m' σ' H') ∧ ∀ x H', J.yld i H x H' → g x σ H' fun σ2 H2 => tb { D with nx := N, ct := N, bk := tz D } σ2 H2)
theorem ok_ends (mt : mg "tuple" = none) (Fn : FnP K "ends_table" s_ends_table f fd) : FnOk Pg w K mg base (L2.CX Pg w) 1 f fd ["ways"] (spD K (spT f_ends_table)) := by
  refine Fn.ok sc_ends_table (fun vs H Q E hp => ?_) (fun cdv A outer s H vs Q E hr hp => ?_)
  · obtain ⟨h, B, ds, Φ, Ψ, r, _, _, _, q, _⟩ := hp
    have q' : (endsT ds).sat Φ Ψ := q
    match ds, q' with
    | [d], _ => rw [r.length]; rfl
  · obtain ⟨h, B, ds, Φ, Ψ, r, hand, live, law, q, done, _⟩ := hp
    have q' : (endsT ds).sat Φ Ψ := q
    obtain ⟨d, rfl⟩ : ∃ d, ds = [d] := by
      match ds, q' with
      | [d], _ => exact ⟨d, rfl⟩
    obtain ⟨v, rfl, rv⟩ := rpA_one r
    obtain ⟨rows, er, q2⟩ := optT_sat (show (optT (seqOf d) _).sat Φ Ψ from q')
    obtain ⟨hl, q2⟩ := T.sat_chk q2
    obtain ⟨tE, et, fin⟩ := optT_sat q2
    have hl : rows.length ≤ 90000 := by simpa using hl
    let X : Cx := cxOf (L2.CX Pg w) Pg w K mg base n_ends_table "ends_table" (defScope s_ends_table) f cdv A outer s H E
    have hu : (A.deeper (envOfC "ends_table" (defScope s_ends_table) s.heap.objs.size f cdv)).units + 1 < cLine := by have := hr.units; omega
    refine ⟨_, pss_cons (ps_set (i := 1) sc_ends_table.nd rfl (by first | exact Or.inl rfl | exact Or.inr rfl) pe_dnewT)
      (pss_cons (ps_for (passes_of rfl) rfl (pi_seq (pv 0)) (pg_tup (n := 4) (t := Ud.gNames [2, 3, 4, 5]) rfl (Ud.pgs_names sc_ends_table.nd (by repeat first | exact NamesAt.nil | refine NamesAt.cons rfl (by first | exact Or.inl rfl | exact Or.inr rfl) (by first | exact .inl rfl | exact .inr rfl) ?_)))
        (pss_one (ps_expr (pe_bm PySem.F.plainAttrs_list PySem.F.slot_list_append PySem.F.type_list_append mt_append (pe_dsetT hu (pv 1) (pe_tup (pa_cons (pv 2) (pa_cons (pv 3) (pa_cons (pv 4) pa_nil)))) (pe_lst pa_nil) ⟨rfl, rfl, rfl, rfl⟩) (pa_cons (pv 5) pa_nil)))))
      (pss_one (ps_ret (pe_lock (pe_dcT (own := [("key", 6)]) rfl hu sc_ends_table.nd (pi_keys (pv 1)) (blkOk_by (by show blkC n_ends_table (defScope s_ends_table) _ _ = true; decide +kernel))
        (fun s0 H0 C cl fp => pg_name (i := 6) sc_ends_table.nd rfl (by first | exact Or.inl rfl | exact Or.inr rfl)) (fun s0 H0 C cl fp => pts_nil) (fun s0 H0 C cl fp => pv 6)
        (fun s0 H0 C cl fp => pe_callTy (r := rTup K) call_tuple_of rfl mt boot_tuple (pa_cons (pe_dget hu (pv 1) (pv 6) (fun _ _ => rfl)) pa_nil))))))), ?_⟩
    intro p hp
    refine ⟨v, rfl, ?_⟩
    obtain ⟨a, xs, Fx, Gx, rfl, SX, hlx, hg, sq⟩ := SD.addL (SD.begin (N := n_ends_table) r) (rv.wid fun _ z => z.elim) er
    have kpH : ∀ b o, H b = some o → (upd H p (.dT [])) b = some o := fun b o z => by rw [upd_ne (ne_of_none z hp)]; exact z
    have fx : ∀ {H' : Hp}, (∀ b o, H b = some o → H' b = some o) → ∀ b o, Fx b o → H' b = some o := fun k b o z => k b o (SX.fk b o (.inr z))
    have main : ∀ J : It, (∀ H' i, (∀ b o, H b = some o → H' b = some o) → i < rows.length → J.go i H') → (∀ H', (∀ b o, H b = some o → H' b = some o) → J.stop rows.length H') →
        (∀ i H1 x H', (∀ b o, H b = some o → H1 b = some o) → J.yld i H1 x H' → H' = H1 ∧ xs[i]? = some x) → endsLoop (gTup K 4 (Ud.gNames [2, 3, 4, 5])) (tDrop (tBM K "list" rAppend (tDSetT (tVar 1) (tTup (tCons (tVar 2) (tCons (tVar 3) (tCons (tVar 4) tNil)))) (tLst tNil)) (tCons (tVar 5) tNil)))
          (tRet (tLockE (tDcT (iKeys (tVar 1)) (gName 6) tYes (tVar 6) (tCB (rTup K) (tCons (tDGet (tVar 1) (tVar 6)) tNil)) [6]))) { nx := fun x H' => Q V.non H', rt := Q } (List.set (L2.start n_ends_table [.ref a]) 1 (some (.ref p))) J (upd H p (.dT [])) := by
      intro J jgo jstop jyld
      refine ⟨fun i m σ Hc => m + i = rows.length ∧ σ.length = 7 ∧ σ[1]? = some (some (.ref p)) ∧ ∃ t, TbS H Hc p i t ∧ endsE (rows.drop i) t = some tE, ⟨rows.length, rfl, rfl, rfl, [], ⟨⟨[], upd_same, .nil, List.nodup_nil, fun l z => (by simp at z)⟩, List.nodup_nil, Nat.le_refl 0, fun q z => (by simp at z), kpH⟩, et⟩, ?_⟩
      rintro i m σ Hc ⟨hm, sl, s1, t, S, ht⟩
      by_cases hi : i < rows.length
      · refine .inr ⟨jgo Hc i S.kp hi, fun σ' H' => (m - 1) + (i + 1) = rows.length ∧ σ'.length = 7 ∧ σ'[1]? = some (some (.ref p)) ∧ ∃ t, TbS H H' p (i + 1) t ∧ endsE (rows.drop (i + 1)) t = some tE, fun σ' H' z => ⟨m - 1, by omega, z⟩, fun x H' y => ?_⟩
        obtain ⟨rfl, ex⟩ := jyld i Hc x H' S.kp y
        rw [List.drop_eq_getElem_cons hi] at ht
        obtain ⟨ra, rb, rc, rx, erow, ht⟩ := endsE_cons ht
        have rr : Rp K (fun _ => False) H' x rows[i] := (SX.gk x rows[i] (.inr (hg i x rows[i] ex (List.getElem?_eq_getElem hi)))).mono fun b o _ z => S.kp b o z
        rw [erow] at rr
        obtain ⟨a', ys, rfl, sqy, ry⟩ := rr.tup_inv
        cases ry with | cons y1 ry => cases ry with | cons y2 ry => cases ry with | cons y3 ry => cases ry with | cons y4 ry => cases ry with | nil =>
        obtain rfl := y1.int_inv
        obtain rfl := y2.int_inv
        obtain rfl := y3.int_inv
        obtain rfl := y4.int_inv
        refine ⟨a', _, rfl, sqy, rfl, ?_⟩
        refine ⟨_, _, rfl, _, _, rfl, _, _, rfl, _, _, rfl, rfl, ?_⟩
        have l7 : ∀ (j : Nat) (x : Option V) (τ : L2.St), τ.length = 7 → (τ.set j x).length = 7 := fun j x τ h => by rw [List.length_set]; exact h
        have g : ∀ (j : Nat) (x : Option V) (τ : L2.St), τ.length = 7 → j < 7 → (τ.set j x)[j]? = some x := fun j x τ h hj => List.getElem?_set_self (by omega)
        have g' : ∀ (j k : Nat) (x : Option V) (τ : L2.St), j ≠ k → (τ.set j x)[k]? = τ[k]? := fun j k x τ h => List.getElem?_set_ne h
        refine ends_body hp S (by omega) ?_ ?_ ?_ ?_ ?_ fun H2 S2 => ⟨by omega, ?_, ?_, _, S2, ht⟩
        · rw [g' _ _ _ _ (by decide), g' _ _ _ _ (by decide), g' _ _ _ _ (by decide), g' _ _ _ _ (by decide)]; exact s1
        · rw [g' _ _ _ _ (by decide), g' _ _ _ _ (by decide), g' _ _ _ _ (by decide)]; exact g _ _ _ sl (by decide)
        · rw [g' _ _ _ _ (by decide), g' _ _ _ _ (by decide)]; exact g _ _ _ (l7 _ _ _ sl) (by decide)
        · rw [g' _ _ _ _ (by decide)]; exact g _ _ _ (l7 _ _ _ (l7 _ _ _ sl)) (by decide)
        · exact g _ _ _ (l7 _ _ _ (l7 _ _ _ (l7 _ _ _ sl))) (by decide)
        · exact l7 _ _ _ (l7 _ _ _ (l7 _ _ _ (l7 _ _ _ sl)))
        · rw [g' _ _ _ _ (by decide), g' _ _ _ _ (by decide), g' _ _ _ _ (by decide), g' _ _ _ _ (by decide)]; exact s1
      · have ei : i = rows.length := by omega
        subst ei
        rw [List.drop_length] at ht
        cases ht
        refine .inl ⟨jstop Hc S.kp, ends_tail hp S hl s1 (by omega) fun q H' kv q0 e tt nv kp => ?_⟩
        refine done (.ref q) H' _ (Gh.all kp) (handOk_all hand kp) ?_ fin
        have := Rp.dt (K := K) (M := B) (H := H') (kv := kv) (live.new q0) e (tt.rp fun l z => live.new (nv l z))
        rw [tt.keys] at this
        exact this
    refine ⟨a, rfl, ?_⟩
    rcases sq with sq | sq
    · refine .inl ⟨⟨xs, sq _ (fx kpH)⟩, main (Itl K a) (fun H' i k hi => ⟨xs, xs[i]'(by omega), sq _ (fx k), List.getElem?_eq_getElem (by omega)⟩) (fun H' k => ⟨xs, sq _ (fx k), by omega⟩) (fun i H1 x H' k ⟨e, y⟩ => ⟨e, y xs (sq _ (fx k))⟩)⟩
    · refine .inr ⟨⟨xs, sq _ (fx kpH)⟩, main (Itt K a) (fun H' i k hi => ⟨xs, xs[i]'(by omega), sq _ (fx k), List.getElem?_eq_getElem (by omega)⟩) (fun H' k => ⟨xs, sq _ (fx k), by omega⟩) (fun i H1 x H' k ⟨e, y⟩ => ⟨e, y xs (sq _ (fx k))⟩)⟩
end
end V95

set_option Elab.async false
set_option linter.all false
set_option maxRecDepth 100000
set_option maxHeartbeats 0
namespace V95
open PySem PySem.Spec PyProof.Rows L2 Uc Ud
def cls13 : List PySem.Str := ["Wish", "Foreign", "Barred", "Run", "Exchange", "Past", "Unlike", "Meets", "Clash", "BarredStretch", "Parting", "Needless", "Trial"]
def parts13 : List Nat := [3, 2, 3, 3, 3, 1, 3, 4, 4, 4, 2, 1, 4]
def lstI (n : List Int) : D := .lst (n.map D.int)
def retD : T D → Option D
  | .ret d => some d
  | _ => none
def isTrue : T D → Bool
  | .ret (.bl b) => b
  | _ => false
def isF : T Bool → Bool
  | .ret b => !b
  | _ => false
def isIns (C : PySem.Str) : D → Bool
  | .ins C' _ => decide (C' = C)
  | _ => false
def cube : Nat → List (List Int)
  | 0 => [[]]
  | p + 1 => [0, 1, 2].flatMap fun a => (cube p).map fun l => a :: l
def mkv (bb : Bool) (k : Nat) (n : List Int) : Option D := retD (f_l_made bb [.int k, lstI n])
/-! the thirteen values -/
abbrev iD (i : Int) : D := .int i
abbrev t1 (d : D) : D := .tup [d]
def bookV (a : Int) : D := .ins "Book" [("ways", .tup [.tup [iD 0, iD 0, iD 0, iD 0], .tup [iD 0, iD 1, iD a, iD 0]]), ("states", iD 1), ("calls", iD 2), ("_borne", .tup (bif decide (a = 0) then [iD 0] else [iD 0, iD a])), ("_ends", .dt [[.inl 0, .inl 0, .inl 0], [.inl 0, .inl 1, .inl a]] [t1 (iD 0), t1 (iD 0)])]
def wishV (a b c : Int) : D := .ins "Wish" [("book", bookV a), ("past", t1 (.tup [iD b, iD 0, iD 0])), ("scripts", t1 (t1 (.tup [iD 0, iD c, .tup []])))]
def cV3 (b : Int) : D := .str (bif decide (b = 0) then "c0" else bif decide (b = 1) then "c1" else "c2")
def clv : Nat → List Int → D
  | 0, [a, b, c, _] => wishV a b c
  | 1, [a, b, _, _] => .ins "Foreign" [("sizes", t1 (iD (a + 1))), ("rows", .tup [t1 (.tup [.str "say", iD b]), t1 (.tup [.str "say", iD b]), t1 (.tup [.str "say", iD b]), t1 (.tup [.str "say", iD b])]), ("calls", iD 1)]
  | 2, [a, b, c, _] => .ins "Barred" [("cut", .tup [t1 (iD a), .tup []]), ("joint", t1 (t1 (iD b))), ("plan", t1 (.tup [t1 (t1 (iD 0)), iD c]))]
  | 3, [a, b, c, _] => .ins "Run" [("entries", t1 (.tup [iD a, iD 0, iD 0])), ("marks", t1 (.tup [t1 (.str "c0"), t1 (cV3 b)])), ("cells", .dk [.inr "c0"] [iD c])]
  | 4, [a, b, c, _] => .ins "Exchange" [("ahead", .tup [iD 0, iD 0, .dk [.inr "c0"] [iD a]]), ("behind", .tup [iD 0, iD b, .dk [.inr "c0"] [iD 0]]), ("meets", bif decide (c = 0) then .non else bif decide (c = 1) then .str "c0" else .str "c1")]
  | 5, [a, _, _, _] => .ins "Past" [("index", iD a)]
  | 6, [a, b, c, _] => .ins "Unlike" [("cut", .tup [t1 (iD a), .tup []]), ("hand", iD b), ("call", iD c)]
  | 7, [a, b, c, d] => .ins "Meets" [("cut", .tup [t1 (iD a), .tup []]), ("one", .tup [iD 0, iD b]), ("other", .tup [iD 1, iD c]), ("cell", cV3 d)]
  | 8, [a, b, c, d] => .ins "Clash" [("cut", .tup [t1 (iD a), .tup []]), ("heads", t1 (.tup [iD 0, iD 0, iD b])), ("what", .str (bif decide (c = 0) then "answer" else bif decide (c = 1) then "ends" else "else")), ("trail", t1 (.tup [iD 0, iD d]))]
  | 9, [a, b, c, d] => .ins "BarredStretch" [("stretch", iD a), ("counts", t1 (iD b)), ("joint", t1 (t1 (iD c))), ("plan", t1 (.tup [t1 (t1 (iD 0)), iD d]))]
  | 10, [a, b, _, _] => .ins "Parting" [("seams", t1 (iD (1 + a))), ("joints", t1 (t1 (t1 (iD b))))]
  | 11, [a, _, _, _] => .ins "Needless" [("way", .tup [iD a, iD 0, iD 0, iD 0])]
  | 12, [a, b, c, d] => .ins "Trial" [("wish", wishV a 0 0), ("met", t1 (iD b)), ("won", t1 (iD c)), ("lost", t1 (iD d))]
  | _, _ => .non
def AllP {α : Type} (P : α → Prop) : List α → Prop
  | [] => True
  | a :: l => P a ∧ AllP P l
/-- what is to be seen of one thing of the kind k -/
def one13 (k : Nat) (p : Nat) (n : List Int) : Bool :=
  isTrue (f_l_compared [clv k n, clv k n, .bl true]) && (isF (vNox (eqT NN.cs eqs_law) (clv k n) (.int 0)) && (isF (vNox (eqT NN.cs eqs_law) (clv k n) (.str "")) && (isF (vNox (eqT NN.cs eqs_law) (clv k n) (lstI n)) &&
    (List.range p).all fun i => [1, 2].all fun e => isTrue (f_l_compared [clv k n, clv k (n.set i ((n.getD i 0 + e) % 3)), .bl false]))))
def kind13 (k : Nat) (r : List Int) : Bool := (cube (parts13.getD k 0)).all fun l => one13 k (parts13.getD k 0) (l ++ r)
def same13 (bb : Bool) (k : Nat) (r : List Int) : Prop := AllP (fun l => f_l_made bb [.int k, lstI (l ++ r)] = .ret (clv k (l ++ r))) (cube (parts13.getD k 0))
end V95

set_option Elab.async false
set_option linter.all false
set_option maxRecDepth 100000
set_option maxHeartbeats 0
namespace V95
open PySem PySem.Spec PyProof.Rows L2 Uc Ud
theorem kd0 (r0 : Int) : kind13 0 [r0] = true := by kernel_rfl
theorem sm0t (r0 : Int) : same13 true 0 [r0] := by
  unfold same13
  repeat first | exact trivial | refine ⟨by kernel_rfl, ?_⟩
theorem sm0f (r0 : Int) : same13 false 0 [r0] := by
  unfold same13
  repeat first | exact trivial | refine ⟨by kernel_rfl, ?_⟩
theorem sm0 (bb : Bool) (r0 : Int) : same13 bb 0 [r0] := by
  cases bb
  · exact sm0f r0
  · exact sm0t r0
theorem kd1 (r0 : Int) (r1 : Int) : kind13 1 [r0, r1] = true := by kernel_rfl
theorem sm1 (bb : Bool) (r0 : Int) (r1 : Int) : same13 bb 1 [r0, r1] := by
  unfold same13
  repeat first | exact trivial | refine ⟨by kernel_rfl, ?_⟩
theorem kd2 (r0 : Int) : kind13 2 [r0] = true := by kernel_rfl
theorem sm2 (bb : Bool) (r0 : Int) : same13 bb 2 [r0] := by
  unfold same13
  repeat first | exact trivial | refine ⟨by kernel_rfl, ?_⟩
theorem kd3 (r0 : Int) : kind13 3 [r0] = true := by kernel_rfl
theorem sm3 (bb : Bool) (r0 : Int) : same13 bb 3 [r0] := by
  unfold same13
  repeat first | exact trivial | refine ⟨by kernel_rfl, ?_⟩
theorem kd4 (r0 : Int) : kind13 4 [r0] = true := by kernel_rfl
theorem sm4 (bb : Bool) (r0 : Int) : same13 bb 4 [r0] := by
  unfold same13
  repeat first | exact trivial | refine ⟨by kernel_rfl, ?_⟩
theorem kd5 (r0 : Int) (r1 : Int) (r2 : Int) : kind13 5 [r0, r1, r2] = true := by kernel_rfl
theorem sm5 (bb : Bool) (r0 : Int) (r1 : Int) (r2 : Int) : same13 bb 5 [r0, r1, r2] := by
  unfold same13
  repeat first | exact trivial | refine ⟨by kernel_rfl, ?_⟩
theorem kd6 (r0 : Int) : kind13 6 [r0] = true := by kernel_rfl
theorem sm6 (bb : Bool) (r0 : Int) : same13 bb 6 [r0] := by
  unfold same13
  repeat first | exact trivial | refine ⟨by kernel_rfl, ?_⟩
theorem kd7 : kind13 7 [] = true := by kernel_rfl
theorem sm7 (bb : Bool) : same13 bb 7 [] := by
  unfold same13
  repeat first | exact trivial | refine ⟨by kernel_rfl, ?_⟩
theorem kd8 : kind13 8 [] = true := by kernel_rfl
theorem sm8 (bb : Bool) : same13 bb 8 [] := by
  unfold same13
  repeat first | exact trivial | refine ⟨by kernel_rfl, ?_⟩
theorem kd9 : kind13 9 [] = true := by kernel_rfl
theorem sm9 (bb : Bool) : same13 bb 9 [] := by
  unfold same13
  repeat first | exact trivial | refine ⟨by kernel_rfl, ?_⟩
theorem kd10 (r0 : Int) (r1 : Int) : kind13 10 [r0, r1] = true := by kernel_rfl
theorem sm10 (bb : Bool) (r0 : Int) (r1 : Int) : same13 bb 10 [r0, r1] := by
  unfold same13
  repeat first | exact trivial | refine ⟨by kernel_rfl, ?_⟩
theorem kd11 (r0 : Int) (r1 : Int) (r2 : Int) : kind13 11 [r0, r1, r2] = true := by kernel_rfl
theorem sm11 (bb : Bool) (r0 : Int) (r1 : Int) (r2 : Int) : same13 bb 11 [r0, r1, r2] := by
  unfold same13
  repeat first | exact trivial | refine ⟨by kernel_rfl, ?_⟩
theorem kd12 : kind13 12 [] = true := by kernel_rfl
theorem sm12t : same13 true 12 [] := by
  unfold same13
  repeat first | exact trivial | refine ⟨by kernel_rfl, ?_⟩
theorem sm12f : same13 false 12 [] := by
  unfold same13
  repeat first | exact trivial | refine ⟨by kernel_rfl, ?_⟩
theorem sm12 (bb : Bool) : same13 bb 12 [] := by
  cases bb
  · exact sm12f
  · exact sm12t
theorem df13 (fs gs : List (PySem.Str × D)) : ((List.range 13).all fun i => (List.range 13).all fun j => decide (i = j) || isTrue (f_l_compared [.ins (cls13.getD i "") fs, .ins (cls13.getD j "") gs, .bl false])) = true := by kernel_rfl
def isB (b : Bool) : T Bool → Bool
  | .ret c => b == c
  | _ => false
theorem eq13 : ((List.range 13).all fun i => (List.range 13).all fun j => isB (decide (i = j)) (vNox (eqT NN.cs eqs_law) (.int (i : Nat)) (.int (j : Nat)))) = true := by kernel_rfl
end V95

set_option Elab.async false
set_option linter.all false
set_option maxRecDepth 100000
set_option maxHeartbeats 4000000
/-! What a tree comes to, as a structure (the elaborator does not reduce it), statement by statement. -/
namespace Ud
open PySem PySem.Spec PyProof.Rows L2 Uc
structure SF' (t : T Fl) (P : Po) : Prop where
  ok : t.sat P.of noX
structure SE' {α : Type} (t : T α) (Φ : α → Prop) : Prop where
  ok : t.sat Φ noX
theorem nox_sat {α : Type} {t : T α} {R : α → Prop} {S : Str → List (Str × D) → Prop} (q : t.sat R noX) : t.nox.sat R S := by
  induction t with
  | ret a => exact q
  | ex C fs => exact q.elim
  | stuck => exact q.elim
  | draw n k ih => exact ⟨q.1, fun i h0 h1 => ih i (q.2 i h0 h1)⟩
section
variable {α β : Type} {t : T α} {Φ : α → Prop} {δ : List Sl} {P : Po} {g r : SF} {f : EF}
theorem SE'.ret {a : α} (h : Φ a) : SE' (.ret a) Φ := ⟨h⟩
theorem SE'.eq {a : α} (e : t = .ret a) (h : Φ a) : SE' t Φ := ⟨by rw [e]; exact h⟩
theorem SE'.of_eq {t' : T α} (e : t = t') (h : SE' t' Φ) : SE' t Φ := ⟨by rw [e]; exact h.ok⟩
theorem SE'.draw {n : Int} {k : Int → T α} (h0 : 0 < n) (h1 : n < 18446744073709551616) (h : ∀ i, 0 ≤ i → i < n → SE' (k i) Φ) : SE' (.draw n k) Φ := ⟨⟨h0, h1⟩, fun i a b => (h i a b).ok⟩
theorem SE'.bind {f : α → T β} {Φ : β → Prop} (h : SE' t fun a => SE' (f a) Φ) : SE' (t.bind f) Φ := ⟨T.sat_bind.mpr (T.sat_mono (fun _ z => z.ok) (fun _ _ z => z) h.ok)⟩
theorem SE'.mono {Φ' : α → Prop} (h : SE' t Φ) (k : ∀ a, Φ a → Φ' a) : SE' t Φ' := ⟨T.sat_mono k (fun _ _ z => z) h.ok⟩
theorem SE'.nox (h : SE' t Φ) : SE' t.nox Φ := ⟨nox_sat h.ok⟩
theorem SF'.draw {n : Int} {k : Int → T Fl} (h0 : 0 < n) (h1 : n < 18446744073709551616) (h : ∀ i, 0 ≤ i → i < n → SF' (k i) P) : SF' (.draw n k) P := ⟨⟨h0, h1⟩, fun i a b => (h i a b).ok⟩
theorem SF'.nx (h : P.nx δ) : SF' (.ret (.nx δ)) P := ⟨h⟩
theorem SF'.of_eq {t t' : T Fl} (e : t = t') (h : SF' t' P) : SF' t P := ⟨by rw [e]; exact h.ok⟩
theorem SF'.mono {t : T Fl} {P' : Po} (h : SF' t P) (k : ∀ fl, P.of fl → P'.of fl) : SF' t P' := ⟨T.sat_mono k (fun _ _ z => z) h.ok⟩
/-- nothing but what follows -/
abbrev oNx (R : List Sl → Prop) : Po := ⟨R, fun _ => False, fun _ => False, fun _ => False, fun _ _ _ => False⟩
/-- nothing but a return -/
abbrev oRt (R : D → Prop) : Po := ⟨fun _ => False, R, fun _ => False, fun _ => False, fun _ _ _ => False⟩
abbrev Po.to (P : Po) (R : List Sl → Prop) : Po := ⟨R, P.rt, P.bk, P.ct, P.ex⟩
theorem SF'.up {t : T Fl} {R : List Sl → Prop} (h : SF' t (oNx R)) (k : ∀ δ, R δ → P.nx δ) : SF' t P := h.mono fun fl z => by
  cases fl with
  | nx δ => exact k δ z
  | rt d => exact z.elim
  | bk δ => exact z.elim
  | ct δ => exact z.elim
  | ex δ C fs => exact z.elim
theorem seq_go (h : SF' (g δ) (P.to fun δ' => SF' (r δ') P)) : SF' ((gSeq g r) δ) P := ⟨by
  unfold gSeq
  refine T.sat_bind.mpr (T.sat_mono (fun fl z => ?_) (fun _ _ z => z) h.ok)
  cases fl with
  | nx δ' => exact SF'.ok z
  | rt d => exact z
  | bk δ' => exact z
  | ct δ' => exact z
  | ex δ' C fs => exact z⟩
theorem set_go {i : Nat} {d : D} (e : f δ = .ret d) (h : P.nx (δ.set i (.val d))) : SF' ((gSet i f) δ) P := ⟨by
  unfold gSet
  rw [e]
  exact h⟩
theorem set_goS {i : Nat} (h : SE' (f δ) fun d => P.nx (δ.set i (.val d))) : SF' ((gSet i f) δ) P := ⟨T.sat_on.mpr (T.sat_mono (fun _ z => z) (fun _ _ z => z.elim) h.ok)⟩
theorem own_go {i : Nat} {f : AF} {ds : List D} (e : f δ = .ret ds) (h : P.nx (δ.set i (.own (.l ds)))) : SF' ((gOwn i f) δ) P := ⟨by
  unfold gOwn
  rw [e]
  exact h⟩
theorem own_goS {i : Nat} {f : AF} (h : SE' (f δ) fun ds => P.nx (δ.set i (.own (.l ds)))) : SF' ((gOwn i f) δ) P := ⟨T.sat_on.mpr (T.sat_mono (fun _ z => z) (fun _ _ z => z.elim) h.ok)⟩
theorem if_go {t : BF} {b : Bool} (e : t δ = .ret b) (h : SF' (T.cond b (g δ) (r δ)) P) : SF' ((gIf t g r) δ) P := ⟨by
  unfold gIf
  rw [e]
  exact h.ok⟩
theorem if_goS {t : BF} (h : SE' (t δ) fun b => SF' (T.cond b (g δ) (r δ)) P) : SF' ((gIf t g r) δ) P := ⟨T.sat_on.mpr (T.sat_mono (fun _ z => SF'.ok z) (fun _ _ z => z.elim) h.ok)⟩
theorem nil_go (h : P.nx δ) : SF' (gNil δ) P := ⟨h⟩
theorem ret_go {d : D} (e : f δ = .ret d) (h : P.rt d) : SF' ((gRet f) δ) P := ⟨by
  unfold gRet
  rw [e]
  exact h⟩
theorem ret_goS (h : SE' (f δ) P.rt) : SF' ((gRet f) δ) P := ⟨T.sat_on.mpr (T.sat_mono (fun _ z => z) (fun _ _ z => z.elim) h.ok)⟩
theorem app_goS {i : Nat} {ds : List D} (eo : δ[i]? = some (.own (.l ds))) (hl : ds.length < 100000) (h : SE' (f δ) fun d => P.nx (δ.set i (.own (.l (ds ++ [d]))))) : SF' ((gApp i f) δ) P := ⟨by
  have eo' : ownL δ[i]? = some ds := by rw [eo]; rfl
  unfold gApp
  rw [eo']
  dsimp only
  rw [decide_eq_true hl]
  exact T.sat_on.mpr (T.sat_mono (fun _ z => z) (fun _ _ z => z.elim) h.ok)⟩
theorem app_go {i : Nat} {ds : List D} {d : D} (eo : δ[i]? = some (.own (.l ds))) (hl : ds.length < 100000) (e : f δ = .ret d) (h : P.nx (δ.set i (.own (.l (ds ++ [d]))))) : SF' ((gApp i f) δ) P := app_goS eo hl (.eq e h)
theorem give_go {i : Nat} (h : SF' (r (giveS i δ)) P) : SF' ((gGive i r) δ) P := h
theorem for_go {f : AF} {put : D → List Sl → Option (List Sl)} {body : SF} {ds : List D} (I : Nat → List Sl → Prop) (e : f δ = .ret ds) (h0 : I 0 δ)
    (hs : ∀ k δ d, ds[k]? = some d → I k δ → ∃ δ2, put d δ = some δ2 ∧ SF' (body δ2) ⟨I (k + 1), P.rt, P.nx, I (k + 1), P.ex⟩) (he : ∀ δ, I ds.length δ → P.nx δ) : SF' ((gFor f put body) δ) P := ⟨by
  unfold gFor
  rw [e]
  refine goF_inv I ds 0 δ (fun k δ d hd i => ?_) (fun δ i => he δ (by simpa using i)) h0
  rw [Nat.zero_add] at i ⊢
  obtain ⟨δ2, h1, h2⟩ := hs k δ d hd i
  exact ⟨δ2, h1, h2.ok⟩⟩
/-- a comprehension: item by item -/
theorem lc_go {is : List Nat} {put : D → List Sl → Option (List Sl)} {tst : BF} {g : EF} {f : AF} {ds : List D} {Φ : List D → Prop} (I : Nat → List D → Prop) (e : f δ = .ret ds) (hl : ds.length ≤ 90000) (h0 : I 0 [])
    (hs : ∀ k d, ds[k]? = some d → ∃ δ2, put d (wipeD δ is) = some δ2 ∧ tst δ2 = .ret true ∧ ∀ acc, I k acc → SE' (g δ2) fun y => I (k + 1) (acc ++ [y])) (he : ∀ acc, I ds.length acc → Φ acc) : SE' ((cLc f is put tst g) δ) Φ := ⟨by
  unfold cLc
  rw [e]
  show (T.chk _ _).sat _ _
  rw [decide_eq_true hl]
  have := lcGo_inv (is := is) (put := put) (tst := tst) (g := g) (δ := δ) (Φ := Φ) (Ψ := noX) I ds [] (fun k d hd => by
    obtain ⟨δ2, h1, h2, h3⟩ := hs k d hd
    exact ⟨δ2, h1, h2, fun acc i => (h3 acc i).ok⟩) he h0
  exact T.sat_mono (fun ys z => by simpa using z) (fun _ _ z => z) this⟩
end
/-! ### what expressions come to -/
section
variable {δ : List Sl} {f g : EF} {fa : AF}
theorem cCall_eq {v : List D → T D} {f : AF} {ds : List D} {r : T D} (e : f δ = .ret ds) (e2 : v ds = r) : cCall v f δ = r := by
  unfold cCall
  rw [e]
  exact e2
theorem cCons_eq {f : EF} {g : AF} {d : D} {ds : List D} (e : f δ = .ret d) (e2 : g δ = .ret ds) : cCons f g δ = .ret (d :: ds) := by
  unfold cCons
  rw [e]
  show (g δ).bind _ = _
  rw [e2]
  rfl
theorem cBin_eq {v : D → D → T D} {a b : D} {r : T D} (e : f δ = .ret a) (e2 : g δ = .ret b) (e3 : v a b = r) : cBin v f g δ = r := by
  unfold cBin
  rw [e]
  show (g δ).bind _ = _
  rw [e2]
  exact e3
theorem bB_eq {v : D → D → T Bool} {a b : D} {r : T Bool} (e : f δ = .ret a) (e2 : g δ = .ret b) (e3 : v a b = r) : bB v f g δ = r := by
  unfold bB
  rw [e]
  show (g δ).bind _ = _
  rw [e2]
  exact e3
theorem cB_eq {t : BF} {b : Bool} (e : t δ = .ret b) : cB t δ = .ret (.bl b) := by
  unfold cB
  rw [e]
  rfl
theorem bV_eq {b : Bool} (e : f δ = .ret (.bl b)) : bV f δ = .ret b := by
  unfold bV
  rw [e]
  rfl
theorem bNot_eq {t : BF} {b : Bool} (e : t δ = .ret b) : bNot t δ = .ret (!b) := by
  unfold bNot
  rw [e]
  rfl
theorem bAnd_eq {t u : BF} {b c : Bool} (e : t δ = .ret b) (e2 : b = true → u δ = .ret c) : bAnd t u δ = .ret (b && c) := by
  unfold bAnd
  rw [e]
  cases b with
  | true => exact (e2 rfl).trans (by rw [Bool.true_and])
  | false => rfl
theorem bOr_eq {t u : BF} {b c : Bool} (e : t δ = .ret b) (e2 : b = false → u δ = .ret c) : bOr t u δ = .ret (b || c) := by
  unfold bOr
  rw [e]
  cases b with
  | true => rfl
  | false => exact (e2 rfl).trans (by rw [Bool.false_or])
theorem cAnd_eq {b c : Bool} (e : f δ = .ret (.bl b)) (e2 : b = true → g δ = .ret (.bl c)) : cAnd f g δ = .ret (.bl (b && c)) := by
  unfold cAnd
  rw [e]
  cases b with
  | true => exact (e2 rfl).trans (by rw [Bool.true_and])
  | false => rfl
theorem cOr_eq {b c : Bool} (e : f δ = .ret (.bl b)) (e2 : b = false → g δ = .ret (.bl c)) : cOr f g δ = .ret (.bl (b || c)) := by
  unfold cOr
  rw [e]
  cases b with
  | true => rfl
  | false => exact (e2 rfl).trans (by rw [Bool.false_or])
theorem cNot_eq {b : Bool} (e : f δ = .ret (.bl b)) : cNot f δ = .ret (.bl (!b)) := by
  unfold cNot
  rw [e]
  rfl
theorem cTup_eq {ds : List D} (e : fa δ = .ret ds) (hl : ds.length ≤ 100000) : cTup fa δ = .ret (.tup ds) := by
  unfold cTup
  rw [e]
  show T.chk (few ds) _ = _
  rw [show few ds = true from decide_eq_true hl]
  rfl
end
/-- the law's start: its hand comes -/
theorem law_end {ns : List Int} (hl : ns.length ≤ 90000) {r : SF} {rest : List Sl} (h : SF' (r (.val (.zlst (ns.map D.int)) :: .hand :: rest)) (oRt fun d => d = .bl true)) :
    ((gHand 1 (cV 0) r (.val (.zlst (ns.map D.int)) :: .no :: rest)).nox.bind outT).sat (fun d => d = .bl true) noX := by
  have ez : zl (D.zlst (ns.map D.int)) = some ns := intsZ_map
  refine T.sat_bind.mpr (nox_sat ?_)
  simp only [gHand, cV, slV, T.on, List.getElem?_cons_zero, ez, decide_eq_true hl, T.chk]
  refine T.sat_bind.mpr (T.sat_mono (fun fl z => ?_) (fun _ _ z => z) h.ok)
  cases fl with
  | rt d => exact z
  | nx _ => exact z.elim
  | bk _ => exact z.elim
  | ct _ => exact z.elim
  | ex _ _ _ => exact z.elim
end Ud

set_option Elab.async false
set_option linter.all false
set_option maxRecDepth 100000
set_option maxHeartbeats 4000000
/-! The law itself: every draw, every loop. -/
namespace V95
open PySem PySem.Spec PyProof.Rows L2 Uc Ud
abbrev partsD : D := .lst [iD 3, iD 2, iD 3, iD 3, iD 3, iD 1, iD 3, iD 4, iD 4, iD 4, iD 2, iD 1, iD 4]
abbrev partsE : EF := (cFr (cLst (cCons (cK (.int 3)) (cCons (cK (.int 2)) (cCons (cK (.int 3)) (cCons (cK (.int 3)) (cCons (cK (.int 3)) (cCons (cK (.int 1)) (cCons (cK (.int 3)) (cCons (cK (.int 4)) (cCons (cK (.int 4)) (cCons (cK (.int 4)) (cCons (cK (.int 2)) (cCons (cK (.int 1)) (cCons (cK (.int 4)) cNil)))))))))))))))
abbrev drawsE : EF := (cFr (cLc (cRng1 (cCons (cK (.int 4)) cNil)) [5] (putN 5) bYes (cCallH 1 f_l_draw (cCons (cK (.int 3)) cNil))))
abbrev bentE : EF := (cBin vMod (cCall vInt (cCons (cBin vAdd (cBin vAdd (cBin vIx (cV 6) (cV 8)) (cK (.int 1))) (cCallH 1 f_l_draw (cCons (cK (.int 2)) cNil))) cNil)) (cK (.int 3)))
abbrev otherB (fm fc : List D → T D) : SF := (gSeq (gOwn 9 (cNewL (cCons (cV 6) cNil)))
    (gSeq (gPut 9 (cV 8) bentE)
    (gGive 9 (gIf (bNot (bV (cCall fc (cCons (cV 7) (cCons (cCall fm (cCons (cV 4) (cCons (cV 9) cNil))) (cCons (cK (.bl false)) cNil)))))) (gRet (cK (.bl false))) gNil))))
abbrev turnB (fm fc : List D → T D) (eq : D → D → T Bool) : SF := (gSeq (gSet 6 drawsE)
    (gSeq (gSet 7 (cCall fm (cCons (cV 4) (cCons (cV 6) cNil))))
    (gSeq (gIf (bNot (bV (cCall fc (cCons (cV 7) (cCons (cCall fm (cCons (cV 4) (cCons (cFr (cNewL (cCons (cV 6) cNil))) cNil))) (cCons (cK (.bl true)) cNil)))))) (gRet (cK (.bl false))) gNil)
    (gSeq (gFor (cRng1 (cCons (cBin vIx (cV 2) (cV 4)) cNil)) (putN 8) (otherB fm fc))
    (gSeq (gIf (bOr (bB eq (cV 7) (cK (.int 0))) (bOr (bB eq (cV 7) (cK (.str ""))) (bB eq (cV 7) (cV 6)))) (gRet (cK (.bl false))) gNil)
    (gApp 3 (cV 7)))))))
abbrev pairB (fc : List D → T D) (eq : D → D → T Bool) : SF := (gGive 3 (gIf (bNot (bV (cCall fc (cCons (cBin vIx (cV 3) (cV 5)) (cCons (cBin vIx (cV 3) (cV 10)) (cCons (cB (bB eq (cV 5) (cV 10))) cNil)))))) (gRet (cK (.bl false))) gNil))
abbrev rng13 : AF := (cRng1 (cCons (cK (.int 13)) cNil))
abbrev restB (fm fc : List D → T D) (eq : D → D → T Bool) : SF := (gSeq (gSet 2 partsE) (gSeq (gOwn 3 (cLst cNil)) (gSeq (gFor rng13 (putN 4) (turnB fm fc eq))
    (gGive 3 (gSeq (gFor rng13 (putN 5) (gGive 3 (gFor rng13 (putN 10) (pairB fc eq)))) (gRet (cK (.bl true))))))))
theorem b_law_is (bb : Bool) : b_law bb = gHand 1 (cV 0) (restB (f_l_made bb) f_l_compared (vNox (eqT NN.cs eqs_law))) := rfl
def Dg (n : List Int) : Prop := ∃ a b c d : Int, n = [a, b, c, d] ∧ ∀ x ∈ n, x = 0 ∨ x = 1 ∨ x = 2
theorem Dg.set {n : List Int} (h : Dg n) (i : Nat) {x : Int} (hx : x = 0 ∨ x = 1 ∨ x = 2) : Dg (n.set i x) := by
  obtain ⟨a, b, c, d, rfl, hh⟩ := h
  have m : ∀ y ∈ List.set [a, b, c, d] i x, y = 0 ∨ y = 1 ∨ y = 2 := fun y hy => by
    rcases List.mem_or_eq_of_mem_set hy with z | z
    · exact hh y z
    · rw [z]; exact hx
  match i, m with
  | 0, m => exact ⟨_, _, _, _, rfl, m⟩
  | 1, m => exact ⟨_, _, _, _, rfl, m⟩
  | 2, m => exact ⟨_, _, _, _, rfl, m⟩
  | 3, m => exact ⟨_, _, _, _, rfl, m⟩
  | i + 4, m => exact ⟨_, _, _, _, rfl, m⟩
theorem mod3 (x : Int) : x % 3 = 0 ∨ x % 3 = 1 ∨ x % 3 = 2 := by omega
structure KF (fm fc : List D → T D) (eq : D → D → T Bool) (k p : Nat) (cl : List Int → D) : Prop where
  made : ∀ n, Dg n → fm [.int k, lstI n] = .ret (cl n)
  same : ∀ n, Dg n → fc [cl n, cl n, .bl true] = .ret (.bl true)
  diff : ∀ n, Dg n → ∀ i, i < p → ∀ e : Int, e = 1 ∨ e = 2 → fc [cl n, cl (n.set i ((n.getD i 0 + e) % 3)), .bl false] = .ret (.bl true)
  no : ∀ n, Dg n → eq (cl n) (.int 0) = .ret false ∧ eq (cl n) (.str "") = .ret false ∧ eq (cl n) (lstI n) = .ret false
theorem draw3 (s0 p m k x5 x6 x7 x8 x9 x10 : Sl) : drawsE [s0, .hand, p, m, k, x5, x6, x7, x8, x9, x10] = .draw 3 fun a => .draw 3 fun b => .draw 3 fun c => .draw 3 fun d => .ret (lstI [a, b, c, d]) := rfl
theorem dg3 {a : Int} (h0 : 0 ≤ a) (h1 : a < 3) : a = 0 ∨ a = 1 ∨ a = 2 := by omega
section
variable {fm fc : List D → T D} {eq : D → D → T Bool} {k p : Nat} {cl : List Int → D}
theorem bent4 {n : List Int} (hn : Dg n) {i : Nat} (hi : i < 4) (s0 pp m x4 x5 x7 x10 : Sl) : (gPut 9 (cV 8) bentE) [s0, .hand, pp, m, x4, x5, .val (lstI n), x7, .val (.int (i : Nat)), .own (.l (n.map D.int)), x10] =
    .draw 2 fun e => .ret (.nx [s0, .hand, pp, m, x4, x5, .val (lstI n), x7, .val (.int (i : Nat)), .own (.l ((n.set i ((n.getD i 0 + 1 + e) % 3)).map D.int)), x10]) := by
  obtain ⟨a, b, c, d, rfl, _⟩ := hn
  match i, hi with
  | 0, _ => kernel_rfl
  | 1, _ => kernel_rfl
  | 2, _ => kernel_rfl
  | 3, _ => kernel_rfl
theorem other_ok (F : KF fm fc eq k p cl) {n : List Int} (hn : Dg n) {i : Nat} (hi : i < p) (hp : p ≤ 4) (s0 pp m x5 x9 x10 : Sl) :
    SF' ((otherB fm fc) [s0, .hand, pp, m, .val (.int k), x5, .val (lstI n), .val (cl n), .val (.int (i : Nat)), x9, x10]) (oNx fun δ => ∃ y9, δ = [s0, .hand, pp, m, .val (.int k), x5, .val (lstI n), .val (cl n), .val (.int (i : Nat)), y9, x10]) := by
  have key : ∀ e : Int, e = 1 ∨ e = 2 → fc [cl n, cl (n.set i ((n.getD i 0 + e) % 3)), .bl false] = .ret (.bl true) := F.diff n hn i hi
  have mk : ∀ e : Int, fm [.int k, lstI (n.set i ((n.getD i 0 + e) % 3))] = .ret (cl (n.set i ((n.getD i 0 + e) % 3))) := fun e => F.made _ (hn.set i (mod3 _))
  refine seq_go (own_go (ds := n.map D.int) (by kernel_rfl) (seq_go (SF'.of_eq (bent4 hn (by omega) _ _ _ _ _ _ _) (SF'.draw (by decide) (by decide) fun e h0 h1 => SF'.nx ?_))))
  rw [Int.add_assoc]
  refine give_go (if_go (b := false) ?_ (nil_go ⟨_, rfl⟩))
  exact bNot_eq (b := true) (bV_eq (cCall_eq (cCons_eq rfl (cCons_eq (cCall_eq (cCons_eq rfl (cCons_eq rfl rfl)) (mk (1 + e))) rfl)) (key (1 + e) (by omega))))
theorem turn_ok (F : KF fm fc eq k p cl) (hp : p ≤ 4) (hv : (cRng1 (cCons (cBin vIx (cK partsD) (cK (.int (k : Nat)))) cNil)) [] = .ret ((List.range p).map fun i => D.int (i : Nat))) (made : List D) (hm : made.length < 100000) (s0 x5 x6 x7 x8 x9 x10 : Sl) :
    SF' ((turnB fm fc eq) [s0, .hand, .val partsD, .own (.l made), .val (.int (k : Nat)), x5, x6, x7, x8, x9, x10]) (oNx fun δ => ∃ n y5 y6 y7 y8 y9 y10, Dg n ∧ δ = [s0, .hand, .val partsD, .own (.l (made ++ [cl n])), .val (.int (k : Nat)), y5, y6, y7, y8, y9, y10]) := by
  refine seq_go (set_goS (SE'.of_eq (draw3 _ _ _ _ _ _ _ _ _ _) (SE'.draw (by decide) (by decide) fun a a0 a1 => SE'.draw (by decide) (by decide) fun b b0 b1 => SE'.draw (by decide) (by decide) fun c c0 c1 => SE'.draw (by decide) (by decide) fun d d0 d1 => SE'.ret ?_)))
  have hn : Dg [a, b, c, d] := ⟨a, b, c, d, rfl, fun x hx => by
    simp only [List.mem_cons, List.not_mem_nil, or_false] at hx
    rcases hx with rfl | rfl | rfl | rfl <;> exact dg3 (by assumption) (by assumption)⟩
  have hm1 := F.made _ hn
  obtain ⟨n1, n2, n3⟩ := F.no _ hn
  have same := F.same _ hn
  have other := fun i hi => other_ok F hn (i := i) hi hp
  generalize ([a, b, c, d] : List Int) = n at *
  refine seq_go (set_go (d := cl n) (cCall_eq (ds := [.int k, lstI n]) rfl hm1) ?_)
  refine seq_go (if_go (b := false) ?_ (nil_go ?_))
  · exact bNot_eq (b := true) (bV_eq (cCall_eq (cCons_eq rfl (cCons_eq (cCall_eq (cCons_eq rfl (cCons_eq rfl rfl)) hm1) rfl)) same))
  refine seq_go (for_go (ds := (List.range p).map fun i => D.int (i : Nat)) (fun _ δ => ∃ y8 y9, δ = [s0, .hand, .val partsD, .own (.l made), .val (.int (k : Nat)), x5, .val (lstI n), .val (cl n), y8, y9, x10]) hv ⟨_, _, rfl⟩ (fun i δ t ht ⟨y8, y9, e⟩ => ?_) fun δ ⟨y8, y9, e⟩ => ?_)
  · subst e
    rw [List.getElem?_map] at ht
    obtain ⟨j, hj, rfl⟩ := Option.map_eq_some_iff.mp ht
    obtain ⟨h1, h2⟩ := List.getElem?_eq_some_iff.mp hj
    rw [List.getElem_range] at h2
    subst h2
    rw [List.length_range] at h1
    exact ⟨_, rfl, (other i h1 _ _ _ _ _ _).up fun δ ⟨z9, e⟩ => ⟨_, _, e⟩⟩
  · subst e
    refine seq_go (if_go (b := false) ?_ (nil_go ?_))
    · exact bOr_eq (b := false) (c := false) (bB_eq rfl rfl n1) fun _ => bOr_eq (b := false) (c := false) (bB_eq rfl rfl n2) fun _ => bB_eq rfl rfl n3
    · exact app_go (ds := made) rfl hm (d := cl n) rfl ⟨_, _, _, _, _, _, _, hn, rfl⟩
/-- the second half: every two of the results -/
theorem pairs_ok {made : List D} (hl : made.length = 13) (hc : ∀ i j, i < 13 → j < 13 → ∀ x y, made[i]? = some x → made[j]? = some y → fc [x, y, .bl (decide (i = j))] = .ret (.bl true)) (he : ∀ i j : Nat, i < 13 → j < 13 → eq (.int (i : Nat)) (.int (j : Nat)) = .ret (decide (i = j))) (s0 pp y4 y5 y6 y7 y8 y9 y10 : Sl) :
    SF' ((gGive 3 (gSeq (gFor rng13 (putN 5) (gGive 3 (gFor rng13 (putN 10) (pairB fc eq)))) (gRet (cK (.bl true))))) [s0, .hand, pp, .own (.l made), y4, y5, y6, y7, y8, y9, y10]) (oRt fun d => d = .bl true) := by
  have r13 : ∀ δ, rng13 δ = .ret ((List.range 13).map fun i => D.int (i : Nat)) := fun δ => rfl
  have it : ∀ {i : Nat} {t : D}, ((List.range 13).map fun i => D.int (i : Nat))[i]? = some t → i < 13 ∧ t = .int (i : Nat) := fun {i t} ht => by
    rw [List.getElem?_map] at ht
    obtain ⟨j, hj, rfl⟩ := Option.map_eq_some_iff.mp ht
    obtain ⟨h1, h2⟩ := List.getElem?_eq_some_iff.mp hj
    rw [List.getElem_range] at h2
    subst h2
    exact ⟨by rw [List.length_range] at h1; exact h1, rfl⟩
  refine give_go (seq_go (for_go (fun _ δ => ∃ y5 y10, δ = [s0, .hand, pp, .val (.lst made), y4, y5, y6, y7, y8, y9, y10]) (r13 _) ⟨_, _, rfl⟩ (fun i δ t ht ⟨z5, z10, e⟩ => ?_) fun δ ⟨z5, z10, e⟩ => ?_))
  · subst e
    obtain ⟨hi, rfl⟩ := it ht
    refine ⟨_, rfl, ?_⟩
    refine give_go (for_go (fun _ δ => ∃ y10, δ = [s0, .hand, pp, .val (.lst made), y4, .val (.int (i : Nat)), y6, y7, y8, y9, y10]) (r13 _) ⟨_, rfl⟩ (fun j δ t ht ⟨z, e⟩ => ?_) fun δ ⟨z, e⟩ => ?_)
    · subst e
      obtain ⟨hj, rfl⟩ := it ht
      refine ⟨_, rfl, give_go (if_go (b := false) ?_ (nil_go ⟨_, rfl⟩))⟩
      have e1 : made[i]? = some made[i] := List.getElem?_eq_getElem (by omega)
      have e2 : made[j]? = some made[j] := List.getElem?_eq_getElem (by omega)
      have v1 : vIx (.lst made) (.int (i : Nat)) = .ret made[i] := by
        show (match atI made (i : Nat) with | some d => T.ret d | none => .stuck) = _
        rw [atI_nat e1]
      have v2 : vIx (.lst made) (.int (j : Nat)) = .ret made[j] := by
        show (match atI made (j : Nat) with | some d => T.ret d | none => .stuck) = _
        rw [atI_nat e2]
      exact bNot_eq (b := true) (bV_eq (cCall_eq (cCons_eq (cBin_eq rfl rfl v1) (cCons_eq (cBin_eq rfl rfl v2) (cCons_eq (cB_eq (bB_eq rfl rfl (he i j hi hj))) rfl))) (hc i j hi hj _ _ e1 e2)))
    · subst e; exact ⟨_, _, rfl⟩
  · subst e; exact ret_go rfl rfl
end
/-! ### the facts of each kind -/
theorem cube_mem : ∀ {p : Nat} {l : List Int}, l.length = p → (∀ x ∈ l, x = 0 ∨ x = 1 ∨ x = 2) → l ∈ cube p
  | 0, [], _, _ => List.mem_singleton.mpr rfl
  | p + 1, a :: l, e, h => by
    refine List.mem_flatMap.mpr ⟨a, ?_, List.mem_map.mpr ⟨l, cube_mem (by simpa using e) fun x hx => h x (List.mem_cons_of_mem _ hx), rfl⟩⟩
    rcases h a List.mem_cons_self with rfl | rfl | rfl <;> decide
theorem allP_mem {α : Type} {P : α → Prop} : ∀ {l : List α} {a : α}, AllP P l → a ∈ l → P a
  | b :: l, a, h, m => by
    rcases List.mem_cons.mp m with rfl | m
    · exact h.1
    · exact allP_mem h.2 m
theorem isTrue_ok {t : T D} (h : isTrue t = true) : t = .ret (.bl true) := by
  unfold isTrue at h
  split at h
  · rw [h]
  · cases h
theorem isF_ok {t : T Bool} (h : isF t = true) : t = .ret false := by
  unfold isF at h
  split at h
  · rename_i b; cases b
    · rfl
    · cases h
  · cases h
abbrev eqL : D → D → T Bool := vNox (eqT NN.cs eqs_law)
theorem kf_of {bb : Bool} {k p : Nat} (h : ∀ n, Dg n → one13 k p n = true) (m : ∀ n, Dg n → f_l_made bb [.int k, lstI n] = .ret (clv k n)) : KF (f_l_made bb) f_l_compared eqL k p (clv k) where
  made := m
  same := fun n hn => by
    have := h n hn
    unfold one13 at this
    rw [Bool.and_eq_true] at this
    exact isTrue_ok this.1
  diff := fun n hn i hi e he => by
    have := h n hn
    unfold one13 at this
    rw [Bool.and_eq_true, Bool.and_eq_true, Bool.and_eq_true, Bool.and_eq_true] at this
    refine isTrue_ok (List.all_eq_true.mp (List.all_eq_true.mp this.2.2.2.2 i (List.mem_range.mpr hi)) e ?_)
    rcases he with rfl | rfl <;> decide
  no := fun n hn => by
    have := h n hn
    unfold one13 at this
    rw [Bool.and_eq_true, Bool.and_eq_true, Bool.and_eq_true, Bool.and_eq_true] at this
    exact ⟨isF_ok this.2.1, isF_ok this.2.2.1, isF_ok this.2.2.2.1⟩
section
variable (bb : Bool) {k : Nat}
theorem kf4 (h : kind13 k [] = true) (m : same13 bb k []) (hp : parts13.getD k 0 = 4) : KF (f_l_made bb) f_l_compared eqL k 4 (clv k) := kf_of (fun n ⟨a, b, c, d, e, x⟩ => by
    subst e
    have := List.all_eq_true.mp h [a, b, c, d] (by rw [hp]; exact cube_mem rfl x)
    rw [hp] at this
    exact this) fun n ⟨a, b, c, d, e, x⟩ => by
    subst e
    exact allP_mem m (a := [a, b, c, d]) (by rw [hp]; exact cube_mem rfl x)
theorem kf3 (h : ∀ r, kind13 k [r] = true) (m : ∀ r, same13 bb k [r]) (hp : parts13.getD k 0 = 3) : KF (f_l_made bb) f_l_compared eqL k 3 (clv k) := kf_of (fun n ⟨a, b, c, d, e, x⟩ => by
    subst e
    have := List.all_eq_true.mp (h d) [a, b, c] (by rw [hp]; exact cube_mem rfl fun y hy => x y (List.mem_append_left [d] hy))
    rw [hp] at this
    exact this) fun n ⟨a, b, c, d, e, x⟩ => by
    subst e
    exact allP_mem (m d) (a := [a, b, c]) (by rw [hp]; exact cube_mem rfl fun y hy => x y (List.mem_append_left [d] hy))
theorem kf2 (h : ∀ r s, kind13 k [r, s] = true) (m : ∀ r s, same13 bb k [r, s]) (hp : parts13.getD k 0 = 2) : KF (f_l_made bb) f_l_compared eqL k 2 (clv k) := kf_of (fun n ⟨a, b, c, d, e, x⟩ => by
    subst e
    have := List.all_eq_true.mp (h c d) [a, b] (by rw [hp]; exact cube_mem rfl fun y hy => x y (List.mem_append_left [c, d] hy))
    rw [hp] at this
    exact this) fun n ⟨a, b, c, d, e, x⟩ => by
    subst e
    exact allP_mem (m c d) (a := [a, b]) (by rw [hp]; exact cube_mem rfl fun y hy => x y (List.mem_append_left [c, d] hy))
theorem kf1 (h : ∀ r s t, kind13 k [r, s, t] = true) (m : ∀ r s t, same13 bb k [r, s, t]) (hp : parts13.getD k 0 = 1) : KF (f_l_made bb) f_l_compared eqL k 1 (clv k) := kf_of (fun n ⟨a, b, c, d, e, x⟩ => by
    subst e
    have := List.all_eq_true.mp (h b c d) [a] (by rw [hp]; exact cube_mem rfl fun y hy => x y (List.mem_append_left [b, c, d] hy))
    rw [hp] at this
    exact this) fun n ⟨a, b, c, d, e, x⟩ => by
    subst e
    exact allP_mem (m b c d) (a := [a]) (by rw [hp]; exact cube_mem rfl fun y hy => x y (List.mem_append_left [b, c, d] hy))
end
theorem kfAll (bb : Bool) : ∀ k, k < 13 → ∃ p, p ≤ 4 ∧ KF (f_l_made bb) f_l_compared eqL k p (clv k) ∧ (cRng1 (cCons (cBin vIx (cK partsD) (cK (.int (k : Nat)))) cNil)) [] = .ret ((List.range p).map fun i => D.int (i : Nat))
  | 0, _ => ⟨3, by decide, kf3 bb kd0 (sm0 bb) rfl, rfl⟩
  | 1, _ => ⟨2, by decide, kf2 bb kd1 (sm1 bb) rfl, rfl⟩
  | 2, _ => ⟨3, by decide, kf3 bb kd2 (sm2 bb) rfl, rfl⟩
  | 3, _ => ⟨3, by decide, kf3 bb kd3 (sm3 bb) rfl, rfl⟩
  | 4, _ => ⟨3, by decide, kf3 bb kd4 (sm4 bb) rfl, rfl⟩
  | 5, _ => ⟨1, by decide, kf1 bb kd5 (sm5 bb) rfl, rfl⟩
  | 6, _ => ⟨3, by decide, kf3 bb kd6 (sm6 bb) rfl, rfl⟩
  | 7, _ => ⟨4, by decide, kf4 bb kd7 (sm7 bb) rfl, rfl⟩
  | 8, _ => ⟨4, by decide, kf4 bb kd8 (sm8 bb) rfl, rfl⟩
  | 9, _ => ⟨4, by decide, kf4 bb kd9 (sm9 bb) rfl, rfl⟩
  | 10, _ => ⟨2, by decide, kf2 bb kd10 (sm10 bb) rfl, rfl⟩
  | 11, _ => ⟨1, by decide, kf1 bb kd11 (sm11 bb) rfl, rfl⟩
  | 12, _ => ⟨4, by decide, kf4 bb kd12 (sm12 bb) rfl, rfl⟩
theorem clv_ins : ∀ k, k < 13 → ∀ n, Dg n → ∃ fs, clv k n = .ins (cls13.getD k "") fs
  | 0, _, _, ⟨_, _, _, _, rfl, _⟩ => ⟨_, rfl⟩
  | 1, _, _, ⟨_, _, _, _, rfl, _⟩ => ⟨_, rfl⟩
  | 2, _, _, ⟨_, _, _, _, rfl, _⟩ => ⟨_, rfl⟩
  | 3, _, _, ⟨_, _, _, _, rfl, _⟩ => ⟨_, rfl⟩
  | 4, _, _, ⟨_, _, _, _, rfl, _⟩ => ⟨_, rfl⟩
  | 5, _, _, ⟨_, _, _, _, rfl, _⟩ => ⟨_, rfl⟩
  | 6, _, _, ⟨_, _, _, _, rfl, _⟩ => ⟨_, rfl⟩
  | 7, _, _, ⟨_, _, _, _, rfl, _⟩ => ⟨_, rfl⟩
  | 8, _, _, ⟨_, _, _, _, rfl, _⟩ => ⟨_, rfl⟩
  | 9, _, _, ⟨_, _, _, _, rfl, _⟩ => ⟨_, rfl⟩
  | 10, _, _, ⟨_, _, _, _, rfl, _⟩ => ⟨_, rfl⟩
  | 11, _, _, ⟨_, _, _, _, rfl, _⟩ => ⟨_, rfl⟩
  | 12, _, _, ⟨_, _, _, _, rfl, _⟩ => ⟨_, rfl⟩
theorem eq_ints (i j : Nat) (hi : i < 13) (hj : j < 13) : eqL (.int (i : Nat)) (.int (j : Nat)) = .ret (decide (i = j)) := by
  have h := List.all_eq_true.mp (List.all_eq_true.mp eq13 i (List.mem_range.mpr hi)) j (List.mem_range.mpr hj)
  unfold isB at h
  split at h
  · rename_i c e
    rw [show eqL (.int (i : Nat)) (.int (j : Nat)) = .ret c from e]
    have : decide (i = j) = c := by simpa using h
    rw [this]
  · cases h
theorem law_sat (bb : Bool) (ns : List Int) (hl : ns.length ≤ 90000) : (f_law bb [.zlst (ns.map D.int)]).sat (fun d => d = .bl true) noX := by
  have main : SF' ((restB (f_l_made bb) f_l_compared eqL) [.val (.zlst (ns.map D.int)), .hand, .no, .no, .no, .no, .no, .no, .no, .no, .no]) (oRt fun d => d = .bl true) := by
    refine seq_go (set_go (d := partsD) (by kernel_rfl) (seq_go (own_go (ds := []) rfl ?_)))
    refine seq_go (for_go (ds := (List.range 13).map fun i => D.int (i : Nat)) (fun k δ => ∃ made y4 y5 y6 y7 y8 y9 y10, δ = [.val (.zlst (ns.map D.int)), .hand, .val partsD, .own (.l made), y4, y5, y6, y7, y8, y9, y10] ∧ made.length = k ∧ ∀ (j : Nat) (x : D), made[j]? = some x → ∃ n, Dg n ∧ x = clv j n) rfl ⟨_, _, _, _, _, _, _, _, rfl, rfl, fun j x z => by simp at z⟩ (fun k δ t ht ⟨made, y4, y5, y6, y7, y8, y9, y10, e, el, em⟩ => ?_) fun δ ⟨made, y4, y5, y6, y7, y8, y9, y10, e, el, em⟩ => ?_)
    · subst e
      rw [List.getElem?_map] at ht
      obtain ⟨j, hj, rfl⟩ := Option.map_eq_some_iff.mp ht
      obtain ⟨h1, h2⟩ := List.getElem?_eq_some_iff.mp hj
      rw [List.getElem_range] at h2
      subst h2
      rw [List.length_range] at h1
      obtain ⟨p, hp, F, hv⟩ := kfAll bb k h1
      refine ⟨_, rfl, (turn_ok F hp hv made (by omega) _ y5 y6 y7 y8 y9 y10).up fun δ ⟨n, z5, z6, z7, z8, z9, z10, hn, e⟩ => ?_⟩
      subst e
      refine ⟨_, _, _, _, _, _, _, _, rfl, by rw [List.length_append, el]; rfl, fun j x ex => ?_⟩
      rcases Nat.lt_or_ge j made.length with q | q
      · rw [List.getElem?_append_left q] at ex
        exact em j x ex
      · rw [List.getElem?_append_right q] at ex
        have hj : j - made.length = 0 := by
          have := (List.getElem?_eq_some_iff.mp ex).1
          rw [List.length_singleton] at this
          omega
        rw [hj] at ex
        obtain rfl : clv k n = x := by simpa using ex
        have : j = k := by omega
        subst this
        exact ⟨n, hn, rfl⟩
    · subst e
      rw [List.length_map, List.length_range] at el
      refine pairs_ok (by omega) (fun i j hi hj x y ex ey => ?_) eq_ints _ _ _ _ _ _ _ _ _
      obtain ⟨n, hn, rfl⟩ := em i x ex
      obtain ⟨m, hm, rfl⟩ := em j y ey
      by_cases z : i = j
      · subst z
        rw [ex] at ey
        have ey' := Option.some.inj ey
        rw [← ey', decide_eq_true rfl]
        obtain ⟨p, _, F, _⟩ := kfAll bb i hi
        exact F.same n hn
      · obtain ⟨fs, e1⟩ := clv_ins i hi n hn
        obtain ⟨gs, e2⟩ := clv_ins j hj m hm
        rw [e1, e2, decide_eq_false z]
        have h := List.all_eq_true.mp (List.all_eq_true.mp (df13 fs gs) i (List.mem_range.mpr hi)) j (List.mem_range.mpr hj)
        rw [decide_eq_false z, Bool.false_or] at h
        exact isTrue_ok h
  have e1 : f_law bb [.zlst (ns.map D.int)] = ((gHand 1 (cV 0) (restB (f_l_made bb) f_l_compared eqL) [.val (.zlst (ns.map D.int)), .no, .no, .no, .no, .no, .no, .no, .no, .no, .no]).nox.bind outT) := by kernel_rfl
  rw [e1]
  exact law_end hl main
end V95

set_option Elab.async false
set_option linter.all false
set_option maxRecDepth 100000
set_option maxHeartbeats 4000000
namespace V95
open PySem PySem.Spec PyProof.Rows L2 Uc Ud
section
variable {Pg : Program} {w : World} {K : PySem.W.Frag} {mg : Str → Option Value} {base : Heap} {f : Addr} {fd : FuncData}
theorem ok_is_whole (T : Says NN K mg) (Fn : FunD K "is_whole" "is_whole" (defArgs s_is_whole) (defBody s_is_whole) (defScope s_is_whole) [] [] f fd)  : FnOk Pg w K mg base (L2.CX Pg w) 1 f fd ["thing"] (spD K (spT (f_is_whole))) :=
  okT (k := 0) (g := b_is_whole) (N := n_is_whole) (ps := ["thing"]) Fn sc_is_whole fun X h cdv A outer s H E hr hX => (db_one (ds_ret (de_and (isiN T rfl (T.fr _ (by decide +kernel)) (de_var 0) (.ty "int" (T.fr _ (by decide +kernel)) (by decide +kernel) .nil) (by decide +kernel)) (de_one (de_not (isiN T rfl (T.fr _ (by decide +kernel)) (de_var 0) (.ty "bool" (T.fr _ (by decide +kernel)) (by decide +kernel) .nil) (by decide +kernel)))))))
theorem ok_is_from (T : Says NN K mg) (Fn : FunD K "is_from" "is_from" (defArgs s_is_from) (defBody s_is_from) (defScope s_is_from) [] [] f fd) (O_is_whole : Ok Pg w K mg base "is_whole" 1 ["thing"] (spD K (spT f_is_whole))) : FnOk Pg w K mg base (L2.CX Pg w) 2 f fd ["thing", "low", "high"] (spD K (spT (f_is_from))) :=
  okT (k := 1) (g := b_is_from) (N := n_is_from) (ps := ["thing", "low", "high"]) Fn sc_is_from fun X h cdv A outer s H E hr hX => (db_one (ds_ret (de_and (de_call O_is_whole (hr.mono (by omega)) (da_cons (de_var 0) da_nil)) (de_one (de_lele (de_var 1) (de_var 0) (de_var 2))))))
theorem ok_is_sequence (T : Says NN K mg) (Fn : FunD K "is_sequence" "is_sequence" (defArgs s_is_sequence) (defBody s_is_sequence) (defScope s_is_sequence) [] [] f fd)  : FnOk Pg w K mg base (L2.CX Pg w) 1 f fd ["thing"] (spD K (spT (f_is_sequence))) :=
  okT (k := 0) (g := b_is_sequence) (N := n_is_sequence) (ps := ["thing"]) Fn sc_is_sequence fun X h cdv A outer s H E hr hX => (db_one (ds_ret (isiTN T (cl := [.ty "list", .ty "tuple"]) rfl (T.fr _ (by decide +kernel)) (de_var 0) (.ty "list" (T.fr _ (by decide +kernel)) (by decide +kernel) (.ty "tuple" (T.fr _ (by decide +kernel)) (by decide +kernel) .nil)) (by decide +kernel) (by decide))))
theorem ok_is_row (T : Says NN K mg) (Fn : FunD K "is_row" "is_row" (defArgs s_is_row) (defBody s_is_row) (defScope s_is_row) [] [] f fd) (O_is_sequence : Ok Pg w K mg base "is_sequence" 1 ["thing"] (spD K (spT f_is_sequence))) : FnOk Pg w K mg base (L2.CX Pg w) 2 f fd ["thing", "length"] (spD K (spT (f_is_row))) :=
  okT (k := 1) (g := b_is_row) (N := n_is_row) (ps := ["thing", "length"]) Fn sc_is_row fun X h cdv A outer s H E hr hX => (db_one (ds_ret (de_and (de_call O_is_sequence (hr.mono (by omega)) (da_cons (de_var 0) da_nil)) (de_one (de_eqX hr (de_len rfl (T.fr _ (by decide +kernel)) (da_cons (de_var 0) da_nil)) (de_var 1))))))
end
end V95

set_option Elab.async false
set_option linter.all false
set_option maxRecDepth 100000
set_option maxHeartbeats 4000000
namespace V95
open PySem PySem.Spec PyProof.Rows L2 Uc Ud
section
variable {Pg : Program} {w : World} {K : PySem.W.Frag} {mg : Str → Option Value} {base : Heap} {f : Addr} {fd : FuncData}
theorem ok_is_call (T : Says NN K mg) (Fn : FunD K "is_call" "is_call" (defArgs s_is_call) (defBody s_is_call) (defScope s_is_call) [] [] f fd) (O_is_from : Ok Pg w K mg base "is_from" 2 ["thing", "low", "high"] (spD K (spT f_is_from))) : FnOk Pg w K mg base (L2.CX Pg w) 3 f fd ["calls", "thing"] (spD K (spT (f_is_call))) :=
  okT (k := 2) (g := b_is_call) (N := n_is_call) (ps := ["calls", "thing"]) Fn sc_is_call fun X h cdv A outer s H E hr hX => (db_one (ds_ret (de_call O_is_from (hr.mono (by omega)) (da_cons (de_var 1) (da_cons de_int (da_cons (de_sub (de_var 0) de_int) da_nil))))))
theorem ok_is_answer (T : Says NN K mg) (Fn : FunD K "is_answer" "is_answer" (defArgs s_is_answer) (defBody s_is_answer) (defScope s_is_answer) [] [] f fd) (O_is_from : Ok Pg w K mg base "is_from" 2 ["thing", "low", "high"] (spD K (spT f_is_from))) : FnOk Pg w K mg base (L2.CX Pg w) 3 f fd ["thing"] (spD K (spT (f_is_answer))) :=
  okT (k := 2) (g := b_is_answer) (N := n_is_answer) (ps := ["thing"]) Fn sc_is_answer fun X h cdv A outer s H E hr hX => (db_one (ds_ret (de_call O_is_from (hr.mono (by omega)) (da_cons (de_var 0) (da_cons de_int (da_cons de_int da_nil))))))
theorem ok_is_way (T : Says NN K mg) (Fn : FunD K "is_way" "is_way" (defArgs s_is_way) (defBody s_is_way) (defScope s_is_way) [] [] f fd) (O_is_row : Ok Pg w K mg base "is_row" 2 ["thing", "length"] (spD K (spT f_is_row))) (O_is_from : Ok Pg w K mg base "is_from" 2 ["thing", "low", "high"] (spD K (spT f_is_from))) (O_is_call : Ok Pg w K mg base "is_call" 3 ["calls", "thing"] (spD K (spT f_is_call))) (O_is_answer : Ok Pg w K mg base "is_answer" 3 ["thing"] (spD K (spT f_is_answer))) : FnOk Pg w K mg base (L2.CX Pg w) 4 f fd ["states", "calls", "thing"] (spD K (spT (f_is_way))) :=
  okT (k := 3) (g := b_is_way) (N := n_is_way) (ps := ["states", "calls", "thing"]) Fn sc_is_way fun X h cdv A outer s H E hr hX => (db_cons (ds_if (dt_not (dt_val (de_call O_is_row (hr.mono (by omega)) (da_cons (de_var 2) (da_cons de_int da_nil))))) (db_one (ds_ret de_bl)) db_nil)
    (db_cons (ds_unp [3, 4, 5, 6] sc_is_way.nd (.cons rfl (by first | exact Or.inl rfl | exact Or.inr rfl) (by first | exact .inl rfl | exact .inr rfl) (.cons rfl (by first | exact Or.inl rfl | exact Or.inr rfl) (by first | exact .inl rfl | exact .inr rfl) (.cons rfl (by first | exact Or.inl rfl | exact Or.inr rfl) (by first | exact .inl rfl | exact .inr rfl) (.cons rfl (by first | exact Or.inl rfl | exact Or.inr rfl) (by first | exact .inl rfl | exact .inr rfl) .nil)))) (de_var 2))
    (db_one (ds_ret (de_and (de_call O_is_from (hr.mono (by omega)) (da_cons (de_var 3) (da_cons de_int (da_cons (de_sub (de_var 0) de_int) da_nil)))) (de_and (de_call O_is_call (hr.mono (by omega)) (da_cons (de_var 1) (da_cons (de_var 4) da_nil))) (de_and (de_call O_is_answer (hr.mono (by omega)) (da_cons (de_var 5) da_nil)) (de_one (de_call O_is_from (hr.mono (by omega)) (da_cons (de_var 6) (da_cons de_int (da_cons (de_sub (de_var 0) de_int) da_nil))))))))))))
theorem ok_checked_ways (T : Says NN K mg) (Fn : FunD K "checked_ways" "checked_ways" (defArgs s_checked_ways) (defBody s_checked_ways) (defScope s_checked_ways) [] [] f fd) (O_is_from : Ok Pg w K mg base "is_from" 2 ["thing", "low", "high"] (spD K (spT f_is_from))) (O_is_sequence : Ok Pg w K mg base "is_sequence" 1 ["thing"] (spD K (spT f_is_sequence))) (O_is_way : Ok Pg w K mg base "is_way" 4 ["states", "calls", "thing"] (spD K (spT f_is_way))) : FnOk Pg w K mg base (L2.CX Pg w) 5 f fd ["states", "calls", "ways"] (spD K (spT (f_checked_ways))) :=
  okT (k := 4) (g := b_checked_ways) (N := n_checked_ways) (ps := ["states", "calls", "ways"]) Fn sc_checked_ways fun X h cdv A outer s H E hr hX => (db_cons (ds_if (dt_not (dt_val (de_call O_is_from (hr.mono (by omega)) (da_cons (de_var 0) (da_cons de_int (da_cons (de_gI (T.i ("MOST_STATES", 6) (by decide +kernel))) da_nil)))))) (db_one ds_stuck) db_nil)
    (db_cons (ds_if (dt_not (dt_val (de_call O_is_from (hr.mono (by omega)) (da_cons (de_var 1) (da_cons de_int (da_cons (de_gI (T.i ("MOST_CALLS", 4) (by decide +kernel))) da_nil)))))) (db_one ds_stuck) db_nil)
    (db_cons (ds_if (DW.dt (dw_or (dt_not (dt_val (de_call O_is_sequence (hr.mono (by omega)) (da_cons (de_var 2) da_nil)))) (dw_or1 (dt_gt (de_len rfl (T.fr _ (by decide +kernel)) (da_cons (de_var 2) da_nil)) (de_gI (T.i ("MOST_WAYS", 432) (by decide +kernel))))))) (db_one ds_stuck) db_nil)
    (db_cons (ds_for (passes_of rfl) (di_seq (de_var 2)) (tg_name 3 sc_checked_ways.nd) (db_one (ds_if (dt_not (dt_val (de_call O_is_way (hr.mono (by omega)) (da_cons (de_var 0) (da_cons (de_var 1) (da_cons (de_var 3) da_nil)))))) (db_one ds_stuck) db_nil)))
    (db_cons (ds_set 4 sc_checked_ways.nd (de_sorted hr rfl (T.fr _ (by decide +kernel)) (da_cons (DF.de (df_lc sc_checked_ways.nd (own := [("way", 3)]) (blkOk_by (by show blkC n_checked_ways (defScope s_checked_ways) _ _ = true; decide +kernel)) rfl (di_seq (de_var 2)) (fun s0 H0 C0 cl0 fp0 => (tg_name 3 sc_checked_ways.nd)) (dc_all (fun s0 H0 C0 cl0 fp0 => (de_tuple rfl (T.fr _ (by decide +kernel)) (da_cons (de_var 3) da_nil)))))) da_nil)))
    (db_cons (ds_if (dt_lt (de_lenSet hr rfl rfl (T.fr _ (by decide +kernel)) (T.fr _ (by decide +kernel)) (de_var 4)) (de_len rfl (T.fr _ (by decide +kernel)) (da_cons (de_var 4) da_nil))) (db_one ds_stuck) db_nil)
    (db_cons (ds_if (dt_lt (de_lenSc hr rfl (T.fr _ (by decide +kernel)) sc_checked_ways.nd (own := [("row", 5)]) (blkOk_by (by show blkC n_checked_ways (defScope s_checked_ways) _ _ = true; decide +kernel)) rfl (di_seq (de_var 4)) (fun s0 H0 C0 cl0 fp0 => (tg_name 5 sc_checked_ways.nd)) (dc_all (fun s0 H0 C0 cl0 fp0 => (de_tup (da_cons (de_ix (de_var 5) de_int) (da_cons (de_ix (de_var 5) de_int) da_nil)))))) (de_mul (de_var 0) (de_var 1))) (db_one ds_stuck) db_nil)
    (db_one (ds_ret (de_tuple rfl (T.fr _ (by decide +kernel)) (da_cons (de_var 4) da_nil)))))))))))
end
end V95

set_option Elab.async false
set_option linter.all false
set_option maxRecDepth 100000
set_option maxHeartbeats 4000000
namespace V95
open PySem PySem.Spec PyProof.Rows L2 Uc Ud
section
variable {Pg : Program} {w : World} {K : PySem.W.Frag} {mg : Str → Option Value} {base : Heap} {f : Addr} {fd : FuncData}
theorem ok_Book_init (T : Says NN K mg) (Fn : FunD K "__init__" "Book.__init__" (defArgs s_Book_init) (defBody s_Book_init) (defScope s_Book_init) [] [] f fd) (O_checked_ways : Ok Pg w K mg base "checked_ways" 5 ["states", "calls", "ways"] (spD K (spT f_checked_ways))) (O_ends_table : Ok Pg w K mg base "ends_table" 1 ["ways"] (spD K (spT f_ends_table))) : FnOk Pg w K mg base (L2.CX Pg w) 6 f fd ["self", "states", "calls", "ways"] (spMk K "Book" (i_Book)) :=
  okI (k := 5) (g := b_Book_init) (N := n_Book_init) (ps := ["self", "states", "calls", "ways"]) "Book" Fn sc_Book_init fun X h cdv A outer s H E so hr hX => (db_cons (ds_attr so 0 (T.ff "ways" fl_ways (by decide +kernel) (by decide +kernel)) (de_call O_checked_ways (hr.mono (by omega)) (da_cons (de_var 1) (da_cons (de_var 2) (da_cons (de_var 3) da_nil)))))
    (db_cons (ds_attr so 0 (T.ff "states" fl_states (by decide +kernel) (by decide +kernel)) (de_var 1))
    (db_cons (ds_attr so 0 (T.ff "calls" fl_calls (by decide +kernel) (by decide +kernel)) (de_var 2))
    (db_cons (ds_attr so 0 (T.ff "_borne" fl__borne (by decide +kernel) (by decide +kernel)) (de_tuple rfl (T.fr _ (by decide +kernel)) (da_cons (de_sortSc rfl (T.fr _ (by decide +kernel)) sc_Book_init.nd (own := [("way", 4)]) (blkOk_by (by show blkC n_Book_init (defScope s_Book_init) _ _ = true; decide +kernel)) rfl (di_seq (de_fldS 0 (T.ff "ways" fl_ways (by decide +kernel) (by decide +kernel)))) (fun s0 H0 C0 cl0 fp0 => (tg_name 4 sc_Book_init.nd)) (dc_all (fun s0 H0 C0 cl0 fp0 => (de_ix (de_var 4) de_int)))) da_nil)))
    (db_one (ds_attr so 0 (T.ff "_ends" fl__ends (by decide +kernel) (by decide +kernel)) (de_call O_ends_table (hr.mono (by omega)) (da_cons (de_fldS 0 (T.ff "ways" fl_ways (by decide +kernel) (by decide +kernel))) da_nil))))))))
theorem ok_is_entry (T : Says NN K mg) (Fn : FunD K "is_entry" "is_entry" (defArgs s_is_entry) (defBody s_is_entry) (defScope s_is_entry) [] [] f fd) (O_is_row : Ok Pg w K mg base "is_row" 2 ["thing", "length"] (spD K (spT f_is_row))) (O_is_from : Ok Pg w K mg base "is_from" 2 ["thing", "low", "high"] (spD K (spT f_is_from))) (O_is_call : Ok Pg w K mg base "is_call" 3 ["calls", "thing"] (spD K (spT f_is_call))) (O_is_answer : Ok Pg w K mg base "is_answer" 3 ["thing"] (spD K (spT f_is_answer))) : FnOk Pg w K mg base (L2.CX Pg w) 4 f fd ["book", "thing"] (spD K (spT (f_is_entry))) :=
  okT (k := 3) (g := b_is_entry) (N := n_is_entry) (ps := ["book", "thing"]) Fn sc_is_entry fun X h cdv A outer s H E hr hX => (db_one (ds_ret (de_and (de_call O_is_row (hr.mono (by omega)) (da_cons (de_var 1) (da_cons de_int da_nil))) (de_and (de_call O_is_from (hr.mono (by omega)) (da_cons (de_ix (de_var 1) de_int) (da_cons de_int (da_cons (de_gI (T.i ("MOST_HAND", 9) (by decide +kernel))) da_nil)))) (de_and (de_call O_is_call (hr.mono (by omega)) (da_cons (de_fld (T.ff "calls" fl_calls (by decide +kernel) (by decide +kernel)) (de_var 0)) (da_cons (de_ix (de_var 1) de_int) da_nil))) (de_one (de_call O_is_answer (hr.mono (by omega)) (da_cons (de_ix (de_var 1) de_int) da_nil))))))))
theorem ok_check_history (T : Says NN K mg) (Fn : FunD K "check_history" "check_history" (defArgs s_check_history) (defBody s_check_history) (defScope s_check_history) [] [] f fd) (O_is_sequence : Ok Pg w K mg base "is_sequence" 1 ["thing"] (spD K (spT f_is_sequence))) (O_is_entry : Ok Pg w K mg base "is_entry" 4 ["book", "thing"] (spD K (spT f_is_entry))) : FnOk Pg w K mg base (L2.CX Pg w) 5 f fd ["book", "history"] (spD K (spT (f_check_history))) :=
  okT (k := 4) (g := b_check_history) (N := n_check_history) (ps := ["book", "history"]) Fn sc_check_history fun X h cdv A outer s H E hr hX => (db_cons (ds_if (dt_not (dt_val (de_call O_is_sequence (hr.mono (by omega)) (da_cons (de_var 1) da_nil)))) (db_one ds_stuck) db_nil)
    (db_cons (ds_if (dt_gt (de_len rfl (T.fr _ (by decide +kernel)) (da_cons (de_var 1) da_nil)) (de_gI (T.i ("MOST_ENTRIES", 400) (by decide +kernel)))) (db_one ds_stuck) db_nil)
    (db_cons (ds_for (passes_of rfl) (di_enum (T.fr _ (by decide +kernel)) (de_var 1)) (tgA [2, 3] sc_check_history.nd) (db_one (ds_if (dt_not (dt_val (de_call O_is_entry (hr.mono (by omega)) (da_cons (de_var 0) (da_cons (de_var 3) da_nil))))) (db_one ds_stuck) db_nil)))
    (db_one (ds_ret (de_tuple rfl (T.fr _ (by decide +kernel)) (da_cons (DF.de (df_lc sc_check_history.nd (own := [("entry", 3)]) (blkOk_by (by show blkC n_check_history (defScope s_check_history) _ _ = true; decide +kernel)) rfl (di_seq (de_var 1)) (fun s0 H0 C0 cl0 fp0 => (tg_name 3 sc_check_history.nd)) (dc_all (fun s0 H0 C0 cl0 fp0 => (de_tuple rfl (T.fr _ (by decide +kernel)) (da_cons (de_var 3) da_nil)))))) da_nil)))))))
theorem ok_Book_ends_from (T : Says NN K mg) (Fn : FunD K "ends_from" "Book.ends_from" (defArgs s_Book_ends_from) (defBody s_Book_ends_from) (defScope s_Book_ends_from) [] [] f fd)  : FnOk Pg w K mg base (L2.CX Pg w) 1 f fd ["self", "standing", "call", "answer"] (spD K (spT (m_Book_ends_from (w.params.followText "set-order")))) :=
  okT (k := 0) (g := b_Book_ends_from (w.params.followText "set-order")) (N := n_Book_ends_from) (ps := ["self", "standing", "call", "answer"]) Fn sc_Book_ends_from fun X h cdv A outer s H E hr hX => (db_cons (ds_setNew 4 sc_Book_ends_from.nd rfl (T.fr _ (by decide +kernel)))
    (db_cons (ds_for (passes_of rfl) (di_seq (de_var 1)) (tg_name 5 sc_Book_ends_from.nd) (db_one (ds_for (passes_of rfl) (di_seq (de_getT hr (de_fld (T.ff "_ends" fl__ends (by decide +kernel) (by decide +kernel)) (de_var 0)) (da_cons (de_var 5) (da_cons (de_var 2) (da_cons (de_var 3) da_nil))) (de_tup da_nil) ⟨rfl, rfl, rfl, rfl⟩)) (tg_name 6 sc_Book_ends_from.nd) (db_one (ds_setAdd 4 (de_var 6))))))
    (db_one (ds_ret (de_tuple rfl (T.fr _ (by decide +kernel)) (da_cons (de_sortOwn 4 rfl (T.fr _ (by decide +kernel))) da_nil))))))
end
end V95

set_option Elab.async false
set_option linter.all false
set_option maxRecDepth 100000
set_option maxHeartbeats 4000000
namespace V95
open PySem PySem.Spec PyProof.Rows L2 Uc Ud
section
variable {Pg : Program} {w : World} {K : PySem.W.Frag} {mg : Str → Option Value} {base : Heap} {f : Addr} {fd : FuncData}
theorem ok_standing_behind (T : Says NN K mg) (Fn : FunD K "standing_behind" "standing_behind" (defArgs s_standing_behind) (defBody s_standing_behind) (defScope s_standing_behind) [] [] f fd) (M_Book_ends_from : OkM Pg w K mg base "Book" "ends_from" 1 ["self", "standing", "call", "answer"] (m_Book_ends_from (w.params.followText "set-order"))) : FnOk Pg w K mg base (L2.CX Pg w) 2 f fd ["book", "standing", "trail"] (spD K (spT (f_standing_behind (w.params.followText "set-order")))) :=
  okT (k := 1) (g := b_standing_behind (w.params.followText "set-order")) (N := n_standing_behind) (ps := ["book", "standing", "trail"]) Fn sc_standing_behind fun X h cdv A outer s H E hr hX => (db_cons (ds_for (passes_of rfl) (di_seq (de_var 2)) (tgA [3, 4] sc_standing_behind.nd) (db_one (ds_set 1 sc_standing_behind.nd (de_meth M_Book_ends_from (hr.mono (by omega)) (de_var 0) (da_cons (de_var 1) (da_cons (de_var 3) (da_cons (de_var 4) da_nil))) _ rfl))))
    (db_one (ds_ret (de_var 1))))
theorem ok_calls_of (T : Says NN K mg) (Fn : FunD K "calls_of" "calls_of" (defArgs s_calls_of) (defBody s_calls_of) (defScope s_calls_of) [] [] f fd)  : FnOk Pg w K mg base (L2.CX Pg w) 1 f fd ["history"] (spD K (spT (f_calls_of))) :=
  okT (k := 0) (g := b_calls_of) (N := n_calls_of) (ps := ["history"]) Fn sc_calls_of fun X h cdv A outer s H E hr hX => (db_one (ds_ret (de_tuple rfl (T.fr _ (by decide +kernel)) (da_cons (DF.de (df_lc sc_calls_of.nd (own := [("entry", 1)]) (blkOk_by (by show blkC n_calls_of (defScope s_calls_of) _ _ = true; decide +kernel)) rfl (di_seq (de_var 0)) (fun s0 H0 C0 cl0 fp0 => (tg_name 1 sc_calls_of.nd)) (dc_all (fun s0 H0 C0 cl0 fp0 => (de_tup (da_cons (de_ix (de_var 1) de_int) (da_cons (de_ix (de_var 1) de_int) da_nil))))))) da_nil))))
theorem ok_standing_of (T : Says NN K mg) (Fn : FunD K "standing_of" "standing_of" (defArgs s_standing_of) (defBody s_standing_of) (defScope s_standing_of) [] [] f fd) (O_standing_behind : Ok Pg w K mg base "standing_behind" 2 ["book", "standing", "trail"] (spD K (spT (f_standing_behind (w.params.followText "set-order"))))) (O_calls_of : Ok Pg w K mg base "calls_of" 1 ["history"] (spD K (spT f_calls_of))) (O_check_history : Ok Pg w K mg base "check_history" 5 ["book", "history"] (spD K (spT f_check_history))) : FnOk Pg w K mg base (L2.CX Pg w) 6 f fd ["book", "history"] (spD K (spT (f_standing_of (w.params.followText "set-order")))) :=
  okT (k := 5) (g := b_standing_of (w.params.followText "set-order")) (N := n_standing_of) (ps := ["book", "history"]) Fn sc_standing_of fun X h cdv A outer s H E hr hX => (db_one (ds_ret (de_call O_standing_behind (hr.mono (by omega)) (da_cons (de_var 0) (da_cons (de_gT (T.t _ (NN.mem_t 0))) (da_cons (de_call O_calls_of (hr.mono (by omega)) (da_cons (de_call O_check_history (hr.mono (by omega)) (da_cons (de_var 0) (da_cons (de_var 1) da_nil))) da_nil)) da_nil))))))
theorem ok_is_right (T : Says NN K mg) (Fn : FunD K "is_right" "is_right" (defArgs s_is_right) (defBody s_is_right) (defScope s_is_right) [] [] f fd) (O_standing_of : Ok Pg w K mg base "standing_of" 6 ["book", "history"] (spD K (spT (f_standing_of (w.params.followText "set-order"))))) : FnOk Pg w K mg base (L2.CX Pg w) 7 f fd ["book", "history"] (spD K (spT (f_is_right (w.params.followText "set-order")))) :=
  okT (k := 6) (g := b_is_right (w.params.followText "set-order")) (N := n_is_right) (ps := ["book", "history"]) Fn sc_is_right fun X h cdv A outer s H E hr hX => (db_one (ds_ret (de_ne hr (de_call O_standing_of (hr.mono (by omega)) (da_cons (de_var 0) (da_cons (de_var 1) da_nil))) (de_tup da_nil))))
end
end V95

set_option Elab.async false
set_option linter.all false
set_option maxRecDepth 100000
set_option maxHeartbeats 4000000
namespace V95
open PySem PySem.Spec PyProof.Rows L2 Uc Ud
section
variable {Pg : Program} {w : World} {K : PySem.W.Frag} {mg : Str → Option Value} {base : Heap} {f : Addr} {fd : FuncData}
theorem ok_checked_past (T : Says NN K mg) (Fn : FunD K "checked_past" "checked_past" (defArgs s_checked_past) (defBody s_checked_past) (defScope s_checked_past) [] [] f fd) (O_check_history : Ok Pg w K mg base "check_history" 5 ["book", "history"] (spD K (spT f_check_history))) (O_is_right : Ok Pg w K mg base "is_right" 7 ["book", "history"] (spD K (spT (f_is_right (w.params.followText "set-order"))))) : FnOk Pg w K mg base (L2.CX Pg w) 8 f fd ["book", "past"] (spD K (spT (f_checked_past (w.params.followText "set-order")))) :=
  okT (k := 7) (g := b_checked_past (w.params.followText "set-order")) (N := n_checked_past) (ps := ["book", "past"]) Fn sc_checked_past fun X h cdv A outer s H E hr hX => (db_cons (ds_thru (db_one (ds_set 2 sc_checked_past.nd (de_call O_check_history (hr.mono (by omega)) (da_cons (de_var 0) (da_cons (de_var 1) da_nil))))))
    (db_cons (ds_if (DW.dt (dw_or (dt_gt (de_len rfl (T.fr _ (by decide +kernel)) (da_cons (de_var 2) da_nil)) (de_gI (T.i ("MOST_PAST", 6) (by decide +kernel)))) (dw_or1 (dt_not (dt_val (de_call O_is_right (hr.mono (by omega)) (da_cons (de_var 0) (da_cons (de_var 2) da_nil)))))))) (db_one ds_stuck) db_nil)
    (db_one (ds_ret (de_var 2)))))
theorem ok_check_row (T : Says NN K mg) (Fn : FunD K "check_row" "check_row" (defArgs s_check_row) (defBody s_check_row) (defScope s_check_row) [] [] f fd) (O_is_row : Ok Pg w K mg base "is_row" 2 ["thing", "length"] (spD K (spT f_is_row))) (O_is_call : Ok Pg w K mg base "is_call" 3 ["calls", "thing"] (spD K (spT f_is_call))) (O_is_answer : Ok Pg w K mg base "is_answer" 3 ["thing"] (spD K (spT f_is_answer))) : FnOk Pg w K mg base (L2.CX Pg w) 4 f fd ["book", "hand", "row", "depth", "least"] (spD K (spT (f_check_row))) :=
  okT (k := 3) (g := b_check_row) (N := n_check_row) (ps := ["book", "hand", "row", "depth", "least"]) Fn sc_check_row fun X h cdv A outer s H E hr hX => (db_cons (ds_if (dt_not (dt_val (de_call O_is_row (hr.mono (by omega)) (da_cons (de_var 2) (da_cons de_int da_nil))))) (db_one ds_stuck) db_nil)
    (db_cons (ds_if (dt_gt (de_var 3) (de_gI (T.i ("MOST_DEPTH", 3) (by decide +kernel)))) (db_one ds_stuck) db_nil)
    (db_cons (ds_if (DW.dt (dw_or (dt_not (dt_val (de_call O_is_call (hr.mono (by omega)) (da_cons (de_fld (T.ff "calls" fl_calls (by decide +kernel) (by decide +kernel)) (de_var 0)) (da_cons (de_ix (de_var 2) de_int) da_nil))))) (dw_or1 (dt_lt (de_ix (de_var 2) de_int) (de_var 4))))) (db_one ds_stuck) db_nil)
    (db_one (ds_if (dt_not (dt_val (de_call O_is_answer (hr.mono (by omega)) (da_cons (de_ix (de_var 2) de_int) da_nil)))) (db_one ds_stuck) db_nil)))))
theorem ok_checked_script (T : Says NN K mg) (Fn : FunD K "checked_script" "checked_script" (defArgs s_checked_script) (defBody s_checked_script) (defScope s_checked_script) [] [] f fd) (g0 : mg "checked_script" = some (.ref f)) (O_is_sequence : Ok Pg w K mg base "is_sequence" 1 ["thing"] (spD K (spT f_is_sequence))) (O_check_row : Ok Pg w K mg base "check_row" 4 ["book", "hand", "row", "depth", "least"] (spD K (spT f_check_row))) : ∀ n, FnOk Pg w K mg base (L2.CX Pg w) (5 + n) f fd ["book", "hand", "script", "depth"] (spD K (spT (f_checked_script n)))
  | 0 => okNo
  | n + 1 => by
    have O_self : Ok Pg w K mg base "checked_script" (5 + n) ["book", "hand", "script", "depth"] (spD K (spT (f_checked_script n))) := ⟨⟨_, _, g0, Fn.kp, (Fn.bindsN fun _ _ _ _ _ _ us hl => match us, hl with | [_, _, _, _], _ => rfl), ok_checked_script T Fn g0 O_is_sequence O_check_row n⟩⟩
    exact okT (k := 5 + n) (g := b_checked_script (f_checked_script n)) (N := n_checked_script) (ps := ["book", "hand", "script", "depth"]) Fn sc_checked_script fun X h cdv A outer s H E hr hX => (db_cons (ds_if (dt_not (dt_val (de_call O_is_sequence (hr.mono (by omega)) (da_cons (de_var 2) da_nil)))) (db_one ds_stuck) db_nil)
    (db_cons (ds_own 4 sc_checked_script.nd (df_lst da_nil))
    (db_cons (ds_set 5 sc_checked_script.nd de_int)
    (db_cons (ds_for (passes_of rfl) (di_seq (de_var 2)) (tg_name 6 sc_checked_script.nd) (db_cons (ds_drop (de_call O_check_row (hr.mono (by omega)) (da_cons (de_var 0) (da_cons (de_var 1) (da_cons (de_var 6) (da_cons (de_var 3) (da_cons (de_var 5) da_nil)))))))
    (db_cons (ds_unp [7, 8, 9] sc_checked_script.nd (.cons rfl (by first | exact Or.inl rfl | exact Or.inr rfl) (by first | exact .inl rfl | exact .inr rfl) (.cons rfl (by first | exact Or.inl rfl | exact Or.inr rfl) (by first | exact .inl rfl | exact .inr rfl) (.cons rfl (by first | exact Or.inl rfl | exact Or.inr rfl) (by first | exact .inl rfl | exact .inr rfl) .nil))) (de_var 6))
    (db_cons (ds_app 4 (by exact (de_tup (da_cons (de_var 7) (da_cons (de_var 8) (da_cons (de_call O_self hr (da_cons (de_var 0) (da_cons (de_var 1) (da_cons (de_var 9) (da_cons (de_add (de_var 3) de_int) da_nil))))) da_nil))))))
    (db_one (ds_set 5 sc_checked_script.nd (de_add (de_var 7) de_int)))))))
    (db_give 4 (db_one (ds_ret (de_tuple rfl (T.fr _ (by decide +kernel)) (da_cons (de_var 4) da_nil)))))))))
theorem ok_check_scripts (T : Says NN K mg) (Fn : FunD K "check_scripts" "check_scripts" (defArgs s_check_scripts) (defBody s_check_scripts) (defScope s_check_scripts) [] [] f fd) (O_is_sequence : Ok Pg w K mg base "is_sequence" 1 ["thing"] (spD K (spT f_is_sequence))) (O_checked_script : Ok Pg w K mg base "checked_script" 8 ["book", "hand", "script", "depth"] (spD K (spT (f_checked_script 3)))) : FnOk Pg w K mg base (L2.CX Pg w) 9 f fd ["book", "scripts"] (spD K (spT (f_check_scripts))) :=
  okT (k := 8) (g := b_check_scripts) (N := n_check_scripts) (ps := ["book", "scripts"]) Fn sc_check_scripts fun X h cdv A outer s H E hr hX => (db_cons (ds_if (DW.dt (dw_or (dt_not (dt_val (de_call O_is_sequence (hr.mono (by omega)) (da_cons (de_var 1) da_nil)))) (dw_or1 (dt_not (dt_lele de_int (de_len rfl (T.fr _ (by decide +kernel)) (da_cons (de_var 1) da_nil)) (de_gI (T.i ("MOST_SCRIPTS", 3) (by decide +kernel)))))))) (db_one ds_stuck) db_nil)
    (db_one (ds_ret (de_tuple rfl (T.fr _ (by decide +kernel)) (da_cons (DF.de (df_lc (gt := gTup K 2 (gNames [2, 3])) sc_check_scripts.nd (own := [("hand", 2), ("script", 3)]) (blkOk_by (by show blkC n_check_scripts (defScope s_check_scripts) _ _ = true; decide +kernel)) rfl (di_enum (T.fr _ (by decide +kernel)) (de_var 1)) (fun s0 H0 C0 cl0 fp0 => (tgA [2, 3] sc_check_scripts.nd)) (dc_all (fun s0 H0 C0 cl0 fp0 => (de_call O_checked_script (hr.mono (by omega)) (da_cons (de_var 0) (da_cons (de_var 2) (da_cons (de_var 3) (da_cons de_int da_nil))))))))) da_nil)))))
end
end V95

set_option Elab.async false
set_option linter.all false
set_option maxRecDepth 100000
set_option maxHeartbeats 4000000
namespace V95
open PySem PySem.Spec PyProof.Rows L2 Uc Ud
section
variable {Pg : Program} {w : World} {K : PySem.W.Frag} {mg : Str → Option Value} {base : Heap} {f : Addr} {fd : FuncData}
theorem ok_turns_of (T : Says NN K mg) (Fn : FunD K "turns_of" "turns_of" (defArgs s_turns_of) (defBody s_turns_of) (defScope s_turns_of) [] [] f fd) (g0 : mg "turns_of" = some (.ref f))  : ∀ n, FnOk Pg w K mg base (L2.CX Pg w) (1 + n) f fd ["script"] (spD K (spT (f_turns_of n)))
  | 0 => okNo
  | n + 1 => by
    have O_self : Ok Pg w K mg base "turns_of" (1 + n) ["script"] (spD K (spT (f_turns_of n))) := ⟨⟨_, _, g0, Fn.kp, (Fn.bindsN fun _ _ _ _ _ _ us hl => match us, hl with | [_], _ => rfl), ok_turns_of T Fn g0  n⟩⟩
    exact okT (k := 1 + n) (g := b_turns_of (f_turns_of n)) (N := n_turns_of) (ps := ["script"]) Fn sc_turns_of fun X h cdv A outer s H E hr hX => (db_cons (ds_own 1 sc_turns_of.nd (df_lst (da_cons (de_tup da_nil) da_nil)))
    (db_cons (ds_for (passes_of rfl) (di_seq (de_var 0)) (tgA [2, 3, 4] sc_turns_of.nd) (db_one (ds_for (passes_of rfl) (di_seq (de_call O_self hr (da_cons (de_var 4) da_nil))) (tg_name 5 sc_turns_of.nd) (db_one (ds_app 1 (by exact (de_add (de_tup (da_cons (de_var 2) da_nil)) (de_var 5))))))))
    (db_give 1 (db_one (ds_ret (de_tuple rfl (T.fr _ (by decide +kernel)) (da_cons (de_var 1) da_nil)))))))
theorem ok_cut_count (T : Says NN K mg) (Fn : FunD K "cut_count" "cut_count" (defArgs s_cut_count) (defBody s_cut_count) (defScope s_cut_count) [] [] f fd) (O_turns_of : Ok Pg w K mg base "turns_of" 4 ["script"] (spD K (spT (f_turns_of 3)))) : FnOk Pg w K mg base (L2.CX Pg w) 5 f fd ["scripts"] (spD K (spT (f_cut_count))) :=
  okT (k := 4) (g := b_cut_count) (N := n_cut_count) (ps := ["scripts"]) Fn sc_cut_count fun X h cdv A outer s H E hr hX => (db_cons (ds_set 1 sc_cut_count.nd de_int)
    (db_cons (ds_for (passes_of rfl) (di_seq (de_var 0)) (tg_name 2 sc_cut_count.nd) (db_one (ds_set 1 sc_cut_count.nd (de_mul (de_var 1) (de_len rfl (T.fr _ (by decide +kernel)) (da_cons (de_call O_turns_of (hr.mono (by omega)) (da_cons (de_var 2) da_nil)) da_nil))))))
    (db_one (ds_ret (de_var 1)))))
theorem ok_Wish_init (T : Says NN K mg) (Fn : FunD K "__init__" "Wish.__init__" (defArgs s_Wish_init) (defBody s_Wish_init) (defScope s_Wish_init) [] [] f fd) (O_checked_past : Ok Pg w K mg base "checked_past" 8 ["book", "past"] (spD K (spT (f_checked_past (w.params.followText "set-order"))))) (O_check_scripts : Ok Pg w K mg base "check_scripts" 9 ["book", "scripts"] (spD K (spT f_check_scripts))) (O_cut_count : Ok Pg w K mg base "cut_count" 5 ["scripts"] (spD K (spT f_cut_count))) (C_Book : OkC Pg w K mg base "Book" 6 ["self", "states", "calls", "ways"] (i_Book)) : FnOk Pg w K mg base (L2.CX Pg w) 10 f fd ["self", "book", "past", "scripts"] (spMk K "Wish" (i_Wish (w.params.followText "set-order"))) :=
  okI (k := 9) (g := b_Wish_init (w.params.followText "set-order")) (N := n_Wish_init) (ps := ["self", "book", "past", "scripts"]) "Wish" Fn sc_Wish_init fun X h cdv A outer s H E so hr hX => (db_cons (ds_set 4 sc_Wish_init.nd (de_call O_checked_past (hr.mono (by omega)) (da_cons (de_var 1) (da_cons (de_var 2) da_nil))))
    (db_cons (ds_set 5 sc_Wish_init.nd (de_call O_check_scripts (hr.mono (by omega)) (da_cons (de_var 1) (da_cons (de_var 3) da_nil))))
    (db_cons (ds_if (dt_gt (de_call O_cut_count (hr.mono (by omega)) (da_cons (de_var 5) da_nil)) (de_gI (T.i ("MOST_CUTS", 200) (by decide +kernel)))) (db_one ds_stuck) db_nil)
    (db_cons (ds_attr so 0 (T.ff "book" fl_book (by decide +kernel) (by decide +kernel)) (de_new C_Book (hr.mono (by omega)) (da_cons (de_fld (T.ff "states" fl_states (by decide +kernel) (by decide +kernel)) (de_var 1)) (da_cons (de_fld (T.ff "calls" fl_calls (by decide +kernel) (by decide +kernel)) (de_var 1)) (da_cons (de_fld (T.ff "ways" fl_ways (by decide +kernel) (by decide +kernel)) (de_var 1)) da_nil)))))
    (db_cons (ds_attr so 0 (T.ff "past" fl_past (by decide +kernel) (by decide +kernel)) (de_var 4))
    (db_one (ds_attr so 0 (T.ff "scripts" fl_scripts (by decide +kernel) (by decide +kernel)) (de_var 5))))))))
theorem ok_l_wish (T : Says NN K mg) (Fn : FunD K "_law_wish" "_law_wish" (defArgs s_l_wish) (defBody s_l_wish) (defScope s_l_wish) [] [] f fd) (C_Book : OkC Pg w K mg base "Book" 6 ["self", "states", "calls", "ways"] (i_Book)) (C_Wish : OkC Pg w K mg base "Wish" 10 ["self", "book", "past", "scripts"] (i_Wish (w.params.followText "set-order"))) : FnOk Pg w K mg base (L2.CX Pg w) 12 f fd ["_law_a", "_law_b", "_law_c"] (spD K (spT (f_l_wish (w.params.followText "set-order")))) :=
  okT (k := 11) (g := b_l_wish (w.params.followText "set-order")) (N := n_l_wish) (ps := ["_law_a", "_law_b", "_law_c"]) Fn sc_l_wish fun X h cdv A outer s H E hr hX => (db_cons (ds_set 3 sc_l_wish.nd (de_new C_Book (hr.mono (by omega)) (da_cons de_int (da_cons de_int (da_cons (DF.de (df_lst (da_cons (de_tup (da_cons de_int (da_cons de_int (da_cons de_int (da_cons de_int da_nil))))) (da_cons (de_tup (da_cons de_int (da_cons de_int (da_cons (de_var 0) (da_cons de_int da_nil))))) da_nil)))) da_nil)))))
    (db_one (ds_ret (de_new C_Wish (hr.mono (by omega)) (da_cons (de_var 3) (da_cons (DF.de (df_lst (da_cons (de_tup (da_cons (de_var 1) (da_cons de_int (da_cons de_int da_nil)))) da_nil))) (da_cons (DF.de (df_lst (da_cons (DF.de (df_lst (da_cons (de_tup (da_cons de_int (da_cons (de_var 2) (da_cons (de_tup da_nil) da_nil)))) da_nil))) da_nil))) da_nil)))))))
end
end V95

set_option Elab.async false
set_option linter.all false
set_option maxRecDepth 100000
set_option maxHeartbeats 4000000
namespace V95
open PySem PySem.Spec PyProof.Rows L2 Uc Ud
section
variable {Pg : Program} {w : World} {K : PySem.W.Frag} {mg : Str → Option Value} {base : Heap} {f : Addr} {fd : FuncData}
theorem ok_check_frame (T : Says NN K mg) (Fn : FunD K "check_frame" "check_frame" (defArgs s_check_frame) (defBody s_check_frame) (defScope s_check_frame) [] [] f fd) (O_is_sequence : Ok Pg w K mg base "is_sequence" 1 ["thing"] (spD K (spT f_is_sequence))) (O_is_from : Ok Pg w K mg base "is_from" 2 ["thing", "low", "high"] (spD K (spT f_is_from))) (O_is_row : Ok Pg w K mg base "is_row" 2 ["thing", "length"] (spD K (spT f_is_row))) : FnOk Pg w K mg base (L2.CX Pg w) 3 f fd ["sizes", "rows"] (spD K (spT (f_check_frame))) :=
  okT (k := 2) (g := b_check_frame) (N := n_check_frame) (ps := ["sizes", "rows"]) Fn sc_check_frame fun X h cdv A outer s H E hr hX => (db_cons (ds_if (DW.dt (dw_or (dt_not (dt_val (de_call O_is_sequence (hr.mono (by omega)) (da_cons (de_var 0) da_nil)))) (dw_or1 (dt_not (dt_lele de_int (de_len rfl (T.fr _ (by decide +kernel)) (da_cons (de_var 0) da_nil)) (de_len rfl (T.fr _ (by decide +kernel)) (da_cons (de_gT (T.t _ (NN.mem_t 1))) da_nil))))))) (db_one ds_stuck) db_nil)
    (db_cons (ds_if (dt_not (dt_val (de_all rfl (T.fr _ (by decide +kernel)) rfl (da_cons (DF.de (df_lc sc_check_frame.nd (own := [("size", 4)]) (blkOk_by (by show blkC n_check_frame (defScope s_check_frame) _ _ = true; decide +kernel)) rfl (di_seq (de_var 0)) (fun s0 H0 C0 cl0 fp0 => (tg_name 4 sc_check_frame.nd)) (dc_all (fun s0 H0 C0 cl0 fp0 => (de_call O_is_from (hr.mono (by omega)) (da_cons (de_var 4) (da_cons de_int (da_cons (de_gI (T.i ("MOST_VALUES", 3) (by decide +kernel))) da_nil)))))))) da_nil)))) (db_one ds_stuck) db_nil)
    (db_cons (ds_if (dt_not (dt_val (de_call O_is_row (hr.mono (by omega)) (da_cons (de_var 1) (da_cons (de_gI (T.i ("HANDS", 4) (by decide +kernel))) da_nil))))) (db_one ds_stuck) db_nil)
    (db_one (ds_for (passes_of rfl) (di_enum (T.fr _ (by decide +kernel)) (de_var 1)) (tgA [2, 3] sc_check_frame.nd) (db_one (ds_if (DW.dt (dw_or (dt_not (dt_val (de_call O_is_sequence (hr.mono (by omega)) (da_cons (de_var 3) da_nil)))) (dw_or (dt_not (dt_lele de_int (de_len rfl (T.fr _ (by decide +kernel)) (da_cons (de_var 3) da_nil)) (de_gI (T.i ("MOST_CALLS", 4) (by decide +kernel))))) (dw_or1 (dt_ne hr (de_len rfl (T.fr _ (by decide +kernel)) (da_cons (de_var 3) da_nil)) (de_len rfl (T.fr _ (by decide +kernel)) (da_cons (de_ix (de_var 1) de_int) da_nil))))))) (db_one ds_stuck) db_nil)))))))
theorem ok_word_of (T : Says NN K mg) (Fn : FunD K "word_of" "word_of" (defArgs s_word_of) (defBody s_word_of) (defScope s_word_of) [] [] f fd) (O_is_sequence : Ok Pg w K mg base "is_sequence" 1 ["thing"] (spD K (spT f_is_sequence))) : FnOk Pg w K mg base (L2.CX Pg w) 2 f fd ["thing"] (spD K (spT (f_word_of))) :=
  okT (k := 1) (g := b_word_of) (N := n_word_of) (ps := ["thing"]) Fn sc_word_of fun X h cdv A outer s H E hr hX => (db_cons (ds_if (DW.dt (dw_or (dt_not (dt_val (de_call O_is_sequence (hr.mono (by omega)) (da_cons (de_var 0) da_nil)))) (dw_or (dt_eqX hr (de_len rfl (T.fr _ (by decide +kernel)) (da_cons (de_var 0) da_nil)) de_int) (dw_or1 (dt_not (dt_val (isiN T rfl (T.fr _ (by decide +kernel)) (de_ix (de_var 0) de_int) (.ty "str" (T.fr _ (by decide +kernel)) (by decide +kernel) .nil) (by decide +kernel)))))))) (db_one (ds_ret de_non)) db_nil)
    (db_one (ds_ret (de_ix (de_var 0) de_int))))
theorem ok_deed_word (T : Says NN K mg) (Fn : FunD K "deed_word" "deed_word" (defArgs s_deed_word) (defBody s_deed_word) (defScope s_deed_word) [] [] f fd) (K_DEEDS : KTbl K w (He.ga K "DEEDS") tb_DEEDS) (O_word_of : Ok Pg w K mg base "word_of" 2 ["thing"] (spD K (spT f_word_of))) (O_is_answer : Ok Pg w K mg base "is_answer" 3 ["thing"] (spD K (spT f_is_answer))) (O_is_from : Ok Pg w K mg base "is_from" 2 ["thing", "low", "high"] (spD K (spT f_is_from))) (O_is_row : Ok Pg w K mg base "is_row" 2 ["thing", "length"] (spD K (spT f_is_row))) : FnOk Pg w K mg base (L2.CX Pg w) 4 f fd ["sizes", "deed", "above"] (spD K (spT (f_deed_word))) :=
  okT (k := 3) (g := b_deed_word) (N := n_deed_word) (ps := ["sizes", "deed", "above"]) Fn sc_deed_word fun X h cdv A outer s H E hr hX => (db_cons (ds_if (DW.dt (dw_or (dt_notKd K_DEEDS (T.g _ (by decide +kernel)) (de_call O_word_of (hr.mono (by omega)) (da_cons (de_var 1) da_nil))) (dw_or1 (dt_ne hr (de_len rfl (T.fr _ (by decide +kernel)) (da_cons (de_var 1) da_nil)) (de_ixKd K_DEEDS (T.g _ (by decide +kernel)) (de_ix (de_var 1) de_int)))))) (db_one (ds_ret de_str)) db_nil)
    (db_cons (ds_if (dt_eqX hr (de_ix (de_var 1) de_int) de_str) (db_one (ds_ret (de_ifx (dt_val (de_call O_is_answer (hr.mono (by omega)) (da_cons (de_ix (de_var 1) de_int) da_nil))) de_non de_str))) db_nil)
    (db_cons (ds_if (dt_eqX hr (de_var 2) (de_gI (T.i ("MOST_TOUCHES", 5) (by decide +kernel)))) (db_one (ds_ret de_str)) db_nil)
    (db_cons (ds_if (dt_not (dt_val (de_call O_is_from (hr.mono (by omega)) (da_cons (de_ix (de_var 1) de_int) (da_cons de_int (da_cons (de_sub (de_len rfl (T.fr _ (by decide +kernel)) (da_cons (de_var 0) da_nil)) de_int) da_nil)))))) (db_one (ds_ret de_str)) db_nil)
    (db_cons (ds_set 3 sc_deed_word.nd (de_ix (de_var 0) (de_ix (de_var 1) de_int)))
    (db_cons (ds_if (dt_eqX hr (de_ix (de_var 1) de_int) de_str) (db_one (ds_ret (de_ifx (dt_val (de_call O_is_row (hr.mono (by omega)) (da_cons (de_ix (de_var 1) de_int) (da_cons (de_var 3) da_nil)))) de_non de_str))) db_nil)
    (db_one (ds_ret (de_ifx (dt_val (de_call O_is_from (hr.mono (by omega)) (da_cons (de_ix (de_var 1) de_int) (da_cons de_int (da_cons (de_sub (de_var 3) de_int) da_nil))))) de_non de_str)))))))))
theorem ok_checked_deed (T : Says NN K mg) (Fn : FunD K "checked_deed" "checked_deed" (defArgs s_checked_deed) (defBody s_checked_deed) (defScope s_checked_deed) [] [] f fd) (g0 : mg "checked_deed" = some (.ref f)) (O_deed_word : Ok Pg w K mg base "deed_word" 4 ["sizes", "deed", "above"] (spD K (spT f_deed_word))) : ∀ n, FnOk Pg w K mg base (L2.CX Pg w) (5 + n) f fd ["sizes", "hand", "call", "deed", "above"] (spD K (spT (f_checked_deed n)))
  | 0 => okNo
  | n + 1 => by
    have O_self : Ok Pg w K mg base "checked_deed" (5 + n) ["sizes", "hand", "call", "deed", "above"] (spD K (spT (f_checked_deed n))) := ⟨⟨_, _, g0, Fn.kp, (Fn.bindsN fun _ _ _ _ _ _ us hl => match us, hl with | [_, _, _, _, _], _ => rfl), ok_checked_deed T Fn g0 O_deed_word n⟩⟩
    exact okT (k := 5 + n) (g := b_checked_deed (f_checked_deed n)) (N := n_checked_deed) (ps := ["sizes", "hand", "call", "deed", "above"]) Fn sc_checked_deed fun X h cdv A outer s H E hr hX => (db_cons (ds_set 5 sc_checked_deed.nd (de_call O_deed_word (hr.mono (by omega)) (da_cons (de_var 0) (da_cons (de_var 3) (da_cons (de_var 4) da_nil)))))
    (db_cons (ds_if (dt_notN (de_var 5)) (db_one ds_stuck) db_nil)
    (db_cons (ds_if (dt_eqX hr (de_ix (de_var 3) de_int) de_str) (db_one (ds_ret (de_tuple rfl (T.fr _ (by decide +kernel)) (da_cons (de_var 3) da_nil)))) db_nil)
    (db_cons (ds_if (dt_eqX hr (de_ix (de_var 3) de_int) de_str) (db_cons (ds_setLc 6 sc_checked_deed.nd (own := [("lesser", 7)]) (blkOk_by (by show blkC n_checked_deed (defScope s_checked_deed) _ _ = true; decide +kernel)) rfl (di_seq (de_ix (de_var 3) de_int)) (fun s0 H0 C0 cl0 fp0 => (tg_name 7 sc_checked_deed.nd)) (dc_all (fun s0 H0 C0 cl0 fp0 => (de_call O_self hr (da_cons (de_var 0) (da_cons (de_var 1) (da_cons (de_var 2) (da_cons (de_var 7) (da_cons (de_add (de_var 4) de_int) da_nil)))))))))
    (db_one (ds_ret (de_tup (da_cons de_str (da_cons (de_ix (de_var 3) de_int) (da_cons (de_tuple rfl (T.fr _ (by decide +kernel)) (da_cons (de_var 6) da_nil)) da_nil))))))) db_nil)
    (db_one (ds_ret (de_tup (da_cons de_str (da_cons (de_ix (de_var 3) de_int) (da_cons (de_ix (de_var 3) de_int) (da_cons (de_call O_self hr (da_cons (de_var 0) (da_cons (de_var 1) (da_cons (de_var 2) (da_cons (de_ix (de_var 3) de_int) (da_cons (de_add (de_var 4) de_int) da_nil)))))) da_nil)))))))))))
end
end V95

set_option Elab.async false
set_option linter.all false
set_option maxRecDepth 100000
set_option maxHeartbeats 4000000
namespace V95
open PySem PySem.Spec PyProof.Rows L2 Uc Ud
section
variable {Pg : Program} {w : World} {K : PySem.W.Frag} {mg : Str → Option Value} {base : Heap} {f : Addr} {fd : FuncData}
theorem ok_Foreign_init (T : Says NN K mg) (Fn : FunD K "__init__" "Foreign.__init__" (defArgs s_Foreign_init) (defBody s_Foreign_init) (defScope s_Foreign_init) [] [] f fd) (O_check_frame : Ok Pg w K mg base "check_frame" 3 ["sizes", "rows"] (spD K (spT f_check_frame))) (O_checked_deed : Ok Pg w K mg base "checked_deed" 7 ["sizes", "hand", "call", "deed", "above"] (spD K (spT (f_checked_deed 2)))) : FnOk Pg w K mg base (L2.CX Pg w) 8 f fd ["self", "sizes", "rows"] (spMk K "Foreign" (i_Foreign)) :=
  okI (k := 7) (g := b_Foreign_init) (N := n_Foreign_init) (ps := ["self", "sizes", "rows"]) "Foreign" Fn sc_Foreign_init fun X h cdv A outer s H E so hr hX => (db_cons (ds_drop (de_call O_check_frame (hr.mono (by omega)) (da_cons (de_var 1) (da_cons (de_var 2) da_nil))))
    (db_cons (ds_own 3 sc_Foreign_init.nd (df_lst da_nil))
    (db_cons (ds_for (passes_of rfl) (di_enum (T.fr _ (by decide +kernel)) (de_var 2)) (tgA [4, 5] sc_Foreign_init.nd) (db_one (ds_app 3 (by exact (de_tuple rfl (T.fr _ (by decide +kernel)) (da_cons (DF.de (df_lc (gt := gTup K 2 (gNames [6, 7])) sc_Foreign_init.nd (own := [("call", 6), ("deed", 7)]) (blkOk_by (by show blkC n_Foreign_init (defScope s_Foreign_init) _ _ = true; decide +kernel)) rfl (di_enum (T.fr _ (by decide +kernel)) (de_var 5)) (fun s0 H0 C0 cl0 fp0 => (tgA [6, 7] sc_Foreign_init.nd)) (dc_all (fun s0 H0 C0 cl0 fp0 => (de_call O_checked_deed (hr.mono (by omega)) (da_cons (de_var 1) (da_cons (de_var 4) (da_cons (de_var 6) (da_cons (de_var 7) (da_cons de_int da_nil)))))))))) da_nil))))))
    (db_cons (ds_attr so 0 (T.ff "sizes" fl_sizes (by decide +kernel) (by decide +kernel)) (de_tuple rfl (T.fr _ (by decide +kernel)) (da_cons (de_var 1) da_nil)))
    (db_give 3 (db_cons (ds_attr so 0 (T.ff "rows" fl_rows (by decide +kernel) (by decide +kernel)) (de_tuple rfl (T.fr _ (by decide +kernel)) (da_cons (de_var 3) da_nil)))
    (db_one (ds_attr so 0 (T.ff "calls" fl_calls (by decide +kernel) (by decide +kernel)) (de_len rfl (T.fr _ (by decide +kernel)) (da_cons (de_ix (de_var 2) de_int) da_nil))))))))))
theorem ok_Barred_init (T : Says NN K mg) (Fn : FunD K "__init__" "Barred.__init__" (defArgs s_Barred_init) (defBody s_Barred_init) (defScope s_Barred_init) [] [] f fd)  : FnOk Pg w K mg base (L2.CX Pg w) 1 f fd ["self", "cut", "joint", "plan"] (spMk K "Barred" (i_Barred)) :=
  okI (k := 0) (g := b_Barred_init) (N := n_Barred_init) (ps := ["self", "cut", "joint", "plan"]) "Barred" Fn sc_Barred_init fun X h cdv A outer s H E so hr hX => (db_cons (ds_attr so 0 (T.ff "cut" fl_cut (by decide +kernel) (by decide +kernel)) (de_var 1))
    (db_cons (ds_attr so 0 (T.ff "joint" fl_joint (by decide +kernel) (by decide +kernel)) (de_var 2))
    (db_one (ds_attr so 0 (T.ff "plan" fl_plan (by decide +kernel) (by decide +kernel)) (de_var 3)))))
theorem ok_Run_init (T : Says NN K mg) (Fn : FunD K "__init__" "Run.__init__" (defArgs s_Run_init) (defBody s_Run_init) (defScope s_Run_init) [] [] f fd)  : FnOk Pg w K mg base (L2.CX Pg w) 1 f fd ["self", "entries", "marks", "cells"] (spMk K "Run" (i_Run)) :=
  okI (k := 0) (g := b_Run_init) (N := n_Run_init) (ps := ["self", "entries", "marks", "cells"]) "Run" Fn sc_Run_init fun X h cdv A outer s H E so hr hX => (db_cons (ds_attr so 0 (T.ff "entries" fl_entries (by decide +kernel) (by decide +kernel)) (de_var 1))
    (db_cons (ds_attr so 0 (T.ff "marks" fl_marks (by decide +kernel) (by decide +kernel)) (de_var 2))
    (db_one (ds_attr so 0 (T.ff "cells" fl_cells (by decide +kernel) (by decide +kernel)) (de_var 3)))))
theorem ok_Exchange_init (T : Says NN K mg) (Fn : FunD K "__init__" "Exchange.__init__" (defArgs s_Exchange_init) (defBody s_Exchange_init) (defScope s_Exchange_init) [] [] f fd)  : FnOk Pg w K mg base (L2.CX Pg w) 1 f fd ["self", "ahead", "behind", "meets"] (spMk K "Exchange" (i_Exchange)) :=
  okI (k := 0) (g := b_Exchange_init) (N := n_Exchange_init) (ps := ["self", "ahead", "behind", "meets"]) "Exchange" Fn sc_Exchange_init fun X h cdv A outer s H E so hr hX => (db_cons (ds_attr so 0 (T.ff "ahead" fl_ahead (by decide +kernel) (by decide +kernel)) (de_var 1))
    (db_cons (ds_attr so 0 (T.ff "behind" fl_behind (by decide +kernel) (by decide +kernel)) (de_var 2))
    (db_one (ds_attr so 0 (T.ff "meets" fl_meets (by decide +kernel) (by decide +kernel)) (de_var 3)))))
end
end V95

set_option Elab.async false
set_option linter.all false
set_option maxRecDepth 100000
set_option maxHeartbeats 4000000
namespace V95
open PySem PySem.Spec PyProof.Rows L2 Uc Ud
section
variable {Pg : Program} {w : World} {K : PySem.W.Frag} {mg : Str → Option Value} {base : Heap} {f : Addr} {fd : FuncData}
theorem ok_Past_init (T : Says NN K mg) (Fn : FunD K "__init__" "Past.__init__" (defArgs s_Past_init) (defBody s_Past_init) (defScope s_Past_init) [] [] f fd)  : FnOk Pg w K mg base (L2.CX Pg w) 1 f fd ["self", "index"] (spMk K "Past" (i_Past)) :=
  okI (k := 0) (g := b_Past_init) (N := n_Past_init) (ps := ["self", "index"]) "Past" Fn sc_Past_init fun X h cdv A outer s H E so hr hX => (db_one (ds_attr so 0 (T.ff "index" fl_index (by decide +kernel) (by decide +kernel)) (de_var 1)))
theorem ok_Unlike_init (T : Says NN K mg) (Fn : FunD K "__init__" "Unlike.__init__" (defArgs s_Unlike_init) (defBody s_Unlike_init) (defScope s_Unlike_init) [] [] f fd)  : FnOk Pg w K mg base (L2.CX Pg w) 1 f fd ["self", "cut", "hand", "call"] (spMk K "Unlike" (i_Unlike)) :=
  okI (k := 0) (g := b_Unlike_init) (N := n_Unlike_init) (ps := ["self", "cut", "hand", "call"]) "Unlike" Fn sc_Unlike_init fun X h cdv A outer s H E so hr hX => (db_cons (ds_attr so 0 (T.ff "cut" fl_cut (by decide +kernel) (by decide +kernel)) (de_var 1))
    (db_cons (ds_attr so 0 (T.ff "hand" fl_hand (by decide +kernel) (by decide +kernel)) (de_var 2))
    (db_one (ds_attr so 0 (T.ff "call" fl_call (by decide +kernel) (by decide +kernel)) (de_var 3)))))
theorem ok_l_first (T : Says NN K mg) (Fn : FunD K "_law_first" "_law_first" (defArgs s_l_first) (defBody s_l_first) (defScope s_l_first) [] [] f fd) (O_l_wish : Ok Pg w K mg base "_law_wish" 12 ["_law_a", "_law_b", "_law_c"] (spD K (spT (f_l_wish (w.params.followText "set-order"))))) (C_Foreign : OkC Pg w K mg base "Foreign" 8 ["self", "sizes", "rows"] (i_Foreign)) (C_Barred : OkC Pg w K mg base "Barred" 1 ["self", "cut", "joint", "plan"] (i_Barred)) (C_Run : OkC Pg w K mg base "Run" 1 ["self", "entries", "marks", "cells"] (i_Run)) (C_Exchange : OkC Pg w K mg base "Exchange" 1 ["self", "ahead", "behind", "meets"] (i_Exchange)) (C_Past : OkC Pg w K mg base "Past" 1 ["self", "index"] (i_Past)) (C_Unlike : OkC Pg w K mg base "Unlike" 1 ["self", "cut", "hand", "call"] (i_Unlike)) : FnOk Pg w K mg base (L2.CX Pg w) 13 f fd ["_law_which", "_law_n"] (spD K (spT (f_l_first (w.params.followText "set-order")))) :=
  okT (k := 12) (g := b_l_first (w.params.followText "set-order")) (N := n_l_first) (ps := ["_law_which", "_law_n"]) Fn sc_l_first fun X h cdv A outer s H E hr hX => (db_cons (ds_if (dt_eqX hr (de_var 0) de_int) (db_one (ds_ret (de_call O_l_wish (hr.mono (by omega)) (da_cons (de_ix (de_var 1) de_int) (da_cons (de_ix (de_var 1) de_int) (da_cons (de_ix (de_var 1) de_int) da_nil)))))) db_nil)
    (db_cons (ds_if (dt_eqX hr (de_var 0) de_int) (db_one (ds_ret (de_new C_Foreign (hr.mono (by omega)) (da_cons (de_tup (da_cons (de_add (de_ix (de_var 1) de_int) de_int) da_nil)) (da_cons (de_mul (DF.de (df_lst (da_cons (DF.de (df_lst (da_cons (de_tup (da_cons de_str (da_cons (de_ix (de_var 1) de_int) da_nil))) da_nil))) da_nil))) de_int) da_nil))))) db_nil)
    (db_cons (ds_if (dt_eqX hr (de_var 0) de_int) (db_one (ds_ret (de_new C_Barred (hr.mono (by omega)) (da_cons (de_tup (da_cons (de_tup (da_cons (de_ix (de_var 1) de_int) da_nil)) (da_cons (de_tup da_nil) da_nil))) (da_cons (de_tup (da_cons (de_tup (da_cons (de_ix (de_var 1) de_int) da_nil)) da_nil)) (da_cons (de_tup (da_cons (de_tup (da_cons (de_tup (da_cons (de_tup (da_cons de_int da_nil)) da_nil)) (da_cons (de_ix (de_var 1) de_int) da_nil))) da_nil)) da_nil)))))) db_nil)
    (db_cons (ds_if (dt_eqX hr (de_var 0) de_int) (db_one (ds_ret (de_new C_Run (hr.mono (by omega)) (da_cons (de_tup (da_cons (de_tup (da_cons (de_ix (de_var 1) de_int) (da_cons de_int (da_cons de_int da_nil)))) da_nil)) (da_cons (de_tup (da_cons (de_tup (da_cons (de_tup (da_cons de_str da_nil)) (da_cons (de_tup (da_cons (de_add de_str (de_strc rfl (T.fr _ (by decide +kernel)) (da_cons (de_ix (de_var 1) de_int) da_nil))) da_nil)) da_nil))) da_nil)) (da_cons (de_disp1 de_str (de_ix (de_var 1) de_int)) da_nil)))))) db_nil)
    (db_cons (ds_if (dt_eqX hr (de_var 0) de_int) (db_one (ds_ret (de_new C_Exchange (hr.mono (by omega)) (da_cons (de_tup (da_cons de_int (da_cons de_int (da_cons (de_disp1 de_str (de_ix (de_var 1) de_int)) da_nil)))) (da_cons (de_tup (da_cons de_int (da_cons (de_ix (de_var 1) de_int) (da_cons (de_disp1 de_str de_int) da_nil)))) (da_cons (de_ix (DF.de (df_lst (da_cons de_non (da_cons de_str (da_cons de_str da_nil))))) (de_ix (de_var 1) de_int)) da_nil)))))) db_nil)
    (db_cons (ds_if (dt_eqX hr (de_var 0) de_int) (db_one (ds_ret (de_new C_Past (hr.mono (by omega)) (da_cons (de_ix (de_var 1) de_int) da_nil)))) db_nil)
    (db_one (ds_ret (de_new C_Unlike (hr.mono (by omega)) (da_cons (de_tup (da_cons (de_tup (da_cons (de_ix (de_var 1) de_int) da_nil)) (da_cons (de_tup da_nil) da_nil))) (da_cons (de_ix (de_var 1) de_int) (da_cons (de_ix (de_var 1) de_int) da_nil))))))))))))
theorem ok_Meets_init (T : Says NN K mg) (Fn : FunD K "__init__" "Meets.__init__" (defArgs s_Meets_init) (defBody s_Meets_init) (defScope s_Meets_init) [] [] f fd)  : FnOk Pg w K mg base (L2.CX Pg w) 1 f fd ["self", "cut", "one", "other", "cell"] (spMk K "Meets" (i_Meets)) :=
  okI (k := 0) (g := b_Meets_init) (N := n_Meets_init) (ps := ["self", "cut", "one", "other", "cell"]) "Meets" Fn sc_Meets_init fun X h cdv A outer s H E so hr hX => (db_cons (ds_attr so 0 (T.ff "cut" fl_cut (by decide +kernel) (by decide +kernel)) (de_var 1))
    (db_cons (ds_attr so 0 (T.ff "one" fl_one (by decide +kernel) (by decide +kernel)) (de_var 2))
    (db_cons (ds_attr so 0 (T.ff "other" fl_other (by decide +kernel) (by decide +kernel)) (de_var 3))
    (db_one (ds_attr so 0 (T.ff "cell" fl_cell (by decide +kernel) (by decide +kernel)) (de_var 4))))))
end
end V95

set_option Elab.async false
set_option linter.all false
set_option maxRecDepth 100000
set_option maxHeartbeats 4000000
namespace V95
open PySem PySem.Spec PyProof.Rows L2 Uc Ud
section
variable {Pg : Program} {w : World} {K : PySem.W.Frag} {mg : Str → Option Value} {base : Heap} {f : Addr} {fd : FuncData}
theorem ok_Clash_init (T : Says NN K mg) (Fn : FunD K "__init__" "Clash.__init__" (defArgs s_Clash_init) (defBody s_Clash_init) (defScope s_Clash_init) [] [] f fd)  : FnOk Pg w K mg base (L2.CX Pg w) 1 f fd ["self", "cut", "heads", "what", "trail"] (spMk K "Clash" (i_Clash)) :=
  okI (k := 0) (g := b_Clash_init) (N := n_Clash_init) (ps := ["self", "cut", "heads", "what", "trail"]) "Clash" Fn sc_Clash_init fun X h cdv A outer s H E so hr hX => (db_cons (ds_attr so 0 (T.ff "cut" fl_cut (by decide +kernel) (by decide +kernel)) (de_var 1))
    (db_cons (ds_attr so 0 (T.ff "heads" fl_heads (by decide +kernel) (by decide +kernel)) (de_var 2))
    (db_cons (ds_attr so 0 (T.ff "what" fl_what (by decide +kernel) (by decide +kernel)) (de_var 3))
    (db_one (ds_attr so 0 (T.ff "trail" fl_trail (by decide +kernel) (by decide +kernel)) (de_var 4))))))
theorem ok_BarredStretch_init (T : Says NN K mg) (Fn : FunD K "__init__" "BarredStretch.__init__" (defArgs s_BarredStretch_init) (defBody s_BarredStretch_init) (defScope s_BarredStretch_init) [] [] f fd)  : FnOk Pg w K mg base (L2.CX Pg w) 1 f fd ["self", "stretch", "counts", "joint", "plan"] (spMk K "BarredStretch" (i_BarredStretch)) :=
  okI (k := 0) (g := b_BarredStretch_init) (N := n_BarredStretch_init) (ps := ["self", "stretch", "counts", "joint", "plan"]) "BarredStretch" Fn sc_BarredStretch_init fun X h cdv A outer s H E so hr hX => (db_cons (ds_attr so 0 (T.ff "stretch" fl_stretch (by decide +kernel) (by decide +kernel)) (de_var 1))
    (db_cons (ds_attr so 0 (T.ff "counts" fl_counts (by decide +kernel) (by decide +kernel)) (de_var 2))
    (db_cons (ds_attr so 0 (T.ff "joint" fl_joint (by decide +kernel) (by decide +kernel)) (de_var 3))
    (db_one (ds_attr so 0 (T.ff "plan" fl_plan (by decide +kernel) (by decide +kernel)) (de_var 4))))))
theorem ok_Parting_init (T : Says NN K mg) (Fn : FunD K "__init__" "Parting.__init__" (defArgs s_Parting_init) (defBody s_Parting_init) (defScope s_Parting_init) [] [] f fd)  : FnOk Pg w K mg base (L2.CX Pg w) 1 f fd ["self", "seams", "joints"] (spMk K "Parting" (i_Parting)) :=
  okI (k := 0) (g := b_Parting_init) (N := n_Parting_init) (ps := ["self", "seams", "joints"]) "Parting" Fn sc_Parting_init fun X h cdv A outer s H E so hr hX => (db_cons (ds_attr so 0 (T.ff "seams" fl_seams (by decide +kernel) (by decide +kernel)) (de_var 1))
    (db_one (ds_attr so 0 (T.ff "joints" fl_joints (by decide +kernel) (by decide +kernel)) (de_var 2))))
theorem ok_Needless_init (T : Says NN K mg) (Fn : FunD K "__init__" "Needless.__init__" (defArgs s_Needless_init) (defBody s_Needless_init) (defScope s_Needless_init) [] [] f fd)  : FnOk Pg w K mg base (L2.CX Pg w) 1 f fd ["self", "way"] (spMk K "Needless" (i_Needless)) :=
  okI (k := 0) (g := b_Needless_init) (N := n_Needless_init) (ps := ["self", "way"]) "Needless" Fn sc_Needless_init fun X h cdv A outer s H E so hr hX => (db_one (ds_attr so 0 (T.ff "way" fl_way (by decide +kernel) (by decide +kernel)) (de_var 1)))
end
end V95

set_option Elab.async false
set_option linter.all false
set_option maxRecDepth 100000
set_option maxHeartbeats 4000000
namespace V95
open PySem PySem.Spec PyProof.Rows L2 Uc Ud
section
variable {Pg : Program} {w : World} {K : PySem.W.Frag} {mg : Str → Option Value} {base : Heap} {f : Addr} {fd : FuncData}
theorem ok_Trial_init (T : Says NN K mg) (Fn : FunD K "__init__" "Trial.__init__" (defArgs s_Trial_init) (defBody s_Trial_init) (defScope s_Trial_init) [] [] f fd)  : FnOk Pg w K mg base (L2.CX Pg w) 1 f fd ["self", "wish", "met", "won", "lost"] (spMk K "Trial" (i_Trial)) :=
  okI (k := 0) (g := b_Trial_init) (N := n_Trial_init) (ps := ["self", "wish", "met", "won", "lost"]) "Trial" Fn sc_Trial_init fun X h cdv A outer s H E so hr hX => (db_cons (ds_attr so 0 (T.ff "wish" fl_wish (by decide +kernel) (by decide +kernel)) (de_var 1))
    (db_cons (ds_attr so 0 (T.ff "met" fl_met (by decide +kernel) (by decide +kernel)) (de_var 2))
    (db_cons (ds_attr so 0 (T.ff "won" fl_won (by decide +kernel) (by decide +kernel)) (de_var 3))
    (db_one (ds_attr so 0 (T.ff "lost" fl_lost (by decide +kernel) (by decide +kernel)) (de_var 4))))))
theorem ok_l_second (T : Says NN K mg) (Fn : FunD K "_law_second" "_law_second" (defArgs s_l_second) (defBody s_l_second) (defScope s_l_second) [] [] f fd) (C_Meets : OkC Pg w K mg base "Meets" 1 ["self", "cut", "one", "other", "cell"] (i_Meets)) (C_Clash : OkC Pg w K mg base "Clash" 1 ["self", "cut", "heads", "what", "trail"] (i_Clash)) (C_BarredStretch : OkC Pg w K mg base "BarredStretch" 1 ["self", "stretch", "counts", "joint", "plan"] (i_BarredStretch)) (C_Parting : OkC Pg w K mg base "Parting" 1 ["self", "seams", "joints"] (i_Parting)) (C_Needless : OkC Pg w K mg base "Needless" 1 ["self", "way"] (i_Needless)) (O_l_wish : Ok Pg w K mg base "_law_wish" 12 ["_law_a", "_law_b", "_law_c"] (spD K (spT (f_l_wish (w.params.followText "set-order"))))) (C_Trial : OkC Pg w K mg base "Trial" 1 ["self", "wish", "met", "won", "lost"] (i_Trial)) : FnOk Pg w K mg base (L2.CX Pg w) 13 f fd ["_law_which", "_law_n"] (spD K (spT (f_l_second (w.params.followText "set-order")))) :=
  okT (k := 12) (g := b_l_second (w.params.followText "set-order")) (N := n_l_second) (ps := ["_law_which", "_law_n"]) Fn sc_l_second fun X h cdv A outer s H E hr hX => (db_cons (ds_if (dt_eqX hr (de_var 0) de_int) (db_one (ds_ret (de_new C_Meets (hr.mono (by omega)) (da_cons (de_tup (da_cons (de_tup (da_cons (de_ix (de_var 1) de_int) da_nil)) (da_cons (de_tup da_nil) da_nil))) (da_cons (de_tup (da_cons de_int (da_cons (de_ix (de_var 1) de_int) da_nil))) (da_cons (de_tup (da_cons de_int (da_cons (de_ix (de_var 1) de_int) da_nil))) (da_cons (de_add de_str (de_strc rfl (T.fr _ (by decide +kernel)) (da_cons (de_ix (de_var 1) de_int) da_nil))) da_nil))))))) db_nil)
    (db_cons (ds_if (dt_eqX hr (de_var 0) de_int) (db_one (ds_ret (de_new C_Clash (hr.mono (by omega)) (da_cons (de_tup (da_cons (de_tup (da_cons (de_ix (de_var 1) de_int) da_nil)) (da_cons (de_tup da_nil) da_nil))) (da_cons (de_tup (da_cons (de_tup (da_cons de_int (da_cons de_int (da_cons (de_ix (de_var 1) de_int) da_nil)))) da_nil)) (da_cons (de_ix (DF.de (df_lst (da_cons de_str (da_cons de_str (da_cons de_str da_nil))))) (de_ix (de_var 1) de_int)) (da_cons (de_tup (da_cons (de_tup (da_cons de_int (da_cons (de_ix (de_var 1) de_int) da_nil))) da_nil)) da_nil))))))) db_nil)
    (db_cons (ds_if (dt_eqX hr (de_var 0) de_int) (db_one (ds_ret (de_new C_BarredStretch (hr.mono (by omega)) (da_cons (de_ix (de_var 1) de_int) (da_cons (de_tup (da_cons (de_ix (de_var 1) de_int) da_nil)) (da_cons (de_tup (da_cons (de_tup (da_cons (de_ix (de_var 1) de_int) da_nil)) da_nil)) (da_cons (de_tup (da_cons (de_tup (da_cons (de_tup (da_cons (de_tup (da_cons de_int da_nil)) da_nil)) (da_cons (de_ix (de_var 1) de_int) da_nil))) da_nil)) da_nil))))))) db_nil)
    (db_cons (ds_if (dt_eqX hr (de_var 0) de_int) (db_one (ds_ret (de_new C_Parting (hr.mono (by omega)) (da_cons (de_tup (da_cons (de_add de_int (de_ix (de_var 1) de_int)) da_nil)) (da_cons (de_tup (da_cons (de_tup (da_cons (de_tup (da_cons (de_ix (de_var 1) de_int) da_nil)) da_nil)) da_nil)) da_nil))))) db_nil)
    (db_cons (ds_if (dt_eqX hr (de_var 0) de_int) (db_one (ds_ret (de_new C_Needless (hr.mono (by omega)) (da_cons (de_tup (da_cons (de_ix (de_var 1) de_int) (da_cons de_int (da_cons de_int (da_cons de_int da_nil))))) da_nil)))) db_nil)
    (db_one (ds_ret (de_new C_Trial (hr.mono (by omega)) (da_cons (de_call O_l_wish (hr.mono (by omega)) (da_cons (de_ix (de_var 1) de_int) (da_cons de_int (da_cons de_int da_nil)))) (da_cons (de_tup (da_cons (de_ix (de_var 1) de_int) da_nil)) (da_cons (de_tup (da_cons (de_ix (de_var 1) de_int) da_nil)) (da_cons (de_tup (da_cons (de_ix (de_var 1) de_int) da_nil)) da_nil))))))))))))
theorem ok_l_made (T : Says NN K mg) (Fn : FunD K "_law_made" "_law_made" (defArgs s_l_made) (defBody s_l_made) (defScope s_l_made) [] [] f fd) (O_l_first : Ok Pg w K mg base "_law_first" 13 ["_law_which", "_law_n"] (spD K (spT (f_l_first (w.params.followText "set-order"))))) (O_l_second : Ok Pg w K mg base "_law_second" 13 ["_law_which", "_law_n"] (spD K (spT (f_l_second (w.params.followText "set-order"))))) : FnOk Pg w K mg base (L2.CX Pg w) 14 f fd ["_law_which", "_law_n"] (spD K (spT (f_l_made (w.params.followText "set-order")))) :=
  okT (k := 13) (g := b_l_made (w.params.followText "set-order")) (N := n_l_made) (ps := ["_law_which", "_law_n"]) Fn sc_l_made fun X h cdv A outer s H E hr hX => (db_one (ds_ret (de_ifx (dt_lt (de_var 0) de_int) (de_call O_l_first (hr.mono (by omega)) (da_cons (de_var 0) (da_cons (de_var 1) da_nil))) (de_call O_l_second (hr.mono (by omega)) (da_cons (de_var 0) (da_cons (de_var 1) da_nil))))))
theorem ok_Book_eq (T : Says NN K mg) (Fn : FunD K "__eq__" "Book.__eq__" (defArgs s_Book_eq) (defBody s_Book_eq) (defScope s_Book_eq) [] [] f fd)  : FnOk Pg w K mg base (L2.CX Pg w) 1 f fd ["self", "other"] (spD K (spT (m_Book_eq))) :=
  okT (k := 0) (g := b_Book_eq) (N := n_Book_eq) (ps := ["self", "other"]) Fn sc_Book_eq fun X h cdv A outer s H E hr hX => (db_one (ds_ret (de_and (isiN T rfl (T.fr _ (by decide +kernel)) (de_var 1) (.own (T.g _ (by decide +kernel)) .nil) (by decide +kernel)) (de_and (de_eqX hr (de_fld (T.ff "states" fl_states (by decide +kernel) (by decide +kernel)) (de_var 0)) (de_fld (T.ff "states" fl_states (by decide +kernel) (by decide +kernel)) (de_var 1))) (de_and (de_eqX hr (de_fld (T.ff "calls" fl_calls (by decide +kernel) (by decide +kernel)) (de_var 0)) (de_fld (T.ff "calls" fl_calls (by decide +kernel) (by decide +kernel)) (de_var 1))) (de_one (de_eqX hr (de_fld (T.ff "ways" fl_ways (by decide +kernel) (by decide +kernel)) (de_var 0)) (de_fld (T.ff "ways" fl_ways (by decide +kernel) (by decide +kernel)) (de_var 1)))))))))
end
end V95

set_option Elab.async false
set_option linter.all false
set_option maxRecDepth 100000
set_option maxHeartbeats 4000000
namespace V95
open PySem PySem.Spec PyProof.Rows L2 Uc Ud
section
variable {Pg : Program} {w : World} {K : PySem.W.Frag} {mg : Str → Option Value} {base : Heap} {f : Addr} {fd : FuncData}
theorem ok_Wish_eq (T : Says NN K mg) (Fn : FunD K "__eq__" "Wish.__eq__" (defArgs s_Wish_eq) (defBody s_Wish_eq) (defScope s_Wish_eq) [] [] f fd) (Q_ : EqD Pg w K mg base NN.cs 1 eqs_Wish_eq) : FnOk Pg w K mg base (L2.CX Pg w) 4 f fd ["self", "other"] (spD K (spT (m_Wish_eq))) :=
  okT (k := 3) (g := b_Wish_eq) (N := n_Wish_eq) (ps := ["self", "other"]) Fn sc_Wish_eq fun X h cdv A outer s H E hr hX => (db_one (ds_ret (de_and (isiN T rfl (T.fr _ (by decide +kernel)) (de_var 1) (.own (T.g _ (by decide +kernel)) .nil) (by decide +kernel)) (de_and (de_eqO (Q_.tabN T) (hr.mono (by omega)) (de_fld (T.ff "book" fl_book (by decide +kernel) (by decide +kernel)) (de_var 0)) (de_fld (T.ff "book" fl_book (by decide +kernel) (by decide +kernel)) (de_var 1))) (de_and (de_eqO (Q_.tabN T) (hr.mono (by omega)) (de_fld (T.ff "past" fl_past (by decide +kernel) (by decide +kernel)) (de_var 0)) (de_fld (T.ff "past" fl_past (by decide +kernel) (by decide +kernel)) (de_var 1))) (de_one (de_eqO (Q_.tabN T) (hr.mono (by omega)) (de_fld (T.ff "scripts" fl_scripts (by decide +kernel) (by decide +kernel)) (de_var 0)) (de_fld (T.ff "scripts" fl_scripts (by decide +kernel) (by decide +kernel)) (de_var 1)))))))))
theorem ok_Barred_eq (T : Says NN K mg) (Fn : FunD K "__eq__" "Barred.__eq__" (defArgs s_Barred_eq) (defBody s_Barred_eq) (defScope s_Barred_eq) [] [] f fd)  : FnOk Pg w K mg base (L2.CX Pg w) 1 f fd ["self", "other"] (spD K (spT (m_Barred_eq))) :=
  okT (k := 0) (g := b_Barred_eq) (N := n_Barred_eq) (ps := ["self", "other"]) Fn sc_Barred_eq fun X h cdv A outer s H E hr hX => (db_one (ds_ret (de_and (isiN T rfl (T.fr _ (by decide +kernel)) (de_var 1) (.own (T.g _ (by decide +kernel)) .nil) (by decide +kernel)) (de_and (de_eqX hr (de_fld (T.ff "cut" fl_cut (by decide +kernel) (by decide +kernel)) (de_var 0)) (de_fld (T.ff "cut" fl_cut (by decide +kernel) (by decide +kernel)) (de_var 1))) (de_and (de_eqX hr (de_fld (T.ff "joint" fl_joint (by decide +kernel) (by decide +kernel)) (de_var 0)) (de_fld (T.ff "joint" fl_joint (by decide +kernel) (by decide +kernel)) (de_var 1))) (de_one (de_eqX hr (de_fld (T.ff "plan" fl_plan (by decide +kernel) (by decide +kernel)) (de_var 0)) (de_fld (T.ff "plan" fl_plan (by decide +kernel) (by decide +kernel)) (de_var 1)))))))))
theorem ok_BarredStretch_eq (T : Says NN K mg) (Fn : FunD K "__eq__" "BarredStretch.__eq__" (defArgs s_BarredStretch_eq) (defBody s_BarredStretch_eq) (defScope s_BarredStretch_eq) [] [] f fd)  : FnOk Pg w K mg base (L2.CX Pg w) 1 f fd ["self", "other"] (spD K (spT (m_BarredStretch_eq))) :=
  okT (k := 0) (g := b_BarredStretch_eq) (N := n_BarredStretch_eq) (ps := ["self", "other"]) Fn sc_BarredStretch_eq fun X h cdv A outer s H E hr hX => (db_one (ds_ret (de_and (isiN T rfl (T.fr _ (by decide +kernel)) (de_var 1) (.own (T.g _ (by decide +kernel)) .nil) (by decide +kernel)) (de_and (de_eqX hr (de_fld (T.ff "stretch" fl_stretch (by decide +kernel) (by decide +kernel)) (de_var 0)) (de_fld (T.ff "stretch" fl_stretch (by decide +kernel) (by decide +kernel)) (de_var 1))) (de_and (de_eqX hr (de_fld (T.ff "counts" fl_counts (by decide +kernel) (by decide +kernel)) (de_var 0)) (de_fld (T.ff "counts" fl_counts (by decide +kernel) (by decide +kernel)) (de_var 1))) (de_and (de_eqX hr (de_fld (T.ff "joint" fl_joint (by decide +kernel) (by decide +kernel)) (de_var 0)) (de_fld (T.ff "joint" fl_joint (by decide +kernel) (by decide +kernel)) (de_var 1))) (de_one (de_eqX hr (de_fld (T.ff "plan" fl_plan (by decide +kernel) (by decide +kernel)) (de_var 0)) (de_fld (T.ff "plan" fl_plan (by decide +kernel) (by decide +kernel)) (de_var 1))))))))))
theorem ok_Parting_eq (T : Says NN K mg) (Fn : FunD K "__eq__" "Parting.__eq__" (defArgs s_Parting_eq) (defBody s_Parting_eq) (defScope s_Parting_eq) [] [] f fd)  : FnOk Pg w K mg base (L2.CX Pg w) 1 f fd ["self", "other"] (spD K (spT (m_Parting_eq))) :=
  okT (k := 0) (g := b_Parting_eq) (N := n_Parting_eq) (ps := ["self", "other"]) Fn sc_Parting_eq fun X h cdv A outer s H E hr hX => (db_one (ds_ret (de_and (isiN T rfl (T.fr _ (by decide +kernel)) (de_var 1) (.own (T.g _ (by decide +kernel)) .nil) (by decide +kernel)) (de_and (de_eqX hr (de_fld (T.ff "seams" fl_seams (by decide +kernel) (by decide +kernel)) (de_var 0)) (de_fld (T.ff "seams" fl_seams (by decide +kernel) (by decide +kernel)) (de_var 1))) (de_one (de_eqX hr (de_fld (T.ff "joints" fl_joints (by decide +kernel) (by decide +kernel)) (de_var 0)) (de_fld (T.ff "joints" fl_joints (by decide +kernel) (by decide +kernel)) (de_var 1))))))))
end
end V95

set_option Elab.async false
set_option linter.all false
set_option maxRecDepth 100000
set_option maxHeartbeats 4000000
namespace V95
open PySem PySem.Spec PyProof.Rows L2 Uc Ud
section
variable {Pg : Program} {w : World} {K : PySem.W.Frag} {mg : Str → Option Value} {base : Heap} {f : Addr} {fd : FuncData}
theorem ok_Trial_eq (T : Says NN K mg) (Fn : FunD K "__eq__" "Trial.__eq__" (defArgs s_Trial_eq) (defBody s_Trial_eq) (defScope s_Trial_eq) [] [] f fd) (Q_ : EqD Pg w K mg base NN.cs 4 eqs_Trial_eq) : FnOk Pg w K mg base (L2.CX Pg w) 7 f fd ["self", "other"] (spD K (spT (m_Trial_eq))) :=
  okT (k := 6) (g := b_Trial_eq) (N := n_Trial_eq) (ps := ["self", "other"]) Fn sc_Trial_eq fun X h cdv A outer s H E hr hX => (db_one (ds_ret (de_and (isiN T rfl (T.fr _ (by decide +kernel)) (de_var 1) (.own (T.g _ (by decide +kernel)) .nil) (by decide +kernel)) (de_and (de_eqO (Q_.tabN T) (hr.mono (by omega)) (de_fld (T.ff "wish" fl_wish (by decide +kernel) (by decide +kernel)) (de_var 0)) (de_fld (T.ff "wish" fl_wish (by decide +kernel) (by decide +kernel)) (de_var 1))) (de_and (de_eqO (Q_.tabN T) (hr.mono (by omega)) (de_fld (T.ff "met" fl_met (by decide +kernel) (by decide +kernel)) (de_var 0)) (de_fld (T.ff "met" fl_met (by decide +kernel) (by decide +kernel)) (de_var 1))) (de_and (de_eqO (Q_.tabN T) (hr.mono (by omega)) (de_fld (T.ff "won" fl_won (by decide +kernel) (by decide +kernel)) (de_var 0)) (de_fld (T.ff "won" fl_won (by decide +kernel) (by decide +kernel)) (de_var 1))) (de_one (de_eqO (Q_.tabN T) (hr.mono (by omega)) (de_fld (T.ff "lost" fl_lost (by decide +kernel) (by decide +kernel)) (de_var 0)) (de_fld (T.ff "lost" fl_lost (by decide +kernel) (by decide +kernel)) (de_var 1))))))))))
theorem ok_Run_eq (T : Says NN K mg) (Fn : FunD K "__eq__" "Run.__eq__" (defArgs s_Run_eq) (defBody s_Run_eq) (defScope s_Run_eq) [] [] f fd)  : FnOk Pg w K mg base (L2.CX Pg w) 1 f fd ["self", "other"] (spD K (spT (m_Run_eq))) :=
  okT (k := 0) (g := b_Run_eq) (N := n_Run_eq) (ps := ["self", "other"]) Fn sc_Run_eq fun X h cdv A outer s H E hr hX => (db_one (ds_ret (de_and (isiN T rfl (T.fr _ (by decide +kernel)) (de_var 1) (.own (T.g _ (by decide +kernel)) .nil) (by decide +kernel)) (de_and (de_eqX hr (de_fld (T.ff "entries" fl_entries (by decide +kernel) (by decide +kernel)) (de_var 0)) (de_fld (T.ff "entries" fl_entries (by decide +kernel) (by decide +kernel)) (de_var 1))) (de_and (de_eqX hr (de_fld (T.ff "marks" fl_marks (by decide +kernel) (by decide +kernel)) (de_var 0)) (de_fld (T.ff "marks" fl_marks (by decide +kernel) (by decide +kernel)) (de_var 1))) (de_one (de_eqX hr (de_fld (T.ff "cells" fl_cells (by decide +kernel) (by decide +kernel)) (de_var 0)) (de_fld (T.ff "cells" fl_cells (by decide +kernel) (by decide +kernel)) (de_var 1)))))))))
theorem ok_Foreign_eq (T : Says NN K mg) (Fn : FunD K "__eq__" "Foreign.__eq__" (defArgs s_Foreign_eq) (defBody s_Foreign_eq) (defScope s_Foreign_eq) [] [] f fd)  : FnOk Pg w K mg base (L2.CX Pg w) 1 f fd ["self", "other"] (spD K (spT (m_Foreign_eq))) :=
  okT (k := 0) (g := b_Foreign_eq) (N := n_Foreign_eq) (ps := ["self", "other"]) Fn sc_Foreign_eq fun X h cdv A outer s H E hr hX => (db_one (ds_ret (de_and (isiN T rfl (T.fr _ (by decide +kernel)) (de_var 1) (.own (T.g _ (by decide +kernel)) .nil) (by decide +kernel)) (de_and (de_eqX hr (de_fld (T.ff "sizes" fl_sizes (by decide +kernel) (by decide +kernel)) (de_var 0)) (de_fld (T.ff "sizes" fl_sizes (by decide +kernel) (by decide +kernel)) (de_var 1))) (de_one (de_eqX hr (de_fld (T.ff "rows" fl_rows (by decide +kernel) (by decide +kernel)) (de_var 0)) (de_fld (T.ff "rows" fl_rows (by decide +kernel) (by decide +kernel)) (de_var 1))))))))
theorem ok_Clash_eq (T : Says NN K mg) (Fn : FunD K "__eq__" "Clash.__eq__" (defArgs s_Clash_eq) (defBody s_Clash_eq) (defScope s_Clash_eq) [] [] f fd)  : FnOk Pg w K mg base (L2.CX Pg w) 1 f fd ["self", "other"] (spD K (spT (m_Clash_eq))) :=
  okT (k := 0) (g := b_Clash_eq) (N := n_Clash_eq) (ps := ["self", "other"]) Fn sc_Clash_eq fun X h cdv A outer s H E hr hX => (db_one (ds_ret (de_and (isiN T rfl (T.fr _ (by decide +kernel)) (de_var 1) (.own (T.g _ (by decide +kernel)) .nil) (by decide +kernel)) (de_and (de_eqX hr (de_fld (T.ff "cut" fl_cut (by decide +kernel) (by decide +kernel)) (de_var 0)) (de_fld (T.ff "cut" fl_cut (by decide +kernel) (by decide +kernel)) (de_var 1))) (de_and (de_eqX hr (de_fld (T.ff "heads" fl_heads (by decide +kernel) (by decide +kernel)) (de_var 0)) (de_fld (T.ff "heads" fl_heads (by decide +kernel) (by decide +kernel)) (de_var 1))) (de_and (de_eqX hr (de_fld (T.ff "what" fl_what (by decide +kernel) (by decide +kernel)) (de_var 0)) (de_fld (T.ff "what" fl_what (by decide +kernel) (by decide +kernel)) (de_var 1))) (de_one (de_eqX hr (de_fld (T.ff "trail" fl_trail (by decide +kernel) (by decide +kernel)) (de_var 0)) (de_fld (T.ff "trail" fl_trail (by decide +kernel) (by decide +kernel)) (de_var 1))))))))))
end
end V95

set_option Elab.async false
set_option linter.all false
set_option maxRecDepth 100000
set_option maxHeartbeats 4000000
namespace V95
open PySem PySem.Spec PyProof.Rows L2 Uc Ud
section
variable {Pg : Program} {w : World} {K : PySem.W.Frag} {mg : Str → Option Value} {base : Heap} {f : Addr} {fd : FuncData}
theorem ok_Past_eq (T : Says NN K mg) (Fn : FunD K "__eq__" "Past.__eq__" (defArgs s_Past_eq) (defBody s_Past_eq) (defScope s_Past_eq) [] [] f fd)  : FnOk Pg w K mg base (L2.CX Pg w) 1 f fd ["self", "other"] (spD K (spT (m_Past_eq))) :=
  okT (k := 0) (g := b_Past_eq) (N := n_Past_eq) (ps := ["self", "other"]) Fn sc_Past_eq fun X h cdv A outer s H E hr hX => (db_one (ds_ret (de_and (isiN T rfl (T.fr _ (by decide +kernel)) (de_var 1) (.own (T.g _ (by decide +kernel)) .nil) (by decide +kernel)) (de_one (de_eqX hr (de_fld (T.ff "index" fl_index (by decide +kernel) (by decide +kernel)) (de_var 0)) (de_fld (T.ff "index" fl_index (by decide +kernel) (by decide +kernel)) (de_var 1)))))))
theorem ok_Unlike_eq (T : Says NN K mg) (Fn : FunD K "__eq__" "Unlike.__eq__" (defArgs s_Unlike_eq) (defBody s_Unlike_eq) (defScope s_Unlike_eq) [] [] f fd)  : FnOk Pg w K mg base (L2.CX Pg w) 1 f fd ["self", "other"] (spD K (spT (m_Unlike_eq))) :=
  okT (k := 0) (g := b_Unlike_eq) (N := n_Unlike_eq) (ps := ["self", "other"]) Fn sc_Unlike_eq fun X h cdv A outer s H E hr hX => (db_one (ds_ret (de_and (isiN T rfl (T.fr _ (by decide +kernel)) (de_var 1) (.own (T.g _ (by decide +kernel)) .nil) (by decide +kernel)) (de_and (de_eqX hr (de_fld (T.ff "cut" fl_cut (by decide +kernel) (by decide +kernel)) (de_var 0)) (de_fld (T.ff "cut" fl_cut (by decide +kernel) (by decide +kernel)) (de_var 1))) (de_and (de_eqX hr (de_fld (T.ff "hand" fl_hand (by decide +kernel) (by decide +kernel)) (de_var 0)) (de_fld (T.ff "hand" fl_hand (by decide +kernel) (by decide +kernel)) (de_var 1))) (de_one (de_eqX hr (de_fld (T.ff "call" fl_call (by decide +kernel) (by decide +kernel)) (de_var 0)) (de_fld (T.ff "call" fl_call (by decide +kernel) (by decide +kernel)) (de_var 1)))))))))
theorem ok_Meets_eq (T : Says NN K mg) (Fn : FunD K "__eq__" "Meets.__eq__" (defArgs s_Meets_eq) (defBody s_Meets_eq) (defScope s_Meets_eq) [] [] f fd)  : FnOk Pg w K mg base (L2.CX Pg w) 1 f fd ["self", "other"] (spD K (spT (m_Meets_eq))) :=
  okT (k := 0) (g := b_Meets_eq) (N := n_Meets_eq) (ps := ["self", "other"]) Fn sc_Meets_eq fun X h cdv A outer s H E hr hX => (db_one (ds_ret (de_and (isiN T rfl (T.fr _ (by decide +kernel)) (de_var 1) (.own (T.g _ (by decide +kernel)) .nil) (by decide +kernel)) (de_and (de_eqX hr (de_fld (T.ff "cut" fl_cut (by decide +kernel) (by decide +kernel)) (de_var 0)) (de_fld (T.ff "cut" fl_cut (by decide +kernel) (by decide +kernel)) (de_var 1))) (de_and (de_eqX hr (de_fld (T.ff "one" fl_one (by decide +kernel) (by decide +kernel)) (de_var 0)) (de_fld (T.ff "one" fl_one (by decide +kernel) (by decide +kernel)) (de_var 1))) (de_and (de_eqX hr (de_fld (T.ff "other" fl_other (by decide +kernel) (by decide +kernel)) (de_var 0)) (de_fld (T.ff "other" fl_other (by decide +kernel) (by decide +kernel)) (de_var 1))) (de_one (de_eqX hr (de_fld (T.ff "cell" fl_cell (by decide +kernel) (by decide +kernel)) (de_var 0)) (de_fld (T.ff "cell" fl_cell (by decide +kernel) (by decide +kernel)) (de_var 1))))))))))
theorem ok_Needless_eq (T : Says NN K mg) (Fn : FunD K "__eq__" "Needless.__eq__" (defArgs s_Needless_eq) (defBody s_Needless_eq) (defScope s_Needless_eq) [] [] f fd)  : FnOk Pg w K mg base (L2.CX Pg w) 1 f fd ["self", "other"] (spD K (spT (m_Needless_eq))) :=
  okT (k := 0) (g := b_Needless_eq) (N := n_Needless_eq) (ps := ["self", "other"]) Fn sc_Needless_eq fun X h cdv A outer s H E hr hX => (db_one (ds_ret (de_and (isiN T rfl (T.fr _ (by decide +kernel)) (de_var 1) (.own (T.g _ (by decide +kernel)) .nil) (by decide +kernel)) (de_one (de_eqX hr (de_fld (T.ff "way" fl_way (by decide +kernel) (by decide +kernel)) (de_var 0)) (de_fld (T.ff "way" fl_way (by decide +kernel) (by decide +kernel)) (de_var 1)))))))
end
end V95

set_option Elab.async false
set_option linter.all false
set_option maxRecDepth 100000
set_option maxHeartbeats 4000000
namespace V95
open PySem PySem.Spec PyProof.Rows L2 Uc Ud
section
variable {Pg : Program} {w : World} {K : PySem.W.Frag} {mg : Str → Option Value} {base : Heap} {f : Addr} {fd : FuncData}
theorem ok_Exchange_eq (T : Says NN K mg) (Fn : FunD K "__eq__" "Exchange.__eq__" (defArgs s_Exchange_eq) (defBody s_Exchange_eq) (defScope s_Exchange_eq) [] [] f fd)  : FnOk Pg w K mg base (L2.CX Pg w) 1 f fd ["self", "other"] (spD K (spT (m_Exchange_eq))) :=
  okT (k := 0) (g := b_Exchange_eq) (N := n_Exchange_eq) (ps := ["self", "other"]) Fn sc_Exchange_eq fun X h cdv A outer s H E hr hX => (db_one (ds_ret (de_and (isiN T rfl (T.fr _ (by decide +kernel)) (de_var 1) (.own (T.g _ (by decide +kernel)) .nil) (by decide +kernel)) (de_and (de_eqX hr (de_fld (T.ff "ahead" fl_ahead (by decide +kernel) (by decide +kernel)) (de_var 0)) (de_fld (T.ff "ahead" fl_ahead (by decide +kernel) (by decide +kernel)) (de_var 1))) (de_and (de_eqX hr (de_fld (T.ff "behind" fl_behind (by decide +kernel) (by decide +kernel)) (de_var 0)) (de_fld (T.ff "behind" fl_behind (by decide +kernel) (by decide +kernel)) (de_var 1))) (de_one (de_eqX hr (de_fld (T.ff "meets" fl_meets (by decide +kernel) (by decide +kernel)) (de_var 0)) (de_fld (T.ff "meets" fl_meets (by decide +kernel) (by decide +kernel)) (de_var 1)))))))))
theorem ok_l_compared (T : Says NN K mg) (Fn : FunD K "_law_compared" "_law_compared" (defArgs s_l_compared) (defBody s_l_compared) (defScope s_l_compared) [] [] f fd) (Q_ : EqD Pg w K mg base NN.cs 7 eqs_l_compared) : FnOk Pg w K mg base (L2.CX Pg w) 10 f fd ["_law_one", "_law_other", "_law_same"] (spD K (spT (f_l_compared))) :=
  okT (k := 9) (g := b_l_compared) (N := n_l_compared) (ps := ["_law_one", "_law_other", "_law_same"]) Fn sc_l_compared fun X h cdv A outer s H E hr hX => (db_cons (ds_if (DW.dt (dw_or (dt_neO (Q_.tabN T) (hr.mono (by omega)) (de_eqO (Q_.tabN T) (hr.mono (by omega)) (de_var 0) (de_var 1)) (de_var 2)) (dw_or1 (dt_neO (Q_.tabN T) (hr.mono (by omega)) (de_eqO (Q_.tabN T) (hr.mono (by omega)) (de_var 1) (de_var 0)) (de_var 2))))) (db_one (ds_ret de_bl)) db_nil)
    (db_one (ds_ret (de_and (de_neO (Q_.tabN T) (hr.mono (by omega)) (de_neO (Q_.tabN T) (hr.mono (by omega)) (de_var 0) (de_var 1)) (de_var 2)) (de_one (de_neO (Q_.tabN T) (hr.mono (by omega)) (de_neO (Q_.tabN T) (hr.mono (by omega)) (de_var 1) (de_var 0)) (de_var 2)))))))
theorem ok_law (T : Says NN K mg) (Fn : FunD K "law" "law" (defArgs s_law) (defBody s_law) (defScope s_law) [] [] f fd) (O_l_draw : Ok Pg w K mg base "_law_draw" 2 ["_law_hand_here", "_law_many"] (spD K (spTH f_l_draw))) (O_l_made : Ok Pg w K mg base "_law_made" 14 ["_law_which", "_law_n"] (spD K (spT (f_l_made (w.params.followText "set-order"))))) (O_l_compared : Ok Pg w K mg base "_law_compared" 10 ["_law_one", "_law_other", "_law_same"] (spD K (spT f_l_compared))) (Q_ : EqD Pg w K mg base NN.cs 7 eqs_law) (H_ : HandF Pg w K mg base) : FnOk Pg w K mg base (L2.CX Pg w) 15 f fd ["_law_script"] (spD K (spL (spT (f_law (w.params.followText "set-order"))))) :=
  okL (k := 14) (g := b_law (w.params.followText "set-order")) (N := n_law) (ps := ["_law_script"]) Fn sc_law fun X cdv A outer s H E hr hX => (db_hand (mk := lawHd) (fun _ _ _ => ⟨rfl, rfl⟩) 1 sc_law.nd H_.F (hr.mono (by omega)) H_.g H_.k H_.b (de_var 0) fun p0 l0 c0 => by have li := lawIs p0 l0 c0; exact (db_cons (ds_set 2 sc_law.nd (DF.de (df_lst (da_cons de_int (da_cons de_int (da_cons de_int (da_cons de_int (da_cons de_int (da_cons de_int (da_cons de_int (da_cons de_int (da_cons de_int (da_cons de_int (da_cons de_int (da_cons de_int (da_cons de_int da_nil))))))))))))))))
    (db_cons (ds_own 3 sc_law.nd (df_lst da_nil))
    (db_cons (ds_for (passes_of rfl) (di_rng1 (T.fr _ (by decide +kernel)) de_int) (tg_name 4 sc_law.nd) (db_cons (ds_setLc 6 sc_law.nd (own := [("_law_k", 5)]) (blkOk_by (by show blkC n_law (defScope s_law) _ _ = true; decide +kernel)) rfl (di_rng1 (T.fr _ (by decide +kernel)) de_int) (fun s0 H0 C0 cl0 fp0 => (tg_name 5 sc_law.nd)) (dc_all (fun s0 H0 C0 cl0 fp0 => (de_callH 1 li O_l_draw (hr.mono (by omega)) (da_cons de_int da_nil)))))
    (db_cons (ds_set 7 sc_law.nd (de_call O_l_made (hr.mono (by omega)) (da_cons (de_var 4) (da_cons (de_var 6) da_nil))))
    (db_cons (ds_if (dt_not (dt_val (de_call O_l_compared (hr.mono (by omega)) (da_cons (de_var 7) (da_cons (de_call O_l_made (hr.mono (by omega)) (da_cons (de_var 4) (da_cons (DF.de (df_list rfl (T.fr _ (by decide +kernel)) (da_cons (de_var 6) da_nil))) da_nil))) (da_cons de_bl da_nil)))))) (db_one (ds_ret de_bl)) db_nil)
    (db_cons (ds_for (passes_of rfl) (di_rng1 (T.fr _ (by decide +kernel)) (de_ix (de_var 2) (de_var 4))) (tg_name 8 sc_law.nd) (db_cons (ds_own 9 sc_law.nd (df_list rfl (T.fr _ (by decide +kernel)) (da_cons (de_var 6) da_nil)))
    (db_cons (ds_put 9 (de_mod (de_intc rfl (T.fr _ (by decide +kernel)) (da_cons (de_add (de_add (de_ix (de_var 6) (de_var 8)) de_int) (de_callH 1 li O_l_draw (hr.mono (by omega)) (da_cons de_int da_nil))) da_nil)) de_int) (de_var 8))
    (db_give 9 (db_one (ds_if (dt_not (dt_val (de_call O_l_compared (hr.mono (by omega)) (da_cons (de_var 7) (da_cons (de_call O_l_made (hr.mono (by omega)) (da_cons (de_var 4) (da_cons (de_var 9) da_nil))) (da_cons de_bl da_nil)))))) (db_one (ds_ret de_bl)) db_nil))))))
    (db_cons (ds_if (DW.dt (dw_or (dt_eqO (Q_.tabN T) (hr.mono (by omega)) (de_var 7) de_int) (dw_or (dt_eqO (Q_.tabN T) (hr.mono (by omega)) (de_var 7) de_str) (dw_or1 (dt_eqO (Q_.tabN T) (hr.mono (by omega)) (de_var 7) (de_var 6)))))) (db_one (ds_ret de_bl)) db_nil)
    (db_one (ds_app 3 (by exact (de_var 7))))))))))
    (db_give 3 (db_cons (ds_for (passes_of rfl) (di_rng1 (T.fr _ (by decide +kernel)) de_int) (tg_name 5 sc_law.nd) (db_give 3 (db_one (ds_for (passes_of rfl) (di_rng1 (T.fr _ (by decide +kernel)) de_int) (tg_name 10 sc_law.nd) (db_give 3 (db_one (ds_if (dt_not (dt_val (de_call O_l_compared (hr.mono (by omega)) (da_cons (de_ix (de_var 3) (de_var 5)) (da_cons (de_ix (de_var 3) (de_var 10)) (da_cons (de_eqO (Q_.tabN T) (hr.mono (by omega)) (de_var 5) (de_var 10)) da_nil)))))) (db_one (ds_ret de_bl)) db_nil)))))))
    (db_one (ds_ret de_bl))))))))
end
end V95

set_option Elab.async false
set_option linter.all false
set_option maxRecDepth 100000
set_option maxHeartbeats 4000000
namespace V95
open PySem PySem.Spec PyProof.Rows L2 Uc Ud
theorem ob_eq (s : PySem.W.SharedT) : ob s = hk.obs s.abs := obsL_eq (HandSHeadRun.getT_eq s)
theorem facts {Pg : Program} {w : World} {h : Heap} {mg : Str → Option Value} {fa : Addr} {K : PySem.W.Frag} (X : K.In h) (G : h.Ns mainGlobals mg) (hfa : mg ("law" : Str) = some (.ref fa)) (c : SaysW NN.B fn ts w K) :
    ∃ fd : FuncData, (∀ (s : Shared) (v : Value), BindsTo s fd ⟨[v], []⟩ [("_law_script", v)]) ∧ ∀ base : Heap, K.In base → base.Ns mainGlobals mg → FnOk Pg w K mg base (L2.CX Pg w) 15 fa fd ["_law_script"] (spD K (spL (spT (f_law (w.params.followText "set-order"))))) := by
  have T : Says NN K mg := says_of X G c.u.b
  have K_DEEDS : KTbl K w (He.ga K "DEEDS") tb_DEEDS := ktbl_of (c.tab 0) (T.tb ("DEEDS", tb_DEEDS) (show (("DEEDS" : PySem.Str), tb_DEEDS) ∈ NN.tbls from List.getElem_mem (show 0 < NN.tbls.length by decide)))
  obtain ⟨fd_l_hand, F_l_hand⟩ := c.u.d.def_ 0 (d := d_l_hand) rfl
  have g_l_hand : mg "_law_hand" = some (.ref (He.ga K "_law_hand")) := T.g _ (by decide +kernel)
  obtain ⟨fd_l_mix, F_l_mix⟩ := c.u.d.def_ 1 (d := d_l_mix) rfl
  have g_l_mix : mg "_law_mix" = some (.ref (He.ga K "_law_mix")) := T.g _ (by decide +kernel)
  obtain ⟨fd_l_draw, F_l_draw⟩ := c.u.d.def_ 2 (d := d_l_draw) rfl
  have g_l_draw : mg "_law_draw" = some (.ref (He.ga K "_law_draw")) := T.g _ (by decide +kernel)
  obtain ⟨fd_is_whole, F_is_whole⟩ := c.u.d.def_ 3 (d := d_is_whole) rfl
  have g_is_whole : mg "is_whole" = some (.ref (He.ga K "is_whole")) := T.g _ (by decide +kernel)
  obtain ⟨fd_is_from, F_is_from⟩ := c.u.d.def_ 4 (d := d_is_from) rfl
  have g_is_from : mg "is_from" = some (.ref (He.ga K "is_from")) := T.g _ (by decide +kernel)
  obtain ⟨fd_is_sequence, F_is_sequence⟩ := c.u.d.def_ 5 (d := d_is_sequence) rfl
  have g_is_sequence : mg "is_sequence" = some (.ref (He.ga K "is_sequence")) := T.g _ (by decide +kernel)
  obtain ⟨fd_is_row, F_is_row⟩ := c.u.d.def_ 6 (d := d_is_row) rfl
  have g_is_row : mg "is_row" = some (.ref (He.ga K "is_row")) := T.g _ (by decide +kernel)
  obtain ⟨fd_is_call, F_is_call⟩ := c.u.d.def_ 7 (d := d_is_call) rfl
  have g_is_call : mg "is_call" = some (.ref (He.ga K "is_call")) := T.g _ (by decide +kernel)
  obtain ⟨fd_is_answer, F_is_answer⟩ := c.u.d.def_ 8 (d := d_is_answer) rfl
  have g_is_answer : mg "is_answer" = some (.ref (He.ga K "is_answer")) := T.g _ (by decide +kernel)
  obtain ⟨fd_is_way, F_is_way⟩ := c.u.d.def_ 9 (d := d_is_way) rfl
  have g_is_way : mg "is_way" = some (.ref (He.ga K "is_way")) := T.g _ (by decide +kernel)
  obtain ⟨fd_checked_ways, F_checked_ways⟩ := c.u.d.def_ 10 (d := d_checked_ways) rfl
  have g_checked_ways : mg "checked_ways" = some (.ref (He.ga K "checked_ways")) := T.g _ (by decide +kernel)
  obtain ⟨fd_ends_table, F_ends_table⟩ := c.u.d.def_ 11 (d := d_ends_table) rfl
  have g_ends_table : mg "ends_table" = some (.ref (He.ga K "ends_table")) := T.g _ (by decide +kernel)
  obtain ⟨fd_Book_init, F_Book_init⟩ := c.u.d.def_ 12 (d := d_Book_init) rfl
  obtain ⟨fd_is_entry, F_is_entry⟩ := c.u.d.def_ 13 (d := d_is_entry) rfl
  have g_is_entry : mg "is_entry" = some (.ref (He.ga K "is_entry")) := T.g _ (by decide +kernel)
  obtain ⟨fd_check_history, F_check_history⟩ := c.u.d.def_ 14 (d := d_check_history) rfl
  have g_check_history : mg "check_history" = some (.ref (He.ga K "check_history")) := T.g _ (by decide +kernel)
  obtain ⟨fd_Book_ends_from, F_Book_ends_from⟩ := c.u.d.def_ 15 (d := d_Book_ends_from) rfl
  obtain ⟨fd_standing_behind, F_standing_behind⟩ := c.u.d.def_ 16 (d := d_standing_behind) rfl
  have g_standing_behind : mg "standing_behind" = some (.ref (He.ga K "standing_behind")) := T.g _ (by decide +kernel)
  obtain ⟨fd_calls_of, F_calls_of⟩ := c.u.d.def_ 17 (d := d_calls_of) rfl
  have g_calls_of : mg "calls_of" = some (.ref (He.ga K "calls_of")) := T.g _ (by decide +kernel)
  obtain ⟨fd_standing_of, F_standing_of⟩ := c.u.d.def_ 18 (d := d_standing_of) rfl
  have g_standing_of : mg "standing_of" = some (.ref (He.ga K "standing_of")) := T.g _ (by decide +kernel)
  obtain ⟨fd_is_right, F_is_right⟩ := c.u.d.def_ 19 (d := d_is_right) rfl
  have g_is_right : mg "is_right" = some (.ref (He.ga K "is_right")) := T.g _ (by decide +kernel)
  obtain ⟨fd_checked_past, F_checked_past⟩ := c.u.d.def_ 20 (d := d_checked_past) rfl
  have g_checked_past : mg "checked_past" = some (.ref (He.ga K "checked_past")) := T.g _ (by decide +kernel)
  obtain ⟨fd_check_row, F_check_row⟩ := c.u.d.def_ 21 (d := d_check_row) rfl
  have g_check_row : mg "check_row" = some (.ref (He.ga K "check_row")) := T.g _ (by decide +kernel)
  obtain ⟨fd_checked_script, F_checked_script⟩ := c.u.d.def_ 22 (d := d_checked_script) rfl
  have g_checked_script : mg "checked_script" = some (.ref (He.ga K "checked_script")) := T.g _ (by decide +kernel)
  obtain ⟨fd_check_scripts, F_check_scripts⟩ := c.u.d.def_ 23 (d := d_check_scripts) rfl
  have g_check_scripts : mg "check_scripts" = some (.ref (He.ga K "check_scripts")) := T.g _ (by decide +kernel)
  obtain ⟨fd_turns_of, F_turns_of⟩ := c.u.d.def_ 24 (d := d_turns_of) rfl
  have g_turns_of : mg "turns_of" = some (.ref (He.ga K "turns_of")) := T.g _ (by decide +kernel)
  obtain ⟨fd_cut_count, F_cut_count⟩ := c.u.d.def_ 25 (d := d_cut_count) rfl
  have g_cut_count : mg "cut_count" = some (.ref (He.ga K "cut_count")) := T.g _ (by decide +kernel)
  obtain ⟨fd_Wish_init, F_Wish_init⟩ := c.u.d.def_ 26 (d := d_Wish_init) rfl
  obtain ⟨fd_l_wish, F_l_wish⟩ := c.u.d.def_ 27 (d := d_l_wish) rfl
  have g_l_wish : mg "_law_wish" = some (.ref (He.ga K "_law_wish")) := T.g _ (by decide +kernel)
  obtain ⟨fd_check_frame, F_check_frame⟩ := c.u.d.def_ 28 (d := d_check_frame) rfl
  have g_check_frame : mg "check_frame" = some (.ref (He.ga K "check_frame")) := T.g _ (by decide +kernel)
  obtain ⟨fd_word_of, F_word_of⟩ := c.u.d.def_ 29 (d := d_word_of) rfl
  have g_word_of : mg "word_of" = some (.ref (He.ga K "word_of")) := T.g _ (by decide +kernel)
  obtain ⟨fd_deed_word, F_deed_word⟩ := c.u.d.def_ 30 (d := d_deed_word) rfl
  have g_deed_word : mg "deed_word" = some (.ref (He.ga K "deed_word")) := T.g _ (by decide +kernel)
  obtain ⟨fd_checked_deed, F_checked_deed⟩ := c.u.d.def_ 31 (d := d_checked_deed) rfl
  have g_checked_deed : mg "checked_deed" = some (.ref (He.ga K "checked_deed")) := T.g _ (by decide +kernel)
  obtain ⟨fd_Foreign_init, F_Foreign_init⟩ := c.u.d.def_ 32 (d := d_Foreign_init) rfl
  obtain ⟨fd_Barred_init, F_Barred_init⟩ := c.u.d.def_ 33 (d := d_Barred_init) rfl
  obtain ⟨fd_Run_init, F_Run_init⟩ := c.u.d.def_ 34 (d := d_Run_init) rfl
  obtain ⟨fd_Exchange_init, F_Exchange_init⟩ := c.u.d.def_ 35 (d := d_Exchange_init) rfl
  obtain ⟨fd_Past_init, F_Past_init⟩ := c.u.d.def_ 36 (d := d_Past_init) rfl
  obtain ⟨fd_Unlike_init, F_Unlike_init⟩ := c.u.d.def_ 37 (d := d_Unlike_init) rfl
  obtain ⟨fd_l_first, F_l_first⟩ := c.u.d.def_ 38 (d := d_l_first) rfl
  have g_l_first : mg "_law_first" = some (.ref (He.ga K "_law_first")) := T.g _ (by decide +kernel)
  obtain ⟨fd_Meets_init, F_Meets_init⟩ := c.u.d.def_ 39 (d := d_Meets_init) rfl
  obtain ⟨fd_Clash_init, F_Clash_init⟩ := c.u.d.def_ 40 (d := d_Clash_init) rfl
  obtain ⟨fd_BarredStretch_init, F_BarredStretch_init⟩ := c.u.d.def_ 41 (d := d_BarredStretch_init) rfl
  obtain ⟨fd_Parting_init, F_Parting_init⟩ := c.u.d.def_ 42 (d := d_Parting_init) rfl
  obtain ⟨fd_Needless_init, F_Needless_init⟩ := c.u.d.def_ 43 (d := d_Needless_init) rfl
  obtain ⟨fd_Trial_init, F_Trial_init⟩ := c.u.d.def_ 44 (d := d_Trial_init) rfl
  obtain ⟨fd_l_second, F_l_second⟩ := c.u.d.def_ 45 (d := d_l_second) rfl
  have g_l_second : mg "_law_second" = some (.ref (He.ga K "_law_second")) := T.g _ (by decide +kernel)
  obtain ⟨fd_l_made, F_l_made⟩ := c.u.d.def_ 46 (d := d_l_made) rfl
  have g_l_made : mg "_law_made" = some (.ref (He.ga K "_law_made")) := T.g _ (by decide +kernel)
  obtain ⟨fd_Book_eq, F_Book_eq⟩ := c.u.d.def_ 47 (d := d_Book_eq) rfl
  obtain ⟨fd_Wish_eq, F_Wish_eq⟩ := c.u.d.def_ 48 (d := d_Wish_eq) rfl
  obtain ⟨fd_Barred_eq, F_Barred_eq⟩ := c.u.d.def_ 49 (d := d_Barred_eq) rfl
  obtain ⟨fd_BarredStretch_eq, F_BarredStretch_eq⟩ := c.u.d.def_ 50 (d := d_BarredStretch_eq) rfl
  obtain ⟨fd_Parting_eq, F_Parting_eq⟩ := c.u.d.def_ 51 (d := d_Parting_eq) rfl
  obtain ⟨fd_Trial_eq, F_Trial_eq⟩ := c.u.d.def_ 52 (d := d_Trial_eq) rfl
  obtain ⟨fd_Run_eq, F_Run_eq⟩ := c.u.d.def_ 53 (d := d_Run_eq) rfl
  obtain ⟨fd_Foreign_eq, F_Foreign_eq⟩ := c.u.d.def_ 54 (d := d_Foreign_eq) rfl
  obtain ⟨fd_Clash_eq, F_Clash_eq⟩ := c.u.d.def_ 55 (d := d_Clash_eq) rfl
  obtain ⟨fd_Past_eq, F_Past_eq⟩ := c.u.d.def_ 56 (d := d_Past_eq) rfl
  obtain ⟨fd_Unlike_eq, F_Unlike_eq⟩ := c.u.d.def_ 57 (d := d_Unlike_eq) rfl
  obtain ⟨fd_Meets_eq, F_Meets_eq⟩ := c.u.d.def_ 58 (d := d_Meets_eq) rfl
  obtain ⟨fd_Needless_eq, F_Needless_eq⟩ := c.u.d.def_ 59 (d := d_Needless_eq) rfl
  obtain ⟨fd_Exchange_eq, F_Exchange_eq⟩ := c.u.d.def_ 60 (d := d_Exchange_eq) rfl
  obtain ⟨fd_l_compared, F_l_compared⟩ := c.u.d.def_ 61 (d := d_l_compared) rfl
  have g_l_compared : mg "_law_compared" = some (.ref (He.ga K "_law_compared")) := T.g _ (by decide +kernel)
  obtain ⟨fd_law, F_law⟩ := c.u.d.def_ 62 (d := d_law) rfl
  have g_law : mg "law" = some (.ref (He.ga K "law")) := T.g _ (by decide +kernel)
  have e := hfa.symm.trans (T.g "law" (by decide +kernel))
  cases e
  have b := FunD.bindsA (ps := ["_law_script"]) F_law fun _ _ _ _ _ _ us hl => match us, hl with | [_], _ => rfl
  refine ⟨fd_law, fun s v => b s [v] rfl, fun base _ _ => ?_⟩
  have O_l_draw : Ok Pg w K mg base "_law_draw" 2 ["_law_hand_here", "_law_many"] (spD K (spTH f_l_draw)) := ⟨⟨_, _, g_l_draw, F_l_draw.kp, (F_l_draw.bindsN fun _ _ _ _ _ _ us hl => match us, hl with | [_, _], _ => rfl), (ok_draw (T.fr "int" (by decide +kernel)) (T.fr "len" (by decide +kernel)) F_l_draw F_l_mix g_l_mix)⟩⟩
  have O_is_whole : Ok Pg w K mg base "is_whole" 1 ["thing"] (spD K (spT f_is_whole)) := ⟨⟨_, _, g_is_whole, F_is_whole.kp, (F_is_whole.bindsN fun _ _ _ _ _ _ us hl => match us, hl with | [_], _ => rfl), (ok_is_whole T F_is_whole )⟩⟩
  have O_is_from : Ok Pg w K mg base "is_from" 2 ["thing", "low", "high"] (spD K (spT f_is_from)) := ⟨⟨_, _, g_is_from, F_is_from.kp, (F_is_from.bindsN fun _ _ _ _ _ _ us hl => match us, hl with | [_, _, _], _ => rfl), (ok_is_from T F_is_from O_is_whole)⟩⟩
  have O_is_sequence : Ok Pg w K mg base "is_sequence" 1 ["thing"] (spD K (spT f_is_sequence)) := ⟨⟨_, _, g_is_sequence, F_is_sequence.kp, (F_is_sequence.bindsN fun _ _ _ _ _ _ us hl => match us, hl with | [_], _ => rfl), (ok_is_sequence T F_is_sequence )⟩⟩
  have O_is_row : Ok Pg w K mg base "is_row" 2 ["thing", "length"] (spD K (spT f_is_row)) := ⟨⟨_, _, g_is_row, F_is_row.kp, (F_is_row.bindsN fun _ _ _ _ _ _ us hl => match us, hl with | [_, _], _ => rfl), (ok_is_row T F_is_row O_is_sequence)⟩⟩
  have O_is_call : Ok Pg w K mg base "is_call" 3 ["calls", "thing"] (spD K (spT f_is_call)) := ⟨⟨_, _, g_is_call, F_is_call.kp, (F_is_call.bindsN fun _ _ _ _ _ _ us hl => match us, hl with | [_, _], _ => rfl), (ok_is_call T F_is_call O_is_from)⟩⟩
  have O_is_answer : Ok Pg w K mg base "is_answer" 3 ["thing"] (spD K (spT f_is_answer)) := ⟨⟨_, _, g_is_answer, F_is_answer.kp, (F_is_answer.bindsN fun _ _ _ _ _ _ us hl => match us, hl with | [_], _ => rfl), (ok_is_answer T F_is_answer O_is_from)⟩⟩
  have O_is_way : Ok Pg w K mg base "is_way" 4 ["states", "calls", "thing"] (spD K (spT f_is_way)) := ⟨⟨_, _, g_is_way, F_is_way.kp, (F_is_way.bindsN fun _ _ _ _ _ _ us hl => match us, hl with | [_, _, _], _ => rfl), (ok_is_way T F_is_way O_is_row O_is_from O_is_call O_is_answer)⟩⟩
  have O_checked_ways : Ok Pg w K mg base "checked_ways" 5 ["states", "calls", "ways"] (spD K (spT f_checked_ways)) := ⟨⟨_, _, g_checked_ways, F_checked_ways.kp, (F_checked_ways.bindsN fun _ _ _ _ _ _ us hl => match us, hl with | [_, _, _], _ => rfl), (ok_checked_ways T F_checked_ways O_is_from O_is_sequence O_is_way)⟩⟩
  have O_ends_table : Ok Pg w K mg base "ends_table" 1 ["ways"] (spD K (spT f_ends_table)) := ⟨⟨_, _, g_ends_table, F_ends_table.kp, (F_ends_table.bindsN fun _ _ _ _ _ _ us hl => match us, hl with | [_], _ => rfl), (ok_ends (T.fr "tuple" (by decide +kernel)) F_ends_table)⟩⟩
  have C_Book : OkC Pg w K mg base "Book" 6 ["self", "states", "calls", "ways"] (i_Book) := ⟨⟨_, _, T.g _ (by decide +kernel), T.mm "Book" (by decide +kernel), (F_Book_init.bindsN fun _ _ _ _ _ _ us hl => match us, hl with | [_, _, _, _], _ => rfl), (ok_Book_init T F_Book_init O_checked_ways O_ends_table)⟩⟩
  have O_is_entry : Ok Pg w K mg base "is_entry" 4 ["book", "thing"] (spD K (spT f_is_entry)) := ⟨⟨_, _, g_is_entry, F_is_entry.kp, (F_is_entry.bindsN fun _ _ _ _ _ _ us hl => match us, hl with | [_, _], _ => rfl), (ok_is_entry T F_is_entry O_is_row O_is_from O_is_call O_is_answer)⟩⟩
  have O_check_history : Ok Pg w K mg base "check_history" 5 ["book", "history"] (spD K (spT f_check_history)) := ⟨⟨_, _, g_check_history, F_check_history.kp, (F_check_history.bindsN fun _ _ _ _ _ _ us hl => match us, hl with | [_, _], _ => rfl), (ok_check_history T F_check_history O_is_sequence O_is_entry)⟩⟩
  have M_Book_ends_from : OkM Pg w K mg base "Book" "ends_from" 1 ["self", "standing", "call", "answer"] (m_Book_ends_from (w.params.followText "set-order")) := ⟨T.cl "Book" (by decide +kernel), ⟨_, _, T.me ("Book", "ends_from") (by decide +kernel), (F_Book_ends_from.bindsN fun _ _ _ _ _ _ us hl => match us, hl with | [_, _, _, _], _ => rfl), (ok_Book_ends_from T F_Book_ends_from )⟩⟩
  have O_standing_behind : Ok Pg w K mg base "standing_behind" 2 ["book", "standing", "trail"] (spD K (spT (f_standing_behind (w.params.followText "set-order")))) := ⟨⟨_, _, g_standing_behind, F_standing_behind.kp, (F_standing_behind.bindsN fun _ _ _ _ _ _ us hl => match us, hl with | [_, _, _], _ => rfl), (ok_standing_behind T F_standing_behind M_Book_ends_from)⟩⟩
  have O_calls_of : Ok Pg w K mg base "calls_of" 1 ["history"] (spD K (spT f_calls_of)) := ⟨⟨_, _, g_calls_of, F_calls_of.kp, (F_calls_of.bindsN fun _ _ _ _ _ _ us hl => match us, hl with | [_], _ => rfl), (ok_calls_of T F_calls_of )⟩⟩
  have O_standing_of : Ok Pg w K mg base "standing_of" 6 ["book", "history"] (spD K (spT (f_standing_of (w.params.followText "set-order")))) := ⟨⟨_, _, g_standing_of, F_standing_of.kp, (F_standing_of.bindsN fun _ _ _ _ _ _ us hl => match us, hl with | [_, _], _ => rfl), (ok_standing_of T F_standing_of O_standing_behind O_calls_of O_check_history)⟩⟩
  have O_is_right : Ok Pg w K mg base "is_right" 7 ["book", "history"] (spD K (spT (f_is_right (w.params.followText "set-order")))) := ⟨⟨_, _, g_is_right, F_is_right.kp, (F_is_right.bindsN fun _ _ _ _ _ _ us hl => match us, hl with | [_, _], _ => rfl), (ok_is_right T F_is_right O_standing_of)⟩⟩
  have O_checked_past : Ok Pg w K mg base "checked_past" 8 ["book", "past"] (spD K (spT (f_checked_past (w.params.followText "set-order")))) := ⟨⟨_, _, g_checked_past, F_checked_past.kp, (F_checked_past.bindsN fun _ _ _ _ _ _ us hl => match us, hl with | [_, _], _ => rfl), (ok_checked_past T F_checked_past O_check_history O_is_right)⟩⟩
  have O_check_row : Ok Pg w K mg base "check_row" 4 ["book", "hand", "row", "depth", "least"] (spD K (spT f_check_row)) := ⟨⟨_, _, g_check_row, F_check_row.kp, (F_check_row.bindsN fun _ _ _ _ _ _ us hl => match us, hl with | [_, _, _, _, _], _ => rfl), (ok_check_row T F_check_row O_is_row O_is_call O_is_answer)⟩⟩
  have O_checked_script : Ok Pg w K mg base "checked_script" 8 ["book", "hand", "script", "depth"] (spD K (spT (f_checked_script 3))) := ⟨⟨_, _, g_checked_script, F_checked_script.kp, (F_checked_script.bindsN fun _ _ _ _ _ _ us hl => match us, hl with | [_, _, _, _], _ => rfl), (ok_checked_script T F_checked_script g_checked_script O_is_sequence O_check_row 3)⟩⟩
  have O_check_scripts : Ok Pg w K mg base "check_scripts" 9 ["book", "scripts"] (spD K (spT f_check_scripts)) := ⟨⟨_, _, g_check_scripts, F_check_scripts.kp, (F_check_scripts.bindsN fun _ _ _ _ _ _ us hl => match us, hl with | [_, _], _ => rfl), (ok_check_scripts T F_check_scripts O_is_sequence O_checked_script)⟩⟩
  have O_turns_of : Ok Pg w K mg base "turns_of" 4 ["script"] (spD K (spT (f_turns_of 3))) := ⟨⟨_, _, g_turns_of, F_turns_of.kp, (F_turns_of.bindsN fun _ _ _ _ _ _ us hl => match us, hl with | [_], _ => rfl), (ok_turns_of T F_turns_of g_turns_of  3)⟩⟩
  have O_cut_count : Ok Pg w K mg base "cut_count" 5 ["scripts"] (spD K (spT f_cut_count)) := ⟨⟨_, _, g_cut_count, F_cut_count.kp, (F_cut_count.bindsN fun _ _ _ _ _ _ us hl => match us, hl with | [_], _ => rfl), (ok_cut_count T F_cut_count O_turns_of)⟩⟩
  have C_Wish : OkC Pg w K mg base "Wish" 10 ["self", "book", "past", "scripts"] (i_Wish (w.params.followText "set-order")) := ⟨⟨_, _, T.g _ (by decide +kernel), T.mm "Wish" (by decide +kernel), (F_Wish_init.bindsN fun _ _ _ _ _ _ us hl => match us, hl with | [_, _, _, _], _ => rfl), (ok_Wish_init T F_Wish_init O_checked_past O_check_scripts O_cut_count C_Book)⟩⟩
  have O_l_wish : Ok Pg w K mg base "_law_wish" 12 ["_law_a", "_law_b", "_law_c"] (spD K (spT (f_l_wish (w.params.followText "set-order")))) := ⟨⟨_, _, g_l_wish, F_l_wish.kp, (F_l_wish.bindsN fun _ _ _ _ _ _ us hl => match us, hl with | [_, _, _], _ => rfl), (ok_l_wish T F_l_wish C_Book C_Wish)⟩⟩
  have O_check_frame : Ok Pg w K mg base "check_frame" 3 ["sizes", "rows"] (spD K (spT f_check_frame)) := ⟨⟨_, _, g_check_frame, F_check_frame.kp, (F_check_frame.bindsN fun _ _ _ _ _ _ us hl => match us, hl with | [_, _], _ => rfl), (ok_check_frame T F_check_frame O_is_sequence O_is_from O_is_row)⟩⟩
  have O_word_of : Ok Pg w K mg base "word_of" 2 ["thing"] (spD K (spT f_word_of)) := ⟨⟨_, _, g_word_of, F_word_of.kp, (F_word_of.bindsN fun _ _ _ _ _ _ us hl => match us, hl with | [_], _ => rfl), (ok_word_of T F_word_of O_is_sequence)⟩⟩
  have O_deed_word : Ok Pg w K mg base "deed_word" 4 ["sizes", "deed", "above"] (spD K (spT f_deed_word)) := ⟨⟨_, _, g_deed_word, F_deed_word.kp, (F_deed_word.bindsN fun _ _ _ _ _ _ us hl => match us, hl with | [_, _, _], _ => rfl), (ok_deed_word T F_deed_word K_DEEDS O_word_of O_is_answer O_is_from O_is_row)⟩⟩
  have O_checked_deed : Ok Pg w K mg base "checked_deed" 7 ["sizes", "hand", "call", "deed", "above"] (spD K (spT (f_checked_deed 2))) := ⟨⟨_, _, g_checked_deed, F_checked_deed.kp, (F_checked_deed.bindsN fun _ _ _ _ _ _ us hl => match us, hl with | [_, _, _, _, _], _ => rfl), (ok_checked_deed T F_checked_deed g_checked_deed O_deed_word 2)⟩⟩
  have C_Foreign : OkC Pg w K mg base "Foreign" 8 ["self", "sizes", "rows"] (i_Foreign) := ⟨⟨_, _, T.g _ (by decide +kernel), T.mm "Foreign" (by decide +kernel), (F_Foreign_init.bindsN fun _ _ _ _ _ _ us hl => match us, hl with | [_, _, _], _ => rfl), (ok_Foreign_init T F_Foreign_init O_check_frame O_checked_deed)⟩⟩
  have C_Barred : OkC Pg w K mg base "Barred" 1 ["self", "cut", "joint", "plan"] (i_Barred) := ⟨⟨_, _, T.g _ (by decide +kernel), T.mm "Barred" (by decide +kernel), (F_Barred_init.bindsN fun _ _ _ _ _ _ us hl => match us, hl with | [_, _, _, _], _ => rfl), (ok_Barred_init T F_Barred_init )⟩⟩
  have C_Run : OkC Pg w K mg base "Run" 1 ["self", "entries", "marks", "cells"] (i_Run) := ⟨⟨_, _, T.g _ (by decide +kernel), T.mm "Run" (by decide +kernel), (F_Run_init.bindsN fun _ _ _ _ _ _ us hl => match us, hl with | [_, _, _, _], _ => rfl), (ok_Run_init T F_Run_init )⟩⟩
  have C_Exchange : OkC Pg w K mg base "Exchange" 1 ["self", "ahead", "behind", "meets"] (i_Exchange) := ⟨⟨_, _, T.g _ (by decide +kernel), T.mm "Exchange" (by decide +kernel), (F_Exchange_init.bindsN fun _ _ _ _ _ _ us hl => match us, hl with | [_, _, _, _], _ => rfl), (ok_Exchange_init T F_Exchange_init )⟩⟩
  have C_Past : OkC Pg w K mg base "Past" 1 ["self", "index"] (i_Past) := ⟨⟨_, _, T.g _ (by decide +kernel), T.mm "Past" (by decide +kernel), (F_Past_init.bindsN fun _ _ _ _ _ _ us hl => match us, hl with | [_, _], _ => rfl), (ok_Past_init T F_Past_init )⟩⟩
  have C_Unlike : OkC Pg w K mg base "Unlike" 1 ["self", "cut", "hand", "call"] (i_Unlike) := ⟨⟨_, _, T.g _ (by decide +kernel), T.mm "Unlike" (by decide +kernel), (F_Unlike_init.bindsN fun _ _ _ _ _ _ us hl => match us, hl with | [_, _, _, _], _ => rfl), (ok_Unlike_init T F_Unlike_init )⟩⟩
  have O_l_first : Ok Pg w K mg base "_law_first" 13 ["_law_which", "_law_n"] (spD K (spT (f_l_first (w.params.followText "set-order")))) := ⟨⟨_, _, g_l_first, F_l_first.kp, (F_l_first.bindsN fun _ _ _ _ _ _ us hl => match us, hl with | [_, _], _ => rfl), (ok_l_first T F_l_first O_l_wish C_Foreign C_Barred C_Run C_Exchange C_Past C_Unlike)⟩⟩
  have C_Meets : OkC Pg w K mg base "Meets" 1 ["self", "cut", "one", "other", "cell"] (i_Meets) := ⟨⟨_, _, T.g _ (by decide +kernel), T.mm "Meets" (by decide +kernel), (F_Meets_init.bindsN fun _ _ _ _ _ _ us hl => match us, hl with | [_, _, _, _, _], _ => rfl), (ok_Meets_init T F_Meets_init )⟩⟩
  have C_Clash : OkC Pg w K mg base "Clash" 1 ["self", "cut", "heads", "what", "trail"] (i_Clash) := ⟨⟨_, _, T.g _ (by decide +kernel), T.mm "Clash" (by decide +kernel), (F_Clash_init.bindsN fun _ _ _ _ _ _ us hl => match us, hl with | [_, _, _, _, _], _ => rfl), (ok_Clash_init T F_Clash_init )⟩⟩
  have C_BarredStretch : OkC Pg w K mg base "BarredStretch" 1 ["self", "stretch", "counts", "joint", "plan"] (i_BarredStretch) := ⟨⟨_, _, T.g _ (by decide +kernel), T.mm "BarredStretch" (by decide +kernel), (F_BarredStretch_init.bindsN fun _ _ _ _ _ _ us hl => match us, hl with | [_, _, _, _, _], _ => rfl), (ok_BarredStretch_init T F_BarredStretch_init )⟩⟩
  have C_Parting : OkC Pg w K mg base "Parting" 1 ["self", "seams", "joints"] (i_Parting) := ⟨⟨_, _, T.g _ (by decide +kernel), T.mm "Parting" (by decide +kernel), (F_Parting_init.bindsN fun _ _ _ _ _ _ us hl => match us, hl with | [_, _, _], _ => rfl), (ok_Parting_init T F_Parting_init )⟩⟩
  have C_Needless : OkC Pg w K mg base "Needless" 1 ["self", "way"] (i_Needless) := ⟨⟨_, _, T.g _ (by decide +kernel), T.mm "Needless" (by decide +kernel), (F_Needless_init.bindsN fun _ _ _ _ _ _ us hl => match us, hl with | [_, _], _ => rfl), (ok_Needless_init T F_Needless_init )⟩⟩
  have C_Trial : OkC Pg w K mg base "Trial" 1 ["self", "wish", "met", "won", "lost"] (i_Trial) := ⟨⟨_, _, T.g _ (by decide +kernel), T.mm "Trial" (by decide +kernel), (F_Trial_init.bindsN fun _ _ _ _ _ _ us hl => match us, hl with | [_, _, _, _, _], _ => rfl), (ok_Trial_init T F_Trial_init )⟩⟩
  have O_l_second : Ok Pg w K mg base "_law_second" 13 ["_law_which", "_law_n"] (spD K (spT (f_l_second (w.params.followText "set-order")))) := ⟨⟨_, _, g_l_second, F_l_second.kp, (F_l_second.bindsN fun _ _ _ _ _ _ us hl => match us, hl with | [_, _], _ => rfl), (ok_l_second T F_l_second C_Meets C_Clash C_BarredStretch C_Parting C_Needless O_l_wish C_Trial)⟩⟩
  have O_l_made : Ok Pg w K mg base "_law_made" 14 ["_law_which", "_law_n"] (spD K (spT (f_l_made (w.params.followText "set-order")))) := ⟨⟨_, _, g_l_made, F_l_made.kp, (F_l_made.bindsN fun _ _ _ _ _ _ us hl => match us, hl with | [_, _], _ => rfl), (ok_l_made T F_l_made O_l_first O_l_second)⟩⟩
  have M_Book_eq : OkM Pg w K mg base "Book" "__eq__" 1 ["self", "other"] (m_Book_eq) := ⟨T.cl "Book" (by decide +kernel), ⟨_, _, T.me ("Book", "__eq__") (by decide +kernel), (F_Book_eq.bindsN fun _ _ _ _ _ _ us hl => match us, hl with | [_, _], _ => rfl), (ok_Book_eq T F_Book_eq )⟩⟩
  have Q_Wish_eq : EqD Pg w K mg base NN.cs 1 eqs_Wish_eq := (eqD_cons M_Book_eq eqD_nil)
  have M_Wish_eq : OkM Pg w K mg base "Wish" "__eq__" 4 ["self", "other"] (m_Wish_eq) := ⟨T.cl "Wish" (by decide +kernel), ⟨_, _, T.me ("Wish", "__eq__") (by decide +kernel), (F_Wish_eq.bindsN fun _ _ _ _ _ _ us hl => match us, hl with | [_, _], _ => rfl), (ok_Wish_eq T F_Wish_eq Q_Wish_eq)⟩⟩
  have M_Barred_eq : OkM Pg w K mg base "Barred" "__eq__" 1 ["self", "other"] (m_Barred_eq) := ⟨T.cl "Barred" (by decide +kernel), ⟨_, _, T.me ("Barred", "__eq__") (by decide +kernel), (F_Barred_eq.bindsN fun _ _ _ _ _ _ us hl => match us, hl with | [_, _], _ => rfl), (ok_Barred_eq T F_Barred_eq )⟩⟩
  have M_BarredStretch_eq : OkM Pg w K mg base "BarredStretch" "__eq__" 1 ["self", "other"] (m_BarredStretch_eq) := ⟨T.cl "BarredStretch" (by decide +kernel), ⟨_, _, T.me ("BarredStretch", "__eq__") (by decide +kernel), (F_BarredStretch_eq.bindsN fun _ _ _ _ _ _ us hl => match us, hl with | [_, _], _ => rfl), (ok_BarredStretch_eq T F_BarredStretch_eq )⟩⟩
  have M_Parting_eq : OkM Pg w K mg base "Parting" "__eq__" 1 ["self", "other"] (m_Parting_eq) := ⟨T.cl "Parting" (by decide +kernel), ⟨_, _, T.me ("Parting", "__eq__") (by decide +kernel), (F_Parting_eq.bindsN fun _ _ _ _ _ _ us hl => match us, hl with | [_, _], _ => rfl), (ok_Parting_eq T F_Parting_eq )⟩⟩
  have Q_Trial_eq : EqD Pg w K mg base NN.cs 4 eqs_Trial_eq := (eqD_cons M_Wish_eq eqD_nil)
  have M_Trial_eq : OkM Pg w K mg base "Trial" "__eq__" 7 ["self", "other"] (m_Trial_eq) := ⟨T.cl "Trial" (by decide +kernel), ⟨_, _, T.me ("Trial", "__eq__") (by decide +kernel), (F_Trial_eq.bindsN fun _ _ _ _ _ _ us hl => match us, hl with | [_, _], _ => rfl), (ok_Trial_eq T F_Trial_eq Q_Trial_eq)⟩⟩
  have M_Run_eq : OkM Pg w K mg base "Run" "__eq__" 1 ["self", "other"] (m_Run_eq) := ⟨T.cl "Run" (by decide +kernel), ⟨_, _, T.me ("Run", "__eq__") (by decide +kernel), (F_Run_eq.bindsN fun _ _ _ _ _ _ us hl => match us, hl with | [_, _], _ => rfl), (ok_Run_eq T F_Run_eq )⟩⟩
  have M_Foreign_eq : OkM Pg w K mg base "Foreign" "__eq__" 1 ["self", "other"] (m_Foreign_eq) := ⟨T.cl "Foreign" (by decide +kernel), ⟨_, _, T.me ("Foreign", "__eq__") (by decide +kernel), (F_Foreign_eq.bindsN fun _ _ _ _ _ _ us hl => match us, hl with | [_, _], _ => rfl), (ok_Foreign_eq T F_Foreign_eq )⟩⟩
  have M_Clash_eq : OkM Pg w K mg base "Clash" "__eq__" 1 ["self", "other"] (m_Clash_eq) := ⟨T.cl "Clash" (by decide +kernel), ⟨_, _, T.me ("Clash", "__eq__") (by decide +kernel), (F_Clash_eq.bindsN fun _ _ _ _ _ _ us hl => match us, hl with | [_, _], _ => rfl), (ok_Clash_eq T F_Clash_eq )⟩⟩
  have M_Past_eq : OkM Pg w K mg base "Past" "__eq__" 1 ["self", "other"] (m_Past_eq) := ⟨T.cl "Past" (by decide +kernel), ⟨_, _, T.me ("Past", "__eq__") (by decide +kernel), (F_Past_eq.bindsN fun _ _ _ _ _ _ us hl => match us, hl with | [_, _], _ => rfl), (ok_Past_eq T F_Past_eq )⟩⟩
  have M_Unlike_eq : OkM Pg w K mg base "Unlike" "__eq__" 1 ["self", "other"] (m_Unlike_eq) := ⟨T.cl "Unlike" (by decide +kernel), ⟨_, _, T.me ("Unlike", "__eq__") (by decide +kernel), (F_Unlike_eq.bindsN fun _ _ _ _ _ _ us hl => match us, hl with | [_, _], _ => rfl), (ok_Unlike_eq T F_Unlike_eq )⟩⟩
  have M_Meets_eq : OkM Pg w K mg base "Meets" "__eq__" 1 ["self", "other"] (m_Meets_eq) := ⟨T.cl "Meets" (by decide +kernel), ⟨_, _, T.me ("Meets", "__eq__") (by decide +kernel), (F_Meets_eq.bindsN fun _ _ _ _ _ _ us hl => match us, hl with | [_, _], _ => rfl), (ok_Meets_eq T F_Meets_eq )⟩⟩
  have M_Needless_eq : OkM Pg w K mg base "Needless" "__eq__" 1 ["self", "other"] (m_Needless_eq) := ⟨T.cl "Needless" (by decide +kernel), ⟨_, _, T.me ("Needless", "__eq__") (by decide +kernel), (F_Needless_eq.bindsN fun _ _ _ _ _ _ us hl => match us, hl with | [_, _], _ => rfl), (ok_Needless_eq T F_Needless_eq )⟩⟩
  have M_Exchange_eq : OkM Pg w K mg base "Exchange" "__eq__" 1 ["self", "other"] (m_Exchange_eq) := ⟨T.cl "Exchange" (by decide +kernel), ⟨_, _, T.me ("Exchange", "__eq__") (by decide +kernel), (F_Exchange_eq.bindsN fun _ _ _ _ _ _ us hl => match us, hl with | [_, _], _ => rfl), (ok_Exchange_eq T F_Exchange_eq )⟩⟩
  have Q_l_compared : EqD Pg w K mg base NN.cs 7 eqs_l_compared := (eqD_cons M_Book_eq (eqD_cons M_Wish_eq (eqD_cons M_Barred_eq (eqD_cons M_BarredStretch_eq (eqD_cons M_Parting_eq (eqD_cons M_Trial_eq (eqD_cons M_Run_eq (eqD_cons M_Foreign_eq (eqD_cons M_Clash_eq (eqD_cons M_Past_eq (eqD_cons M_Unlike_eq (eqD_cons M_Meets_eq (eqD_cons M_Needless_eq (eqD_cons M_Exchange_eq eqD_nil))))))))))))))
  have O_l_compared : Ok Pg w K mg base "_law_compared" 10 ["_law_one", "_law_other", "_law_same"] (spD K (spT f_l_compared)) := ⟨⟨_, _, g_l_compared, F_l_compared.kp, (F_l_compared.bindsN fun _ _ _ _ _ _ us hl => match us, hl with | [_, _, _], _ => rfl), (ok_l_compared T F_l_compared Q_l_compared)⟩⟩
  have Q_law : EqD Pg w K mg base NN.cs 7 eqs_law := (eqD_cons M_Book_eq (eqD_cons M_Wish_eq (eqD_cons M_Barred_eq (eqD_cons M_BarredStretch_eq (eqD_cons M_Parting_eq (eqD_cons M_Trial_eq (eqD_cons M_Run_eq (eqD_cons M_Foreign_eq (eqD_cons M_Clash_eq (eqD_cons M_Past_eq (eqD_cons M_Unlike_eq (eqD_cons M_Meets_eq (eqD_cons M_Needless_eq (eqD_cons M_Exchange_eq eqD_nil))))))))))))))
  have H_ : HandF Pg w K mg base := ⟨_, _, ok_hand (T.fr "enumerate" (by decide +kernel)) (T.fr "abs" (by decide +kernel)) (T.fr "int" (by decide +kernel)) F_l_hand, g_l_hand, F_l_hand.kp, (F_l_hand.bindsN fun _ _ _ _ _ _ us hl => match us, hl with | [_], _ => rfl)⟩
  exact ok_law T F_law O_l_draw O_l_made O_l_compared Q_law H_
end V95
open PySem PySem.W PySem.Calls PyProof.Rows
theorem PySem.Challenge.cw_unmetcells_k95_whole_results_equal_by_al_holds : PySem.Challenge.rw_unmetcells_k95_whole_results_equal_by_al.Holds := by
  w_on; o_law
  refine HandSHeadRun.head_any (r := OpenLaw.row PySem.Challenge.rw_unmetcells_k95_whole_results_equal_by_al) (q := view (OpenLaw.row PySem.Challenge.rw_unmetcells_k95_whole_results_equal_by_al).prog [86]) (H := V95.hk) (ob := V95.ob) (M := 60000) (loose := V95.loose) (d := HandSHeadRun.topDef (OpenLaw.row PySem.Challenge.rw_unmetcells_k95_whole_results_equal_by_al).prog 86) (kwd := []) V95.ob_eq
    (by kernel_rfl) (fun s => by kernel_rfl) V95.run (by kernel_rfl) (by kernel_rfl) (by kernel_rfl) (by rfl) (by first | assumption | decide +kernel) (by decide +kernel) ⟨rfl, rfl, rfl, rfl, rfl, by decide +kernel⟩ ?hw ?hc
  case hw => w_witness2
  case hc =>
    refine Uc.walk_ofU (l := PySem.Challenge.rw_unmetcells_k95_whole_results_equal_by_al) (n := 63) (k := 15) (x := "_law_script") (CX := fun w => L2.CX (PySem.Challenge.rw_unmetcells_k95_whole_results_equal_by_al).prog w) rfl (by decide) (by kernel_rfl) ⟨rfl, by decide, by decide⟩ ?F (fun _ _ _ _ _ z => by obtain ⟨_, _, _, _, _, _, _, _, _, _, _, _, h⟩ := z; exact h)
    intro w mg fa h Y G hmg0
    obtain ⟨K, KX, c⟩ := Y
    have hmg : mg ("law" : PySem.Str) = some (.ref fa) := by
      have e : (HandSHeadRun.topDef (OpenLaw.row PySem.Challenge.rw_unmetcells_k95_whole_results_equal_by_al).prog 86).name = ("law" : PySem.Str) := by kernel_rfl
      rw [← e]
      exact hmg0
    obtain ⟨fd, hb, hF⟩ := V95.facts (Pg := (PySem.Challenge.rw_unmetcells_k95_whole_results_equal_by_al).prog) (w := w) KX G hmg c
    refine ⟨K, fd, Ud.spD K (Ud.spL (Ud.spT (V95.f_law (w.params.followText "set-order")))), KX, hb, fun H a ns hl _ hO hS => ?_, hF⟩
    have isR : ∀ ns : List Int, Ud.RpA K (fun _ => False) H (ns.map L2.V.int) (ns.map Ud.D.int) := fun ns => by
      induction ns with
      | nil => exact .nil
      | cons i ns ih => exact .cons (.int i) ih
    have rs : Ud.Rp K (fun _ => False) H (.ref a) (.zlst (ns.map Ud.D.int)) := by
      rcases hS with (hS | ⟨o, hS⟩) | hS
      · rcases hO a with z | ⟨o, xs, z⟩
        · rw [hS] at z; cases z
        · rw [hS] at z; cases z
      · exact .zlst id hS (isR ns)
      · exact .zlstK (.inr hS) (isR ns)
    exact ⟨none, fun _ => False, [.zlst (ns.map Ud.D.int)], fun d => d = .bl true, fun _ _ => False, .cons rs .nil, fun _ z => (nomatch z), fun _ z => z.elim, (fun _ z => nomatch z), ⟨rfl, V95.law_sat (w.params.followText "set-order") ns (Nat.le_trans hl (by decide))⟩, fun v H' d _ _ r e => by subst e; exact r.bl_inv, fun _ _ _ _ _ _ _ z => z⟩
