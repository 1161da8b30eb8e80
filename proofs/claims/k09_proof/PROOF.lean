import PyProof.Rows.All
import Wide.All
import OpenK.AllK
import Wide.FinOn
import HandS.Base
import HandS.Call
import HandS.List
import HandS.More
import HandS.Evl
import HandS.Comp
import HandS.Ends
import HandS.Words
import HandS.WordsList
import HandS.WordsDict
import HandS.WordsExc
import HandS.Dict
import HandS.Iter
import HandS.Text
import HandS.IsInst
import HandS.Zip
import HandS.SortInts
import HandS.Conv
import HandS.Records
import HandS.Walk
import HandS.TupLe
import HandS.Deep
import HandS.Style
import HandS.WordsDict
import HandS.Sort
import HandS.Zip
import HandS.Lambda
import HandS.EndTab
import KE.KMinKey
import KE.KNestM
import PyProof.Rows.CallKwBuiltin
import PyProof.Rows.CallKw2
import PyProof.ToksMono
import PySem.Challenge.RW_onewalls_k09_whole_any_two_places
set_option Elab.async false
set_option linter.all false
set_option maxRecDepth 100000
set_option maxHeartbeats 4000000
namespace G
open PySem PySem.Spec PyProof.Rows L2
theorem slot_type_ne : Slot "type" (cmpInfo .NotEq).2.1 "object.__ne__" :=
  .of (owner := "object") (n := "__ne__") (by rw [typeLookup_type, builtinLookup_eq_fast]; kernel_rfl) (by decide +kernel) (by decide +kernel) (by decide +kernel)
    (by first | exact .inl (by decide +kernel) | exact .inr (by decide +kernel)) (by rw [isSubtype_type]; kernel_rfl)
theorem slot_type_ne_refl : Slot "type" (cmpInfo .NotEq).2.2 "object.__ne__" :=
  .of (owner := "object") (n := "__ne__") (by rw [typeLookup_type, builtinLookup_eq_fast]; kernel_rfl) (by decide +kernel) (by decide +kernel) (by decide +kernel)
    (by first | exact .inl (by decide +kernel) | exact .inr (by decide +kernel)) (by rw [isSubtype_type]; kernel_rfl)
section
variable {prog : Program} {w : World} {A : Around} {E : Value → Shared → Prop} {s : Shared}
theorem special_eq_type_same {X : String} (hX : ∀ s' : Shared, s'.TypeIs (.type X) "type") {Q : Option Value → Shared → Prop} (h : Q (some (.bool true)) s) : wpAny (model prog w) A (callSpecialIfBound? (.type X) "__eq__" [.type X]) Q E s :=
  wpAny_callSpecialIfBound?_slot (hX s) TypeEq.slot_type_eq (call_gives TypeEq.slot_type_eq (hX s) F.entry_object_eq (F.args_object_eq_2 _ _) (TypeEq.object_eq_same rfl (by simp)) h)
theorem special_eq_type_other {X Y : String} (hX : ∀ s' : Shared, s'.TypeIs (.type X) "type") (hne : (Value.type X == Value.type Y) = false) {Q : Option Value → Shared → Prop} (h : Q (some .notImplemented) s) : wpAny (model prog w) A (callSpecialIfBound? (.type X) "__eq__" [.type Y]) Q E s :=
  wpAny_callSpecialIfBound?_slot (hX s) TypeEq.slot_type_eq (call_gives TypeEq.slot_type_eq (hX s) F.entry_object_eq (F.args_object_eq_2 _ _) (TypeEq.object_eq_other rfl hne) h)
theorem call_ne_same {X : String} (hX : ∀ s' : Shared, s'.TypeIs (.type X) "type") {Q : Value → Shared → Prop} (h : Q (.bool false) s) : wpAny (model prog w) A (call (.builtin "object.__ne__") [.type X, .type X]) Q E s := by
  refine wpAny_call_entry slot_type_ne (hX s) F.cmpEntry_ne ?_ (F.cmpArgs_ne _ _)
  unfold Builtin.«object.__ne__»
  repeat (first | with_reducible refine wpAny_cRoomFor_or (.inl rfl) ?_ | with_reducible refine special_eq_type_same hX ?_ | wp_step)
  exact ⟨_, rfl, h⟩
theorem call_ne_other {X Y : String} (hX : ∀ s' : Shared, s'.TypeIs (.type X) "type") (hne : (Value.type X == Value.type Y) = false) {Q : Value → Shared → Prop} (h : Q .notImplemented s) : wpAny (model prog w) A (call (.builtin "object.__ne__") [.type X, .type Y]) Q E s := by
  refine wpAny_call_entry slot_type_ne (hX s) F.cmpEntry_ne ?_ (F.cmpArgs_ne _ _)
  unfold Builtin.«object.__ne__»
  repeat (first | with_reducible refine wpAny_cRoomFor_or (.inl rfl) ?_ | with_reducible refine special_eq_type_other hX hne ?_ | wp_step)
  exact ⟨_, rfl, h⟩
theorem ne_type_same {X : String} (hX : ∀ s' : Shared, s'.TypeIs (.type X) "type") {Q : Value → Shared → Prop} (h : Q (.bool false) s) : wpAny (model prog w) A (compareOp .NotEq (.type X) (.type X)) Q E s := by
  show wpAny _ A (richCompare .NotEq _ _) Q E s
  exact wpAny_richCompare_same (T := "type") (hX s) (hX s) slot_type_ne (call_ne_same hX ⟨(by intro e; cases e), h⟩)
theorem richCompare_ne_same_decline {M : Model} {a b : Value} {T id : String} {k : Bool} {Q : Value → Shared → Prop} (ha : ∀ s' : Shared, s'.TypeIs a T) (hb : ∀ s' : Shared, s'.TypeIs b T)
    (h1 : Slot T (cmpInfo .NotEq).2.1 id) (h2 : Slot T (cmpInfo .NotEq).2.2 id) (hv : [a, b].any Value.onHeap = false) (hk : isSame a b = pure k)
    (hc : wpAny M A (call (.builtin id) [a, b]) (fun v s₁ => v = .notImplemented ∧ wpAny M A (call (.builtin id) [b, a]) (fun v s₂ => v = .notImplemented ∧ Q (.bool !k) s₂) E s₁) E s) :
    wpAny M A (richCompare .NotEq a b) Q E s := by
  rcases hi : cmpInfo CmpOp.NotEq with ⟨sym, f, r⟩
  rw [hi] at h1 h2
  simp only [richCompare, hi, (ha s).oneThing_none]
  try with_reducible refine wpAny_holding ?_
  refine wpAny_bind (wpAny_cRoomFor_or (.inl hv) ?_)
  refine wpAny_bind (wpAny_typeOf (ha s) (wpAny_bind (wpAny_typeOf (hb s) ?_)))
  simp only [bne_self_eq_false, Bool.false_eq_true, if_false, pure_bind, Bool.not_false, if_true]
  refine wpAny_bind (m := tryCompare a _ b) (wpAny_tryCompare_declines (ha s) h1 (wpAny_mono hc (fun v s₁ h₁ => ⟨h₁.1, ?_⟩) fun _ _ x => x))
  refine wpAny_bind (m := tryCompare b _ a) (wpAny_tryCompare_declines (hb s₁) h2 (wpAny_mono h₁.2 (fun v s₂ h₂ => ⟨h₂.1, ?_⟩) fun _ _ x => x))
  refine wpAny_bind (wpAny_rule (wpAny_bind (wpAny_of_eq hk (wpAny_pure h₂.2))))
theorem ne_type_other {X Y : String} (hX : ∀ s' : Shared, s'.TypeIs (.type X) "type") (hY : ∀ s' : Shared, s'.TypeIs (.type Y) "type") (hne : (Value.type X == Value.type Y) = false) {Q : Value → Shared → Prop} (h : Q (.bool true) s) : wpAny (model prog w) A (compareOp .NotEq (.type X) (.type Y)) Q E s := by
  have hne' : (Value.type Y == Value.type X) = false := by
    rw [Bool.eq_false_iff] at hne ⊢
    intro e
    exact hne (by rw [beq_iff_eq] at e ⊢; exact e.symm)
  show wpAny _ A (richCompare .NotEq _ _) Q E s
  exact richCompare_ne_same_decline (T := "type") (k := false) hX hY slot_type_ne slot_type_ne_refl rfl (by rw [isSame_plain rfl, hne])
    (call_ne_other hX hne ⟨rfl, call_ne_other hY hne' ⟨rfl, h⟩⟩)
/-- types whose own type is type -/
def Ty8 (a : String) : Prop := a = "NoneType" ∨ a = "bool" ∨ a = "int" ∨ a = "str" ∨ a = "list" ∨ a = "tuple" ∨ a = "dict"
theorem Ty8.meta {a : String} (h : Ty8 a) : ∀ s' : Shared, s'.TypeIs (.type a) "type" := by
  rcases h with rfl | rfl | rfl | rfl | rfl | rfl | rfl
  · exact TypeEq.meta_NoneType
  · exact TypeEq.meta_bool
  · exact TypeEq.meta_int
  · exact TypeEq.meta_str
  · exact TypeEq.meta_list
  · exact TypeEq.meta_tuple
  · exact TypeEq.meta_dict
end
section
variable {X : Cx}
def rTyEq : R2 := fun x y H Q => ∃ a b, x = .ty a ∧ y = .ty b ∧ Ty8 a ∧ Ty8 b ∧ Q (.bl (decide (a = b))) H
def rTyNe : R2 := fun x y H Q => ∃ a b, x = .ty a ∧ y = .ty b ∧ Ty8 a ∧ Ty8 b ∧ Q (.bl (!decide (a = b))) H
theorem op_eqTy : OpR X (compareOp .Eq) rTyEq := by
  intro pins s σ H x y v u Q I rx ry h
  obtain ⟨a, b, rfl, rfl, ha, hb, q⟩ := h
  cases (show v = Value.type a from rx)
  cases (show u = Value.type b from ry)
  by_cases e : a = b
  · subst e
    rw [decide_eq_true rfl] at q
    exact TypeEq.eq_type_same ha.meta ⟨.bl true, H, I, rfl, q⟩
  · rw [decide_eq_false e] at q
    exact TypeEq.eq_type_other ha.meta hb.meta ((ty_beq a b).trans (decide_eq_false e)) ⟨.bl false, H, I, rfl, q⟩
theorem op_neTy : OpR X (compareOp .NotEq) rTyNe := by
  intro pins s σ H x y v u Q I rx ry h
  obtain ⟨a, b, rfl, rfl, ha, hb, q⟩ := h
  cases (show v = Value.type a from rx)
  cases (show u = Value.type b from ry)
  by_cases e : a = b
  · subst e
    rw [decide_eq_true rfl] at q
    exact ne_type_same ha.meta ⟨.bl false, H, I, rfl, q⟩
  · rw [decide_eq_false e] at q
    exact ne_type_other ha.meta hb.meta ((ty_beq a b).trans (decide_eq_false e)) ⟨.bl true, H, I, rfl, q⟩
/-- xs[i], by values -/
theorem pg_list : PGet X (rIxL X.K) := by
  intro pins s σ H x y v u Q I rx ry h
  obtain ⟨p, xs, i, z, rfl, rfl, hq, he, q⟩ := h
  cases rx
  obtain ⟨t, rfl⟩ := ry
  obtain ⟨its, r, pl, hz⟩ := I.list hq
  obtain ⟨j, h1, h2, h3, h4, h5⟩ := atI_get he
  obtain ⟨w, ew, rw'⟩ := r.get h2
  have hl := r.length
  have hn := line63
  have fin : EP X pins σ Q w s := ⟨z, H, I, rw', q⟩
  by_cases h0 : 0 ≤ i
  · have hj : i.toNat = j := by
      rw [seqIndex_of h0 h5] at h1
      exact Option.some.inj h1
    exact wpAny_getItem_list pl.isList h0 (by omega) (by rw [hj]; simpa using ew) fin
  · have hj : (i + (its.toArray.size : Int)).toNat = j := by
      rw [seqIndex_neg (by omega) h4] at h1
      rw [List.size_toArray, ← hl]
      exact Option.some.inj h1
    exact wpAny_getItem_list_neg pl.isList (by omega) (by rw [List.size_toArray] <;> omega) (by omega) (by rw [hj]; simpa using ew) fin
end
end G

namespace G
open PySem PySem.Spec PyProof.Rows L2 Evl RZ
/-! ### evaluation, further -/
section
variable {K : PySem.W.Frag} {σ : L2.St} {H H' : Hp} {ta tb tc te : TE} {t u : TT} {x y z v : V} {r r' : R2}
theorem ev_chain {a b : Bool} (ha : Ev ta σ H x) (hb : Ev tb σ H y) (hr : RV r x y H (.bl a)) (hc : a = true → Ev tc σ H z) (hr' : a = true → RV r' y z H (.bl b)) : Ev (tChain r r' ta tb tc) σ H (.bl (a && b)) := fun H1 e Q q =>
  ha H1 e _ fun H2 e2 => hb H2 (e.trans e2) _ fun H3 e3 => hr H3 ((e.trans e2).trans e3) _ fun H4 e4 => ⟨a, rfl, by
    cases a with
    | true =>
      refine iteT ?_
      exact hc rfl H4 (((e.trans e2).trans e3).trans e4) _ fun H5 e5 => hr' rfl H5 ((((e.trans e2).trans e3).trans e4).trans e5) Q fun H6 e6 => q H6 ((((e2.trans e3).trans e4).trans e5).trans e6)
    | false => exact iteF (q H4 ((e2.trans e3).trans e4))⟩
theorem rv_tyEq {a b : String} (ha : Ty8 a) (hb : Ty8 b) : RV rTyEq (.ty a) (.ty b) H (.bl (decide (a = b))) := fun H1 _ _ q => ⟨a, b, rfl, rfl, ha, hb, q H1 (Ex.refl H1)⟩
theorem rv_tyNe {a b : String} (ha : Ty8 a) (hb : Ty8 b) : RV rTyNe (.ty a) (.ty b) H (.bl (!decide (a = b))) := fun H1 _ _ q => ⟨a, b, rfl, rfl, ha, hb, q H1 (Ex.refl H1)⟩
theorem ty_ex {T : String} (e : Ex H H') (h : TyB K H x T) : TyB K H' x T := by
  cases h with
  | non => exact .non
  | bl b => exact .bl b
  | int i => exact .int i
  | str x => exact .str x
  | byt b => exact .byt b
  | lst h => exact .lst (ex_l e h)
  | tup h => exact .tup (ex_t e h)
  | dK h => exact .dK (e _ _ h)
theorem rc_type {T : String} (h : TyB K H x T) : RC (rTyp K) [x] H (.ty T) := fun H1 e _ q => ⟨x, T, rfl, ty_ex e h, q H1 (Ex.refl H1)⟩
/-- type(x) -/
theorem ev_type {T : String} (ha : Ev ta σ H x) (h : TyB K H x T) : Ev (tCB (rTyp K) (tCons ta tNil)) σ H (.ty T) := ev_cb (ea_cons ha ea_nil) (rc_type h)
theorem t8int : Ty8 "int" := .inr (.inr (.inl rfl))
theorem t8str : Ty8 "str" := .inr (.inr (.inr (.inl rfl)))
theorem t8list : Ty8 "list" := .inr (.inr (.inr (.inr (.inl rfl))))
theorem t8tuple : Ty8 "tuple" := .inr (.inr (.inr (.inr (.inr (.inl rfl)))))
theorem ev_fld {a C dx : Addr} {fs : List (Str × V)} {f : Str} (ha : Ev ta σ H (.ref a)) (h : H a = some (.ins C dx fs)) (c : Cls K C) (n : NoAttr K C f) (l : fs.lookup f = some v) : Ev (tFld K ta f) σ H v := fun H1 e _ q =>
  ha H1 e _ fun H2 e2 => ⟨a, C, dx, fs, v, rfl, e2 _ _ (e _ _ h), c, n, l, q H2 e2⟩
theorem ev_lenS {p : Addr} {xs : List V} (ha : Ev ta σ H (.ref p)) (h : SqL K H p xs ∨ SqT K H p xs) : Ev (tCB (fun xs H Q => ∃ p ys, xs = [.ref p] ∧ (SqL K H p ys ∨ SqT K H p ys) ∧ Q (.int ys.length) H) (tCons ta tNil)) σ H (.int (xs.length : Int)) := fun H1 e Q q =>
  ha H1 e _ fun H2 e2 => ⟨p, xs, rfl, h.elim (fun h => .inl (ex_l (e.trans e2) h)) (fun h => .inr (ex_t (e.trans e2) h)), q H2 e2⟩
theorem ev_meth {a C dx : Addr} {fs : List (Str × V)} {m : Str} {sp : Sp} {dvs vs : List V} {E : XK} {tr : TA} (ha : Ev ta σ H (.ref a)) (h : H a = some (.ins C dx fs)) (l : fs.lookup m = none) (hv : EvA tr σ H vs) (hs : SpV sp (.ref a :: (vs ++ dvs)) H z) :
    Ev (tMeth C m sp dvs E ta tr) σ H z := fun H1 e Q q =>
  ha H1 e _ fun H2 e2 => ⟨a, dx, fs, rfl, e2 _ _ (e _ _ h), l, hv H2 (e.trans e2) _ fun H3 e3 => hs H3 ((e.trans e2).trans e3) Q (fun H4 e4 => q H4 ((e2.trans e3).trans e4)) E⟩
theorem el_meth {a C dx : Addr} {fs : List (Str × V)} {m : Str} {sp : Sp} {dvs vs xs : List V} {E : XK} {tr : TA} (ha : Ev ta σ H (.ref a)) (h : H a = some (.ins C dx fs)) (l : fs.lookup m = none) (hv : EvA tr σ H vs) (hs : SpL sp (.ref a :: (vs ++ dvs)) H xs) :
    EvL (tMeth C m sp dvs E ta tr) σ H xs := fun H1 e Q q =>
  ha H1 e _ fun H2 e2 => ⟨a, dx, fs, rfl, e2 _ _ (e _ _ h), l, hv H2 (e.trans e2) _ fun H3 e3 => hs H3 ((e.trans e2).trans e3) Q (fun p H4 hp e4 h4 => q p H4 (fresh_back e2 (fresh_back e3 hp)) ((e2.trans e3).trans e4) h4) E⟩
end
/-! ### statements from a base: H0 (what is known), H (where we are) -/
section
variable {K : PySem.W.Frag} {σ : L2.St} {H0 H : Hp} {ta tb te : TE} {t : TT} {x y v : V} {D : Ends} {tu tw tz : TS}
theorem p_asg {i : Nat} (e : Ex H0 H) (h : Ev te σ H0 v) (k : ∀ H1, Ex H0 H1 → Ex H H1 → tz D (σ.set i (some v)) H1) : tSeq (tAsg te (gName i)) tz D σ H := q_asg (h.mono e) fun H1 e1 => k H1 (e.trans e1) e1
theorem p_asgL {i : Nat} {xs : List V} (e : Ex H0 H) (h : EvL te σ H0 xs) (k : ∀ p H1, H p = none → Ex H0 H1 → Ex H H1 → H1 p = some (.lst xs) → tz D (σ.set i (some (.ref p))) H1) : tSeq (tAsg te (gName i)) tz D σ H := q_asgL (h.mono e) fun p H1 hp e1 h1 => k p H1 hp (e.trans e1) e1 h1
theorem p_drop (e : Ex H0 H) (h : Ev te σ H0 v) (k : ∀ H1, Ex H0 H1 → Ex H H1 → tz D σ H1) : tSeq (tDrop te) tz D σ H := q_drop (h.mono e) fun H1 e1 => k H1 (e.trans e1) e1
theorem p_dropE (e : Ex H0 H) (h : Ev te σ H0 v) (k : ∀ H1, Ex H0 H1 → Ex H H1 → D.nx σ H1) : tDrop te D σ H := s_drop (h.mono e) fun H1 e1 => k H1 (e.trans e1) e1
theorem p_ret (e : Ex H0 H) (h : Ev te σ H0 v) (k : ∀ H1, Ex H0 H1 → D.rt v H1) : tRet te D σ H := s_ret (h.mono e) fun H1 e1 => k H1 (e.trans e1)
theorem p_retL {xs : List V} (e : Ex H0 H) (h : EvL te σ H0 xs) (k : ∀ p H1, H0 p = none → Ex H0 H1 → H1 p = some (.lst xs) → D.rt (.ref p) H1) : tRet te D σ H := s_retL (h.mono e) fun p H1 hp e1 h1 => k p H1 (fresh_back e hp) (e.trans e1) h1
theorem p_retU {xs : List V} (e : Ex H0 H) (h : EvU te σ H0 xs) (k : ∀ p H1, H0 p = none → Ex H0 H1 → H1 p = some (.tup xs) → D.rt (.ref p) H1) : tRet te D σ H := s_retU (fun H1 e1 => h H1 (e.trans e1)) fun p H1 hp e1 h1 => k p H1 (fresh_back e hp) (e.trans e1) h1
theorem p_if {b : Bool} (e : Ex H0 H) (h : EvT t σ H0 b) (h1 : b = true → ∀ H1, Ex H0 H1 → Ex H H1 → tu { D with nx := tz D } σ H1) (h2 : b = false → ∀ H1, Ex H0 H1 → Ex H H1 → tw { D with nx := tz D } σ H1) : tSeq (tIfS t tu tw) tz D σ H :=
  q_if (h.mono e) (fun hb H1 e1 => h1 hb H1 (e.trans e1) e1) (fun hb H1 e1 => h2 hb H1 (e.trans e1) e1)
theorem p_when {b : Bool} (e : Ex H0 H) (h : EvT t σ H0 b) (h1 : b = true → ∀ H1, Ex H0 H1 → Ex H H1 → tu { D with nx := tz D } σ H1) (h2 : b = false → ∀ H1, Ex H0 H1 → Ex H H1 → tz D σ H1) : tSeq (tIfS t tu tNext) tz D σ H :=
  q_when (h.mono e) (fun hb H1 e1 => h1 hb H1 (e.trans e1) e1) (fun hb H1 e1 => h2 hb H1 (e.trans e1) e1)
theorem p_whenE {b : Bool} (e : Ex H0 H) (h : EvT t σ H0 b) (h1 : b = true → ∀ H1, Ex H0 H1 → Ex H H1 → tu D σ H1) (h2 : b = false → ∀ H1, Ex H0 H1 → Ex H H1 → D.nx σ H1) : tIfS t tu tNext D σ H :=
  s_when (h.mono e) (fun hb H1 e1 => h1 hb H1 (e.trans e1) e1) (fun hb H1 e1 => h2 hb H1 (e.trans e1) e1)
theorem p_ifE {b : Bool} (e : Ex H0 H) (h : EvT t σ H0 b) (h1 : b = true → ∀ H1, Ex H0 H1 → Ex H H1 → tu D σ H1) (h2 : b = false → ∀ H1, Ex H0 H1 → Ex H H1 → tw D σ H1) : tIfS t tu tw D σ H :=
  s_if (h.mono e) (fun hb H1 e1 => h1 hb H1 (e.trans e1) e1) (fun hb H1 e1 => h2 hb H1 (e.trans e1) e1)
/-- a test that is known to be false: what it guards is never reached -/
theorem p_no (e : Ex H0 H) (h : EvT t σ H0 false) (k : ∀ H1, Ex H0 H1 → Ex H H1 → tz D σ H1) : tSeq (tIfS t tu tNext) tz D σ H := p_when e h (fun z => by cases z) fun _ => k
theorem p_noE (e : Ex H0 H) (h : EvT t σ H0 false) (k : ∀ H1, Ex H0 H1 → Ex H H1 → D.nx σ H1) : tIfS t tu tNext D σ H := p_whenE e h (fun z => by cases z) fun _ => k
end
/-! ### data: ties -/
abbrev Tie := Nat × Nat × Int
def tv (t : Tie) : List V := [.int t.1, .int t.2.1, .int t.2.2]
def TieV (K : PySem.W.Frag) (H : Hp) (v : V) (t : Tie) : Prop := ∃ a, v = .ref a ∧ SqT K H a (tv t)
structure TiesV (K : PySem.W.Frag) (H : Hp) (vs : List V) (ts : List Tie) : Prop where
  len : vs.length = ts.length
  at_ : ∀ (i : Nat) (v : V) (t : Tie), vs[i]? = some v → ts[i]? = some t → TieV K H v t
def TiesL (K : PySem.W.Frag) (H : Hp) (l : Addr) (ts : List Tie) : Prop := ∃ vs, SqL K H l vs ∧ TiesV K H vs ts
structure Good (n : Nat) (t : Tie) : Prop where
  one : t.1 < n
  two : t.2.1 < n
  ne : t.1 ≠ t.2.1
  lo : 1 ≤ t.2.2
  hi : t.2.2 ≤ 1000000000
section
variable {K : PySem.W.Frag} {H H' : Hp}
theorem TieV.ex {v : V} {t : Tie} (h : TieV K H v t) (e : Ex H H') : TieV K H' v t := by
  obtain ⟨a, rfl, h⟩ := h
  exact ⟨a, rfl, ex_t e h⟩
theorem TiesV.ex {vs : List V} {ts : List Tie} (h : TiesV K H vs ts) (e : Ex H H') : TiesV K H' vs ts := ⟨h.len, fun i v t a b => (h.at_ i v t a b).ex e⟩
theorem TiesL.ex {l : Addr} {ts : List Tie} (h : TiesL K H l ts) (e : Ex H H') : TiesL K H' l ts := by
  obtain ⟨vs, a, b⟩ := h
  exact ⟨vs, ex_l e a, b.ex e⟩
theorem TiesV.get {vs : List V} {ts : List Tie} (h : TiesV K H vs ts) {i : Nat} {v : V} (hv : vs[i]? = some v) : ∃ t a, ts[i]? = some t ∧ v = .ref a ∧ SqT K H a (tv t) := by
  have hi := (List.getElem?_eq_some_iff.mp hv).1
  have hi' : i < ts.length := by rw [← h.len]; exact hi
  obtain ⟨a, e, q⟩ := h.at_ i v ts[i] hv (List.getElem?_eq_getElem hi')
  exact ⟨ts[i], a, List.getElem?_eq_getElem hi', e, q⟩
theorem TiesV.nil : TiesV K H [] [] := ⟨rfl, fun i v t a _ => by simp at a⟩
theorem TiesV.snoc {vs : List V} {ts : List Tie} {v : V} {t : Tie} (h : TiesV K H vs ts) (hv : TieV K H v t) : TiesV K H (vs ++ [v]) (ts ++ [t]) := by
  refine ⟨by simp [h.len], fun i x y a b => ?_⟩
  by_cases hi : i < vs.length
  · rw [List.getElem?_append_left hi] at a
    rw [List.getElem?_append_left (by rw [← h.len]; exact hi)] at b
    exact h.at_ i x y a b
  · have hl := h.len
    rw [List.getElem?_append_right (by omega)] at a b
    by_cases h0 : i - vs.length = 0
    · rw [h0] at a
      rw [← hl, h0] at b
      simp at a b
      subst a b
      exact hv
    · obtain ⟨m, hm⟩ : ∃ m, i - vs.length = m + 1 := ⟨i - vs.length - 1, by omega⟩
      rw [hm] at a
      simp at a
theorem sum_map_append {α : Type} (f : α → Int) (xs ys : List α) : ((xs ++ ys).map f).sum = (xs.map f).sum + (ys.map f).sum := by
  rw [List.map_append, List.sum_append]
end
/-! ### data: n values by a function -/
def lstOf (n : Nat) (f : Nat → V) : List V := (List.range n).map f
theorem lstOf_len (n : Nat) (f : Nat → V) : (lstOf n f).length = n := by unfold lstOf; rw [List.length_map, List.length_range]
theorem lstOf_get {n i : Nat} {f : Nat → V} (h : i < n) : (lstOf n f)[i]? = some (f i) := by
  unfold lstOf
  rw [List.getElem?_map, List.getElem?_range h]
  rfl
theorem lstOf_at {n i : Nat} {f : Nat → V} (h : i < n) : atI (lstOf n f) (i : Int) = some (f i) := at_of rfl (lstOf_get h)
theorem lstOf_congr {n : Nat} {f g : Nat → V} (h : ∀ i, i < n → f i = g i) : lstOf n f = lstOf n g := by
  unfold lstOf
  refine List.map_congr_left fun i hi => h i (List.mem_range.mp hi)
theorem lstOf_set {n i : Nat} {f : Nat → V} {v : V} : (lstOf n f).set i v = lstOf n (fun k => if k = i then v else f k) := by
  apply List.ext_getElem?
  intro k
  by_cases hk : k < n
  · rw [lstOf_get hk]
    by_cases e : i = k
    · subst e
      rw [List.getElem?_set_self (by rw [lstOf_len]; exact hk), if_pos rfl]
    · rw [List.getElem?_set_ne e, lstOf_get hk, if_neg (fun q => e q.symm)]
  · rw [List.getElem?_eq_none (by rw [List.length_set, lstOf_len]; omega), List.getElem?_eq_none (by rw [lstOf_len]; omega)]
theorem lstOf_succ {n : Nat} {f : Nat → V} : lstOf (n + 1) f = lstOf n f ++ [f n] := by
  unfold lstOf
  rw [List.range_succ, List.map_append]
  rfl
theorem lstOf_rep {n : Nat} {v : V} : lstOf n (fun _ => v) = List.replicate n v := by
  apply List.ext_getElem?
  intro k
  by_cases hk : k < n
  · rw [lstOf_get hk, List.getElem?_replicate, if_pos hk]
  · rw [List.getElem?_eq_none (by rw [lstOf_len]; omega), List.getElem?_eq_none (by rw [List.length_replicate]; omega)]
/-! ### data: a square of numbers, rows of its own -/
structure MatR (H : Hp) (p : Addr) (n : Nat) (rs : Nat → Addr) (M : Nat → Nat → Int) : Prop where
  top : H p = some (.lst (lstOf n fun i => .ref (rs i)))
  row : ∀ i, i < n → H (rs i) = some (.lst (lstOf n fun j => .int (M i j)))
  inj : ∀ i j, i < n → j < n → rs i = rs j → i = j
def MatAt (H : Hp) (p : Addr) (n : Nat) (M : Nat → Nat → Int) : Prop := ∃ rs, MatR H p n rs M
/-- .. made anew: nothing of it stood in H0 -/
def MatN (H0 H : Hp) (p : Addr) (n : Nat) (M : Nat → Nat → Int) : Prop := H0 p = none ∧ ∃ rs, MatR H p n rs M ∧ ∀ i, i < n → H0 (rs i) = none
section
variable {K : PySem.W.Frag} {H0 H H' : Hp} {p : Addr} {n : Nat} {M : Nat → Nat → Int} {rs : Nat → Addr}
theorem MatR.ex (h : MatR H p n rs M) (e : Ex H H') : MatR H' p n rs M := ⟨e _ _ h.top, fun i hi => e _ _ (h.row i hi), h.inj⟩
theorem MatAt.ex (h : MatAt H p n M) (e : Ex H H') : MatAt H' p n M := by
  obtain ⟨rs, h⟩ := h
  exact ⟨rs, h.ex e⟩
theorem MatN.ex (h : MatN H0 H p n M) (e : Ex H H') : MatN H0 H' p n M := by
  obtain ⟨a, rs, h, f⟩ := h
  exact ⟨a, rs, h.ex e, f⟩
theorem MatN.at_ (h : MatN H0 H p n M) : MatAt H p n M := by
  obtain ⟨a, rs, h, f⟩ := h
  exact ⟨rs, h⟩
theorem MatR.npr (h : MatR H p n rs M) {i : Nat} (hi : i < n) : p ≠ rs i := by
  refine ne_of h.top (h.row i hi) ?_
  intro q
  have e := HO.lst.inj q
  have h1 : (lstOf n fun i => V.ref (rs i))[i]? = (lstOf n fun j => V.int (M i j))[i]? := by rw [e]
  rw [lstOf_get hi, lstOf_get hi] at h1
  cases h1
def put2 (M : Nat → Nat → Int) (i j : Nat) (z : Int) : Nat → Nat → Int := fun a b => if a = i ∧ b = j then z else M a b
theorem MatR.set (h : MatR H p n rs M) {i j : Nat} {z : Int} (hi : i < n) (hj : j < n) : MatR (upd H (rs i) (.lst ((lstOf n fun j => .int (M i j)).set j (.int z)))) p n rs (put2 M i j z) := by
  refine ⟨by rw [upd_ne (h.npr hi)]; exact h.top, fun k hk => ?_, h.inj⟩
  by_cases e : k = i
  · subst e
    rw [upd_same, lstOf_set]
    congr 2
    refine lstOf_congr fun b hb => ?_
    unfold put2
    by_cases q : b = j
    · rw [if_pos q, if_pos ⟨rfl, q⟩]
    · rw [if_neg q, if_neg (fun x => q x.2)]
  · rw [upd_ne (fun q => e (h.inj k i hk hi q)), h.row k hk]
    congr 2
    refine lstOf_congr fun b hb => ?_
    unfold put2
    rw [if_neg (fun x => e x.1)]
/-- c[i][j] is read -/
theorem MatR.get (h : MatR H p n rs M) {i j : Nat} (hi : i < n) (hj : j < n) : SqL K H p (lstOf n fun i => .ref (rs i)) ∧ atI (lstOf n fun i => V.ref (rs i)) (i : Int) = some (.ref (rs i)) ∧ SqL K H (rs i) (lstOf n fun j => .int (M i j)) ∧ atI (lstOf n fun j => V.int (M i j)) (j : Int) = some (.int (M i j)) :=
  ⟨sq_of h.top, lstOf_at hi, sq_of (h.row i hi), lstOf_at hj⟩
end
def costM (ts : List Tie) (i j : Nat) : Int := (ts.map fun t => if (t.1 = i ∧ t.2.1 = j) ∨ (t.1 = j ∧ t.2.1 = i) then t.2.2 else 0).sum
theorem costM_snoc (ts : List Tie) (t : Tie) (i j : Nat) : costM (ts ++ [t]) i j = costM ts i j + if (t.1 = i ∧ t.2.1 = j) ∨ (t.1 = j ∧ t.2.1 = i) then t.2.2 else 0 := by
  unfold costM
  rw [sum_map_append]
  simp
theorem costM_put {ts : List Tie} {t : Tie} (h : t.1 ≠ t.2.1) : ∀ i j, put2 (put2 (costM ts) t.1 t.2.1 (costM ts t.1 t.2.1 + t.2.2)) t.2.1 t.1 (put2 (costM ts) t.1 t.2.1 (costM ts t.1 t.2.1 + t.2.2) t.2.1 t.1 + t.2.2) i j = costM (ts ++ [t]) i j := by
  intro i j
  rw [costM_snoc]
  unfold put2
  by_cases a : i = t.2.1 ∧ j = t.1
  · obtain ⟨rfl, rfl⟩ := a
    rw [if_pos ⟨rfl, rfl⟩, if_neg (fun x => h x.1.symm), if_pos (Or.inr ⟨rfl, rfl⟩)]
  · rw [if_neg a]
    by_cases b : i = t.1 ∧ j = t.2.1
    · obtain ⟨rfl, rfl⟩ := b
      rw [if_pos ⟨rfl, rfl⟩, if_pos (Or.inl ⟨rfl, rfl⟩)]
    · rw [if_neg b, if_neg, Int.add_zero]
      rintro (⟨x, y⟩ | ⟨x, y⟩)
      · exact b ⟨x.symm, y.symm⟩
      · exact a ⟨y.symm, x.symm⟩
/-! ### a net -/
def netF (n l c : V) : List (Str × V) := putF "_costs" c (putF "_ties" l (putF "many" n []))
theorem nm1 : ¬ (("many" : Str) = "_ties") := by decide +kernel
theorem nm2 : ¬ (("many" : Str) = "_costs") := by decide +kernel
theorem nm3 : ¬ (("_ties" : Str) = "_costs") := by decide +kernel
theorem netF_many {n l c : V} : (netF n l c).lookup ("many" : Str) = some n := by
  unfold netF
  rw [lookup_putF, if_neg nm2, lookup_putF, if_neg nm1, lookup_putF, if_pos rfl]
theorem netF_ties {n l c : V} : (netF n l c).lookup ("_ties" : Str) = some l := by
  unfold netF
  rw [lookup_putF, if_neg nm3, lookup_putF, if_pos rfl]
theorem netF_costs {n l c : V} : (netF n l c).lookup ("_costs" : Str) = some c := by
  unfold netF
  rw [lookup_putF, if_pos rfl]
theorem netF_no {n l c : V} {m : Str} (h1 : ¬ m = "_costs") (h2 : ¬ m = "_ties") (h3 : ¬ m = "many") : (netF n l c).lookup m = none := by
  unfold netF
  rw [lookup_putF, if_neg h1, lookup_putF, if_neg h2, lookup_putF, if_neg h3]
  rfl
/-- a net of n places and of the ties ts stands at x -/
structure NetAt (K : PySem.W.Frag) (C : Addr) (H : Hp) (x : Addr) (n : Nat) (ts : List Tie) : Prop where
  ob : ∃ dx l c, H x = some (.ins C dx (netF (.int n) (.ref l) (.ref c))) ∧ (∃ vs, H l = some (.lst vs) ∧ TiesV K H vs ts) ∧ MatAt H c n (costM ts)
  lo : 1 ≤ n
  hi : n ≤ 24
  len : ts.length ≤ 300
  good : ∀ t ∈ ts, Good n t
theorem NetAt.ex {K : PySem.W.Frag} {C : Addr} {H H' : Hp} {x : Addr} {n : Nat} {ts : List Tie} (h : NetAt K C H x n ts) (e : Ex H H') : NetAt K C H' x n ts := by
  obtain ⟨dx, l, c, h1, ⟨vs, h2, h3⟩, h4⟩ := h.ob
  exact ⟨⟨dx, l, c, e _ _ h1, ⟨vs, e _ _ h2, h3.ex e⟩, h4.ex e⟩, h.lo, h.hi, h.len, h.good⟩

/-! ### lists of places -/
def IL (ns : List Nat) : List V := ns.map fun (k : Nat) => V.int (k : Int)
theorem IL_len (ns : List Nat) : (IL ns).length = ns.length := by unfold IL; rw [List.length_map]
theorem IL_get {ns : List Nat} {i : Nat} {x : V} (h : (IL ns)[i]? = some x) : ∃ p, ns[i]? = some p ∧ x = .int (p : Int) := by
  unfold IL at h
  rw [List.getElem?_map] at h
  cases e : ns[i]? with
  | none => rw [e] at h; cases h
  | some p => rw [e] at h; exact ⟨p, rfl, (Option.some.inj h).symm⟩
theorem IL_eq (ns : List Nat) : IL ns = (ns.map fun (k : Nat) => (k : Int)).map V.int := by unfold IL; rw [List.map_map]; rfl
theorem nodup_cast {ns : List Nat} (h : ns.Nodup) : (ns.map fun (k : Nat) => (k : Int)).Nodup := by
  unfold List.Nodup at h ⊢
  rw [List.pairwise_map]
  exact h.imp fun hab e => hab (by exact Int.ofNat.inj e)
theorem ev_lenSet {K : PySem.W.Frag} {σ : L2.St} {H : Hp} {ta : TE} {a : Addr} {ns : List Nat} (ha : Ev ta σ H (.ref a)) (h : SqL K H a (IL ns)) (nd : ns.Nodup) (hz : ns.length ≤ 4000) : Ev (tLenSetI K ta) σ H (.int (ns.length : Int)) := fun H1 e Q q =>
  ha H1 e _ fun H2 e2 => ⟨a, ns.map fun (k : Nat) => (k : Int), rfl, by rw [← IL_eq]; exact ex_l (e.trans e2) h, nodup_cast nd, by rw [List.length_map]; exact hz, by rw [List.length_map]; exact q H2 e2⟩
theorem take_snoc {α : Type} {xs : List α} {i : Nat} {x : α} (h : xs[i]? = some x) : xs.take (i + 1) = xs.take i ++ [x] := by
  rw [List.take_succ, h]
  rfl
/-- what H0 knows is kept where only a thing changes that H0 does not know -/
theorem _root_.Evl.Ex.but {H0 H H' : Hp} {p : Addr} (e : Ex H0 H) (h : H0 p = none) (k : ∀ b o, b ≠ p → H b = some o → H' b = some o) : Ex H0 H' := fun a o ha => k a o (ne_of_none ha h) (e a o ha)
theorem MatR.congr {H : Hp} {p : Addr} {n : Nat} {rs : Nat → Addr} {M M' : Nat → Nat → Int} (h : MatR H p n rs M) (e : ∀ i j, M i j = M' i j) : MatR H p n rs M' := by
  have : M = M' := funext fun i => funext fun j => e i j
  rw [← this]
  exact h
theorem yes_go {te : TE} {σ : L2.St} {H : Hp} {A : VK} {B : Hp → Prop} (h : te σ H A) : tYes σ H (fun b H3 => if b = true then te σ H3 A else B H3) := by
  show (if true = true then te σ H A else B H)
  rw [if_pos rfl]
  exact h
/-- c[i][j] += z -/
theorem mat_aug {K : PySem.W.Frag} {σ : L2.St} {H : Hp} {D : Ends} {pi ii ji zi : Nat} {p : Addr} {n i j : Nat} {z : Int} {rs : Nat → Addr} {M : Nat → Nat → Int} {f : Int → Int → Int}
    (hp : σ[pi]? = some (some (.ref p))) (hi : σ[ii]? = some (some (.int (i : Int)))) (hj : σ[ji]? = some (some (.int (j : Int)))) (hz : σ[zi]? = some (some (.int z))) (R : MatR H p n rs M) (li : i < n) (lj : j < n)
    (k : ∀ H', MatR H' p n rs (put2 M i j (f (M i j) z)) → (∀ b o, b ≠ rs i → H b = some o → H' b = some o) → D.nx σ H') :
    tAugS (tOp (rIxL K) (tVar pi) (tVar ii)) (tVar ji) (tVar zi) (rIxL K) (ipI f) rSetL D σ H := by
  obtain ⟨h1, h2, h3, h4⟩ := R.get (K := K) li lj
  refine ⟨_, hp, _, hi, p, _, _, _, rfl, rfl, h1, h2, _, hj, rs i, _, _, _, rfl, rfl, h3, h4, _, hz, _, _, rfl, rfl, rs i, _, _, j, rfl, rfl, R.row i li, ixN_nat (by rw [lstOf_len]; exact lj), ?_⟩
  exact k _ (R.set li lj) fun b o hb e => by rw [upd_ne hb]; exact e

section
variable {K : PySem.W.Frag} {σ : L2.St} {H H' : Hp} {ta tb te : TE}
theorem el_is {xs ys : List V} (h : EvL te σ H xs) (e : xs = ys) : EvL te σ H ys := by
  rw [← e]
  exact h
theorem inV_IL {ns : List Nat} {p : Nat} : inV (.int (p : Int)) (IL ns) = decide (p ∈ ns) := by
  unfold inV IL
  rw [List.any_map]
  by_cases h : p ∈ ns
  · rw [decide_eq_true h, List.any_eq_true]
    exact ⟨p, h, by simp [eqV]⟩
  · rw [decide_eq_false h, List.any_eq_false]
    intro q hq
    simp only [Function.comp, eqV, beq_iff_eq]
    intro e
    exact h (by rw [← Int.ofNat.inj e]; exact hq)
theorem flat_IL {ns : List Nat} : (IL ns).all flatV = true := by
  unfold IL
  rw [List.all_map, List.all_eq_true]
  intro q hq
  rfl
/-- p in a list of places -/
theorem ev_inIL {p : Nat} {a : Addr} {ns : List Nat} (ha : Ev ta σ H (.int (p : Int))) (hb : Ev tb σ H (.ref a)) (h : SqL K H a (IL ns)) : Ev (tOp (rIn K false) ta tb) σ H (.bl (decide (p ∈ ns))) :=
  ev_is (ev_op ha hb (rv_isL h rfl flat_IL)) (by rw [inV_IL])
theorem ev_ninIL {p : Nat} {a : Addr} {ns : List Nat} (ha : Ev ta σ H (.int (p : Int))) (hb : Ev tb σ H (.ref a)) (h : SqL K H a (IL ns)) : Ev (tOp (rIn K true) ta tb) σ H (.bl (!decide (p ∈ ns))) :=
  ev_is (ev_op ha hb (rv_niL h rfl flat_IL)) (by rw [inV_IL])
end

theorem bl_ne {a b : Bool} : (!decide (V.bl a = V.bl b)) = (a != b) := by cases a <;> cases b <;> decide
theorem bl_eq {a b : Bool} : (decide (V.bl a = V.bl b)) = (a == b) := by cases a <;> cases b <;> decide
theorem netF2_len {n l : V} : (putF "_ties" l (putF "many" n [])).length < 1000 := by
  show (if ("many" : Str) = "_ties" then [(("many" : Str), l)] else (("many" : Str), n) :: putF "_ties" l []).length < 1000
  rw [if_neg nm1]
  show 2 < 1000
  decide

/-! ### comprehensions whose items are related, not known -/
/-- a value that is R0 of the heap before and the heap behind -/
def EvR (te : TE) (σ : L2.St) (H : Hp) (R0 : Hp → V → Hp → Prop) : Prop := ∀ H1, Ex H H1 → ∀ Q : VK, (∀ v H2, Ex H1 H2 → R0 H1 v H2 → Q v H2) → te σ H1 Q
/-- a new list at p whose items vs are P p -/
def EvLR (te : TE) (σ : L2.St) (H : Hp) (P : Addr → List V → Hp → Prop) : Prop := ∀ H1, Ex H H1 → ∀ Q : VK, (∀ p vs H2, H1 p = none → Ex H1 H2 → H2 p = some (.lst vs) → P p vs H2 → Q (.ref p) H2) → te σ H1 Q
def Fills (R : Nat → V → Hp → Prop) (is : List Nat) (vs : List V) (H : Hp) : Prop := vs.length = is.length ∧ ∀ (k i : Nat) (v : V), is[k]? = some i → vs[k]? = some v → R i v H
structure CompR (R0 : Nat → Hp → V → Hp → Prop) (R : Addr → Nat → V → Hp → Prop) : Prop where
  new : ∀ D i v H1 H2 acc acc', Ex H1 H2 → H1 D = some (.lst acc) → R0 i H1 v H2 → R D i v (upd H2 D (.lst acc'))
  keep : ∀ D i v H H2 acc acc', H D = some (.lst acc) → H2 D = some (.lst acc') → (∀ a o, a ≠ D → H a = some o → H2 a = some o) → R D i v H → R D i v H2
def CwR (H : Hp) (R : Addr → Nat → V → Hp → Prop) (f : Nat → Bool) (D : Addr) (i : Nat) (H' : Hp) : Prop := H D = none ∧ Ex H H' ∧ ∃ vs, H' D = some (.lst vs) ∧ Fills (R D) ((List.range i).filter f) vs H'
section
variable {K : PySem.W.Frag} {σ : L2.St} {H : Hp} {te : TE} {t : TT} {g : TG} {R0 : Nat → Hp → V → Hp → Prop} {R : Addr → Nat → V → Hp → Prop}
theorem et_yes : EvT tYes σ H true := fun H1 _ _ q => q H1 (Ex.refl H1)
theorem evr_of {v : V} {R1 : Hp → V → Hp → Prop} (h : Ev te σ H v) (r : ∀ H1 H2, Ex H H1 → Ex H1 H2 → R1 H1 v H2) : EvR te σ H R1 := fun H1 e Q q => h H1 e Q fun H2 e2 => q v H2 e2 (r H1 H2 e e2)
theorem cwR_turn {H H' : Hp} {f : Nat → Bool} {D : Addr} {i : Nat} {σ2 : L2.St} (c : CompR R0 R) (p : CwR H R f D i H') (hi : i < 50000) (ht : EvT t σ2 H (f i)) (he : f i = true → EvR te σ2 H (R0 i)) :
    t σ2 H' fun b H3 => if b = true then te σ2 H3 fun y H4 => ∃ acc, H4 D = some (.lst acc) ∧ acc.length < sizeLine ∧ CwR H R f D (i + 1) (upd H4 D (.lst (acc ++ [y]))) else CwR H R f D (i + 1) H3 := by
  obtain ⟨p1, p2, vs, p3, p4, p5⟩ := p
  have hlen : ((List.range i).filter f).length ≤ i := by
    have h := List.length_filter_le f (List.range i)
    rw [List.length_range] at h
    exact h
  refine ht H' p2 _ fun H3 e3 => ?_
  cases hf : f i with
  | true =>
    show te σ2 H3 fun y H4 => ∃ acc, H4 D = some (.lst acc) ∧ acc.length < sizeLine ∧ CwR H R f D (i + 1) (upd H4 D (.lst (acc ++ [y])))
    refine he hf H3 (p2.trans e3) _ fun y H4 e4 r => ⟨vs, e4 D _ (e3 D _ p3), sz_lt (by omega), p1, Ex.mut ((p2.trans e3).trans e4) p1, vs ++ [y], upd_same, ?_⟩
    have er : (List.range (i + 1)).filter f = (List.range i).filter f ++ [i] := by
      rw [List.range_succ, List.filter_append, List.filter_cons, if_pos hf]
      rfl
    rw [er]
    refine ⟨by simp [p4], fun k j v h1 h2 => ?_⟩
    by_cases hk : k < vs.length
    · rw [List.getElem?_append_left (by omega)] at h1
      rw [List.getElem?_append_left hk] at h2
      exact c.keep D j v H' _ vs _ p3 upd_same (fun a o ha h => by rw [upd_ne ha]; exact e4 _ _ (e3 _ _ h)) (p5 k j v h1 h2)
    · have h0 : k = vs.length := by
        have := (List.getElem?_eq_some_iff.mp h2).1
        simp at this
        omega
      subst h0
      rw [List.getElem?_append_right (by omega), p4, Nat.sub_self] at h1
      rw [List.getElem?_append_right (by omega), Nat.sub_self] at h2
      have e1 : i = j := Option.some.inj h1
      have e2 : y = v := Option.some.inj h2
      subst e1 e2
      exact c.new D i y H3 H4 vs _ e4 (e3 D _ p3) r
  | false =>
    show CwR H R f D (i + 1) H3
    have er : (List.range (i + 1)).filter f = (List.range i).filter f := by
      rw [List.range_succ, List.filter_append, List.filter_cons, if_neg (by rw [hf]; decide)]
      show _ ++ [] = _
      rw [List.append_nil]
    refine ⟨p1, p2.trans e3, vs, e3 D _ p3, ?_⟩
    rw [er]
    exact ⟨p4, fun k j v h1 h2 => c.keep D j v H' _ vs _ p3 (e3 _ _ p3) (fun a o _ h => e3 _ _ h) (p5 k j v h1 h2)⟩
theorem cwR_end {H1 H' : Hp} {f : Nat → Bool} {D : Addr} {n : Nat} (p : CwR H1 R f D n H') : H1 D = none ∧ Ex H1 H' ∧ ∃ vs, H' D = some (.lst vs) ∧ Fills (R D) ((List.range n).filter f) vs H' := p
/-- over a list that stands, or a new one -/
theorem el_cL {a : Addr} {xs : List V} {tl : TE} {vs : List Nat} (f : Nat → Bool) (c : CompR R0 R) (h : Ev tl σ H (.ref a)) (hx : SqL K H a xs) (hz : xs.length ≤ 40000)
    (hg : ∀ i x, xs[i]? = some x → ∃ σ2, wipe σ2 vs = wipe σ vs ∧ (∀ H2 Q, Ex H H2 → Q σ2 H2 → g x (wipe σ vs) H2 Q) ∧ EvT t σ2 H (f i) ∧ (f i = true → EvR te σ2 H (R0 i))) :
    EvLR (tLc (iList K tl) g t te vs) σ H (fun D ys H2 => Fills (R D) ((List.range xs.length).filter f) ys H2) := fun H0 e Q q => h H0 e _ fun H1 e1 => ⟨a, rfl, ⟨xs, ex_l (e.trans e1) hx⟩, fun Dl hD =>
  lc_list (xs := xs) (CwR H1 R f Dl) ⟨hD, Ex.new hD, [], upd_same, by simp [Fills]⟩ (fun i H' _ p => ex_l ((e.trans e1).trans p.2.1) hx) (fun i x H' hi p => by
    obtain ⟨σ2, w1, w2, w3, w4⟩ := hg i x hi
    exact w2 H' _ ((e.trans e1).trans p.2.1) ⟨w1, cwR_turn c p (by have := (List.getElem?_eq_some_iff.mp hi).1; omega) (w3.mono (e.trans e1)) (fun hf H3 e3 => w4 hf H3 ((e.trans e1).trans e3))⟩)
    (fun H' p => by
      obtain ⟨p1, p2, ys, p3, p4⟩ := p
      exact q Dl ys H' (fresh_back e1 p1) (e1.trans p2) p3 p4)⟩
theorem el_cNL {xs : List V} {tl : TE} {vs : List Nat} (f : Nat → Bool) (c : CompR R0 R) (h : EvL tl σ H xs) (hz : xs.length ≤ 40000)
    (hg : ∀ i x, xs[i]? = some x → ∃ σ2, wipe σ2 vs = wipe σ vs ∧ (∀ H2 Q, Ex H H2 → Q σ2 H2 → g x (wipe σ vs) H2 Q) ∧ EvT t σ2 H (f i) ∧ (f i = true → EvR te σ2 H (R0 i))) :
    EvLR (tLc (iList K tl) g t te vs) σ H (fun D ys H2 => Fills (R D) ((List.range xs.length).filter f) ys H2) := fun H0 e Q q => h H0 e _ fun a H1 ha e1 hx => ⟨a, rfl, ⟨xs, sq_of hx⟩, fun Dl hD =>
  lc_list (xs := xs) (CwR H1 R f Dl) ⟨hD, Ex.new hD, [], upd_same, by simp [Fills]⟩ (fun i H' _ p => sq_of (p.2.1 a _ hx)) (fun i x H' hi p => by
    obtain ⟨σ2, w1, w2, w3, w4⟩ := hg i x hi
    exact w2 H' _ ((e.trans e1).trans p.2.1) ⟨w1, cwR_turn c p (by have := (List.getElem?_eq_some_iff.mp hi).1; omega) (w3.mono (e.trans e1)) (fun hf H3 e3 => w4 hf H3 ((e.trans e1).trans e3))⟩)
    (fun H' p => by
      obtain ⟨p1, p2, ys, p3, p4⟩ := p
      exact q Dl ys H' (fresh_back e1 p1) (e1.trans p2) p3 p4)⟩
theorem el_cR1 {ta : TA} {vs : List Nat} {n : Nat} (f : Nat → Bool) (c : CompR R0 R) (h : EvA ta σ H [.int (n : Int)]) (hn : n ≤ 40000)
    (hg : ∀ i, i < n → ∃ σ2, wipe σ2 vs = wipe σ vs ∧ (∀ H2 Q, Ex H H2 → Q σ2 H2 → g (.int (i : Int)) (wipe σ vs) H2 Q) ∧ EvT t σ2 H (f i) ∧ (f i = true → EvR te σ2 H (R0 i))) :
    EvLR (tLc (iRng1 ta) g t te vs) σ H (fun D ys H2 => Fills (R D) ((List.range n).filter f) ys H2) := fun H0 e Q q => h H0 e _ fun H1 e1 => ⟨(n : Int), rfl, by omega, by omega, fun Dl hD =>
  lc_range (lo := 0) (n := n) (CwR H1 R f Dl) ⟨hD, Ex.new hD, [], upd_same, by simp [Fills]⟩ (fun i H' hi p => by
    obtain ⟨σ2, w1, w2, w3, w4⟩ := hg i hi
    rw [Int.zero_add]
    exact w2 H' _ ((e.trans e1).trans p.2.1) ⟨w1, cwR_turn c p (by omega) (w3.mono (e.trans e1)) (fun hf H3 e3 => w4 hf H3 ((e.trans e1).trans e3))⟩)
    (fun H' p => by
      obtain ⟨p1, p2, ys, p3, p4⟩ := p
      exact q Dl ys H' (fresh_back e1 p1) (e1.trans p2) p3 p4)⟩
theorem el_cR2 {ta : TA} {vs : List Nat} {lo n : Nat} (f : Nat → Bool) (c : CompR R0 R) (h : EvA ta σ H [.int (lo : Int), .int (n : Int)]) (hn : n ≤ 40000) (hlo : lo ≤ 40000)
    (hg : ∀ i, i < n - lo → ∃ σ2, wipe σ2 vs = wipe σ vs ∧ (∀ H2 Q, Ex H H2 → Q σ2 H2 → g (.int ((lo + i : Nat) : Int)) (wipe σ vs) H2 Q) ∧ EvT t σ2 H (f i) ∧ (f i = true → EvR te σ2 H (R0 i))) :
    EvLR (tLc (iRng2 ta) g t te vs) σ H (fun D ys H2 => Fills (R D) ((List.range (n - lo)).filter f) ys H2) := fun H0 e Q q => h H0 e _ fun H1 e1 => ⟨(lo : Int), (n : Int), rfl, by omega, fun Dl hD => by
  have en : ((n : Int) - (lo : Int)).toNat = n - lo := by omega
  rw [en]
  exact lc_range (lo := (lo : Int)) (n := n - lo) (CwR H1 R f Dl) ⟨hD, Ex.new hD, [], upd_same, by simp [Fills]⟩ (fun i H' hi p => by
    obtain ⟨σ2, w1, w2, w3, w4⟩ := hg i hi
    have ei : (lo : Int) + (i : Int) = ((lo + i : Nat) : Int) := by omega
    rw [ei]
    exact w2 H' _ ((e.trans e1).trans p.2.1) ⟨w1, cwR_turn c p (by omega) (w3.mono (e.trans e1)) (fun hf H3 e3 => w4 hf H3 ((e.trans e1).trans e3))⟩)
    (fun H' p => by
      obtain ⟨p1, p2, ys, p3, p4⟩ := p
      exact q Dl ys H' (fresh_back e1 p1) (e1.trans p2) p3 p4)⟩
/-- x = [..] -/
theorem p_asgLR {H0 : Hp} {D : Ends} {tz : TS} {i : Nat} {P : Addr → List V → Hp → Prop} (e : Ex H0 H) (h : EvLR te σ H0 P) (k : ∀ p vs H1, H p = none → Ex H0 H1 → Ex H H1 → H1 p = some (.lst vs) → P p vs H1 → tz D (σ.set i (some (.ref p))) H1) : tSeq (tAsg te (gName i)) tz D σ H :=
  h H e _ fun p vs H1 hp e1 h1 r => k p vs H1 hp (e.trans e1) e1 h1 r
theorem p_retLR {H0 : Hp} {D : Ends} {P : Addr → List V → Hp → Prop} (e : Ex H0 H) (h : EvLR te σ H0 P) (k : ∀ p vs H1, H0 p = none → Ex H0 H1 → H1 p = some (.lst vs) → P p vs H1 → D.rt (.ref p) H1) : tRet te D σ H :=
  h H e _ fun p vs H1 hp e1 h1 r => k p vs H1 (fresh_back e hp) (e.trans e1) h1 r
end
theorem filter_yes (n : Nat) : (List.range n).filter (fun _ => true) = List.range n := List.filter_eq_self.mpr fun _ _ => rfl
/-- ties made one by one -/
theorem compTie {K : PySem.W.Frag} {t : Nat → Tie} : CompR (fun i _ v H2 => TieV K H2 v (t i)) (fun _ i v H => TieV K H v (t i)) := by
  refine ⟨fun D i v H1 H2 acc acc' e hD r => ?_, fun D i v H H2 acc acc' h1 h2 k r => ?_⟩
  · obtain ⟨a, rfl, r⟩ := r
    refine ⟨a, rfl, ?_⟩
    have hD2 := e _ _ hD
    rcases r with (r | ⟨o, r⟩) | r
    · exact .inl (.inl (by rw [upd_ne (ne_of r hD2 (by intro q; cases q))]; exact r))
    · exact .inl (.inr ⟨o, by rw [upd_ne (ne_of r hD2 (by intro q; cases q))]; exact r⟩)
    · exact .inr r
  · obtain ⟨a, rfl, r⟩ := r
    refine ⟨a, rfl, ?_⟩
    rcases r with (r | ⟨o, r⟩) | r
    · exact .inl (.inl (k _ _ (ne_of r h1 (by intro q; cases q)) r))
    · exact .inl (.inr ⟨o, k _ _ (ne_of r h1 (by intro q; cases q)) r⟩)
    · exact .inr r
theorem Fills.ties {K : PySem.W.Frag} {t : Nat → Tie} {is : List Nat} {vs : List V} {H : Hp} (h : Fills (fun i v H => TieV K H v (t i)) is vs H) : TiesV K H vs (is.map t) := by
  refine ⟨by rw [h.1, List.length_map], fun k v y h1 h2 => ?_⟩
  rw [List.getElem?_map] at h2
  cases e : is[k]? with
  | none => rw [e] at h2; cases h2
  | some i =>
    rw [e] at h2
    have e2 : t i = y := Option.some.inj h2
    rw [← e2]
    exact h.2 k i v e h1
theorem range_getD {α β : Type} (f : α → β) (xs : List α) (d : α) : (List.range xs.length).map (fun i => f (xs.getD i d)) = xs.map f := by
  apply List.ext_getElem?
  intro i
  by_cases h : i < xs.length
  · rw [List.getElem?_map, List.getElem?_range h, List.getElem?_map, List.getElem?_eq_getElem h]
    simp [List.getD, List.getElem?_eq_getElem h]
  · rw [List.getElem?_eq_none (by simp; omega), List.getElem?_eq_none (by simp; omega)]
/-- a cut of a list -/
def cutG {α : Type} (xs : List α) (lo hi : Option Int) : List α := (xs.drop (HT.sIx xs.length 0 lo)).take (HT.sIx xs.length xs.length hi - HT.sIx xs.length 0 lo)
theorem cutV_map {α : Type} (f : α → V) (xs : List α) (lo hi : Option Int) : cutV (xs.map f) lo hi = (cutG xs lo hi).map f := by
  unfold cutV cutG
  rw [List.length_map, List.map_take, List.map_drop]
/-! ### isinstance -/
theorem tyx_l {K : PySem.W.Frag} {H : Hp} {a : Addr} {xs : List V} (h : SqL K H a xs) : TyX K H (.ref a) (.type "list") := by
  rcases h with (h | ⟨o, h⟩) | ⟨o, its, n, h, c, _⟩
  · exact .base (.lst h)
  · exact .base (.frz h)
  · exact .kList h c
theorem tyx_t {K : PySem.W.Frag} {H : Hp} {a : Addr} {xs : List V} (h : SqT K H a xs) : TyX K H (.ref a) (.type "tuple") := by
  rcases h with (h | ⟨o, h⟩) | ⟨o, its, n, h, c, _⟩
  · exact .base (.tup h)
  · exact .fTuple h
  · exact .kTuple h c
theorem rc_isi {K : PySem.W.Frag} {H : Hp} {x c : V} {t u : Value} {b : Bool} (hc : ClsV c u) (ht : ∀ H1, Ex H H1 → TyX K H1 x t) (hk : PySem.W.kitOne K t u = some b) : RC (rIsi K) [x, c] H (.bl b) := fun H1 e _ q => ⟨x, c, t, u, b, rfl, hc, ht H1 e, hk, q H1 (Ex.refl H1)⟩
section
variable {K : PySem.W.Frag} {σ : L2.St} {H : Hp} {ta tb : TE}
theorem ev_isiI {i : Int} {T : String} {b : Bool} (ha : Ev ta σ H (.int i)) (hk : kitB "int" T = some b) : Ev (tCB (rIsi K) (tCons ta (tCons (tC (.ty T)) tNil))) σ H (.bl b) :=
  ev_cb (ea_cons ha (ea_cons ev_c ea_nil)) (rc_isi (.ty T) (fun _ _ => .base (.int i)) (kit_ty hk))
theorem ev_isiS {x : Str} {T : String} {b : Bool} (ha : Ev ta σ H (.str x)) (hk : kitB "str" T = some b) : Ev (tCB (rIsi K) (tCons ta (tCons (tC (.ty T)) tNil))) σ H (.bl b) :=
  ev_cb (ea_cons ha (ea_cons ev_c ea_nil)) (rc_isi (.ty T) (fun _ _ => .base (.str x)) (kit_ty hk))
theorem ev_isiL {a : Addr} {xs : List V} {T : String} {b : Bool} (ha : Ev ta σ H (.ref a)) (h : SqL K H a xs) (hk : kitB "list" T = some b) : Ev (tCB (rIsi K) (tCons ta (tCons (tC (.ty T)) tNil))) σ H (.bl b) :=
  ev_cb (ea_cons ha (ea_cons ev_c ea_nil)) (rc_isi (.ty T) (fun _ e => tyx_l (ex_l e h)) (kit_ty hk))
theorem ev_isiT {a : Addr} {xs : List V} {T : String} {b : Bool} (ha : Ev ta σ H (.ref a)) (h : SqT K H a xs) (hk : kitB "tuple" T = some b) : Ev (tCB (rIsi K) (tCons ta (tCons (tC (.ty T)) tNil))) σ H (.bl b) :=
  ev_cb (ea_cons ha (ea_cons ev_c ea_nil)) (rc_isi (.ty T) (fun _ e => tyx_t (ex_t e h)) (kit_ty hk))
end

/-! ### == of data -/
def pds (ns : List Int) : List PyData := ns.map PyData.int
def tvI (t : Tie) : List Int := [(t.1 : Int), (t.2.1 : Int), t.2.2]
def pdt (ts : List Tie) : List PyData := ts.map fun t => PyData.tuple (pds (tvI t))
mutual
theorem dp_ex {K : PySem.W.Frag} {H H' : Hp} (e : Ex H H') : ∀ (d : PyData) (v : V), Dp K H v d → Dp K H' v d
  | .none, _, h => by cases h; exact .non
  | .bool b, _, h => by cases h; exact .bl b
  | .int i, _, h => by cases h; exact .int i
  | .str x, _, h => by cases h; exact .str x
  | .list ds, _, h => by
    cases h with
    | lst hs ha => exact .lst (ex_l e hs) (dp_exA e ds _ ha)
  | .tuple ds, _, h => by
    cases h with
    | tup hs ha => exact .tup (ex_t e hs) (dp_exA e ds _ ha)
  | .dict _, _, h => by cases h
theorem dp_exA {K : PySem.W.Frag} {H H' : Hp} (e : Ex H H') : ∀ (ds : List PyData) (vs : List V), DpAll K H vs ds → DpAll K H' vs ds
  | [], _, h => by cases h; exact .nil
  | d :: ds, _, h => by
    cases h with
    | cons h1 h2 => exact .cons (dp_ex e d _ h1) (dp_exA e ds _ h2)
end
theorem dp_ints {K : PySem.W.Frag} {H : Hp} : ∀ ns : List Int, DpAll K H (ns.map V.int) (pds ns)
  | [] => .nil
  | n :: ns => .cons (.int n) (dp_ints ns)
theorem pds_lay : ∀ ns : List Int, PyData.canLayAll0 (pds ns) = true
  | [] => rfl
  | n :: ns => by
    show (PyData.canLay0 (.int n) && PyData.canLayAll0 (pds ns)) = true
    rw [pds_lay ns]
    rfl
theorem pds_depth : ∀ ns : List Int, PyData.depthAll (pds ns) = 0
  | [] => rfl
  | n :: ns => by
    show max (PyData.depth (.int n)) (PyData.depthAll (pds ns)) = 0
    rw [pds_depth ns]
    rfl
theorem sh_ints (ns : List Int) : SeqAt.shaped (.list (pds ns)) = true := by
  unfold SeqAt.shaped PyData.canLay0 PyData.depth
  rw [pds_lay, pds_depth]
  rfl
theorem sh_intsT (ns : List Int) : SeqAt.shaped (.tuple (pds ns)) = true := by
  unfold SeqAt.shaped PyData.canLay0 PyData.depth
  rw [pds_lay, pds_depth]
  rfl
theorem eqv_pds : ∀ ns ms : List Int, PyData.eqvAll (pds ns) (pds ms) = decide (ns = ms)
  | [], [] => rfl
  | [], m :: ms => rfl
  | n :: ns, [] => rfl
  | n :: ns, m :: ms => by
    show (PyData.eqv (.int n) (.int m) && PyData.eqvAll (pds ns) (pds ms)) = _
    rw [eqv_pds ns ms]
    show ((n == m) && decide (ns = ms)) = decide (n :: ns = m :: ms)
    by_cases h : n = m
    · subst h
      by_cases h2 : ns = ms
      · subst h2; simp
      · simp [h2]
    · simp [h]
theorem pdt_lay : ∀ ts : List Tie, PyData.canLayAll0 (pdt ts) = true
  | [] => rfl
  | t :: ts => by
    show (PyData.canLayAll0 (pds (tvI t)) && PyData.canLayAll0 (pdt ts)) = true
    rw [pdt_lay ts, pds_lay]
    rfl
theorem pdt_depth : ∀ ts : List Tie, PyData.depthAll (pdt ts) ≤ 1
  | [] => Nat.zero_le _
  | t :: ts => by
    show max (PyData.depthAll (pds (tvI t)) + 1) (PyData.depthAll (pdt ts)) ≤ 1
    rw [pds_depth]
    exact Nat.max_le.mpr ⟨Nat.le_refl _, pdt_depth ts⟩
theorem sh_ties (ts : List Tie) : SeqAt.shaped (.list (pdt ts)) = true := by
  unfold SeqAt.shaped PyData.canLay0 PyData.depth
  rw [pdt_lay, Bool.true_and]
  exact decide_eq_true (by have := pdt_depth ts; omega)
theorem tvI_inj {t u : Tie} (h : tvI t = tvI u) : t = u := by
  obtain ⟨a, b, c⟩ := t
  obtain ⟨x, y, z⟩ := u
  unfold tvI at h
  simp only [List.cons.injEq, and_true] at h
  obtain ⟨h1, h2, h3⟩ := h
  have e1 : a = x := Int.ofNat.inj h1
  have e2 : b = y := Int.ofNat.inj h2
  subst e1 e2 h3
  rfl
theorem eqv_pdt : ∀ ts us : List Tie, PyData.eqvAll (pdt ts) (pdt us) = decide (ts = us)
  | [], [] => rfl
  | [], m :: ms => rfl
  | n :: ns, [] => rfl
  | n :: ns, m :: ms => by
    show (PyData.eqvAll (pds (tvI n)) (pds (tvI m)) && PyData.eqvAll (pdt ns) (pdt ms)) = _
    rw [eqv_pdt ns ms, eqv_pds]
    by_cases h : n = m
    · subst h
      by_cases h2 : ns = ms
      · subst h2; simp
      · simp [h2]
    · rw [decide_eq_false (fun q => h (tvI_inj q)), decide_eq_false (fun q => h (List.cons.inj q).1)]
      rfl
theorem dp_tie {K : PySem.W.Frag} {H : Hp} {v : V} {t : Tie} (h : TieV K H v t) : Dp K H v (.tuple (pds (tvI t))) := by
  obtain ⟨a, rfl, h⟩ := h
  exact .tup h (dp_ints (tvI t))
theorem dp_ties {K : PySem.W.Frag} {H : Hp} : ∀ {vs : List V} {ts : List Tie}, TiesV K H vs ts → DpAll K H vs (pdt ts)
  | [], [], _ => .nil
  | [], t :: ts, h => by have := h.len; simp at this
  | v :: vs, [], h => by have := h.len; simp at this
  | v :: vs, t :: ts, h => .cons (dp_tie (h.at_ 0 v t rfl rfl)) (dp_ties ⟨by have := h.len; simpa using this, fun i x y h1 h2 => h.at_ (i + 1) x y h1 h2⟩)
section
variable {K : PySem.W.Frag} {σ : L2.St} {H : Hp} {ta tb : TE} {x y : V} {d e : PyData}
theorem rv_eqD (hd : Dp K H x d) (he : Dp K H y e) (sd : SeqAt.shaped d = true) (se : SeqAt.shaped e = true) : RV (rEqD K) x y H (.bl (PyData.eqv d e)) := fun H1 ex _ q => ⟨d, e, dp_ex ex d x hd, dp_ex ex e y he, sd, se, q H1 (Ex.refl H1)⟩
theorem rv_neD (hd : Dp K H x d) (he : Dp K H y e) (sd : SeqAt.shaped d = true) (se : SeqAt.shaped e = true) : RV (rNeD K) x y H (.bl (!PyData.eqv d e)) := fun H1 ex _ q => ⟨d, e, dp_ex ex d x hd, dp_ex ex e y he, sd, se, q H1 (Ex.refl H1)⟩
theorem eqv_intsL (ns ms : List Int) : PyData.eqv (.list (pds ns)) (.list (pds ms)) = decide (ns = ms) := eqv_pds ns ms
theorem eqv_intsT (ns ms : List Int) : PyData.eqv (.tuple (pds ns)) (.tuple (pds ms)) = decide (ns = ms) := eqv_pds ns ms
theorem eqv_tiesL (ts us : List Tie) : PyData.eqv (.list (pdt ts)) (.list (pdt us)) = decide (ts = us) := eqv_pdt ts us
/-- an item of a tie -/
theorem tv0 {t : Tie} : atI (tv t) 0 = some (.int (t.1 : Int)) := at_of (j := 0) rfl rfl
theorem tv1 {t : Tie} : atI (tv t) 1 = some (.int (t.2.1 : Int)) := at_of (j := 1) rfl rfl
theorem tv2 {t : Tie} : atI (tv t) 2 = some (.int t.2.2) := at_of (j := 2) rfl rfl
theorem ev_t0 {a : Addr} {t : Tie} (ha : Ev ta σ H (.ref a)) (h : SqT K H a (tv t)) : Ev (tOp (rIxT K) ta (tC (.int 0))) σ H (.int (t.1 : Int)) := ev_op ha ev_c (rv_ixT h tv0)
theorem ev_t1 {a : Addr} {t : Tie} (ha : Ev ta σ H (.ref a)) (h : SqT K H a (tv t)) : Ev (tOp (rIxT K) ta (tC (.int 1))) σ H (.int (t.2.1 : Int)) := ev_op ha ev_c (rv_ixT h tv1)
theorem ev_t2 {a : Addr} {t : Tie} (ha : Ev ta σ H (.ref a)) (h : SqT K H a (tv t)) : Ev (tOp (rIxT K) ta (tC (.int 2))) σ H (.int t.2.2) := ev_op ha ev_c (rv_ixT h tv2)
end
theorem mulN {n : Nat} (h1 : 2 ≤ n) (h2 : n ≤ 24) : (0 : Int) < (n : Int) * ((n : Int) - 1) ∧ (n : Int) * ((n : Int) - 1) < 1000 := by
  have e : (n : Int) * ((n : Int) - 1) = ((n * (n - 1) : Nat) : Int) := by
    rw [Int.natCast_mul]
    congr 1
    omega
  have a : 0 < n * (n - 1) := Nat.mul_pos (by omega) (by omega)
  have b : n * (n - 1) ≤ 24 * 23 := Nat.mul_le_mul h2 (by omega)
  rw [e]
  omega
/-- a tie by a cell -/
def tieOf (n : Nat) (top c : Int) : Tie := ((c % (n : Int)).toNat, ((c % (n : Int) + 1 + c / (n : Int) % ((n : Int) - 1)) % (n : Int)).toNat, 1 + c / ((n : Int) * ((n : Int) - 1)) % top)
theorem otherOf {n a r : Int} (h0 : 0 ≤ a) (h1 : a < n) (r0 : 0 ≤ r) (r1 : r < n - 1) : (a + 1 + r) % n ≠ a ∧ 0 ≤ (a + 1 + r) % n ∧ (a + 1 + r) % n < n := by
  have hn : 0 < n := by omega
  refine ⟨?_, Int.emod_nonneg _ (by omega), Int.emod_lt_of_pos _ hn⟩
  by_cases h : a + 1 + r < n
  · rw [Int.emod_eq_of_lt (by omega) h]
    omega
  · have e : (a + 1 + r) % n = a + 1 + r - n := by
      have e1 : a + 1 + r = (a + 1 + r - n) + n := by omega
      rw [e1, Int.add_emod_right, Int.emod_eq_of_lt (by omega) (by omega)]
      omega
    rw [e]
    omega
theorem tieOf_good {n : Nat} {top c : Int} (h : 2 ≤ n) (h1 : 1 ≤ top) (h2 : top ≤ 1000000000) : Good n (tieOf n top c) := by
  have a0 : 0 ≤ c % (n : Int) := Int.emod_nonneg _ (by omega)
  have a1 : c % (n : Int) < n := Int.emod_lt_of_pos _ (by omega)
  have r0 : 0 ≤ c / (n : Int) % ((n : Int) - 1) := Int.emod_nonneg _ (by omega)
  have r1 : c / (n : Int) % ((n : Int) - 1) < (n : Int) - 1 := Int.emod_lt_of_pos _ (by omega)
  obtain ⟨o1, o2, o3⟩ := otherOf a0 a1 r0 r1
  have p0 : 0 ≤ c / ((n : Int) * ((n : Int) - 1)) % top := Int.emod_nonneg _ (by omega)
  have p1 : c / ((n : Int) * ((n : Int) - 1)) % top < top := Int.emod_lt_of_pos _ (by omega)
  refine ⟨?_, ?_, ?_, ?_, ?_⟩
  · show (c % (n : Int)).toNat < n
    omega
  · show ((c % (n : Int) + 1 + c / (n : Int) % ((n : Int) - 1)) % (n : Int)).toNat < n
    omega
  · show (c % (n : Int)).toNat ≠ ((c % (n : Int) + 1 + c / (n : Int) % ((n : Int) - 1)) % (n : Int)).toNat
    omega
  · show 1 ≤ 1 + c / ((n : Int) * ((n : Int) - 1)) % top
    omega
  · show 1 + c / ((n : Int) * ((n : Int) - 1)) % top ≤ 1000000000
    omega
theorem eu_is {te : TE} {σ : L2.St} {H : Hp} {xs ys : List V} (h : EvU te σ H xs) (e : xs = ys) : EvU te σ H ys := by
  rw [← e]
  exact h
def cellA (ns : List Int) (k : Nat) : Int := ns.getD k 0

/-! ### what stands while a list changes -/
theorem sqt_updL {K : PySem.W.Frag} {H : Hp} {a l : Addr} {xs ys zs : List V} (h : SqT K H a ys) (hl : H l = some (.lst xs)) : SqT K (upd H l (.lst zs)) a ys := by
  rcases h with (h | ⟨o, h⟩) | h
  · exact .inl (.inl (by rw [upd_ne (ne_of h hl (by intro q; cases q))]; exact h))
  · exact .inl (.inr ⟨o, by rw [upd_ne (ne_of h hl (by intro q; cases q))]; exact h⟩)
  · exact .inr h
theorem TieV.updL {K : PySem.W.Frag} {H : Hp} {l : Addr} {xs zs : List V} {v : V} {t : Tie} (h : TieV K H v t) (hl : H l = some (.lst xs)) : TieV K (upd H l (.lst zs)) v t := by
  obtain ⟨a, rfl, h⟩ := h
  exact ⟨a, rfl, sqt_updL h hl⟩
theorem TiesV.updL {K : PySem.W.Frag} {H : Hp} {l : Addr} {xs zs vs : List V} {ts : List Tie} (h : TiesV K H vs ts) (hl : H l = some (.lst xs)) : TiesV K (upd H l (.lst zs)) vs ts := ⟨h.len, fun i v t a b => (h.at_ i v t a b).updL hl⟩
def tri : Nat → Nat
  | 0 => 0
  | i + 1 => tri i + i
theorem tri24 : ∀ n, n < 25 → tri n ≤ 276 := by decide
theorem tri20 : ∀ n, n < 21 → tri n ≤ 190 := by decide
def topOf (c : Int) : Int := if c % 3 = 0 then 3 else if c % 3 = 1 then 20 else 1000000000
theorem topOf_at (c : Int) : atI [V.int 3, V.int 20, V.int 1000000000] (c % 3) = some (.int (topOf c)) := by
  have h0 : 0 ≤ c % 3 := Int.emod_nonneg _ (by decide)
  have h1 : c % 3 < 3 := Int.emod_lt_of_pos _ (by decide)
  unfold topOf
  by_cases e0 : c % 3 = 0
  · rw [if_pos e0]
    exact at_of (j := 0) (by omega) rfl
  · rw [if_neg e0]
    by_cases e1 : c % 3 = 1
    · rw [if_pos e1]
      exact at_of (j := 1) (by omega) rfl
    · rw [if_neg e1]
      exact at_of (j := 2) (by omega) rfl
theorem topOf_b (c : Int) : 1 ≤ topOf c ∧ topOf c ≤ 1000000000 := by
  unfold topOf
  split
  · omega
  · split <;> omega
/-- an item of a display -/
theorem ev_pick {K : PySem.W.Frag} {σ : L2.St} {H : Hp} {ta : TA} {tb : TE} {vs : List V} {i : Int} {v : V} (ha : EvA ta σ H vs) (hl : vs.length ≤ 100000) (hb : Ev tb σ H (.int i)) (h : atI vs i = some v) : Ev (tOp (rIxL K) (tLst ta) tb) σ H v :=
  ev_opL1 (el_lst ha hl) (fun H1 e => hb.mono e) (fun p H1 h1 _ => rv_ixL (sq_of h1) h)
theorem cutV_len (xs : List V) (lo hi : Nat) : (cutV xs (some (lo : Int)) (some (hi : Int))).length ≤ hi - lo := by
  unfold cutV
  rw [HT.sIx_nat, HT.sIx_nat, List.length_take, List.length_drop]
  omega
theorem cutV_lenN (xs : List V) (hi : Nat) : (cutV xs none (some (hi : Int))).length ≤ hi := by
  unfold cutV
  rw [HT.sIx_nat, HT.sIx_none, List.length_take, List.length_drop]
  omega
/-- the first ties of a list of ties -/
theorem TiesV.cut {K : PySem.W.Frag} {H : Hp} {vs : List V} {ts : List Tie} (h : TiesV K H vs ts) (hi : Nat) : TiesV K H (cutV vs none (some (hi : Int))) (ts.take hi) := by
  have e : cutV vs none (some (hi : Int)) = vs.take hi := by
    unfold cutV
    rw [HT.sIx_nat, HT.sIx_none, List.drop_zero, Nat.sub_zero, ← List.take_take, List.take_length]
  rw [e]
  refine ⟨by rw [List.length_take, List.length_take, h.len], fun i v t a b => ?_⟩
  rw [List.getElem?_take] at a b
  split at a
  · rename_i hlt
    rw [if_pos hlt] at b
    exact h.at_ i v t a b
  · cases a

section
variable {K : PySem.W.Frag} {σ : L2.St} {H H0 : Hp} {ta tb te : TE} {D : Ends} {tz : TS}
/-- f(..).append(e): the list is new, and gone -/
theorem q_appNew {xs : List V} {v : V} (h : EvL te σ H xs) (hv : Ev ta σ H v) (hz : xs.length < 100000) (k : ∀ H1, Ex H H1 → tz D σ H1) : tSeq (tDrop (tBM K "list" rAppend te (tCons ta tNil))) tz D σ H := h H (Ex.refl H) _ fun p H1 hp e1 h1 =>
  ⟨Or.inl ⟨rfl, xs, sq_of h1⟩, hv H1 e1 _ fun H2 e2 => ⟨p, xs, v, rfl, rfl, e2 _ _ h1, sz_lt hz, k _ ((e1.trans e2).mut hp)⟩⟩
theorem ints_at {ns : List Int} {i : Nat} {x : V} (h : (ns.map V.int)[i]? = some x) : ∃ n, ns[i]? = some n ∧ x = .int n := by
  rw [List.getElem?_map] at h
  cases e : ns[i]? with
  | none => rw [e] at h; cases h
  | some c =>
    rw [e] at h
    exact ⟨c, rfl, (Option.some.inj h).symm⟩
theorem dp_IL {K : PySem.W.Frag} {H : Hp} {a : Addr} {ns : List Nat} (h : SqL K H a (IL ns)) : Dp K H (.ref a) (.list (pds (ns.map fun (k : Nat) => (k : Int)))) := .lst h (by rw [IL_eq]; exact dp_ints _)
/-- what a side costs -/
def cutP (ts : List Tie) (ns : List Nat) : Int := (ts.map fun t => if (decide (t.1 ∈ ns) != decide (t.2.1 ∈ ns)) = true then t.2.2 else 0).sum
theorem cutP_mem {ts : List Tie} {ns ms : List Nat} (h : ∀ t ∈ ts, (t.1 ∈ ns ↔ t.1 ∈ ms) ∧ (t.2.1 ∈ ns ↔ t.2.1 ∈ ms)) : cutP ts ns = cutP ts ms := by
  unfold cutP
  congr 1
  refine List.map_congr_left fun t ht => ?_
  obtain ⟨a, b⟩ := h t ht
  rw [decide_eq_decide.mpr a, decide_eq_decide.mpr b]
end
theorem sum_filter {α : Type} (d : α) (p : α → Bool) (g : α → Int) (xs : List α) : (((List.range xs.length).filter fun i => p (xs.getD i d)).map fun i => g (xs.getD i d)).sum = (xs.map fun x => if p x = true then g x else 0).sum := by
  have e : ((List.range xs.length).filter fun i => p (xs.getD i d)).map (fun i => g (xs.getD i d)) = (xs.filter p).map g := by
    have e1 : xs = (List.range xs.length).map fun i => xs.getD i d := by
      have := range_getD (fun x : α => x) xs d
      rw [List.map_id'] at this
      exact this.symm
    conv => rhs; rw [e1]
    rw [List.filter_map, List.map_map]
    rfl
  rw [e]
  induction xs with
  | nil => rfl
  | cons x xs ih =>
    have e1 : (((List.range xs.length).filter fun i => p (xs.getD i d)).map fun i => g (xs.getD i d)) = (xs.filter p).map g := by
      have e1 : xs = (List.range xs.length).map fun i => xs.getD i d := by
        have := range_getD (fun x : α => x) xs d
        rw [List.map_id'] at this
        exact this.symm
      conv => rhs; rw [e1]
      rw [List.filter_map, List.map_map]
      rfl
    have ih := ih e1
    by_cases h : p x = true
    · rw [List.filter_cons, if_pos h, List.map_cons, List.map_cons, List.sum_cons, List.sum_cons, if_pos h, ih]
    · rw [List.filter_cons, if_neg h, List.map_cons, List.sum_cons, if_neg h, ih, Int.zero_add]
theorem given_ints {n : Nat} {f : Nat → Bool} {w : Nat → Int} : given n f (fun i => .int (w i)) = ((((List.range n).filter f).map w).map V.int) := by
  unfold given
  rw [List.map_map]
  rfl

theorem p_asgR {te : TE} {σ : L2.St} {H0 H : Hp} {D : Ends} {tz : TS} {i : Nat} {R0 : Hp → V → Hp → Prop} (e : Ex H0 H) (h : EvR te σ H0 R0) (k : ∀ v H1, Ex H0 H1 → Ex H H1 → R0 H v H1 → tz D (σ.set i (some v)) H1) : tSeq (tAsg te (gName i)) tz D σ H := h H e _ fun v H1 e1 r => k v H1 (e.trans e1) e1 r
theorem p_dropR {te : TE} {σ : L2.St} {H0 H : Hp} {D : Ends} {tz : TS} {R0 : Hp → V → Hp → Prop} (e : Ex H0 H) (h : EvR te σ H0 R0) (k : ∀ v H1, Ex H0 H1 → Ex H H1 → R0 H v H1 → tz D σ H1) : tSeq (tDrop te) tz D σ H := h H e _ fun v H1 e1 r => k v H1 (e.trans e1) e1 r
/-- x.append(e), x any value that is known by a relation to be a new list -/
theorem q_appR {K : PySem.W.Frag} {σ : L2.St} {H : Hp} {ta te : TE} {D : Ends} {tz : TS} {v : V} {R0 : Hp → V → Hp → Prop} (h : EvR te σ H R0) (hr : ∀ H1 x H2, R0 H1 x H2 → ∃ p xs, x = .ref p ∧ H1 p = none ∧ H2 p = some (.lst xs) ∧ xs.length < 100000) (hv : Ev ta σ H v) (k : ∀ H1, Ex H H1 → tz D σ H1) :
    tSeq (tDrop (tBM K "list" rAppend te (tCons ta tNil))) tz D σ H := h H (Ex.refl H) _ fun x H1 e1 r => by
  obtain ⟨p, xs, rfl, hp, h1, hz⟩ := hr _ _ _ r
  exact ⟨Or.inl ⟨rfl, xs, sq_of h1⟩, hv H1 e1 _ fun H2 e2 => ⟨p, xs, v, rfl, rfl, e2 _ _ h1, sz_lt hz, k _ ((e1.trans e2).mut hp)⟩⟩
/-- x.reverse() -/
theorem q_rev {K : PySem.W.Frag} {σ : L2.St} {H : Hp} {ta : TE} {D : Ends} {l : Addr} {xs : List V} (hl : H l = some (.lst xs)) (ha : Ev ta σ H (.ref l)) (k : ∀ H1, Ex H H1 → D.nx σ (upd H1 l (.lst xs.reverse))) :
    tDrop (tBM0 K "list" rReverse ta) D σ H := ha H (Ex.refl H) _ fun H1 e1 => ⟨Or.inl ⟨rfl, xs, sq_of (e1 _ _ hl)⟩, l, xs, rfl, rfl, e1 _ _ hl, k H1 e1⟩

/-- an if whose ways meet in Fin -/
theorem p_whenK {σ : L2.St} {H0 H : Hp} {t : TT} {D : Ends} {tu tz : TS} {b : Bool} (Fin : L2.St → Hp → Prop) (e : Ex H0 H) (h : EvT t σ H0 b) (h1 : b = true → ∀ H1, Ex H0 H1 → Ex H H1 → (∀ σ' H', Fin σ' H' → tz D σ' H') → tu { D with nx := tz D } σ H1) (h2 : b = false → ∀ H1, Ex H0 H1 → Ex H H1 → Fin σ H1) (k : ∀ σ' H', Fin σ' H' → tz D σ' H') : tSeq (tIfS t tu tNext) tz D σ H :=
  p_when e h (fun hb H1 a b => h1 hb H1 a b k) fun hb H1 a b => k _ _ (h2 hb H1 a b)

section
variable {K : PySem.W.Frag} {σ : L2.St} {H : Hp} {te : TE}
theorem ev_sumL {ns : List Int} (h : EvL te σ H (ns.map V.int)) : Ev (tCB (rSum K) (tCons te tNil)) σ H (.int ns.sum) := fun H1 e Q q => h H1 e _ fun p H2 hp e2 h2 => ⟨p, ns, rfl, sq_of h2, q H2 e2⟩
theorem nodup_rev {ns : List Nat} (h : ns.Nodup) : ns.reverse.Nodup := by
  unfold List.Nodup at h ⊢
  rw [List.pairwise_reverse]
  exact h.imp Ne.symm
/-- sum([t[2] for t in ties if (t[0] in side) != (t[1] in side)]) -/
theorem ev_cut {p j s : Nat} {l sd : Addr} {xs : List V} {ts : List Tie} {ns : List Nat} (hp : σ[p]? = some (some (.ref l))) (hl : SqL K H l xs) (tz : TiesV K H xs ts) (hsd : SqL K H sd (IL ns)) (hz : ts.length ≤ 40000)
    (hj : ∀ x, ((wipe σ [j]).set j (some x))[j]? = some (some x)) (hs : ∀ x, ((wipe σ [j]).set j (some x))[s]? = some (some (.ref sd))) (hw : ∀ x, wipe ((wipe σ [j]).set j (some x)) [j] = wipe σ [j]) :
    Ev (tCB (rSum K) (tCons (tLc (iList K (tVar p)) (gName j) (tTest (tOp rNe (tOp (rIn K false) (tOp (rIxT K) (tVar j) (tC (.int 0))) (tVar s)) (tOp (rIn K false) (tOp (rIxT K) (tVar j) (tC (.int 1))) (tVar s)))) (tOp (rIxT K) (tVar j) (tC (.int 2))) [j]) tNil)) σ H (.int (cutP ts ns)) := by
  have key := sum_filter ((0, 0, 0) : Tie) (fun t => decide (t.1 ∈ ns) != decide (t.2.1 ∈ ns)) (fun t => t.2.2) ts
  have e0 : cutP ts ns = (((List.range ts.length).filter fun i => decide ((ts.getD i (0, 0, 0)).1 ∈ ns) != decide ((ts.getD i (0, 0, 0)).2.1 ∈ ns)).map fun i => (ts.getD i (0, 0, 0)).2.2).sum := key.symm
  rw [e0]
  refine ev_sumL ?_
  rw [← given_ints, ← tz.len]
  refine el_lcL (f := fun i => decide ((ts.getD i (0, 0, 0)).1 ∈ ns) != decide ((ts.getD i (0, 0, 0)).2.1 ∈ ns)) (v := fun i => .int (ts.getD i (0, 0, 0)).2.2) (ev_var hp) hl (by rw [tz.len]; exact hz) hw (fun i x H1 e hx => ?_) (fun i x H1 e hx _ => ?_)
  · obtain ⟨t, a, ht, rfl, ha⟩ := tz.get hx
    have et : ts.getD i (0, 0, 0) = t := by simp [List.getD, ht]
    rw [et]
    have ha1 := ex_t e ha
    exact et_is (et_test (ev_op (ev_inIL (ev_t0 (ev_var (hj _)) ha1) (ev_var (hs _)) (ex_l e hsd)) (ev_inIL (ev_t1 (ev_var (hj _)) ha1) (ev_var (hs _)) (ex_l e hsd)) (rv_ne rfl))) bl_ne
  · obtain ⟨t, a, ht, rfl, ha⟩ := tz.get hx
    have et : ts.getD i (0, 0, 0) = t := by simp [List.getD, ht]
    rw [et]
    exact ev_t2 (ev_var (hj _)) (ex_t e ha)
theorem sh_two (a b : List Int) : SeqAt.shaped (.list [.list (pds a), .list (pds b)]) = true := by
  unfold SeqAt.shaped
  have h1 : PyData.canLay0 (.list [.list (pds a), .list (pds b)]) = true := by
    show (PyData.canLayAll0 (pds a) && (PyData.canLayAll0 (pds b) && true)) = true
    rw [pds_lay, pds_lay]
    rfl
  have h2 : PyData.depth (.list [.list (pds a), .list (pds b)]) = 2 := by
    show max (PyData.depthAll (pds a) + 1) (max (PyData.depthAll (pds b) + 1) 0) + 1 = 2
    rw [pds_depth, pds_depth]
    rfl
  rw [h1, h2]
  rfl
end

/-- a loop over a list that an expression makes -/
theorem q_forE {K : PySem.W.Frag} {σ : L2.St} {H : Hp} {tl : TE} {g : TG} {D : Ends} {tu tz : TS} {R0 : Hp → V → Hp → Prop} (h : EvR tl σ H R0)
    (k : ∀ v H1, Ex H H1 → R0 H v H1 → ∃ p xs, v = .ref p ∧ SqL K H1 p xs ∧ ∃ Pv : Nat → L2.St → Hp → Prop, Pv 0 σ H1 ∧ (∀ i σ' H', i ≤ xs.length → Pv i σ' H' → SqL K H' p xs) ∧ (∀ i x σ' H', xs[i]? = some x → Pv i σ' H' → g x σ' H' fun σ2 H2 => tu { D with nx := Pv (i + 1), ct := Pv (i + 1), bk := tz D } σ2 H2) ∧ ∀ σ' H', Pv xs.length σ' H' → tz D σ' H') :
    tSeq (tFor (iList K tl) g tu) tz D σ H := h H (Ex.refl H) _ fun v H1 e r => by
  obtain ⟨p, xs, rfl, hp, Pv, h0, hl, hs, hd⟩ := k v H1 e r
  exact ⟨p, rfl, ⟨xs, hp⟩, for_list (D := { D with nx := tz D }) Pv h0 hl hs hd⟩

/-! ### rules in a comprehension's block: K by its name -/
theorem kn_tuple_of {X : Cx} {K : PySem.W.Frag} (h : X.K = K) : CallR X (.type "tuple") (fun xs H Q => ∃ p ys, xs = [.ref p] ∧ ((SqL K H p ys ∧ ∀ l, H l = none → Q (.ref l) (upd H l (.tup ys))) ∨ (SqT K H p ys ∧ Q (.ref p) H))) := by
  subst h
  exact call_tuple_of
theorem kn_len_seq {X : Cx} {K : PySem.W.Frag} (h : X.K = K) : CallR X (.builtin "len") (fun xs H Q => ∃ p ys, xs = [.ref p] ∧ (SqL K H p ys ∨ SqT K H p ys) ∧ Q (.int ys.length) H) := by
  subst h
  exact call_len_seq
theorem kn_sum {X : Cx} {K : PySem.W.Frag} (hc : X.calm = true) (h : X.K = K) : CallR X (.builtin "sum") (rSum K) := by
  subst h
  exact cr_sum hc

section
variable {K : PySem.W.Frag} {σ : L2.St} {H : Hp} {ta tb te tl : TE} {t : TT} {x y z : V} {R0 : Hp → V → Hp → Prop}
/-- one side known by a relation -/
theorem ev_opR {r : R2} (h : EvR ta σ H R0) (hb : Ev tb σ H y) (hr : ∀ H0 v H1 H2, Ex H H0 → Ex H0 H1 → Ex H1 H2 → R0 H0 v H1 → RV r v y H2 z) : Ev (tOp r ta tb) σ H z := fun H1 e Q q =>
  h H1 e _ fun v H2 e2 r2 => hb H2 (e.trans e2) _ fun H3 e3 => hr H1 v H2 H3 e e2 e3 r2 H3 (Ex.refl H3) Q fun H4 e4 => q H4 ((e2.trans e3).trans e4)
theorem ev_lenR {n : Nat} (h : EvR te σ H R0) (hr : ∀ H1 v H2, R0 H1 v H2 → ∃ p xs, v = .ref p ∧ SqL K H2 p xs ∧ xs.length = n) : Ev (tCB (fun xs H Q => ∃ p ys, xs = [.ref p] ∧ (SqL K H p ys ∨ SqT K H p ys) ∧ Q (.int ys.length) H) (tCons te tNil)) σ H (.int (n : Int)) := fun H1 e Q q =>
  h H1 e _ fun v H2 e2 r => by
    obtain ⟨p, xs, rfl, hp, hn⟩ := hr _ _ _ r
    exact ⟨p, xs, rfl, .inl hp, by rw [hn]; exact q H2 e2⟩
theorem ev_fldR {C a : Addr} {f : Str} (h : EvR te σ H R0) (hr : ∀ H1 v H2, R0 H1 v H2 → ∃ a dx fs, v = .ref a ∧ H2 a = some (.ins C dx fs) ∧ Cls K C ∧ NoAttr K C f ∧ fs.lookup f = some x) : Ev (tFld K te f) σ H x := fun H1 e Q q =>
  h H1 e _ fun v H2 e2 r => by
    obtain ⟨a, dx, fs, rfl, ha, c, n, l⟩ := hr _ _ _ r
    exact ⟨a, C, dx, fs, x, rfl, ha, c, n, l, q H2 e2⟩
theorem el_lcT {a : Addr} {xs : List V} {j : Nat} {vs : List Nat} (f : Nat → Bool) (v : Nat → V) (h : Ev tl σ H (.ref a)) (hx : SqT K H a xs) (hz : xs.length ≤ 40000) (hw : ∀ x, wipe ((wipe σ vs).set j (some x)) vs = wipe σ vs)
    (ht : ∀ (i : Nat) (x : V) H1, Ex H H1 → xs[i]? = some x → EvT t ((wipe σ vs).set j (some x)) H1 (f i)) (he : ∀ (i : Nat) (x : V) H1, Ex H H1 → xs[i]? = some x → f i = true → Ev te ((wipe σ vs).set j (some x)) H1 (v i)) :
    EvL (tLc (iTup K tl) (gName j) t te vs) σ H (given xs.length f v) := fun H0 e Q q => h H0 e _ fun H1 e1 => ⟨a, rfl, ⟨xs, ex_t (e.trans e1) hx⟩, fun Dl hD =>
  lc_tup (xs := xs) (Cw H1 f v Dl) ⟨hD, Ex.new hD, upd_same⟩ (fun i H' _ p => ex_t ((e.trans e1).trans p.2.1) hx) (fun i x H' hi p => ⟨hw x, cw_turn p (by have := (List.getElem?_eq_some_iff.mp hi).1; omega) (ht i x H1 (e.trans e1) hi) (fun hf => he i x H1 (e.trans e1) hi hf)⟩)
    (fun H' p => q Dl H' (fresh_back e1 p.1) (e1.trans p.2.1) p.2.2)⟩
theorem given_map {α : Type} (g : α → V) (d : α) (ns : List α) : given ns.length (fun _ => true) (fun i => g (ns.getD i d)) = ns.map g := by
  unfold given
  rw [filter_yes]
  exact range_getD g ns d
/-- a loop over zip of a list that an expression makes and one that stands -/
theorem q_forZ {g : TG} {D : Ends} {tu tz : TS} {b : Addr} (h : EvR ta σ H R0) (hb : Ev tb σ H (.ref b))
    (k : ∀ H0 v H1, Ex H H0 → Ex H0 H1 → R0 H0 v H1 → ∃ p xs ys, v = .ref p ∧ xs.length = ys.length ∧ SqL K H1 p xs ∧ SqL K H1 b ys ∧ ∀ H1', Ex H1 H1' → ∃ Pv : Nat → L2.St → Hp → Prop, Pv 0 σ H1' ∧ (∀ i σ' H', Pv i σ' H' → SqL K H' p xs ∧ SqL K H' b ys) ∧
      (∀ (i : Nat) (x y : V) (T : Addr) (σ' : L2.St) (H' : Hp), xs[i]? = some x → ys[i]? = some y → Pv i σ' H' → H' T = none → g (.ref T) σ' (upd H' T (.tup [x, y])) fun σ2 H2 => tu { D with nx := Pv (i + 1), ct := Pv (i + 1), bk := tz D } σ2 H2) ∧ ∀ σ' H', Pv xs.length σ' H' → tz D σ' H') :
    tSeq (tFor (iZip K (tCons ta (tCons tb tNil))) g tu) tz D σ H := h H (Ex.refl H) _ fun v H1 e r => by
  obtain ⟨p, xs, ys, rfl, hl, hp, hq, k⟩ := k H v H1 (Ex.refl H) e r
  refine hb H1 e _ fun H2 e2 => ?_
  obtain ⟨Pv, h0, hs, ht, hd⟩ := k H2 e2
  exact ⟨p, b, xs, ys, rfl, ex_l e2 hp, ex_l e2 hq, for_zipL (D := { D with nx := tz D }) hl Pv h0 hs ht hd⟩
end

theorem TiesV.append {K : PySem.W.Frag} {H : Hp} {vs ws : List V} {ts us : List Tie} (h : TiesV K H vs ts) (h2 : TiesV K H ws us) : TiesV K H (vs ++ ws) (ts ++ us) := by
  refine ⟨by rw [List.length_append, List.length_append, h.len, h2.len], fun i x y a b => ?_⟩
  have hl := h.len
  by_cases hi : i < vs.length
  · rw [List.getElem?_append_left hi] at a
    rw [List.getElem?_append_left (by omega)] at b
    exact h.at_ i x y a b
  · rw [List.getElem?_append_right (by omega)] at a
    rw [List.getElem?_append_right (by omega), ← hl] at b
    exact h2.at_ _ x y a b
end G

namespace G
open PySem PySem.Spec PyProof.Rows L2
/-! ### collections.deque, of ints -/
theorem dq_slot_append : Slot "collections.deque" "append" "collections.deque.append" :=
  .of (owner := "collections.deque") (n := "append") (by rw [typeLookup_type, builtinLookup_eq_fast]; kernel_rfl) (by decide +kernel) (by decide +kernel) (by decide +kernel)
    (by first | exact .inl (by decide +kernel) | exact .inr (by decide +kernel)) (by rw [isSubtype_type]; kernel_rfl)
theorem dq_slot_popleft : Slot "collections.deque" "popleft" "collections.deque.popleft" :=
  .of (owner := "collections.deque") (n := "popleft") (by rw [typeLookup_type, builtinLookup_eq_fast]; kernel_rfl) (by decide +kernel) (by decide +kernel) (by decide +kernel)
    (by first | exact .inl (by decide +kernel) | exact .inr (by decide +kernel)) (by rw [isSubtype_type]; kernel_rfl)
theorem dq_ty_append : typeOf (.builtin "collections.deque.append") = pure (.type "method_descriptor") := by show builtinType _ = _; rw [builtinType_eq_fast]; kernel_rfl
theorem dq_ty_popleft : typeOf (.builtin "collections.deque.popleft") = pure (.type "method_descriptor") := by show builtinType _ = _; rw [builtinType_eq_fast]; kernel_rfl
theorem dq_entry_append : entryFor table "collections.deque.append" = some Builtin.«collections.deque.append» := entryFor_of_tree (by kernel_rfl)
theorem dq_entry_popleft : entryFor table "collections.deque.popleft" = some Builtin.«collections.deque.popleft» := entryFor_of_tree (by kernel_rfl)
theorem dq_entry_extend : entryFor table "collections.deque.extend" = some Builtin.«collections.deque.extend» := entryFor_of_tree (by kernel_rfl)
theorem dq_entry_loop : entryFor table "collections.deque.extend.loop" = some Builtin.«collections.deque.extend.loop» := entryFor_of_tree (by kernel_rfl)
theorem dq_plain_extend : plainId "collections.deque.extend" = true := by decide +kernel
theorem dq_plain_loop : plainId "collections.deque.extend.loop" = true := by decide +kernel
theorem dq_args_append (a b : Value) : argsOk "collections.deque.append" ⟨[a, b], []⟩ := by unfold argsOk; kernel_rfl
theorem dq_args_popleft (a : Value) : argsOk "collections.deque.popleft" ⟨[a], []⟩ := by unfold argsOk; kernel_rfl
theorem dq_args_init2 (a b : Value) : argsOk "collections.deque.__init__" ⟨[a, b], []⟩ := by unfold argsOk; kernel_rfl
theorem dq_typeCall1 (b : Value) : checkTypeCall "collections.deque" ⟨[b], []⟩ = pure () := by first | kernel_rfl | rfl
theorem dq_newCall1 (b : Value) : checkBuiltinCall "collections.deque.__new__" ⟨[.type "collections.deque", b], []⟩ = pure () := by first | kernel_rfl | rfl
theorem dq_plainAttrs : PlainAttrs "collections.deque" := ⟨⟨"collections.deque.__getattribute__", by rw [typeLookup_type, builtinLookup_eq_fast]; kernel_rfl, by decide +kernel⟩, by rw [typeLookup_type, builtinLookup_eq_fast]; kernel_rfl⟩
end G

namespace G
open PySem PySem.Spec PyProof.Rows L2
def dqv (st : Int) (us : List Value) : Array Value := #[Value.none, rawInt st] ++ us.toArray
theorem dqv_size (st : Int) (us : List Value) : (dqv st us).size = us.length + 2 := by unfold dqv; simp
theorem dqv_items (st : Int) (us : List Value) : (dqv st us).extract 2 (dqv st us).size = us.toArray := by
  apply Array.ext'
  unfold dqv
  simp
theorem dqv_0 (st : Int) (us : List Value) : (dqv st us)[0]? = some Value.none := by unfold dqv; simp
theorem dqv_1 (st : Int) (us : List Value) : (dqv st us)[1]? = some (rawInt st) := by unfold dqv; simp
theorem ne_size {h : Heap} {b : Addr} {o : Obj} (e : h.get? b = some o) : b ≠ h.objs.size := Nat.ne_of_lt (Heap.lt_size e)
def dqO (st : Int) (us : List Value) : Obj := recObj "collections.deque" (dqv st us)
section
variable {prog : Program} {w : World} {A : Around} {E : Value → Shared → Prop} {s : Shared} {a : Addr} {st : Int} {us : List Value}
theorem dq_state {Q : Int → Shared → Prop} (h : s.heap.get? a = some (dqO st us)) (k : Q st s) : wpAny (model prog w) A (Builtin.Deque.state (.ref a)) Q E s := by
  unfold Builtin.Deque.state
  refine wpAny_bind (wpAny_field h rfl (dqv_1 st us) ?_)
  exact wpAny_pure k
theorem dq_items {Q : Array Value → Shared → Prop} (h : s.heap.get? a = some (dqO st us)) (k : Q us.toArray s) : wpAny (model prog w) A (Builtin.Deque.items (.ref a)) Q E s := by
  unfold Builtin.Deque.items
  refine wpAny_bind (wpAny_fieldsOf h rfl (wpAny_pure ?_))
  rw [dqv_items]
  exact k
theorem dq_maxlen {Q : Option Nat → Shared → Prop} (h : s.heap.get? a = some (dqO st us)) (k : Q none s) : wpAny (model prog w) A (Builtin.Deque.maxlen (.ref a)) Q E s := by
  unfold Builtin.Deque.maxlen
  refine wpAny_bind (wpAny_field h rfl (dqv_0 st us) ?_)
  exact wpAny_pure k
theorem dq_change {Q : Unit → Shared → Prop} {f : Array Value → Array Value} {us' : List Value} (h : s.heap.get? a = some (dqO st us)) (hf : f us.toArray = us'.toArray) (hz : us'.length ≤ sizeLine) (k : ∀ h' st', h'.get? a = some (dqO st' us') → Heap.SameBut a s.heap h' → Q () { s with heap := h' }) :
    wpAny (model prog w) A (Builtin.Deque.change (.ref a) f) Q E s := by
  unfold Builtin.Deque.change
  refine wpAny_bind (dq_state h ?_)
  have e : (fun vs : Array Value => #[vs.getD 0 .none, rawInt (if true = true then st + 1 else st)] ++ f (vs.extract 2 vs.size)) (dqv st us) = dqv (st + 1) us' := by
    show #[(dqv st us).getD 0 .none, rawInt (st + 1)] ++ f ((dqv st us).extract 2 (dqv st us).size) = _
    rw [dqv_items, hf]
    have e0 : (dqv st us).getD 0 Value.none = Value.none := by rw [Array.getD_eq_getD_getElem?, dqv_0]; rfl
    rw [e0]
    rfl
  refine wpAny_updateFields h rfl (k _ (st + 1) ?_ (Heap.SameBut.update ..)) ?_
  · rw [Heap.get?_update_self _ h rfl]
    show some (Obj.mapFields _ (recObj "collections.deque" (dqv st us))) = _
    show some ({ cls := _, dict := _, data := .fields _, slots := _ } : Obj) = _
    rw [e]
    rfl
  · have e2 := congrArg Array.size e
    rw [dqv_size] at e2
    have e3 : (#[(dqv st us).getD 0 Value.none, rawInt (if true = true then st + 1 else st)] ++ f ((dqv st us).extract 2 (dqv st us).size)).size = us'.length + 2 := e2
    rw [e3]
    omega
theorem dq_pushRight {Q : Unit → Shared → Prop} {x : Value} (h : s.heap.get? a = some (dqO st us)) (hz : us.length < sizeLine) (k : ∀ h' st', h'.get? a = some (dqO st' (us ++ [x])) → Heap.SameBut a s.heap h' → Q () { s with heap := h' }) :
    wpAny (model prog w) A (Builtin.Deque.pushRight (.ref a) x) Q E s := by
  unfold Builtin.Deque.pushRight
  refine wpAny_bind (dq_change h (us' := us ++ [x]) (by simp) (by simp; omega) fun h' st' e sb => ?_)
  refine wpAny_bind (dq_maxlen e ?_)
  exact wpAny_pure (k h' st' e sb)
theorem dq_size {Q : Nat → Shared → Prop} (h : s.heap.get? a = some (dqO st us)) (k : Q us.length s) : wpAny (model prog w) A (Builtin.Deque.size (.ref a)) Q E s := by
  unfold Builtin.Deque.size
  refine wpAny_bind (wpAny_fieldsOf h rfl (wpAny_pure ?_))
  rw [dqv_size]
  exact k
theorem dq_made1 {Q : Value → Shared → Prop} (h : Q (.ref s.heap.objs.size) { s with heap := s.heap.push (dqO 0 []) }) :
    wpAny (model prog w) A (newObj (.type "collections.deque") (.fields (#[Value.none, rawInt 0] ++ (#[] : Array Value)))) Q E s := dq_made h
theorem dq_code_new1 {b : Value} {Q₁ : Value → Shared → Prop} (h : Q₁ (.ref s.heap.objs.size) { s with heap := s.heap.push (dqO 0 []) }) :
    codeAny (model prog w) A (.call (.builtin "collections.deque.__new__") ⟨[.type "collections.deque", b], []⟩) (wants Q₁ E) s := by
  refine codeAny_call_builtin F.dq_plain_new F.dq_entry_new (wpAny_of_eq (dq_newCall1 b) ?_)
  unfold Builtin.«collections.deque.__new__»
  refine wpAny_bind ?_
  unfold Builtin.Deque.newArgs
  refine wpAny_bind (wpAny_of_eq (a := true) rfl ?_)
  refine PySem.W.KFB.if_not rfl ?_
  refine wpAny_bind (wpAny_of_eq (a := true) F.dq_sub ?_)
  refine PySem.W.KFB.if_not rfl ?_
  refine wpAny_pure ?_
  refine wpAny_bind ?_
  unfold Builtin.Deque.new
  rw [if_neg (show ¬ (#[] : Array Value).size > sizeLine by decide)]
  refine wpAny_bind (wpAny_pure ?_)
  exact dq_made (wpAny_pure h)
theorem dq_loop_end {it l : Addr} {items : Array Value} {i : Nat} {Q : Shared → Prop} (hh : A.handled = none) (ha : s.heap.get? a = some (dqO st us)) (hit : s.heap.IsListIter it l i) (hl : s.heap.IsList l items) (hi : items[i]? = none) (ni : a ≠ it)
    (k : ∀ h', h'.get? a = some (dqO st us) → Heap.ExtBut it s.heap h' → Q { s with heap := h' }) :
    codeAny (model prog w) A (.builtin "collections.deque.extend.loop" ⟨[.ref a, .ref it, .none], []⟩) (fun r s' => match r with | .ok (.ret v) => Q s' | .ok _ => False | .error e => E e s') s := by
  refine codeAny_builtin dq_entry_loop ?_
  rw [Around.under_plainId dq_plain_loop _]
  unfold Builtin.«collections.deque.extend.loop»
  refine wpAny_bind (wpAny_pure ?_)
  refine wpAny_bind (wpAny_pyNext_list_end hh hit hl hi fun h' sb => ?_)
  exact wpAny_pure (k h' (sb a _ ni ha) sb)
theorem dq_loop {it l : Addr} {items : Array Value} {Q : Shared → Prop} (hh : A.handled = none) : ∀ (n i : Nat) (us : List Value) (st : Int) (s : Shared), items.size - i = n → us.length + (items.size - i) ≤ sizeLine → s.heap.get? a = some (dqO st us) → s.heap.IsListIter it l i → s.heap.IsList l items → a ≠ it → a ≠ l → it ≠ l →
    (∀ h' st', h'.get? a = some (dqO st' (us ++ items.toList.drop i)) → (∀ b o, b ≠ a → b ≠ it → s.heap.get? b = some o → h'.get? b = some o) → Q { s with heap := h' }) →
    codeAny (model prog w) A (.builtin "collections.deque.extend.loop" ⟨[.ref a, .ref it, .none], []⟩) (fun r s' => match r with | .ok (.ret v) => Q s' | .ok _ => False | .error e => E e s') s := by
  intro n
  induction n with
  | zero =>
    intro i us st s hn hz ha hit hl n1 n2 n3 k
    refine dq_loop_end hh ha hit hl (by simp; omega) n1 fun h' e sb => k h' st ?_ fun b o _ hb => sb b o hb
    rw [List.drop_eq_nil_of_le (by simp; omega), List.append_nil]
    exact e
  | succ n ih =>
    intro i us st s hn hz ha hit hl n1 n2 n3 k
    have hi : i < items.size := by omega
    refine codeAny_builtin dq_entry_loop ?_
    rw [Around.under_plainId dq_plain_loop _]
    unfold Builtin.«collections.deque.extend.loop»
    refine wpAny_bind (wpAny_pure ?_)
    refine wpAny_bind (wpAny_pyNext_list_item hit hl (Array.getElem?_eq_getElem hi) fun h' hit' sb => ?_)
    have ha' : h'.get? a = some (dqO st us) := (sb.2 a n1).trans ha
    have hl' : h'.IsList l items := hl.extBut sb.extBut n3.symm
    refine wpAny_bind (wpAny_field ha' rfl (dqv_0 st us) ?_)
    show wpAny _ _ (if (Value.none != Value.none) = true then _ else _) _ _ _
    rw [if_neg (by decide)]
    refine wpAny_bind (dq_maxlen ha' ?_)
    show wpAny _ _ (if ((none : Option Nat) != some 0) = true then _ else _) _ _ _
    rw [if_pos (by decide)]
    refine wpAny_bind (dq_pushRight ha' (by omega) fun h2 st2 e2 sb2 => ?_)
    refine wpAny_pure ⟨plainId_quiet dq_plain_loop _, ?_⟩
    refine ih (i + 1) _ _ _ (by omega) (by rw [List.length_append]; show us.length + 1 + _ ≤ _; omega) e2 (hit'.extBut sb2.extBut (Ne.symm n1)) (hl'.extBut sb2.extBut (Ne.symm n2)) n1 n2 n3 fun h3 st3 e3 k3 => ?_
    refine k h3 st3 ?_ fun b o hb hb2 e => k3 b o hb hb2 ((sb2.2 b hb).trans ((sb.2 b hb2).trans e))
    rw [List.append_assoc] at e3
    have : items.toList.drop i = items[i] :: items.toList.drop (i + 1) := by
      rw [List.drop_eq_getElem_cons (by simp; exact hi)]
      simp
    rw [this]
    exact e3
theorem dq_extend {l : Addr} {items : Array Value} {Q : Unit → Shared → Prop} (hh : A.handled = none) (ha : s.heap.get? a = some (dqO st us)) (hl : s.heap.IsList l items) (hz : us.length + items.size ≤ sizeLine) (nl : a ≠ l)
    (k : ∀ h' st', h'.get? a = some (dqO st' (us ++ items.toList)) → (∀ b o, b ≠ a → s.heap.get? b = some o → h'.get? b = some o) → Q () { s with heap := h' }) :
    wpAny (model prog w) A (Builtin.Deque.extend (.ref a) (.ref l)) Q E s := by
  unfold Builtin.Deque.extend
  refine wpAny_bind (wpAny_runValue (codeAny_builtin dq_entry_extend ?_))
  rw [Around.under_plainId dq_plain_extend _]
  unfold Builtin.«collections.deque.extend»
  refine wpAny_bind (wpAny_of_eq (a := (Value.ref a, Value.ref l)) rfl ?_)
  show wpAny _ _ (if (Value.ref a == Value.ref l) = true then _ else _) _ _ _
  rw [if_neg (by simpa using nl)]
  refine wpAny_bind (wpAny_field ha rfl (dqv_0 st us) ?_)
  refine wpAny_bind (wpAny_pyIter_list hl ?_)
  refine wpAny_pure ⟨plainId_quiet dq_plain_loop _, ?_⟩
  obtain ⟨ol, hol, _⟩ := id hl
  refine dq_loop hh (items.size - 0) 0 us st _ rfl (by simpa using hz) (Heap.get?_push_of_some _ ha) ⟨_, Heap.get?_push_size _ rfl, rfl, rfl⟩ (hl.push _) (ne_size ha) nl (ne_size hol).symm fun h' st' e kk => ?_
  refine wpAny_pure (k h' st' e fun b o hb ho => ?_)
  exact kk b o hb (ne_size ho) (Heap.get?_push_of_some _ ho)
theorem dq_call1 {l : Addr} {items : Array Value} {Q : Value → Shared → Prop} (hh : A.handled = none) (hl : s.heap.IsList l items) (hz : items.size ≤ sizeLine) (h : ∀ h' st', h'.get? s.heap.objs.size = some (dqO st' items.toList) → (∀ b o, s.heap.get? b = some o → h'.get? b = some o) → Q (.ref s.heap.objs.size) { s with heap := h' }) :
    wpAny (model prog w) A (call (.type "collections.deque") [.ref l]) Q E s := by
  refine callType_codes (Q₁ := fun obj s₁ => obj = .ref s.heap.objs.size ∧ s₁ = { s with heap := s.heap.push (dqO 0 []) }) F.dq_called (dq_typeCall1 _) F.dq_entry_init (dq_code_new1 ⟨rfl, rfl⟩) ?_
  rintro obj s₁ ⟨rfl, rfl⟩
  have hg : (s.heap.push (dqO 0 [])).get? s.heap.objs.size = some (dqO 0 []) := Heap.get?_push_size _ rfl
  refine ⟨⟨_, hg, rfl⟩, dq_args_init2 _ _, ?_⟩
  unfold Builtin.«collections.deque.__init__»
  show wpAny _ _ (setField (.ref s.heap.objs.size) 0 .none >>= fun _ => Builtin.Deque.clear (.ref s.heap.objs.size) >>= fun _ => Builtin.Deque.extend (.ref s.heap.objs.size) (.ref l) >>= fun _ => ret .none) _ _ _
  refine wpAny_bind (wpAny_setField_rec (a := s.heap.objs.size) (vs := dqv 0 []) hg (by rw [dqv_size]; decide) fun h' hg' sb => ?_)
  have e0 : (dqv 0 []).setIfInBounds 0 Value.none = dqv 0 [] := by unfold dqv; first | rfl | simp
  rw [e0] at hg'
  refine wpAny_bind ?_
  unfold Builtin.Deque.clear
  refine wpAny_bind (dq_items (st := 0) (us := []) hg' ?_)
  show wpAny _ _ (if ((List.toArray [] : Array Value)).size > 0 then _ else _) _ _ _
  rw [if_neg (by decide)]
  obtain ⟨ol, hol, hr⟩ := id hl
  have hl' : h'.IsList l items := ⟨ol, (sb.2 l (ne_size hol)).trans (Heap.get?_push_of_some _ hol), hr⟩
  refine wpAny_pure ?_
  refine wpAny_bind (dq_extend (st := 0) (us := []) hh hg' hl' (by simpa using hz) (ne_size hol).symm fun h2 st2 e2 k2 => ?_)
  refine wpAny_pure ⟨rfl, h h2 st2 e2 fun b o e => ?_⟩
  exact k2 b o (ne_size e) ((sb.2 b (ne_size e)).trans (Heap.get?_push_of_some _ e))
/-- a deque's truth -/
theorem dq_truthyN {Q : Bool → Shared → Prop} (hl : s.heap.get? a = some (dqO st us)) (hz : us.length ≤ 100000)
    (h : ∀ tk, Q (decide (0 < us.length)) { s with toks := tk }) : wpAny (model prog w) A (truthy (.ref a)) Q E s := by
  have hT : s.TypeIs (.ref a) "collections.deque" := ⟨_, hl, rfl⟩
  have key : wpAny (model prog w) A (runValue (.builtin "len" ⟨[.ref a], []⟩)) (fun r s' => (∃ tk, r = .int (us.length : Int) tk) ∧ Q (decide (0 < us.length)) s') E s := by
    refine wpAny_runValue (codeAny_builtin entry_len ?_)
    rw [Around.under_plainId plain_len _]
    refine wpAny_mono (Q := fun fin s' => ∃ r, fin = .done (.ret r) ∧ (∃ tk, r = .int (us.length : Int) tk) ∧ Q (decide (0 < us.length)) s') ?_ (fun fin s' h' => by obtain ⟨r, rfl, hq⟩ := h'; exact hq) fun _ _ e => e
    unfold Builtin.«len»
    refine wpAny_bind (m := oneArg "len" _) (wpAny_pure ?_)
    refine wpAny_bind (m := callSpecial? (.ref a) (Str.ofString "__len__")) (wpAny_callSpecial?_slot (name := Str.ofString "__len__") hT F.dq_slot_len
      (wpAny_call_entry F.dq_slot_len hT F.dq_entry_len ?_ (F.dq_args_len _)))
    show wpAny _ _ (Builtin.Deque.size (.ref a) >>= fun k => retInt k) _ _ s
    refine wpAny_bind (dq_size hl ?_)
    refine wpAny_bind (wpAny_mkInt (wpAny_pure ⟨_, rfl, ?_⟩))
    refine wpAny_bind (wpAny_holding (wpAny_pure ?_))
    refine wpAny_bind (wpAny_letGo ?_)
    show wpAny _ _ (if ((us.length : Nat) : Int) < 0 then _ else _) _ _ _
    rw [if_neg (by omega)]
    show wpAny _ _ (if ((us.length : Nat) : Int) ≥ 2 ^ 63 then _ else _) _ _ _
    rw [if_neg (by omega)]
    exact wpAny_bind (wpAny_mkInt (wpAny_pure ⟨_, rfl, ⟨_, rfl⟩, h _⟩))
  have fin : ∀ (r : Value) (s' : Shared), ((∃ tk, r = .int (us.length : Int) tk) ∧ Q (decide (0 < us.length)) s') → ∃ n tk, r = .int n tk ∧ Q (n != 0) s' := fun r s' hq => by
    obtain ⟨⟨tk, rfl⟩, hq⟩ := hq
    refine ⟨_, tk, rfl, ?_⟩
    have : (((us.length : Int)) != 0) = decide (0 < us.length) := by
      by_cases e : 0 < us.length
      · rw [decide_eq_true e, bne_iff_ne]
        intro z
        rw [Int.natCast_eq_zero] at z
        rw [z] at e
        exact absurd e (Nat.lt_irrefl _)
      · rw [decide_eq_false e, Nat.eq_zero_of_not_pos e]
        rfl
    rw [this]
    exact hq
  unfold truthy
  first
    | refine wpAny_bind (wpAny_callSpecial?_none (name := Str.ofString "__bool__") hT F.dq_noBool ?_)
    | refine wpAny_bind (wpAny_pure (wpAny_bind (wpAny_callSpecial?_none (name := Str.ofString "__bool__") hT F.dq_noBool ?_)))
  first
    | refine wpAny_bind (wpAny_specialOf (name := Str.ofString "__len__") hT F.dq_slot_len.lookup ?_)
    | refine wpAny_bind (wpAny_pure (wpAny_bind (wpAny_specialOf (name := Str.ofString "__len__") hT F.dq_slot_len.lookup ?_)))
  first
    | exact wpAny_bind (wpAny_mono key (fun r s' h' => by obtain ⟨n, tk, rfl, hq⟩ := fin r s' h'; exact wpAny_pure hq) fun _ _ e => e)
    | exact wpAny_bind (wpAny_pure (wpAny_bind (wpAny_mono key (fun r s' h' => by obtain ⟨n, tk, rfl, hq⟩ := fin r s' h'; exact wpAny_pure hq) fun _ _ e => e)))
end
end G

namespace G
open PySem PySem.Spec PyProof.Rows L2 Evl RZ
/-- a deque of ints -/
def DqI (a : Addr) (ns : List Int) : HO := .ext fun h => ∃ st us, h.get? a = some (dqO st us) ∧ IntsAre us ns
theorem dqI_ok {P : Program} {w : World} {H : Hp} {h : Heap} {a : Addr} {st : Int} {us : List Value} {ns : List Int} (e : h.get? a = some (dqO st us)) (i : IntsAre us ns) : ObjOk P w H h a (DqI a ns) :=
  ⟨⟨st, us, e, i⟩, ⟨_, e⟩, fun _ _ ⟨st, us, e, i⟩ k => ⟨st, us, k _ e, i⟩⟩
theorem intsAre_len : ∀ {us : List Value} {ns : List Int}, IntsAre us ns → us.length = ns.length
  | _, _, .nil => rfl
  | _, _, .cons n k t => by rw [List.length_cons, List.length_cons, intsAre_len t]
theorem intsAre_snoc : ∀ {us : List Value} {ns : List Int} {i : Int} {t : Tok}, IntsAre us ns → IntsAre (us ++ [.int i t]) (ns ++ [i])
  | _, _, i, t, .nil => .cons i t .nil
  | _, _, _, _, .cons n k h => .cons n k (intsAre_snoc h)
theorem intsAre_vals : ∀ {ns : List Int} {us : List Value}, Vals (ns.map V.int) us → IntsAre us ns
  | [], _, .nil => .nil
  | n :: ns, _, .cons r t => by
    obtain ⟨k, rfl⟩ := r
    exact .cons n k (intsAre_vals t)
section
variable {X : Cx} {pins : List (Addr × Obj)} {σ : L2.St} {H : Hp} {s : Shared} {a : Addr} {ns : List Int}
theorem Inv_dq (I : Inv X pins σ H s) (e : H a = some (DqI a ns)) : ∃ st us, s.heap.get? a = some (dqO st us) ∧ IntsAre us ns := (I.hok a _ e).1
end
def rDqNew (K : PySem.W.Frag) : List V → Hp → VK → Prop := fun xs H Q => ∃ l ns, xs = [.ref l] ∧ SqL K H l (ns.map V.int) ∧ ∀ q, H q = none → Q (.ref q) (upd H q (DqI q ns))
def rDqTru : V → Hp → (Bool → Hp → Prop) → Prop := fun x H Q => ∃ a ns, x = .ref a ∧ H a = some (DqI a ns) ∧ ns.length ≤ 100000 ∧ Q (decide (0 < ns.length)) H
def rDqApp : V → List V → Hp → VK → Prop := fun x xs H Q => ∃ a ns i, x = .ref a ∧ xs = [.int i] ∧ H a = some (DqI a ns) ∧ ns.length < sizeLine ∧ Q .non (upd H a (DqI a (ns ++ [i])))
def rDqPop : V → List V → Hp → VK → Prop := fun x xs H Q => ∃ a n ns, x = .ref a ∧ xs = [] ∧ H a = some (DqI a (n :: ns)) ∧ ns.length ≤ sizeLine ∧ Q (.int n) (upd H a (DqI a ns))
section
variable {X : Cx}
theorem call_dq (hc : X.calm = true) : CallR X (.type "collections.deque") (rDqNew X.K) := by
  intro pins s σ H xs us Q I r h
  obtain ⟨l, ns, rfl, hs, q⟩ := h
  obtain ⟨its, rv, hl, hz⟩ := I.list hs
  rw [Vals.ref1 r]
  have hz' : its.toArray.size ≤ sizeLine := by rw [List.size_toArray, ← rv.length]; exact hz
  refine dq_call1 (I.ok.hd hc) hl.isList hz' fun h' st' e k => ⟨.ref s.heap.objs.size, _, I.laid (t' := s.toks) k (Nat.le_refl _) (dqI_ok e (intsAre_vals rv)), rfl, q _ (I.hok.fresh (Nat.le_refl _))⟩
theorem tru_dq : TruR X rDqTru := by
  intro pins s σ H x v Q I rx h
  obtain ⟨a, ns, rfl, e, hz, q⟩ := h
  cases rx
  obtain ⟨st, us, eh, hi⟩ := Inv_dq I e
  have hl := intsAre_len hi
  refine dq_truthyN eh (by rw [hl]; exact hz) fun tk => ⟨H, I.tok _, ?_⟩
  rw [hl]
  exact q
theorem mt_dqApp : MtR X "collections.deque.append" rDqApp := by
  intro pins s σ H x xs v us Q I rx rxs h
  obtain ⟨a, ns, i, rfl, rfl, e, hz, q⟩ := h
  cases rx
  obtain ⟨u, rfl, t, rfl⟩ := Vals.one rxs
  obtain ⟨st, ws, eh, hi⟩ := Inv_dq I e
  have hl := intsAre_len hi
  refine wpAny_call_entry dq_slot_append ⟨_, eh, rfl⟩ dq_entry_append ?_ (dq_args_append _ _)
  unfold Builtin.«collections.deque.append»
  refine wpAny_bind (wpAny_of_eq (a := (Value.ref a, Value.int i t)) rfl ?_)
  refine wpAny_bind (dq_pushRight eh (by rw [hl]; exact hz) fun h' st' e' sb => ?_)
  refine wpAny_pure ⟨_, rfl, .non, _, I.write (e := a) (t' := s.toks) (by rw [e]; exact True.intro) (.inl rfl) (fun b u hb hu => (sb.2 b hb).trans hu) ⟨_, e'⟩ (dqI_ok e' (intsAre_snoc hi)), rfl, q⟩
theorem mt_dqPop : MtR X "collections.deque.popleft" rDqPop := by
  intro pins s σ H x xs v us Q I rx rxs h
  obtain ⟨a, n, ns, rfl, rfl, e, hz, q⟩ := h
  cases rx
  cases rxs
  obtain ⟨st, ws, eh, hi⟩ := Inv_dq I e
  cases hi with
  | cons n' k hi =>
    refine wpAny_call_entry dq_slot_popleft ⟨_, eh, rfl⟩ dq_entry_popleft ?_ (dq_args_popleft _)
    unfold Builtin.«collections.deque.popleft»
    refine wpAny_bind (wpAny_of_eq (a := (Value.ref a)) rfl ?_)
    refine wpAny_bind (dq_items eh ?_)
    rename_i us2
    refine wpAny_bind (dq_change eh (us' := us2) (by simp) (by rw [intsAre_len hi]; exact hz) fun h' st' e' sb => ?_)
    refine wpAny_pure ⟨_, rfl, .int n, _, I.write (e := a) (t' := s.toks) (by rw [e]; exact True.intro) (.inl rfl) (fun b u hb hu => (sb.2 b hb).trans hu) ⟨_, e'⟩ (dqI_ok e' hi), ⟨_, rfl⟩, q⟩
end
def tDM0 (r : V → List V → Hp → VK → Prop) (to : TE) : TE := fun σ H Q => to σ H fun x H1 => (∃ a ns, x = .ref a ∧ H1 a = some (DqI a ns)) ∧ r x [] H1 Q
def tDM (r : V → List V → Hp → VK → Prop) (to : TE) (t : TA) : TE := fun σ H Q => to σ H fun x H1 => (∃ a ns, x = .ref a ∧ H1 a = some (DqI a ns)) ∧ t σ H1 fun xs H2 => r x xs H2 Q
section
variable {X : Cx}
theorem dq_ty {pins : List (Addr × Obj)} {σ : L2.St} {H : Hp} {s : Shared} {y : V} {v : Value} (I : Inv X pins σ H s) (r : RelV y v) (ty : ∃ a ns, y = .ref a ∧ H a = some (DqI a ns)) :
    s.TypeIs v "collections.deque" ∧ ∀ a, v = .ref a → ∃ ob, s.heap.get? a = some ob ∧ ob.dict = none := by
  obtain ⟨a, ns, rfl, e⟩ := ty
  cases r
  obtain ⟨st, us, eh, _⟩ := Inv_dq I e
  refine ⟨⟨_, eh, rfl⟩, fun b hb => ?_⟩
  cases hb
  exact ⟨_, eh, rfl⟩
variable {o e : Expr} {es : List Expr} {to : TE} {t : TA} {name : Str} {apos cpos : Pos} {id : String} {r : V → List V → Hp → VK → Prop}
theorem pe_dm0 (slot : Slot "collections.deque" name id) (hty : typeOf (.builtin id) = pure (.type "method_descriptor")) (hm : MtR X id r) (ho : PE X o to)
    (hbase : attributeBase o name X.env (eval o X.env) = eval o X.env := by rfl) (hline : (apos.endLine == cpos.line) = true := by rfl) : PE X (.Call (.Attribute o name apos) [] [] cpos) (tDM0 r to) := by
  refine ⟨fun pins s σ H Q I h => ?_⟩
  refine wpAny_Call_method0_late hbase hline (thn (ho.run pins s σ H _ I h) fun v s1 ⟨x, H1, I1, r1, ty, q1⟩ => ?_)
  obtain ⟨h1, h2⟩ := dq_ty I1 r1 ty
  exact ⟨"collections.deque", id, dq_plainAttrs, slot, hty, h1, h2, Calls.callWith_builtin rfl (PySem.evalArgs_none (hm pins s1 σ H1 x [] v [] Q I1 r1 .nil q1))⟩
theorem pe_dm (slot : Slot "collections.deque" name id) (hty : typeOf (.builtin id) = pure (.type "method_descriptor")) (hm : MtR X id r) (ho : PE X o to) (ha : PA X (e :: es) t)
    (hbase : attributeBase o name X.env (eval o X.env) = eval o X.env := by rfl)
    (hfew : ((backTo cpos (starEach (e :: es) X.env)).all (fun x => !x.1) && (backToKw cpos (keywordEach [] X.env)).all (fun x => x.1.isSome)
      && decide ((e :: es).length + ([] : List Keyword).length + (if ([] : List Keyword).isEmpty then 0 else 1) < 30)) = true := by rfl)
    (hline : (apos.endLine == cpos.line) = true := by rfl) (hs : starEach (e :: es) X.env = (false, eval e X.env) :: starEach es X.env := by rfl) (hplain : (backTo cpos (starEach es X.env)).any (·.1) = false := by rfl) :
    PE X (.Call (.Attribute o name apos) (e :: es) [] cpos) (tDM r to t) := by
  refine ⟨fun pins s σ H Q I h => ?_⟩
  refine wpAny_Call_method_late hbase hfew hline rfl (thn (ho.run pins s σ H _ I h) fun v s1 ⟨x, H1, I1, r1, ty, q1⟩ => ?_)
  obtain ⟨h1, h2⟩ := dq_ty I1 r1 ty
  refine ⟨"collections.deque", id, dq_plainAttrs, slot, hty, h1, h2, ?_⟩
  have hA := ha.run cpos pins s1 σ H1 _ I1 q1
  rw [hs] at hA ⊢
  refine Calls.callWith_builtin (by show (false || (backTo cpos (starEach es X.env)).any (·.1)) = false; rw [hplain] <;> rfl) (Calls.evalArgs_plain ?_)
  exact thn hA fun us s2 ⟨vs, H2, I2, r2, q2⟩ => hm pins s2 σ H2 x vs v us Q I2 r1 r2 q2
theorem pe_dqPop (ho : PE X o to) (hbase : attributeBase o "popleft" X.env (eval o X.env) = eval o X.env := by rfl) (hline : (apos.endLine == cpos.line) = true := by rfl) : PE X (.Call (.Attribute o "popleft" apos) [] [] cpos) (tDM0 rDqPop to) :=
  pe_dm0 dq_slot_popleft dq_ty_popleft mt_dqPop ho hbase hline
end
end G

namespace N
open G
/-! ### sums -/
def S : Nat → (Nat → Int) → Int
  | 0, _ => 0
  | n + 1, f => S n f + f n
theorem S_congr {n : Nat} {f g : Nat → Int} (h : ∀ i, i < n → f i = g i) : S n f = S n g := by
  induction n with
  | zero => rfl
  | succ n ih => show S n f + f n = S n g + g n; rw [ih fun i hi => h i (Nat.lt_succ_of_lt hi), h n (Nat.lt_succ_self n)]
theorem S_add {n : Nat} {f g : Nat → Int} : S n (fun i => f i + g i) = S n f + S n g := by
  induction n with
  | zero => rfl
  | succ n ih => show S n (fun i => f i + g i) + (f n + g n) = (S n f + f n) + (S n g + g n); rw [ih]; omega
theorem S_neg {n : Nat} {f : Nat → Int} : S n (fun i => - f i) = - S n f := by
  induction n with
  | zero => rfl
  | succ n ih => show S n (fun i => - f i) + (- f n) = - (S n f + f n); rw [ih]; omega
theorem S_sub {n : Nat} {f g : Nat → Int} : S n (fun i => f i - g i) = S n f - S n g := by
  induction n with
  | zero => rfl
  | succ n ih => show S n (fun i => f i - g i) + (f n - g n) = (S n f + f n) - (S n g + g n); rw [ih]; omega
theorem S_zero {n : Nat} : S n (fun _ => 0) = 0 := by
  induction n with
  | zero => rfl
  | succ n ih => show S n (fun _ => 0) + 0 = 0; rw [ih]; rfl
theorem S_zero' {n : Nat} {f : Nat → Int} (h : ∀ i, i < n → f i = 0) : S n f = 0 := (S_congr h).trans S_zero
theorem S_swap {n m : Nat} {f : Nat → Nat → Int} : S n (fun i => S m fun j => f i j) = S m (fun j => S n fun i => f i j) := by
  induction n with
  | zero => exact S_zero.symm
  | succ n ih =>
    show S n (fun i => S m fun j => f i j) + S m (fun j => f n j) = S m (fun j => S n (fun i => f i j) + f n j)
    rw [ih, S_add]
theorem S_le {n : Nat} {f g : Nat → Int} (h : ∀ i, i < n → f i ≤ g i) : S n f ≤ S n g := by
  induction n with
  | zero => exact Int.le_refl _
  | succ n ih => exact Int.add_le_add (ih fun i hi => h i (Nat.lt_succ_of_lt hi)) (h n (Nat.lt_succ_self n))
theorem S_nonneg {n : Nat} {f : Nat → Int} (h : ∀ i, i < n → 0 ≤ f i) : 0 ≤ S n f := by
  have := S_le (n := n) (f := fun _ => 0) (g := f) h
  rw [S_zero] at this
  exact this
theorem S_pick {n k : Nat} {x : Nat → Int} (h : k < n) : S n (fun i => if i = k then x i else 0) = x k := by
  induction n with
  | zero => exact absurd h (Nat.not_lt_zero _)
  | succ n ih =>
    show S n (fun i => if i = k then x i else 0) + (if n = k then x n else 0) = x k
    by_cases e : n = k
    · subst e
      rw [S_zero' fun i hi => if_neg (Nat.ne_of_lt hi), if_pos rfl, Int.zero_add]
    · rw [ih (by omega), if_neg e, Int.add_zero]
theorem S_one {n k : Nat} {f : Nat → Int} (h : k < n) (h0 : ∀ i, i < n → i ≠ k → f i = 0) : S n f = f k := by
  rw [← S_pick (x := f) h]
  exact S_congr fun i hi => by
    by_cases e : i = k
    · rw [if_pos e]
    · rw [if_neg e, h0 i hi e]
theorem S_ge {n k : Nat} {f : Nat → Int} (h : k < n) (h0 : ∀ i, i < n → 0 ≤ f i) : f k ≤ S n f := by
  rw [← S_pick (x := f) h]
  exact S_le fun i hi => by
    by_cases e : i = k
    · rw [if_pos e]; exact Int.le_refl _
    · rw [if_neg e]; exact h0 i hi
theorem S_mul {n : Nat} {a : Int} {f : Nat → Int} : S n (fun i => a * f i) = a * S n f := by
  induction n with
  | zero => exact (Int.mul_zero a).symm
  | succ n ih => show S n (fun i => a * f i) + a * f n = a * (S n f + f n); rw [ih, Int.mul_add]
theorem S_list {n : Nat} {f : Nat → Int} : ((List.range n).map f).sum = S n f := by
  induction n with
  | zero => rfl
  | succ n ih => rw [List.range_succ, List.map_append, List.sum_append, ih]; show S n f + (f n + 0) = S n f + f n; rw [Int.add_zero]
/-! ### going ahead -/
abbrev Mat := Nat → Nat → Int
abbrev Al := List (Nat × Nat)
def keys (A : Al) : List Nat := A.map (·.1)
theorem keys_append (A B : Al) : keys (A ++ B) = keys A ++ keys B := List.map_append
theorem keys_get {A : Al} {i k p : Nat} (h : A[i]? = some (k, p)) : (keys A)[i]? = some k := by unfold keys; rw [List.getElem?_map, h]; rfl
theorem keys_mem {A : Al} {k : Nat} (h : k ∈ keys A) : ∃ (i p : Nat), A[i]? = some (k, p) := by
  obtain ⟨⟨a, p⟩, he, rfl⟩ := List.mem_map.mp h
  obtain ⟨i, hi⟩ := List.mem_iff_getElem?.mp he
  exact ⟨i, p, hi⟩
theorem mem_keys {A : Al} {i k p : Nat} (h : A[i]? = some (k, p)) : k ∈ keys A := List.mem_map.mpr ⟨_, List.mem_of_getElem? h, rfl⟩
theorem nodup_at {xs : List Nat} (h : xs.Nodup) {i j k : Nat} (a : xs[i]? = some k) (b : xs[j]? = some k) : i = j := by
  obtain ⟨h1, e1⟩ := List.getElem?_eq_some_iff.mp a
  obtain ⟨h2, e2⟩ := List.getElem?_eq_some_iff.mp b
  exact (List.getElem_inj h).mp (e1.trans e2.symm)
theorem nodup_le : ∀ (n : Nat) (xs : List Nat), xs.Nodup → (∀ k ∈ xs, k < n) → xs.length ≤ n
  | 0, [], _, _ => Nat.le_refl _
  | 0, k :: ks, _, h => absurd (h k (List.mem_cons_self ..)) (Nat.not_lt_zero _)
  | n + 1, xs, nd, h => by
    have ih := nodup_le n (xs.filter fun k => decide (k ≠ n)) (nd.filter _) fun k hk => by
      obtain ⟨a, b⟩ := List.mem_filter.mp hk
      have := h k a
      have := of_decide_eq_true b
      omega
    have key : ∀ ys : List Nat, ys.Nodup → ys.length ≤ (ys.filter fun k => decide (k ≠ n)).length + 1 := by
      intro ys
      induction ys with
      | nil => intro _; exact Nat.zero_le _
      | cons y ys ih2 =>
        intro nd
        have nd2 := List.nodup_cons.mp nd
        by_cases e : y = n
        · subst e
          have : (ys.filter fun k => decide (k ≠ y)) = ys := List.filter_eq_self.mpr fun k hk => decide_eq_true fun z => nd2.1 (by rw [← z]; exact hk)
          rw [List.filter_cons, if_neg (by simp), this]
          exact Nat.le_refl _
        · rw [List.filter_cons, if_pos (by simpa using e), List.length_cons, List.length_cons]
          exact Nat.succ_le_succ (ih2 nd2.2)
    have := key xs nd
    omega
def par (A : Al) (k : Nat) : Nat := match A.find? (fun e => decide (e.1 = k)) with
  | some e => e.2
  | none => 0
theorem par_at {A : Al} (nd : (keys A).Nodup) {i k p : Nat} (h : A[i]? = some (k, p)) : par A k = p := by
  unfold par
  cases e : A.find? (fun e => decide (e.1 = k)) with
  | none =>
    have := List.find?_eq_none.mp e (k, p) (List.mem_of_getElem? h)
    simp at this
  | some q =>
    have h1 := List.find?_some e
    obtain ⟨j, hj⟩ := List.mem_iff_getElem?.mp (List.mem_of_find?_eq_some e)
    have h2 : q.1 = k := of_decide_eq_true h1
    have hj' : A[j]? = some (k, q.2) := by rw [hj, ← h2]
    have := nodup_at nd (keys_get h) (keys_get hj')
    subst this
    rw [hj'] at h
    exact congrArg Prod.snd (Option.some.inj h)
def scanStep (L : Mat) (p : Nat) (st : Al × List Nat) (j : Nat) : Al × List Nat := if 0 < L p j ∧ j ∉ keys st.1 then (st.1 ++ [(j, p)], st.2 ++ [j]) else st
def scanTo (L : Mat) (p : Nat) (st : Al × List Nat) (i : Nat) : Al × List Nat := (List.range i).foldl (scanStep L p) st
theorem scanTo_succ {L : Mat} {p : Nat} {st : Al × List Nat} {i : Nat} : scanTo L p st (i + 1) = scanStep L p (scanTo L p st i) i := by
  unfold scanTo
  rw [List.range_succ, List.foldl_append]
  rfl
def bfsLoop (L : Mat) (n other : Nat) : Nat → Al × List Nat → Al × List Nat
  | 0, st => st
  | _ + 1, (A, []) => (A, [])
  | f + 1, (A, p :: q) => if other ∈ keys A then (A, p :: q) else bfsLoop L n other f (scanTo L p (A, q) n)
def bfs (L : Mat) (n one other : Nat) : Al := (bfsLoop L n other n ([(one, one)], [one])).1
structure Bt (L : Mat) (n one : Nat) (A : Al) : Prop where
  hd : A[0]? = some (one, one)
  nd : (keys A).Nodup
  lt : ∀ k ∈ keys A, k < n
  pr : ∀ i k p, A[i]? = some (k, p) → 0 < i → (∃ i' p', i' < i ∧ A[i']? = some (p, p')) ∧ 0 < L p k
structure Bs (L : Mat) (n one p i : Nat) (A : Al) (q : List Nat) : Prop where
  t : Bt L n one A
  pk : p ∈ keys A
  qs : ∀ k ∈ q, k ∈ keys A
  cl : ∀ k ∈ keys A, k ∉ q → ∀ j, j < n → (k = p → j < i) → 0 < L k j → j ∈ keys A
structure Bf (L : Mat) (n one : Nat) (A : Al) (q : List Nat) : Prop where
  t : Bt L n one A
  qs : ∀ k ∈ q, k ∈ keys A
  cl : ∀ k ∈ keys A, k ∉ q → ∀ j, j < n → 0 < L k j → j ∈ keys A
section
variable {L : Mat} {n one other p i : Nat} {A : Al} {q : List Nat}
theorem Bt.len (h : Bt L n one A) : A.length ≤ n := by
  have := nodup_le n (keys A) h.nd h.lt
  unfold keys at this
  rw [List.length_map] at this
  exact this
theorem Bs.step (h : Bs L n one p i A q) (hi : i < n) : Bs L n one p (i + 1) (scanStep L p (A, q) i).1 (scanStep L p (A, q) i).2 ∧ (scanStep L p (A, q) i).2.length + (n - (scanStep L p (A, q) i).1.length) = q.length + (n - A.length) := by
  unfold scanStep
  by_cases c : 0 < L p i ∧ i ∉ keys A
  · rw [if_pos c]
    obtain ⟨c1, c2⟩ := c
    have ek : keys (A ++ [(i, p)]) = keys A ++ [i] := keys_append _ _
    have h0 : 0 < A.length := by
      have := h.t.hd
      cases A with
      | nil => simp at this
      | cons a A => simp
    have ht : Bt L n one (A ++ [(i, p)]) := by
      refine ⟨?_, ?_, ?_, ?_⟩
      · rw [List.getElem?_append_left h0]
        exact h.t.hd
      · rw [ek, List.nodup_append]
        refine ⟨h.t.nd, by simp, ?_⟩
        intro a ha b hb e
        rw [List.mem_singleton] at hb
        subst hb
        subst e
        exact c2 ha
      · intro k hk
        rw [ek, List.mem_append, List.mem_singleton] at hk
        rcases hk with hk | rfl
        · exact h.t.lt k hk
        · exact hi
      · intro m k r hm hm0
        by_cases e : m < A.length
        · rw [List.getElem?_append_left e] at hm
          obtain ⟨⟨i', p', a, b⟩, d⟩ := h.t.pr m k r hm hm0
          exact ⟨⟨i', p', a, by rw [List.getElem?_append_left (by omega)]; exact b⟩, d⟩
        · rw [List.getElem?_append_right (by omega)] at hm
          have e0 : m - A.length = 0 := by
            cases z : m - A.length with
            | zero => rfl
            | succ y => rw [z] at hm; simp at hm
          rw [e0] at hm
          have e1 : (i, p) = (k, r) := Option.some.inj hm
          obtain ⟨rfl, rfl⟩ := Prod.mk.inj e1
          obtain ⟨i', p', hi'⟩ := keys_mem h.pk
          have hl := (List.getElem?_eq_some_iff.mp hi').1
          exact ⟨⟨i', p', by omega, by rw [List.getElem?_append_left hl]; exact hi'⟩, c1⟩
    refine ⟨⟨ht, ?_, ?_, ?_⟩, ?_⟩
    · show p ∈ keys (A ++ [(i, p)])
      rw [ek]
      exact List.mem_append_left _ h.pk
    · intro k hk
      show k ∈ keys (A ++ [(i, p)])
      rw [ek]
      rcases List.mem_append.mp hk with hk | hk
      · exact List.mem_append_left _ (h.qs k hk)
      · exact List.mem_append_right _ hk
    · intro k hk hq j hj hp hl
      show j ∈ keys (A ++ [(i, p)])
      have hk : k ∈ keys (A ++ [(i, p)]) := hk
      have hq : k ∉ q ++ [i] := hq
      rw [ek] at hk ⊢
      rw [List.mem_append, List.mem_singleton] at hk hq
      rw [List.mem_append, List.mem_singleton]
      by_cases e : k = p ∧ j = i
      · exact .inr e.2
      · refine .inl (h.cl k (hk.resolve_right fun z => hq (.inr z)) (fun z => hq (.inl z)) j hj (fun z => ?_) hl)
        have := hp z
        have : j ≠ i := fun y => e ⟨z, y⟩
        omega
    · have := ht.len
      simp only [List.length_append, List.length_singleton] at this ⊢
      omega
  · rw [if_neg c]
    refine ⟨⟨h.t, h.pk, h.qs, fun k hk hq j hj hp hl => ?_⟩, rfl⟩
    by_cases e : k = p ∧ j = i
    · obtain ⟨rfl, rfl⟩ := e
      exact Classical.byContradiction fun z => c ⟨hl, z⟩
    · refine h.cl k hk hq j hj (fun z => ?_) hl
      have := hp z
      have : j ≠ i := fun y => e ⟨z, y⟩
      omega
theorem Bs.to (h : Bs L n one p 0 A q) : ∀ i, i ≤ n → Bs L n one p i (scanTo L p (A, q) i).1 (scanTo L p (A, q) i).2 ∧ (scanTo L p (A, q) i).2.length + (n - (scanTo L p (A, q) i).1.length) = q.length + (n - A.length)
  | 0, _ => ⟨h, rfl⟩
  | i + 1, hi => by
    obtain ⟨a, b⟩ := Bs.to h i (by omega)
    obtain ⟨c, d⟩ := a.step (by omega)
    rw [scanTo_succ]
    exact ⟨c, d.trans b⟩
theorem Bf.start (h : Bf L n one A (p :: q)) : Bs L n one p 0 A q :=
  ⟨h.t, h.qs p (List.mem_cons_self ..), fun k hk => h.qs k (List.mem_cons_of_mem _ hk), fun k hk hq j hj hp hl => by
    by_cases e : k = p
    · exact absurd (hp e) (Nat.not_lt_zero _)
    · exact h.cl k hk (fun z => (List.mem_cons.mp z).elim e hq) j hj hl⟩
theorem Bs.done (h : Bs L n one p n A q) : Bf L n one A q := ⟨h.t, h.qs, fun k hk hq j hj hl => h.cl k hk hq j hj (fun _ => hj) hl⟩
theorem Bf.turn (h : Bf L n one A (p :: q)) : Bf L n one (scanTo L p (A, q) n).1 (scanTo L p (A, q) n).2 ∧ (scanTo L p (A, q) n).2.length + (n - (scanTo L p (A, q) n).1.length) + 1 = (p :: q).length + (n - A.length) := by
  obtain ⟨a, b⟩ := h.start.to n (Nat.le_refl _)
  refine ⟨a.done, ?_⟩
  rw [b, List.length_cons]
  omega
theorem Bf.init (h : one < n) : Bf L n one [(one, one)] [one] := by
  refine ⟨⟨rfl, by simp [keys], fun k hk => ?_, fun i k p hi h0 => ?_⟩, fun k hk => hk, fun k hk hq => absurd hk hq⟩
  · rw [List.mem_singleton.mp hk]
    exact h
  · cases i with
    | zero => exact absurd h0 (Nat.lt_irrefl _)
    | succ i => simp at hi
theorem bfsLoop_ok : ∀ (f : Nat) (A : Al) (q : List Nat), Bf L n one A q → q.length + (n - A.length) ≤ f → ∃ A' q', bfsLoop L n other f (A, q) = (A', q') ∧ Bf L n one A' q' ∧ (other ∈ keys A' ∨ q' = [])
  | 0, A, q, h, hf => ⟨A, q, rfl, h, .inr (List.eq_nil_of_length_eq_zero (by omega))⟩
  | f + 1, A, [], h, hf => ⟨A, [], rfl, h, .inr rfl⟩
  | f + 1, A, p :: q, h, hf => by
    unfold bfsLoop
    by_cases c : other ∈ keys A
    · rw [if_pos c]
      exact ⟨A, p :: q, rfl, h, .inl c⟩
    · rw [if_neg c]
      obtain ⟨a, b⟩ := h.turn
      exact bfsLoop_ok f (scanTo L p (A, q) n).1 (scanTo L p (A, q) n).2 a (by omega)
theorem bfs_ok (h : one < n) : ∃ q, Bf L n one (bfs L n one other) q ∧ (other ∈ keys (bfs L n one other) ∨ q = []) := by
  obtain ⟨A', q', a, b, c⟩ := bfsLoop_ok (other := other) n [(one, one)] [one] (Bf.init (L := L) h) (by simp; omega)
  unfold bfs
  rw [a]
  exact ⟨q', b, c⟩
theorem bfs_bt (h : one < n) : Bt L n one (bfs L n one other) := by
  obtain ⟨q, a, _⟩ := bfs_ok (L := L) (other := other) h
  exact a.t
theorem bfs_closed (h : one < n) (ho : other ∉ keys (bfs L n one other)) : ∀ k ∈ keys (bfs L n one other), ∀ j, j < n → 0 < L k j → j ∈ keys (bfs L n one other) := by
  obtain ⟨q, a, b⟩ := bfs_ok (L := L) (other := other) h
  have e := b.resolve_left ho
  subst e
  exact fun k hk j hj hl => a.cl k hk (fun z => by cases z) j hj hl
theorem Bt.one_mem (h : Bt L n one A) : one ∈ keys A := mem_keys h.hd
end
/-! ### the way back -/
def back (A : Al) (one : Nat) : Nat → Nat → List (Nat × Nat)
  | 0, _ => []
  | f + 1, k => if k = one then [] else (par A k, k) :: back A one f (par A k)
def way (L : Mat) (n one other : Nat) : List (Nat × Nat) := if other ∈ keys (bfs L n one other) then back (bfs L n one other) one n other else []
inductive Pt (L : Mat) (n one : Nat) : Nat → List (Nat × Nat) → Prop
  | nil : Pt L n one one []
  | cons {p k : Nat} {ps : List (Nat × Nat)} : p < n → k < n → p ≠ k → 0 < L p k → (∀ e ∈ ps, e.2 ≠ k) → Pt L n one p ps → Pt L n one k ((p, k) :: ps)
section
variable {L : Mat} {n one other p i : Nat} {A : Al} {q : List Nat}
theorem back_ok (h : Bt L n one A) : ∀ (f i k p : Nat), A[i]? = some (k, p) → i < f → Pt L n one k (back A one f k) ∧ ∀ e ∈ back A one f k, ∃ j r, j ≤ i ∧ A[j]? = some (e.2, r)
  | 0, i, k, p, _, hf => absurd hf (Nat.not_lt_zero _)
  | f + 1, i, k, p, hk, hf => by
    unfold back
    by_cases c : k = one
    · rw [if_pos c]
      subst c
      exact ⟨.nil, fun e he => nomatch he⟩
    · rw [if_neg c]
      have h0 : 0 < i := by
        cases i with
        | zero =>
          rw [h.hd] at hk
          exact absurd (congrArg Prod.fst (Option.some.inj hk)).symm c
        | succ i => exact Nat.succ_pos _
      have ep : par A k = p := par_at h.nd hk
      rw [ep]
      obtain ⟨⟨i', p', hi, hp⟩, hl⟩ := h.pr i k p hk h0
      obtain ⟨a, b⟩ := back_ok h f i' p p' hp (by omega)
      refine ⟨.cons (h.lt p (mem_keys hp)) (h.lt k (mem_keys hk)) (fun z => ?_) hl (fun e he z => ?_) a, fun e he => ?_⟩
      · subst z
        have := nodup_at h.nd (keys_get hk) (keys_get hp)
        omega
      · obtain ⟨j, r, hj, hr⟩ := b e he
        rw [z] at hr
        have := nodup_at h.nd (keys_get hk) (keys_get hr)
        omega
      · rcases List.mem_cons.mp he with rfl | he
        · exact ⟨i, p, Nat.le_refl _, hk⟩
        · obtain ⟨j, r, hj, hr⟩ := b e he
          exact ⟨j, r, by omega, hr⟩
theorem back_len {A : Al} {one : Nat} : ∀ (f k : Nat), (back A one f k).length ≤ f
  | 0, _ => Nat.le_refl _
  | f + 1, k => by
    unfold back
    split
    · exact Nat.zero_le _
    · exact Nat.succ_le_succ (back_len f _)
theorem way_len {L : Mat} {n one other : Nat} : (way L n one other).length ≤ n := by
  unfold way
  split
  · exact back_len _ _
  · exact Nat.zero_le _
theorem way_ok (h : one < n) (hn : one ≠ other) (hw : way L n one other ≠ []) : Pt L n one other (way L n one other) := by
  unfold way at hw ⊢
  by_cases c : other ∈ keys (bfs L n one other)
  · rw [if_pos c]
    have t := bfs_bt (L := L) (other := other) h
    obtain ⟨i, p, hi⟩ := keys_mem c
    have := (List.getElem?_eq_some_iff.mp hi).1
    exact (back_ok t n i other p hi (by have := t.len; omega)).1
  · rw [if_neg c] at hw
    exact absurd rfl hw
theorem way_nil (h : one < n) (hn : one ≠ other) : way L n one other = [] ↔ other ∉ keys (bfs L n one other) := by
  unfold way
  by_cases c : other ∈ keys (bfs L n one other)
  · rw [if_pos c]
    obtain ⟨m, rfl⟩ : ∃ m, n = m + 1 := ⟨n - 1, by omega⟩
    unfold back
    rw [if_neg fun z => hn z.symm]
    exact ⟨fun z => (nomatch z), fun z => absurd c z⟩
  · rw [if_neg c]
    exact ⟨fun _ => c, fun _ => rfl⟩
end
/-! ### a flow is led along a way -/
def amt (L : Mat) : List (Nat × Nat) → Int
  | [] => 0
  | [e] => L e.1 e.2
  | e :: es => min (L e.1 e.2) (amt L es)
theorem amt_cons {L : Mat} {e : Nat × Nat} {es : List (Nat × Nat)} (h : es ≠ []) : amt L (e :: es) = min (L e.1 e.2) (amt L es) := by
  cases es with
  | nil => exact absurd rfl h
  | cons _ _ => rfl
theorem amt_le {L : Mat} : ∀ {es : List (Nat × Nat)} {e : Nat × Nat}, e ∈ es → amt L es ≤ L e.1 e.2
  | [f], e, h => by rw [List.mem_singleton.mp h]; exact Int.le_refl _
  | f :: g :: es, e, h => by
    rw [amt_cons (by simp)]
    rcases List.mem_cons.mp h with rfl | h
    · exact Int.min_le_left _ _
    · exact Int.le_trans (Int.min_le_right _ _) (amt_le h)
theorem amt_mem {L : Mat} : ∀ {es : List (Nat × Nat)}, es ≠ [] → ∃ e ∈ es, amt L es = L e.1 e.2
  | [f], _ => ⟨f, List.mem_singleton.mpr rfl, rfl⟩
  | f :: g :: es, _ => by
    rw [amt_cons (by simp)]
    obtain ⟨e, he, ha⟩ := amt_mem (L := L) (es := g :: es) (by simp)
    by_cases c : L f.1 f.2 ≤ amt L (g :: es)
    · exact ⟨f, List.mem_cons_self .., by rw [Int.min_eq_left c]⟩
    · exact ⟨e, List.mem_cons_of_mem _ he, by rw [Int.min_eq_right (by omega), ha]⟩
def runP1 (a : Int) (L : Mat) (e : Nat × Nat) : Mat := put2 (put2 L e.1 e.2 (L e.1 e.2 - a)) e.2 e.1 (put2 L e.1 e.2 (L e.1 e.2 - a) e.2 e.1 + a)
def runP (a : Int) (L : Mat) (ps : List (Nat × Nat)) : Mat := ps.foldl (runP1 a) L
def cnt (ps : List (Nat × Nat)) (i j : Nat) : Int := (ps.map fun e => if e.1 = i ∧ e.2 = j then (1 : Int) else 0).sum
theorem cnt_cons {e : Nat × Nat} {ps : List (Nat × Nat)} {i j : Nat} : cnt (e :: ps) i j = (if e.1 = i ∧ e.2 = j then (1 : Int) else 0) + cnt ps i j := rfl
theorem cnt_nonneg {ps : List (Nat × Nat)} {i j : Nat} : 0 ≤ cnt ps i j := by
  induction ps with
  | nil => exact Int.le_refl _
  | cons e ps ih => rw [cnt_cons]; split <;> omega
theorem run1_at {a : Int} {L : Mat} {e : Nat × Nat} (h : e.1 ≠ e.2) (i j : Nat) : runP1 a L e i j = L i j - a * (if e.1 = i ∧ e.2 = j then (1 : Int) else 0) + a * (if e.1 = j ∧ e.2 = i then (1 : Int) else 0) := by
  unfold runP1 put2
  by_cases c : i = e.2 ∧ j = e.1
  · obtain ⟨rfl, rfl⟩ := c
    rw [if_pos ⟨rfl, rfl⟩, if_neg (fun z => h z.1.symm), if_neg (fun z => h z.1), if_pos ⟨rfl, rfl⟩, Int.mul_zero, Int.mul_one, Int.sub_zero]
  · rw [if_neg c, if_neg (fun z : e.1 = j ∧ e.2 = i => c ⟨z.2.symm, z.1.symm⟩), Int.mul_zero, Int.add_zero]
    by_cases d : i = e.1 ∧ j = e.2
    · obtain ⟨rfl, rfl⟩ := d
      rw [if_pos ⟨rfl, rfl⟩, if_pos ⟨rfl, rfl⟩, Int.mul_one]
    · rw [if_neg d, if_neg (fun z : e.1 = i ∧ e.2 = j => d ⟨z.1.symm, z.2.symm⟩), Int.mul_zero, Int.sub_zero]
theorem run_at {a : Int} : ∀ {ps : List (Nat × Nat)} {L : Mat}, (∀ e ∈ ps, e.1 ≠ e.2) → ∀ i j, runP a L ps i j = L i j - a * cnt ps i j + a * cnt ps j i
  | [], L, _, i, j => by show L i j = L i j - a * 0 + a * 0; rw [Int.mul_zero]; omega
  | e :: ps, L, h, i, j => by
    have ih := run_at (a := a) (ps := ps) (L := runP1 a L e) (fun e he => h e (List.mem_cons_of_mem _ he)) i j
    show runP a (runP1 a L e) ps i j = _
    rw [ih, run1_at (h e (List.mem_cons_self ..)), cnt_cons, cnt_cons, Int.mul_add, Int.mul_add]
    omega
section
variable {L : Mat} {n one : Nat} {k : Nat} {ps : List (Nat × Nat)}
theorem Pt.ne (h : Pt L n one k ps) : ∀ e ∈ ps, e.1 ≠ e.2 := by
  induction h with
  | nil => exact fun e he => nomatch he
  | cons _ _ hne _ _ _ ih => exact fun e he => (List.mem_cons.mp he).elim (fun z => by subst z; exact hne) (ih e)
theorem Pt.lt (h : Pt L n one k ps) : ∀ e ∈ ps, e.1 < n ∧ e.2 < n := by
  induction h with
  | nil => exact fun e he => nomatch he
  | cons a b _ _ _ _ ih => exact fun e he => (List.mem_cons.mp he).elim (fun z => by subst z; exact ⟨a, b⟩) (ih e)
theorem Pt.pos (h : Pt L n one k ps) : ∀ e ∈ ps, 0 < L e.1 e.2 := by
  induction h with
  | nil => exact fun e he => nomatch he
  | cons _ _ _ a _ _ ih => exact fun e he => (List.mem_cons.mp he).elim (fun z => by subst z; exact a) (ih e)
theorem cnt_zero2 {i j : Nat} (h : ∀ e ∈ ps, e.2 ≠ j) : cnt ps i j = 0 := by
  induction ps with
  | nil => rfl
  | cons e ps ih => rw [cnt_cons, ih fun e he => h e (List.mem_cons_of_mem _ he), if_neg fun z => h e (List.mem_cons_self ..) z.2]; rfl
theorem cnt_zero {i j : Nat} (h : (i, j) ∉ ps) : cnt ps i j = 0 := by
  induction ps with
  | nil => rfl
  | cons e ps ih => rw [cnt_cons, ih fun z => h (List.mem_cons_of_mem _ z), if_neg fun z => h (List.mem_cons.mpr (.inl (Prod.ext z.1.symm z.2.symm)))]; rfl
theorem Pt.cnt_le (h : Pt L n one k ps) (i j : Nat) : cnt ps i j ≤ 1 := by
  induction h with
  | nil => exact Int.zero_le_ofNat 1
  | cons _ _ _ _ d _ ih =>
    rw [cnt_cons]
    split
    · rename_i c
      rw [cnt_zero2 fun e he => by rw [← c.2]; exact d e he]
      omega
    · omega
/-- what goes out of i along a way, less what comes -/
theorem Pt.tele (h : Pt L n one k ps) (i : Nat) (hi : i < n) : S n (fun j => cnt ps j i) - S n (fun j => cnt ps i j) = (if i = k then 1 else 0) - (if i = one then 1 else 0) := by
  induction h with
  | nil => show S n (fun _ => 0) - S n (fun _ => 0) = _; rw [S_zero]; omega
  | @cons p k ps a b _ _ _ _ ih =>
    have e1 : S n (fun j => cnt ((p, k) :: ps) j i) = (if i = k then 1 else 0) + S n (fun j => cnt ps j i) := by
      show S n (fun j => (if p = j ∧ k = i then (1 : Int) else 0) + cnt ps j i) = _
      rw [S_add]
      congr 1
      by_cases c : i = k
      · rw [if_pos c, S_one a fun j _ hj => if_neg fun z => hj z.1.symm, if_pos ⟨rfl, c.symm⟩]
      · rw [if_neg c, S_zero' fun j _ => if_neg fun z => c z.2.symm]
    have e2 : S n (fun j => cnt ((p, k) :: ps) i j) = (if i = p then 1 else 0) + S n (fun j => cnt ps i j) := by
      show S n (fun j => (if p = i ∧ k = j then (1 : Int) else 0) + cnt ps i j) = _
      rw [S_add]
      congr 1
      by_cases c : i = p
      · rw [if_pos c, S_one b fun j _ hj => if_neg fun z => hj z.2.symm, if_pos ⟨c.symm, rfl⟩]
      · rw [if_neg c, S_zero' fun j _ => if_neg fun z => c z.1.symm]
    rw [e1, e2]
    omega
end
/-- what is kept while flows are led -/
structure Ff (n : Nat) (C : Mat) (one other : Nat) (L : Mat) : Prop where
  nn : ∀ i j, 0 ≤ L i j
  sk : ∀ i j, L i j + L j i = C i j + C j i
  ex : ∀ i, i < n → i ≠ one → i ≠ other → S n (L i) = S n (C i)
theorem Ff.led {n : Nat} {C : Mat} {one other : Nat} {L : Mat} (F : Ff n C one other L) {ps : List (Nat × Nat)} (h : Pt L n one other ps) (hn : one ≠ other) (h1 : one < n) (he : ps ≠ []) :
    Ff n C one other (runP (amt L ps) L ps) ∧ S n (runP (amt L ps) L ps one) + 1 ≤ S n (L one) := by
  have a1 : 1 ≤ amt L ps := by
    obtain ⟨e, a, b⟩ := amt_mem (L := L) he
    rw [b]
    exact h.pos e a
  have at_ := run_at (a := amt L ps) (L := L) h.ne
  have row : ∀ i, i < n → S n (runP (amt L ps) L ps i) = S n (L i) + amt L ps * ((if i = other then 1 else 0) - (if i = one then 1 else 0)) := by
    intro i hi
    rw [← h.tele i hi, Int.mul_sub, ← S_mul, ← S_mul, S_congr (f := runP (amt L ps) L ps i) fun j _ => at_ i j, S_add, S_sub]
    omega
  refine ⟨⟨fun i j => ?_, fun i j => ?_, fun i hi ho ht => ?_⟩, ?_⟩
  · rw [at_]
    have n1 := cnt_nonneg (ps := ps) (i := j) (j := i)
    have n2 : 0 ≤ amt L ps * cnt ps j i := Int.mul_nonneg (by omega) n1
    by_cases c : (i, j) ∈ ps
    · have l1 := amt_le (L := L) c
      have l2 := h.cnt_le i j
      have l3 : amt L ps * cnt ps i j ≤ amt L ps * 1 := Int.mul_le_mul_of_nonneg_left l2 (by omega)
      simp only at l1
      omega
    · rw [cnt_zero c, Int.mul_zero]
      have := F.nn i j
      omega
  · rw [at_, at_, ← F.sk i j]
    omega
  · rw [row i hi, if_neg ht, if_neg ho]
    have := F.ex i hi ho ht
    omega
  · rw [row one h1, if_neg hn, if_pos rfl]
    omega
def ffLoop (n one other : Nat) : Nat → Mat → Mat
  | 0, L => L
  | f + 1, L => if way L n one other = [] then L else ffLoop n one other f (runP (amt L (way L n one other)) L (way L n one other))
def ff (n : Nat) (C : Mat) (one other : Nat) : Mat := ffLoop n one other ((S n (C one)).toNat + 1) C
theorem ffLoop_ok {n : Nat} {C : Mat} {one other : Nat} (hn : one ≠ other) (h1 : one < n) : ∀ (f : Nat) (L : Mat), Ff n C one other L → S n (L one) < f → Ff n C one other (ffLoop n one other f L) ∧ way (ffLoop n one other f L) n one other = []
  | 0, L, F, hf => by
    have := S_nonneg (n := n) fun j _ => F.nn one j
    exact absurd hf (by omega)
  | f + 1, L, F, hf => by
    unfold ffLoop
    by_cases c : way L n one other = []
    · rw [if_pos c]
      exact ⟨F, c⟩
    · rw [if_neg c]
      obtain ⟨a, b⟩ := F.led (way_ok h1 hn c) hn h1 c
      exact ffLoop_ok hn h1 f _ a (by omega)
theorem Ff.init {n : Nat} {C : Mat} {one other : Nat} (h : ∀ i j, 0 ≤ C i j) : Ff n C one other C := ⟨h, fun _ _ => rfl, fun _ _ _ _ => rfl⟩
theorem ff_ok {n : Nat} {C : Mat} {one other : Nat} (h : ∀ i j, 0 ≤ C i j) (hn : one ≠ other) (h1 : one < n) : Ff n C one other (ff n C one other) ∧ way (ff n C one other) n one other = [] :=
  ffLoop_ok hn h1 _ C (Ff.init h) (by have := S_nonneg (n := n) fun j _ => h one j; omega)
end N

namespace N
open G
/-! ### sorted -/
def sortN (n : Nat) (ks : List Nat) : List Nat := (List.range n).filter fun k => decide (k ∈ ks)
theorem sortN_mem {n : Nat} {ks : List Nat} (h : ∀ k ∈ ks, k < n) (k : Nat) : k ∈ sortN n ks ↔ k ∈ ks := by
  unfold sortN
  rw [List.mem_filter, List.mem_range]
  exact ⟨fun z => of_decide_eq_true z.2, fun z => ⟨h k z, decide_eq_true z⟩⟩
theorem sortN_nodup (n : Nat) (ks : List Nat) : (sortN n ks).Nodup := List.nodup_range.filter _
theorem sortN_lt {n : Nat} {ks : List Nat} : ∀ k ∈ sortN n ks, k < n := fun k hk => List.mem_range.mp (List.mem_filter.mp hk).1
theorem sortN_len (n : Nat) (ks : List Nat) : (sortN n ks).length ≤ n := by
  have h := List.length_filter_le (fun k => decide (k ∈ ks)) (List.range n)
  rw [List.length_range] at h
  exact h
theorem sortN_congr {n : Nat} {ks ms : List Nat} (h : ∀ k, k < n → (k ∈ ks ↔ k ∈ ms)) : sortN n ks = sortN n ms := by
  unfold sortN
  refine List.filter_congr fun k hk => ?_
  exact decide_eq_decide.mpr (h k (List.mem_range.mp hk))
theorem sorted_is {n : Nat} {ks : List Nat} {ys : List Int} (nd : ks.Nodup) (hl : ∀ k ∈ ks, k < n) (hp : ys.Perm (ks.map fun (k : Nat) => (k : Int))) (hs : ys.Pairwise (· ≤ ·)) : ys = (sortN n ks).map fun (k : Nat) => (k : Int) := by
  have p1 : (sortN n ks).Perm ks := (List.perm_ext_iff_of_nodup (sortN_nodup n ks) nd).mpr (sortN_mem hl)
  refine List.Perm.eq_of_pairwise (le := (· ≤ ·)) (fun a b _ _ x y => Int.le_antisymm x y) hs ?_ (hp.trans (p1.map _).symm)
  rw [List.pairwise_map]
  refine List.Pairwise.imp (R := (· < ·)) (fun {a b} h => by omega) ?_
  unfold sortN
  exact List.Pairwise.filter _ List.pairwise_lt_range
/-! ### what a side costs -/
def cut (C : Mat) (n : Nat) (w : Nat → Bool) : Int := S n fun i => S n fun j => if (w i && !w j) = true then C i j else 0
section
variable {C L : Mat} {n one other : Nat} {w : Nat → Bool}
theorem cut_congr {w' : Nat → Bool} (h : ∀ i, i < n → w i = w' i) : cut C n w = cut C n w' :=
  S_congr fun i hi => S_congr fun j hj => by rw [h i hi, h j hj]
theorem cut_not (h : ∀ i j, C i j = C j i) : cut C n (fun i => !w i) = cut C n w := by
  unfold cut
  rw [S_swap]
  refine S_congr fun i _ => S_congr fun j _ => ?_
  rw [h j i]
  show (if (!w j && !!w i) = true then C i j else 0) = _
  cases w i <;> cases w j <;> rfl
/-- what is led from one to other, by any side between them -/
theorem val_cut (F : Ff n C one other L) (h1 : one < n) (w1 : w one = true) (w2 : w other = false) : S n (C one) - S n (L one) = S n fun i => S n fun j => if (w i && !w j) = true then C i j - L i j else 0 := by
  have skw : ∀ i j, C i j - L i j = -(C j i - L j i) := fun i j => by have := F.sk i j; omega
  have inner : S n (fun i => S n fun j => if (w i && w j) = true then C i j - L i j else 0) = 0 := by
    have e : S n (fun i => S n fun j => if (w i && w j) = true then C i j - L i j else 0) = - S n (fun i => S n fun j => if (w i && w j) = true then C i j - L i j else 0) := by
      conv => lhs; rw [S_swap]
      rw [← S_neg]
      refine S_congr fun i _ => ?_
      rw [← S_neg]
      refine S_congr fun j _ => ?_
      rw [skw j i]
      cases w i <;> cases w j <;> rfl
    omega
  have a1 : S n (fun i => if w i = true then S n (C i) - S n (L i) else 0) = S n (C one) - S n (L one) := by
    rw [S_one h1 fun i hi hne => ?_]
    · rw [if_pos w1]
    · by_cases c : w i = true
      · rw [if_pos c, F.ex i hi hne (fun z => by rw [z, w2] at c; cases c), Int.sub_self]
      · rw [if_neg c]
  have key : S n (fun i => if w i = true then S n (C i) - S n (L i) else 0) = (S n fun i => S n fun j => if (w i && !w j) = true then C i j - L i j else 0) + S n (fun i => S n fun j => if (w i && w j) = true then C i j - L i j else 0) := by
    rw [← S_add]
    refine S_congr fun i _ => ?_
    rw [← S_add]
    by_cases c : w i = true
    · rw [if_pos c, ← S_sub]
      refine S_congr fun j _ => ?_
      rw [c]
      cases w j <;> simp
    · rw [if_neg c]
      refine (S_zero' fun j _ => ?_).symm
      have : w i = false := by simpa using c
      rw [this]
      simp
  rw [← a1, key, inner, Int.add_zero]
theorem val_le (F : Ff n C one other L) (h1 : one < n) (w1 : w one = true) (w2 : w other = false) : S n (C one) - S n (L one) ≤ cut C n w := by
  rw [val_cut F h1 w1 w2]
  refine S_le fun i _ => S_le fun j _ => ?_
  have := F.nn i j
  split
  · omega
  · exact Int.le_refl _
theorem val_eq (F : Ff n C one other L) (h1 : one < n) (w1 : w one = true) (w2 : w other = false) (h0 : ∀ i j, i < n → j < n → w i = true → w j = false → L i j = 0) : S n (C one) - S n (L one) = cut C n w := by
  rw [val_cut F h1 w1 w2]
  refine S_congr fun i hi => S_congr fun j hj => ?_
  by_cases c : (w i && !w j) = true
  · rw [if_pos c, if_pos c]
    have c2 := Bool.and_eq_true_iff.mp c
    rw [h0 i j hi hj c2.1 (by simpa using c2.2), Int.sub_zero]
  · rw [if_neg c, if_neg c]
end
/-! ### the cheapest wall -/
def reach (C : Mat) (n one other : Nat) : List Nat := keys (bfs (ff n C one other) n one other)
def wallN (C : Mat) (n one other : Nat) : List Nat := sortN n (reach C n one other)
def mostN (C : Mat) (n one other : Nat) : Int := S n (C one) - S n (ff n C one other one)
def wb (C : Mat) (n one other : Nat) (k : Nat) : Bool := decide (k ∈ wallN C n one other)
section
variable {C : Mat} {n one other : Nat}
theorem wallN_mem (h1 : one < n) (k : Nat) : k ∈ wallN C n one other ↔ k ∈ reach C n one other := sortN_mem (bfs_bt h1).lt k
theorem wallN_one (h1 : one < n) : one ∈ wallN C n one other := (wallN_mem h1 _).mpr (bfs_bt h1).one_mem
theorem wallN_other (hc : ∀ i j, 0 ≤ C i j) (h1 : one < n) (hn : one ≠ other) : other ∉ wallN C n one other := fun z =>
  ((way_nil h1 hn).mp (ff_ok hc hn h1).2) ((wallN_mem h1 _).mp z)
theorem wallN_closed (hc : ∀ i j, 0 ≤ C i j) (h1 : one < n) (hn : one ≠ other) {i j : Nat} (hi : i ∈ wallN C n one other) (hj : j < n) (hl : 0 < ff n C one other i j) : j ∈ wallN C n one other :=
  (wallN_mem h1 _).mpr (bfs_closed h1 ((way_nil h1 hn).mp (ff_ok hc hn h1).2) i ((wallN_mem h1 _).mp hi) j hj hl)
theorem mostN_cut (hc : ∀ i j, 0 ≤ C i j) (h1 : one < n) (hn : one ≠ other) : mostN C n one other = cut C n (wb C n one other) := by
  have F := (ff_ok hc hn h1).1
  refine val_eq F h1 (decide_eq_true (wallN_one h1)) (decide_eq_false (wallN_other hc h1 hn)) fun i j hi hj a b => ?_
  have a' : i ∈ wallN C n one other := of_decide_eq_true a
  have b' : j ∉ wallN C n one other := of_decide_eq_false b
  have := F.nn i j
  refine Classical.byContradiction fun z => b' (wallN_closed hc h1 hn a' hj (by omega))
theorem mostN_le (hc : ∀ i j, 0 ≤ C i j) (h1 : one < n) (hn : one ≠ other) {w : Nat → Bool} (w1 : w one = true) (w2 : w other = false) : mostN C n one other ≤ cut C n w := val_le (ff_ok hc hn h1).1 h1 w1 w2
theorem mostN_comm (hc : ∀ i j, 0 ≤ C i j) (hs : ∀ i j, C i j = C j i) (h1 : one < n) (h2 : other < n) (hn : one ≠ other) : mostN C n one other = mostN C n other one := by
  refine Int.le_antisymm ?_ ?_
  · rw [mostN_cut hc h2 hn.symm, ← cut_not hs]
    exact mostN_le hc h1 hn (by simp [wb, wallN_other hc h2 hn.symm]) (by simp [wb, wallN_one h2])
  · rw [mostN_cut hc h1 hn, ← cut_not hs]
    exact mostN_le hc h2 hn.symm (by simp [wb, wallN_other hc h1 hn]) (by simp [wb, wallN_one h1])
end
/-! ### of ties -/
theorem costM_comm (ts : List Tie) (i j : Nat) : costM ts i j = costM ts j i := by
  unfold costM
  congr 1
  refine List.map_congr_left fun t _ => ?_
  by_cases c : (t.1 = i ∧ t.2.1 = j) ∨ (t.1 = j ∧ t.2.1 = i)
  · rw [if_pos c, if_pos c.symm]
  · rw [if_neg c, if_neg fun z => c z.symm]
theorem costM_nonneg {n : Nat} {ts : List Tie} (g : ∀ t ∈ ts, Good n t) (i j : Nat) : 0 ≤ costM ts i j := by
  unfold costM
  induction ts with
  | nil => exact Int.le_refl _
  | cons t ts ih =>
    rw [List.map_cons, List.sum_cons]
    have h1 := ih fun t ht => g t (List.mem_cons_of_mem _ ht)
    have h2 := (g t (List.mem_cons_self ..)).lo
    split <;> omega
theorem cut_add {A B : Mat} {n : Nat} {w : Nat → Bool} : cut (fun i j => A i j + B i j) n w = cut A n w + cut B n w := by
  unfold cut
  rw [← S_add]
  refine S_congr fun i _ => ?_
  rw [← S_add]
  refine S_congr fun j _ => ?_
  split <;> rfl
theorem cut_at {n a b : Nat} {c : Int} {w : Nat → Bool} (ha : a < n) (hb : b < n) : cut (fun i j => if a = i ∧ b = j then c else 0) n w = if (w a && !w b) = true then c else 0 := by
  refine (S_one ha fun i _ hne => S_zero' fun j _ => ?_).trans ((S_one hb fun j _ hne => ?_).trans ?_)
  · dsimp only
    rw [if_neg (fun z : a = i ∧ b = j => hne z.1.symm)]
    split <;> rfl
  · dsimp only
    rw [if_neg (fun z : a = a ∧ b = j => hne z.2.symm)]
    split <;> rfl
  · dsimp only
    rw [if_pos (⟨rfl, rfl⟩ : a = a ∧ b = b)]
theorem cut_cutP {n : Nat} {ts : List Tie} (g : ∀ t ∈ ts, Good n t) (ns : List Nat) : cut (costM ts) n (fun k => decide (k ∈ ns)) = cutP ts ns := by
  induction ts with
  | nil => exact S_zero' fun i _ => S_zero' fun j _ => by unfold costM; split <;> rfl
  | cons t ts ih =>
    have gt := g t (List.mem_cons_self ..)
    have e : costM (t :: ts) = fun i j => ((if t.1 = i ∧ t.2.1 = j then t.2.2 else 0) + (if t.2.1 = i ∧ t.1 = j then t.2.2 else 0)) + costM ts i j := by
      funext i j
      show (if (t.1 = i ∧ t.2.1 = j) ∨ (t.1 = j ∧ t.2.1 = i) then t.2.2 else 0) + costM ts i j = _
      congr 1
      have ne := gt.ne
      by_cases c : t.1 = i ∧ t.2.1 = j
      · rw [if_pos (.inl c), if_pos c, if_neg (fun z => ne (c.1.trans z.1.symm)), Int.add_zero]
      · rw [if_neg c, Int.zero_add]
        by_cases d : t.2.1 = i ∧ t.1 = j
        · rw [if_pos (.inr ⟨d.2, d.1⟩), if_pos d]
        · rw [if_neg d, if_neg fun z => z.elim c fun y => d ⟨y.2, y.1⟩]
    rw [e, cut_add, cut_add, cut_at gt.one gt.two, cut_at gt.two gt.one, ih fun t ht => g t (List.mem_cons_of_mem _ ht)]
    show _ = (if (decide (t.1 ∈ ns) != decide (t.2.1 ∈ ns)) = true then t.2.2 else 0) + cutP ts ns
    cases decide (t.1 ∈ ns) <;> cases decide (t.2.1 ∈ ns) <;> simp
theorem mostN_cutP {n : Nat} {ts : List Tie} (g : ∀ t ∈ ts, Good n t) {one other : Nat} (h1 : one < n) (hn : one ≠ other) : cutP ts (wallN (costM ts) n one other) = mostN (costM ts) n one other := by
  rw [mostN_cut (costM_nonneg g) h1 hn, ← cut_cutP g]
  rfl
/-! ### a flow's rows -/
def rowsAt (F : Mat) (n h : Nat) (m : Nat) : List Tie := ((List.range m).filter fun t => decide (0 < F h t)).map fun t => (h, t, F h t)
def rowsTo (F : Mat) (n : Nat) : Nat → List Tie
  | 0 => []
  | h + 1 => rowsTo F n h ++ rowsAt F n h n
def rowsOf (F : Mat) (n : Nat) : List Tie := rowsTo F n n
theorem rowsAt_succ {F : Mat} {n h m : Nat} : rowsAt F n h (m + 1) = if 0 < F h m then rowsAt F n h m ++ [(h, m, F h m)] else rowsAt F n h m := by
  unfold rowsAt
  rw [List.range_succ, List.filter_append, List.map_append]
  by_cases c : 0 < F h m
  · rw [if_pos c, List.filter_cons, if_pos (decide_eq_true c)]
    rfl
  · rw [if_neg c, List.filter_cons, if_neg (by simpa using c)]
    exact List.append_nil _
theorem rowsAt_len {F : Mat} {n h m : Nat} : (rowsAt F n h m).length ≤ m := by
  unfold rowsAt
  rw [List.length_map]
  have h := List.length_filter_le (fun t => decide (0 < F h t)) (List.range m)
  rw [List.length_range] at h
  exact h
theorem rowsTo_len {F : Mat} {n : Nat} : ∀ h, (rowsTo F n h).length ≤ h * n
  | 0 => by simp [rowsTo]
  | h + 1 => by
    have a := rowsTo_len (F := F) (n := n) h
    have b := rowsAt_len (F := F) (n := n) (h := h) (m := n)
    show (rowsTo F n h ++ rowsAt F n h n).length ≤ (h + 1) * n
    rw [List.length_append, Nat.succ_mul]
    omega
theorem rowsAt_mem {F : Mat} {n h m : Nat} {r : Tie} : r ∈ rowsAt F n h m ↔ r.1 = h ∧ r.2.1 < m ∧ r.2.2 = F r.1 r.2.1 ∧ 0 < r.2.2 := by
  unfold rowsAt
  constructor
  · intro hr
    obtain ⟨t, ht, rfl⟩ := List.mem_map.mp hr
    obtain ⟨a, b⟩ := List.mem_filter.mp ht
    exact ⟨rfl, List.mem_range.mp a, rfl, of_decide_eq_true b⟩
  · rintro ⟨rfl, a, b, c⟩
    obtain ⟨x, y, z⟩ := r
    simp only at a b c ⊢
    subst b
    exact List.mem_map.mpr ⟨y, List.mem_filter.mpr ⟨List.mem_range.mpr a, decide_eq_true c⟩, rfl⟩
theorem rowsTo_mem {F : Mat} {n : Nat} {r : Tie} : ∀ {h : Nat}, r ∈ rowsTo F n h ↔ r.1 < h ∧ r.2.1 < n ∧ r.2.2 = F r.1 r.2.1 ∧ 0 < r.2.2
  | 0 => by simp [rowsTo]
  | h + 1 => by
    show r ∈ rowsTo F n h ++ rowsAt F n h n ↔ _
    rw [List.mem_append, rowsTo_mem, rowsAt_mem]
    constructor
    · rintro (⟨a, b⟩ | ⟨a, b⟩)
      · exact ⟨by omega, b⟩
      · exact ⟨by omega, b⟩
    · rintro ⟨a, b⟩
      by_cases e : r.1 = h
      · exact .inr ⟨e, b⟩
      · exact .inl ⟨by omega, b⟩
/-- what goes out of a place, less what comes -/
def goneOf (rs : List Tie) (p : Nat) : Int := (rs.map fun r => (if r.1 = p then r.2.2 else 0) - (if r.2.1 = p then r.2.2 else 0)).sum
theorem goneOf_append (a b : List Tie) (p : Nat) : goneOf (a ++ b) p = goneOf a p + goneOf b p := by unfold goneOf; rw [List.map_append, List.sum_append]
def gone1 (F : Mat) (p h t : Nat) : Int := if 0 < F h t then (if h = p then F h t else 0) - (if t = p then F h t else 0) else 0
theorem goneAt {F : Mat} {n h p : Nat} : ∀ m, goneOf (rowsAt F n h m) p = S m (gone1 F p h)
  | 0 => rfl
  | m + 1 => by
    rw [rowsAt_succ]
    show _ = S m (gone1 F p h) + gone1 F p h m
    rw [← goneAt m]
    unfold gone1
    by_cases c : 0 < F h m
    · rw [if_pos c, if_pos c, goneOf_append]
      congr 1
      show _ + 0 = _
      rw [Int.add_zero]
    · rw [if_neg c, if_neg c, Int.add_zero]
theorem goneTo {F : Mat} {n p : Nat} : ∀ h, goneOf (rowsTo F n h) p = S h fun i => S n (gone1 F p i)
  | 0 => rfl
  | h + 1 => by
    show goneOf (rowsTo F n h ++ rowsAt F n h n) p = S h (fun i => S n (gone1 F p i)) + S n (gone1 F p h)
    rw [goneOf_append, goneTo h, goneAt]
theorem gone_rows {F : Mat} {n p : Nat} (hs : ∀ i j, F i j = - F j i) (hp : p < n) : goneOf (rowsOf F n) p = S n (F p) := by
  unfold rowsOf
  rw [goneTo]
  have e : ∀ i t, gone1 F p i t = (if i = p then (if 0 < F p t then F p t else 0) else 0) - (if t = p then (if 0 < F i p then F i p else 0) else 0) := by
    intro i t
    unfold gone1
    by_cases a : i = p
    · subst a
      by_cases b : t = i
      · subst b; simp
      · simp [b]
    · by_cases b : t = p
      · subst b
        simp only [if_neg a]
        split <;> simp
      · simp [a, b]
  have e1 : S n (fun i => S n (gone1 F p i)) = S n (fun t => if 0 < F p t then F p t else 0) - S n (fun i => if 0 < F i p then F i p else 0) := by
    rw [show (fun i => S n (gone1 F p i)) = fun i => (if i = p then S n (fun t => if 0 < F p t then F p t else 0) else 0) - (if 0 < F i p then F i p else 0) from funext fun i => ?_, S_sub, S_pick (x := fun _ => S n (fun t => if 0 < F p t then F p t else 0)) hp]
    rw [S_congr fun t _ => e i t, S_sub, S_pick (x := fun _ => if 0 < F i p then F i p else 0) hp]
    congr 1
    by_cases a : i = p
    · rw [if_pos a]
      exact S_congr fun t _ => if_pos a
    · rw [if_neg a]
      exact S_zero' fun t _ => if_neg a
  rw [e1, ← S_sub]
  refine S_congr fun t _ => ?_
  rw [hs t p]
  have := hs p t
  by_cases a : 0 < F p t
  · rw [if_pos a, if_neg (by omega), Int.sub_zero]
  · rw [if_neg a]
    by_cases b : 0 < - F p t
    · rw [if_pos b]; omega
    · rw [if_neg b]; omega
theorem S_two {n a b : Nat} {f : Nat → Int} (ha : a < n) (hb : b < n) (hn : a ≠ b) (h0 : ∀ i, i < n → i ≠ a → i ≠ b → f i = 0) : S n f = f a + f b := by
  have e : S n f = S n (fun i => (if i = a then f a else 0) + (if i = b then f b else 0)) := S_congr fun i hi => by
    by_cases c : i = a
    · subst c
      rw [if_pos rfl, if_neg hn, Int.add_zero]
    · by_cases d : i = b
      · subst d
        rw [if_neg c, if_pos rfl, Int.zero_add]
      · rw [if_neg c, if_neg d, h0 i hi c d]
        rfl
  rw [e, S_add, S_pick (x := fun _ => f a) ha, S_pick (x := fun _ => f b) hb]
/-- rows, as the document asks them -/
structure RowsRight (n : Nat) (C : Mat) (rs : List Tie) : Prop where
  lt : ∀ r ∈ rs, r.1 < n ∧ r.2.1 < n
  ne : ∀ r ∈ rs, r.1 ≠ r.2.1
  lo : ∀ r ∈ rs, 1 ≤ r.2.2
  hi : ∀ r ∈ rs, r.2.2 ≤ C r.1 r.2.1
  no : ∀ r ∈ rs, ∀ s ∈ rs, ¬ (s.1 = r.2.1 ∧ s.2.1 = r.1)
  inc : rs.Pairwise fun r s => r.1 < s.1 ∨ (r.1 = s.1 ∧ r.2.1 < s.2.1)
theorem rowsAt_inc {F : Mat} {n h m : Nat} : (rowsAt F n h m).Pairwise fun r s => r.1 < s.1 ∨ (r.1 = s.1 ∧ r.2.1 < s.2.1) := by
  unfold rowsAt
  rw [List.pairwise_map]
  refine List.Pairwise.imp (R := (· < ·)) (fun {a b} h => .inr ⟨rfl, h⟩) ?_
  exact List.Pairwise.filter _ List.pairwise_lt_range
theorem rowsTo_inc {F : Mat} {n : Nat} : ∀ h, (rowsTo F n h).Pairwise fun r s => r.1 < s.1 ∨ (r.1 = s.1 ∧ r.2.1 < s.2.1)
  | 0 => List.Pairwise.nil
  | h + 1 => by
    show (rowsTo F n h ++ rowsAt F n h n).Pairwise _
    rw [List.pairwise_append]
    refine ⟨rowsTo_inc h, rowsAt_inc, fun r hr s hs => .inl ?_⟩
    have a := (rowsTo_mem.mp hr).1
    have b := (rowsAt_mem.mp hs).1
    omega
section
variable {C L : Mat} {n one other : Nat}
def led (C L : Mat) : Mat := fun i j => C i j - L i j
theorem led_skew (F : Ff n C one other L) (i j : Nat) : led C L i j = - led C L j i := by
  have := F.sk i j
  unfold led
  omega
theorem rows_right (F : Ff n C one other L) : RowsRight n C (rowsOf (led C L) n) := by
  have mem : ∀ r ∈ rowsOf (led C L) n, r.1 < n ∧ r.2.1 < n ∧ r.2.2 = led C L r.1 r.2.1 ∧ 0 < r.2.2 := fun r hr => rowsTo_mem.mp hr
  refine ⟨fun r hr => ⟨(mem r hr).1, (mem r hr).2.1⟩, fun r hr z => ?_, fun r hr => by have := (mem r hr).2.2.2; omega, fun r hr => ?_, fun r hr s hs z => ?_, rowsTo_inc n⟩
  · obtain ⟨_, _, e, p⟩ := mem r hr
    rw [← z] at e
    have := led_skew F r.1 r.1
    omega
  · obtain ⟨_, _, e, p⟩ := mem r hr
    have := F.nn r.1 r.2.1
    rw [e]
    unfold led
    omega
  · obtain ⟨_, _, e, p⟩ := mem r hr
    obtain ⟨_, _, e2, p2⟩ := mem s hs
    rw [z.1, z.2] at e2
    have := led_skew F r.1 r.2.1
    omega
theorem gone_else (F : Ff n C one other L) {p : Nat} (hp : p < n) (h1 : p ≠ one) (h2 : p ≠ other) : goneOf (rowsOf (led C L) n) p = 0 := by
  rw [gone_rows (led_skew F) hp]
  show S n (fun j => C p j - L p j) = 0
  rw [S_sub]
  show S n (C p) - S n (L p) = 0
  rw [F.ex p hp h1 h2, Int.sub_self]
theorem gone_one (F : Ff n C one other L) {p : Nat} (hp : p < n) : goneOf (rowsOf (led C L) n) p = S n (C p) - S n (L p) := by
  rw [gone_rows (led_skew F) hp]
  exact S_sub
theorem gone_two (F : Ff n C one other L) (h1 : one < n) (h2 : other < n) (hn : one ≠ other) : goneOf (rowsOf (led C L) n) one + goneOf (rowsOf (led C L) n) other = 0 := by
  rw [gone_rows (led_skew F) h1, gone_rows (led_skew F) h2]
  rw [← S_two (f := fun i => S n (led C L i)) h1 h2 hn fun i hi a b => ?_]
  · have e : S n (fun i => S n (led C L i)) = - S n (fun i => S n (led C L i)) := by
      conv => lhs; rw [S_swap]
      rw [← S_neg]
      refine S_congr fun i _ => ?_
      rw [← S_neg]
      exact S_congr fun j _ => led_skew F j i
    omega
  · rw [← gone_rows (led_skew F) hi]
    exact gone_else F hi a b
theorem cut_nonneg {w : Nat → Bool} (h : ∀ i j, 0 ≤ C i j) : 0 ≤ cut C n w := S_nonneg fun i _ => S_nonneg fun j _ => by
  split
  · exact h i j
  · exact Int.le_refl _
theorem mostN_nonneg (hc : ∀ i j, 0 ≤ C i j) (h1 : one < n) (hn : one ≠ other) : 0 ≤ mostN C n one other := by
  rw [mostN_cut hc h1 hn]
  exact cut_nonneg hc
end
end N

namespace G
open PySem PySem.Spec PyProof.Rows L2 Evl RZ
/-! ### dicts of ints, deques: as they are told -/
section
variable {K : PySem.W.Frag} {σ : L2.St} {H : Hp} {ta tb tl : TE}
theorem u1 {k : Nat} {A : Around} (r : L2.Room k A) : A.units + 1 < cLine := by
  have := r.units
  omega
theorem u65 {k : Nat} {A : Around} (r : L2.Room k A) : A.units + 65 < cLine := by
  have := r.un
  omega
theorem ev_dnin {d : Addr} {kvs : List (Key × V)} {k : Key} (ha : Ev ta σ H (kV k)) (hb : Ev tb σ H (.ref d)) (hd : H d = some (.dK kvs)) : Ev (tDNotIn ta tb) σ H (.bl (!(valV kvs k).isSome)) := fun H1 e Q q =>
  ha H1 e _ fun H2 e2 => hb H2 (e.trans e2) _ fun H3 e3 => ⟨d, _, rfl, .k (((e.trans e2).trans e3) _ _ hd), q H3 (e2.trans e3)⟩
theorem ev_din {d : Addr} {kvs : List (Key × V)} {k : Key} (ha : Ev ta σ H (kV k)) (hb : Ev tb σ H (.ref d)) (hd : H d = some (.dK kvs)) : Ev (tDIn ta tb) σ H (.bl (valV kvs k).isSome) := fun H1 e Q q =>
  ha H1 e _ fun H2 e2 => hb H2 (e.trans e2) _ fun H3 e3 => ⟨d, _, rfl, .k (((e.trans e2).trans e3) _ _ hd), q H3 (e2.trans e3)⟩
theorem ev_dget {d : Addr} {kvs : List (Key × V)} {k : Key} {v : V} (hb : Ev tb σ H (.ref d)) (ha : Ev ta σ H (kV k)) (hd : H d = some (.dK kvs)) (hv : valV kvs k = some v) : Ev (tDGet tb ta) σ H v := fun H1 e Q q =>
  hb H1 e _ fun H2 e2 => ha H2 (e.trans e2) _ fun H3 e3 => ⟨d, v, rfl, by rw [← hv]; exact .k (((e.trans e2).trans e3) _ _ hd), q H3 (e2.trans e3)⟩
theorem et_dq {a : Addr} {ns : List Int} (ha : Ev ta σ H (.ref a)) (h : H a = some (DqI a ns)) (hz : ns.length ≤ 100000) : EvT (fun σ H Q => ta σ H fun x H' => rDqTru x H' Q) σ H (decide (0 < ns.length)) := fun H1 e Q q =>
  ha H1 e _ fun H2 e2 => ⟨a, ns, rfl, e2 _ _ (e _ _ h), hz, q H2 e2⟩
theorem s_forEn {a : Addr} {xs : List V} {g : TG} {D : Ends} {tu : TS} (h : Ev tl σ H (.ref a)) (hx : SqL K H a xs) (Pv : Nat → L2.St → Hp → Prop) (h0 : ∀ H1, Ex H H1 → Pv 0 σ H1) (hG : ∀ i σ' H', i ≤ xs.length → Pv i σ' H' → SqL K H' a xs)
    (hs : ∀ (i : Nat) (x : V) (T : Addr) (σ' : L2.St) (H' : Hp), xs[i]? = some x → Pv i σ' H' → H' T = none → g (.ref T) σ' (upd H' T (.tup [.int (i : Int), x])) fun σ2 H2 => tu { D with nx := Pv (i + 1), ct := Pv (i + 1), bk := D.nx } σ2 H2)
    (hd : ∀ σ' H', Pv xs.length σ' H' → D.nx σ' H') : tFor (iEnum K (tCons tl tNil)) g tu D σ H :=
  h H (Ex.refl H) _ fun H1 e => ⟨a, xs, rfl, ex_l e hx, for_it walk_enum Pv (h0 H1 e) hG (fun i x σ' H' H2 hi p y => by
    obtain ⟨T, u, v, rfl, hT, rfl, e1, e2⟩ := y
    obtain rfl := Option.some.inj e1
    exact hs i v T σ' H' e2 p hT) hd⟩
theorem er_dqL {te : TE} {ns : List Int} (h : EvL te σ H (ns.map V.int)) : EvR (tCB (rDqNew K) (tCons te tNil)) σ H (fun H1 v H2 => ∃ q, v = .ref q ∧ H1 q = none ∧ H2 q = some (DqI q ns)) := fun H1 e Q q =>
  h H1 e _ fun p H2 hp e2 h2 => ⟨p, ns, rfl, sq_of h2, fun d hd => q _ _ (e2.trans (Ex.new hd)) ⟨d, rfl, fresh_back e2 hd, upd_same⟩⟩
/-- {y: z}, a new dict -/
theorem er_disp1 {k : Key} {v : V} (ha : Ev ta σ H (kV k)) (hb : Ev tb σ H v) : EvR (tDisp [(ta, tb)]) σ H (fun H1 x H2 => ∃ d, x = .ref d ∧ H1 d = none ∧ H2 d = some (.dK [(k, v)])) := fun H1 e Q q p hp =>
  ha _ (e.trans (Ex.new hp)) _ fun H2 e2 => hb H2 ((e.trans (Ex.new hp)).trans e2) _ fun H3 e3 => by
    have h3 := e3 _ _ (e2 _ _ (upd_same (H := H1) (a := p) (o := .dK [])))
    exact ⟨h3, [(k, v)], rfl, Nat.le_of_ble_eq_true rfl, q _ _ (Ex.mut (((Ex.new hp).trans e2).trans e3) hp) ⟨p, rfl, hp, upd_same⟩⟩
/-- a list's truth -/
theorem et_truL {l : Addr} {xs : List V} (ha : Ev ta σ H (.ref l)) (h : SqL K H l xs) : EvT (fun σ H Q => ta σ H fun x H' => ∃ k, TruV K x H' k ∧ Q k H') σ H (!xs.isEmpty) := fun H1 e Q q =>
  ha H1 e _ fun H2 e2 => ⟨_, .inl ⟨xs, ex_l (e.trans e2) h, rfl⟩, q H2 e2⟩
/-- over a list that stands, by any target, to values that are known -/
theorem el_lcLg {a : Addr} {xs : List V} {g : TG} {t : TT} {te : TE} {vs : List Nat} (f : Nat → Bool) (v : Nat → V) (h : Ev tl σ H (.ref a)) (hx : SqL K H a xs) (hz : xs.length ≤ 40000)
    (hg : ∀ i x, xs[i]? = some x → ∃ σ2, wipe σ2 vs = wipe σ vs ∧ (∀ H2 Q, Ex H H2 → Q σ2 H2 → g x (wipe σ vs) H2 Q) ∧ EvT t σ2 H (f i) ∧ (f i = true → Ev te σ2 H (v i))) :
    EvL (tLc (iList K tl) g t te vs) σ H (given xs.length f v) := fun H0 e Q q => h H0 e _ fun H1 e1 => ⟨a, rfl, ⟨xs, ex_l (e.trans e1) hx⟩, fun Dl hD =>
  lc_list (xs := xs) (Cw H1 f v Dl) ⟨hD, Ex.new hD, upd_same⟩ (fun i H' _ p => ex_l ((e.trans e1).trans p.2.1) hx) (fun i x H' hi p => by
    obtain ⟨σ2, w1, w2, w3, w4⟩ := hg i x hi
    exact w2 H' _ ((e.trans e1).trans p.2.1) ⟨w1, cw_turn p (by have := (List.getElem?_eq_some_iff.mp hi).1; omega) (w3.mono (e.trans e1)) (fun hf => (w4 hf).mono (e.trans e1))⟩)
    (fun H' p => q Dl H' (fresh_back e1 p.1) (e1.trans p.2.1) p.2.2)⟩
theorem ev_minL {te : TE} {ns : List Int} {m : Int} (h : EvL te σ H (ns.map V.int)) (hm : m ∈ ns) (hl : ∀ y ∈ ns, m ≤ y) : Ev (tCB (rMin K) (tCons te tNil)) σ H (.int m) := fun H1 e Q q =>
  h H1 e _ fun p H2 hp e2 h2 => ⟨p, ns, rfl, sq_of h2, List.length_pos_of_mem hm, fun m' a b => by
    have : m' = m := Int.le_antisymm (b m hm) (hl m' a)
    rw [this]
    exact q H2 e2⟩
end
/-- in a comprehension's block: K by its name -/
theorem kn_pg_tup {X : Cx} {K : PySem.W.Frag} (hK : X.K = K) {es : List Expr} {k : Nat} {pos : Pos} {t : TGs} {n : Nat} (hc : X.calm = true) (h : PGs X es t)
    (hn : (assignEach es X.env).length = n := by rfl) (hst : (assignEach es X.env).findIdx? (·.1) = none := by rfl) : PG X (.Tuple es k pos) (gTup K n t) := by
  subst hK
  exact pg_tup hc h hn hst
/-! ### lists of new tuples -/
def TupV (K : PySem.W.Frag) (H : Hp) (v : V) (xs : List V) : Prop := ∃ a, v = .ref a ∧ SqT K H a xs
structure TupsV (K : PySem.W.Frag) (H : Hp) (vs : List V) (fs : List (List V)) : Prop where
  len : vs.length = fs.length
  at_ : ∀ (i : Nat) (v : V) (xs : List V), vs[i]? = some v → fs[i]? = some xs → TupV K H v xs
section
variable {K : PySem.W.Frag} {H H' : Hp} {vs : List V} {fs : List (List V)}
theorem TupV.ex {v : V} {xs : List V} (h : TupV K H v xs) (e : Ex H H') : TupV K H' v xs := by
  obtain ⟨a, rfl, h⟩ := h
  exact ⟨a, rfl, ex_t e h⟩
theorem TupsV.ex (h : TupsV K H vs fs) (e : Ex H H') : TupsV K H' vs fs := ⟨h.len, fun i v t a b => (h.at_ i v t a b).ex e⟩
theorem sqt_but {a r : Addr} {xs ys : List V} (h : SqT K H a ys) (hl : H r = some (.lst xs)) (k : ∀ b o, b ≠ r → H b = some o → H' b = some o) : SqT K H' a ys := by
  rcases h with (h | ⟨o, h⟩) | h
  · exact .inl (.inl (k _ _ (ne_of h hl (by intro q; cases q)) h))
  · exact .inl (.inr ⟨o, k _ _ (ne_of h hl (by intro q; cases q)) h⟩)
  · exact .inr h
theorem TupsV.but {r : Addr} {xs : List V} (h : TupsV K H vs fs) (hl : H r = some (.lst xs)) (k : ∀ b o, b ≠ r → H b = some o → H' b = some o) : TupsV K H' vs fs := ⟨h.len, fun i v t a b => by
  obtain ⟨c, rfl, hc⟩ := h.at_ i v t a b
  exact ⟨c, rfl, sqt_but hc hl k⟩⟩
theorem TupsV.updL {r : Addr} {xs zs : List V} (h : TupsV K H vs fs) (hl : H r = some (.lst xs)) : TupsV K (upd H r (.lst zs)) vs fs := h.but hl fun b o hb e => by rw [upd_ne hb]; exact e
theorem TupsV.nil : TupsV K H [] [] := ⟨rfl, fun i v t a _ => by simp at a⟩
theorem TupsV.get (h : TupsV K H vs fs) {i : Nat} {v : V} (hv : vs[i]? = some v) : ∃ xs a, fs[i]? = some xs ∧ v = .ref a ∧ SqT K H a xs := by
  have hi := (List.getElem?_eq_some_iff.mp hv).1
  have hi' : i < fs.length := by rw [← h.len]; exact hi
  obtain ⟨a, e, q⟩ := h.at_ i v fs[i] hv (List.getElem?_eq_getElem hi')
  exact ⟨fs[i], a, List.getElem?_eq_getElem hi', e, q⟩
theorem TupsV.snoc {v : V} {xs : List V} (h : TupsV K H vs fs) (hv : TupV K H v xs) : TupsV K H (vs ++ [v]) (fs ++ [xs]) := by
  refine ⟨by simp [h.len], fun i x y a b => ?_⟩
  have hl := h.len
  by_cases hi : i < vs.length
  · rw [List.getElem?_append_left hi] at a
    rw [List.getElem?_append_left (by omega)] at b
    exact h.at_ i x y a b
  · rw [List.getElem?_append_right (by omega)] at a b
    by_cases h0 : i - vs.length = 0
    · rw [h0] at a
      rw [← hl, h0] at b
      simp at a b
      subst a b
      exact hv
    · obtain ⟨m, hm⟩ : ∃ m, i - vs.length = m + 1 := ⟨i - vs.length - 1, by omega⟩
      rw [hm] at a
      simp at a
end
section
variable {K : PySem.W.Frag} {σ : L2.St} {H H' : Hp} {ta tb te : TE} {x y z v : V} {r : R2}
/-- a[lo:hi] of a tuple, not the whole -/
theorem eu_slT {tl th : TO} {a : Addr} {xs : List V} {lo hi : Option Int} (h : Ev te σ H (.ref a)) (h1 : EvO tl σ H lo) (h2 : EvO th σ H hi) (hs : SqT K H a xs) (hn : ¬ (HT.sIx xs.length 0 lo = 0 ∧ HT.sIx xs.length xs.length hi = xs.length)) : EvU (tSl (rSlT K) te tl th) σ H (cutV xs lo hi) := fun H1 e Q q =>
  h H1 e _ fun H2 e2 => h1 H2 (e.trans e2) _ fun H3 e3 => h2 H3 ((e.trans e2).trans e3) _ fun H4 e4 => ⟨a, xs, rfl, ex_t (((e.trans e2).trans e3).trans e4) hs, hn, fun p hp => q p _ (fresh_back ((e2.trans e3).trans e4) hp) (((e2.trans e3).trans e4).trans (Ex.new hp)) upd_same⟩
theorem ev_opU1 {xs : List V} (ha : EvU ta σ H xs) (hb : ∀ H1, Ex H H1 → Ev tb σ H1 y) (hr : ∀ p H1, H1 p = some (.tup xs) → Ex H H1 → RV r (.ref p) y H1 z) : Ev (tOp r ta tb) σ H z := fun H1 e Q q =>
  ha H1 e _ fun p H2 hp e2 h2 => hb H2 (e.trans e2) H2 (Ex.refl H2) _ fun H3 e3 => hr p H3 (e3 _ _ h2) ((e.trans e2).trans e3) H3 (Ex.refl H3) Q fun H4 e4 => q H4 ((e2.trans e3).trans e4)
/-- both sides known by relations -/
theorem ev_opR2 {R0 R1 : Hp → V → Hp → Prop} (h : EvR ta σ H R0) (hb : EvR tb σ H R1) (hr : ∀ H0 v H1 u H2, Ex H H0 → Ex H0 H1 → Ex H1 H2 → R0 H0 v H1 → R1 H1 u H2 → RV r v u H2 z) : Ev (tOp r ta tb) σ H z := fun H1 e Q q =>
  h H1 e _ fun v H2 e2 r2 => hb H2 (e.trans e2) _ fun u H3 e3 r3 => hr H1 v H2 u H3 e e2 e3 r2 r3 H3 (Ex.refl H3) Q fun H4 e4 => q H4 ((e2.trans e3).trans e4)
theorem er_ofL {xs : List V} (h : EvL te σ H xs) : EvR te σ H (fun H1 v H2 => ∃ p, v = .ref p ∧ H1 p = none ∧ H2 p = some (.lst xs)) := fun H1 e Q q => h H1 e _ fun p H2 hp e2 h2 => q _ H2 e2 ⟨p, rfl, hp, h2⟩
theorem er_ofU {xs : List V} (h : EvU te σ H xs) : EvR te σ H (fun H1 v H2 => ∃ p, v = .ref p ∧ H1 p = none ∧ H2 p = some (.tup xs)) := fun H1 e Q q => h H1 e _ fun p H2 hp e2 h2 => q _ H2 e2 ⟨p, rfl, hp, h2⟩
theorem er_ofLR {P : Addr → List V → Hp → Prop} (h : EvLR te σ H P) : EvR te σ H (fun H1 v H2 => ∃ p vs, v = .ref p ∧ H1 p = none ∧ H2 p = some (.lst vs) ∧ P p vs H2) := fun H1 e Q q => h H1 e _ fun p vs H2 hp e2 h2 r => q _ H2 e2 ⟨p, vs, rfl, hp, h2, r⟩
/-- tuples made one by one -/
theorem compTup {t : Nat → List V} : CompR (fun i _ v H2 => TupV K H2 v (t i)) (fun _ i v H => TupV K H v (t i)) := by
  refine ⟨fun D i v H1 H2 acc acc' e hD r => ?_, fun D i v H H2 acc acc' h1 h2 k r => ?_⟩
  · obtain ⟨a, rfl, r⟩ := r
    exact ⟨a, rfl, sqt_updL r (e _ _ hD)⟩
  · obtain ⟨a, rfl, r⟩ := r
    exact ⟨a, rfl, sqt_but r h1 k⟩
theorem fills_tups {t : Nat → List V} {is : List Nat} {vs : List V} (h : Fills (fun i v H => TupV K H v (t i)) is vs H) : TupsV K H vs (is.map t) := by
  refine ⟨by rw [h.1, List.length_map], fun k v y h1 h2 => ?_⟩
  rw [List.getElem?_map] at h2
  cases e : is[k]? with
  | none => rw [e] at h2; cases h2
  | some i =>
    rw [e] at h2
    have e2 : t i = y := Option.some.inj h2
    rw [← e2]
    exact h.2 k i v e h1
/-- lists of tuples of ints, as data -/
def pdTs (ls : List (List Int)) : List PyData := ls.map fun ns => PyData.tuple (pds ns)
theorem pdTs_lay : ∀ ls : List (List Int), PyData.canLayAll0 (pdTs ls) = true
  | [] => rfl
  | t :: ts => by
    show (PyData.canLayAll0 (pds t) && PyData.canLayAll0 (pdTs ts)) = true
    rw [pdTs_lay ts, pds_lay]
    rfl
theorem pdTs_depth : ∀ ls : List (List Int), PyData.depthAll (pdTs ls) ≤ 1
  | [] => Nat.zero_le _
  | t :: ts => by
    show max (PyData.depthAll (pds t) + 1) (PyData.depthAll (pdTs ts)) ≤ 1
    rw [pds_depth]
    exact Nat.max_le.mpr ⟨Nat.le_refl _, pdTs_depth ts⟩
theorem sh_tups (ls : List (List Int)) : SeqAt.shaped (.list (pdTs ls)) = true := by
  unfold SeqAt.shaped PyData.canLay0 PyData.depth
  rw [pdTs_lay, Bool.true_and]
  exact decide_eq_true (by have := pdTs_depth ls; omega)
theorem dp_tups : ∀ {vs : List V} {ls : List (List Int)}, TupsV K H vs (ls.map fun ns => ns.map V.int) → DpAll K H vs (pdTs ls)
  | [], [], _ => .nil
  | [], t :: ts, h => by have := h.len; simp at this
  | v :: vs, [], h => by have := h.len; simp at this
  | v :: vs, t :: ts, h => by
    obtain ⟨a, rfl, ha⟩ := h.at_ 0 v (t.map V.int) rfl rfl
    exact .cons (.tup ha (dp_ints t)) (dp_tups ⟨by have := h.len; simpa using this, fun i x y h1 h2 => h.at_ (i + 1) x y h1 h2⟩)
theorem rv_inD {d : PyData} {ds : List PyData} (hd : Dp K H x d) (he : Dp K H y (.list ds)) (sd : SeqAt.shaped d = true) (se : SeqAt.shaped (.list ds) = true) : RV (rInD K) x y H (.bl (ds.any fun z => PyData.eqv z d)) := fun H1 ex _ q => ⟨d, ds, dp_ex ex d x hd, dp_ex ex _ y he, sd, se, q H1 (Ex.refl H1)⟩
/-- t <= u, of pairs, where u stands before t -/
theorem rv_leT2 {p q : Addr} {a b c d : Int} (hp : SqT K H p [.int a, .int b]) (hq : SqT K H q [.int c, .int d]) (h : c < a ∨ (c = a ∧ d < b)) : RV (rLeT K) (.ref p) (.ref q) H (.bl false) := fun H1 ex _ k =>
  ⟨p, q, [a, b], [c, d], rfl, rfl, ex_t ex hp, ex_t ex hq, by
    have e : Ob.lexAt (fun j => decide ([a, b].getD j 0 = [c, d].getD j 0)) (fun j => decide ([a, b].getD j 0 ≤ [c, d].getD j 0)) (decide ([a, b].length ≤ [c, d].length)) 0 (min [a, b].length [c, d].length) = false := by
      show (if decide (a = c) = true then (if decide (b = d) = true then true else decide (b ≤ d)) else decide (a ≤ c)) = false
      rcases h with h | ⟨h1, h2⟩
      · rw [if_neg (by simp; omega)]
        exact decide_eq_false (by omega)
      · rw [if_pos (by simp; omega), if_neg (by simp; omega)]
        exact decide_eq_false (by omega)
    rw [e]
    exact k H1 (Ex.refl H1)⟩
end
end G
namespace N
open PySem PySem.Spec PyProof.Rows L2 Evl RZ G
def kvOf (A : Al) : List (Key × V) := A.map fun e => (Sum.inl (e.1 : Int), V.int (e.2 : Int))
theorem kvOf_append (A B : Al) : kvOf (A ++ B) = kvOf A ++ kvOf B := List.map_append
theorem kvOf_len (A : Al) : (kvOf A).length = A.length := by unfold kvOf; rw [List.length_map]
theorem kvOf_keys (A : Al) : (kvOf A).map (·.1) = ((keys A).map fun (k : Nat) => (k : Int)).map Sum.inl := by unfold kvOf keys; rw [List.map_map, List.map_map, List.map_map]; rfl
theorem valV_kv : ∀ (A : Al) (k : Nat), valV (kvOf A) (Sum.inl (k : Int)) = if k ∈ keys A then some (.int (par A k : Int)) else none
  | [], k => rfl
  | (a, p) :: A, k => by
    by_cases e : a = k
    · subst e
      rw [show kvOf ((a, p) :: A) = (Sum.inl (a : Int), V.int (p : Int)) :: kvOf A from rfl, valV_pos rfl, if_pos (by simp [keys])]
      unfold par
      rw [List.find?_cons]
      simp
    · have ne : ¬ (Sum.inl (a : Int) : Key) = Sum.inl (k : Int) := fun z => e (Int.ofNat.inj (Sum.inl.inj z))
      have ep : par ((a, p) :: A) k = par A k := by unfold par; rw [List.find?_cons]; simp [e]
      rw [show kvOf ((a, p) :: A) = (Sum.inl (a : Int), V.int (p : Int)) :: kvOf A from rfl, valV_neg ne, valV_kv A k, ep]
      have em : (k ∈ keys ((a, p) :: A)) ↔ k ∈ keys A := by
        unfold keys
        rw [List.map_cons, List.mem_cons]
        exact ⟨fun z => z.resolve_left fun y => e y.symm, .inr⟩
      simp only [em]
theorem valV_some (A : Al) (k : Nat) : (valV (kvOf A) (Sum.inl (k : Int))).isSome = decide (k ∈ keys A) := by
  rw [valV_kv]
  by_cases c : k ∈ keys A
  · rw [if_pos c, decide_eq_true c]; rfl
  · rw [if_neg c, decide_eq_false c]; rfl
theorem putK_kv {A : Al} {j p : Nat} (h : j ∉ keys A) : putK (kvOf A) (Sum.inl (j : Int)) (.int (p : Int)) = kvOf (A ++ [(j, p)]) := by
  unfold putK
  rw [valV_any, valV_some, decide_eq_false h, if_neg (by decide), kvOf_append]
  rfl
def pv (e : Nat × Nat) : List V := [.int (e.1 : Int), .int (e.2 : Int)]
def nI (ns : List Nat) : List Int := ns.map fun (k : Nat) => (k : Int)
theorem nI_len (ns : List Nat) : (nI ns).length = ns.length := by unfold nI; rw [List.length_map]
theorem nI_app (a b : List Nat) : nI (a ++ b) = nI a ++ nI b := List.map_append
end N

namespace N
open G
/-! ### the tree -/
inductive Up (u : Nat → Nat) : Nat → Prop
  | zero : Up u 0
  | step {k : Nat} : k ≠ 0 → Up u (u k) → Up u k
inductive UpL (u : Nat → Nat) : Nat → List Nat → Prop
  | zero : UpL u 0 [0]
  | step {k : Nat} {ps : List Nat} : k ≠ 0 → UpL u (u k) ps → UpL u k (k :: ps)
def upF (u : Nat → Nat) : Nat → Nat → List Nat
  | 0, _ => []
  | f + 1, k => if k = 0 then [0] else k :: upF u f (u k)
def chain (n : Nat) (u : Nat → Nat) (k : Nat) : List Nat := upF u n k
section
variable {u : Nat → Nat} {n k : Nat} {ps qs : List Nat}
theorem Up.list (h : Up u k) : ∃ ps, UpL u k ps := by
  induction h with
  | zero => exact ⟨_, .zero⟩
  | step h0 _ ih =>
    obtain ⟨ps, h⟩ := ih
    exact ⟨_, .step h0 h⟩
theorem Up.inv (h : Up u k) (h0 : k ≠ 0) : Up u (u k) := by
  cases h with
  | zero => exact absurd rfl h0
  | step _ g => exact g
theorem UpL.uniq (h : UpL u k ps) : ∀ {qs}, UpL u k qs → ps = qs := by
  induction h with
  | zero =>
    intro qs g
    cases g with
    | zero => rfl
    | step h0 _ => exact absurd rfl h0
  | step h0 _ ih =>
    intro qs g
    cases g with
    | zero => exact absurd rfl h0
    | step _ g => rw [ih g]
theorem UpL.head (h : UpL u k ps) : ∃ qs, ps = k :: qs := by
  cases h with
  | zero => exact ⟨_, rfl⟩
  | step _ _ => exact ⟨_, rfl⟩
theorem UpL.sub (h : UpL u k ps) : ∀ {a : List Nat} {x : Nat} {b : List Nat}, ps = a ++ x :: b → UpL u x (x :: b) := by
  induction h with
  | zero =>
    intro a x b e
    cases a with
    | nil =>
      obtain ⟨rfl, rfl⟩ := List.cons.inj e
      exact .zero
    | cons y a =>
      have := (List.cons.inj e).2
      cases a <;> cases this
  | step h0 g ih =>
    intro a x b e
    cases a with
    | nil =>
      obtain ⟨rfl, rfl⟩ := List.cons.inj e
      exact .step h0 g
    | cons y a => exact ih (List.cons.inj e).2
theorem UpL.nodup (h : UpL u k ps) : ps.Nodup := by
  induction h with
  | zero => simp
  | @step k ps h0 g ih =>
    refine List.nodup_cons.mpr ⟨fun hk => ?_, ih⟩
    obtain ⟨a, b, e⟩ := List.append_of_mem hk
    have g2 := g.sub e
    have e2 := g2.uniq (.step h0 g)
    have e3 := congrArg List.length e2
    rw [e] at e3
    simp at e3
    omega
theorem UpL.lt (hu : ∀ k, u k < n) (h : UpL u k ps) (hk : k < n) : ∀ x ∈ ps, x < n := by
  induction h with
  | zero => intro x hx; rw [List.mem_singleton.mp hx]; exact hk
  | @step k ps _ _ ih =>
    intro x hx
    rcases List.mem_cons.mp hx with rfl | hx
    · exact hk
    · exact ih (hu k) x hx
theorem UpL.fuel (h : UpL u k ps) : ∀ {f : Nat}, ps.length ≤ f → upF u f k = ps := by
  induction h with
  | zero =>
    intro f hf
    cases f with
    | zero => exact absurd hf (by simp)
    | succ f => rfl
  | @step k ps h0 g ih =>
    intro f hf
    cases f with
    | zero => exact absurd hf (by simp)
    | succ f =>
      show (if k = 0 then [0] else k :: upF u f (u k)) = _
      rw [if_neg h0, ih (by rw [List.length_cons] at hf; omega)]
theorem chain_ok (h : Up u k) (hu : ∀ k, u k < n) (hk : k < n) : UpL u k (chain n u k) := by
  obtain ⟨ps, g⟩ := h.list
  have hl := nodup_le n ps g.nodup (g.lt hu hk)
  unfold chain
  rw [g.fuel hl]
  exact g
theorem Up.ne (h : Up u k) : k ≠ 0 → u k ≠ k := by
  induction h with
  | zero => exact fun z => absurd rfl z
  | @step k h0 g ih =>
    intro _ e
    have h1 : u k ≠ 0 := by rw [e]; exact h0
    exact ih h1 (by rw [e]; exact e)
theorem UpL.adj (h : UpL u k ps) {i a b : Nat} (ha : ps[i]? = some a) (hb : ps[i + 1]? = some b) : a ≠ 0 ∧ u a = b := by
  induction h generalizing i with
  | zero => simp at hb
  | @step k ps h0 g ih =>
    cases i with
    | zero =>
      obtain rfl := Option.some.inj ha
      obtain ⟨qs, rfl⟩ := g.head
      exact ⟨h0, Option.some.inj hb⟩
    | succ i => exact ih ha hb
theorem UpL.last (h : UpL u k ps) : ∃ qs, ps = qs ++ [0] := by
  induction h with
  | zero => exact ⟨[], rfl⟩
  | @step k ps _ _ ih =>
    obtain ⟨qs, rfl⟩ := ih
    exact ⟨k :: qs, rfl⟩
end
/-- one turn -/
def turnU (W : List Nat) (i : Nat) (u : Nat → Nat) : Nat → Nat := fun k => if k ∈ W ∧ k ≠ i ∧ u k = u i then i else u k
def turnS (C : Mat) (n i : Nat) (st : (Nat → Nat) × (Nat → Int)) : (Nat → Nat) × (Nat → Int) :=
  let t := st.1 i
  let W := wallN C n i t
  let u1 := turnU W i st.1
  let p1 : Nat → Int := fun k => if k = i then mostN C n i t else st.2 k
  if u1 t ∈ W then (fun k => if k = t then i else if k = i then u1 t else u1 k, fun k => if k = t then p1 i else if k = i then p1 t else p1 k) else (u1, p1)
def treeTo (C : Mat) (n : Nat) : Nat → (Nat → Nat) × (Nat → Int)
  | 0 => (fun _ => 0, fun _ => 0)
  | j + 1 => turnS C n (j + 1) (treeTo C n j)
structure Gs (j : Nat) (u : Nat → Nat) : Prop where
  le : ∀ k, u k ≤ j
  up : ∀ k, Up u k
  z : u 0 = 0
theorem Gs.init : Gs 0 (fun _ => 0) := ⟨fun _ => Nat.le_refl _, fun k => by
  by_cases c : k = 0
  · rw [c]; exact .zero
  · exact .step c .zero, rfl⟩
section
variable {u : Nat → Nat} {W : List Nat} {i j : Nat}
/-- the places on the side hang on i -/
theorem Gs.take (h : Gs j u) (hi : i = j + 1) (hW : i ∈ W) (ht : u i ∉ W) : Gs i (turnU W i u) ∧ turnU W i u i = u i ∧ turnU W i u (u i) = u (u i) := by
  have ei : turnU W i u i = u i := if_neg fun z => z.2.1 rfl
  have et : turnU W i u (u i) = u (u i) := if_neg fun z => ht z.1
  have e0 : turnU W i u 0 = 0 := by
    unfold turnU
    rw [if_neg, h.z]
    rintro ⟨a, b, c⟩
    rw [h.z] at c
    rw [← c] at ht
    exact ht a
  refine ⟨⟨fun k => ?_, fun k => ?_, e0⟩, ei, et⟩
  · have := h.le k
    unfold turnU
    split <;> omega
  · have key : ∀ {k}, Up u k → Up (turnU W i u) k := by
      intro k hk
      induction hk with
      | zero => exact .zero
      | @step k h0 g ih =>
        refine .step h0 ?_
        by_cases c : k ∈ W ∧ k ≠ i ∧ u k = u i
        · have e : turnU W i u k = i := if_pos c
          rw [e]
          refine .step (by omega) ?_
          rw [ei, ← c.2.2]
          exact ih
        · have e : turnU W i u k = u k := if_neg c
          rw [e]
          exact ih
    exact key (h.up k)
def swapU (u : Nat → Nat) (i t : Nat) : Nat → Nat := fun k => if k = t then i else if k = i then u t else u k
/-- i between t, on which it hangs, and what t hangs on -/
theorem Gs.swap (h : Gs i u) (hi : i ≠ 0) (ht : u i ≠ 0) : Gs i (swapU u i (u i)) := by
  have nt : u i ≠ i := (h.up i).ne hi
  have e1 : swapU u i (u i) (u i) = i := if_pos rfl
  have e2 : swapU u i (u i) i = u (u i) := by unfold swapU; rw [if_neg nt.symm, if_pos rfl]
  refine ⟨fun k => ?_, fun k => ?_, ?_⟩
  · unfold swapU
    split
    · exact Nat.le_refl _
    · split
      · exact h.le _
      · exact h.le _
  · have key : ∀ {k}, Up u k → Up (swapU u i (u i)) k := by
      intro k hk
      induction hk with
      | zero => exact .zero
      | @step k h0 g ih =>
        refine .step h0 ?_
        by_cases c : k = u i
        · subst c
          rw [e1]
          refine .step hi ?_
          rw [e2]
          exact ih
        · by_cases d : k = i
          · subst d
            rw [e2]
            have g2 := ih.inv ht
            rw [e1] at g2
            have g3 := g2.inv hi
            rw [e2] at g3
            exact g3
          · have e : swapU u i (u i) k = u k := by unfold swapU; rw [if_neg c, if_neg d]
            rw [e]
            exact ih
    exact key (h.up k)
  · unfold swapU
    rw [if_neg ht.symm, if_neg hi.symm]
    exact h.z
end
theorem turn_ok {C : Mat} {n j : Nat} {st : (Nat → Nat) × (Nat → Int)} (hc : ∀ i j, 0 ≤ C i j) (hj : j + 1 < n) (h : Gs j st.1) : Gs (j + 1) (turnS C n (j + 1) st).1 := by
  have h1 := h.le (j + 1)
  have hn : j + 1 ≠ st.1 (j + 1) := by omega
  have hW := wallN_one (C := C) (other := st.1 (j + 1)) hj
  have ht := wallN_other hc hj hn (n := n)
  obtain ⟨a, b, c⟩ := h.take (i := j + 1) rfl hW ht
  unfold turnS
  dsimp only
  by_cases d : turnU (wallN C n (j + 1) (st.1 (j + 1))) (j + 1) st.1 (st.1 (j + 1)) ∈ wallN C n (j + 1) (st.1 (j + 1))
  · rw [if_pos d]
    have t0 : st.1 (j + 1) ≠ 0 := fun z => by
      rw [c, z, h.z] at d
      rw [z] at ht
      exact ht d
    have s := a.swap (Nat.succ_ne_zero j) (by rw [b]; exact t0)
    rw [b] at s
    exact s
  · rw [if_neg d]
    exact a
theorem treeTo_ok {C : Mat} {n : Nat} (hc : ∀ i j, 0 ≤ C i j) : ∀ j, j < n → Gs j (treeTo C n j).1
  | 0, _ => Gs.init
  | j + 1, h => turn_ok hc h (treeTo_ok hc j (by omega))
def uN (C : Mat) (n : Nat) : Nat → Nat := (treeTo C n (n - 1)).1
def pN (C : Mat) (n : Nat) : Nat → Int := (treeTo C n (n - 1)).2
theorem uN_ok {C : Mat} {n : Nat} (hc : ∀ i j, 0 ≤ C i j) (h1 : 1 ≤ n) : Gs (n - 1) (uN C n) := treeTo_ok hc (n - 1) (by omega)
/-- the boughs -/
def boughsOf (n : Nat) (u : Nat → Nat) (p : Nat → Int) : List Tie := (List.range (n - 1)).map fun j => (j + 1, u (j + 1), p (j + 1))
theorem boughsOf_len (n : Nat) (u : Nat → Nat) (p : Nat → Int) : (boughsOf n u p).length = n - 1 := by unfold boughsOf; rw [List.length_map, List.length_range]
theorem boughsOf_get {n : Nat} {u : Nat → Nat} {p : Nat → Int} {j : Nat} (h : j + 1 < n) : (boughsOf n u p)[j]? = some (j + 1, u (j + 1), p (j + 1)) := by
  unfold boughsOf
  rw [List.getElem?_map, List.getElem?_range (by omega)]
  rfl
def belowN (n : Nat) (u : Nat → Nat) (k : Nat) : List Nat := (List.range n).filter fun j => decide (k ∈ chain n u j)
/-! ### the road -/
def RoadOk (n : Nat) (u : Nat → Nat) (one other : Nat) (ws : List Nat) : Prop := ∃ (x : List Nat) (m : Nat) (y s : List Nat), chain n u one = x ++ m :: s ∧ chain n u other = y ++ m :: s ∧ (x = [] ∨ y = [] ∨ x.getLast? ≠ y.getLast?) ∧ ws = x ++ m :: y.reverse
def Adj (u : Nat → Nat) (a b : Nat) : Prop := (a ≠ 0 ∧ u a = b) ∨ (b ≠ 0 ∧ u b = a)
section
variable {n : Nat} {u : Nat → Nat} {one other : Nat} {ws : List Nat}
theorem last_app {z : Nat} : ∀ (x : List Nat) (q : List Nat), q ≠ [] → (x ++ q).getLast? = q.getLast?
  | x, q, h => by rw [List.getLast?_append]; cases e : q.getLast? with
    | none => exact absurd (List.getLast?_eq_none_iff.mp e) h
    | some v => rfl
theorem RoadOk.facts (h : RoadOk n u one other ws) (hu : ∀ k, u k < n) (up : ∀ k, Up u k) (h1 : one < n) (h2 : other < n) :
    ws[0]? = some one ∧ ws.getLast? = some other ∧ ws.Nodup ∧ (∀ k ∈ ws, k < n) ∧ ∀ i a b, ws[i]? = some a → ws[i + 1]? = some b → Adj u a b := by
  obtain ⟨x, m, y, s, e1, e2, hm, rfl⟩ := h
  have c1 := chain_ok (up one) hu h1
  have c2 := chain_ok (up other) hu h2
  have nd1 := c1.nodup
  have nd2 := c2.nodup
  have l1 := c1.lt hu h1
  have l2 := c2.lt hu h2
  obtain ⟨q1, d1⟩ := c1.head
  obtain ⟨q2, d2⟩ := c2.head
  rw [e1] at c1 nd1 l1
  rw [e2] at c2 nd2 l2
  have f1 : (x ++ m :: s)[0]? = some one := by rw [← e1, d1]; rfl
  have f2 : (y ++ m :: s)[0]? = some other := by rw [← e2, d2]; rfl
  refine ⟨?_, ?_, ?_, ?_, ?_⟩
  · cases x with
    | nil => exact f1
    | cons a x => exact f1
  · rw [last_app (z := 0) x (m :: y.reverse) (by simp)]
    cases y with
    | nil => exact f2
    | cons b y =>
      rw [List.reverse_cons, ← List.cons_append, last_app (z := 0) _ [b] (by simp)]
      exact f2
  · rw [List.nodup_append] at nd1 nd2 ⊢
    have nm := List.nodup_cons.mp nd1.2.1
    refine ⟨nd1.1, ?_, fun a ha b hb e => ?_⟩
    · refine List.nodup_cons.mpr ⟨fun z => nd2.2.2 m (List.mem_reverse.mp z) m (List.mem_cons_self ..) rfl, ?_⟩
      have := nd2.1
      unfold List.Nodup at this ⊢
      rw [List.pairwise_reverse]
      exact this.imp Ne.symm
    · subst e
      rcases List.mem_cons.mp hb with rfl | hb
      · exact nd1.2.2 a ha a (List.mem_cons_self ..) rfl
      · have hb := List.mem_reverse.mp hb
        obtain ⟨x1, x2, rfl⟩ := List.append_of_mem ha
        obtain ⟨y1, y2, rfl⟩ := List.append_of_mem hb
        have g1 := c1.sub (a := x1) (x := a) (b := x2 ++ m :: s) (by simp)
        have g2 := c2.sub (a := y1) (x := a) (b := y2 ++ m :: s) (by simp)
        have e3 := (List.cons.inj (g1.uniq g2)).2
        have e4 : x2 = y2 := List.append_cancel_right e3
        rcases hm with hm | hm | hm
        · simp at hm
        · simp at hm
        · subst e4
          exact hm (by rw [last_app (z := 0) x1 (a :: x2) (by simp), last_app (z := 0) y1 (a :: x2) (by simp)])
  · intro k hk
    rcases List.mem_append.mp hk with hk | hk
    · exact l1 k (List.mem_append_left _ hk)
    · rcases List.mem_cons.mp hk with rfl | hk
      · exact l1 k (List.mem_append_right _ (List.mem_cons_self ..))
      · exact l2 k (List.mem_append_left _ (List.mem_reverse.mp hk))
  · intro i a b ha hb
    by_cases c : i + 1 ≤ x.length
    · refine .inl (c1.adj (i := i) ?_ ?_)
      · rw [List.getElem?_append_left (by omega)] at ha ⊢
        exact ha
      · by_cases d : i + 1 < x.length
        · rw [List.getElem?_append_left d] at hb ⊢
          exact hb
        · rw [List.getElem?_append_right (by omega)] at hb ⊢
          have e0 : i + 1 - x.length = 0 := by omega
          rw [e0] at hb ⊢
          exact hb
    · have er : m :: y.reverse = (y ++ [m]).reverse := by rw [List.reverse_append]; rfl
      rw [er, List.getElem?_append_right (by omega)] at ha hb
      have hbl := (List.getElem?_eq_some_iff.mp hb).1
      rw [List.length_reverse, List.length_append, List.length_singleton] at hbl
      rw [List.getElem?_reverse (by rw [List.length_append, List.length_singleton]; omega), List.length_append, List.length_singleton] at ha hb
      have e3 : y ++ m :: s = (y ++ [m]) ++ s := by simp
      rw [e3] at c2
      refine .inr (c2.adj (i := y.length + 1 - 1 - (i + 1 - x.length)) ?_ ?_)
      · rw [List.getElem?_append_left (by rw [List.length_append, List.length_singleton]; omega)]
        exact hb
      · rw [List.getElem?_append_left (by rw [List.length_append, List.length_singleton]; omega), show y.length + 1 - 1 - (i + 1 - x.length) + 1 = y.length + 1 - 1 - (i - x.length) by omega]
        exact ha
end
end N

namespace N
open G
/-! ### the walls of the tree -/
def Dn (u : Nat → Nat) (r k : Nat) : Prop := ∃ ps, UpL u k ps ∧ r ∈ ps
open Classical in
noncomputable def dnb (u : Nat → Nat) (r : Nat) : Nat → Bool := fun k => decide (Dn u r k)
section
variable {u : Nat → Nat} {r k c t : Nat}
theorem dnb_t : dnb u r k = true ↔ Dn u r k := by unfold dnb; exact @decide_eq_true_iff _ (Classical.propDecidable _)
theorem dnb_f : dnb u r k = false ↔ ¬ Dn u r k := by unfold dnb; exact @decide_eq_false_iff_not _ (Classical.propDecidable _)
theorem dnb_congr {u2 : Nat → Nat} {r2 : Nat} (h : ∀ k, Dn u r k ↔ Dn u2 r2 k) : dnb u r = dnb u2 r2 := by
  funext k
  by_cases z : Dn u r k
  · rw [dnb_t.mpr z, dnb_t.mpr ((h k).mp z)]
  · rw [dnb_f.mpr z, dnb_f.mpr fun q => z ((h k).mpr q)]
theorem dn_chain {n : Nat} (up : Up u k) (hu : ∀ k, u k < n) (hk : k < n) : Dn u r k ↔ r ∈ chain n u k := by
  have g := chain_ok up hu hk
  exact ⟨fun ⟨ps, h, hr⟩ => by rw [g.uniq h]; exact hr, fun h => ⟨_, g, h⟩⟩
theorem dn_self (up : Up u k) : Dn u k k := by
  obtain ⟨ps, h⟩ := up.list
  obtain ⟨q, rfl⟩ := h.head
  exact ⟨_, h, List.mem_cons_self ..⟩
theorem dn_iff (up : Up u k) : Dn u r k ↔ k = r ∨ (k ≠ 0 ∧ Dn u r (u k)) := by
  constructor
  · rintro ⟨ps, h, hr⟩
    cases h with
    | zero => exact .inl (List.mem_singleton.mp hr).symm
    | step h0 g =>
      rcases List.mem_cons.mp hr with rfl | hr
      · exact .inl rfl
      · exact .inr ⟨h0, _, g, hr⟩
  · rintro (rfl | ⟨h0, ps, g, hr⟩)
    · exact dn_self up
    · exact ⟨_, .step h0 g, List.mem_cons_of_mem _ hr⟩
theorem dn_up (up : Up u k) (h0 : k ≠ 0) : Dn u (u k) k := (dn_iff up).mpr (.inr ⟨h0, dn_self (up.inv h0)⟩)
theorem dn_trans (h : Dn u c k) (g : Dn u r c) : Dn u r k := by
  obtain ⟨ps, h, hc⟩ := h
  obtain ⟨qs, g, hr⟩ := g
  obtain ⟨a, b, rfl⟩ := List.append_of_mem hc
  have e := (h.sub rfl).uniq g
  rw [← e] at hr
  exact ⟨_, h, List.mem_append_right _ hr⟩
theorem dn_lin (h : Dn u c k) (g : Dn u r k) : Dn u c r ∨ Dn u r c := by
  obtain ⟨ps, h, hc⟩ := h
  obtain ⟨qs, g, hr⟩ := g
  have e := h.uniq g
  subst e
  obtain ⟨a, b, rfl⟩ := List.append_of_mem hc
  rcases List.mem_append.mp hr with hr | hr
  · obtain ⟨a1, a2, rfl⟩ := List.append_of_mem hr
    refine .inl ⟨_, h.sub (a := a1) (x := r) (b := a2 ++ c :: b) (by simp), ?_⟩
    simp
  · exact .inr ⟨_, h.sub rfl, hr⟩
theorem dn_anti (h : Dn u r k) (g : Dn u k r) : r = k := by
  obtain ⟨ps, h, hr⟩ := h
  obtain ⟨qs, g, hk⟩ := g
  obtain ⟨a, b, rfl⟩ := List.append_of_mem hr
  have e := (h.sub rfl).uniq g
  rw [← e] at hk
  obtain ⟨x, y, e2⟩ := List.append_of_mem hk
  have e3 := ((h.sub rfl).sub e2).uniq h
  have l2 := congrArg List.length e2
  have l3 := congrArg List.length e3
  simp at l2 l3
  have ax : a = [] := by
    cases a with
    | nil => rfl
    | cons _ _ => simp at l3; omega
  have xx : x = [] := by
    cases x with
    | nil => rfl
    | cons _ _ => simp at l2; omega
  subst ax
  subst xx
  exact (List.cons.inj e2).1
theorem dn_not_up (up : Up u k) (h0 : k ≠ 0) : ¬ Dn u k (u k) := fun h => up.ne h0 (dn_anti h (dn_up up h0)).symm
theorem dn_sib {c2 : Nat} (up : ∀ k, Up u k) (h0 : c ≠ 0) (h1 : c2 ≠ 0) (e : u c = u c2) (h : Dn u c k) (g : Dn u c2 k) : c = c2 := by
  rcases dn_lin h g with z | z
  · rcases (dn_iff (up c2)).mp z with z | ⟨_, z⟩
    · exact z.symm
    · rw [← e] at z
      exact absurd z (dn_not_up (up c) h0)
  · rcases (dn_iff (up c)).mp z with z | ⟨_, z⟩
    · exact z
    · rw [e] at z
      exact absurd z (dn_not_up (up c2) h1)
theorem dn_branch {n : Nat} (up : Up u k) (hu : ∀ k, u k < n) (hk : k < n) (h : Dn u t k) (hn : k ≠ t) : ∃ c, c < n ∧ c ≠ 0 ∧ u c = t ∧ Dn u c k := by
  induction up with
  | zero => 
    rcases (dn_iff .zero).mp h with z | z
    · exact absurd z hn
    · exact absurd rfl z.1
  | @step k h0 g ih =>
    rcases (dn_iff (.step h0 g)).mp h with z | ⟨_, z⟩
    · exact absurd z hn
    · by_cases e : u k = t
      · exact ⟨k, hk, h0, e, dn_self (.step h0 g)⟩
      · obtain ⟨c, a, b, d, q⟩ := ih (hu k) z e
        exact ⟨c, a, b, d, (dn_iff (.step h0 g)).mpr (.inr ⟨h0, q⟩)⟩
theorem dn_zero (up : Up u k) : Dn u 0 k := by
  induction up with
  | zero => exact dn_self .zero
  | step h0 g ih => exact (dn_iff (.step h0 g)).mpr (.inr ⟨h0, ih⟩)
/-- on which nothing hangs -/
theorem dn_leaf (up : Up u k) (h : ∀ k, u k ≠ r) : Dn u r k ↔ k = r := by
  refine ⟨fun z => ?_, fun z => by subst z; exact dn_self up⟩
  induction up with
  | zero => exact ((dn_iff .zero).mp z).elim id fun q => absurd rfl q.1
  | @step k h0 g ih =>
    rcases (dn_iff (.step h0 g)).mp z with z | ⟨_, z⟩
    · exact z
    · exact absurd (ih z) (h k)
end
/-- D parts a from b, and nothing that does is cheaper -/
structure Mc (C : Mat) (n a b : Nat) (D : Nat → Bool) : Prop where
  i : D a = true
  o : D b = false
  le : ∀ w : Nat → Bool, w a = true → w b = false → cut C n D ≤ cut C n w
section
variable {C : Mat} {n a b c s t v r : Nat} {D D2 X Y : Nat → Bool}
theorem cut_sub (hc : ∀ i j, 0 ≤ C i j) (a b : Nat → Bool) : cut C n (fun k => a k || b k) + cut C n (fun k => a k && b k) ≤ cut C n a + cut C n b := by
  unfold cut
  rw [← S_add, ← S_add]
  refine S_le fun i _ => ?_
  rw [← S_add, ← S_add]
  refine S_le fun j _ => ?_
  have := hc i j
  show ((if ((a i || b i) && !(a j || b j)) = true then C i j else 0) + if ((a i && b i) && !(a j && b j)) = true then C i j else 0) ≤ (if (a i && !a j) = true then C i j else 0) + if (b i && !b j) = true then C i j else 0
  cases a i <;> cases b i <;> cases a j <;> cases b j <;> simp <;> omega
theorem cut_pos (hc : ∀ i j, 0 ≤ C i j) (hs : ∀ i j, C i j = C j i) (a b : Nat → Bool) : cut C n (fun k => a k && !b k) + cut C n (fun k => b k && !a k) ≤ cut C n a + cut C n b := by
  have h := cut_sub (n := n) hc a (fun k => !b k)
  have e1 : cut C n (fun k => !b k) = cut C n b := cut_not hs
  have e2 : cut C n (fun k => b k && !a k) = cut C n (fun k => a k || !b k) := by
    rw [← cut_not (w := fun k => a k || !b k) hs]
    refine cut_congr fun k _ => ?_
    cases a k <;> cases b k <;> rfl
  rw [e1] at h
  rw [e2]
  omega
theorem Mc.congr (h : Mc C n a b D) (e : ∀ k, k < n → D k = D2 k) (ha : a < n) (hb : b < n) : Mc C n a b D2 := ⟨by rw [← e a ha]; exact h.i, by rw [← e b hb]; exact h.o, fun w h1 h2 => by rw [← cut_congr e]; exact h.le w h1 h2⟩
theorem Mc.swap (hs : ∀ i j, C i j = C j i) (h : Mc C n a b D) : Mc C n b a (fun k => !D k) := ⟨by rw [h.o]; rfl, by rw [h.i]; rfl, fun w h1 h2 => by
  rw [cut_not hs, ← cut_not (w := w) hs]
  exact h.le _ (by rw [h2]; rfl) (by rw [h1]; rfl)⟩
theorem Mc.same (h : Mc C n a b D) (g : Mc C n a b D2) : cut C n D = cut C n D2 := by
  have := h.le D2 g.i g.o
  have := g.le D h.i h.o
  omega
/-- a wall and another one that it crosses -/
theorem Mc.join (hc : ∀ i j, 0 ≤ C i j) (hs : ∀ i j, C i j = C j i) (h : Mc C n s t Y) (g : Mc C n c t D) (ds : D s = false) : Mc C n s t (fun k => if D k = true then Y c else Y k) := by
  refine ⟨by rw [ds]; exact h.i, by rw [g.o]; exact h.o, fun w h1 h2 => ?_⟩
  refine Int.le_trans ?_ (h.le w h1 h2)
  cases hy : Y c with
  | true =>
    have z := cut_sub (n := n) hc Y D
    have y := g.le (fun k => Y k && D k) (by rw [hy, g.i]; rfl) (by rw [g.o]; simp)
    have e : cut C n (fun k => if D k = true then true else Y k) = cut C n (fun k => Y k || D k) := cut_congr fun k _ => by cases D k <;> cases Y k <;> rfl
    rw [e]
    omega
  | false =>
    have z := cut_pos (n := n) hc hs Y D
    have y := g.le (fun k => D k && !Y k) (by rw [hy, g.i]; rfl) (by rw [g.o]; rfl)
    have e : cut C n (fun k => if D k = true then false else Y k) = cut C n (fun k => Y k && !D k) := cut_congr fun k _ => by cases D k <;> cases Y k <;> rfl
    rw [e]
    omega
/-- what is walled off from t is walled off from s, where s and t are -/
theorem Mc.move (hs : ∀ i j, C i j = C j i) (h : Mc C n r t D) (g : Mc C n s t Y) (ds : D s = false) (yr : Y r = true) : Mc C n r s D := by
  refine ⟨h.i, ds, fun w h1 h2 => ?_⟩
  cases e : w t with
  | false => exact h.le w h1 e
  | true =>
    have z := g.le (fun k => !w k) (by rw [h2]; rfl) (by rw [e]; rfl)
    rw [cut_not hs] at z
    exact Int.le_trans (h.le Y yr g.o) z
theorem Mc.move2 (hs : ∀ i j, C i j = C j i) (h : Mc C n t v D) (g : Mc C n s t Y) (ds : D s = true) (yv : Y v = true) : Mc C n s v D := by
  refine ⟨ds, h.o, fun w h1 h2 => ?_⟩
  cases e : w t with
  | true => exact h.le w e h2
  | false =>
    have z := h.le (fun k => !Y k) (by rw [g.o]; rfl) (by rw [yv]; rfl)
    rw [cut_not hs] at z
    exact Int.le_trans z (g.le w h1 e)
end
/-- walls below the boughs of the first places -/
def Walled (C : Mat) (n j : Nat) (u : Nat → Nat) (p : Nat → Int) : Prop := ∀ r, r ≠ 0 → r ≤ j → Mc C n r (u r) (dnb u r) ∧ p r = cut C n (dnb u r)
section
variable {C : Mat} {n j s t : Nat} {u : Nat → Nat} {p : Nat → Int} {X : Nat → Bool}
theorem uncross_to (hc : ∀ i j, 0 ≤ C i j) (hs : ∀ i j, C i j = C j i) (G : Gs j u) (I : Walled C n j u p) (es : s = j + 1) (et : u s = t) (h : Mc C n s t X) : ∀ m, ∃ Y : Nat → Bool, Mc C n s t Y ∧ (∀ c, c < m → c ≠ 0 → u c = t → ∀ k, Dn u c k → Y k = X c) ∧ ∀ k, (∀ c, c < m → c ≠ 0 → u c = t → ¬ Dn u c k) → Y k = X k
  | 0 => ⟨X, h, fun c z => absurd z (by omega), fun _ _ => rfl⟩
  | m + 1 => by
    obtain ⟨Y, y1, y2, y3⟩ := uncross_to hc hs G I es et h m
    by_cases nb : m ≠ 0 ∧ u m = t
    · obtain ⟨m0, mt⟩ := nb
      have alone : ∀ c, c < m → c ≠ 0 → u c = t → ∀ k, Dn u c k → ¬ Dn u m k := fun c hc h0 e k a b => by
        have := dn_sib G.up h0 m0 (e.trans mt.symm) a b
        omega
      have ym : Y m = X m := y3 m fun c hc h0 e z => alone c hc h0 e m z (dn_self (G.up m))
      by_cases hm : m ≤ j
      · have g := (I m m0 hm).1
        rw [mt] at g
        have ds : dnb u m s = false := dnb_f.mpr fun z => by
          rcases (dn_iff (G.up s)).mp z with z | ⟨_, z⟩
          · omega
          · rw [et, ← mt] at z
            exact dn_not_up (G.up m) m0 z
        refine ⟨_, y1.join hc hs g ds, fun c hc h0 e k hk => ?_, fun k hk => ?_⟩
        · by_cases d : c = m
          · subst d
            rw [if_pos (dnb_t.mpr hk), ym]
          · rw [if_neg (fun z => alone c (by omega) h0 e k hk (dnb_t.mp z))]
            exact y2 c (by omega) h0 e k hk
        · rw [if_neg fun z => hk m (by omega) m0 mt (dnb_t.mp z)]
          exact y3 k fun c hc h0 e => hk c (by omega) h0 e
      · refine ⟨Y, y1, fun c hc h0 e k hk => ?_, fun k hk => y3 k fun c hc h0 e => hk c (by omega) h0 e⟩
        by_cases d : c = m
        · subst d
          have := (dn_leaf (G.up k) (fun q z => by have := G.le q; omega)).mp hk
          rw [this, ym]
        · exact y2 c (by omega) h0 e k hk
    · refine ⟨Y, y1, fun c hc h0 e k hk => y2 c ?_ h0 e k hk, fun k hk => y3 k fun c hc h0 e => hk c (by omega) h0 e⟩
      by_cases d : c = m
      · subst d
        exact absurd ⟨h0, e⟩ nb
      · omega
theorem uncross (hc : ∀ i j, 0 ≤ C i j) (hs : ∀ i j, C i j = C j i) (G : Gs j u) (I : Walled C n j u p) (es : s = j + 1) (et : u s = t) (h : Mc C n s t X) : ∃ Y : Nat → Bool, Mc C n s t Y ∧ (∀ c, c < n → c ≠ 0 → u c = t → ∀ k, Dn u c k → Y k = X c) ∧ ∀ k, ¬ Dn u t k → Y k = X (u t) := by
  obtain ⟨Y, y1, y2, y3⟩ := uncross_to hc hs G I es et h n
  by_cases t0 : t = 0
  · exact ⟨Y, y1, y2, fun k z => absurd (by rw [t0]; exact dn_zero (G.up k)) z⟩
  have tj : t ≤ j := by have := G.le s; omega
  have g := ((I t t0 tj).1).swap hs
  have dts : Dn u t s := by have := dn_up (G.up s) (by omega); rw [et] at this; exact this
  have yv : Y (u t) = X (u t) := y3 _ fun c _ h0 e z => by
    have z2 : Dn u c t := (dn_iff (G.up t)).mpr (.inr ⟨t0, z⟩)
    rw [← e] at z2
    exact dn_not_up (G.up c) h0 z2
  refine ⟨_, y1.join hc hs g (by rw [dnb_t.mpr dts]; rfl), fun c h1 h0 e k hk => ?_, fun k hk => ?_⟩
  · have : Dn u t k := dn_trans hk (by have := dn_up (G.up c) h0; rw [e] at this; exact this)
    rw [dnb_t.mpr this]
    exact y2 c h1 h0 e k hk
  · rw [dnb_f.mpr hk]
    exact yv
end
section
variable {C : Mat} {n j s t : Nat} {u : Nat → Nat} {p : Nat → Int} {W : List Nat}
theorem turn_dn (G : Gs j u) (es : s = j + 1) (G1 : Gs s (turnU W s u)) {r k : Nat} (hr : r ≠ s) : Dn (turnU W s u) r k ↔ Dn u r k := by
  have key : ∀ {k}, Up u k → (Dn (turnU W s u) r k ↔ Dn u r k) := by
    intro k hk
    induction hk with
    | zero => rw [dn_iff .zero, dn_iff .zero]; simp
    | @step k h0 g ih =>
      have s0 : s ≠ 0 := by omega
      have e1 : turnU W s u s = u s := if_neg fun z => z.2.1 rfl
      rw [dn_iff (G1.up k), dn_iff (.step h0 g)]
      by_cases c : k ∈ W ∧ k ≠ s ∧ u k = u s
      · have e : turnU W s u k = s := if_pos c
        rw [e, dn_iff (G1.up s), e1, ← c.2.2, ih]
        constructor
        · rintro (z | ⟨z, y | y⟩)
          · exact .inl z
          · exact absurd y.symm hr
          · exact .inr ⟨z, y.2⟩
        · rintro (z | ⟨z, y⟩)
          · exact .inl z
          · exact .inr ⟨z, .inr ⟨s0, y⟩⟩
      · have e : turnU W s u k = u k := if_neg c
        rw [e, ih]
  exact key (G.up k)
section
variable {v : Nat} (G : Gs s u) (G2 : Gs s (swapU u s t)) (s0 : s ≠ 0) (t0 : t ≠ 0) (et : u s = t)
include G G2 s0 t0 et
theorem swap_dn {r k : Nat} (hr : r ≠ s) (ht : r ≠ t) : Dn (swapU u s t) r k ↔ Dn u r k := by
  have et2 : swapU u s t t = s := if_pos rfl
  have st : s ≠ t := fun z => (G.up s).ne s0 (by omega)
  have es2 : swapU u s t s = u t := by unfold swapU; rw [if_neg st, if_pos rfl]
  have key : ∀ {k}, Up u k → (Dn (swapU u s t) r k ↔ Dn u r k) := by
    intro k hk
    induction hk with
    | zero => rw [dn_iff .zero, dn_iff .zero]; simp
    | @step k h0 g ih =>
      by_cases c : k = t
      · subst c
        rw [dn_iff (G2.up k), et2, dn_iff (G2.up s), es2, ih, dn_iff (.step h0 g)]
        constructor
        · rintro (z | ⟨_, z | ⟨_, z⟩⟩)
          · exact .inl z
          · exact absurd z.symm hr
          · exact .inr ⟨h0, z⟩
        · rintro (z | ⟨_, z⟩)
          · exact .inl z
          · exact .inr ⟨h0, .inr ⟨s0, z⟩⟩
      · by_cases d : k = s
        · subst d
          rw [et] at ih
          rw [dn_iff (.step h0 g), et, ← ih, dn_iff (G2.up t), et2]
          constructor
          · intro z
            exact .inr ⟨h0, .inr ⟨t0, z⟩⟩
          · rintro (z | ⟨_, z | ⟨_, z⟩⟩)
            · exact absurd z.symm hr
            · exact absurd z.symm ht
            · exact z
        · have e : swapU u s t k = u k := by unfold swapU; rw [if_neg c, if_neg d]
          rw [dn_iff (G2.up k), e, ih, dn_iff (.step h0 g)]
  exact key (G.up k)
theorem swap_dn_s {k : Nat} : Dn (swapU u s t) s k ↔ Dn u t k := by
  have et2 : swapU u s t t = s := if_pos rfl
  have key : ∀ {k}, Up u k → (Dn (swapU u s t) s k ↔ Dn u t k) := by
    intro k hk
    induction hk with
    | zero =>
      rw [dn_iff .zero, dn_iff .zero]
      constructor
      · rintro (z | z)
        · exact absurd z.symm s0
        · exact absurd rfl z.1
      · rintro (z | z)
        · exact absurd z.symm t0
        · exact absurd rfl z.1
    | @step k h0 g ih =>
      by_cases c : k = t
      · subst c
        exact ⟨fun _ => dn_self (.step h0 g), fun _ => (dn_iff (G2.up k)).mpr (.inr ⟨h0, by rw [et2]; exact dn_self (G2.up s)⟩)⟩
      · by_cases d : k = s
        · subst d
          exact ⟨fun _ => (dn_iff (.step h0 g)).mpr (.inr ⟨h0, by rw [et]; exact dn_self (G.up t)⟩), fun _ => dn_self (G2.up k)⟩
        · have e : swapU u s t k = u k := by unfold swapU; rw [if_neg c, if_neg d]
          rw [dn_iff (G2.up k), e, ih, dn_iff (.step h0 g)]
          constructor
          · rintro (z | z)
            · exact absurd z d
            · exact .inr z
          · rintro (z | z)
            · exact absurd z c
            · exact .inr z
  exact key (G.up k)
theorem swap_dn_t {k : Nat} : Dn (swapU u s t) t k ↔ Dn u t k ∧ ¬ Dn u s k := by
  have et2 : swapU u s t t = s := if_pos rfl
  have st : s ≠ t := fun z => (G.up s).ne s0 (by omega)
  have es2 : swapU u s t s = u t := by unfold swapU; rw [if_neg st, if_pos rfl]
  have key : ∀ {k}, Up u k → (Dn (swapU u s t) t k ↔ Dn u t k ∧ ¬ Dn u s k) := by
    intro k hk
    induction hk with
    | zero =>
      rw [dn_iff .zero, dn_iff (r := t) .zero]
      constructor
      · rintro (z | z)
        · exact absurd z.symm t0
        · exact absurd rfl z.1
      · rintro ⟨z | z, _⟩
        · exact absurd z.symm t0
        · exact absurd rfl z.1
    | @step k h0 g ih =>
      by_cases c : k = t
      · subst c
        refine ⟨fun _ => ⟨dn_self (.step h0 g), fun z => ?_⟩, fun _ => dn_self (G2.up k)⟩
        rw [← et] at z
        exact dn_not_up (G.up s) s0 z
      · by_cases d : k = s
        · subst d
          refine ⟨fun z => ?_, fun z => absurd (dn_self (.step h0 g)) z.2⟩
          have a := dn_up (G2.up t) t0
          rw [et2] at a
          exact absurd (dn_anti z a) (fun e => st e.symm)
        · have e : swapU u s t k = u k := by unfold swapU; rw [if_neg c, if_neg d]
          rw [dn_iff (G2.up k), e, ih, dn_iff (r := t) (.step h0 g), dn_iff (r := s) (.step h0 g)]
          constructor
          · rintro (z | ⟨a, b, z⟩)
            · exact absurd z c
            · exact ⟨.inr ⟨a, b⟩, fun q => q.elim d fun y => z y.2⟩
          · rintro ⟨z | z, y⟩
            · exact absurd z c
            · exact .inr ⟨z.1, z.2, fun q => y (.inr ⟨z.1, q⟩)⟩
  exact key (G.up k)
end
end
theorem turn_walled {C : Mat} {n j : Nat} {st : (Nat → Nat) × (Nat → Int)} (hc : ∀ i j, 0 ≤ C i j) (hs : ∀ i j, C i j = C j i) (hj : j + 1 < n) (h : Gs j st.1) (I : Walled C n j st.1 st.2) : Walled C n (j + 1) (turnS C n (j + 1) st).1 (turnS C n (j + 1) st).2 := by
  obtain ⟨u, p⟩ := st
  dsimp only at h I
  have h1 := h.le (j + 1)
  generalize es : j + 1 = s at h1 hj
  generalize et : u s = t at h1
  have s0 : s ≠ 0 := by omega
  have hn : s ≠ t := by omega
  have tn : t < n := by omega
  have un : ∀ k, u k < n := fun k => by have := h.le k; omega
  have hW := wallN_one (C := C) (other := t) hj
  have ht := wallN_other hc hj hn (n := n)
  have hX : Mc C n s t (wb C n s t) := ⟨decide_eq_true hW, decide_eq_false ht, fun w w1 w2 => by rw [← mostN_cut hc hj hn]; exact mostN_le hc hj hn w1 w2⟩
  have pX : mostN C n s t = cut C n (wb C n s t) := mostN_cut hc hj hn
  obtain ⟨Y, y1, y2, y3⟩ := uncross hc hs h I es.symm et hX
  have wbW : ∀ k, wb C n s t k = decide (k ∈ wallN C n s t) := fun _ => rfl
  generalize wb C n s t = X at hX pX y2 y3 wbW
  have pY : cut C n X = cut C n Y := hX.same y1
  unfold turnS
  dsimp only
  rw [et]
  generalize wallN C n s t = W at hW ht wbW ⊢
  generalize mostN C n s t = mo at pX ⊢
  obtain ⟨G1, e1, e2⟩ := h.take (i := s) (W := W) es.symm hW (by rw [et]; exact ht)
  rw [et] at e1 e2
  have T1 : ∀ {r k}, r ≠ s → (Dn (turnU W s u) r k ↔ Dn u r k) := fun hr => turn_dn h es.symm G1 hr
  have T2 : ∀ {k}, k < n → Dn u t k → (Dn (turnU W s u) s k ↔ Y k = true) := by
    intro k hk hd
    by_cases kt : k = t
    · subst kt
      constructor
      · intro z
        rw [← e1] at z
        exact absurd z (dn_not_up (G1.up s) s0)
      · intro z
        rw [y1.o] at z
        cases z
    · obtain ⟨c, cn, c0, ct, cd⟩ := dn_branch (h.up k) un hk hd kt
      rw [y2 c cn c0 ct k cd, wbW, decide_eq_true_iff]
      by_cases cs : c = s
      · subst cs
        have := (dn_leaf (h.up k) (fun q z => by have := h.le q; omega)).mp cd
        subst this
        exact ⟨fun _ => hW, fun _ => dn_self (G1.up k)⟩
      · have cd1 : Dn (turnU W s u) c k := (T1 cs).mpr cd
        constructor
        · intro z
          by_cases cw : c ∈ W
          · exact cw
          · have ec : turnU W s u c = t := by rw [← ct]; exact if_neg fun z => cw z.1
            exact absurd (dn_sib G1.up c0 s0 (ec.trans e1.symm) cd1 z) cs
        · intro cw
          have ec : turnU W s u c = s := if_pos ⟨cw, cs, ct.trans et.symm⟩
          have := dn_up (G1.up c) c0
          rw [ec] at this
          exact dn_trans cd1 this
  have Dst : Dn (turnU W s u) t s := by have := dn_up (G1.up s) s0; rw [e1] at this; exact this
  have T3 : ∀ {k}, k < n → ¬ Dn u t k → ¬ Dn (turnU W s u) s k := fun hk hd z => hd ((T1 hn.symm).mp (dn_trans z Dst))
  /- the places whose boughs stay, or hang on s now -/
  have old : ∀ r, r ≠ 0 → r ≤ j → Mc C n r (turnU W s u r) (dnb u r) := by
    intro r r0 rj
    by_cases c : r ∈ W ∧ r ≠ s ∧ u r = u s
    · have e : turnU W s u r = s := if_pos c
      rw [e]
      have g := (I r r0 rj).1
      rw [c.2.2, et] at g
      refine g.move hs hX (dnb_f.mpr fun z => ?_) (by rw [wbW]; exact decide_eq_true c.1)
      rcases (dn_iff (h.up s)).mp z with z | ⟨_, z⟩
      · omega
      · rw [← c.2.2] at z
        exact dn_not_up (h.up r) r0 z
    · have e : turnU W s u r = u r := if_neg c
      rw [e]
      exact (I r r0 rj).1
  by_cases d : turnU W s u t ∈ W
  · rw [if_pos d]
    rw [e2] at d
    have t0 : t ≠ 0 := fun z => by
      rw [z, h.z, ← z] at d
      exact ht d
    have tj : t ≤ j := by omega
    have Xv : X (u t) = true := by rw [wbW]; exact decide_eq_true d
    have yv : Y (u t) = true := by rw [y3 _ (dn_not_up (h.up t) t0)]; exact Xv
    have G2 := G1.swap (i := s) s0 (by rw [e1]; exact t0)
    rw [e1] at G2
    show Walled C n s (swapU (turnU W s u) s t) _
    have Q1 : swapU (turnU W s u) s t t = s := if_pos rfl
    have Q2 : swapU (turnU W s u) s t s = u t := by unfold swapU; rw [if_neg hn, if_pos rfl, e2]
    intro r r0 rs
    by_cases rt : r = t
    · subst rt
      rw [Q1]
      dsimp only
      rw [if_pos rfl, if_pos rfl]
      have eD : ∀ k, k < n → (!Y k) = dnb (swapU (turnU W s u) s r) r k := fun k hk => by
        by_cases z : Dn u r k
        · by_cases y : Y k = true
          · rw [y, eq_comm]
            exact dnb_f.mpr fun q => ((swap_dn_t G1 G2 s0 t0 e1).mp q).2 ((T2 hk z).mpr y)
          · have y2 : Y k = false := by simpa using y
            rw [y2, eq_comm]
            exact dnb_t.mpr ((swap_dn_t G1 G2 s0 t0 e1).mpr ⟨(T1 hn.symm).mpr z, fun q => y ((T2 hk z).mp q)⟩)
        · rw [y3 k z, Xv, eq_comm]
          exact dnb_f.mpr fun q => z ((T1 hn.symm).mp ((swap_dn_t G1 G2 s0 t0 e1).mp q).1)
      refine ⟨(y1.swap hs).congr eD tn hj, ?_⟩
      rw [← cut_congr eD, cut_not hs, ← pY, pX]
    · by_cases rS : r = s
      · subst rS
        rw [Q2]
        dsimp only
        rw [if_neg hn, if_pos rfl, if_neg hn.symm]
        have eD : dnb (swapU (turnU W r u) r t) r = dnb u t := dnb_congr fun k => by rw [swap_dn_s G1 G2 s0 t0 e1, T1 hn.symm]
        rw [eD]
        refine ⟨(I t t0 tj).1.move2 hs y1 (dnb_t.mpr ((T1 hn.symm).mp Dst)) yv, (I t t0 tj).2⟩
      · have rj : r ≤ j := by omega
        have e : swapU (turnU W s u) s t r = turnU W s u r := by unfold swapU; rw [if_neg rt, if_neg rS]
        have eD : dnb (swapU (turnU W s u) s t) r = dnb u r := dnb_congr fun k => by rw [swap_dn G1 G2 s0 t0 e1 rS rt, T1 rS]
        dsimp only
        rw [e, eD, if_neg rt, if_neg rS, if_neg rS]
        exact ⟨old r r0 rj, (I r r0 rj).2⟩
  · rw [if_neg d]
    rw [e2] at d
    have Xv : X (u t) = false := by rw [wbW]; exact decide_eq_false d
    show Walled C n s (turnU W s u) (fun k => if k = s then mo else p k)
    intro r r0 rs
    by_cases rS : r = s
    · subst rS
      rw [e1]
      dsimp only
      rw [if_pos rfl]
      have eD : ∀ k, k < n → Y k = dnb (turnU W r u) r k := fun k hk => by
        by_cases z : Dn u t k
        · by_cases y : Y k = true
          · rw [y, eq_comm]
            exact dnb_t.mpr ((T2 hk z).mpr y)
          · have y2 : Y k = false := by simpa using y
            rw [y2, eq_comm]
            exact dnb_f.mpr fun q => y ((T2 hk z).mp q)
        · rw [y3 k z, Xv, eq_comm]
          exact dnb_f.mpr (T3 hk z)
      refine ⟨y1.congr eD hj tn, ?_⟩
      rw [← cut_congr eD, ← pY, pX]
    · have rj : r ≤ j := by omega
      have eD : dnb (turnU W s u) r = dnb u r := dnb_congr fun k => T1 rS
      dsimp only
      rw [eD, if_neg rS]
      exact ⟨old r r0 rj, (I r r0 rj).2⟩
theorem treeTo_walled {C : Mat} {n : Nat} (hc : ∀ i j, 0 ≤ C i j) (hs : ∀ i j, C i j = C j i) : ∀ j, j < n → Walled C n j (treeTo C n j).1 (treeTo C n j).2
  | 0, _ => fun r r0 rj => absurd rj (by omega)
  | j + 1, h => turn_walled hc hs h (treeTo_ok hc j (by omega)) (treeTo_walled hc hs j (by omega))
theorem uN_walled {C : Mat} {n : Nat} (hc : ∀ i j, 0 ≤ C i j) (hs : ∀ i j, C i j = C j i) (h1 : 1 ≤ n) : Walled C n (n - 1) (uN C n) (pN C n) := treeTo_walled hc hs (n - 1) (by omega)
theorem mem_belowN {n : Nat} {u : Nat → Nat} {r k : Nat} : k ∈ belowN n u r ↔ k < n ∧ r ∈ chain n u k := by
  unfold belowN
  rw [List.mem_filter, List.mem_range, decide_eq_true_iff]
theorem cut_below {C : Mat} {n : Nat} {u : Nat → Nat} {r : Nat} (up : ∀ k, Up u k) (hu : ∀ k, u k < n) : cut C n (dnb u r) = cut C n (fun k => decide (k ∈ belowN n u r)) := cut_congr fun k hk => by
  have h := dn_chain (r := r) (up k) hu hk
  by_cases z : r ∈ chain n u k
  · rw [dnb_t.mpr (h.mpr z), decide_eq_true (mem_belowN.mpr ⟨hk, z⟩)]
  · rw [dnb_f.mpr fun q => z (h.mp q), decide_eq_false fun q => z (mem_belowN.mp q).2]
theorem Mc.most {C : Mat} {n a b : Nat} {D : Nat → Bool} (hc : ∀ i j, 0 ≤ C i j) (h : Mc C n a b D) (ha : a < n) (hn : a ≠ b) (hb : b < n) : mostN C n a b = cut C n D := by
  have h1 := mostN_le hc ha hn h.i h.o (n := n)
  have h2 := h.le (wb C n a b) (decide_eq_true (wallN_one ha)) (decide_eq_false (wallN_other hc ha hn))
  rw [← mostN_cut hc ha hn] at h2
  omega
section
variable {n : Nat} {ts : List Tie} {r : Nat} (good : ∀ t ∈ ts, Good n t) (h1 : 1 ≤ n) (r0 : r ≠ 0) (hr : r < n)
include good h1 r0 hr
theorem price_below : pN (costM ts) n r = cutP ts (belowN n (uN (costM ts) n) r) := by
  have g := uN_ok (C := costM ts) (n := n) (costM_nonneg good) h1
  have w := (uN_walled (C := costM ts) (n := n) (costM_nonneg good) (costM_comm ts) h1 r r0 (by omega)).2
  rw [w, cut_below g.up (fun k => by have := g.le k; omega), cut_cutP good]
theorem most_below : mostN (costM ts) n r (uN (costM ts) n r) = pN (costM ts) n r := by
  have g := uN_ok (C := costM ts) (n := n) (costM_nonneg good) h1
  have w := uN_walled (C := costM ts) (n := n) (costM_nonneg good) (costM_comm ts) h1 r r0 (by omega)
  have ul := g.le r
  rw [w.2]
  exact w.1.most (costM_nonneg good) hr ((g.up r).ne r0).symm (by omega)
end
theorem below_self {n : Nat} {u : Nat → Nat} {r : Nat} (up : ∀ k, Up u k) (hu : ∀ k, u k < n) (hr : r < n) : r ∈ belowN n u r := mem_belowN.mpr ⟨hr, (dn_chain (up r) hu hr).mp (dn_self (up r))⟩
theorem below_up {n : Nat} {u : Nat → Nat} {r : Nat} (up : ∀ k, Up u k) (hu : ∀ k, u k < n) (r0 : r ≠ 0) : u r ∉ belowN n u r := fun h => dn_not_up (up r) r0 ((dn_chain (up _) hu (hu r)).mpr (mem_belowN.mp h).2)
theorem below_inj {n : Nat} {u : Nat → Nat} {r s : Nat} (up : ∀ k, Up u k) (hu : ∀ k, u k < n) (hr : r < n) (hs : s < n) (e : belowN n u r = belowN n u s) : r = s := by
  have a := below_self up hu hr
  have b := below_self up hu hs
  rw [e] at a
  rw [← e] at b
  exact (dn_anti ((dn_chain (up s) hu hs).mpr (mem_belowN.mp b).2) ((dn_chain (up r) hu hr).mpr (mem_belowN.mp a).2))
end N

namespace G
open PySem PySem.Spec PyProof.Rows L2 Evl RZ N
theorem atI_m2 {α : Type} (xs : List α) (u v : α) : atI (xs ++ [u, v]) (-2) = some u := by
  have hl : (xs ++ [u, v]).length = xs.length + 2 := by simp
  have e : ixN (xs ++ [u, v]).length (-2) = some xs.length := by
    unfold ixN
    rw [hl, if_neg (by decide), if_pos (by omega)]
    congr 1
    omega
  unfold atI
  rw [e]
  show (xs ++ [u, v])[xs.length]? = some u
  rw [List.getElem?_append_right (Nat.le_refl _), Nat.sub_self]
  rfl
theorem IL_app (a b : List Nat) : IL (a ++ b) = IL a ++ IL b := by unfold IL; rw [List.map_append]
section
variable {K : PySem.W.Frag} {σ : L2.St} {H : Hp} {ta tb te : TE} {D : Ends} {tz : TS}
theorem IL_last {H : Hp} {a : Addr} {pre : List Nat} {k : Nat} (h : H a = some (.lst (IL (pre ++ [k])))) : RV (rIxL K) (.ref a) (.int (-1)) H (.int (k : Int)) := rv_ixL (sq_of h) (by rw [IL_app]; exact atI_last _ _)
theorem IL_m2 {H : Hp} {a : Addr} {pre : List Nat} {k m : Nat} (h : H a = some (.lst (IL (pre ++ [k, m])))) : RV (rIxL K) (.ref a) (.int (-2)) H (.int (k : Int)) := rv_ixL (sq_of h) (by rw [IL_app]; exact atI_m2 _ _ _)
/-- x.pop(), dropped -/
theorem q_popD {l : Addr} {xs : List V} {v : V} (hl : H l = some (.lst (xs ++ [v]))) (ha : Ev ta σ H (.ref l)) (k : ∀ H1, Ex H H1 → tz D σ (upd H1 l (.lst xs))) : tSeq (tDrop (tBM0 K "list" rPop ta)) tz D σ H := ha H (Ex.refl H) _ fun H1 e1 =>
  ⟨.inl ⟨rfl, _, sq_of (e1 _ _ hl)⟩, l, xs ++ [v], v, rfl, rfl, e1 _ _ hl, by simp, by rw [List.dropLast_concat]; exact k H1 e1⟩
theorem s_popD {l : Addr} {xs : List V} {v : V} (hl : H l = some (.lst (xs ++ [v]))) (ha : Ev ta σ H (.ref l)) (k : ∀ H1, Ex H H1 → D.nx σ (upd H1 l (.lst xs))) : tDrop (tBM0 K "list" rPop ta) D σ H := ha H (Ex.refl H) _ fun H1 e1 =>
  ⟨.inl ⟨rfl, _, sq_of (e1 _ _ hl)⟩, l, xs ++ [v], v, rfl, rfl, e1 _ _ hl, by simp, by rw [List.dropLast_concat]; exact k H1 e1⟩
/-- f(..).clear(): the list is new, and gone -/
theorem q_clrR {R0 : Hp → V → Hp → Prop} (h : EvR te σ H R0) (hr : ∀ H1 x H2, R0 H1 x H2 → ∃ p xs, x = .ref p ∧ H1 p = none ∧ H2 p = some (.lst xs)) (k : ∀ H1, Ex H H1 → tz D σ H1) : tSeq (tDrop (tBM0 K "list" rClear te)) tz D σ H := h H (Ex.refl H) _ fun x H1 e1 r => by
  obtain ⟨p, xs, rfl, hp, h1⟩ := hr _ _ _ r
  exact ⟨.inl ⟨rfl, xs, sq_of h1⟩, p, xs, rfl, rfl, h1, k _ (Ex.mut e1 hp)⟩
theorem s_clrR {R0 : Hp → V → Hp → Prop} (h : EvR te σ H R0) (hr : ∀ H1 x H2, R0 H1 x H2 → ∃ p xs, x = .ref p ∧ H1 p = none ∧ H2 p = some (.lst xs)) (k : ∀ H1, Ex H H1 → D.nx σ H1) : tDrop (tBM0 K "list" rClear te) D σ H := h H (Ex.refl H) _ fun x H1 e1 r => by
  obtain ⟨p, xs, rfl, hp, h1⟩ := hr _ _ _ r
  exact ⟨.inl ⟨rfl, xs, sq_of h1⟩, p, xs, rfl, rfl, h1, k _ (Ex.mut e1 hp)⟩
theorem el_rev {a : Addr} {xs : List V} (h : Ev te σ H (.ref a)) (hx : SqL K H a xs) : EvL (tRevL K te) σ H xs.reverse := fun H1 e Q q =>
  h H1 e _ fun H2 e2 => ⟨a, xs, rfl, ex_l (e.trans e2) hx, fun p hp => q p _ (fresh_back e2 hp) (e2.trans (Ex.new hp)) upd_same⟩
theorem el_vcatL {xs ys : List V} {a : Addr} (h : Ev ta σ H (.ref a)) (hx : SqL K H a xs) (hb : EvL tb σ H ys) (hz : xs.length + ys.length ≤ 100000) (hx2 : H a = some (.lst xs)) : EvL (tOp rCat ta tb) σ H (xs ++ ys) := fun H1 e Q q =>
  h H1 e _ fun H2 e2 => hb H2 (e.trans e2) _ fun p H3 hp e3 h3 => ⟨a, p, xs, ys, rfl, rfl, e3 _ _ (e2 _ _ (e _ _ hx2)), h3, sz_of hz, fun r hr => q r _ (fresh_back (e2.trans e3) hr) ((e2.trans e3).trans (Ex.new hr)) upd_same⟩
/-- [x] * n -/
theorem el_rep1 {v : V} {n : Nat} (h : Ev ta σ H v) (hn : Ev tb σ H (.int (n : Int))) (hz : n ≤ 1000) : EvL (tOp rRep (tLst (tCons ta tNil)) tb) σ H (lstOf n fun _ => v) := fun H1 e Q q =>
  el_lst (ea_cons h ea_nil) (Nat.le_of_ble_eq_true rfl) H1 e _ fun p H2 hp e2 h2 => hn H2 (e.trans e2) _ fun H3 e3 => ⟨p, n, [v], rfl, rfl, e3 _ _ h2, by omega, by omega, by show 1 * n ≤ sizeLine; exact sz_of (by omega), fun r hr => q r _ (fresh_back (e2.trans e3) hr) ((e2.trans e3).trans (Ex.new hr)) (by
    rw [upd_same]
    have e1 : ((n : Int)).toNat = n := rfl
    rw [e1, List.flatten_replicate_singleton, lstOf_rep])⟩
end
end G

namespace G
open PySem PySem.Spec PyProof.Rows L2 Evl RZ N
section
variable {K : PySem.W.Frag} {σ : L2.St} {H : Hp} {ta tb te tl : TE} {D : Ends} {tu tz : TS}
theorem s_dput {d : Addr} {kvs : List (Key × V)} {k : Key} {v : V} (hd : H d = some (.dK kvs)) (hz : kvs.length < 100000) (hv : Ev te σ H v) (ho : Ev ta σ H (.ref d)) (hi : Ev tb σ H (kV k)) (q : ∀ H1, Ex H H1 → D.nx σ (upd H1 d (.dK (putK kvs k v)))) : sDPut ta tb te D σ H :=
  hv H (Ex.refl H) _ fun H1 e1 => ho H1 e1 _ fun H2 e2 => hi H2 (e1.trans e2) _ fun H3 e3 => ⟨d, _, rfl, .k (k := k) (((e1.trans e2).trans e3) _ _ hd) (sz_lt hz), q H3 ((e1.trans e2).trans e3)⟩
theorem ev_lenD {d : Addr} {kvs : List (Key × V)} (h : Ev te σ H (.ref d)) (hd : H d = some (.dK kvs)) : Ev (tCB (fun xs H Q => ∃ a kvs, xs = [V.ref a] ∧ H a = some (.dK kvs) ∧ Q (.int kvs.length) H) (tCons te tNil)) σ H (.int (kvs.length : Int)) :=
  ev_cb (ea_cons h ea_nil) fun H1 e Q q => ⟨d, kvs, rfl, e _ _ hd, q H1 (Ex.refl H1)⟩
/-- for i, x in enumerate(list) -/
theorem q_forEn2 {a : Addr} {xs : List V} {j1 j2 : Nat} (h : Ev tl σ H (.ref a)) (hx : SqL K H a xs) (Pv : Nat → L2.St → Hp → Prop) (h0 : ∀ H1, Ex H H1 → Pv 0 σ H1) (hG : ∀ i σ' H', i ≤ xs.length → Pv i σ' H' → SqL K H' a xs)
    (hs : ∀ (i : Nat) (x : V) (σ' : L2.St) (H' : Hp), xs[i]? = some x → Pv i σ' H' → ∀ H2, Ex H' H2 → tu { D with nx := Pv (i + 1), ct := Pv (i + 1), bk := tz D } ((σ'.set j1 (some (.int (i : Int)))).set j2 (some x)) H2)
    (hd : ∀ σ' H', Pv xs.length σ' H' → tz D σ' H') : tSeq (tFor (iEnum K (tCons tl tNil)) (gTup K 2 (gCons (gName j1) (gCons (gName j2) gNil))) tu) tz D σ H :=
  s_forEn (D := { D with nx := tz D }) h hx Pv h0 hG (fun i x T σ' H' hx' p hT => ⟨T, _, rfl, st_of upd_same, rfl, _, _, rfl, _, _, rfl, rfl, hs i x σ' H' hx' p _ (Ex.new hT)⟩) hd
/-- for x in f(..): x.append(n), all of it new -/
theorem q_forApp {j m : Nat} {n : Int} {R0 : Hp → V → Hp → Prop} (h : EvR te σ H R0) (hr : ∀ H1 v H2, R0 H1 v H2 → ∃ p vs, v = .ref p ∧ H1 p = none ∧ H2 p = some (.lst vs) ∧ ∀ (k : Nat) (y : V), vs[k]? = some y → ∃ a xs, y = .ref a ∧ a ≠ p ∧ H1 a = none ∧ H2 a = some (.lst xs) ∧ xs.length ≤ 1000)
    (hz : ∀ H1 v H2, R0 H1 v H2 → ∀ p vs, v = .ref p → H2 p = some (.lst vs) → vs.length ≤ 1000)
    (hj : ∃ w, σ = σ.set j w) (hs : ∀ u, (σ.set j u)[j]? = some u) (hm : ∀ u, (σ.set j u)[m]? = some (some (.int n))) (k : ∀ u H1, Ex H H1 → tz D (σ.set j u) H1) :
    tSeq (tFor (iList K te) (gName j) (tDrop (tBM K "list" rAppend (tVar j) (tCons (tVar m) tNil)))) tz D σ H := by
  refine q_forE h fun v H1 e r => ?_
  have hzz := hz _ _ _ r
  obtain ⟨p, vs, rfl, hp, hl, hi⟩ := hr _ _ _ r
  have hzz := hzz p vs rfl hl
  refine ⟨p, vs, rfl, sq_of hl, fun i σ' H' => ∃ u, σ' = σ.set j u ∧ Ex H H' ∧ H' p = some (.lst vs) ∧ ∀ (k : Nat) (y : V), vs[k]? = some y → ∃ a xs, y = .ref a ∧ a ≠ p ∧ H a = none ∧ H' a = some (.lst xs) ∧ xs.length ≤ 1000 + i, ?_, ?_, ?_, ?_⟩
  · obtain ⟨w, hw⟩ := hj
    refine ⟨w, hw, e, hl, fun k y hy => ?_⟩
    obtain ⟨a, xs, rfl, b, c, d, f⟩ := hi k y hy
    exact ⟨a, xs, rfl, b, c, d, by omega⟩
  · rintro i σ' H' _ ⟨u, _, _, hl', _⟩
    exact sq_of hl'
  · rintro i y σ' H' hy ⟨u, rfl, e', hl', hi'⟩
    have hlt := (List.getElem?_eq_some_iff.mp hy).1
    obtain ⟨a, xs, rfl, nap, ha, hax, hxl⟩ := hi' i y hy
    show tDrop (tBM K "list" rAppend (tVar j) (tCons (tVar m) tNil)) _ ((σ.set j u).set j (some (.ref a))) H'
    rw [List.set_set]
    refine s_app hax (ev_var (hs _)) (ev_var (hm _)) (by omega) fun H2 e2 => ?_
    refine ⟨_, rfl, Ex.mut (e'.trans e2) ha, by rw [upd_ne nap.symm]; exact e2 _ _ hl', fun k y hk => ?_⟩
    obtain ⟨b, ys, rfl, c1, c2, c3, c4⟩ := hi' k y hk
    by_cases c : b = a
    · subst c
      exact ⟨b, _, rfl, c1, c2, upd_same, by rw [List.length_append]; show xs.length + 1 ≤ _; omega⟩
    · exact ⟨b, ys, rfl, c1, c2, by rw [upd_ne c]; exact e2 _ _ c3, by omega⟩
  · rintro σ' H' ⟨u, rfl, e', _⟩
    exact k u H' e'
/-- f(v, [..]), to a value -/
theorem ev_callVL {sp : Sp} {E : XK} {xs : List V} {v z : V} (ha : Ev ta σ H v) (hb : EvL tb σ H xs) (hs : ∀ p H1, Ex H H1 → H1 p = some (.lst xs) → SpV sp [v, .ref p] H1 z) : Ev (tCall sp [] E (tCons ta (tCons tb tNil))) σ H z := fun H1 e Q q =>
  ha H1 e _ fun H2 e2 => hb H2 (e.trans e2) _ fun p H3 hp e3 h3 => hs p H3 ((e.trans e2).trans e3) h3 H3 (Ex.refl H3) Q (fun H4 e4 => q H4 ((e2.trans e3).trans e4)) E
theorem Ev.at_ {v : V} {H0 : Hp} (h : Ev te σ H v) (e : Ex H H0) : Ev te σ H0 v := h.mono e
theorem cutV_take (xs : List V) {m : Nat} (h : m ≤ xs.length) : cutV xs none (some (m : Int)) = xs.take m := by
  have := cutV_map (α := V) id xs none (some (m : Int))
  rw [List.map_id, List.map_id] at this
  rw [this]
  unfold cutG
  have a : HT.sIx xs.length 0 none = 0 := rfl
  have b : HT.sIx xs.length xs.length (some (m : Int)) = m := by
    show (if (m : Int) < 0 then ((m : Int) + (xs.length : Int)).toNat else min (m : Int).toNat xs.length) = m
    rw [if_neg (by omega)]
    omega
  rw [a, b]
  rfl
theorem cutV_lst1 (xs : List V) (v : V) : cutV (xs ++ [v]) (some (-1)) none = [v] := by
  have := cutV_map (α := V) id (xs ++ [v]) (some (-1)) none
  rw [List.map_id, List.map_id] at this
  rw [this]
  unfold cutG
  have a : HT.sIx (xs ++ [v]).length 0 (some (-1)) = xs.length := by
    unfold HT.sIx
    simp
    omega
  have b : HT.sIx (xs ++ [v]).length (xs ++ [v]).length none = (xs ++ [v]).length := rfl
  rw [a, b, List.drop_left, List.length_append]
  have : xs.length + [v].length - xs.length = 1 := by simp
  rw [this]
  rfl
end
end G
namespace N
open G PySem PySem.Spec PyProof.Rows L2 Evl RZ
def upA (n : Nat) (u : Nat → Nat) : Al := (List.range n).map fun k => (k, u k)
theorem upA_keys (n : Nat) (u : Nat → Nat) : keys (upA n u) = List.range n := by
  unfold keys upA
  rw [List.map_map]
  exact List.map_id _
theorem upA_len (n : Nat) (u : Nat → Nat) : (upA n u).length = n := by unfold upA; rw [List.length_map, List.length_range]
theorem upA_succ (n : Nat) (u : Nat → Nat) : upA (n + 1) u = upA n u ++ [(n, u n)] := by unfold upA; rw [List.range_succ, List.map_append]; rfl
theorem upA_get {n : Nat} {u : Nat → Nat} {k : Nat} (h : k < n) : valV (kvOf (upA n u)) (Sum.inl (k : Int)) = some (.int (u k : Int)) := by
  rw [valV_kv, upA_keys, if_pos (List.mem_range.mpr h)]
  congr 3
  refine par_at (i := k) (by rw [upA_keys]; exact List.nodup_range) ?_
  unfold upA
  rw [List.getElem?_map, List.getElem?_range h]
  rfl
end N

namespace G
open PySem PySem.Spec PyProof.Rows L2 Evl RZ N
section
variable {X : Cx}
theorem kn_eqD {K : PySem.W.Frag} (h : X.K = K) (hu : X.A.units + 64 < cLine) : OpR X (compareOp .Eq) (rEqD K) := by subst h; exact op_eqD hu
theorem kn_neD {K : PySem.W.Frag} (h : X.K = K) (hu : X.A.units + 64 < cLine) : OpR X (compareOp .NotEq) (rNeD K) := by subst h; exact op_neD hu
def rRng1 : List V → Hp → VK → Prop := fun vs H Q => ∃ j, vs = [V.int j] ∧ ∀ p, H p = none → Q (.ref p) (upd H p (.rng 0 j))
theorem cr_range1 : CallR X (.type "range") rRng1 := by
  intro pins s σ H vs us Q I r h
  obtain ⟨j, rfl, q⟩ := h
  obtain ⟨u1, rfl, ri⟩ := vals1 r
  obtain ⟨t, rfl⟩ := ri
  refine call_range_1 ⟨.ref s.heap.objs.size, upd H s.heap.objs.size (.rng 0 j), I.laid (fun b o e => Heap.get?_push_of_some _ e) (Nat.le_refl _) ?_, rfl, q _ (I.hok.fresh (Nat.le_refl _))⟩
  exact ⟨_, _, _, Heap.get?_push_size _ rfl⟩
def rInR : R2 := fun x y H Q => ∃ i a lo hi, x = V.int i ∧ y = V.ref a ∧ H a = some (.rng lo hi) ∧ Q (.bl (decide (lo ≤ i ∧ i < hi))) H
def rNotInR : R2 := fun x y H Q => ∃ i a lo hi, x = V.int i ∧ y = V.ref a ∧ H a = some (.rng lo hi) ∧ Q (.bl (!decide (lo ≤ i ∧ i < hi))) H
theorem op_inR : OpR X (compareOp .In) rInR := op_in_rng
theorem op_notinR : OpR X (compareOp .NotIn) rNotInR := by
  intro pins s σ H x y v u Q I rx ry h
  obtain ⟨i, a, lo, hi, rfl, rfl, ha, q⟩ := h
  obtain ⟨k, rfl⟩ := rx
  obtain rfl : u = Value.ref a := ry
  obtain ⟨t1, t2, t3, ho⟩ := I.hok a _ ha
  show wpAny _ _ (do return Value.bool (!(← contains (Value.ref a) (Value.int i k)))) _ _ s
  refine wpAny_bind (wpAny_contains_slot (T := "range") ⟨_, ho, rfl⟩ F.slot_range_contains (call_meets F.slot_range_contains ⟨_, ho, rfl⟩ F.entry_range_contains (F.args_range_contains_2 _ _) (q_contains a lo hi i t1 t2 t3 k)
    ⟨ho, wpAny_truthy_bool (wpAny_pure ⟨.bl _, H, I, rfl, ?_⟩)⟩))
  rw [place1]
  exact q
end
section
variable {K : PySem.W.Frag} {σ : L2.St} {H : Hp} {ta tb te tl tn : TE} {t : TT} {D : Ends} {tu tz : TS}
theorem ev_ninR {i n : Int} (ha : Ev ta σ H (.int i)) (hn : Ev tn σ H (.int n)) : Ev (tOp rNotInR ta (tCB rRng1 (tCons tn tNil))) σ H (.bl (!decide (0 ≤ i ∧ i < n))) := fun H1 e Q q =>
  ha H1 e _ fun H2 e2 => hn H2 (e.trans e2) _ fun H3 e3 => ⟨n, rfl, fun p hp => ⟨i, p, 0, n, rfl, rfl, upd_same, q _ ((e2.trans e3).trans (Ex.new hp))⟩⟩
def rMin2 : List V → Hp → VK → Prop := fun xs H Q => ∃ i j, xs = [.int i, .int j] ∧ Q (.int (if j < i then j else i)) H
theorem ev_min2 {i j : Int} (ha : Ev ta σ H (.int i)) (hb : Ev tb σ H (.int j)) : Ev (tCB rMin2 (tCons ta (tCons tb tNil))) σ H (.int (if j < i then j else i)) := ev_cb (ea_cons ha (ea_cons hb ea_nil)) fun H1 e Q q => ⟨i, j, rfl, q H1 (Ex.refl H1)⟩
/-! dicts with tuples as keys -/
theorem er_newT : EvR tDNewT σ H (fun H1 v H2 => ∃ d, v = .ref d ∧ H1 d = none ∧ H2 d = some (.dT [])) := fun H1 e Q q p hp => q _ _ (Ex.new hp) ⟨p, rfl, hp, upd_same⟩
theorem ev_dinT {d b : Addr} {kvs : List (List Key × V)} {k : List Key} (ha : Ev ta σ H (.ref b)) (hb : Ev tb σ H (.ref d)) (hd : H d = some (.dT kvs)) (eb : H b = some (.tup (k.map kV))) : Ev (tDIn ta tb) σ H (.bl (valV kvs k).isSome) := fun H1 e Q q =>
  ha H1 e _ fun H2 e2 => hb H2 (e.trans e2) _ fun H3 e3 => ⟨d, _, rfl, .t (k := k) (((e.trans e2).trans e3) _ _ hd) (((e.trans e2).trans e3) _ _ eb), q H3 (e2.trans e3)⟩
theorem q_dputT {d b : Addr} {kvs : List (List Key × V)} {k : List Key} {v : V} (hd : H d = some (.dT kvs)) (eb : H b = some (.tup (k.map kV))) (hz : kvs.length < 100000) (hv : Ev te σ H v) (ho : Ev ta σ H (.ref d)) (hi : Ev tb σ H (.ref b)) (q : ∀ H1, Ex H H1 → tz D σ (upd H1 d (.dT (putK kvs k v)))) : tSeq (sDPut ta tb te) tz D σ H :=
  hv H (Ex.refl H) _ fun H1 e1 => ho H1 e1 _ fun H2 e2 => hi H2 (e1.trans e2) _ fun H3 e3 => ⟨d, _, rfl, .t (k := k) (((e1.trans e2).trans e3) _ _ hd) (((e1.trans e2).trans e3) _ _ eb) (sz_lt hz), q H3 ((e1.trans e2).trans e3)⟩
/-- f(v, ..), v known by a relation -/
theorem ev_callR1 {sp : Sp} {E : XK} {tr : TA} {vs : List V} {z : V} {R0 : Hp → V → Hp → Prop} (h : EvR ta σ H R0) (hr : EvA tr σ H vs) (hs : ∀ H0 v H1 H2, Ex H H0 → Ex H0 H1 → Ex H1 H2 → R0 H0 v H1 → SpV sp (v :: vs) H2 z) : Ev (tCall sp [] E (tCons ta tr)) σ H z := fun H1 e Q q =>
  h H1 e _ fun v H2 e2 r => hr H2 (e.trans e2) _ fun H3 e3 => by
    have k := hs H1 v H2 H3 e e2 e3 r H3 (Ex.refl H3) Q (fun H4 e4 => q H4 ((e2.trans e3).trans e4)) E
    show sp (v :: vs ++ []) H3 Q E
    rw [List.append_nil]
    exact k
/-- sum([r[2] for r in rows if ..]) -/
theorem ev_rowsum {p j : Nat} {l : Addr} {xs : List V} {rs : List Tie} {f : Tie → Bool} (hp : σ[p]? = some (some (.ref l))) (hl : SqL K H l xs) (tz : TiesV K H xs rs) (hz : rs.length ≤ 40000)
    (hj : ∀ x, ((wipe σ [j]).set j (some x))[j]? = some (some x)) (hw : ∀ x, wipe ((wipe σ [j]).set j (some x)) [j] = wipe σ [j])
    (ht : ∀ (r : Tie) (a : Addr) H1, Ex H H1 → SqT K H1 a (tv r) → EvT t ((wipe σ [j]).set j (some (.ref a))) H1 (f r)) :
    Ev (tCB (rSum K) (tCons (tLc (iList K (tVar p)) (gName j) t (tOp (rIxT K) (tVar j) (tC (.int 2))) [j]) tNil)) σ H (.int (rs.map fun r => if f r = true then r.2.2 else 0).sum) := by
  have key := sum_filter ((0, 0, 0) : Tie) f (fun t => t.2.2) rs
  rw [← key]
  refine ev_sumL ?_
  rw [← given_ints, ← tz.len]
  refine el_lcL (f := fun i => f (rs.getD i (0, 0, 0))) (v := fun i => .int (rs.getD i (0, 0, 0)).2.2) (ev_var hp) hl (by rw [tz.len]; exact hz) hw (fun i x H1 e hx => ?_) (fun i x H1 e hx _ => ?_)
  · obtain ⟨r, a, hr, rfl, ha⟩ := tz.get hx
    have et : rs.getD i (0, 0, 0) = r := by simp [List.getD, hr]
    rw [et]
    exact ht r a H1 e (ex_t e ha)
  · obtain ⟨r, a, hr, rfl, ha⟩ := tz.get hx
    have et : rs.getD i (0, 0, 0) = r := by simp [List.getD, hr]
    rw [et]
    exact ev_t2 (ev_var (hj _)) (ex_t e ha)
/-! lists of lists of ints, as data -/
def pdLs (ls : List (List Nat)) : List PyData := ls.map fun ws => PyData.list (pds (nI ws))
theorem pdLs_lay : ∀ ls : List (List Nat), PyData.canLayAll0 (pdLs ls) = true
  | [] => rfl
  | l :: ls => by
    show (PyData.canLayAll0 (pds (nI l)) && PyData.canLayAll0 (pdLs ls)) = true
    rw [pds_lay, pdLs_lay ls]
    rfl
theorem pdLs_depth : ∀ ls : List (List Nat), PyData.depthAll (pdLs ls) ≤ 1
  | [] => Nat.zero_le _
  | t :: ts => by
    show max (PyData.depthAll (pds (nI t)) + 1) (PyData.depthAll (pdLs ts)) ≤ 1
    rw [pds_depth]
    exact Nat.max_le.mpr ⟨Nat.le_refl _, pdLs_depth ts⟩
theorem sh_lists (ls : List (List Nat)) : SeqAt.shaped (.list (pdLs ls)) = true := by
  unfold SeqAt.shaped PyData.canLay0 PyData.depth
  rw [pdLs_lay, Bool.true_and]
  exact decide_eq_true (by have := pdLs_depth ls; omega)
theorem dp_lists : ∀ {vs : List V} {ls : List (List Nat)}, vs.length = ls.length → (∀ (k : Nat) (v : V) (ws : List Nat), vs[k]? = some v → ls[k]? = some ws → ∃ a, v = .ref a ∧ SqL K H a (IL ws)) → DpAll K H vs (pdLs ls)
  | [], [], _, _ => .nil
  | [], _ :: _, h, _ => by simp at h
  | _ :: _, [], h, _ => by simp at h
  | v :: vs, l :: ls, h, k => by
    obtain ⟨a, rfl, ha⟩ := k 0 v l rfl rfl
    exact .cons (.lst ha (by rw [IL_eq]; exact dp_ints _)) (dp_lists (by simpa using h) fun i w ws h1 h2 => k (i + 1) w ws h1 h2)
theorem dp_IN {a : Addr} {ws : List Nat} (h : SqL K H a (IL ws)) : Dp K H (.ref a) (.list (pds (nI ws))) := .lst h (by rw [IL_eq]; exact dp_ints _)
theorem eqv_IN (a b : List Nat) : PyData.eqv (.list (pds (nI a))) (.list (pds (nI b))) = decide (a = b) := by
  rw [eqv_intsL]
  refine decide_eq_decide.mpr ⟨fun z => ?_, fun z => by rw [z]⟩
  unfold nI at z
  exact List.map_inj_right (fun x y h => by omega) |>.mp z
theorem any_IN (ls : List (List Nat)) (ws : List Nat) : ((pdLs ls).any fun z => PyData.eqv z (.list (pds (nI ws)))) = decide (ws ∈ ls) := by
  induction ls with
  | nil => rfl
  | cons l ls ih =>
    show (PyData.eqv (.list (pds (nI l))) (.list (pds (nI ws))) || (pdLs ls).any fun z => PyData.eqv z (.list (pds (nI ws)))) = _
    rw [ih, eqv_IN]
    by_cases c : l = ws
    · subst c
      simp
    · rw [decide_eq_false c, Bool.false_or]
      refine decide_eq_decide.mpr ⟨fun z => List.mem_cons_of_mem _ z, fun z => ?_⟩
      rcases List.mem_cons.mp z with z | z
      · exact absurd z.symm c
      · exact z
end
end G

namespace G
open PySem PySem.Spec PyProof.Rows L2
/-! ### itertools.pairwise, over a list -/
theorem pw_slot_next : Slot "itertools.pairwise" "__next__" "itertools.pairwise.__next__" :=
  .of (owner := "itertools.pairwise") (n := "__next__") (by rw [typeLookup_type, builtinLookup_eq_fast]; kernel_rfl) (by decide +kernel) (by decide +kernel) (by decide +kernel)
    (by first | exact .inl (by decide +kernel) | exact .inr (by decide +kernel)) (by rw [isSubtype_type]; kernel_rfl)
theorem pw_slot_iter : Slot "itertools.pairwise" "__iter__" "itertools.pairwise.__iter__" :=
  .of (owner := "itertools.pairwise") (n := "__iter__") (by rw [typeLookup_type, builtinLookup_eq_fast]; kernel_rfl) (by decide +kernel) (by decide +kernel) (by decide +kernel)
    (by first | exact .inl (by decide +kernel) | exact .inr (by decide +kernel)) (by rw [isSubtype_type]; kernel_rfl)
theorem pw_slot_init : Slot "itertools.pairwise" "__init__" "object.__init__" :=
  .of (owner := "object") (n := "__init__") (by rw [typeLookup_type, builtinLookup_eq_fast]; kernel_rfl) (by decide +kernel) (by decide +kernel) (by decide +kernel)
    (by first | exact .inl (by decide +kernel) | exact .inr (by decide +kernel)) (by rw [isSubtype_type]; kernel_rfl)
theorem pw_entry_next : entryFor table "itertools.pairwise.__next__" = some Builtin.«itertools.pairwise.__next__» := entryFor_of_tree (by kernel_rfl)
theorem pw_entry_new : entryFor table "itertools.pairwise.__new__" = some Builtin.«itertools.pairwise.__new__» := entryFor_of_tree (by kernel_rfl)
theorem pw_entry_iter : entryFor table "itertools.pairwise.__iter__" = some Builtin.«dict_keyiterator.__iter__» :=
  entryFor_alias (id' := "dict_keyiterator.__iter__") (by kernel_rfl) (by first | rfl | decide +kernel | (unfold String.splitOn; simp +decide [String.splitOnAux])) (by decide +kernel) (by kernel_rfl)
theorem pw_mro : mroOf (.type "itertools.pairwise") = pure [.type "itertools.pairwise", .type "object"] := by rw [mroOf_type]; kernel_rfl
theorem pw_lookup_new : typeLookup (.type "itertools.pairwise") "__new__" = pure (some (.builtin "itertools.pairwise.__new__")) := by rw [typeLookup_type, builtinLookup_eq_fast]; kernel_rfl
theorem pw_called : TypeCalled "itertools.pairwise" "itertools.pairwise.__new__" "object.__init__" :=
  ⟨by decide +kernel, by decide +kernel, ⟨_, _, pw_mro⟩, madeBy_type pw_mro pw_lookup_new (by decide +kernel), by decide +kernel, by rw [isSubtype_type]; kernel_rfl, pw_slot_init⟩
theorem pw_sub : isSubtype (.type "itertools.pairwise") (.type "itertools.pairwise") = pure true := by rw [isSubtype_type]; kernel_rfl
theorem pw_typeCall (a : Value) : checkTypeCall "itertools.pairwise" ⟨[a], []⟩ = pure () := by first | kernel_rfl | rfl
theorem pw_newCall (a : Value) : checkBuiltinCall "itertools.pairwise.__new__" ⟨[.type "itertools.pairwise", a], []⟩ = pure () := by first | kernel_rfl | rfl
theorem pw_args_next (a : Value) : argsOk "itertools.pairwise.__next__" ⟨[a], []⟩ := by unfold argsOk; kernel_rfl
theorem pw_args_iter (a : Value) : argsOk "itertools.pairwise.__iter__" ⟨[a], []⟩ := by unfold argsOk; kernel_rfl
theorem pw_args_init (a b : Value) : argsOk "object.__init__" ⟨[a, b], []⟩ := by
  first
    | (unfold argsOk; kernel_rfl)
    | exact PySem.F.args_object_init_2 _ _
theorem pw_dict : typeHasDict (.type "itertools.pairwise") = false := by first | kernel_rfl | decide +kernel
end G

namespace G
open PySem PySem.Spec PyProof.Rows L2
abbrev IsPw (h : Heap) (z : Addr) (f0 it old : Value) (TO : Addr) : Prop := h.get? z = some { cls := .type "itertools.pairwise", dict := none, data := .fields #[f0, .bool false, it, old, .ref TO], slots := #[] }
section
variable {prog : Program} {w : World} {A : Around} {E : Value → Shared → Prop} {s : Shared}
theorem pw_raw {it l : Addr} {k : Nat} {us : Array Value} {x : Value} {Q : Value → Shared → Prop} (hI : s.heap.IsListIter it l k) (hL : s.heap.IsList l us) (hx : us[k]? = some x) (q : ∀ h', h'.IsListIter it l (k + 1) → Heap.SameBut it s.heap h' → Q x { s with heap := h' }) :
    wpAny (model prog w) A (Builtin.Itertools.itRawNext (.ref it)) Q E s := by
  obtain ⟨oI, gI, cI, dI⟩ := id hI
  obtain ⟨oL, gL, _, nL, dL⟩ := hL
  unfold Builtin.Itertools.itRawNext
  refine wpAny_bind (wpAny_callSpecial?_slot (name := Str.ofString "__next__") hI.typeIs slot_listiter_next (wpAny_call_entry slot_listiter_next hI.typeIs entry_listiter_next ?_ (args_listiter_next _)))
  show wpAny _ _ (field (.ref it) 0 >>= _) _ _ _
  refine wpAny_bind (wpAny_field gI dI (x := .ref l) rfl ?_)
  show wpAny _ _ (if (Value.ref l == Value.none) = true then _ else _) _ _ _
  rw [if_neg (show ¬ ((Value.ref l == Value.none) = true) from Bool.false_ne_true)]
  show wpAny _ _ (field (.ref it) 1 >>= _) _ _ _
  refine wpAny_bind (wpAny_field gI dI (x := .int k 0) rfl ?_)
  show wpAny _ _ (seqItems? (.ref l) >>= _) _ _ _
  refine wpAny_bind (wpAny_seqItems gL dL ?_)
  simp only [Int.toNat_natCast, hx]
  refine wpAny_bind (wpAny_setField gI dI (by simp) (wpAny_pure ⟨x, rfl, wpAny_pure (q _ ⟨_, Heap.get?_update_self _ gI (Obj.isFreed_of_fields (Obj.data_mapFields dI _)), (Obj.cls_mapFields ..).trans cI, ?_⟩ (Heap.SameBut.update ..))⟩))
  rw [Obj.data_mapFields dI]
  simp [rawInt]
/-- the list at l, walked at i1 by the pairs of z -/
structure PwApart (z TO i1 l : Addr) : Prop where
  a : TO ≠ z
  b : i1 ≠ z
  c : l ≠ z
  d : TO ≠ i1
  e : TO ≠ l
  f : i1 ≠ l
theorem pw_nextB {z TO i1 l : Addr} {k : Nat} {us : Array Value} {old y p q : Value} {Q : Value → Shared → Prop} (D : PwApart z TO i1 l) (hz : IsPw s.heap z .none (.ref i1) old TO) (ho : (old == Builtin.Itertools.itNothing) = false) (hp : IsPair s.heap TO p q) (hI : s.heap.IsListIter i1 l k) (hL : s.heap.IsList l us) (hy : us[k]? = some y)
    (hQ : ∀ h', IsPw h' z (rawInt s.heap.objs.size) (.ref i1) y TO → IsPair h' TO old y → h'.IsListIter i1 l (k + 1) → IsPair h' s.heap.objs.size old y → h'.objs.size = s.heap.objs.size + 1 → (∀ c o, c ≠ z → c ≠ TO → c ≠ i1 → s.heap.get? c = some o → h'.get? c = some o) → Q (.ref s.heap.objs.size) { s with heap := h' }) :
    wpAny (model prog w) A (Builtin.«itertools.pairwise.__next__» ⟨[.ref z], []⟩) (fun fin s' => ∃ v, fin = .done (.ret v) ∧ Q v s') E s := by
  unfold Builtin.«itertools.pairwise.__next__»
  refine wpAny_bind (m := slotArgs "__next__" 0 _) (wpAny_pure ?_)
  refine wpAny_bind (wpAny_field hz rfl (x := .ref i1) rfl ?_)
  dsimp only
  rw [if_neg (show ¬ ((Value.ref i1 == Value.none) = true) from Bool.false_ne_true)]
  refine wpAny_bind (wpAny_field hz rfl (x := old) rfl ?_)
  rw [if_neg (by rw [ho]; exact Bool.false_ne_true)]
  refine wpAny_bind (wpAny_field hz rfl (x := old) rfl ?_)
  refine wpAny_bind (wpAny_holding (wpAny_tryCatch (pw_raw hI hL hy fun h1 hI1 sb1 => ?_)))
  have hz1 : IsPw h1 z .none (.ref i1) old TO := sb1.extBut _ _ D.b.symm hz
  have hp1 : IsPair h1 TO p q := sb1.extBut _ _ D.d hp
  have zsz : z < s.heap.objs.size := Heap.lt_size hz
  have tsz : TO < s.heap.objs.size := Heap.lt_size hp
  have e1 : h1.objs.size = s.heap.objs.size := sb1.1
  refine wpAny_bind (wpAny_holding (wpAny_newTuple ?_))
  have hz2 : IsPw (h1.push { cls := .type "tuple", data := .seq #[old, y] }) z .none (.ref i1) old TO := Heap.get?_push_of_some _ hz1
  have hp2 : IsPair (h1.push { cls := .type "tuple", data := .seq #[old, y] }) TO p q := Heap.get?_push_of_some _ hp1
  have hT2 : IsPair (h1.push { cls := .type "tuple", data := .seq #[old, y] }) h1.objs.size old y := Heap.get?_push_size _ rfl
  have s2 : (h1.push { cls := .type "tuple", data := .seq #[old, y] }).objs.size = s.heap.objs.size + 1 := by rw [Heap.size_push, e1]
  have k2 : ∀ c o, h1.get? c = some o → (h1.push { cls := .type "tuple", data := .seq #[old, y] }).get? c = some o := fun c o g => Heap.get?_push_of_some _ g
  rw [e1] at hT2
  refine wpAny_bind ?_
  unfold Builtin.Itertools.itOwnedIsFree
  refine wpAny_bind (wpAny_field hz2 rfl (x := .none) rfl (wpAny_pure ?_))
  rw [if_pos rfl]
  refine wpAny_bind (wpAny_rule (wpAny_bind (wpAny_field hz2 rfl (x := .ref TO) rfl ?_)))
  dsimp only
  unfold Builtin.Itertools.itPoolItems
  refine wpAny_bind (wpAny_bind (wpAny_seqItems hp2 rfl (wpAny_pure ?_)))
  refine wpAny_bind (wpAny_updateSeq hp2 rfl ?_)
  rw [e1]
  dsimp only
  generalize h1.push { cls := .type "tuple", data := .seq #[old, y] } = h2 at hz2 hp2 hT2 s2 k2 ⊢
  have hp3 : IsPair (h2.update TO (Obj.mapSeq fun _ => #[old, y])) TO old y := by
    have := get?_update_seq hp2 fun _ => #[old, y]
    exact this
  have sb3 : Heap.SameBut TO h2 (h2.update TO (Obj.mapSeq fun _ => #[old, y])) := Heap.SameBut.update ..
  generalize h2.update TO (Obj.mapSeq fun _ => #[old, y]) = h3 at hp3 sb3 ⊢
  have hz3 : IsPw h3 z .none (.ref i1) old TO := sb3.extBut _ _ D.a.symm hz2
  unfold Builtin.Itertools.itOwnedHandOut
  refine wpAny_bind (wpAny_bind (wpAny_setField_rec hz3 (by simp) fun h4 hz4 sb4 => wpAny_setField_rec hz4 (by simp) fun h5 hz5 sb5 => ?_))
  refine wpAny_bind (wpAny_setField_rec hz5 (by simp) fun h6 hz6 sb6 => wpAny_bind (wpAny_letGo (wpAny_pure ⟨_, rfl, ?_⟩)))
  have up : ∀ c o, c ≠ z → c ≠ TO → h2.get? c = some o → h6.get? c = some o := fun c o c1 c2 g => sb6.extBut _ _ c1 (sb5.extBut _ _ c1 (sb4.extBut _ _ c1 (sb3.extBut _ _ c2 g)))
  refine hQ h6 hz6 (sb6.extBut _ _ D.a (sb5.extBut _ _ D.a (sb4.extBut _ _ D.a hp3))) (hI1.at fun o g => up _ _ D.b D.d.symm (k2 _ _ g)) (up _ _ (Nat.ne_of_gt zsz) (Nat.ne_of_gt tsz) hT2) (by rw [sb6.1, sb5.1, sb4.1, sb3.1, s2]) fun c o c1 c2 c3 g => up c o c1 c2 (k2 _ _ (sb1.extBut _ _ c3 g))
theorem pw_nextA {z TO i1 l : Addr} {k : Nat} {us : Array Value} {x y p q : Value} {Q : Value → Shared → Prop} (D : PwApart z TO i1 l) (hz : IsPw s.heap z .none (.ref i1) Builtin.Itertools.itNothing TO) (hp : IsPair s.heap TO p q) (hI : s.heap.IsListIter i1 l k) (hL : s.heap.IsList l us) (hx : us[k]? = some x) (hy : us[k + 1]? = some y)
    (hQ : ∀ h', IsPw h' z (rawInt s.heap.objs.size) (.ref i1) y TO → IsPair h' TO x y → h'.IsListIter i1 l (k + 2) → IsPair h' s.heap.objs.size x y → h'.objs.size = s.heap.objs.size + 1 → (∀ c o, c ≠ z → c ≠ TO → c ≠ i1 → s.heap.get? c = some o → h'.get? c = some o) → Q (.ref s.heap.objs.size) { s with heap := h' }) :
    wpAny (model prog w) A (Builtin.«itertools.pairwise.__next__» ⟨[.ref z], []⟩) (fun fin s' => ∃ v, fin = .done (.ret v) ∧ Q v s') E s := by
  unfold Builtin.«itertools.pairwise.__next__»
  refine wpAny_bind (m := slotArgs "__next__" 0 _) (wpAny_pure ?_)
  refine wpAny_bind (wpAny_field hz rfl (x := .ref i1) rfl ?_)
  dsimp only
  rw [if_neg (show ¬ ((Value.ref i1 == Value.none) = true) from Bool.false_ne_true)]
  refine wpAny_bind (wpAny_field hz rfl (x := Builtin.Itertools.itNothing) rfl ?_)
  rw [if_pos (beq_self_eq_true _)]
  refine wpAny_bind (wpAny_rule (wpAny_bind (wpAny_tryCatch (pw_raw hI hL hx fun h1 hI1 sb1 => ?_))))
  have hz1 : IsPw h1 z .none (.ref i1) Builtin.Itertools.itNothing TO := sb1.extBut _ _ D.b.symm hz
  have hp1 : IsPair h1 TO p q := sb1.extBut _ _ D.d hp
  have hL1 : h1.IsList l us := hL.at fun o g => sb1.extBut _ _ D.f.symm g
  refine wpAny_bind (wpAny_setField_rec hz1 (by simp) fun h7 hz7 sb7 => ?_)
  replace hz7 : IsPw h7 z .none (.ref i1) x TO := hz7
  have hp7 : IsPair h7 TO p q := sb7.extBut _ _ D.a hp1
  have hI7 := hI1.at fun o g => sb7.extBut _ o D.b g
  have hL7 : h7.IsList l us := hL1.at fun o g => sb7.extBut _ _ D.c g
  refine wpAny_bind (wpAny_field hz7 rfl (x := .ref i1) rfl ?_)
  rw [if_neg (show ¬ ((Value.ref i1 == Value.none) = true) from Bool.false_ne_true)]
  refine wpAny_bind (wpAny_field hz7 rfl (x := x) rfl ?_)
  refine wpAny_bind (wpAny_holding (wpAny_tryCatch (pw_raw hI7 hL7 hy fun h8 hI8 sb8 => ?_)))
  have hz8 : IsPw h8 z .none (.ref i1) x TO := sb8.extBut _ _ D.b.symm hz7
  have hp8 : IsPair h8 TO p q := sb8.extBut _ _ D.d hp7
  have zsz : z < s.heap.objs.size := Heap.lt_size hz
  have tsz : TO < s.heap.objs.size := Heap.lt_size hp
  have e1 : h8.objs.size = s.heap.objs.size := by rw [sb8.1, sb7.1, sb1.1]
  refine wpAny_bind (wpAny_holding (wpAny_newTuple ?_))
  have hz2 : IsPw (h8.push { cls := .type "tuple", data := .seq #[x, y] }) z .none (.ref i1) x TO := Heap.get?_push_of_some _ hz8
  have hp2 : IsPair (h8.push { cls := .type "tuple", data := .seq #[x, y] }) TO p q := Heap.get?_push_of_some _ hp8
  have hT2 : IsPair (h8.push { cls := .type "tuple", data := .seq #[x, y] }) h8.objs.size x y := Heap.get?_push_size _ rfl
  have s2 : (h8.push { cls := .type "tuple", data := .seq #[x, y] }).objs.size = s.heap.objs.size + 1 := by rw [Heap.size_push, e1]
  have k2 : ∀ c o, h8.get? c = some o → (h8.push { cls := .type "tuple", data := .seq #[x, y] }).get? c = some o := fun c o g => Heap.get?_push_of_some _ g
  rw [e1] at hT2
  refine wpAny_bind ?_
  unfold Builtin.Itertools.itOwnedIsFree
  refine wpAny_bind (wpAny_field hz2 rfl (x := .none) rfl (wpAny_pure ?_))
  rw [if_pos rfl]
  refine wpAny_bind (wpAny_rule (wpAny_bind (wpAny_field hz2 rfl (x := .ref TO) rfl ?_)))
  dsimp only
  unfold Builtin.Itertools.itPoolItems
  refine wpAny_bind (wpAny_bind (wpAny_seqItems hp2 rfl (wpAny_pure ?_)))
  refine wpAny_bind (wpAny_updateSeq hp2 rfl ?_)
  rw [e1]
  dsimp only
  generalize h8.push { cls := .type "tuple", data := .seq #[x, y] } = h2 at hz2 hp2 hT2 s2 k2 ⊢
  have hp3 : IsPair (h2.update TO (Obj.mapSeq fun _ => #[x, y])) TO x y := by
    have := get?_update_seq hp2 fun _ => #[x, y]
    exact this
  have sb3 : Heap.SameBut TO h2 (h2.update TO (Obj.mapSeq fun _ => #[x, y])) := Heap.SameBut.update ..
  generalize h2.update TO (Obj.mapSeq fun _ => #[x, y]) = h3 at hp3 sb3 ⊢
  have hz3 : IsPw h3 z .none (.ref i1) x TO := sb3.extBut _ _ D.a.symm hz2
  unfold Builtin.Itertools.itOwnedHandOut
  refine wpAny_bind (wpAny_bind (wpAny_setField_rec hz3 (by simp) fun h4 hz4 sb4 => wpAny_setField_rec hz4 (by simp) fun h5 hz5 sb5 => ?_))
  refine wpAny_bind (wpAny_setField_rec hz5 (by simp) fun h6 hz6 sb6 => wpAny_bind (wpAny_letGo (wpAny_pure ⟨_, rfl, ?_⟩)))
  have up : ∀ c o, c ≠ z → c ≠ TO → h2.get? c = some o → h6.get? c = some o := fun c o c1 c2 g => sb6.extBut _ _ c1 (sb5.extBut _ _ c1 (sb4.extBut _ _ c1 (sb3.extBut _ _ c2 g)))
  refine hQ h6 hz6 (sb6.extBut _ _ D.a (sb5.extBut _ _ D.a (sb4.extBut _ _ D.a hp3))) (hI8.at fun o g => up _ _ D.b D.d.symm (k2 _ _ g)) (up _ _ (Nat.ne_of_gt zsz) (Nat.ne_of_gt tsz) hT2) (by rw [sb6.1, sb5.1, sb4.1, sb3.1, s2]) fun c o c1 c2 c3 g => up c o c1 c2 (k2 _ _ (sb8.extBut _ _ c3 (sb7.extBut _ _ c1 (sb1.extBut _ _ c3 g))))
theorem pw_rawE {it l : Addr} {k : Nat} {us : Array Value} {Q : Value → Shared → Prop} (hh : A.handled = none) (hI : s.heap.IsListIter it l k) (hL : s.heap.IsList l us) (hx : us[k]? = none) (q : ∀ h' e, Heap.ExtBut it s.heap h' → (∃ o, h'.get? e = some o ∧ o.cls = .type "StopIteration") → E (.ref e) { s with heap := h' }) :
    wpAny (model prog w) A (Builtin.Itertools.itRawNext (.ref it)) Q E s := by
  obtain ⟨oI, gI, cI, dI⟩ := id hI
  obtain ⟨oL, gL, _, nL, dL⟩ := hL
  unfold Builtin.Itertools.itRawNext
  refine wpAny_bind (wpAny_callSpecial?_slot (name := Str.ofString "__next__") hI.typeIs slot_listiter_next (wpAny_call_entry slot_listiter_next hI.typeIs entry_listiter_next ?_ (args_listiter_next _)))
  show wpAny _ _ (field (.ref it) 0 >>= _) _ _ _
  refine wpAny_bind (wpAny_field gI dI (x := .ref l) rfl ?_)
  show wpAny _ _ (if (Value.ref l == Value.none) = true then _ else _) _ _ _
  rw [if_neg (show ¬ ((Value.ref l == Value.none) = true) from Bool.false_ne_true)]
  show wpAny _ _ (field (.ref it) 1 >>= _) _ _ _
  refine wpAny_bind (wpAny_field gI dI (x := .int k 0) rfl ?_)
  show wpAny _ _ (seqItems? (.ref l) >>= _) _ _ _
  refine wpAny_bind (wpAny_seqItems gL dL ?_)
  simp only [Int.toNat_natCast, hx]
  refine wpAny_bind (wpAny_rule (wpAny_bind (wpAny_setField gI dI (by simp) ?_)))
  show wpAny _ _ (newExc (.type "StopIteration") [] >>= _) _ _ _
  refine wpAny_bind ?_
  simp only [newExc, newTuple]
  refine wpAny_bind (wpAny_newObj_type ?_ (by size_fits))
  refine wpAny_bind (m := firstArgMember _ _) (wpAny_of_eq (a := Value.none) (by first | rfl | (simp only [firstArgMember]; rfl)) ?_)
  refine wpAny_newObj_type ?_ (by size_fits)
  simp only [raiseNew]
  refine wpAny_bind (wpAny_handled ?_)
  first | rw [show A.in1.handled = none from hh] | rw [hh]
  refine wpAny_bind (wpAny_pure (wpAny_throw ?_))
  exact q _ _ (((Heap.SameBut.update ..).extBut.push _).push _) ⟨_, Heap.get?_push_size _ rfl, rfl⟩
theorem pw_endB {z TO i1 l : Addr} {k : Nat} {us : Array Value} {old : Value} {Q : Fin → Shared → Prop} (hh : A.handled = none) (D : PwApart z TO i1 l) (hz : IsPw s.heap z .none (.ref i1) old TO) (ho : (old == Builtin.Itertools.itNothing) = false) (hI : s.heap.IsListIter i1 l k) (hL : s.heap.IsList l us) (hy : us[k]? = none)
    (hE : ∀ h' e, (∀ c o, c ≠ z → c ≠ TO → c ≠ i1 → s.heap.get? c = some o → h'.get? c = some o) → (∃ o, h'.get? e = some o ∧ o.cls = .type "StopIteration") → E (.ref e) { s with heap := h' }) :
    wpAny (model prog w) A (Builtin.«itertools.pairwise.__next__» ⟨[.ref z], []⟩) Q E s := by
  unfold Builtin.«itertools.pairwise.__next__»
  refine wpAny_bind (m := slotArgs "__next__" 0 _) (wpAny_pure ?_)
  refine wpAny_bind (wpAny_field hz rfl (x := .ref i1) rfl ?_)
  dsimp only
  rw [if_neg (show ¬ ((Value.ref i1 == Value.none) = true) from Bool.false_ne_true)]
  refine wpAny_bind (wpAny_field hz rfl (x := old) rfl ?_)
  rw [if_neg (by rw [ho]; exact Bool.false_ne_true)]
  refine wpAny_bind (wpAny_field hz rfl (x := old) rfl ?_)
  refine wpAny_bind (wpAny_holding (wpAny_tryCatch (pw_rawE hh hI hL hy fun h1 e x1 he => ?_)))
  obtain ⟨oe, ge, ce⟩ := he
  have hz1 : IsPw h1 z .none (.ref i1) old TO := x1 _ _ D.b.symm hz
  have nez : e ≠ z := fun q => by subst q; rw [hz1] at ge; cases ge; simp at ce
  refine wpAny_bind (wpAny_bind (wpAny_field hz1 rfl (x := old) rfl (wpAny_bind (wpAny_setField_rec hz1 (by simp) fun h2 hz2 sb2 => wpAny_bind (wpAny_setField_rec hz2 (by simp) fun h3 hz3 sb3 => wpAny_letGo (wpAny_throw ?_))))))
  exact hE h3 e (fun c o c1 _ c3 g => sb3.extBut _ _ c1 (sb2.extBut _ _ c1 (x1 _ _ c3 g))) ⟨oe, sb3.extBut _ _ nez (sb2.extBut _ _ nez ge), ce⟩
theorem pw_endA {z TO i1 l : Addr} {k : Nat} {us : Array Value} {Q : Fin → Shared → Prop} (hh : A.handled = none) (D : PwApart z TO i1 l) (hz : IsPw s.heap z .none (.ref i1) Builtin.Itertools.itNothing TO) (hI : s.heap.IsListIter i1 l k) (hL : s.heap.IsList l us) (hy : us[k + 1]? = none)
    (hE : ∀ h' e, (∀ c o, c ≠ z → c ≠ TO → c ≠ i1 → s.heap.get? c = some o → h'.get? c = some o) → (∃ o, h'.get? e = some o ∧ o.cls = .type "StopIteration") → E (.ref e) { s with heap := h' }) :
    wpAny (model prog w) A (Builtin.«itertools.pairwise.__next__» ⟨[.ref z], []⟩) Q E s := by
  unfold Builtin.«itertools.pairwise.__next__»
  refine wpAny_bind (m := slotArgs "__next__" 0 _) (wpAny_pure ?_)
  refine wpAny_bind (wpAny_field hz rfl (x := .ref i1) rfl ?_)
  dsimp only
  rw [if_neg (show ¬ ((Value.ref i1 == Value.none) = true) from Bool.false_ne_true)]
  refine wpAny_bind (wpAny_field hz rfl (x := Builtin.Itertools.itNothing) rfl ?_)
  rw [if_pos (beq_self_eq_true _)]
  cases hx : us[k]? with
  | none =>
    refine wpAny_bind (wpAny_rule (wpAny_bind (wpAny_tryCatch (pw_rawE hh hI hL hx fun h1 e x1 he => ?_))))
    obtain ⟨oe, ge, ce⟩ := he
    have hz1 : IsPw h1 z .none (.ref i1) Builtin.Itertools.itNothing TO := x1 _ _ D.b.symm hz
    have nez : e ≠ z := fun q => by subst q; rw [hz1] at ge; cases ge; simp at ce
    refine wpAny_bind (wpAny_bind (wpAny_field hz1 rfl (x := Builtin.Itertools.itNothing) rfl (wpAny_bind (wpAny_setField_rec hz1 (by simp) fun h2 hz2 sb2 => wpAny_bind (wpAny_setField_rec hz2 (by simp) fun h3 hz3 sb3 => wpAny_letGo (wpAny_throw ?_))))))
    exact hE h3 e (fun c o c1 _ c3 g => sb3.extBut _ _ c1 (sb2.extBut _ _ c1 (x1 _ _ c3 g))) ⟨oe, sb3.extBut _ _ nez (sb2.extBut _ _ nez ge), ce⟩
  | some x =>
    refine wpAny_bind (wpAny_rule (wpAny_bind (wpAny_tryCatch (pw_raw hI hL hx fun h1 hI1 sb1 => ?_))))
    have hz1 : IsPw h1 z .none (.ref i1) Builtin.Itertools.itNothing TO := sb1.extBut _ _ D.b.symm hz
    have hL1 : h1.IsList l us := hL.at fun o g => sb1.extBut _ _ D.f.symm g
    refine wpAny_bind (wpAny_setField_rec hz1 (by simp) fun h7 hz7 sb7 => ?_)
    replace hz7 : IsPw h7 z .none (.ref i1) x TO := hz7
    have hI7 := hI1.at fun o g => sb7.extBut _ o D.b g
    have hL7 : h7.IsList l us := hL1.at fun o g => sb7.extBut _ _ D.c g
    refine wpAny_bind (wpAny_field hz7 rfl (x := .ref i1) rfl ?_)
    rw [if_neg (show ¬ ((Value.ref i1 == Value.none) = true) from Bool.false_ne_true)]
    refine wpAny_bind (wpAny_field hz7 rfl (x := x) rfl ?_)
    refine wpAny_bind (wpAny_holding (wpAny_tryCatch (pw_rawE hh hI7 hL7 hy fun h8 e x8 he => ?_)))
    obtain ⟨oe, ge, ce⟩ := he
    have hz8 : IsPw h8 z .none (.ref i1) x TO := x8 _ _ D.b.symm hz7
    have nez : e ≠ z := fun q => by subst q; rw [hz8] at ge; cases ge; simp at ce
    refine wpAny_bind (wpAny_bind (wpAny_field hz8 rfl (x := x) rfl (wpAny_bind (wpAny_setField_rec hz8 (by simp) fun h2 hz2 sb2 => wpAny_bind (wpAny_setField_rec hz2 (by simp) fun h3 hz3 sb3 => wpAny_letGo (wpAny_throw ?_))))))
    exact hE h3 e (fun c o c1 _ c3 g => sb3.extBut _ _ c1 (sb2.extBut _ _ c1 (x8 _ _ c3 (sb7.extBut _ _ c1 (sb1.extBut _ _ c3 g))))) ⟨oe, sb3.extBut _ _ nez (sb2.extBut _ _ nez ge), ce⟩
/-- from the code of __next__ to the walk's step -/
theorem pw_pyNext {z TO : Addr} {f0 it old : Value} {Q : Option Value → Shared → Prop} (hz : IsPw s.heap z f0 it old TO) (h : wpAny (model prog w) A.in1 (Builtin.«itertools.pairwise.__next__» ⟨[.ref z], []⟩) (fun fin s' => ∃ v, fin = .done (.ret v) ∧ Q (some v) s') (fun e s' => ∃ b o, e = .ref b ∧ s'.heap.get? b = some o ∧ o.cls = .type "StopIteration" ∧ Q none s') s) : wpAny (model prog w) A (pyNext (.ref z)) Q E s := by
  have hT : s.TypeIs (.ref z) "itertools.pairwise" := ⟨_, hz, rfl⟩
  unfold pyNext
  refine wpAny_bind (wpAny_attempt (wpAny_callSpecial?_slot (name := Str.ofString "__next__") hT pw_slot_next (wpAny_call_entry pw_slot_next hT pw_entry_next ?_ (pw_args_next _))))
  refine wpAny_mono h (fun fin s' q => ?_) (fun e s' q => ?_)
  · obtain ⟨v, rfl, q⟩ := q
    exact ⟨v, rfl, wpAny_pure q⟩
  · obtain ⟨b, o, rfl, ho, hc, q⟩ := q
    exact wpAny_bind (wpAny_isInstance (T := "StopIteration") (b := true) ⟨o, ho, hc⟩ isSubtype_stop (wpAny_pure q))
theorem pw_go {elts : List Expr} {kk : Nat} {pos : Pos} {z TO T : Addr} {it old : Value} {Q : Unit → Shared → Prop} (hz : IsPw s.heap z (rawInt T) it old TO) (hQ : ∀ h', IsPw h' z .none it old TO → Heap.SameBut z s.heap h' → Q () { s with heap := h' }) :
    wpAny (model prog w) A (letOwnedTupleGo (.Tuple elts kk pos) (.ref z) (.ref T)) Q E s := by
  unfold letOwnedTupleGo
  refine wpAny_bind (wpAny_load hz ?_)
  dsimp only
  rw [if_pos (by simp)]
  exact wpAny_bind (wpAny_rule (wpAny_setField_rec hz (by simp) fun h' hz' hs' => hQ h' hz' hs'))
theorem pw_iter {z TO : Addr} {f0 it old : Value} {Q : Value → Shared → Prop} (hz : IsPw s.heap z f0 it old TO) (h : Q (.ref z) s) : wpAny (model prog w) A (pyIter (.ref z)) Q E s := by
  have hT : s.TypeIs (.ref z) "itertools.pairwise" := ⟨_, hz, rfl⟩
  refine wpAny_pyIter_slot hT pw_slot_iter (wpAny_call_entry pw_slot_iter hT pw_entry_iter ?_ (pw_args_iter _))
  unfold Builtin.«dict_keyiterator.__iter__»
  exact wpAny_pure ⟨_, rfl, "itertools.pairwise", _, hT, pw_slot_next.lookup, h⟩
theorem pw_pos (l : Addr) : Builtin.Itertools.itPositionalOnly "pairwise" 1 ⟨[.type "itertools.pairwise", .ref l], []⟩ = pure (.type "itertools.pairwise", [.ref l]) := by
  have e : ("itertools." ++ "pairwise" : String) = "itertools.pairwise" := by decide
  unfold Builtin.Itertools.itPositionalOnly Builtin.Itertools.itClassAndRest
  rw [e]
  have h1 : isType (.type "itertools.pairwise") = pure true := rfl
  simp only [h1, pw_sub]
  rfl
/-- pairwise(list): the iterator, the kept pair, the object itself -/
theorem pw_call {l : Addr} {us : Array Value} {Q : Value → Shared → Prop} (hl : s.heap.IsList l us)
    (h : ∀ h', IsPw h' (s.heap.objs.size + 2) .none (.ref s.heap.objs.size) Builtin.Itertools.itNothing (s.heap.objs.size + 1) → IsPair h' (s.heap.objs.size + 1) .none .none → h'.IsListIter s.heap.objs.size l 0 → h'.objs.size = s.heap.objs.size + 3 → (∀ c o, s.heap.get? c = some o → h'.get? c = some o) → Q (.ref (s.heap.objs.size + 2)) { s with heap := h' }) :
    wpAny (model prog w) A (call (.type "itertools.pairwise") [.ref l]) Q E s := by
  have g : Meets (Builtin.«itertools.pairwise.__new__» ⟨[.type "itertools.pairwise", .ref l], []⟩) (fun _ R s => s.heap.IsList l us ∧ ∀ h', IsPw h' (s.heap.objs.size + 2) .none (.ref s.heap.objs.size) Builtin.Itertools.itNothing (s.heap.objs.size + 1) → IsPair h' (s.heap.objs.size + 1) .none .none → h'.IsListIter s.heap.objs.size l 0 → h'.objs.size = s.heap.objs.size + 3 → (∀ c o, s.heap.get? c = some o → h'.get? c = some o) → R (.ok (.ret (.ref (s.heap.objs.size + 2)))) { s with heap := h' }) := .of_wp fun prog w A R s hs => by
    obtain ⟨hL, k⟩ := hs
    unfold Builtin.«itertools.pairwise.__new__»
    rw [pw_pos]
    refine wpAny_bind (wpAny_pure ?_)
    refine wpAny_bind (wpAny_pyIter_list hL ?_)
    refine wpAny_bind (wpAny_holding (wpAny_newTuple ?_))
    refine wpAny_bind ?_
    unfold Builtin.Itertools.itNewRecord
    rw [pw_dict]
    rw [if_pos (show (!false) = true from rfl)]
    refine wpAny_newObj_type (wpAny_pure ⟨_, rfl, ?_⟩) (by show 5 ≤ _; decide)
    have z1 : (s.heap.push { cls := .type "list_iterator", data := .fields #[.ref l, .int 0 0] }).objs.size = s.heap.objs.size + 1 := Heap.size_push ..
    have g1 : (s.heap.push { cls := .type "list_iterator", data := .fields #[.ref l, .int 0 0] }).get? s.heap.objs.size = some { cls := .type "list_iterator", data := .fields #[.ref l, .int 0 0] } := Heap.get?_push_size _ rfl
    have k1 : ∀ c o, s.heap.get? c = some o → (s.heap.push { cls := .type "list_iterator", data := .fields #[.ref l, .int 0 0] }).get? c = some o := fun c o e => Heap.get?_push_of_some _ e
    show R (.ok (.ret (.ref ((s.heap.push { cls := .type "list_iterator", data := .fields #[.ref l, .int 0 0] }).push { cls := .type "tuple", data := .seq #[.none, .none] }).objs.size))) { s with heap := ((s.heap.push { cls := .type "list_iterator", data := .fields #[.ref l, .int 0 0] }).push { cls := .type "tuple", data := .seq #[.none, .none] }).push { cls := .type "itertools.pairwise", data := .fields #[.none, .bool false, .ref s.heap.objs.size, Builtin.Itertools.itNothing, .ref (s.heap.push { cls := .type "list_iterator", data := .fields #[.ref l, .int 0 0] }).objs.size] } }
    generalize s.heap.push { cls := .type "list_iterator", data := .fields #[.ref l, .int 0 0] } = h1 at z1 g1 k1 ⊢
    rw [z1]
    have z2 : (h1.push { cls := .type "tuple", data := .seq #[.none, .none] }).objs.size = s.heap.objs.size + 2 := by rw [Heap.size_push, z1]
    have g2 : (h1.push { cls := .type "tuple", data := .seq #[.none, .none] }).get? (s.heap.objs.size + 1) = some { cls := .type "tuple", data := .seq #[.none, .none] } := by rw [← z1]; exact Heap.get?_push_size _ rfl
    have k2 : ∀ c o, h1.get? c = some o → (h1.push { cls := .type "tuple", data := .seq #[.none, .none] }).get? c = some o := fun c o e => Heap.get?_push_of_some _ e
    generalize h1.push { cls := .type "tuple", data := .seq #[.none, .none] } = h2 at z2 g2 k2 ⊢
    rw [z2]
    have g3 : (h2.push { cls := .type "itertools.pairwise", data := .fields #[.none, .bool false, .ref s.heap.objs.size, Builtin.Itertools.itNothing, .ref (s.heap.objs.size + 1)] }).get? (s.heap.objs.size + 2) = some { cls := .type "itertools.pairwise", data := .fields #[.none, .bool false, .ref s.heap.objs.size, Builtin.Itertools.itNothing, .ref (s.heap.objs.size + 1)] } := by rw [← z2]; exact Heap.get?_push_size _ rfl
    exact k _ g3 (Heap.get?_push_of_some _ g2) ⟨_, Heap.get?_push_of_some _ (k2 _ _ g1), rfl, rfl⟩ (by rw [Heap.size_push, z2]) fun c o e => Heap.get?_push_of_some _ (k2 _ _ (k1 _ _ e))
  refine callType_new pw_called (by decide) (pw_typeCall _) (pw_newCall _) (fun obj => pw_args_init obj _) pw_entry_new g ⟨hl, fun h' a b c d e => ⟨⟨_, a, rfl⟩, h h' a b c d e⟩⟩
end
end G
namespace G
open PySem PySem.Spec PyProof.Rows L2
/-- the pairs that are told, by the very values: the walk takes the bare nought for no value -/
def pwRun : Value → List Value → List (Value × Value)
  | _, [] => []
  | old, [x] => if (old == Builtin.Itertools.itNothing) = true then [] else [(old, x)]
  | old, x :: y :: r => if (old == Builtin.Itertools.itNothing) = true then (x, y) :: pwRun y r else (old, x) :: pwRun x (y :: r)
abbrev PV (p : V × V) (q : Value × Value) : Prop := RelV p.1 q.1 ∧ RelV p.2 q.2
def Adjc (L : List V) (p : V × V) : Prop := ∃ j : Nat, L[j]? = some p.1 ∧ L[j + 1]? = some p.2
theorem pwRun_vals : ∀ (n : Nat) (xs : List V) (its : List Value), its.length ≤ n → Vals xs its → ∀ (old : Value) (pre : List V), ((old == Builtin.Itertools.itNothing) = true ∨ ∃ p0 ov, pre = p0 ++ [ov] ∧ RelV ov old) → ∃ vps : List (V × V), Paired PV vps (pwRun old its) ∧ (∀ p ∈ vps, Adjc (pre ++ xs) p) ∧ ((old == Builtin.Itertools.itNothing) = true → 2 ≤ xs.length → vps ≠ []) ∧ vps.length ≤ xs.length
  | 0, xs, its, hn, r, old, pre, _ => by
    have : its = [] := List.length_eq_zero_iff.mp (by omega)
    subst this
    cases r
    refine ⟨[], ?_, (fun p hp => nomatch hp), fun _ h => absurd h (by simp), Nat.zero_le _⟩
    unfold pwRun
    exact .nil
  | n + 1, xs, its, hn, r, old, pre, hp => by
    cases r with
    | nil =>
      refine ⟨[], ?_, (fun p hp => nomatch hp), fun _ h => absurd h (by simp), Nat.zero_le _⟩
      unfold pwRun
      exact .nil
    | @cons x u xs' us ru rr =>
      cases rr with
      | nil =>
        unfold pwRun
        by_cases c : (old == Builtin.Itertools.itNothing) = true
        · rw [if_pos c]
          exact ⟨[], .nil, (fun p hp => nomatch hp), fun _ h => absurd h (by simp), Nat.zero_le _⟩
        · rw [if_neg c]
          rcases hp with hp | ⟨p0, ov, rfl, ro⟩
          · exact absurd hp c
          · refine ⟨[(ov, x)], .cons ⟨ro, ru⟩ .nil, fun p hp => ?_, fun z => absurd z c, Nat.le_refl _⟩
            rw [List.mem_singleton.mp hp]
            exact ⟨p0.length, by simp, by simp⟩
      | @cons y v xs'' us' rv rs =>
        unfold pwRun
        by_cases c : (old == Builtin.Itertools.itNothing) = true
        · rw [if_pos c]
          obtain ⟨vps, h1, h2, _, h4⟩ := pwRun_vals n xs'' us' (by simp at hn; omega) rs v (pre ++ [x, y]) (.inr ⟨pre ++ [x], y, by simp, rv⟩)
          refine ⟨(x, y) :: vps, .cons ⟨ru, rv⟩ h1, fun p hp => ?_, (fun _ _ z => by cases z), (by simp at h4 ⊢; omega)⟩
          rcases List.mem_cons.mp hp with rfl | hp
          · exact ⟨pre.length, by simp, by simp⟩
          · have := h2 p hp
            rw [List.append_assoc] at this
            exact this
        · rw [if_neg c]
          rcases hp with hp | ⟨p0, ov, rfl, ro⟩
          · exact absurd hp c
          · obtain ⟨vps, h1, h2, _, h4⟩ := pwRun_vals n (y :: xs'') (v :: us') (by simp at hn ⊢; omega) (.cons rv rs) u ((p0 ++ [ov]) ++ [x]) (.inr ⟨p0 ++ [ov], x, rfl, ru⟩)
            refine ⟨(ov, x) :: vps, .cons ⟨ro, ru⟩ h1, fun p hp => ?_, (fun z => absurd z c), (by simp at h4 ⊢; omega)⟩
            rcases List.mem_cons.mp hp with rfl | hp
            · exact ⟨p0.length, by simp, by simp⟩
            · have := h2 p hp
              rw [List.append_assoc] at this
              exact this
theorem Paired.at_ {α β : Type} {F : α → β → Prop} : ∀ {l : List α} {m : List β} {i : Nat} {x : α} {y : β}, Paired F l m → l[i]? = some x → m[i]? = some y → F x y
  | _, _, _, _, _, .nil, h, _ => by simp at h
  | _, _, 0, _, _, .cons r _, h, g => by simp at h g; subst h; subst g; exact r
  | _, _, i + 1, _, _, .cons _ t, h, g => Paired.at_ (i := i) t (by simpa using h) (by simpa using g)
/-- the pairs vps, made anew one by one, while the list at a stands as it is -/
def Itp (a : Addr) (o : Obj) (xs : List V) (vps : List (V × V)) : It :=
  ⟨fun i H => i < vps.length ∧ H a = some (.frz o (.lst xs)),
    fun i H v H' => ∃ T p, v = .ref T ∧ H T = none ∧ H' = upd H T (.tup [p.1, p.2]) ∧ vps[i]? = some p,
    fun i H => vps.length ≤ i ∧ H a = some (.frz o (.lst xs))⟩
def PwAt (its : List Value) (z TO i1 a : Addr) (i : Nat) (h : Heap) : Prop := ∃ (old : Value) (k : Nat), IsPw h z .none (.ref i1) old TO ∧ (∃ p q, IsPair h TO p q) ∧ h.IsListIter i1 a k ∧ pwRun old (its.drop k) = (pwRun Builtin.Itertools.itNothing its).drop i
theorem turn_pw {P : Program} {w : World} {K : PySem.W.Frag} {elts : List Expr} {kk : Nat} {tpos : Pos} {a z TO i1 : Addr} {o : Obj} {n0 : Nat} {xs : List V} {its : List Value} {vps : List (V × V)} (D : PwApart z TO i1 a) (ho : o = { cls := .type "list", data := .seq its.toArray n0 }) (hv : Paired PV vps (pwRun Builtin.Itertools.itNothing its)) :
    Turn P w K (.Tuple elts kk tpos) (Itp a o xs vps) [z, TO, i1] z (PwAt its z TO i1 a) where
  mem := by simp
  obj := fun i h st c hc => by
    obtain ⟨old, k, hz, ⟨p, q, hp⟩, ⟨o1, e1, _, d1⟩, _⟩ := st
    have e' : c = z ∨ c = TO ∨ c = i1 := by simpa using hc
    rcases e' with y | y | y
    · subst y
      exact ⟨_, hz, fun v y => nomatch y⟩
    · subst y
      exact ⟨_, hp, fun v y => nomatch y⟩
    · subst y
      exact ⟨o1, e1, fun v y => by rw [d1] at y; cases y⟩
  keep := fun i h h' st kp => by
    obtain ⟨old, k, hz, ⟨p, q, hp⟩, hI, e⟩ := st
    exact ⟨old, k, kp z (by simp) _ hz, ⟨p, q, kp TO (by simp) _ hp⟩, hI.at fun o g => kp i1 (by simp) o g, e⟩
  item := by
    intro X hP hw hK hc i pins s σ H E I hf st hg
    subst hP hw hK
    obtain ⟨old, k, hz, ⟨p, q, hp⟩, hI, e⟩ := st
    obtain ⟨hi, ha⟩ := hg
    obtain ⟨hoa, _⟩ := I.hok a _ ha
    subst ho
    have hL : s.heap.IsList a its.toArray := ⟨_, hoa, rfl, n0, rfl⟩
    have hzl : z < s.heap.objs.size := Heap.lt_size hz
    have htl : TO < s.heap.objs.size := Heap.lt_size hp
    have hil : i1 < s.heap.objs.size := by obtain ⟨_, g, _⟩ := hI; exact Heap.lt_size g
    have lenp := Paired.length hv
    have hip : i < (pwRun Builtin.Itertools.itNothing its).length := by omega
    obtain ⟨vp, hvp⟩ : ∃ vp, vps[i]? = some vp := ⟨_, List.getElem?_eq_getElem hi⟩
    have hg : (pwRun Builtin.Itertools.itNothing its).drop i ≠ [] := by rw [Ne, List.drop_eq_nil_iff]; omega
    rw [← e] at hg
    have fin : ∀ (u v : Value) (old' : Value) (k' : Nat) (h' : Heap), pwRun old (its.drop k) = (u, v) :: pwRun old' (its.drop k') → IsPw h' z (rawInt s.heap.objs.size) (.ref i1) old' TO → IsPair h' TO u v → h'.IsListIter i1 a k' → IsPair h' s.heap.objs.size u v → (∀ c o, c ≠ z → c ≠ TO → c ≠ i1 → s.heap.get? c = some o → h'.get? c = some o) →
        wpAny (model X.prog X.w) X.A (letOwnedTupleGo (.Tuple elts kk tpos) (.ref z) (.ref s.heap.objs.size)) (fun _ s2 => ∃ x H', Inv X pins σ H' s2 ∧ RelV x (.ref s.heap.objs.size) ∧ (Itp a { cls := .type "list", data := .seq its.toArray n0 } xs vps).yld i H x H' ∧ PwAt its z TO i1 a (i + 1) s2.heap ∧ ∀ b ∈ [z, TO, i1], H' b = none) E { s with heap := h' } := by
      intro u v old' k' h' er hz' hp' hI' hT kp
      have er2 : (pwRun Builtin.Itertools.itNothing its)[i]? = some (u, v) ∧ (pwRun Builtin.Itertools.itNothing its).drop (i + 1) = pwRun old' (its.drop k') := by
        rw [e] at er
        have h0 := congrArg (fun l => l[0]?) er
        have h1 := congrArg (fun l => l.drop 1) er
        simp only [List.getElem?_drop, List.drop_drop] at h0 h1
        exact ⟨by simpa using h0, by simpa using h1⟩
      obtain ⟨w', hw', r1⟩ : ∃ w', vps[i]? = some w' ∧ PV w' (u, v) := by
        refine ⟨vps[i], List.getElem?_eq_getElem hi, ?_⟩
        exact Paired.at_ hv (List.getElem?_eq_getElem hi) er2.1
      refine pw_go (s := { s with heap := h' }) hz' fun h'' hz'' sb => ?_
      have hT2 : h''.get? s.heap.objs.size = some { cls := .type "tuple", data := .seq #[u, v] } := (sb.2 _ (Nat.ne_of_gt hzl)).trans hT
      have new : ObjOk X.prog X.w (upd H s.heap.objs.size (.tup [w'.1, w'.2])) h'' s.heap.objs.size (.tup [w'.1, w'.2]) := ⟨by show 2 ≤ sizeLine; decide, [u, v], .cons r1.1 (.cons r1.2 .nil), ⟨_, hT2, rfl, _, rfl⟩⟩
      have I1 : Inv X pins σ (upd H s.heap.objs.size (.tup [w'.1, w'.2])) { s with heap := h'' } :=
        I.turnedNew (t' := s.toks) (ch := [z, TO, i1]) (fun c o hb g => (sb.2 c (fun y => hb (by simp [y]))).trans (kp c o (fun y => hb (by simp [y])) (fun y => hb (by simp [y])) (fun y => hb (by simp [y])) g)) hf (Nat.le_refl _) new
      refine ⟨.ref s.heap.objs.size, _, I1, rfl, ⟨_, w', rfl, I.hok.fresh (Nat.le_refl _), rfl, hw'⟩, ⟨old', k', hz'', ⟨u, v, (sb.2 _ D.a).trans hp'⟩, hI'.at fun o g => (sb.2 _ D.b).trans g, er2.2.symm⟩, fun c hcm => ?_⟩
      have hlt : c < s.heap.objs.size := by
        have e' : c = z ∨ c = TO ∨ c = i1 := by simpa using hcm
        rcases e' with y | y | y
        · rw [y]; exact hzl
        · rw [y]; exact htl
        · rw [y]; exact hil
      rw [upd_ne (Nat.ne_of_lt hlt)]
      exact (hf c hcm).1
    cases hd : its.drop k with
    | nil =>
      rw [hd] at hg
      unfold pwRun at hg
      exact absurd rfl hg
    | cons x r =>
      have hx : its.toArray[k]? = some x := by
        have := congrArg (fun l => l[0]?) hd
        simpa using this
      have hr : its.drop (k + 1) = r := by
        have := congrArg (fun l => l.drop 1) hd
        simpa [List.drop_drop] using this
      by_cases c : (old == Builtin.Itertools.itNothing) = true
      · cases r with
        | nil =>
          rw [hd] at hg
          unfold pwRun at hg
          rw [if_pos c] at hg
          exact absurd rfl hg
        | cons y r' =>
          have hy : its.toArray[k + 1]? = some y := by
            have := congrArg (fun l => l[0]?) hr
            simpa using this
          have hr2 : its.drop (k + 2) = r' := by
            have := congrArg (fun l => l.drop 1) hr
            simpa [List.drop_drop] using this
          have eo : old = Builtin.Itertools.itNothing := eq_of_beq c
          subst eo
          refine pw_pyNext hz (pw_nextA D hz hp hI hL hx hy fun h' a1 a2 a3 a4 _ a6 => ?_)
          refine ⟨_, rfl, fin x y y (k + 2) h' ?_ a1 a2 a3 a4 a6⟩
          rw [hd, hr2]
          show pwRun _ (x :: y :: r') = _
          conv => lhs; unfold pwRun
          rw [if_pos c]
      · have c' : (old == Builtin.Itertools.itNothing) = false := by simpa using c
        refine pw_pyNext hz (pw_nextB D hz c' hp hI hL hx fun h' a1 a2 a3 a4 _ a6 => ?_)
        refine ⟨_, rfl, fin old x x (k + 1) h' ?_ a1 a2 a3 a4 a6⟩
        rw [hd, hr]
        cases r with
        | nil =>
          conv => lhs; unfold pwRun
          rw [if_neg c]
          unfold pwRun
          rfl
        | cons y r' =>
          conv => lhs; unfold pwRun
          rw [if_neg c]
  done := by
    intro X hP hw hK hc i pins s σ H E I hf st hg
    subst hP hw hK
    obtain ⟨old, k, hz, ⟨p, q, hp⟩, hI, e⟩ := st
    obtain ⟨hi, ha⟩ := hg
    obtain ⟨hoa, _⟩ := I.hok a _ ha
    subst ho
    have hL : s.heap.IsList a its.toArray := ⟨_, hoa, rfl, n0, rfl⟩
    have lenp := Paired.length hv
    have hg : pwRun old (its.drop k) = [] := by rw [e, List.drop_eq_nil_iff]; omega
    have fin : ∀ h' : Heap, (∀ c o, c ≠ z → c ≠ TO → c ≠ i1 → s.heap.get? c = some o → h'.get? c = some o) → (none : Option Value) = none ∧ Inv X pins σ H { s with heap := h' } := fun h' kp =>
      ⟨rfl, I.turnedL (t' := s.toks) (ch := [z, TO, i1]) (fun c o hb g => kp c o (fun y => hb (by simp [y])) (fun y => hb (by simp [y])) (fun y => hb (by simp [y])) g) hf⟩
    by_cases c : (old == Builtin.Itertools.itNothing) = true
    · have eo : old = Builtin.Itertools.itNothing := eq_of_beq c
      subst eo
      have hy : its.toArray[k + 1]? = none := by
        cases hd : its.drop k with
        | nil =>
          have := List.drop_eq_nil_iff.mp hd
          simp
          omega
        | cons x r =>
          cases r with
          | nil =>
            have := congrArg List.length hd
            simp at this ⊢
            omega
          | cons y r' =>
            rw [hd] at hg
            unfold pwRun at hg
            rw [if_pos c] at hg
            cases hg
      exact pw_pyNext hz (pw_endA (I.ok.hd hc) D hz hI hL hy fun h' b kp ⟨o, g1, g2⟩ => ⟨b, o, rfl, g1, g2, fin h' kp⟩)
    · have c' : (old == Builtin.Itertools.itNothing) = false := by simpa using c
      have hy : its.toArray[k]? = none := by
        cases hd : its.drop k with
        | nil =>
          have := List.drop_eq_nil_iff.mp hd
          simp
          omega
        | cons x r =>
          rw [hd] at hg
          cases r with
          | nil =>
            unfold pwRun at hg
            rw [if_neg c] at hg
            cases hg
          | cons y r' =>
            unfold pwRun at hg
            rw [if_neg c] at hg
            cases hg
      exact pw_pyNext hz (pw_endB (I.ok.hd hc) D hz c' hI hL hy fun h' b kp ⟨o, g1, g2⟩ => ⟨b, o, rfl, g1, g2, fin h' kp⟩)
  self := fun A i s Q E st h => by
    obtain ⟨old, k, hz, _⟩ := st
    exact pw_iter hz h
section
variable {K : PySem.W.Frag} {σ : L2.St} {H : Hp}
theorem pw_apart (n a : Nat) (h : a < n) : PwApart (n + 2) (n + 1) n a := ⟨(by omega : n + 1 ≠ n + 2), (by omega : n ≠ n + 2), (by omega : a ≠ n + 2), (by omega : n + 1 ≠ n), (by omega : n + 1 ≠ a), (by omega : n ≠ a)⟩
def iPw (ta : TA) : TI := fun σ H R => ta σ H fun vs H1 => ∃ (a : Addr) (o : Obj) (xs : List V), vs = [.ref a] ∧ H1 a = some (.frz o (.lst xs)) ∧ ∀ vps : List (V × V), (∀ p ∈ vps, Adjc xs p) → (2 ≤ xs.length → vps ≠ []) → vps.length ≤ xs.length → R (Itp a o xs vps) H1
theorem pi_pw {X : Cx} {x : Str} {e : Expr} {ta : TA} {p pos tpos : Pos} {elts : List Expr} {kk : Nat} (hg : Gl X x) (hm : X.mg x = some (.type "itertools.pairwise")) (ha : PA X [e] ta) (hdb : (x == ("__debug__" : Str)) = false := by decide)
    (he : starEach [e] X.env = (false, eval e X.env) :: starEach [] X.env := by rfl) (hpl : (backTo pos (starEach [] X.env)).any (·.1) = false := by rfl) :
    PI X (.Tuple elts kk tpos) (.Call (.Name x p) [e] [] pos) (iPw ta) := by
  refine ⟨fun pins s σ H R I h => ?_⟩
  refine wpAny_Call_Name_kw (ld_glob I hg hm ?_ hdb)
  refine PyProof.Rows.callWith_type1 (thn (ha.run pos pins s σ H _ I h) fun us s1 ⟨vs, H1, I1, r1, q1⟩ => ?_) he hpl
  obtain ⟨a, o, xs, rfl, hfa, q⟩ := q1
  cases r1 with
  | cons r rr =>
    cases rr
    cases r
    obtain ⟨hoa, hob⟩ := I1.hok a _ hfa
    obtain ⟨hz, its, n0, rv, hoa2⟩ := hob
    rw [hoa] at hoa2
    have ho := Option.some.inj hoa2
    have hal : a < s1.heap.objs.size := Heap.lt_size hoa
    obtain ⟨vps, h1, h2, h3, h4⟩ := pwRun_vals _ xs its (Nat.le_refl _) rv Builtin.Itertools.itNothing [] (.inl (beq_self_eq_true _))
    refine pw_call (us := its.toArray) ⟨o, hoa, by rw [ho], n0, by rw [ho]⟩ fun h' hz' hp' hI' hsz hk => pw_iter hz' ?_
    have I2 : Inv X pins σ H1 { s1 with heap := h' } := I1.kept (t' := s1.toks) hk
    refine ⟨s1.heap.objs.size + 2, [s1.heap.objs.size + 2, s1.heap.objs.size + 1, s1.heap.objs.size], _, _, H1, rfl, I2, turn_pw (a := a) (n0 := n0) (xs := xs) (its := its) (pw_apart _ _ hal) ho h1, ⟨Builtin.Itertools.itNothing, 0, hz', ⟨_, _, hp'⟩, hI', by simp⟩, fun c hcm => ?_, q vps h2 (h3 (beq_self_eq_true _)) h4⟩
    have hle : s1.heap.objs.size ≤ c := by
      have e' : c = s1.heap.objs.size + 2 ∨ c = s1.heap.objs.size + 1 ∨ c = s1.heap.objs.size := by simpa using hcm
      rcases e' with y | y | y
      · rw [y]; exact Nat.le_add_right _ _
      · rw [y]; exact Nat.le_add_right _ _
      · rw [y]; exact Nat.le_refl _
    exact I1.fpOk hle (I1.hok.fresh hle)
end
end G

namespace G
open PySem PySem.Spec PyProof.Rows L2 LamX
/-! ### min(list, key=lambda x: x[2]) -/
/-- lambda x: x[2] -/
structure Lam2 (x : Str) (params : Arguments) (body : Expr) (scope : Scope) : Prop where
  bd : ∃ p1 j p2 p3, body = .Subscript (.Name x p1) (.Constant (.int 2) j p2) p3
  kind : scope.kind = .function
  co : scope.isCoroutine = false
  gen : scope.isGenerator = false
  names : scope.names.lookup x = some .local ∧ ∀ y ∈ scope.names, y.2 ≠ .cell ∧ y.2 ≠ .free
  bind : ∀ (q : Str) (clo : List (Str × Addr)) (pm cv ctv v : Value), bindArgs (PySem.W.kla_fn "<lambda>" q params body scope clo pm cv ctv) ⟨[v], []⟩ = pure [(x, v)]
  dbg : (x == ("__debug__" : Str)) = false
section
variable {prog : Program} {w : World} {A : Around} {E : Value → Shared → Prop} {s : Shared}
theorem lam_run {x q0 : Str} {params : Arguments} {body : Expr} {scope : Scope} {f a c' : Addr} {clo : List (Str × Addr)} {pm ctv u0 u1 : Value} {k : Int} {t : Tok} {Q : Value → Shared → Prop} (L : Lam2 x params body scope) (hroom : A.depth < recursionLimit) (hf : s.heap.get? f = some (PySem.W.kla_obj "<lambda>" q0 params body scope clo pm c' ctv))
    (hc : ∃ (oc : Obj) (vs : Array Value) (t : Tok), s.heap.get? c' = some oc ∧ oc.data = .fields vs ∧ vs[1]? = some (.str q0 t)) (lim : s.heap.NoLimit) (ha : IsTup s.heap a #[u0, u1, .int k t])
    (h : ∀ h' tk, (∀ b o, s.heap.get? b = some o → h'.get? b = some o) → Q (.int k t) { s with heap := h', toks := tk }) :
    wpAny (model prog w) A (call (.ref f) [.ref a]) Q E s := by
  obtain ⟨oc, vs, tq, hoc, hdc, hvc⟩ := hc
  obtain ⟨p1, j, p2, p3, rfl⟩ := L.bd
  refine wpAny_call ?_
  refine PySem.W.kla_callFunE hroom hf rfl L.co L.gen rfl ⟨c', oc, vs, tq, rfl, hoc, hdc, hvc⟩ ?_
  rw [L.bind]
  refine wpAny_pure (wpAny_newFunctionEnv (fun y hy => (L.names.2 y hy).1) (fun y hy => ?_) (fun h₁ hns hsb => ⟨lim.fresh _ hsb, ?_⟩) L.kind)
  · rw [List.mem_singleton.mp hy]
    exact L.names.1
  have kp : ∀ b o, s.heap.get? b = some o → h₁.get? b = some o := fun b o e => hsb.extBut b o (Nat.ne_of_lt (Heap.lt_size e)) (Heap.get?_push_of_some _ e)
  refine PySem.W.kla_codeExpr ?_
  refine Subscript_ ?_
  refine wpAny_Name (wpAny_loadName_local L.kind L.names.1 hns (v := .ref a) ?_ ?_) L.dbg
  · simp
  refine wpAny_Constant_int ?_
  have ha1 : IsTup h₁ a #[u0, u1, .int k t] := by
    obtain ⟨o, g, r⟩ := ha
    exact ⟨o, kp _ _ g, r⟩
  exact subscriptTail_builtinR (x := .int k t) ha1.typeIs slot_tuple_getitem.lookup (getItem_tuple (j := 2) (Q := fun r s' => r = .int k t ∧ Q r s') ha1 (by decide) (by decide) rfl rfl ⟨rfl, h _ _ kp⟩) (by with_unfolding_all rfl)
end
/-- all that stands in the heap but the thing at L -/
def allBut (h : Heap) (L : Addr) : List (Addr × Obj) := (List.range h.objs.size).filterMap fun b => if b = L then none else (h.get? b).map fun o => (b, o)
theorem allBut_mem {h : Heap} {L b : Addr} {o : Obj} : (b, o) ∈ allBut h L ↔ b ≠ L ∧ h.get? b = some o := by
  unfold allBut
  rw [List.mem_filterMap]
  constructor
  · rintro ⟨c, hc, e⟩
    by_cases z : c = L
    · rw [if_pos z] at e
      cases e
    · rw [if_neg z] at e
      cases g : h.get? c with
      | none =>
        rw [g] at e
        cases e
      | some u =>
        rw [g] at e
        have e := Option.some.inj e
        cases e
        exact ⟨z, g⟩
  · rintro ⟨z, g⟩
    exact ⟨b, List.mem_range.mpr (Heap.lt_size g), by rw [if_neg z, g]; rfl⟩
def hNil : Heap := {}
theorem hNil_get (b : Addr) : hNil.get? b = none := by
  unfold hNil Heap.get?
  simp
section
variable {X : Cx} {pins : List (Addr × Obj)} {σ : L2.St} {H : Hp} {s : Shared}
/-- where all but the frame's own object is kept, and its map -/
theorem inv_kept {h' : Heap} {tk : Nat} {m : Str → Option Value} (I : Inv X pins σ H s) (hm : s.heap.Ns X.env.locals m) (F : Fr hNil X.env.locals h' m) (N : News hNil X.env.locals h' (allBut s.heap X.env.locals)) : Inv X pins σ H { s with heap := h', toks := tk } := by
  have kp : ∀ b o, b ≠ X.env.locals → s.heap.get? b = some o → h'.get? b = some o := fun b o hb g => (N (b, o) (allBut_mem.mpr ⟨hb, g⟩)).1
  refine I.step (g' := s.gens) (d' := s.drawn) (ch := []) (fun _ z => nomatch z) (fun b o hL _ _ g _ => kp b o hL g) (fun b o hL _ _ g _ => ⟨o.slots, kp b o hL g⟩) (fun _ _ _ _ n => n) (fun b o _ g => ?_) (fun _ _ e => e) (fun _ _ _ e => e) (fun b ps e => ⟨#[], by rw [e]; simp⟩) (fun m' hm' => ?_) (fun b u e => ?_) I.bare
  · by_cases hb : b = X.env.locals
    · subst hb
      obtain ⟨o', _, _, g', _⟩ := F.ns
      exact ⟨o', g'⟩
    · exact ⟨o, kp b o hb g⟩
  · have : m' = m := funext fun y => hm'.agree hm y
    rw [this]
    exact F.ns
  · have nL : ∀ c v, H c = some v → c ≠ X.env.locals := fun c v g z => by
      rw [z, I.free] at g
      cases g
    refine (I.hok b u e).stay (fun c v hc g => kp c v ?_ g) (fun _ g => g) fun _ _ g => g
    rcases hc with z | z
    · rw [z]
      exact nL b u e
    · exact nL c _ z
/-- x[i], of several alike the first -/
def rMinKey (K : PySem.W.Frag) : V → Hp → VK → Prop := fun x H Q => ∃ (a : Addr) (xs : List V) (ps : List Int) , x = .ref a ∧ SqL K H a xs ∧ xs.length = ps.length ∧ 0 < xs.length ∧ (∀ (i : Nat) (y : V), xs[i]? = some y → ∃ b u v k, y = .ref b ∧ SqT K H b [u, v, .int k] ∧ ps[i]? = some k) ∧
  ∀ (i : Nat) (y : V) (k : Int), xs[i]? = some y → ps[i]? = some k → (∀ (j : Nat) (l : Int), ps[j]? = some l → k ≤ l ∧ (j < i → k < l)) → Q y H
def tMinKey (K : PySem.W.Frag) (T : List (Addr × Str)) (te : TE) : TE := fun σ H Q => te σ H fun x H1 => Tabs T H1 ∧ ∀ H2, ExtN H1 H2 → Tabs T H2 → rMinKey K x H2 Q
theorem pe_minKey {T : List (Addr × Str)} {x : Str} {e : Expr} {te : TE} {c P : Addr} {params : Arguments} {body : Expr} {scope : Scope} {p lpos kp pos : Pos} (hg : Gl X "min") (hm : X.mg "min" = none) (ha : PE X e te) (hc : X.calm = true) (TB : TabB X.base X.mg c P) (hcode : X.env.code = .ref c) (hmT : (P, X.env.qual ++ "<lambda>") ∈ T) (hu : ∀ p ∈ T, p.1 = P → p.2 = X.env.qual ++ "<lambda>") (hr : Room 1 X.A) (L : Lam2 x params body scope) (hdef : defaultsOf params X.env = ([], []))
    (he : backTo pos (starEach [e] X.env) = (false, eval e X.env) :: backTo pos (starEach [] X.env) := by rfl) (hpl : (backTo pos (starEach [e] X.env)).any (·.1) = false := by rfl) :
    PE X (.Call (.Name "min" p) [e] [⟨some "key", .Lambda params body scope lpos, kp⟩] pos) (tMinKey X.K T te) := by
  refine ⟨fun pins s σ H Q I h => ?_⟩
  refine wpAny_Call_Name_kw (ld_blt I hg hm boot_min ?_)
  refine PyProof.Rows.callWith_kw ?_ he hpl
  rw [he]
  refine Calls.spliced_cons (thn (ha.run pins s σ H _ I h) fun v s1 ⟨y, H1, I1, r1, q1⟩ => Calls.spliced_nil ?_)
  obtain ⟨hT, q1⟩ := q1
  refine kwAll_cons (lam_make2 I1 TB hcode hmT hu hT hdef (fun y hy z => absurd z (L.names.2 y hy).2) fun f c' pm ctv H2 s2 I2 eN T2 hf hfn hfr hco => kwAll_nil ?_)
  obtain ⟨a, xs, ps, rfl, hl, hlen, hpos, hit, q⟩ := q1 H2 eN T2
  obtain rfl : v = Value.ref a := r1
  obtain ⟨its, rv, pl, hz⟩ := I2.list hl
  obtain ⟨m, hns, _⟩ := id I2.loc
  have hlits := rv.length
  have neL : ∀ b o, s2.heap.get? b = some o → (∀ es ep, o.data ≠ .dict es ep) → b ≠ X.env.locals := fun b o g hd z => by
    obtain ⟨o', es, ep, g', hd', _⟩ := hns
    rw [z, g'] at g
    cases g
    exact hd es ep hd'
  have at_ : ∀ {h : Heap} {more : List (Addr × Obj)}, News hNil X.env.locals h (allBut s2.heap X.env.locals ++ more) → ∀ b o, s2.heap.get? b = some o → (∀ es ep, o.data ≠ .dict es ep) → h.get? b = some o := fun {h more} N b o g hd => (N (b, o) (List.mem_append_left _ (allBut_mem.mpr ⟨neL b o g hd, g⟩))).1
  obtain ⟨oa, ga, ca, na, da⟩ := pl.isList
  have aL : a ≠ X.env.locals := neL a oa ga fun es ep z => by rw [da] at z; cases z
  show wpAny _ _ (call (.builtin "min") [.ref a] [(Str.ofString "key", .ref f)]) _ _ _
  refine kmk_min (h₀ := hNil) (L := X.env.locals) (m := m) (news := allBut s2.heap X.env.locals) (vs := its) (fun i => ps.getD i 0) (I2.ok.hd hc) ⟨hns, (fun b o g => by rw [hNil_get] at g; cases g), Nat.zero_le _⟩ (fun r hr => by
    obtain ⟨b, o⟩ := r
    obtain ⟨h1, h2⟩ := allBut_mem.mp hr
    exact ⟨h2, h1, hNil_get _⟩) (fun h F N => ⟨oa, (N (a, oa) (allBut_mem.mpr ⟨aL, ga⟩)).1, ca, na, da⟩) (by omega) ?_ ?_
  · intro i v hv h tk own F N
    have N1 : News hNil X.env.locals h (allBut s2.heap X.env.locals) := fun r hr => N r (List.mem_append_left _ hr)
    have I3 := inv_kept (tk := tk) I2 hns F N1
    have hi : i < xs.length := by
      have := (List.getElem?_eq_some_iff.mp hv).1
      omega
    obtain ⟨w', hw', rw'⟩ := rv.get (List.getElem?_eq_getElem hi)
    rw [hv] at hw'
    obtain rfl := Option.some.inj hw'
    obtain ⟨b, u, v1, k, ey, hb, hk⟩ := hit i _ (List.getElem?_eq_getElem hi)
    rw [ey] at rw'
    obtain rfl : v = Value.ref b := rw'
    obtain ⟨its2, rv2, pl2, _⟩ := I3.tuple hb
    cases rv2 with
    | @cons _ z0 _ _ r0 rr =>
      cases rr with
      | @cons _ z1 _ _ r1 rr =>
        cases rr with
        | @cons _ z2 _ _ r2 rr =>
          cases rr
          obtain ⟨t, rfl⟩ := r2
          have hf' : h.get? f = some _ := at_ N f _ hf (fun es ep z => by cases z)
          obtain ⟨⟨oc, vs, tq, hoc, hdc, hvc⟩, _⟩ := I3.hok c' _ hco
          have ek : ps.getD i 0 = k := by simp [List.getD, hk]
          refine lam_run L ?_ hf' ⟨oc, vs, tq, hoc, hdc, hvc⟩ I3.nolimit pl2 fun h' tk' kp => ?_
          · exact hr.depth
          · rw [← ek]
            refine ⟨h', tk', t, rfl, rfl, ⟨?_, (fun b o g => by rw [hNil_get] at g; cases g), Nat.zero_le _⟩, fun r hr => ?_⟩
            · exact F.ns.keeps kp
            · exact ⟨kp _ _ (N r hr).1, (N r hr).2⟩
  · intro i v h' tk' hv hbest F N
    have I3 := inv_kept (tk := tk') I2 hns F N
    have hi : i < xs.length := by
      have := (List.getElem?_eq_some_iff.mp hv).1
      omega
    obtain ⟨w', hw', rw'⟩ := rv.get (List.getElem?_eq_getElem hi)
    rw [hv] at hw'
    obtain rfl := Option.some.inj hw'
    obtain ⟨b, u, v1, k, ey, hb, hk⟩ := hit i _ (List.getElem?_eq_getElem hi)
    refine ⟨xs[i], H2, I3, rw', q i _ k (List.getElem?_eq_getElem hi) hk fun j l hj => ?_⟩
    have hjl := (List.getElem?_eq_some_iff.mp hj).1
    have hb' := hbest j (by omega)
    have e1 : ps.getD i 0 = k := by simp [List.getD, hk]
    have e2 : ps.getD j 0 = l := by simp [List.getD, hj]
    rw [e1, e2] at hb'
    exact hb'
end
end G

namespace G
open PySem PySem.Spec PyProof.Rows L2 LamX Evl RZ N
/-- what is known, less the tables of code objects, which grow -/
def hid (H : Hp) : Hp := fun a => match H a with
  | some (.tbl _) => none
  | o => o
section
variable {K : PySem.W.Frag} {H H1 H2 : Hp} {a : Addr}
theorem hid_some {o : HO} : hid H a = some o ↔ H a = some o ∧ ∀ ps, o ≠ .tbl ps := by
  unfold hid
  cases e : H a with
  | none => simp
  | some u =>
    cases u <;> simp <;> (try (intro z; subst z)) <;> (try simp)
theorem hid_get {o : HO} (h : H a = some o) (n : ∀ ps, o ≠ .tbl ps) : hid H a = some o := hid_some.mpr ⟨h, n⟩
theorem hid_ex : Ex (hid H) H := fun b o h => (hid_some.mp h).1
theorem hid_up (e : Ex (hid H) H1) (n : ExtN H1 H2) : Ex (hid H) H2 := fun b o h => n b o (e b o h) (hid_some.mp h).2
theorem hid_hid (e : Ex (hid H) H1) : Ex (hid H) (hid H1) := fun b o h => hid_get (e b o h) (hid_some.mp h).2
theorem hid_mono (e : Ex H H1) : Ex (hid H) (hid H1) := hid_hid (hid_ex.trans e)
theorem extN_hid : ExtN H H1 ↔ Ex (hid H) H1 := ⟨fun h => hid_up hid_ex h, fun h b o e n => h b o (hid_get e n)⟩
theorem extN_of (e : Ex H H1) : ExtN H H1 := ExtN.of e
theorem hid_none (h : H a = none) : hid H a = none := by
  unfold hid
  rw [h]
theorem rd_hid {u : HO} (h : Rd H a u) (n : ∀ ps, u ≠ .tbl ps) : Rd (hid H) a u := by
  rcases h with h | ⟨o, h⟩
  · exact .inl (hid_get h n)
  · exact .inr ⟨o, hid_get h (fun ps z => by cases z)⟩
theorem sql_hid {xs : List V} (h : SqL K H a xs) : SqL K (hid H) a xs := by
  rcases h with h | h
  · exact .inl (rd_hid h fun ps z => by cases z)
  · exact .inr h
theorem sqt_hid {xs : List V} (h : SqT K H a xs) : SqT K (hid H) a xs := by
  rcases h with h | h
  · exact .inl (rd_hid h fun ps z => by cases z)
  · exact .inr h
theorem tieV_hid {v : V} {t : Tie} (h : TieV K H v t) : TieV K (hid H) v t := by
  obtain ⟨b, e, g⟩ := h
  exact ⟨b, e, sqt_hid g⟩
theorem tiesV_hid {vs : List V} {ts : List Tie} (h : TiesV K H vs ts) : TiesV K (hid H) vs ts := ⟨h.len, fun i v t h1 h2 => tieV_hid (h.at_ i v t h1 h2)⟩
theorem tiesL_hid {l : Addr} {ts : List Tie} (h : TiesL K H l ts) : TiesL K (hid H) l ts := by
  obtain ⟨vs, g, t⟩ := h
  exact ⟨vs, sql_hid g, tiesV_hid t⟩
theorem lst_hid {xs : List V} (h : H a = some (.lst xs)) : hid H a = some (.lst xs) := hid_get h fun ps z => by cases z
theorem net_hid {C x : Addr} {n : Nat} {ts : List Tie} (h : NetAt K C H x n ts) : NetAt K C (hid H) x n ts := by
  obtain ⟨dx, l, c, h1, ⟨vs, h2, h3⟩, rs, M⟩ := h.ob
  exact ⟨⟨dx, l, c, hid_get h1 (fun ps z => by cases z), ⟨vs, lst_hid h2, tiesV_hid h3⟩, rs, lst_hid M.top, fun i hi => lst_hid (M.row i hi), M.inj⟩, h.lo, h.hi, h.len, h.good⟩
end
section
variable {X : Cx} {pins : List (Addr × Obj)} {σ : L2.St} {H : Hp} {s : Shared}
/-- a list that will be read alone: its very object is known from now on -/
theorem inv_freeze {a : Addr} {xs : List V} (I : Inv X pins σ H s) (ha : H a = some (.lst xs)) : ∃ o, s.heap.get? a = some o ∧ Inv X pins σ (upd H a (.frz o (.lst xs))) s := by
  have hk := I.hok a _ ha
  obtain ⟨hz, its, n, rv, g⟩ := id hk
  refine ⟨_, g, ?_⟩
  have ne : ∀ b u, H b = some u → u ≠ .lst xs → b ≠ a := fun b u e hu z => by
    rw [z, ha] at e
    exact hu (Option.some.inj e).symm
  refine I.step (h' := s.heap) (g' := s.gens) (t' := s.toks) (d' := s.drawn) (ch := []) (fun _ z => nomatch z) (fun b o _ _ _ e _ => e) (fun b o _ _ _ e _ => ⟨o.slots, e⟩) (fun b o _ _ n => ?_) (fun b o _ e => ⟨o, e⟩) (fun b ys e => ?_) (fun b o u e => ?_) (fun b ps e => ⟨#[], ?_⟩) (fun m hm => hm) (fun b u e => ?_) I.bare
  · have : b ≠ a := fun z => by rw [z, ha] at n; cases n
    rw [upd_ne this]
    exact n
  · rw [upd_ne (ne b _ e (fun z => by cases z))]
    exact e
  · rw [upd_ne (ne b _ e (fun z => by cases z))]
    exact e
  · rw [upd_ne (ne b _ e (fun z => by cases z)), e]
    simp
  · by_cases hb : b = a
    · subst hb
      rw [upd_same] at e
      cases e
      exact ⟨g, hz, its, n, rv, g⟩
    · rw [upd_ne hb] at e
      refine (I.hok b u e).stay (fun c v _ q => q) (fun c q => ?_) fun c ys q => ?_
      · rw [upd_ne (ne c _ q (fun z => by cases z))]
        exact q
      · rw [upd_ne (ne c _ q (fun z => by cases z))]
        exact q
def tFreeze (te : TE) : TE := fun σ H Q => te σ H fun v H1 => ∃ a xs, v = .ref a ∧ H1 a = some (.lst xs) ∧ ∀ o, Q v (upd H1 a (.frz o (.lst xs)))
theorem pe_freeze {e : Expr} {te : TE} (h : PE X e te) : PE X e (tFreeze te) := by
  refine ⟨fun pins s σ H Q I q => ?_⟩
  refine wpAny_mono (h.run pins s σ H _ I q) (fun v s1 ⟨x, H1, I1, r1, a, xs, ex, ha, q1⟩ => ?_) fun _ _ z => z
  obtain ⟨o, _, I2⟩ := inv_freeze I1 ha
  exact ⟨x, _, I2, r1, q1 o⟩
end
/-- a def whose code object stands at c -/
structure FunT (K : PySem.W.Frag) (x qual : Str) (st : Stmt) (f : Addr) (fd : FuncData) (c : Addr) : Prop where
  ex : ∃ (oc : Value) (od : Option Addr) (kV doc pm : Value) (an : Option Addr) (ct : Value) (osl : Array (Option Value)), fd = PySem.W.fnOf x qual (defArgs st) (defBody st) (defScope st) .none kV doc pm an (.ref c) ct ∧ K.lookup f = some ⟨oc, od, .func fd, osl⟩ ∧ PySem.W.codeIn K (.ref c) qual = true
section
variable {P : Program} {w : World} {K : PySem.W.Frag} {mg : Str → Option Value} {base : Heap}
theorem FunT.ok {x qual : Str} {st : Stmt} {f c : Addr} {fd : FuncData} {N ps : List Str} {k : Nat} {sp : Sp} (F : FunT K x qual st f fd c) (S : FnScope N ps (defScope st)) (len : ∀ vs H Q E, sp vs H Q E → vs.length = ps.length)
    (hbody : ∀ (A : Around) (outer : List Env) (s : Shared) (H : Hp) (vs : List V) (Q : VK) (E : XK), Room k (A.deeper (envOfC qual (defScope st) s.heap.objs.size f (.ref c))) → sp vs H Q E → ∃ t, PSs (cxOf CX0 P w K mg base N qual (defScope st) f (.ref c) A outer s H E).nox (defBody st) t ∧ t { nx := fun _ H' => Q .non H', rt := Q } (start N vs) H) : FnOk P w K mg base CX0 (k + 1) f fd ps sp := by
  obtain ⟨oc, od, kV, doc, pm, an, ct, osl, rfl, lk, hcd⟩ := F.ex
  refine fn_of lk hcd S len fun A outer s H vs Q E hr hsp => ?_
  obtain ⟨t, h, q⟩ := hbody A outer s H vs Q E hr hsp
  exact ⟨t, h.nox, q⟩
theorem FunT.okX {x qual : Str} {st : Stmt} {f c : Addr} {fd : FuncData} {N ps : List Str} {k : Nat} {sp : Sp} (F : FunT K x qual st f fd c) (S : FnScope N ps (defScope st)) (len : ∀ vs H Q E, sp vs H Q E → vs.length = ps.length)
    (hbody : ∀ (A : Around) (outer : List Env) (s : Shared) (H : Hp) (vs : List V) (Q : VK) (E : XK), Room k (A.deeper (envOfC qual (defScope st) s.heap.objs.size f (.ref c))) → sp vs H Q E → ∃ t, PSs (cxOf (L2.CX P w) P w K mg base N qual (defScope st) f (.ref c) A outer s H E) (defBody st) t ∧ t { nx := fun _ H' => Q .non H', rt := Q } (start N vs) H) : FnOk P w K mg base (L2.CX P w) (k + 1) f fd ps sp := by
  obtain ⟨oc, od, kV, doc, pm, an, ct, osl, rfl, lk, hcd⟩ := F.ex
  exact fn_of lk hcd S len hbody
theorem funT_mk {x qual : Str} {st : Stmt} {f c : Addr} {oc : Value} {od an : Option Addr} {osl : Array (Option Value)} {kV doc pm ct : Value} (l : K.lookup f = some ⟨oc, od, .func (PySem.W.fnOf x qual (defArgs st) (defBody st) (defScope st) .none kV doc pm an (.ref c) ct), osl⟩) (h : PySem.W.codeIn K (.ref c) qual = true) : FunT K x qual st f (PySem.W.fnOf x qual (defArgs st) (defBody st) (defScope st) .none kV doc pm an (.ref c) ct) c := ⟨⟨oc, od, kV, doc, pm, an, ct, osl, rfl, l, h⟩⟩
end
/-- what is known of the law's promise where the def nm makes lambdas -/
def LawAtT (l : PySem.W.OpenLaw) (w : World) (K : PySem.W.Frag) (k n : Nat) (x : Str) (mg : Str → Option Value) (fa : Addr) (nm : Str) : Prop :=
  ∃ (fd : FuncData) (c P : Addr) (sp : Sp), PySem.W.tabIn K nm = some (c, P) ∧ K.lookup P = none ∧ (∀ (s : Shared) (u : Value), BindsTo s fd ⟨[u], []⟩ [(x, u)]) ∧
    (∀ (H : Hp) (a : Addr) (ns : List Int), ns.length ≤ n → H P = some (.tbl #[]) → SqL K H a (ns.map V.int) → sp [.ref a] H (fun v _ => v = .bl true) fun _ _ _ => False) ∧
    ∀ base : Heap, K.In base → base.Ns mainGlobals mg → TabB base mg c P → FnOk l.prog w K mg base CX0 k fa fd [x] sp
theorem walk_ofTab {l : PySem.W.OpenLaw} {n k : Nat} {q : Program} {loose : List Str} {XP : (Str → Option Value) → Heap → Prop} {YP : World → Heap → Prop} {d : DefRec} {K : Params → PySem.W.Frag} {x : Str} (nm : Str)
    (hn : l.most = some n) (hn2 : n ≤ sizeLine) (hdf : d.params.defaults = []) (hr : Room k callerA) (hrec : ((recsOf q).find? fun e => e.name == nm).isSome = true) (hY : ∀ (w : World) (h : Heap), YP w h → (K w.params).In h)
    (F : ∀ (w : World) (mg : Str → Option Value) (fa : Addr) (h : Heap), (K w.params).In h → h.Ns mainGlobals mg → mg d.name = some (.ref fa) → LawAtT l w (K w.params) k n x mg fa nm) :
    PySem.W.WalkO q loose XP YP l.row.toRowW d [] (fun f vs => PySem.call f vs) := by
  refine Att.attach_callB hn hdf fun w s₀ s₁ mg mb fa o pm cd doc a vs ns G Y ho hd hcd hmg hobj hints hlen hbits hg => ?_
  have KX := hY w _ Y
  obtain ⟨fd, c, P, sp, ht, nP, hb, hsp, hF⟩ := F w mg fa _ KX G.T.g hmg
  obtain ⟨dL, hdL⟩ := Option.isSome_iff_exists.mp hrec
  obtain ⟨C, hT⟩ := PySem.W.tab_of G.T KX hdL ht
  exact law_callTs (cs := [(c, P)]) (CX := CX0) KX G.T.g G.T.b G.T.builtins G.T.nolimit hg (fun p hp => by rw [List.mem_singleton.mp hp]; exact hT) (fun p hp => by rw [List.mem_singleton.mp hp]; exact nP) (fun p hp => by rw [List.mem_singleton.mp hp]; exact C) G.T.bmain hobj hints (Nat.le_trans hlen hn2) hr (fun base b1 b2 b3 => hF base b1 b2 (b3 _ (List.mem_singleton.mpr rfl))) hb (fun H hH hS => hsp H a ns hlen (hH _ (List.mem_singleton.mpr rfl)) hS) fun H e s' z => z
end G

namespace G
open PySem PySem.Spec PyProof.Rows L2 LamX Evl RZ N
theorem walk_pw {a : Addr} {o : Obj} {xs : List V} {vps : List (V × V)} : Walk (Itp a o xs vps) vps.length (fun H => H a = some (.frz o (.lst xs))) (fun i H v H' => ∃ T p, v = .ref T ∧ H T = none ∧ H' = upd H T (.tup [p.1, p.2]) ∧ vps[i]? = some p) :=
  ⟨fun _ _ hi q => ⟨hi, q⟩, fun _ q => ⟨Nat.le_refl _, q⟩, fun _ _ _ _ _ _ y => y⟩
section
variable {K : PySem.W.Frag} {σ : L2.St} {H : Hp} {te : TE}
/-- [f(x, y) for x, y in pairwise(list)], to ties -/
theorem el_cPw {ta : TA} {a : Addr} {o : Obj} {xs : List V} {vs : List Nat} {j1 j2 : Nat} (Rt : V × V → Tie → Prop) (h : EvA ta σ H [.ref a]) (ha : H a = some (.frz o (.lst xs))) (hz : xs.length ≤ 40000)
    (hg : ∀ x y, Adjc xs (x, y) → wipe (((wipe σ vs).set j1 (some x)).set j2 (some y)) vs = wipe σ vs ∧ EvR te (((wipe σ vs).set j1 (some x)).set j2 (some y)) H (fun _ v H2 => ∃ r, Rt (x, y) r ∧ TieV K H2 v r)) :
    EvLR (tLc (iPw ta) (gTup K 2 (gCons (gName j1) (gCons (gName j2) gNil))) tYes te vs) σ H (fun D ys H2 => ∃ (vps : List (V × V)) (us : List Tie), (∀ p ∈ vps, Adjc xs p) ∧ (2 ≤ xs.length → vps ≠ []) ∧ us.length = vps.length ∧ (∀ (j : Nat) (p : V × V) (r : Tie), vps[j]? = some p → us[j]? = some r → Rt p r) ∧ TiesV K H2 ys us) := by
  intro H0 e Q q
  refine h H0 e _ fun H1 e1 => ⟨a, o, xs, rfl, e1 _ _ (e _ _ ha), fun vps v1 v2 v3 => ?_⟩
  intro Dl hD
  have eB : Ex H H1 := e.trans e1
  refine lc_it (walk_pw (a := a) (o := o) (xs := xs) (vps := vps)) (fun i H' => i ≤ vps.length ∧ Ex H1 H' ∧ ∃ (ys : List V) (us : List Tie), H' Dl = some (.lst ys) ∧ TiesV K H' ys us ∧ us.length = i ∧ ys.length ≤ 50000 ∧ ∀ (j : Nat) (p : V × V) (r : Tie), vps[j]? = some p → us[j]? = some r → Rt p r) ?_ ?_ ?_ ?_
  · exact ⟨Nat.zero_le _, Ex.new hD, [], [], upd_same, .nil, rfl, by decide, fun j p r _ h => by simp at h⟩
  · rintro i H' _ ⟨_, e', _⟩
    exact e' _ _ (eB _ _ ha)
  · rintro i v H' H2 hi ⟨_, e', ys, us, hys, tz, hul, hyl, hr⟩ ⟨T, p, rfl, hT, rfl, hp⟩
    have hadj := v1 p (List.mem_of_getElem? hp)
    obtain ⟨w1, w2⟩ := hg p.1 p.2 hadj
    refine ⟨T, _, rfl, st_of upd_same, rfl, _, _, rfl, _, _, rfl, rfl, w1, ?_⟩
    have eT : Ex H' (upd H' T (.tup [p.1, p.2])) := Ex.new hT
    refine yes_go ?_
    refine w2 _ ((eB.trans e').trans eT) _ fun v H4 e4 ⟨r, hrr, tv⟩ => ?_
    have hys4 := e4 _ _ (eT _ _ hys)
    refine ⟨ys, hys4, ?_, hi, Ex.mut ((e'.trans eT).trans e4) hD, ys ++ [v], us ++ [r], upd_same, (((tz.ex eT).ex e4).snoc tv).updL hys4, by rw [List.length_append, hul]; rfl, ?_, fun j p' r' h1 h2 => ?_⟩
    · rw [tz.len, hul]
      exact sz_lt (by omega)
    · rw [List.length_append, tz.len, hul]
      show i + 1 ≤ 50000
      omega
    · by_cases hj : j < us.length
      · rw [List.getElem?_append_left hj] at h2
        exact hr j p' r' h1 h2
      · rw [List.getElem?_append_right (by omega)] at h2
        have e0 : j - us.length = 0 := by
          have := (List.getElem?_eq_some_iff.mp h2).1
          simp at this
          omega
        rw [e0] at h2
        obtain rfl := Option.some.inj h2
        have ej : j = i := by omega
        rw [ej, hp] at h1
        obtain rfl := Option.some.inj h1
        exact hrr
  · rintro H' ⟨_, e', ys, us, hys, tz, hul, _, hr⟩
    exact q Dl ys H' (fresh_back e1 hD) (e1.trans e') hys ⟨vps, us, v1, v2, hul, hr, tz⟩
end
end G
namespace G
open PySem
/-- the name of the lambda that cheapest makes -/
def lamQ : Str := ("cheapest" : Str) ++ (".<locals>." : Str) ++ ("<lambda>" : Str)
end G

namespace G
open PySem PySem.Spec PyProof.Rows L2 LamX Evl RZ
/-! ### lists whose noughts were made in the run -/
/-- a value that is no bare nought -/
def NZ (u : Value) : Prop := ∀ t, u = .int 0 t → t ≠ 0
def NzL (k : Nat) (its : List Value) : Prop := ∀ (i : Nat) (u : Value), k ≤ i → its[i]? = some u → NZ u
def zob (its : List Value) (n : Nat) : Obj := { cls := .type "list", data := .seq its.toArray n }
/-- a list at a, its noughts from k on no bare ones -/
def lz (k : Nat) (a : Addr) (xs : List V) : HO := .ext fun h => xs.length ≤ sizeLine ∧ ∃ (its : List Value) (n : Nat), Vals xs its ∧ NzL k its ∧ h.get? a = some (zob its n)
theorem nz_of {v : V} {u : Value} (r : RelV v u) (h : v ≠ .int 0) : NZ u := fun t e => by
  subst e
  cases v with
  | int i =>
    obtain ⟨t', e⟩ := r
    injection e with e1 _
    exact absurd (by rw [e1]) h
  | non => cases r
  | bl b => cases r
  | ref b => cases r
  | ty b => cases r
  | str b => obtain ⟨_, e⟩ := r; cases e
  | byt b => obtain ⟨_, e⟩ := r; cases e
  | flt b => obtain ⟨_, e⟩ := r; cases e
theorem NzL.set {k j : Nat} {its : List Value} {u : Value} (h : NzL k its) (z : NZ u) : NzL k (its.set j u) := fun i w hi e => by
  rw [List.getElem?_set] at e
  split at e
  · split at e
    · cases e
      exact z
    · cases e
  · exact h i w hi e
theorem NzL.snoc {k : Nat} {its : List Value} {u : Value} (h : NzL k its) (z : NZ u) : NzL k (its ++ [u]) := fun i w hi e => by
  by_cases c : i < its.length
  · rw [List.getElem?_append_left c] at e
    exact h i w hi e
  · rw [List.getElem?_append_right (by omega)] at e
    have e0 : i - its.length = 0 := by
      have := (List.getElem?_eq_some_iff.mp e).1
      simp at this
      omega
    rw [e0] at e
    cases e
    exact z
theorem NzL.drop {k : Nat} {its : List Value} (h : NzL k its) : NzL k its.dropLast := fun i w hi e => by
  rw [List.getElem?_dropLast] at e
  split at e
  · exact h i w hi e
  · cases e
theorem NzL.app {k : Nat} {its : List Value} {zs : List V} {jts : List Value} (h : NzL k its) (r : Vals zs jts) (hz : ∀ z ∈ zs, z ≠ .int 0) : NzL k (its ++ jts) := fun i w hi e => by
  by_cases c : i < its.length
  · rw [List.getElem?_append_left c] at e
    exact h i w hi e
  · rw [List.getElem?_append_right (by omega)] at e
    have hl := (List.getElem?_eq_some_iff.mp e).1
    have hl2 : i - its.length < zs.length := by rw [r.length]; exact hl
    obtain ⟨w2, e2, r2⟩ := r.get (List.getElem?_eq_getElem hl2)
    rw [e] at e2
    cases e2
    exact nz_of r2 (hz _ (List.getElem_mem hl2))
theorem lz_inj {k : Nat} {a : Addr} {xs : List V} {h : Heap} (x : xs.length ≤ sizeLine ∧ ∃ (its : List Value) (n : Nat), Vals xs its ∧ NzL k its ∧ h.get? a = some (zob its n)) : (∃ o, h.get? a = some o) ∧ ∀ h1 h2 : Heap, (xs.length ≤ sizeLine ∧ ∃ (its : List Value) (n : Nat), Vals xs its ∧ NzL k its ∧ h1.get? a = some (zob its n)) → (∀ o, h1.get? a = some o → h2.get? a = some o) → (xs.length ≤ sizeLine ∧ ∃ (its : List Value) (n : Nat), Vals xs its ∧ NzL k its ∧ h2.get? a = some (zob its n)) := by
  obtain ⟨_, its, n, _, _, e⟩ := x
  exact ⟨⟨_, e⟩, fun h1 h2 ⟨y1, is, m, y2, y3, y4⟩ f => ⟨y1, is, m, y2, y3, f _ y4⟩⟩
section
variable {X : Cx} {pins : List (Addr × Obj)} {σ : L2.St} {H : Hp} {s : Shared} {k : Nat} {p : Addr} {xs ys : List V}
theorem inv_lz (I : Inv X pins σ H s) (h : H p = some (lz k p xs)) : xs.length ≤ sizeLine ∧ ∃ (its : List Value) (n : Nat), Vals xs its ∧ NzL k its ∧ s.heap.get? p = some (zob its n) := (I.hok p _ h).1
theorem lz_ok {P : Program} {w : World} {H : Hp} {h : Heap} {its : List Value} {n : Nat} (z : xs.length ≤ sizeLine) (r : Vals xs its) (q : NzL k its) (e : h.get? p = some (zob its n)) : ObjOk P w H h p (lz k p xs) :=
  have x : xs.length ≤ sizeLine ∧ ∃ (its : List Value) (n : Nat), Vals xs its ∧ NzL k its ∧ h.get? p = some (zob its n) := ⟨z, its, n, r, q, e⟩
  ⟨x, (lz_inj x).1, (lz_inj x).2⟩
/-- such a list is rewritten -/
theorem inv_lzset {its its' : List Value} {n : Nat} {f : Array Value → Array Value} {t' : Nat} (I : Inv X pins σ H s) (h : H p = some (lz k p xs)) (e : s.heap.get? p = some (zob its n)) (hf : f its.toArray = its'.toArray) (hv : Vals ys its') (q : NzL k its') (hz : ys.length ≤ sizeLine) :
    Inv X pins σ (upd H p (lz k p ys)) { s with heap := s.heap.update p (Obj.mapSeq f), toks := t' } := by
  have g := PySem.IsL.update e f
  rw [hf] at g
  exact I.write (x := p) (e := p) (by rw [h]; exact trivial) (.inl rfl) (fun b' u hb hu => (Heap.get?_update_other s.heap (Obj.mapSeq f) (Ne.symm hb)).trans hu) ⟨_, g⟩ (lz_ok hz hv q g)
/-- such a list is laid -/
theorem inv_lznew {its : List Value} {t' : Nat} (I : Inv X pins σ H s) (hv : Vals ys its) (q : NzL k its) (hz : ys.length ≤ sizeLine) :
    Inv X pins σ (upd H s.heap.objs.size (lz k s.heap.objs.size ys)) { s with heap := s.heap.push { cls := .type "list", data := .seq its.toArray }, toks := t' } :=
  I.laid (fun _ _ g => Heap.get?_push_of_some _ g) (Nat.le_refl _) (lz_ok (n := 0) hz hv q (Heap.get?_push_size _ rfl))
end
/-! ### expressions whose value is no bare nought -/
structure PZ (X : Cx) (e : Expr) (t : TE) : Prop where
  run : ∀ (pins : List (Addr × Obj)) (s : Shared) (σ : L2.St) (H : Hp) (Q : VK), Inv X pins σ H s → t σ H Q → wpAny (model X.prog X.w) X.A (eval e X.env) (fun u s' => NZ u ∧ EP X pins σ Q u s') X.xe s
def tNz (te : TE) : TE := fun σ H Q => te σ H fun v H1 => v ≠ .int 0 ∧ Q v H1
structure PAz (X : Cx) (es : List Expr) (R : List Value → Prop) (t : TA) : Prop where
  run : ∀ (pos : Pos) (pins : List (Addr × Obj)) (s : Shared) (σ : L2.St) (H : Hp) (Q : List V → Hp → Prop), Inv X pins σ H s → t σ H Q → wpAny (model X.prog X.w) X.A (spliced (backTo pos (starEach es X.env))) (fun us s' => R us ∧ AP X pins σ Q us s') X.xe s
section
variable {X : Cx} {e a b : Expr} {es : List Expr} {te ta tb : TE} {t : TA} {pos cpos apos : Pos} {R : List Value → Prop}
theorem pz_of (h : PE X e te) : PZ X e (tNz te) := by
  refine ⟨fun pins s σ H Q I q => ?_⟩
  exact thn (h.run pins s σ H _ I q) fun u s1 ⟨x, H1, I1, r, n, q1⟩ => ⟨nz_of r n, x, H1, I1, r, q1⟩
theorem PZ.pe (h : PZ X e te) : PE X e te := ⟨fun pins s σ H Q I q => thn (h.run pins s σ H Q I q) fun _ _ z => z.2⟩
theorem paz_nil : PAz X [] (fun us => us = []) tNil := ⟨fun _ _ _ _ H Q I h => Calls.spliced_nil ⟨rfl, [], H, I, .nil, h⟩⟩
theorem paz_cons (ha : PE X e te) (hr : PAz X es R t) (hs : starEach (e :: es) X.env = (false, eval e X.env) :: starEach es X.env := by rfl) : PAz X (e :: es) (fun us => ∃ u r, us = u :: r ∧ R r) (tCons te t) := by
  refine ⟨fun pos pins s σ H Q I h => ?_⟩
  rw [hs]
  show wpAny _ _ (spliced ((false, eval e X.env) :: backTo pos (starEach es X.env))) _ _ s
  refine Calls.spliced_cons (thn (ha.run pins s σ H _ I h) fun u s1 ⟨x, H1, I1, r1, q1⟩ => thn (hr.run pos pins s1 σ H1 _ I1 q1) fun us s2 ⟨g, ws, H2, I2, r2, q2⟩ => ⟨⟨u, us, rfl, g⟩, x :: ws, H2, I2, .cons r1 r2, q2⟩)
theorem paz_consZ (ha : PZ X e te) (hr : PAz X es R t) (hs : starEach (e :: es) X.env = (false, eval e X.env) :: starEach es X.env := by rfl) : PAz X (e :: es) (fun us => ∃ u r, us = u :: r ∧ NZ u ∧ R r) (tCons te t) := by
  refine ⟨fun pos pins s σ H Q I h => ?_⟩
  rw [hs]
  show wpAny _ _ (spliced ((false, eval e X.env) :: backTo pos (starEach es X.env))) _ _ s
  refine Calls.spliced_cons (thn (ha.run pins s σ H _ I h) fun u s1 ⟨z, x, H1, I1, r1, q1⟩ => thn (hr.run pos pins s1 σ H1 _ I1 q1) fun us s2 ⟨g, ws, H2, I2, r2, q2⟩ => ⟨⟨u, us, rfl, z, g⟩, x :: ws, H2, I2, .cons r1 r2, q2⟩)
/-! ### reading -/
def rIxZ (k : Nat) : R2 := fun x y H Q => ∃ p xs i v, x = .ref p ∧ y = .int i ∧ H p = some (lz k p xs) ∧ atI xs i = some v ∧ Q v H
theorem ixz_raw {k : Nat} {value slice : Expr} {pins : List (Addr × Obj)} {s : Shared} {σ : L2.St} {H : Hp} {x y : V} {v u : Value} {Q : VK} (I : Inv X pins σ H s) (rx : RelV x v) (ry : RelV y u) (h : rIxZ k x y H Q) (hs : subscripted slice false v u = operate [v, u] (getItem v u)) :
    wpAny (model X.prog X.w) X.A (subscriptTail value slice v u) (fun w s' => (k = 0 → NZ w) ∧ EP X pins σ Q w s') X.xe s := by
  obtain ⟨p, xs, i, z, rfl, rfl, hq, he, q⟩ := h
  cases rx
  obtain ⟨t, rfl⟩ := ry
  obtain ⟨hz, its, n, r, nz, g⟩ := inv_lz I hq
  obtain ⟨j, h1, h2, h3, h4, h5⟩ := atI_get he
  obtain ⟨w, ew, rw'⟩ := r.get h2
  have hl := r.length
  have hn := line63
  have pl : s.heap.IsList p its.toArray := ⟨_, g, rfl, _, rfl⟩
  have fin : (k = 0 → NZ w) ∧ EP X pins σ Q w s := ⟨fun e => nz j w (by omega) ew, z, H, I, rw', q⟩
  rcases Int.lt_or_le i 0 with h0 | h0
  · have hj : (i + (its.toArray.size : Int)).toNat = j := by
      rw [seqIndex_neg h0 h4] at h1
      have := Option.some.inj h1
      rw [List.size_toArray, ← hl]; exact this
    exact subscriptTail_builtinR (x := w) pl.typeIs slot_list_getitem.lookup (wpAny_getItem_list_neg (Q := fun r s' => r = w ∧ (k = 0 → NZ r) ∧ EP X pins σ Q r s') pl h0 (by rw [List.size_toArray]; omega) (by omega) (by rw [hj]; simpa using ew) ⟨rfl, fin⟩) hs
  · have hj : i.toNat = j := by
      rw [seqIndex_of h0 h5] at h1
      exact Option.some.inj h1
    exact item_listR (Q := fun r s' => (k = 0 → NZ r) ∧ EP X pins σ Q r s') pl h0 (by omega) (by rw [hj]; simpa using ew) fin hs
theorem pe_ixz {k : Nat} (ha : PE X a ta) (hb : PE X b tb) (hs : PlainIx b) : PE X (.Subscript a b pos) (tOp (rIxZ k) ta tb) :=
  ⟨fun pins s σ H Q I h => Subscript_ (binT ha hb I h fun _ _ _ _ _ _ I2 rx ry q => thn (ixz_raw I2 rx ry q (hs _ _)) fun _ _ z => z.2)⟩
theorem pz_ixz (ha : PE X a ta) (hb : PE X b tb) (hs : PlainIx b) : PZ X (.Subscript a b pos) (tOp (rIxZ 0) ta tb) :=
  ⟨fun pins s σ H Q I h => Subscript_ (binT ha hb I h fun _ _ _ _ _ _ I2 rx ry q => thn (ixz_raw I2 rx ry q (hs _ _)) fun _ _ z => ⟨z.1 rfl, z.2⟩)⟩
/-- a tuple's object whose second item is no bare nought -/
def TZ (o : Obj) : Prop := ∃ (u v w : Value) (n : Nat), o = { cls := .type "tuple", data := .seq #[u, v, w] n } ∧ NZ v
def rIx1 : R2 := fun x y H Q => ∃ (p : Addr) (o : Obj) (x0 v x2 : V), x = .ref p ∧ y = .int 1 ∧ H p = some (.frz o (.tup [x0, v, x2])) ∧ TZ o ∧ Q v H
theorem pz_ix1 (ha : PE X a ta) (hb : PE X b tb) (hs : PlainIx b) : PZ X (.Subscript a b pos) (tOp rIx1 ta tb) := by
  refine ⟨fun pins s σ H Q I h => Subscript_ (binT ha hb I h fun v u s1 x y H1 I2 rx ry h => ?_)⟩
  obtain ⟨p, o, x0, z, x2, rfl, rfl, hq, ⟨w0, w1, w2, n, rfl, nz⟩, q⟩ := h
  cases rx
  obtain ⟨t, rfl⟩ := ry
  obtain ⟨g, hz, its, r, o', g', hc', n', hd'⟩ := I2.hok p _ hq
  rw [g] at g'
  cases g'
  have ei : its = [w0, w1, w2] := by
    injection hd' with e1 _
    have e2 := congrArg Array.toList e1
    simpa using e2.symm
  subst ei
  have r1 : RelV z w1 := by
    cases r with
    | cons _ r => cases r with
      | cons r _ => exact r
  have pl : IsTup s1.heap p #[w0, w1, w2] := ⟨_, g, rfl, _, rfl⟩
  exact subscriptTail_builtinR (x := w1) pl.typeIs slot_tuple_getitem.lookup
    (getItem_tuple (j := 1) (Q := fun r s' => r = w1 ∧ NZ r ∧ EP X pins σ Q r s') pl (by decide) (by decide) (by rfl) (by rfl) ⟨rfl, nz, z, H1, I2, r1, q⟩) (hs _ _)
/-! ### changing -/
def tSetZ (k : Nat) (te to ti : TE) : TS := fun D σ H => te σ H fun v H1 => to σ H1 fun o H2 => ti σ H2 fun i H3 => ∃ (p : Addr) (xs : List V) (j : Nat), o = .ref p ∧ i = .int (j : Int) ∧ H3 p = some (lz k p xs) ∧ j < xs.length ∧ D.nx σ (upd H3 p (lz k p (xs.set j v)))
theorem ps_setZ {k : Nat} {o i : Expr} {to ti : TE} (he : PZ X e te) (ho : PE X o to) (hi : PE X i ti) (hs : swapsWithSole [.Subscript o i apos] e pos.line X.env = pure false := by rfl) (hw : swappedStores [.Subscript o i apos] e X.env = pure none := by rfl)
    (h1 : (assignEach [.Subscript o i apos] X.env).map (·.2) = [assign (.Subscript o i apos) X.env] := by rfl)
    (ha : ∀ v, assign (.Subscript o i apos) X.env v = (do let ov ← holding [v] (eval o X.env); let iv ← holding [v, ov] (eval i X.env); standAt apos; holding [v, ov, iv] (setItem ov iv v); release [v, ov, iv] []) := by intro _; rfl) : PS X (.Assign [.Subscript o i apos] e pos) (tSetZ k te to ti) := by
  refine ⟨fun pins s σ H D I h => ?_⟩
  refine wpAny_Assign_stores (thn (he.run pins s σ H _ I h) fun v s1 ⟨nz, x, H1, I1, r1, q1⟩ => ?_) hs hw
  rw [h1]
  refine thn (Q := fun _ s2 => ∃ σ' H', Inv X pins σ' H' s2 ∧ D.nx σ' H') ?_ fun _ s2 q => q
  show wpAny _ _ (assign (.Subscript o i apos) X.env v) _ _ _
  rw [ha]
  refine wpAny_bind (wpAny_holding (thn (ho.run pins s1 σ H1 _ I1 q1) fun ov s2 ⟨y, H2, I2, r2, q2⟩ => ?_))
  refine wpAny_bind (wpAny_holding (thn (hi.run pins s2 σ H2 _ I2 q2) fun iv s3 ⟨z, H3, I3, r3, p, xs, j, e1, e2, hp, hj, q3⟩ => ?_))
  subst e1
  subst e2
  cases r2
  obtain ⟨t, rfl⟩ := r3
  obtain ⟨hz, its, n, r, nzl, g⟩ := inv_lz I3 hp
  have hl := r.length
  have I4 := inv_lzset (t' := s3.toks) (f := (·.setIfInBounds j v)) (its' := its.set j v) I3 hp g (by simp) (r.set r1 j) (nzl.set nz) (by rw [List.length_set]; exact hz)
  refine wpAny_bind (wpAny_standAt (wpAny_bind (wpAny_holding (PySem.W.ki_setAt g (by omega) (by have := line63; omega) (by rw [List.size_toArray, ← hl]; omega) ?_))))
  exact wpAny_release ⟨σ, _, I4, q3⟩
def tAppZ (k : Nat) (to te : TE) : TE := fun σ H Q => to σ H fun x H1 => ∃ p xs0, x = .ref p ∧ H1 p = some (lz k p xs0) ∧ te σ H1 fun v H2 => ∃ xs, H2 p = some (lz k p xs) ∧ xs.length < sizeLine ∧ Q .non (upd H2 p (lz k p (xs ++ [v])))
theorem pe_appZ {k : Nat} {o : Expr} {to : TE} (ho : PE X o to) (he : PZ X e te) (hbase : attributeBase o "append" X.env (eval o X.env) = eval o X.env := by rfl)
    (hfew : ((backTo cpos (starEach [e] X.env)).all (fun x => !x.1) && (backToKw cpos (keywordEach [] X.env)).all (fun x => x.1.isSome) && decide ([e].length + ([] : List Keyword).length + (if ([] : List Keyword).isEmpty then 0 else 1) < 30)) = true := by rfl)
    (hline : (apos.endLine == cpos.line) = true := by rfl) (hs : starEach [e] X.env = (false, eval e X.env) :: starEach [] X.env := by rfl) : PE X (.Call (.Attribute o "append" apos) [e] [] cpos) (tAppZ k to te) := by
  refine ⟨fun pins s σ H Q I h => wpAny_Call_method_late hbase hfew hline rfl (thn (ho.run pins s σ H _ I h) fun v s1 ⟨x, H1, I1, r1, p, xs0, ex, hp, q1⟩ => ?_)⟩
  subst ex
  cases r1
  obtain ⟨_, its0, n0, _, _, g0⟩ := inv_lz I1 hp
  refine ⟨"list", "list.append", PySem.F.plainAttrs_list, PySem.F.slot_list_append, PySem.F.type_list_append, ⟨_, g0, rfl⟩, fun a ea => ?_, ?_⟩
  · cases ea
    exact ⟨_, g0, rfl⟩
  have hA := (paz_consZ he paz_nil hs).run cpos pins s1 σ H1 _ I1 (show tCons te tNil σ H1 (fun vs H2 => ∃ xs, H2 p = some (lz k p xs) ∧ xs.length < sizeLine ∧ Q .non (upd H2 p (lz k p (xs ++ vs)))) from q1)
  rw [hs] at hA ⊢
  refine Calls.callWith_builtin rfl (Calls.evalArgs_plain (thn hA fun us s2 ⟨⟨u, r0, e1, nz, e2⟩, vs, H2, I2, r2, xs, hp2, hz2, q2⟩ => ?_))
  subst e2
  subst e1
  cases r2 with
  | cons ru r3 =>
    cases r3
    obtain ⟨hz, its, n, r, nzl, g⟩ := inv_lz I2 hp2
    have hl := r.length
    refine call_meets PySem.F.slot_list_append ⟨_, g, rfl⟩ PySem.F.entry_list_append (PySem.F.args_list_append_2 _ _) (PySem.list_append p its.toArray n u (by rw [List.size_toArray]; omega)) ⟨g, ?_⟩
    exact ⟨.non, _, inv_lzset (its' := its ++ [u]) I2 hp2 g (by simp) (r.append (.cons ru .nil)) (nzl.snoc nz) (by rw [List.length_append]; exact hz2), rfl, q2⟩
def tPopZ (k : Nat) (to : TE) : TE := fun σ H Q => to σ H fun x H1 => ∃ p xs y, x = .ref p ∧ H1 p = some (lz k p (xs ++ [y])) ∧ Q y (upd H1 p (lz k p xs))
theorem pe_popZ {k : Nat} {o : Expr} {to : TE} (ho : PE X o to) (hbase : attributeBase o "pop" X.env (eval o X.env) = eval o X.env := by rfl) (hline : (apos.endLine == cpos.line) = true := by rfl) : PE X (.Call (.Attribute o "pop" apos) [] [] cpos) (tPopZ k to) := by
  refine ⟨fun pins s σ H Q I h => wpAny_Call_method0_late hbase hline (thn (ho.run pins s σ H _ I h) fun v s1 ⟨x, H1, I1, r1, p, xs, y, ex, hp, q1⟩ => ?_)⟩
  subst ex
  cases r1
  obtain ⟨hz, its, n, r, nzl, g⟩ := inv_lz I1 hp
  have hl := r.length
  rw [List.length_append, List.length_singleton] at hl hz
  obtain ⟨u, hu, ru⟩ := r.get (i := xs.length) (x := y) (by simp)
  have hy' : its.toArray[its.toArray.size - 1]? = some u := by
    rw [← Array.getElem?_toList, List.size_toArray, ← hl]
    exact hu
  refine ⟨"list", "list.pop", PySem.F.plainAttrs_list, PySem.F.slot_list_pop, PySem.F.type_list_pop, ⟨_, g, rfl⟩, fun a ea => ?_, ?_⟩
  · cases ea
    exact ⟨_, g, rfl⟩
  refine Calls.callWith_builtin rfl (PySem.evalArgs_none (call_meets PySem.F.slot_list_pop ⟨_, g, rfl⟩ PySem.F.entry_list_pop (PySem.F.args_list_pop_1 _) (MeetsSeq.list_pop_last p its.toArray n u hy' (by have := line63; rw [List.size_toArray]; omega)) ⟨g, ?_⟩))
  have rd := r.dropLast
  rw [List.dropLast_concat] at rd
  exact ⟨y, _, inv_lzset (its' := its.dropLast) I1 hp g (by show its.toArray.eraseIdxIfInBounds (its.toArray.size - 1) = its.dropLast.toArray; rw [List.size_toArray, List.eraseIdxIfInBounds_toArray, PyProof.Rows.Copied.eraseIdx_last]) rd nzl.drop (by omega), ru, q1⟩
theorem call_lenZ {k : Nat} : CallR X (.builtin "len") (fun xs H Q => ∃ p ys, xs = [.ref p] ∧ H p = some (lz k p ys) ∧ Q (.int ys.length) H) := by
  intro pins s σ H xs us Q I r h
  obtain ⟨p, ys, rfl, hq, q⟩ := h
  obtain ⟨u, rfl, rx⟩ := Vals.one r
  cases rx
  obtain ⟨hz, its, n, r', _, g⟩ := inv_lz I hq
  have hlen := r'.length
  have pl : s.heap.IsList p its.toArray := ⟨_, g, rfl, _, rfl⟩
  exact Calls.call_len_list pl (by have := line63; simp only [List.size_toArray]; omega) ⟨.int ys.length, H, I.tok _, ⟨s.toks + 1, by rw [List.size_toArray, hlen]⟩, q⟩
/-! ### making -/
def tTupZ (t : TA) : TE := fun σ H Q => t σ H fun xs H1 => ∀ p o, TZ o → H1 p = none → Q (.ref p) (upd H1 p (.frz o (.tup xs)))
theorem pe_tupZ {x1} (h : PAz X es (fun us => ∃ u r, us = u :: r ∧ ∃ v r2, r = v :: r2 ∧ NZ v ∧ ∃ w r3, r2 = w :: r3 ∧ r3 = []) t) : PE X (.Tuple es x1 pos) (tTupZ t) := by
  refine ⟨fun pins s σ H Q I hq => wpAny_Tuple_spliced (thn (h.run pos pins s σ H _ I hq) fun us s1 ⟨⟨u, _, e1, v, _, e2, nz, w, _, e3, e4⟩, xs, H1, I1, r, q⟩ => ?_)⟩
  subst e4
  subst e3
  subst e2
  subst e1
  have hf : H1 s1.heap.objs.size = none := I1.hok.fresh (Nat.le_refl _)
  have hl := r.length
  refine ⟨by show 3 ≤ sizeLine; decide, .ref s1.heap.objs.size, upd H1 s1.heap.objs.size (.frz { cls := .type "tuple", data := .seq #[u, v, w] } (.tup xs)), I1.laid (t' := s1.toks) (fun b u e => Heap.get?_push_of_some _ e) (Nat.le_refl _) ?_, rfl, q _ _ ⟨u, v, w, _, rfl, nz⟩ hf⟩
  have g : (s1.heap.push { cls := .type "tuple", data := .seq #[u, v, w] }).get? s1.heap.objs.size = some { cls := .type "tuple", data := .seq #[u, v, w] } := Heap.get?_push_size _ rfl
  exact ⟨g, by rw [hl]; show 3 ≤ sizeLine; decide, [u, v, w], r, ⟨_, g, rfl, _, rfl⟩⟩
def tLst1 (k : Nat) (te : TE) : TE := fun σ H Q => te σ H fun v H1 => ∀ p, H1 p = none → Q (.ref p) (upd H1 p (lz k p [v]))
theorem pe_lstA (h : PE X e te) (hs : starEach [e] X.env = (false, eval e X.env) :: starEach [] X.env := by rfl) : PE X (.List [e] pos) (tLst1 1 te) := by
  refine ⟨fun pins s σ H Q I hq => wpAny_List_spliced ?_⟩
  rw [hs]
  show wpAny _ _ (spliced ((false, eval e X.env) :: backTo pos (starEach [] X.env))) _ _ s
  refine Calls.spliced_cons (thn (h.run pins s σ H _ I hq) fun u s1 ⟨x, H1, I1, r, q⟩ => Calls.spliced_nil ⟨by show 1 ≤ sizeLine; decide, ?_⟩)
  exact ⟨.ref s1.heap.objs.size, _, inv_lznew (k := 1) (its := [u]) (t' := s1.toks) I1 (.cons r .nil) (fun i w hi e => by
    rcases i with _ | i
    · omega
    · simp at e) (by show 1 ≤ sizeLine; decide), rfl, q _ (I1.hok.fresh (Nat.le_refl _))⟩
def rCatZ (k : Nat) : R2 := fun x y H Q => ∃ l b xs zs, x = .ref l ∧ y = .ref b ∧ H l = some (lz k l xs) ∧ H b = some (.lst zs) ∧ (∀ z ∈ zs, z ≠ .int 0) ∧ xs.length + zs.length ≤ sizeLine ∧ ∀ p, H p = none → Q (.ref p) (upd H p (lz k p (xs ++ zs)))
theorem op_catZ {k : Nat} : OpR X (binaryOp .Add) (rCatZ k) := by
  intro pins s σ H x y v u Q I rx ry h
  obtain ⟨l, b, xs, zs, rfl, rfl, hH, hB, nz, hz, q⟩ := h
  cases rx
  cases ry
  obtain ⟨z, its, n, r, nzl, e⟩ := inv_lz I hH
  obtain ⟨z2, its2, n2, r2, hl2, e2⟩ := I.lstM hB
  have hl := r.length
  refine PySem.P.add_list e e2 ?_ (by rw [List.size_toArray, List.size_toArray]; omega)
  rw [show its.toArray ++ its2.toArray = (its ++ its2).toArray by simp]
  exact ⟨.ref _, _, inv_lznew (t' := s.toks) I (r.append r2) (nzl.app r2 nz) (by rw [List.length_append]; exact hz), rfl, q _ I.fresh⟩
/-- its very object is known from now on -/
def tFrzZ (k : Nat) (te : TE) : TE := fun σ H Q => te σ H fun v H1 => ∃ a xs, v = .ref a ∧ H1 a = some (lz k a xs) ∧ ∀ its n, Vals xs its → NzL k its → Q v (upd H1 a (.frz (zob its n) (.lst xs)))
theorem pe_frzZ {k : Nat} (h : PE X e te) : PE X e (tFrzZ k te) := by
  refine ⟨fun pins s σ H Q I q => thn (h.run pins s σ H _ I q) fun v s1 ⟨x, H1, I1, r1, a, xs, ex, ha, q1⟩ => ?_⟩
  obtain ⟨hz, its, n, r, nzl, g⟩ := inv_lz I1 ha
  refine ⟨x, _, ?_, r1, q1 its n r nzl⟩
  have := I1.write (x := a) (e := a) (h' := s1.heap) (t' := s1.toks) (o := .frz (zob its n) (.lst xs)) (by rw [ha]; exact trivial) (.inl rfl) (fun _ _ _ z => z) ⟨_, g⟩ ⟨g, hz, its, n, r, g⟩
  exact this
end
end G

namespace G
open PySem PySem.Spec PyProof.Rows L2 LamX Evl RZ N
/-! ### pairwise where no bare nought stands behind the first -/
/-- each thing with the next one -/
def nxt {α : Type} (xs : List α) : List (α × α) := xs.zip xs.tail
theorem nz_nothing {u : Value} (h : NZ u) : (u == Builtin.Itertools.itNothing) = false := by
  cases c : (u == Builtin.Itertools.itNothing) with
  | false => rfl
  | true =>
    have e : u = .int 0 0 := eq_of_beq c
    exact absurd rfl (h 0 e)
theorem pwRun_on : ∀ (its : List Value) (old : Value), (old == Builtin.Itertools.itNothing) = false → (∀ u ∈ its, NZ u) → pwRun old its = (old :: its).zip its
  | [], old, _, _ => by
    unfold pwRun
    rfl
  | [x], old, h, _ => by
    unfold pwRun
    rw [h]
    rfl
  | x :: y :: r, old, h, z => by
    unfold pwRun
    rw [h]
    have := pwRun_on (y :: r) x (nz_nothing (z x List.mem_cons_self)) fun u hu => z u (List.mem_cons_of_mem _ hu)
    rw [if_neg Bool.false_ne_true, this]
    rfl
theorem pwRun_nz {its : List Value} (h : NzL 1 its) : pwRun Builtin.Itertools.itNothing its = nxt its := by
  match its, h with
  | [], _ => unfold pwRun; rfl
  | [x], _ =>
    unfold pwRun
    rw [if_pos (beq_self_eq_true _)]
    rfl
  | x :: y :: r, h =>
    unfold pwRun
    rw [if_pos (beq_self_eq_true _), pwRun_on r y (nz_nothing (h 1 y (Nat.le_refl _) rfl)) fun u hu => by
      obtain ⟨i, hi⟩ := List.mem_iff_getElem?.mp hu
      exact h (i + 2) u (by omega) (by simpa using hi)]
    rfl
theorem zip_rel : ∀ {xs ys : List V} {us ws : List Value}, Vals xs us → Vals ys ws → Paired PV (xs.zip ys) (us.zip ws)
  | _, _, _, _, .nil, _ => .nil
  | _, _, _, _, .cons _ _, .nil => .nil
  | _, _, _, _, .cons r t, .cons r' t' => .cons ⟨r, r'⟩ (zip_rel t t')
theorem nxt_rel {xs : List V} {us : List Value} (r : Vals xs us) : Paired PV (nxt xs) (nxt us) := by
  cases r with
  | nil => exact .nil
  | cons r t => exact zip_rel (.cons r t) t
theorem nxt_get {α : Type} {xs : List α} {j : Nat} {p : α × α} : (nxt xs)[j]? = some p ↔ xs[j]? = some p.1 ∧ xs[j + 1]? = some p.2 := by
  unfold nxt
  rw [List.getElem?_zip_eq_some, List.getElem?_tail]
theorem nxt_adj {xs : List V} : ∀ p ∈ nxt xs, Adjc xs p := fun p hp => by
  obtain ⟨j, hj⟩ := List.mem_iff_getElem?.mp hp
  exact ⟨j, nxt_get.mp hj⟩
theorem nxt_len {α : Type} {xs : List α} : (nxt xs).length = xs.length - 1 := by
  unfold nxt
  rw [List.length_zip, List.length_tail]
  omega
section
variable {K : PySem.W.Frag} {σ : L2.St} {H : Hp} {te : TE}
def iPwX (ta : TA) : TI := fun σ H R => ta σ H fun vs H1 => ∃ (a : Addr) (its : List Value) (n : Nat) (xs : List V), vs = [.ref a] ∧ H1 a = some (.frz (zob its n) (.lst xs)) ∧ Vals xs its ∧ NzL 1 its ∧ R (Itp a (zob its n) xs (nxt xs)) H1
theorem pi_pwX {X : Cx} {x : Str} {e : Expr} {ta : TA} {p pos tpos : Pos} {elts : List Expr} {kk : Nat} (hg : Gl X x) (hm : X.mg x = some (.type "itertools.pairwise")) (ha : PA X [e] ta) (hdb : (x == ("__debug__" : Str)) = false := by decide)
    (he : starEach [e] X.env = (false, eval e X.env) :: starEach [] X.env := by rfl) (hpl : (backTo pos (starEach [] X.env)).any (·.1) = false := by rfl) :
    PI X (.Tuple elts kk tpos) (.Call (.Name x p) [e] [] pos) (iPwX ta) := by
  refine ⟨fun pins s σ H R I h => ?_⟩
  refine wpAny_Call_Name_kw (ld_glob I hg hm ?_ hdb)
  refine PyProof.Rows.callWith_type1 (thn (ha.run pos pins s σ H _ I h) fun us s1 ⟨vs, H1, I1, r1, q1⟩ => ?_) he hpl
  obtain ⟨a, jts, jn, xs, rfl, hfa, rw', nz, q⟩ := q1
  cases r1 with
  | cons r rr =>
    cases rr
    cases r
    obtain ⟨hoa, hob⟩ := I1.hok a _ hfa
    obtain ⟨hz, its, n0, rv, hoa2⟩ := hob
    rw [hoa] at hoa2
    have ho := Option.some.inj hoa2
    have ej : jts = its := by
      injection ho with _ _ e1 _
      injection e1 with e2 _
      simpa using congrArg Array.toList e2
    subst ej
    have hal : a < s1.heap.objs.size := Heap.lt_size hoa
    have h1 : Paired PV (nxt xs) (pwRun Builtin.Itertools.itNothing jts) := by rw [pwRun_nz nz]; exact nxt_rel rv
    refine pw_call (us := jts.toArray) ⟨_, hoa, rfl, jn, rfl⟩ fun h' hz' hp' hI' hsz hk => pw_iter hz' ?_
    have I2 : Inv X pins σ H1 { s1 with heap := h' } := I1.kept (t' := s1.toks) hk
    refine ⟨s1.heap.objs.size + 2, [s1.heap.objs.size + 2, s1.heap.objs.size + 1, s1.heap.objs.size], _, _, H1, rfl, I2, turn_pw (a := a) (n0 := jn) (xs := xs) (its := jts) (pw_apart _ _ hal) rfl h1, ⟨Builtin.Itertools.itNothing, 0, hz', ⟨_, _, hp'⟩, hI', by simp⟩, fun c hcm => ?_, q⟩
    have hle : s1.heap.objs.size ≤ c := by
      have e' : c = s1.heap.objs.size + 2 ∨ c = s1.heap.objs.size + 1 ∨ c = s1.heap.objs.size := by simpa using hcm
      rcases e' with y | y | y
      · rw [y]; exact Nat.le_add_right _ _
      · rw [y]; exact Nat.le_add_right _ _
      · rw [y]; exact Nat.le_refl _
    exact I1.fpOk hle (I1.hok.fresh hle)
theorem el_cPwX {ta : TA} {a : Addr} {its : List Value} {n : Nat} {xs : List V} {vs : List Nat} {j1 j2 : Nat} (Rt : V × V → Tie → Prop) (h : EvA ta σ H [.ref a]) (ha : H a = some (.frz (zob its n) (.lst xs))) (rv : Vals xs its) (nz : NzL 1 its) (hz : xs.length ≤ 40000)
    (hg : ∀ x y, Adjc xs (x, y) → wipe (((wipe σ vs).set j1 (some x)).set j2 (some y)) vs = wipe σ vs ∧ EvR te (((wipe σ vs).set j1 (some x)).set j2 (some y)) H (fun _ v H2 => ∃ r, Rt (x, y) r ∧ TieV K H2 v r)) :
    EvLR (tLc (iPwX ta) (gTup K 2 (gCons (gName j1) (gCons (gName j2) gNil))) tYes te vs) σ H (fun D ys H2 => ∃ us : List Tie, us.length = (nxt xs).length ∧ (∀ (j : Nat) (p : V × V) (r : Tie), (nxt xs)[j]? = some p → us[j]? = some r → Rt p r) ∧ TiesV K H2 ys us) := by
  intro H0 e Q q
  refine h H0 e _ fun H1 e1 => ⟨a, its, n, xs, rfl, e1 _ _ (e _ _ ha), rv, nz, ?_⟩
  intro Dl hD
  have v3 : (nxt xs).length ≤ xs.length := by unfold nxt; rw [List.length_zip]; exact Nat.min_le_left _ _
  have v1 := nxt_adj (xs := xs)
  generalize nxt xs = vps at v1 v3 q ⊢
  have eB : Ex H H1 := e.trans e1
  refine lc_it (walk_pw (a := a) (o := zob its n) (xs := xs) (vps := vps)) (fun i H' => i ≤ vps.length ∧ Ex H1 H' ∧ ∃ (ys : List V) (us : List Tie), H' Dl = some (.lst ys) ∧ TiesV K H' ys us ∧ us.length = i ∧ ys.length ≤ 50000 ∧ ∀ (j : Nat) (p : V × V) (r : Tie), vps[j]? = some p → us[j]? = some r → Rt p r) ?_ ?_ ?_ ?_
  · exact ⟨Nat.zero_le _, Ex.new hD, [], [], upd_same, .nil, rfl, by decide, fun j p r _ h => by simp at h⟩
  · rintro i H' _ ⟨_, e', _⟩
    exact e' _ _ (eB _ _ ha)
  · rintro i v H' H2 hi ⟨_, e', ys, us, hys, tz, hul, hyl, hr⟩ ⟨T, p, rfl, hT, rfl, hp⟩
    have hadj := v1 p (List.mem_of_getElem? hp)
    obtain ⟨w1, w2⟩ := hg p.1 p.2 hadj
    refine ⟨T, _, rfl, st_of upd_same, rfl, _, _, rfl, _, _, rfl, rfl, w1, ?_⟩
    have eT : Ex H' (upd H' T (.tup [p.1, p.2])) := Ex.new hT
    refine yes_go ?_
    refine w2 _ ((eB.trans e').trans eT) _ fun v H4 e4 ⟨r, hrr, tv⟩ => ?_
    have hys4 := e4 _ _ (eT _ _ hys)
    refine ⟨ys, hys4, ?_, hi, Ex.mut ((e'.trans eT).trans e4) hD, ys ++ [v], us ++ [r], upd_same, (((tz.ex eT).ex e4).snoc tv).updL hys4, by rw [List.length_append, hul]; rfl, ?_, fun j p' r' h1 h2 => ?_⟩
    · rw [tz.len, hul]
      exact sz_lt (by omega)
    · rw [List.length_append, tz.len, hul]
      show i + 1 ≤ 50000
      omega
    · by_cases hj : j < us.length
      · rw [List.getElem?_append_left hj] at h2
        exact hr j p' r' h1 h2
      · rw [List.getElem?_append_right (by omega)] at h2
        have e0 : j - us.length = 0 := by
          have := (List.getElem?_eq_some_iff.mp h2).1
          simp at this
          omega
        rw [e0] at h2
        obtain rfl := Option.some.inj h2
        have ej : j = i := by omega
        rw [ej, hp] at h1
        obtain rfl := Option.some.inj h1
        exact hrr
  · rintro H' ⟨_, e', ys, us, hys, tz, hul, _, hr⟩
    exact q Dl ys H' (fresh_back e1 hD) (e1.trans e') hys ⟨us, hul, hr, tz⟩
end
end G

namespace G
open PySem PySem.Spec PyProof.Rows L2 LamX Evl RZ
/-! ### the count of values made: once one was made, it is 1 or more -/
section
variable {X : Cx} {CX : CXT} {e : Expr} {es : List Expr} {te ta : TE} {t : TA} {ts us : TS} {pos p : Pos} {k : Nat} {f : Addr} {fd : FuncData} {ps : List Str} {sp : Sp} {dvs : List V} {ds : List Value} {E : XK} {x : Str} {st : Stmt} {rest : List Stmt}
/-- an expression that makes a value -/
structure PKt (X : Cx) (e : Expr) (te : TE) : Prop where
  run : ∀ (pins : List (Addr × Obj)) (s : Shared) (σ : L2.St) (H : Hp) (Q : VK), Inv X pins σ H s → te σ H Q → wpAny (model X.prog X.w) X.A (eval e X.env) (fun u s' => 1 ≤ s'.toks ∧ EP X pins σ Q u s') X.xe s
structure PAt (X : Cx) (es : List Expr) (t : TA) : Prop where
  run : ∀ (pos : Pos) (pins : List (Addr × Obj)) (s : Shared) (σ : L2.St) (H : Hp) (Q : List V → Hp → Prop), Inv X pins σ H s → t σ H Q → wpAny (model X.prog X.w) X.A (spliced (backTo pos (starEach es X.env))) (fun us s' => 1 ≤ s'.toks ∧ AP X pins σ Q us s') X.xe s
structure PSt (X : Cx) (st : Stmt) (t : TS) : Prop where
  run : ∀ (pins : List (Addr × Obj)) (s : Shared) (σ : L2.St) (H : Hp) (D : Ends), Inv X pins σ H s → t D σ H → wpAny (model X.prog X.w) X.A (exec st X.env) (fun fl s' => 1 ≤ s'.toks ∧ SP X pins D fl s') X.xe s
/-- where a value was made before -/
structure PKp (X : Cx) (e : Expr) (te : TE) : Prop where
  run : ∀ (pins : List (Addr × Obj)) (s : Shared) (σ : L2.St) (H : Hp) (Q : VK), Inv X pins σ H s → 1 ≤ s.toks → te σ H Q → wpAny (model X.prog X.w) X.A (eval e X.env) (EP X pins σ Q) X.xe s
structure PSp (X : Cx) (st : Stmt) (t : TS) : Prop where
  run : ∀ (pins : List (Addr × Obj)) (s : Shared) (σ : L2.St) (H : Hp) (D : Ends), Inv X pins σ H s → 1 ≤ s.toks → t D σ H → wpAny (model X.prog X.w) X.A (exec st X.env) (SP X pins D) X.xe s
structure PSsp (X : Cx) (st : List Stmt) (t : TS) : Prop where
  run : ∀ (pins : List (Addr × Obj)) (s : Shared) (σ : L2.St) (H : Hp) (D : Ends), Inv X pins σ H s → 1 ≤ s.toks → t D σ H → wpAny (model X.prog X.w) X.A (execs st X.env) (SP X pins D) X.xe s
theorem on_toks {α : Type} {M : Model} {A : Around} {t : Sem α} {Q : α → Shared → Prop} {E : Value → Shared → Prop} {s : Shared} (hn : 1 ≤ s.toks) (h : wpAny M A t Q E s) : wpAny M A t (fun a s' => 1 ≤ s'.toks ∧ Q a s') E s :=
  wpAny_mono (wpAny_toks_of hn h) (fun _ _ z => z) fun _ _ z => z.2
theorem getAttr_toks {M : Model} {A : Around} {o : Value} {name : Str} {b : Bool} {Q : Value → Shared → Prop} {E : Value → Shared → Prop} {s : Shared} (h : wpAny M A (getAttr o name b) Q E s) : wpAny M A (getAttr o name b) (fun a s' => 1 ≤ s'.toks ∧ Q a s') E s := fun Γ p hΓ => by
  have h1 := h Γ p hΓ
  unfold getAttr mkText at h1 ⊢
  rw [Sem.wp_bind', Sem.wp_bind'] at h1 ⊢
  have h2 : Sem.wp M Γ (getAttrBy o (.str name s.toks) true b) (fun a _ s' => Q a s') (fun e _ s' => E e s') p { s with toks := s.toks + 1 } := h1
  show Sem.wp M Γ (getAttrBy o (.str name s.toks) true b) (fun a _ s' => 1 ≤ s'.toks ∧ Q a s') (fun e _ s' => E e s') p { s with toks := s.toks + 1 }
  exact Sem.wp_mono M Γ _ (fun _ _ _ z => z) (fun _ _ _ z => z.2) _ _ (Sem.wp_toks M Γ 1 _ _ _ _ _ (Nat.le_add_left 1 s.toks) h2)
theorem pk_fld {fn : Str} (he : PE X e ta) (hb : attributeBase e fn X.env (eval e X.env) = eval e X.env) : PKt X (.Attribute e fn pos) (tFld X.K ta fn) := by
  refine ⟨fun pins s σ H Q I h => attr_of hb (thn (he.run pins s σ H _ I h) fun u s1 ⟨x, H1, I1, rx, a, C, dx, fs, v, ex, ea, c, n, l, q⟩ => ?_)⟩
  subst ex
  obtain rfl : u = Value.ref a := rx
  exact getAttr_toks (getattr_ok I1 ea c n l fun u' s2 I2 ru => ⟨v, H1, I2, ru, q⟩)
theorem pat_cons (ha : PKt X e te) (hr : PA X es t) (hs : starEach (e :: es) X.env = (false, eval e X.env) :: starEach es X.env := by rfl) : PAt X (e :: es) (tCons te t) := by
  refine ⟨fun pos pins s σ H Q I h => ?_⟩
  rw [hs]
  show wpAny _ _ (spliced ((false, eval e X.env) :: backTo pos (starEach es X.env))) _ _ s
  exact Calls.spliced_cons (thn (ha.run pins s σ H _ I h) fun u s1 ⟨hk, x, H1, I1, r1, q1⟩ => thn (on_toks hk (hr.run pos pins s1 σ H1 _ I1 q1)) fun us s2 ⟨hk2, xs, H2, I2, r2, q2⟩ => ⟨hk2, x :: xs, H2, I2, .cons r1 r2, q2⟩)
theorem pk_call (F : FnOk X.prog X.w X.K X.mg X.base CX k f fd ps sp) (hr : Room k X.A) (hg : Gl X x) (hm : X.mg x = some (.ref f)) (hk : PySem.W.keepIn X.K (.ref f) = true) (hb : Binds X.K fd ps ds) (hd : Vals dvs ds) (hx : Passes CX X E)
    (ha : PAt X (e :: es) t) (hdb : (x == ("__debug__" : Str)) = false := by decide) (he : starEach (e :: es) X.env = (false, eval e X.env) :: starEach es X.env := by rfl) (hpl : (backTo pos (starEach es X.env)).any (·.1) = false := by rfl) :
    PKt X (.Call (.Name x p) (e :: es) [] pos) (tCall sp dvs E t) := by
  refine ⟨fun pins s σ H Q I h => wpAny_Call_Name_kw (ld_glob I hg hm ?_ hdb)⟩
  exact PySem.W.callWith_K (h₀ := X.base) I.ok.mod.kin hk (thn (ha.run pos pins s σ H _ I h) fun us s1 ⟨hk1, vs, H1, I1, r, q⟩ => ⟨I1.kIn, on_toks hk1 (run_fn F hr hb hd hx I1 r q)⟩) he hpl
theorem pst_expr (he : PKt X e te) (hs : swapsWith e none pos.line X.env = pure false := by rfl) : PSt X (.Expr e pos) (tDrop te) :=
  ⟨fun pins s σ H D I h => wpAny_Expr_any (thn (he.run pins s σ H _ I h) fun v s1 ⟨hk, x, H1, I1, r1, q1⟩ => ⟨hk, σ, H1, I1, q1⟩) I.quiet hs⟩
theorem pss_consT (h1 : PSt X st ts) (h2 : PSsp X rest us) : PSs X (st :: rest) (tSeq ts us) := by
  refine ⟨fun pins s σ H D I h => wpAny_execs_cons (thn (h1.run pins s σ H { D with nx := us D } I h) fun fl s1 ⟨hk, q⟩ => ?_)⟩
  cases fl with
  | next =>
    obtain ⟨σ', H', I', q⟩ := q
    exact h2.run pins s1 σ' H' D I' hk q
  | _ => exact q
theorem pssp_cons (h1 : PSp X st ts) (h2 : PSs X rest us) : PSsp X (st :: rest) (tSeq ts us) := by
  refine ⟨fun pins s σ H D I hk h => wpAny_execs_cons (thn (h1.run pins s σ H { D with nx := us D } I hk h) fun fl s1 q => ?_)⟩
  cases fl with
  | next =>
    obtain ⟨σ', H', I', q⟩ := q
    exact h2.run pins s1 σ' H' D I' q
  | _ => exact q
theorem psp_set {i : Nat} {pos' : Pos} (hN : X.N.Nodup) (hi : X.N[i]? = some x) (hx : Loc X.env.scope x) (he : PKp X e te) (hs : swapsWith e (some (.Name x pos')) pos.line X.env = pure false := by rfl) (hf : X.fn x = true ∨ X.env.scope.names.lookup x = some .local := by first | exact .inl rfl | exact .inr rfl | assumption) :
    PSp X (.Assign [.Name x pos'] e pos) (tAsg te (gName i)) :=
  ⟨fun pins s σ H D I hk h => wpAny_Assign_Name (thn (he.run pins s σ H _ I hk h) fun v s1 ⟨y, H1, I1, r1, q1⟩ => store_ok I1 hN hi hx r1 (fun s2 I2 => ⟨_, H1, I2, q1⟩) hf) hs⟩
/-- a def, where a value was made before -/
structure FnT (P : Program) (w : World) (K : PySem.W.Frag) (mg : Str → Option Value) (base : Heap) (CX : CXT) (k : Nat) (f : Addr) (fd : FuncData) (ps : List Str) (sp : Sp) : Prop where
  len : ∀ vs H Q E, sp vs H Q E → vs.length = ps.length
  run : ∀ (A : Around) (outer : List Env) (s : Shared) (H : Hp) (args : Args) (us : List Value) (vs : List V) (Q : VK) (E : XK), Room k A → Env0 P w K mg base A outer s H → 1 ≤ s.toks → BindsTo s fd args (ps.zip us) → Vals vs us → sp vs H Q E →
    codeAny (model P w) A (.call (.ref f) args) (CR CX outer P w H s Q E) s
theorem pkp_call (F : FnT X.prog X.w X.K X.mg X.base CX k f fd ps sp) (hr : Room k X.A) (hg : Gl X x) (hm : X.mg x = some (.ref f)) (hk : PySem.W.keepIn X.K (.ref f) = true) (hb : Binds X.K fd ps []) (hx : Passes CX X E)
    (ha : PA X (e :: es) t) (hdb : (x == ("__debug__" : Str)) = false := by decide) (he : starEach (e :: es) X.env = (false, eval e X.env) :: starEach es X.env := by rfl) (hpl : (backTo pos (starEach es X.env)).any (·.1) = false := by rfl) :
    PKp X (.Call (.Name x p) (e :: es) [] pos) (tCall sp [] E t) := by
  refine ⟨fun pins s σ H Q I ht h => wpAny_Call_Name_kw (ld_glob I hg hm ?_ hdb)⟩
  refine PySem.W.callWith_K (h₀ := X.base) I.ok.mod.kin hk (thn (on_toks ht (ha.run pos pins s σ H _ I h)) fun us s1 ⟨ht1, vs, H1, I1, r, q⟩ => ⟨I1.kIn, ?_⟩) he hpl
  replace q : sp (vs ++ []) H1 Q E := q
  rw [List.append_nil] at q
  show wpAny _ _ (call (.ref f) us) _ _ _
  have hl : (us ++ []).length = ps.length := by rw [List.append_nil, ← r.length]; exact F.len _ _ _ _ q
  have hbt := hb s1 us I1.kIn hl
  rw [List.append_nil] at hbt
  refine wpAny_call (codeAny_mono (F.run X.A X.stack s1 H1 ⟨us, []⟩ us vs Q E hr I1.env0 ht1 hbt r q) fun res s' hq => ?_)
  cases res with
  | error ex => exact hx pins σ H1 s1 ex s' I1 hq
  | ok fl =>
    cases fl with
    | ret u => exact I1.after hq
    | _ => exact False.elim hq
/-! ### [0] * n -/
def tZeros (te : TE) : TE := fun σ H Q => ∃ n : Nat, n ≤ 1000 ∧ (∀ l, H l = none → te σ (upd H l (lz 0 l [.int 0])) fun v H1 => v = .int (n : Int) ∧ H1 l = some (lz 0 l [.int 0]) ∧ ∀ p, H1 p = none → Q (.ref p) (upd H1 p (lz 0 p (List.replicate n (.int 0)))))
def rRepZ : R2 := fun x y H Q => ∃ (l : Addr) (v : V) (n : Nat), x = .ref l ∧ y = .int (n : Int) ∧ H l = some (lz 0 l [v]) ∧ n ≤ 1000 ∧ ∀ p, H p = none → Q (.ref p) (upd H p (lz 0 p (List.replicate n v)))
theorem rep_flat {α : Type} (w : α) : ∀ n : Nat, (List.replicate n [w]).flatten = List.replicate n w
  | 0 => rfl
  | n + 1 => by rw [List.replicate_succ, List.flatten_cons, List.replicate_succ, rep_flat w n]; rfl
theorem op_repZ : OpR X (binaryOp .Mult) rRepZ := by
  intro pins s σ H x y v u Q I rx ry h
  obtain ⟨l, z, n, rfl, ey, hH, hn, q⟩ := h
  obtain ⟨kk, hk⟩ : ∃ kk : Int, (n : Int) = kk := ⟨_, rfl⟩
  rw [hk] at ey
  subst ey
  have hkn : kk.toNat = n := by omega
  cases rx
  obtain ⟨tk, rfl⟩ := ry
  obtain ⟨hz, its, m, r, nzl, g⟩ := inv_lz I hH
  obtain ⟨w, ew, rw'⟩ := Vals.one r
  have nzw : NZ w := nzl 0 w (Nat.le_refl _) (by rw [ew]; rfl)
  have h63 : kk < 2 ^ 63 := by omega
  have hL : ¬ (!Builtin.List.listFitsIndex kk) = true := by
    rw [fitsIndex_both (by omega) h63]
    exact Bool.false_ne_true
  have c1 : ¬ its.toArray.size * kk.toNat > (2 ^ 63 - 1) / 8 := by
    rw [ew]
    show ¬ 1 * kk.toNat > (2 ^ 63 - 1) / 8
    omega
  have c2 : ¬ Builtin.List.listTooLong (its.toArray.size * kk.toNat) = true := by
    rw [ew, notLongL (Nat.le_trans (m := 1000) (by show 1 * kk.toNat ≤ 1000; rw [hkn, Nat.one_mul]; exact hn) (by decide))]
    exact Bool.false_ne_true
  have e0 := rep_flat w n
  have c3 : List.foldl (fun x1 x2 => x1 ++ x2) #[] (List.replicate (if its.toArray.isEmpty = true then 0 else kk.toNat) its.toArray) = (List.replicate n w).toArray := by
    rw [ew]
    have := foldl_rep [w] n []
    rw [List.nil_append, e0] at this
    rw [if_neg (by simp), hkn]
    exact this
  refine wpAny_binaryOp_repeat_ref (T := "list") (U := "int") (by decide) ⟨_, g, rfl⟩ (fun s' => typeIs_int s' _ tk) noFill_list_mul PySem.F.fills_int_mul PySem.F.slot_int_rmul repeat_list PySem.F.slot_int_index.lookup
    (call_meets PySem.F.slot_int_rmul (typeIs_int s kk tk) PySem.F.entry_int_rmul (PySem.F.args_int_rmul_2 _ _) (int___rmul___int_list kk tk l its.toArray m) ⟨g, rfl, ⟨_, g, rfl⟩, call_meets PySem.F.slot_list_mul ⟨_, g, rfl⟩ PySem.F.entry_list_mul (PySem.F.args_list_mul_2 _ _) (AutoListH.list___mul___list_int_3 l its.toArray m kk tk hL c1 c2) ⟨g, ?_⟩⟩)
  rw [c3]
  refine ⟨.ref s.heap.objs.size, _, inv_lznew (k := 0) (its := List.replicate n w) (ys := List.replicate n z) (t' := s.toks) I ?_ (fun i a _ e => ?_) (by rw [List.length_replicate]; exact Nat.le_trans hn (by decide)), rfl, q _ I.fresh⟩
  · clear q h63 hL c1 c2 e0 c3 hn hk hkn
    induction n with
    | zero => exact .nil
    | succ n ih => exact .cons rw' ih
  · rw [List.getElem?_replicate] at e
    split at e
    · cases e
      exact nzw
    · cases e
theorem pkp_zeros {p0 p1 : Pos} {b : Expr} {kc} (hb : PE X b te) (hs : starEach [.Constant (.int 0) kc p0] X.env = (false, eval (.Constant (.int 0) kc p0) X.env) :: starEach [] X.env := by rfl) : PKp X (.BinOp (.List [.Constant (.int 0) kc p0] p1) .Mult b pos) (tZeros te) := by
  refine ⟨fun pins s σ H Q I ht h => wpAny_BinOp (wpAny_List_spliced ?_)⟩
  obtain ⟨n, hn, h⟩ := h
  rw [hs]
  show wpAny _ _ (spliced ((false, eval (.Constant (.int 0) kc p0) X.env) :: backTo p1 (starEach [] X.env))) _ _ s
  refine Calls.spliced_cons (wpAny_Constant_int (Calls.spliced_nil ⟨by show 1 ≤ sizeLine; decide, ?_⟩))
  have I1 := inv_lznew (k := 0) (its := [.int 0 s.toks]) (ys := [V.int 0]) (t' := s.toks + 1) I (.cons ⟨_, rfl⟩ .nil) (fun i w hi e => by
    rcases i with _ | i
    · have e2 : Value.int 0 s.toks = w := Option.some.inj e
      subst e2
      intro t et
      injection et with _ e3
      exact fun z => absurd (e3.trans z) (Nat.ne_of_gt ht)
    · simp at e) (by show 1 ≤ sizeLine; decide)
  exact thn (hb.run pins _ σ _ _ I1 (h _ I.fresh)) fun u s2 ⟨v, H1, I2, r, e1, e2, q⟩ => op_repZ pins s2 σ H1 (.ref s.heap.objs.size) v (.ref s.heap.objs.size) u Q I2 rfl r ⟨_, _, n, rfl, e1, e2, hn, q⟩
end
section
theorem fnT_of {CX : CXT} {P : Program} {w : World} {K : PySem.W.Frag} {mg : Str → Option Value} {base : Heap} {k : Nat} {f : Addr} {name qual : Str} {params : Arguments} {body : List Stmt} {scope : Scope} {dV kV doc pm cdv ct oc : Value} {an od : Option Addr} {osl : Array (Option Value)} {N ps : List Str} {sp : Sp}
    (lk : K.lookup f = some ⟨oc, od, .func (PySem.W.fnOf name qual params body scope dV kV doc pm an cdv ct), osl⟩) (hcd : PySem.W.codeIn K cdv qual = true) (S : FnScope N ps scope) (len : ∀ vs H Q E, sp vs H Q E → vs.length = ps.length)
    (hbody : ∀ (A : Around) (outer : List Env) (s : Shared) (H : Hp) (vs : List V) (Q : VK) (E : XK), Room k (A.deeper (envOfC qual scope s.heap.objs.size f cdv)) → sp vs H Q E → ∃ t, PSsp (cxOf CX P w K mg base N qual scope f cdv A outer s H E) body t ∧ t { nx := fun _ H' => Q .non H', rt := Q } (start N vs) H) :
    FnT P w K mg base CX (k + 1) f (PySem.W.fnOf name qual params body scope dV kV doc pm an cdv ct) ps sp := by
  refine ⟨len, fun A outer s H args us vs Q E hr e0 ht hb r hsp => ?_⟩
  have hl := len _ _ _ _ hsp
  have KX : K.In s.heap := e0.mod.kin.keeps fun b o e => (e0.bs b o e).1
  have lim : s.heap.NoLimit := e0.mod.nolimit.keeps fun b o e => (e0.bs b o e).1
  refine codeAny_call_function hr.depth (KX _ _ lk) rfl S.co S.gen rfl (PySem.W.codeRec_of KX hcd) (hb _ _ _ _ (thn (on_toks ht (wpAny_newFunctionEnv_cells (Q := fun env s1 => env = newEnv scope s.heap.objs.size mainGlobals (cellsFrom (s.heap.objs.size + 1) scope.names []) (qual ++ ".<locals>.") (some f) cdv none builtinsNs ∧ InCallC s env.locals (bindL env.kindOf (ps.zip us) fun _ => none) env.cells (bindC env.kindOf (ps.zip us) fun _ => none) s1) S.kind (fun y hy => ?_) fun env he s1 x => ⟨he, x⟩)) fun env s1 ⟨ht1, he, x⟩ => ?_))
  · rcases S.par y.1 (List.of_mem_zip (a := y.1) (b := y.2) hy).1 with q | q
    · exact .inl q
    · exact .inr ⟨q, PySem.W.cellsFrom_some _ _ _ (.inl q)⟩
  subst he
  refine ⟨lim.keeps x.toInCall.keep, codeAny_func ?_⟩
  obtain ⟨t, h1, hq⟩ := hbody A outer s H vs Q E (hr.deeper _) hsp
  have I : Inv (cxOf CX P w K mg base N qual scope f cdv A outer s H E) [] (start N vs) H s1 := inv_start S hr.hd e0 hl r x
  refine wpAny_mono (h1.run [] s1 (start N vs) H _ I ht1 hq) (fun fl s' hs => ?_) fun e s' hs => hs
  cases fl with
  | ret u =>
    obtain ⟨v, σ', H', J, rv, q⟩ := hs
    exact ⟨v, H', J.os, J.bare, J.base, J.hok, rv, q⟩
  | next =>
    obtain ⟨σ', H', J, q⟩ := hs
    exact ⟨.non, H', J.os, J.bare, J.base, J.hok, rfl, q⟩
  | brk =>
    obtain ⟨_, _, _, q⟩ := hs
    exact False.elim q
  | cont =>
    obtain ⟨_, _, _, q⟩ := hs
    exact False.elim q
end
end G

namespace Toy
open PySem L2 Evl RZ G
def top (i : Nat) : Stmt := PySem.Challenge.pw_onewalls_k09_whole_any_two_places.main.body.getD i (.Pass ⟨0, 0, 0, 0⟩)
abbrev s_is_whole : Stmt := top 12
abbrev s_is_place : Stmt := top 13
abbrev s_is_tie : Stmt := top 14
abbrev s_check_net : Stmt := top 15
abbrev s_check_place : Stmt := top 16
abbrev s_check_two : Stmt := top 17
abbrev s_check_side : Stmt := top 18
abbrev s_costs_between : Stmt := top 19
abbrev s_Net_init : Stmt := inClass (top 20) 0
abbrev s_Net_ties : Stmt := inClass (top 20) 1
abbrev s_Net_between : Stmt := inClass (top 20) 2
abbrev s_Net_price : Stmt := inClass (top 20) 4
abbrev s_places_ahead : Stmt := top 22
abbrev s_shortest_way : Stmt := top 23
abbrev s_run_along : Stmt := top 24
abbrev s_left_by_flow : Stmt := top 25
abbrev s_flow : Stmt := top 26
abbrev s_wall : Stmt := top 27
abbrev s_take_over : Stmt := top 29
abbrev s_put_between : Stmt := top 30
abbrev s_tree : Stmt := top 31
abbrev s_way_up : Stmt := top 32
abbrev s_places_below : Stmt := top 33
abbrev s_way_between : Stmt := top 34
abbrev s_bough_between : Stmt := top 35
abbrev s_walls : Stmt := top 36
abbrev s_cheapest : Stmt := top 37
abbrev s__law_cell_at : Stmt := top 39
abbrev s__law_whole : Stmt := top 40
abbrev s__law_many : Stmt := top 41
abbrev s__law_tie : Stmt := top 42
abbrev s__law_ties : Stmt := top 43
abbrev s__law_price : Stmt := top 44
abbrev s__law_led : Stmt := top 45
abbrev s__law_pair_right : Stmt := top 46
abbrev s_law : Stmt := top 47
theorem sc_is_whole : FnScope ["number", "low", "high"] ["number", "low", "high"] (defScope s_is_whole) := ⟨rfl, rfl, rfl, by decide +kernel, rfl, by decide +kernel, by decide +kernel⟩
theorem sc_is_place : FnScope ["many", "place"] ["many", "place"] (defScope s_is_place) := ⟨rfl, rfl, rfl, by decide +kernel, rfl, by decide +kernel, by decide +kernel⟩
theorem sc_is_tie : FnScope ["many", "tie", "one", "other", "cost"] ["many", "tie"] (defScope s_is_tie) := ⟨rfl, rfl, rfl, by decide +kernel, rfl, by decide +kernel, by decide +kernel⟩
theorem sc_check_net : FnScope ["many", "ties", "tie"] ["many", "ties"] (defScope s_check_net) := ⟨rfl, rfl, rfl, by decide +kernel, rfl, by decide +kernel, by decide +kernel⟩
theorem sc_check_place : FnScope ["many", "place"] ["many", "place"] (defScope s_check_place) := ⟨rfl, rfl, rfl, by decide +kernel, rfl, by decide +kernel, by decide +kernel⟩
theorem sc_check_two : FnScope ["many", "one", "other"] ["many", "one", "other"] (defScope s_check_two) := ⟨rfl, rfl, rfl, by decide +kernel, rfl, by decide +kernel, by decide +kernel⟩
theorem sc_check_side : FnScope ["many", "side", "place"] ["many", "side"] (defScope s_check_side) := ⟨rfl, rfl, rfl, by decide +kernel, rfl, by decide +kernel, by decide +kernel⟩
theorem sc_costs_between : FnScope ["many", "ties", "costs", "place", "one", "other", "cost"] ["many", "ties"] (defScope s_costs_between) := ⟨rfl, rfl, rfl, by decide +kernel, rfl, by decide +kernel, by decide +kernel⟩
theorem sc_Net_init : FnScope ["self", "many", "ties"] ["self", "many", "ties"] (defScope s_Net_init) := ⟨rfl, rfl, rfl, by decide +kernel, rfl, by decide +kernel, by decide +kernel⟩
theorem sc_Net_ties : FnScope ["self"] ["self"] (defScope s_Net_ties) := ⟨rfl, rfl, rfl, by decide +kernel, rfl, by decide +kernel, by decide +kernel⟩
theorem sc_Net_between : FnScope ["self", "one", "other"] ["self", "one", "other"] (defScope s_Net_between) := ⟨rfl, rfl, rfl, by decide +kernel, rfl, by decide +kernel, by decide +kernel⟩
theorem sc_Net_price : FnScope ["self", "side", "total", "one", "other", "cost"] ["self", "side"] (defScope s_Net_price) := ⟨rfl, rfl, rfl, by decide +kernel, rfl, by decide +kernel, by decide +kernel⟩
theorem sc_places_ahead : FnScope ["left", "one", "other", "ahead", "waiting", "place", "further", "amount"] ["left", "one", "other"] (defScope s_places_ahead) := ⟨rfl, rfl, rfl, by decide +kernel, rfl, by decide +kernel, by decide +kernel⟩
theorem sc_shortest_way : FnScope ["left", "one", "other", "ahead", "pairs", "place"] ["left", "one", "other"] (defScope s_shortest_way) := ⟨rfl, rfl, rfl, by decide +kernel, rfl, by decide +kernel, by decide +kernel⟩
theorem sc_run_along : FnScope ["left", "pairs", "amount", "here", "there"] ["left", "pairs"] (defScope s_run_along) := ⟨rfl, rfl, rfl, by decide +kernel, rfl, by decide +kernel, by decide +kernel⟩
theorem sc_left_by_flow : FnScope ["net", "one", "other", "left", "pairs"] ["net", "one", "other"] (defScope s_left_by_flow) := ⟨rfl, rfl, rfl, by decide +kernel, rfl, by decide +kernel, by decide +kernel⟩
theorem sc_flow : FnScope ["net", "one", "other", "costs", "left", "rows", "here", "there", "amount"] ["net", "one", "other"] (defScope s_flow) := ⟨rfl, rfl, rfl, by decide +kernel, rfl, by decide +kernel, by decide +kernel⟩
theorem sc_wall : FnScope ["net", "one", "other", "left"] ["net", "one", "other"] (defScope s_wall) := ⟨rfl, rfl, rfl, by decide +kernel, rfl, by decide +kernel, by decide +kernel⟩
theorem sc_take_over : FnScope ["uppers", "place", "upper", "side", "low"] ["uppers", "place", "upper", "side"] (defScope s_take_over) := ⟨rfl, rfl, rfl, by decide +kernel, rfl, by decide +kernel, by decide +kernel⟩
theorem sc_put_between : FnScope ["uppers", "prices", "place", "upper"] ["uppers", "prices", "place", "upper"] (defScope s_put_between) := ⟨rfl, rfl, rfl, by decide +kernel, rfl, by decide +kernel, by decide +kernel⟩
theorem sc_tree : FnScope ["net", "uppers", "prices", "place", "upper", "side"] ["net"] (defScope s_tree) := ⟨rfl, rfl, rfl, by decide +kernel, rfl, by decide +kernel, by decide +kernel⟩
theorem sc_way_up : FnScope ["boughs", "place", "way"] ["boughs", "place"] (defScope s_way_up) := ⟨rfl, rfl, rfl, by decide +kernel, rfl, by decide +kernel, by decide +kernel⟩
theorem sc_places_below : FnScope ["boughs", "place", "low"] ["boughs", "place"] (defScope s_places_below) := ⟨rfl, rfl, rfl, by decide +kernel, rfl, by decide +kernel, by decide +kernel⟩
theorem sc_way_between : FnScope ["boughs", "one", "other", "up", "down"] ["boughs", "one", "other"] (defScope s_way_between) := ⟨rfl, rfl, rfl, by decide +kernel, rfl, by decide +kernel, by decide +kernel⟩
theorem sc_bough_between : FnScope ["boughs", "one", "other"] ["boughs", "one", "other"] (defScope s_bough_between) := ⟨rfl, rfl, rfl, by decide +kernel, rfl, by decide +kernel, by decide +kernel⟩
theorem sc_walls : FnScope ["net", "boughs", "place"] ["net"] (defScope s_walls) := ⟨rfl, rfl, rfl, by decide +kernel, rfl, by decide +kernel, by decide +kernel⟩
theorem sc_cheapest : FnScope ["net", "one", "other", "boughs", "way", "on_way", "here", "there", "place", "_", "price", "low", "outer"] ["net", "one", "other"] (defScope s_cheapest) := ⟨rfl, rfl, rfl, by decide +kernel, rfl, by decide +kernel, by decide +kernel⟩
theorem sc__law_cell_at : FnScope ["_law_script", "_law_k"] ["_law_script", "_law_k"] (defScope s__law_cell_at) := ⟨rfl, rfl, rfl, by decide +kernel, rfl, by decide +kernel, by decide +kernel⟩
theorem sc__law_whole : FnScope ["_law_found"] ["_law_found"] (defScope s__law_whole) := ⟨rfl, rfl, rfl, by decide +kernel, rfl, by decide +kernel, by decide +kernel⟩
theorem sc__law_many : FnScope ["_law_script", "_law_first"] ["_law_script"] (defScope s__law_many) := ⟨rfl, rfl, rfl, by decide +kernel, rfl, by decide +kernel, by decide +kernel⟩
theorem sc__law_tie : FnScope ["_law_cell", "_law_many_here", "_law_top", "_law_one", "_law_other"] ["_law_cell", "_law_many_here", "_law_top"] (defScope s__law_tie) := ⟨rfl, rfl, rfl, by decide +kernel, rfl, by decide +kernel, by decide +kernel⟩
theorem sc__law_ties : FnScope ["_law_script", "_law_many_here", "_law_top", "_law_ties_here", "_law_cell", "_law_one"] ["_law_script", "_law_many_here"] (defScope s__law_ties) := ⟨rfl, rfl, rfl, by decide +kernel, rfl, by decide +kernel, by decide +kernel⟩
theorem sc__law_price : FnScope ["_law_ties_here", "_law_side", "_law_tie_here"] ["_law_ties_here", "_law_side"] (defScope s__law_price) := ⟨rfl, rfl, rfl, by decide +kernel, rfl, by decide +kernel, by decide +kernel⟩
theorem sc__law_led : FnScope ["_law_rows", "_law_ties_here", "_law_many_here", "_law_one", "_law_other", "_law_gone", "_law_place", "_law_seen", "_law_row", "_law_pair", "_law_room", "_law_tie_here"] ["_law_rows", "_law_ties_here", "_law_many_here", "_law_one", "_law_other"] (defScope s__law_led) := ⟨rfl, rfl, rfl, by decide +kernel, rfl, by decide +kernel, by decide +kernel⟩
theorem sc__law_pair_right : FnScope ["_law_net", "_law_ties_here", "_law_sides", "_law_one", "_law_other", "_law_found", "_law_parting", "_law_side"] ["_law_net", "_law_ties_here", "_law_sides", "_law_one", "_law_other"] (defScope s__law_pair_right) := ⟨rfl, rfl, rfl, by decide +kernel, rfl, by decide +kernel, by decide +kernel⟩
theorem sc_law : FnScope ["_law_script", "_law_many_here", "_law_ties_here", "_law_net", "_law_sides", "_law_number", "_law_turn", "_law_one", "_law_other"] ["_law_script"] (defScope s_law) := ⟨rfl, rfl, rfl, by decide +kernel, rfl, by decide +kernel, by decide +kernel⟩
structure Wd (K : PySem.W.Frag) (mg : Str → Option Value) where
  f_is_whole : Addr
  d_is_whole : FuncData
  F_is_whole : Fun K "is_whole" "is_whole" s_is_whole f_is_whole d_is_whole
  b_is_whole : Binds K d_is_whole ["number", "low", "high"] []
  m_is_whole : mg "is_whole" = some (.ref f_is_whole)
  f_is_place : Addr
  d_is_place : FuncData
  F_is_place : Fun K "is_place" "is_place" s_is_place f_is_place d_is_place
  b_is_place : Binds K d_is_place ["many", "place"] []
  m_is_place : mg "is_place" = some (.ref f_is_place)
  f_is_tie : Addr
  d_is_tie : FuncData
  F_is_tie : Fun K "is_tie" "is_tie" s_is_tie f_is_tie d_is_tie
  b_is_tie : Binds K d_is_tie ["many", "tie"] []
  m_is_tie : mg "is_tie" = some (.ref f_is_tie)
  f_check_net : Addr
  d_check_net : FuncData
  F_check_net : Fun K "check_net" "check_net" s_check_net f_check_net d_check_net
  b_check_net : Binds K d_check_net ["many", "ties"] []
  m_check_net : mg "check_net" = some (.ref f_check_net)
  f_check_place : Addr
  d_check_place : FuncData
  F_check_place : Fun K "check_place" "check_place" s_check_place f_check_place d_check_place
  b_check_place : Binds K d_check_place ["many", "place"] []
  m_check_place : mg "check_place" = some (.ref f_check_place)
  f_check_two : Addr
  d_check_two : FuncData
  F_check_two : Fun K "check_two" "check_two" s_check_two f_check_two d_check_two
  b_check_two : Binds K d_check_two ["many", "one", "other"] []
  m_check_two : mg "check_two" = some (.ref f_check_two)
  f_check_side : Addr
  d_check_side : FuncData
  F_check_side : Fun K "check_side" "check_side" s_check_side f_check_side d_check_side
  b_check_side : Binds K d_check_side ["many", "side"] []
  m_check_side : mg "check_side" = some (.ref f_check_side)
  f_costs_between : Addr
  d_costs_between : FuncData
  F_costs_between : Fun K "costs_between" "costs_between" s_costs_between f_costs_between d_costs_between
  b_costs_between : Binds K d_costs_between ["many", "ties"] []
  m_costs_between : mg "costs_between" = some (.ref f_costs_between)
  f_Net_init : Addr
  d_Net_init : FuncData
  F_Net_init : Fun K "__init__" "Net.__init__" s_Net_init f_Net_init d_Net_init
  b_Net_init : Binds K d_Net_init ["self", "many", "ties"] []
  f_Net_ties : Addr
  d_Net_ties : FuncData
  F_Net_ties : Fun K "ties" "Net.ties" s_Net_ties f_Net_ties d_Net_ties
  b_Net_ties : Binds K d_Net_ties ["self"] []
  f_Net_between : Addr
  d_Net_between : FuncData
  F_Net_between : Fun K "between" "Net.between" s_Net_between f_Net_between d_Net_between
  b_Net_between : Binds K d_Net_between ["self", "one", "other"] []
  f_Net_price : Addr
  d_Net_price : FuncData
  F_Net_price : Fun K "price" "Net.price" s_Net_price f_Net_price d_Net_price
  b_Net_price : Binds K d_Net_price ["self", "side"] []
  f_places_ahead : Addr
  d_places_ahead : FuncData
  F_places_ahead : Fun K "places_ahead" "places_ahead" s_places_ahead f_places_ahead d_places_ahead
  b_places_ahead : Binds K d_places_ahead ["left", "one", "other"] []
  m_places_ahead : mg "places_ahead" = some (.ref f_places_ahead)
  f_shortest_way : Addr
  d_shortest_way : FuncData
  F_shortest_way : Fun K "shortest_way" "shortest_way" s_shortest_way f_shortest_way d_shortest_way
  b_shortest_way : Binds K d_shortest_way ["left", "one", "other"] []
  m_shortest_way : mg "shortest_way" = some (.ref f_shortest_way)
  f_run_along : Addr
  d_run_along : FuncData
  F_run_along : Fun K "run_along" "run_along" s_run_along f_run_along d_run_along
  b_run_along : Binds K d_run_along ["left", "pairs"] []
  m_run_along : mg "run_along" = some (.ref f_run_along)
  f_left_by_flow : Addr
  d_left_by_flow : FuncData
  F_left_by_flow : Fun K "left_by_flow" "left_by_flow" s_left_by_flow f_left_by_flow d_left_by_flow
  b_left_by_flow : Binds K d_left_by_flow ["net", "one", "other"] []
  m_left_by_flow : mg "left_by_flow" = some (.ref f_left_by_flow)
  f_flow : Addr
  d_flow : FuncData
  F_flow : Fun K "flow" "flow" s_flow f_flow d_flow
  b_flow : Binds K d_flow ["net", "one", "other"] []
  m_flow : mg "flow" = some (.ref f_flow)
  f_wall : Addr
  d_wall : FuncData
  F_wall : Fun K "wall" "wall" s_wall f_wall d_wall
  b_wall : Binds K d_wall ["net", "one", "other"] []
  m_wall : mg "wall" = some (.ref f_wall)
  f_take_over : Addr
  d_take_over : FuncData
  F_take_over : Fun K "take_over" "take_over" s_take_over f_take_over d_take_over
  b_take_over : Binds K d_take_over ["uppers", "place", "upper", "side"] []
  m_take_over : mg "take_over" = some (.ref f_take_over)
  f_put_between : Addr
  d_put_between : FuncData
  F_put_between : Fun K "put_between" "put_between" s_put_between f_put_between d_put_between
  b_put_between : Binds K d_put_between ["uppers", "prices", "place", "upper"] []
  m_put_between : mg "put_between" = some (.ref f_put_between)
  f_tree : Addr
  d_tree : FuncData
  F_tree : Fun K "tree" "tree" s_tree f_tree d_tree
  b_tree : Binds K d_tree ["net"] []
  m_tree : mg "tree" = some (.ref f_tree)
  f_way_up : Addr
  d_way_up : FuncData
  F_way_up : Fun K "way_up" "way_up" s_way_up f_way_up d_way_up
  b_way_up : Binds K d_way_up ["boughs", "place"] []
  m_way_up : mg "way_up" = some (.ref f_way_up)
  f_places_below : Addr
  d_places_below : FuncData
  F_places_below : Fun K "places_below" "places_below" s_places_below f_places_below d_places_below
  b_places_below : Binds K d_places_below ["boughs", "place"] []
  m_places_below : mg "places_below" = some (.ref f_places_below)
  f_way_between : Addr
  d_way_between : FuncData
  F_way_between : Fun K "way_between" "way_between" s_way_between f_way_between d_way_between
  b_way_between : Binds K d_way_between ["boughs", "one", "other"] []
  m_way_between : mg "way_between" = some (.ref f_way_between)
  f_bough_between : Addr
  d_bough_between : FuncData
  F_bough_between : Fun K "bough_between" "bough_between" s_bough_between f_bough_between d_bough_between
  b_bough_between : Binds K d_bough_between ["boughs", "one", "other"] []
  m_bough_between : mg "bough_between" = some (.ref f_bough_between)
  f_walls : Addr
  d_walls : FuncData
  F_walls : Fun K "walls" "walls" s_walls f_walls d_walls
  b_walls : Binds K d_walls ["net"] []
  m_walls : mg "walls" = some (.ref f_walls)
  f_cheapest : Addr
  d_cheapest : FuncData
  F_cheapest : Fun K "cheapest" "cheapest" s_cheapest f_cheapest d_cheapest
  b_cheapest : Binds K d_cheapest ["net", "one", "other"] []
  cc_cheapest : Addr
  PP_cheapest : Addr
  FT_cheapest : G.FunT K "cheapest" "cheapest" s_cheapest f_cheapest d_cheapest cc_cheapest
  m_cheapest : mg "cheapest" = some (.ref f_cheapest)
  f__law_cell_at : Addr
  d__law_cell_at : FuncData
  F__law_cell_at : Fun K "_law_cell_at" "_law_cell_at" s__law_cell_at f__law_cell_at d__law_cell_at
  b__law_cell_at : Binds K d__law_cell_at ["_law_script", "_law_k"] []
  m__law_cell_at : mg "_law_cell_at" = some (.ref f__law_cell_at)
  f__law_whole : Addr
  d__law_whole : FuncData
  F__law_whole : Fun K "_law_whole" "_law_whole" s__law_whole f__law_whole d__law_whole
  b__law_whole : Binds K d__law_whole ["_law_found"] []
  m__law_whole : mg "_law_whole" = some (.ref f__law_whole)
  f__law_many : Addr
  d__law_many : FuncData
  F__law_many : Fun K "_law_many" "_law_many" s__law_many f__law_many d__law_many
  b__law_many : Binds K d__law_many ["_law_script"] []
  m__law_many : mg "_law_many" = some (.ref f__law_many)
  f__law_tie : Addr
  d__law_tie : FuncData
  F__law_tie : Fun K "_law_tie" "_law_tie" s__law_tie f__law_tie d__law_tie
  b__law_tie : Binds K d__law_tie ["_law_cell", "_law_many_here", "_law_top"] []
  m__law_tie : mg "_law_tie" = some (.ref f__law_tie)
  f__law_ties : Addr
  d__law_ties : FuncData
  F__law_ties : Fun K "_law_ties" "_law_ties" s__law_ties f__law_ties d__law_ties
  b__law_ties : Binds K d__law_ties ["_law_script", "_law_many_here"] []
  m__law_ties : mg "_law_ties" = some (.ref f__law_ties)
  f__law_price : Addr
  d__law_price : FuncData
  F__law_price : Fun K "_law_price" "_law_price" s__law_price f__law_price d__law_price
  b__law_price : Binds K d__law_price ["_law_ties_here", "_law_side"] []
  m__law_price : mg "_law_price" = some (.ref f__law_price)
  f__law_led : Addr
  d__law_led : FuncData
  F__law_led : Fun K "_law_led" "_law_led" s__law_led f__law_led d__law_led
  b__law_led : Binds K d__law_led ["_law_rows", "_law_ties_here", "_law_many_here", "_law_one", "_law_other"] []
  m__law_led : mg "_law_led" = some (.ref f__law_led)
  f__law_pair_right : Addr
  d__law_pair_right : FuncData
  F__law_pair_right : Fun K "_law_pair_right" "_law_pair_right" s__law_pair_right f__law_pair_right d__law_pair_right
  b__law_pair_right : Binds K d__law_pair_right ["_law_net", "_law_ties_here", "_law_sides", "_law_one", "_law_other"] []
  m__law_pair_right : mg "_law_pair_right" = some (.ref f__law_pair_right)
  C_Net : Addr
  cl_Net : Cls K C_Net
  m_Net : mg "Net" = some (.ref C_Net)
  kc_Net : PySem.W.keepIn K (.ref C_Net) = true
  ci_Net : PySem.W.makesIn K C_Net = true
  na_Net__costs : NoAttr K C_Net "_costs"
  na_Net__ties : NoAttr K C_Net "_ties"
  na_Net_many : NoAttr K C_Net "many"
  MK_Net : Mk K C_Net f_Net_init
  mt_Net_ties : Meth K C_Net "ties" f_Net_ties
  mt_Net_between : Meth K C_Net "between" f_Net_between
  mt_Net_price : Meth K C_Net "price" f_Net_price
  t_MOST_PLACES : Tok
  c_MOST_PLACES : mg "MOST_PLACES" = some (.int 24 t_MOST_PLACES)
  t_MOST_TIES : Tok
  c_MOST_TIES : mg "MOST_TIES" = some (.int 300 t_MOST_TIES)
  t_TOP_PRICE : Tok
  c_TOP_PRICE : mg "TOP_PRICE" = some (.int 1000000000 t_TOP_PRICE)
  n_bool : mg "bool" = none
  n_enumerate : mg "enumerate" = none
  n_int : mg "int" = none
  n_isinstance : mg "isinstance" = none
  n_len : mg "len" = none
  n_list : mg "list" = none
  n_max : mg "max" = none
  n_min : mg "min" = none
  n_range : mg "range" = none
  n_set : mg "set" = none
  n_sorted : mg "sorted" = none
  n_sum : mg "sum" = none
  n_tuple : mg "tuple" = none
  n_type : mg "type" = none
  m_deque : mg "deque" = some (.type "collections.deque")
  m_pairwise : mg "pairwise" = some (.type "itertools.pairwise")
section
variable {P : Program} {w : World} {K : PySem.W.Frag} {mg : Str → Option Value} {base : Heap}
/-! ### the program's defs -/
def sp_is_whole : Sp := fun vs H Q _ => ∃ n lo hi : Int, vs = [.int n, .int lo, .int hi] ∧ RetV (.bl (decide (lo ≤ n ∧ n ≤ hi))) H Q
theorem sv_is_whole {n lo hi : Int} {H : Hp} : SpV sp_is_whole [.int n, .int lo, .int hi] H (.bl (decide (lo ≤ n ∧ n ≤ hi))) := fun H1 _ Q q E => ⟨n, lo, hi, rfl, q⟩
theorem ok_is_whole (T : Wd K mg) : FnOk P w K mg base CX0 1 T.f_is_whole T.d_is_whole ["number", "low", "high"] (sp_is_whole) := by
  refine T.F_is_whole.ok sc_is_whole (fun vs H Q E h => ?_) (fun cdv A outer s H vs Q E hr h => ?_)
  · obtain ⟨n, lo, hi, rfl, _⟩ := h
    rfl
  · obtain ⟨n, lo, hi, rfl, k⟩ := h
    refine ⟨_, (pss_one (ps_ret (pe_and (pe_cmpR G.op_eqTy (pe_callTy call_type1 (by rfl) T.n_type (by decide +kernel) (pa_cons (pv 0) pa_nil)) (pe_bltn (v := .ty "int") (by rfl) T.n_int (by decide +kernel) rfl) (nomark _)) (pe_one (pe_chain op_le op_le (pv 1) (pv 0) (pv 2)))))), ?_⟩
    refine p_ret (Ex.refl H) (ev_is (ev_andV (a := true) (ev_op (ev_type (ev_var rfl) (.int n)) ev_c (rv_tyEq t8int t8int)) (fun _ => ev_chain (ev_var rfl) (ev_var rfl) rv_I0 (fun _ => ev_var rfl) (fun _ => rv_I0))) ?_) k
    simp [Bool.decide_and]
def sp_is_place : Sp := fun vs H Q _ => ∃ n p : Int, vs = [.int n, .int p] ∧ RetV (.bl (decide (0 ≤ p ∧ p < n))) H Q
theorem sv_is_place {n p : Int} {H : Hp} : SpV sp_is_place [.int n, .int p] H (.bl (decide (0 ≤ p ∧ p < n))) := fun H1 _ Q q E => ⟨n, p, rfl, q⟩
theorem ok_is_place (T : Wd K mg) : FnOk P w K mg base CX0 2 T.f_is_place T.d_is_place ["many", "place"] (sp_is_place) := by
  have G_is_whole := ok_is_whole (P := P) (w := w) (base := base) T
  refine T.F_is_place.ok sc_is_place (fun vs H Q E h => ?_) (fun cdv A outer s H vs Q E hr h => ?_)
  · obtain ⟨n, p, rfl, _⟩ := h
    rfl
  · obtain ⟨n, p, rfl, k⟩ := h
    refine ⟨_, (pss_one (ps_ret (pe_call G_is_whole (hr.mono (by decide)) (by rfl) T.m_is_whole T.F_is_whole.kp T.b_is_whole .nil pass0 (pa_cons (pv 1) (pa_cons pe_int (pa_cons (pe_op op_sub (pv 0) pe_int) pa_nil)))))), ?_⟩
    refine p_ret (Ex.refl H) (ev_is (ev_call (ea_cons (ev_var rfl) (ea_cons ev_c (ea_cons (ev_op (ev_var rfl) ev_c rv_I0) ea_nil))) sv_is_whole) ?_) k
    congr 2
    exact propext ⟨fun ⟨a, b⟩ => ⟨a, by omega⟩, fun ⟨a, b⟩ => ⟨a, by omega⟩⟩
def sp_is_tie (K : PySem.W.Frag) : Sp := fun vs H Q _ => ∃ (n : Nat) (a : Addr) (t : Tie), vs = [.int n, .ref a] ∧ SqT K H a (tv t) ∧ Good n t ∧ RetV (.bl true) H Q
theorem sv_is_tie {n : Nat} {a : Addr} {t : Tie} {H : Hp} (ht : SqT K H a (tv t)) (g : Good n t) : SpV (sp_is_tie K) [.int n, .ref a] H (.bl true) := fun H1 e Q q E => ⟨n, a, t, rfl, ex_t e ht, g, q⟩
theorem ok_is_tie (T : Wd K mg) : FnOk P w K mg base CX0 3 T.f_is_tie T.d_is_tie ["many", "tie"] (sp_is_tie K) := by
  have G_is_whole := ok_is_whole (P := P) (w := w) (base := base) T
  have G_is_place := ok_is_place (P := P) (w := w) (base := base) T
  refine T.F_is_tie.ok sc_is_tie (fun vs H Q E h => ?_) (fun cdv A outer s H vs Q E hr h => ?_)
  · obtain ⟨n, a, t, rfl, _⟩ := h
    rfl
  · obtain ⟨n, a, t, rfl, ht, g, k⟩ := h
    have g1 := g.one
    have g2 := g.two
    have g3 := g.ne
    have g4 := g.lo
    have g5 := g.hi
    refine ⟨_, (pss_cons (ps_if (PW.pt (pw_or (pt_cmpR G.op_neTy (pe_callTy call_type1 (by rfl) T.n_type (by decide +kernel) (pa_cons (pv 1) pa_nil)) (pe_bltn (v := .ty "tuple") (by rfl) T.n_tuple (by decide +kernel) rfl) (nomark _)) (pw_or1 (pt_cmpR op_ne (pe_callB call_len_seq (by rfl) T.n_len (by decide +kernel) (pa_cons (pv 1) pa_nil)) pe_int (nomark _))))) (pss_one (ps_ret pe_bl)) pss_nil) (pss_cons (ps_asg (pv 1) (pg_tup (by rfl) (pgs_cons (pg_name (i := 2) sc_is_tie.nd rfl (Or.inl rfl)) (pgs_cons (pg_name (i := 3) sc_is_tie.nd rfl (Or.inl rfl)) (pgs_cons (pg_name (i := 4) sc_is_tie.nd rfl (Or.inl rfl)) pgs_nil))))) (pss_cons (ps_if (PW.pt (pw_or (pt_not (pt_val (pe_call G_is_place (hr.mono (by decide)) (by rfl) T.m_is_place T.F_is_place.kp T.b_is_place .nil pass0 (pa_cons (pv 0) (pa_cons (pv 2) pa_nil))))) (pw_or1 (pt_not (pt_val (pe_call G_is_place (hr.mono (by decide)) (by rfl) T.m_is_place T.F_is_place.kp T.b_is_place .nil pass0 (pa_cons (pv 0) (pa_cons (pv 3) pa_nil)))))))) (pss_one (ps_ret pe_bl)) pss_nil) (pss_one (ps_ret (pe_and (pe_cmpR op_ne (pv 2) (pv 3) (nomark _)) (pe_one (pe_call G_is_whole (hr.mono (by decide)) (by rfl) T.m_is_whole T.F_is_whole.kp T.b_is_whole .nil pass0 (pa_cons (pv 4) (pa_cons pe_int (pa_cons (pe_glob (v := .int 1000000000) (by rfl) T.c_TOP_PRICE ⟨_, rfl⟩) pa_nil))))))))))), ?_⟩
    refine p_no (Ex.refl H) (et_is (et_or (a := false) (et_test (ev_is (ev_op (ev_type (ev_var rfl) (.tup ht)) ev_c (rv_tyNe t8tuple t8tuple)) rfl)) (fun _ => et_test (ev_op (ev_lenS (ev_var rfl) (Or.inr ht)) ev_c (rv_ne rfl)))) rfl) fun H1 e1 _ => ?_
    refine ⟨_, rfl, a, _, rfl, ex_t e1 ht, rfl, _, _, rfl, _, _, rfl, _, _, rfl, rfl, ?_⟩
    refine p_no e1 (et_is (et_or (a := false) (et_is (et_not (et_B (ev_call (ea_cons (ev_var rfl) (ea_cons (ev_var rfl) ea_nil)) sv_is_place))) (by simp; omega)) (fun _ => et_not (et_B (ev_call (ea_cons (ev_var rfl) (ea_cons (ev_var rfl) ea_nil)) sv_is_place)))) (by simp; omega)) fun H2 e2 _ => ?_
    refine p_ret e2 (ev_is (ev_andV (ev_op (ev_var rfl) (ev_var rfl) (rv_ne rfl)) (fun _ => ev_call (ea_cons (ev_var rfl) (ea_cons ev_c (ea_cons ev_c ea_nil))) sv_is_whole)) ?_) k
    simp
    omega

def sp_check_net (K : PySem.W.Frag) : Sp := fun vs H Q _ => ∃ (n : Nat) (l : Addr) (ts : List Tie), vs = [.int n, .ref l] ∧ 1 ≤ n ∧ n ≤ 24 ∧ TiesL K H l ts ∧ ts.length ≤ 300 ∧ (∀ t ∈ ts, Good n t) ∧ RetV .non H Q
theorem sv_check_net {n : Nat} {l : Addr} {ts : List Tie} {H : Hp} (h1 : 1 ≤ n) (h2 : n ≤ 24) (hl : TiesL K H l ts) (hn : ts.length ≤ 300) (g : ∀ t ∈ ts, Good n t) : SpV (sp_check_net K) [.int n, .ref l] H .non := fun H1 e Q q E => ⟨n, l, ts, rfl, h1, h2, hl.ex e, hn, g, q⟩
theorem ok_check_net (T : Wd K mg) : FnOk P w K mg base CX0 4 T.f_check_net T.d_check_net ["many", "ties"] (sp_check_net K) := by
  have G_is_whole := ok_is_whole (P := P) (w := w) (base := base) T
  have G_is_tie := ok_is_tie (P := P) (w := w) (base := base) T
  refine T.F_check_net.ok sc_check_net (fun vs H Q E h => ?_) (fun cdv A outer s H vs Q E hr h => ?_)
  · obtain ⟨n, l, ts, rfl, _⟩ := h
    rfl
  · obtain ⟨n, l, ts, rfl, h1, h2, ⟨xs, hl, tz⟩, hn, g, k⟩ := h
    have hlen := tz.len
    refine ⟨_, (pss_cons (ps_if (pt_not (pt_val (pe_call G_is_whole (hr.mono (by decide)) (by rfl) T.m_is_whole T.F_is_whole.kp T.b_is_whole .nil pass0 (pa_cons (pv 0) (pa_cons pe_int (pa_cons (pe_glob (v := .int 24) (by rfl) T.c_MOST_PLACES ⟨_, rfl⟩) pa_nil)))))) (pss_one (ps_never)) pss_nil) (pss_cons (ps_if (PW.pt (pw_or (pt_cmpR G.op_neTy (pe_callTy call_type1 (by rfl) T.n_type (by decide +kernel) (pa_cons (pv 1) pa_nil)) (pe_bltn (v := .ty "list") (by rfl) T.n_list (by decide +kernel) rfl) (nomark _)) (pw_or1 (pt_cmpR op_gt (pe_callB call_len_seq (by rfl) T.n_len (by decide +kernel) (pa_cons (pv 1) pa_nil)) (pe_glob (v := .int 300) (by rfl) T.c_MOST_TIES ⟨_, rfl⟩) (nomark _))))) (pss_one (ps_never)) pss_nil) (pss_one (ps_for PassesOwn.never rfl (pi_list (pv 1)) (pg_name (i := 2) sc_check_net.nd rfl (Or.inl rfl)) (pss_one (ps_if (pt_not (pt_val (pe_call G_is_tie (hr.mono (by decide)) (by rfl) T.m_is_tie T.F_is_tie.kp T.b_is_tie .nil pass0 (pa_cons (pv 0) (pa_cons (pv 2) pa_nil))))) (pss_one (ps_never)) pss_nil)))))), ?_⟩
    refine p_no (Ex.refl H) (et_is (et_not (et_B (ev_call (ea_cons (ev_var rfl) (ea_cons ev_c (ea_cons ev_c ea_nil))) sv_is_whole))) (by simp; omega)) fun H1 e1 _ => ?_
    refine p_no e1 (et_is (et_or (a := false) (et_test (ev_is (ev_op (ev_type (ev_var rfl) (.lst hl)) ev_c (rv_tyNe t8list t8list)) rfl)) (fun _ => et_test (ev_op (ev_lenS (ev_var rfl) (Or.inl hl)) ev_c rv_I0))) (by simp; omega)) fun H2 e2 _ => ?_
    refine s_forLn (xs := xs) ((ev_var rfl : Ev _ _ H (.ref l)).mono e2) (ex_l e2 hl) (fun i σ' H' => Ex H H' ∧ ∃ v2, σ' = [some (.int n), some (.ref l), v2]) (fun H1 e => ⟨e2.trans e, _, rfl⟩) (fun i σ' H' _ p => ex_l p.1 hl) ?_ (fun σ' H' p => k H' p.1)
    rintro i x σ' H' hx ⟨e, v2, rfl⟩
    obtain ⟨t, a, ht, rfl, hta⟩ := tz.get hx
    refine p_noE e (et_is (et_not (et_B (ev_call (ea_cons (ev_var rfl) (ea_cons (ev_var rfl) ea_nil)) (sv_is_tie hta (g t (List.mem_of_getElem? ht)))))) rfl) fun H3 e3 _ => ?_
    exact ⟨e3, _, rfl⟩
def sp_check_place : Sp := fun vs H Q _ => ∃ (n p : Nat), vs = [.int n, .int p] ∧ p < n ∧ RetV .non H Q
theorem sv_check_place {n p : Nat} {H : Hp} (h : p < n) : SpV sp_check_place [.int n, .int p] H .non := fun H1 e Q q E => ⟨n, p, rfl, h, q⟩
theorem ok_check_place (T : Wd K mg) : FnOk P w K mg base CX0 3 T.f_check_place T.d_check_place ["many", "place"] (sp_check_place) := by
  have G_is_place := ok_is_place (P := P) (w := w) (base := base) T
  refine T.F_check_place.ok sc_check_place (fun vs H Q E h => ?_) (fun cdv A outer s H vs Q E hr h => ?_)
  · obtain ⟨n, p, rfl, _⟩ := h
    rfl
  · obtain ⟨n, p, rfl, hp, k⟩ := h
    refine ⟨_, (pss_one (ps_if (pt_not (pt_val (pe_call G_is_place (hr.mono (by decide)) (by rfl) T.m_is_place T.F_is_place.kp T.b_is_place .nil pass0 (pa_cons (pv 0) (pa_cons (pv 1) pa_nil))))) (pss_one (ps_never)) pss_nil)), ?_⟩
    exact p_noE (Ex.refl H) (et_is (et_not (et_B (ev_call (ea_cons (ev_var rfl) (ea_cons (ev_var rfl) ea_nil)) sv_is_place))) (by simp; omega)) fun H1 e1 _ => k H1 e1
def sp_check_two : Sp := fun vs H Q _ => ∃ (n i j : Nat), vs = [.int n, .int i, .int j] ∧ i < n ∧ j < n ∧ i ≠ j ∧ RetV .non H Q
theorem sv_check_two {n i j : Nat} {H : Hp} (hi : i < n) (hj : j < n) (hn : i ≠ j) : SpV sp_check_two [.int n, .int i, .int j] H .non := fun H1 e Q q E => ⟨n, i, j, rfl, hi, hj, hn, q⟩
theorem ok_check_two (T : Wd K mg) : FnOk P w K mg base CX0 4 T.f_check_two T.d_check_two ["many", "one", "other"] (sp_check_two) := by
  have G_check_place := ok_check_place (P := P) (w := w) (base := base) T
  refine T.F_check_two.ok sc_check_two (fun vs H Q E h => ?_) (fun cdv A outer s H vs Q E hr h => ?_)
  · obtain ⟨n, i, j, rfl, _⟩ := h
    rfl
  · obtain ⟨n, i, j, rfl, hi, hj, hn, k⟩ := h
    refine ⟨_, (pss_cons (ps_expr (pe_call G_check_place (hr.mono (by decide)) (by rfl) T.m_check_place T.F_check_place.kp T.b_check_place .nil pass0 (pa_cons (pv 0) (pa_cons (pv 1) pa_nil)))) (pss_cons (ps_expr (pe_call G_check_place (hr.mono (by decide)) (by rfl) T.m_check_place T.F_check_place.kp T.b_check_place .nil pass0 (pa_cons (pv 0) (pa_cons (pv 2) pa_nil)))) (pss_one (ps_if (pt_cmpR op_eq (pv 1) (pv 2) (nomark _)) (pss_one (ps_never)) pss_nil)))), ?_⟩
    refine p_drop (Ex.refl H) (ev_call (ea_cons (ev_var rfl) (ea_cons (ev_var rfl) ea_nil)) (sv_check_place hi)) fun H1 e1 _ => ?_
    refine p_drop e1 (ev_call (ea_cons (ev_var rfl) (ea_cons (ev_var rfl) ea_nil)) (sv_check_place hj)) fun H2 e2 _ => ?_
    exact p_noE e2 (et_is (et_test (ev_op (ev_var rfl) (ev_var rfl) (rv_eq rfl))) (by simp; omega)) fun H3 e3 _ => k H3 e3
def sp_check_side (K : PySem.W.Frag) : Sp := fun vs H Q _ => ∃ (n : Nat) (a : Addr) (ns : List Nat), vs = [.int n, .ref a] ∧ SqL K H a (IL ns) ∧ (∀ p ∈ ns, p < n) ∧ ns.Nodup ∧ ns.length ≤ 4000 ∧ RetV .non H Q
theorem sv_check_side {n : Nat} {a : Addr} {ns : List Nat} {H : Hp} (h : SqL K H a (IL ns)) (hp : ∀ p ∈ ns, p < n) (nd : ns.Nodup) (hz : ns.length ≤ 4000) : SpV (sp_check_side K) [.int n, .ref a] H .non := fun H1 e Q q E => ⟨n, a, ns, rfl, ex_l e h, hp, nd, hz, q⟩
theorem ok_check_side (T : Wd K mg) : FnOk P w K mg base CX0 3 T.f_check_side T.d_check_side ["many", "side"] (sp_check_side K) := by
  have G_is_place := ok_is_place (P := P) (w := w) (base := base) T
  refine T.F_check_side.ok sc_check_side (fun vs H Q E h => ?_) (fun cdv A outer s H vs Q E hr h => ?_)
  · obtain ⟨n, a, ns, rfl, _⟩ := h
    rfl
  · obtain ⟨n, a, ns, rfl, hl, hp, nd, hz, k⟩ := h
    refine ⟨_, (pss_cons (ps_if (pt_cmpR G.op_neTy (pe_callTy call_type1 (by rfl) T.n_type (by decide +kernel) (pa_cons (pv 1) pa_nil)) (pe_bltn (v := .ty "list") (by rfl) T.n_list (by decide +kernel) rfl) (nomark _)) (pss_one (ps_never)) pss_nil) (pss_cons (ps_for PassesOwn.never rfl (pi_list (pv 1)) (pg_name (i := 2) sc_check_side.nd rfl (Or.inl rfl)) (pss_one (ps_if (pt_not (pt_val (pe_call G_is_place (hr.mono (by decide)) (by rfl) T.m_is_place T.F_is_place.kp T.b_is_place .nil pass0 (pa_cons (pv 0) (pa_cons (pv 2) pa_nil))))) (pss_one (ps_never)) pss_nil))) (pss_one (ps_if (pt_cmpR op_lt (pe_lenSetI (by rfl) T.n_len (by rfl) T.n_set (pv 1)) (pe_callB call_len_seq (by rfl) T.n_len (by decide +kernel) (pa_cons (pv 1) pa_nil)) (nomark _)) (pss_one (ps_never)) pss_nil)))), ?_⟩
    refine p_no (Ex.refl H) (et_is (et_test (ev_op (ev_type (ev_var rfl) (.lst hl)) ev_c (rv_tyNe t8list t8list))) rfl) fun H1 e1 _ => ?_
    refine q_forLn (xs := IL ns) ((ev_var rfl : Ev _ _ H (.ref a)).mono e1) (ex_l e1 hl) (fun i σ' H' => Ex H H' ∧ ∃ v2, σ' = [some (.int n), some (.ref a), v2]) (fun H1 e => ⟨e1.trans e, _, rfl⟩) (fun i σ' H' _ p => ex_l p.1 hl) ?_ ?_
    · rintro i x σ' H' hx ⟨e, v2, rfl⟩
      obtain ⟨p, hm, rfl⟩ := IL_get hx
      refine p_noE e (et_is (et_not (et_B (ev_call (ea_cons (ev_var rfl) (ea_cons (ev_var rfl) ea_nil)) sv_is_place))) (by have := hp p (List.mem_of_getElem? hm); simp; omega)) fun H3 e3 _ => ?_
      exact ⟨e3, _, rfl⟩
    · rintro σ' H' ⟨e, v2, rfl⟩
      refine p_noE e (et_is (et_test (ev_op (ev_lenSet (ev_var rfl) hl nd hz) (ev_lenS (ev_var rfl) (Or.inl hl)) rv_I0)) (by rw [IL_len]; simp)) fun H3 e3 _ => k H3 e3
def sp_costs_between (K : PySem.W.Frag) : Sp := fun vs H Q _ => ∃ (n : Nat) (l : Addr) (ts : List Tie), vs = [.int n, .ref l] ∧ n ≤ 24 ∧ TiesL K H l ts ∧ (∀ t ∈ ts, Good n t) ∧ ∀ p H2, Ex H H2 → MatN H H2 p n (costM ts) → Q (.ref p) H2
theorem ok_costs_between (T : Wd K mg) : FnOk P w K mg base CX0 1 T.f_costs_between T.d_costs_between ["many", "ties"] (sp_costs_between K) := by
  refine T.F_costs_between.ok sc_costs_between (fun vs H Q E h => ?_) (fun cdv A outer s H vs Q E hr h => ?_)
  · obtain ⟨n, l, ts, rfl, _⟩ := h
    rfl
  · obtain ⟨n, l, ts, rfl, hn, ⟨xs, hl, tz⟩, g, k⟩ := h
    refine ⟨_, (pss_cons (ps_setLc (i := 2) (own := [("place", 3)]) (g := (gName 3)) (tt := tYes) rfl sc_costs_between.nd rfl rfl (sw_true rfl rfl rfl (by decide +kernel)) (pi_range1 (by rfl) T.n_range (pa_cons (pv 0) pa_nil)) (blkOk_by (own := [("place", 3)]) (N := ["many", "ties", "costs", "place", "one", "other", "cost"]) (sc := defScope s_costs_between) (by decide +kernel)) (fun _ _ _ _ _ => (pg_name (i := 3) sc_costs_between.nd rfl (Or.inl rfl))) (fun _ _ _ _ _ => pts_nil) (fun _ _ _ _ _ => (pe_op op_rep (pe_lst (pa_cons pe_int pa_nil)) (pv 0)))) (pss_cons (ps_for PassesOwn.never rfl (pi_list (pv 1)) (pg_tup (by rfl) (pgs_cons (pg_name (i := 4) sc_costs_between.nd rfl (Or.inl rfl)) (pgs_cons (pg_name (i := 5) sc_costs_between.nd rfl (Or.inl rfl)) (pgs_cons (pg_name (i := 6) sc_costs_between.nd rfl (Or.inl rfl)) pgs_nil)))) (pss_cons (ps_augS (pe_ix ix_list (pv 2) (pv 4) (fun _ _ => rfl)) (pv 5) G.pg_list (pv 6) ip_add set_list) (pss_one (ps_augS (pe_ix ix_list (pv 2) (pv 5) (fun _ _ => rfl)) (pv 4) G.pg_list (pv 6) ip_add set_list)))) (pss_one (ps_ret (pv 2))))), ?_⟩
    refine ⟨_, rfl, (n : Int), rfl, by omega, by omega, fun D hD => lc_range (lo := 0) (n := n) (fun i H' => Ex H H' ∧ ∃ rs : Nat → Addr, H' D = some (.lst (lstOf i fun k => .ref (rs k))) ∧ (∀ k, k < i → H' (rs k) = some (.lst (lstOf n fun _ => .int 0)) ∧ H (rs k) = none ∧ rs k ≠ D) ∧ ∀ a b, a < i → b < i → rs a = rs b → a = b) ?_ ?_ ?_⟩
    · exact ⟨Ex.new hD, fun _ => 0, upd_same, fun k hk => absurd hk (by omega), fun a b ha => absurd ha (by omega)⟩
    · rintro i H' hi ⟨e, rs, hDl, hrow, hinj⟩
      refine ⟨rfl, yes_go ⟨by show 1 ≤ sizeLine; decide, fun q hq => ⟨_, rfl, q, n, _, rfl, rfl, upd_same, by omega, by omega, ?_, fun p hp => ?_⟩⟩⟩
      · show 1 * n ≤ sizeLine
        exact sz_of (by omega)
      · have nqD : q ≠ D := (ne_of_none hDl hq).symm
        have npq : p ≠ q := fun z => by rw [z, upd_same] at hp; cases hp
        have hp' : H' p = none := by rw [upd_ne npq] at hp; exact hp
        have npD : p ≠ D := (ne_of_none hDl hp').symm
        refine ⟨lstOf i fun k => .ref (rs k), ?_, ?_, ?_, fun k => if k = i then p else rs k, ?_, fun k hk => ?_, fun a b ha hb hab => ?_⟩
        · rw [upd_ne npD.symm, upd_ne nqD.symm]
          exact hDl
        · rw [lstOf_len]
          exact sz_lt (by omega)
        · exact Ex.mut (((e.trans (Ex.new hq))).trans (Ex.new hp)) hD
        · have e2 : lstOf (i + 1) (fun k => V.ref (if k = i then p else rs k)) = lstOf i (fun k => .ref (rs k)) ++ [.ref p] := by
            rw [lstOf_succ, if_pos rfl]
            congr 1
            exact lstOf_congr fun k hk => by rw [if_neg (by omega)]
          exact upd_same.trans (congrArg (fun z => some (HO.lst z)) e2.symm)
        · show upd _ D _ (if k = i then p else rs k) = _ ∧ H (if k = i then p else rs k) = none ∧ (if k = i then p else rs k) ≠ D
          by_cases hki : k = i
          · rw [if_pos hki, upd_ne npD, upd_same]
            refine ⟨?_, fresh_back e hp', npD⟩
            have e1 : ((n : Int)).toNat = n := rfl
            rw [e1, List.flatten_replicate_singleton, lstOf_rep]
          · rw [if_neg hki]
            obtain ⟨r1, r2, r3⟩ := hrow k (by omega)
            exact ⟨by rw [upd_ne r3, upd_ne (ne_of_none r1 hp'), upd_ne (ne_of_none r1 hq)]; exact r1, r2, r3⟩
        · have hab : (if a = i then p else rs a) = (if b = i then p else rs b) := hab
          by_cases ha' : a = i
          · by_cases hb' : b = i
            · omega
            · rw [if_pos ha', if_neg hb'] at hab
              exact absurd hab.symm (ne_of_none (hrow b (by omega)).1 hp')
          · by_cases hb' : b = i
            · rw [if_neg ha', if_pos hb'] at hab
              exact absurd hab (ne_of_none (hrow a (by omega)).1 hp')
            · rw [if_neg ha', if_neg hb'] at hab
              exact hinj a b (by omega) (by omega) hab
    · rintro H' ⟨e, rs, hDl, hrow, hinj⟩
      have m0 : MatN H H' D n (costM []) := ⟨hD, rs, ⟨hDl, fun i hi => (hrow i hi).1, hinj⟩, fun i hi => (hrow i hi).2.1⟩
      refine q_forL (xs := xs) ((ev_var rfl : Ev _ _ H (.ref l)).mono e) (ex_l e hl) (fun i σ' H' => Ex H H' ∧ MatN H H' D n (costM (ts.take i)) ∧ ∃ a b c, σ' = [some (.int n), some (.ref l), some (.ref D), none, a, b, c]) (fun H1 e1 => ⟨e.trans e1, m0.ex e1, _, _, _, rfl⟩) (fun i σ' H' _ p => ex_l p.1 hl) ?_ ?_
      · rintro i x σ' H' hx ⟨e, ⟨f1, rs, R, f2⟩, a, b, c, rfl⟩
        obtain ⟨t, q, ht, rfl, hq⟩ := tz.get hx
        have g := g t (List.mem_of_getElem? ht)
        refine ⟨q, _, rfl, ex_t e hq, rfl, _, _, rfl, _, _, rfl, _, _, rfl, rfl, ?_⟩
        refine mat_aug (pi := 2) (ii := 4) (ji := 5) (zi := 6) rfl rfl rfl rfl R g.one g.two fun H1 R1 k1 => ?_
        refine mat_aug (pi := 2) (ii := 5) (ji := 4) (zi := 6) rfl rfl rfl rfl R1 g.two g.one fun H2 R2 k2 => ?_
        have e1 := e.but (f2 _ g.one) k1
        have e2 := e1.but (f2 _ g.two) k2
        refine ⟨e2, ⟨f1, rs, ?_, f2⟩, _, _, _, rfl⟩
        have et : ts.take (i + 1) = ts.take i ++ [t] := take_snoc ht
        rw [et]
        refine R2.congr fun a b => ?_
        exact costM_put g.ne a b
      · rintro σ' H' ⟨e, m, a, b, c, rfl⟩
        refine p_ret (Ex.refl H') (ev_var rfl) fun H1 e1 => k D H1 (e.trans e1) ?_
        rw [tz.len, List.take_length] at m
        exact m.ex e1

/-- a net that was made anew: what of it H does not know -/
structure NetNew (K : PySem.W.Frag) (C : Addr) (H H2 : Hp) (x : Addr) (n : Nat) (vs : List V) (ts : List Tie) (l c : Addr) (rs : Nat → Addr) : Prop where
  ob : ∃ dx, H2 x = some (.ins C dx (netF (.int n) (.ref l) (.ref c)))
  ls : H2 l = some (.lst vs)
  mat : MatR H2 c n rs (costM ts)
  fl : H l = none
  fc : H c = none
  fr : ∀ i, i < n → H (rs i) = none
def sp_Net_init (K : PySem.W.Frag) (C : Addr) : Sp := fun vs H Q _ => ∃ (x dx : Addr) (n : Nat) (l : Addr) (xs : List V) (ts : List Tie), vs = [.ref x, .int n, .ref l] ∧ H x = some (.ins C dx []) ∧ 1 ≤ n ∧ n ≤ 24 ∧ SqL K H l xs ∧ TiesV K H xs ts ∧ ts.length ≤ 300 ∧ (∀ t ∈ ts, Good n t) ∧
  ∀ H2 l' c rs, (∀ b o, b ≠ x → H b = some o → H2 b = some o) → NetNew K C H H2 x n xs ts l' c rs → Q .non H2
theorem ok_Net_init (T : Wd K mg) : FnOk P w K mg base CX0 5 T.f_Net_init T.d_Net_init ["self", "many", "ties"] (sp_Net_init K T.C_Net) := by
  have G_check_net := ok_check_net (P := P) (w := w) (base := base) T
  have G_costs_between := ok_costs_between (P := P) (w := w) (base := base) T
  refine T.F_Net_init.ok sc_Net_init (fun vs H Q E h => ?_) (fun cdv A outer s H vs Q E hr h => ?_)
  · obtain ⟨x, dx, n, l, xs, ts, rfl, _⟩ := h
    rfl
  · obtain ⟨x, dx, n, l, xs, ts, rfl, hx, h1, h2, hl, tz, hn, g, k⟩ := h
    refine ⟨_, (pss_cons (ps_expr (pe_call G_check_net (hr.mono (by decide)) (by rfl) T.m_check_net T.F_check_net.kp T.b_check_net .nil pass0 (pa_cons (pv 1) (pa_cons (pv 2) pa_nil)))) (pss_cons (ps_fld (pv 0) (pv 1) rfl) (pss_cons (ps_fld (pv 0) (pe_callTy call_list_of (by rfl) T.n_list (by decide +kernel) (pa_cons (pv 2) pa_nil)) rfl) (pss_one (ps_fld (pv 0) (pe_call G_costs_between (hr.mono (by decide)) (by rfl) T.m_costs_between T.F_costs_between.kp T.b_costs_between .nil pass0 (pa_cons (pv 1) (pa_cons (pv 2) pa_nil))) rfl))))), ?_⟩
    refine p_drop (Ex.refl H) (ev_call (ea_cons (ev_var rfl) (ea_cons (ev_var rfl) ea_nil)) (sv_check_net h1 h2 ⟨xs, hl, tz⟩ hn g)) fun H1 e1 _ => ?_
    have hx1 := e1 _ _ hx
    have hlx : ∀ {H' : Hp}, (∀ b o, b ≠ x → H b = some o → H' b = some o) → SqL K H' l xs := fun {H'} kk => by
      rcases hl with (hl | ⟨o, hl⟩) | hl
      · exact .inl (.inl (kk _ _ (ne_of hl hx (by intro q; cases q)) hl))
      · exact .inl (.inr ⟨o, kk _ _ (ne_of hl hx (by intro q; cases q)) hl⟩)
      · exact .inr hl
    have tzx : ∀ {H' : Hp}, (∀ b o, b ≠ x → H b = some o → H' b = some o) → TiesV K H' xs ts := fun {H'} kk => ⟨tz.len, fun i v t h1 h2 => by
      obtain ⟨a, rfl, ht⟩ := tz.at_ i v t h1 h2
      refine ⟨a, rfl, ?_⟩
      rcases ht with (ht | ⟨o, ht⟩) | ht
      · exact .inl (.inl (kk _ _ (ne_of ht hx (by intro q; cases q)) ht))
      · exact .inl (.inr ⟨o, kk _ _ (ne_of ht hx (by intro q; cases q)) ht⟩)
      · exact .inr ht⟩
    refine ⟨_, rfl, _, rfl, x, T.C_Net, dx, [], rfl, hx1, T.cl_Net, T.na_Net_many, (by show 0 < 1000; decide), ?_⟩
    have k2 : ∀ b o, b ≠ x → H b = some o → upd H1 x (.ins T.C_Net dx (putF "many" (.int n) [])) b = some o := fun b o hb e => by rw [upd_ne hb]; exact e1 _ _ e
    refine ⟨_, rfl, l, xs, rfl, .inl (hlx k2), fun l' hl' => ⟨_, rfl, x, T.C_Net, dx, putF "many" (.int n) [], rfl, ?_, T.cl_Net, T.na_Net__ties, (by show 1 < 1000; decide), ?_⟩⟩
    · have : x ≠ l' := fun z => by rw [← z, upd_same] at hl'; cases hl'
      rw [upd_ne this, upd_same]
    · have nlx : l' ≠ x := fun z => by rw [z, upd_same] at hl'; cases hl'
      have fl' : H1 l' = none := by rw [upd_ne nlx] at hl'; exact hl'
      have k3 : ∀ b o, b ≠ x → H b = some o → upd (upd (upd H1 x (.ins T.C_Net dx (putF "many" (.int n) []))) l' (.lst xs)) x (.ins T.C_Net dx (putF "_ties" (.ref l') (putF "many" (.int n) []))) b = some o := fun b o hb e => by
        rw [upd_ne hb, upd_ne (ne_of_none (e1 _ _ e) fl')]
        exact k2 b o hb e
      refine ⟨_, rfl, _, rfl, n, l, ts, rfl, h2, ⟨xs, hlx k3, tzx k3⟩, g, fun c H2 e2 m => ⟨_, rfl, x, T.C_Net, dx, putF "_ties" (.ref l') (putF "many" (.int n) []), rfl, e2 _ _ upd_same, T.cl_Net, T.na_Net__costs, netF2_len, ?_⟩⟩
      obtain ⟨fc, rs, R, fr⟩ := m
      have fre : ∀ {q : Addr}, upd (upd (upd H1 x (.ins T.C_Net dx (putF "many" (.int n) []))) l' (.lst xs)) x (.ins T.C_Net dx (putF "_ties" (.ref l') (putF "many" (.int n) []))) q = none → H q = none ∧ q ≠ x := fun {q} hq => by
        have nq : q ≠ x := fun z => by rw [z, upd_same] at hq; cases hq
        rw [upd_ne nq] at hq
        have nql : q ≠ l' := fun z => by rw [z, upd_same] at hq; cases hq
        rw [upd_ne nql, upd_ne nq] at hq
        exact ⟨fresh_back e1 hq, nq⟩
      refine k _ l' c rs (fun b o hb e => ?_) ⟨⟨dx, upd_same⟩, ?_, ⟨?_, fun i hi => ?_, R.inj⟩, fresh_back e1 fl', (fre fc).1, fun i hi => (fre (fr i hi)).1⟩
      · rw [upd_ne hb]
        exact e2 _ _ (k3 b o hb e)
      · rw [upd_ne nlx]
        exact e2 _ _ (by rw [upd_ne nlx, upd_same])
      · rw [upd_ne (fre fc).2]
        exact R.top
      · rw [upd_ne (fre (fr i hi)).2]
        exact R.row i hi
/-- Net(many, ties) as an expression -/
theorem make_net {C : Addr} {σ : L2.St} {H : Hp} {ta : TA} {Q : VK} {E : XK} {n : Nat} {l : Addr} {xs : List V} {ts : List Tie} (ha : EvA ta σ H [.int n, .ref l]) (h1 : 1 ≤ n) (h2 : n ≤ 24) (hl : SqL K H l xs) (tz : TiesV K H xs ts) (hn : ts.length ≤ 300) (g : ∀ t ∈ ts, Good n t)
    (k : ∀ x l' c rs H2, H x = none → Ex H H2 → NetNew K C H H2 x n xs ts l' c rs → Q (.ref x) H2) : tMake C (sp_Net_init K C) [] E ta σ H Q := by
  refine ha H (Ex.refl H) _ fun H1 e1 => ?_
  intro x dx hx hdx nx
  have e2 : Ex H1 (upd (upd H1 dx (.own x)) x (.ins C dx [])) := (Ex.new hdx).trans (Ex.new (by rw [upd_ne nx.symm]; exact hx))
  refine ⟨x, dx, n, l, xs, ts, rfl, upd_same, h1, h2, ex_l (e1.trans e2) hl, tz.ex (e1.trans e2), hn, g, fun H2 l' c rs kk N => ⟨rfl, ?_⟩⟩
  have e3 : Ex H H2 := fun a o h => by
    have h' := e1 _ _ h
    refine kk a o (ne_of_none h' hx) ?_
    rw [upd_ne (ne_of_none h' hx), upd_ne (ne_of_none h' hdx)]
    exact h'
  exact k x l' c rs H2 (fresh_back e1 hx) e3 ⟨N.ob, N.ls, N.mat, fresh_back (e1.trans e2) N.fl, fresh_back (e1.trans e2) N.fc, fun i hi => fresh_back (e1.trans e2) (N.fr i hi)⟩
theorem NetNew.at_ {C : Addr} {H H2 : Hp} {x : Addr} {n : Nat} {vs : List V} {ts : List Tie} {l c : Addr} {rs : Nat → Addr} (N : NetNew K C H H2 x n vs ts l c rs) (tz : TiesV K H2 vs ts) (h1 : 1 ≤ n) (h2 : n ≤ 24) (hn : ts.length ≤ 300) (g : ∀ t ∈ ts, Good n t) : NetAt K C H2 x n ts := by
  obtain ⟨dx, ob⟩ := N.ob
  exact ⟨⟨dx, l, c, ob, ⟨vs, N.ls, tz⟩, ⟨rs, N.mat⟩⟩, h1, h2, hn, g⟩
theorem NetNew.past {C : Addr} {H H2 H3 : Hp} {x h : Addr} {n : Nat} {vs : List V} {ts : List Tie} {l c : Addr} {rs : Nat → Addr} {o : HO} (N : NetNew K C H H2 x n vs ts l c rs) (hh : H h = some o) (hx : H x = none) (k : ∀ b o, b ≠ h → H2 b = some o → H3 b = some o) : NetNew K C H H3 x n vs ts l c rs := by
  obtain ⟨dx, ob⟩ := N.ob
  exact ⟨⟨dx, k _ _ (ne_of_none hh hx).symm ob⟩, k _ _ (ne_of_none hh N.fl).symm N.ls, ⟨k _ _ (ne_of_none hh N.fc).symm N.mat.top, fun i hi => k _ _ (ne_of_none hh (N.fr i hi)).symm (N.mat.row i hi), N.mat.inj⟩, N.fl, N.fc, N.fr⟩
def sp_Net_ties (K : PySem.W.Frag) (C : Addr) : Sp := fun vs H Q _ => ∃ (x : Addr) (n : Nat) (ts : List Tie), vs = [.ref x] ∧ NetAt K C H x n ts ∧ ∀ xs, TiesV K H xs ts → RetL xs H Q
theorem tie_ties {C : Addr} {n : Nat} {ts : List Tie} {x : Addr} {H : Hp} {Q : VK} (N : NetAt K C H x n ts) (k : ∀ xs, TiesV K H xs ts → RetL xs H Q) {E : XK} : sp_Net_ties K C [.ref x] H Q E := ⟨x, n, ts, rfl, N, k⟩
theorem ok_Net_ties (T : Wd K mg) : FnOk P w K mg base CX0 1 T.f_Net_ties T.d_Net_ties ["self"] (sp_Net_ties K T.C_Net) := by
  refine T.F_Net_ties.ok sc_Net_ties (fun vs H Q E h => ?_) (fun cdv A outer s H vs Q E hr h => ?_)
  · obtain ⟨x, n, ts, rfl, _⟩ := h
    rfl
  · obtain ⟨x, n, ts, rfl, N, k⟩ := h
    obtain ⟨dx, l, c, hx, ⟨xs, hl, tz⟩, hm⟩ := N.ob
    refine ⟨_, (pss_one (ps_ret (pe_callTy call_list_of (by rfl) T.n_list (by decide +kernel) (pa_cons (pe_fld (pv 0) rfl) pa_nil)))), ?_⟩
    refine p_retL (Ex.refl H) (el_list (ev_fld (ev_var rfl) hx T.cl_Net T.na_Net__ties netF_ties) (sq_of hl)) (k xs tz)
def sp_Net_between (K : PySem.W.Frag) (C : Addr) : Sp := fun vs H Q _ => ∃ (x : Addr) (n : Nat) (ts : List Tie) (i j : Nat), vs = [.ref x, .int i, .int j] ∧ NetAt K C H x n ts ∧ i < n ∧ j < n ∧ i ≠ j ∧ RetV (.int (costM ts i j)) H Q
theorem sv_between {C : Addr} {n : Nat} {ts : List Tie} {x : Addr} {H : Hp} {i j : Nat} (N : NetAt K C H x n ts) (hi : i < n) (hj : j < n) (hn : i ≠ j) : SpV (sp_Net_between K C) [.ref x, .int i, .int j] H (.int (costM ts i j)) := fun H1 e Q q E => ⟨x, n, ts, i, j, rfl, N.ex e, hi, hj, hn, q⟩
theorem ok_Net_between (T : Wd K mg) : FnOk P w K mg base CX0 5 T.f_Net_between T.d_Net_between ["self", "one", "other"] (sp_Net_between K T.C_Net) := by
  have G_check_two := ok_check_two (P := P) (w := w) (base := base) T
  refine T.F_Net_between.ok sc_Net_between (fun vs H Q E h => ?_) (fun cdv A outer s H vs Q E hr h => ?_)
  · obtain ⟨x, n, ts, i, j, rfl, _⟩ := h
    rfl
  · obtain ⟨x, n, ts, i, j, rfl, N, hi, hj, hn, k⟩ := h
    obtain ⟨dx, l, c, hx, ⟨xs, hl, tz⟩, rs, hm⟩ := N.ob
    obtain ⟨g1, g2, g3, g4⟩ := hm.get (K := K) hi hj
    refine ⟨_, (pss_cons (ps_expr (pe_call G_check_two (hr.mono (by decide)) (by rfl) T.m_check_two T.F_check_two.kp T.b_check_two .nil pass0 (pa_cons (pe_fld (pv 0) rfl) (pa_cons (pv 1) (pa_cons (pv 2) pa_nil))))) (pss_one (ps_ret (pe_ix ix_list (pe_ix ix_list (pe_fld (pv 0) rfl) (pv 1) (fun _ _ => rfl)) (pv 2) (fun _ _ => rfl))))), ?_⟩
    refine p_drop (Ex.refl H) (ev_call (ea_cons (ev_fld (ev_var rfl) hx T.cl_Net T.na_Net_many netF_many) (ea_cons (ev_var rfl) (ea_cons (ev_var rfl) ea_nil))) (sv_check_two hi hj hn)) fun H1 e1 _ => ?_
    exact p_ret e1 (ev_op (ev_op (ev_fld (ev_var rfl) hx T.cl_Net T.na_Net__costs netF_costs) (ev_var rfl) (rv_ixL g1 g2)) (ev_var rfl) (rv_ixL g3 g4)) k
/-- the places to which a tie leads -/
def besideOf (n : Nat) (ts : List Tie) (i : Nat) : List Nat := (List.range n).filter fun j => decide (costM ts i j > 0)
def sp_Net_beside (K : PySem.W.Frag) (C : Addr) : Sp := fun vs H Q _ => ∃ (x : Addr) (n : Nat) (ts : List Tie) (i : Nat), vs = [.ref x, .int i] ∧ NetAt K C H x n ts ∧ i < n ∧ RetL (IL (besideOf n ts i)) H Q
theorem sl_beside {C : Addr} {n : Nat} {ts : List Tie} {x : Addr} {H : Hp} {i : Nat} (N : NetAt K C H x n ts) (hi : i < n) : SpL (sp_Net_beside K C) [.ref x, .int i] H (IL (besideOf n ts i)) := fun H1 e Q q E => ⟨x, n, ts, i, rfl, N.ex e, hi, fun p H2 hp e2 h2 => q p H2 hp e2 h2⟩
def sp_Net_price (K : PySem.W.Frag) (C : Addr) : Sp := fun vs H Q _ => ∃ (x : Addr) (n : Nat) (ts : List Tie) (a : Addr) (ns : List Nat), vs = [.ref x, .ref a] ∧ NetAt K C H x n ts ∧ SqL K H a (IL ns) ∧ (∀ p ∈ ns, p < n) ∧ ns.Nodup ∧ ns.length ≤ 4000 ∧ RetV (.int (cutP ts ns)) H Q
theorem sv_price {C : Addr} {n : Nat} {ts : List Tie} {x a : Addr} {H : Hp} {ns : List Nat} (N : NetAt K C H x n ts) (hl : SqL K H a (IL ns)) (hp : ∀ p ∈ ns, p < n) (nd : ns.Nodup) (hz : ns.length ≤ 4000) : SpV (sp_Net_price K C) [.ref x, .ref a] H (.int (cutP ts ns)) := fun H1 e Q q E => ⟨x, n, ts, a, ns, rfl, N.ex e, ex_l e hl, hp, nd, hz, q⟩
theorem ok_Net_price (T : Wd K mg) : FnOk P w K mg base CX0 4 T.f_Net_price T.d_Net_price ["self", "side"] (sp_Net_price K T.C_Net) := by
  have G_check_side := ok_check_side (P := P) (w := w) (base := base) T
  refine T.F_Net_price.ok sc_Net_price (fun vs H Q E h => ?_) (fun cdv A outer s H vs Q E hr h => ?_)
  · obtain ⟨x, n, ts, a, ns, rfl, _⟩ := h
    rfl
  · obtain ⟨x, n, ts, a, ns, rfl, N, hs, hp, nd, hz, k⟩ := h
    obtain ⟨dx, l, c, hx, ⟨xs, hl, tz⟩, rs, hm⟩ := N.ob
    refine ⟨_, (pss_cons (ps_expr (pe_call G_check_side (hr.mono (by decide)) (by rfl) T.m_check_side T.F_check_side.kp T.b_check_side .nil pass0 (pa_cons (pe_fld (pv 0) rfl) (pa_cons (pv 1) pa_nil)))) (pss_cons (ps_set (i := 2) sc_Net_price.nd rfl (Or.inl rfl) pe_int) (pss_cons (ps_for PassesOwn.never rfl (pi_list (pe_fld (pv 0) rfl)) (pg_tup (by rfl) (pgs_cons (pg_name (i := 3) sc_Net_price.nd rfl (Or.inl rfl)) (pgs_cons (pg_name (i := 4) sc_Net_price.nd rfl (Or.inl rfl)) (pgs_cons (pg_name (i := 5) sc_Net_price.nd rfl (Or.inl rfl)) pgs_nil)))) (pss_one (ps_if (pt_cmpR op_ne (pe_cmpR op_in_seq (pv 3) (pv 1) (by rfl)) (pe_cmpR op_in_seq (pv 4) (pv 1) (by rfl)) (nomark _)) (pss_one (ps_aug (i := 2) sc_Net_price.nd rfl (Or.inl rfl) (pv 5) ip_add)) pss_nil))) (pss_one (ps_ret (pv 2)))))), ?_⟩
    refine p_drop (Ex.refl H) (ev_call (ea_cons (ev_fld (ev_var rfl) hx T.cl_Net T.na_Net_many netF_many) (ea_cons (ev_var rfl) ea_nil)) (sv_check_side hs hp nd hz)) fun H1 e1 _ => ?_
    refine p_asg e1 ev_c fun H2 e2 _ => ?_
    refine q_forL (xs := xs) ((ev_fld (ev_var rfl) hx T.cl_Net T.na_Net__ties netF_ties : Ev _ _ H (.ref l)).mono e2) (ex_l e2 (sq_of hl)) (fun i σ' H' => Ex H H' ∧ ∃ u v z, σ' = [some (.ref x), some (.ref a), some (.int (cutP (ts.take i) ns)), u, v, z]) (fun H1 e1 => ⟨e2.trans e1, _, _, _, rfl⟩) (fun i σ' H' _ p => ex_l p.1 (sq_of hl)) ?_ ?_
    · rintro i y σ' H' hy ⟨e, u, v, z, rfl⟩
      obtain ⟨t, q, ht, rfl, hq⟩ := tz.get hy
      refine ⟨q, _, rfl, ex_t e hq, rfl, _, _, rfl, _, _, rfl, _, _, rfl, rfl, ?_⟩
      have et : cutP (ts.take (i + 1)) ns = cutP (ts.take i) ns + if (decide (t.1 ∈ ns) != decide (t.2.1 ∈ ns)) = true then t.2.2 else 0 := by
        unfold cutP
        rw [take_snoc ht, sum_map_append]
        simp
      refine p_whenE (b := decide (t.1 ∈ ns) != decide (t.2.1 ∈ ns)) e (et_is (et_test (ev_op (ev_inIL (ev_var rfl) (ev_var rfl) hs) (ev_inIL (ev_var rfl) (ev_var rfl) hs) (rv_ne rfl))) bl_ne) (fun hb H3 e3 _ => ?_) (fun hb H3 e3 _ => ?_)
      · refine s_aug rfl (ev_var rfl) fun H4 e4 => ?_
        refine ⟨e3.trans e4, some (.int t.1), some (.int t.2.1), some (.int t.2.2), ?_⟩
        rw [et, if_pos hb]
        rfl
      · refine ⟨e3, some (.int t.1), some (.int t.2.1), some (.int t.2.2), ?_⟩
        rw [et, if_neg (by rw [hb]; decide), Int.add_zero]
        rfl
    · rintro σ' H' ⟨e, u, v, z, rfl⟩
      refine p_ret e (ev_var rfl) fun H1 e1 => ?_
      rw [tz.len, List.take_length]
      exact k H1 e1
theorem er_ties {C : Addr} {σ : L2.St} {H : Hp} {ta : TE} {x : Addr} {n : Nat} {ts : List Tie} {E : XK} (ha : Ev ta σ H (.ref x)) (N : NetAt K C H x n ts) : EvR (tMeth C "ties" (sp_Net_ties K C) [] E ta tNil) σ H (fun H1 v H2 => ∃ p xs, v = .ref p ∧ H1 p = none ∧ H2 p = some (.lst xs) ∧ TiesV K H2 xs ts) := fun H1 e Q q =>
  ha H1 e _ fun H2 e2 => by
    have N2 := N.ex (e.trans e2)
    obtain ⟨dx, l, c, hx, _⟩ := N2.ob
    exact ⟨x, dx, _, rfl, hx, netF_no (by decide +kernel) (by decide +kernel) (by decide +kernel), x, n, ts, rfl, N2, fun xs tz p H3 hp e3 h3 => q _ H3 (e2.trans e3) ⟨p, xs, rfl, fresh_back e2 hp, h3, tz.ex e3⟩⟩
theorem ev_between {C : Addr} {σ : L2.St} {H : Hp} {ta tb tc : TE} {x : Addr} {n : Nat} {ts : List Tie} {i j : Nat} {E : XK} (ha : Ev ta σ H (.ref x)) (hb : Ev tb σ H (.int (i : Int))) (hc : Ev tc σ H (.int (j : Int))) (N : NetAt K C H x n ts) (hi : i < n) (hj : j < n) (hn : i ≠ j) : Ev (tMeth C "between" (sp_Net_between K C) [] E ta (tCons tb (tCons tc tNil))) σ H (.int (costM ts i j)) := by
  obtain ⟨dx, l, c, hx, _⟩ := N.ob
  exact ev_meth ha hx (netF_no (by decide +kernel) (by decide +kernel) (by decide +kernel)) (ea_cons hb (ea_cons hc ea_nil)) (sv_between N hi hj hn)
theorem el_beside {C : Addr} {σ : L2.St} {H : Hp} {ta tb : TE} {x : Addr} {n : Nat} {ts : List Tie} {i : Nat} {E : XK} (ha : Ev ta σ H (.ref x)) (hb : Ev tb σ H (.int (i : Int))) (N : NetAt K C H x n ts) (hi : i < n) : EvL (tMeth C "beside" (sp_Net_beside K C) [] E ta (tCons tb tNil)) σ H (IL (besideOf n ts i)) := by
  obtain ⟨dx, l, c, hx, _⟩ := N.ob
  exact el_meth ha hx (netF_no (by decide +kernel) (by decide +kernel) (by decide +kernel)) (ea_cons hb ea_nil) (sl_beside N hi)
theorem ev_price {C : Addr} {σ : L2.St} {H : Hp} {ta tb : TE} {x a : Addr} {n : Nat} {ts : List Tie} {ns : List Nat} {E : XK} (ha : Ev ta σ H (.ref x)) (hb : Ev tb σ H (.ref a)) (N : NetAt K C H x n ts) (hl : SqL K H a (IL ns)) (hp : ∀ p ∈ ns, p < n) (nd : ns.Nodup) (hz : ns.length ≤ 4000) : Ev (tMeth C "price" (sp_Net_price K C) [] E ta (tCons tb tNil)) σ H (.int (cutP ts ns)) := by
  obtain ⟨dx, l, c, hx, _⟩ := N.ob
  exact ev_meth ha hx (netF_no (by decide +kernel) (by decide +kernel) (by decide +kernel)) (ea_cons hb ea_nil) (sv_price N hl hp nd hz)
theorem ev_priceN {C : Addr} {σ : L2.St} {H : Hp} {ta tb : TE} {x : Addr} {n : Nat} {ts : List Tie} {ns : List Nat} {E : XK} (ha : Ev ta σ H (.ref x)) (hb : EvL tb σ H (IL ns)) (N : NetAt K C H x n ts) (hp : ∀ p ∈ ns, p < n) (nd : ns.Nodup) (hz : ns.length ≤ 4000) : Ev (tMeth C "price" (sp_Net_price K C) [] E ta (tCons tb tNil)) σ H (.int (cutP ts ns)) := fun H1 e Q q =>
  ha H1 e _ fun H2 e2 => by
    obtain ⟨dx, l, c, hx, _⟩ := (N.ex (e.trans e2)).ob
    refine ⟨x, dx, _, rfl, hx, netF_no (by decide +kernel) (by decide +kernel) (by decide +kernel), ?_⟩
    exact hb H2 (e.trans e2) _ fun p H3 hp3 e3 h3 => ⟨x, n, ts, p, ns, rfl, N.ex ((e.trans e2).trans e3), sq_of h3, hp, nd, hz, fun H4 e4 => q H4 ((e2.trans e3).trans e4)⟩
theorem er_net {C : Addr} {σ : L2.St} {H : Hp} {ta : TA} {E : XK} {n : Nat} {l : Addr} {xs : List V} {ts : List Tie} (ha : EvA ta σ H [.int n, .ref l]) (h1 : 1 ≤ n) (h2 : n ≤ 24) (hl : SqL K H l xs) (tz : TiesV K H xs ts) (hn : ts.length ≤ 300) (g : ∀ t ∈ ts, Good n t) :
    EvR (tMake C (sp_Net_init K C) [] E ta) σ H (fun H1 v H2 => ∃ x l' c rs, v = .ref x ∧ H1 x = none ∧ NetNew K C H1 H2 x n xs ts l' c rs) := fun H1 e Q q =>
  make_net (fun H2 e2 Q q => ha H2 (e.trans e2) Q q) h1 h2 (ex_l e hl) (tz.ex e) hn g fun x l' c rs H2 hx e2 N => q _ H2 e2 ⟨x, l', c, rs, rfl, hx, N⟩
/-- Net(many, list(ties)), and its like: the list is made for the call -/
theorem er_netN {C : Addr} {σ : L2.St} {H : Hp} {ta tb : TE} {E : XK} {n : Nat} {xs : List V} {ts : List Tie} (ha : Ev ta σ H (.int (n : Int))) (hb : EvL tb σ H xs) (h1 : 1 ≤ n) (h2 : n ≤ 24) (tz : TiesV K H xs ts) (hn : ts.length ≤ 300) (g : ∀ t ∈ ts, Good n t) :
    EvR (tMake C (sp_Net_init K C) [] E (tCons ta (tCons tb tNil))) σ H (fun _ v H2 => ∃ x, v = .ref x ∧ NetAt K C H2 x n ts) := fun H1 e Q q =>
  ha H1 e _ fun H2 e2 => hb H2 (e.trans e2) _ fun l H3 hl e3 h3 => by
    have tz3 := tz.ex ((e.trans e2).trans e3)
    refine make_net (C := C) (ta := fun _ H Q => Q [.int (n : Int), .ref l] H) (σ := σ) (E := E) (fun H4 e4 Q q => q H4 (Ex.refl H4)) h1 h2 (sq_of h3) tz3 hn g fun x l' c rs H4 hx e4 N => q _ H4 ((e2.trans e3).trans e4) ⟨x, rfl, N.at_ (tz3.ex e4) h1 h2 hn g⟩
end
end Toy

namespace Toy
open PySem L2 TL Evl RZ G N
section
variable {P : Program} {w : World} {K : PySem.W.Frag} {mg : Str → Option Value} {base : Heap}
/-! ### flows -/
def sp_places_ahead : Sp := fun vs H Q _ => ∃ (p : Addr) (n : Nat) (L : Mat) (one other : Nat), vs = [.ref p, .int one, .int other] ∧ one < n ∧ n ≤ 24 ∧ MatAt H p n L ∧ ∀ d H2, H d = none → Ex H H2 → H2 d = some (.dK (kvOf (bfs L n one other))) → Q (.ref d) H2
def Wpa (H : Hp) (p d w : Addr) (n : Nat) (L : Mat) (one other : Nat) (m : Nat) (σ' : L2.St) (H' : Hp) : Prop := ∃ A q a5 a6 a7, σ' = [some (.ref p), some (.int one), some (.int other), some (.ref d), some (.ref w), a5, a6, a7] ∧ Ex H H' ∧ H' d = some (.dK (kvOf A)) ∧ H' w = some (DqI w (nI q)) ∧ Bf L n one A q ∧ q.length + (n - A.length) = m ∧ m ≤ n ∧ bfsLoop L n other m (A, q) = bfsLoop L n other n ([(one, one)], [one])
theorem ok_places_ahead (T : Wd K mg) : FnOk P w K mg base CX0 1 T.f_places_ahead T.d_places_ahead ["left", "one", "other"] (sp_places_ahead) := by
  refine T.F_places_ahead.ok sc_places_ahead (fun vs H Q E h => ?_) (fun cdv A outer s H vs Q E hr h => ?_)
  · obtain ⟨p, n, L, one, other, rfl, _⟩ := h
    rfl
  · obtain ⟨p, n, L, one, other, rfl, h1, hn, ⟨rs, hm⟩, k⟩ := h
    refine ⟨_, (pss_cons (ps_set (i := 3) sc_places_ahead.nd rfl (Or.inl rfl) (pe_disp (pps_cons (pv 1) (pv 1) pps_nil) (by rfl) (by rfl) (fun z => by cases z) (by decide))) (pss_cons (ps_set (i := 4) sc_places_ahead.nd rfl (Or.inl rfl) (pe_callGT (G.call_dq rfl) (by rfl) T.m_deque (pa_cons (pe_lst (pa_cons (pv 1) pa_nil)) pa_nil))) (pss_cons (ps_while PassesOwn.never (PW.pt (pw_and (pt_truthR (pv 4) G.tru_dq (by intro _; rfl)) (pw_and1 (pt_cmp (pc_dnotin (G.u1 hr) (pv 2) (pv 3)))))) (pss_cons (ps_set (i := 5) sc_places_ahead.nd rfl (Or.inl rfl) (G.pe_dm0 G.dq_slot_popleft G.dq_ty_popleft G.mt_dqPop (pv 4))) (pss_one (ps_for PassesOwn.never rfl (pi_enum (by rfl) T.n_enumerate (pa_cons (pe_ix ix_list (pv 0) (pv 5) (fun _ _ => rfl)) pa_nil)) (pg_tup (by rfl) (pgs_cons (pg_name (i := 6) sc_places_ahead.nd rfl (Or.inl rfl)) (pgs_cons (pg_name (i := 7) sc_places_ahead.nd rfl (Or.inl rfl)) pgs_nil))) (pss_one (ps_if (PW.pt (pw_and (pt_cmpR op_gt (pv 7) pe_int (nomark _)) (pw_and1 (pt_cmp (pc_dnotin (G.u1 hr) (pv 6) (pv 3)))))) (pss_cons (ps_dput (G.u1 hr) (pv 3) (pv 6) (pv 5) rfl) (pss_one (ps_expr (G.pe_dm G.dq_slot_append G.dq_ty_append G.mt_dqApp (pv 4) (pa_cons (pv 6) pa_nil))))) pss_nil)))))) (pss_one (ps_ret (pv 3)))))), ?_⟩
    refine p_asgR (Ex.refl H) (er_disp1 (k := Sum.inl (one : Int)) (v := .int one) (ev_var rfl) (ev_var rfl)) fun v H1 e1 _ r => ?_
    obtain ⟨d, rfl, hd, d1⟩ := r
    refine p_asgR (Ex.refl H1) (er_dqL (ns := [(one : Int)]) (el_lst (ea_cons (ev_var rfl) ea_nil) (Nat.le_of_ble_eq_true rfl))) fun v H2 e2 _ r => ?_
    obtain ⟨w, rfl, hw1, w2⟩ := r
    have hw : H w = none := fresh_back e1 hw1
    have ndw : d ≠ w := ne_of_none d1 hw1
    refine q_while (Wpa H p d w n L one other) n ⟨[(one, one)], [one], _, _, _, rfl, e1.trans e2, e2 _ _ d1, w2, Bf.init h1, by simp; omega, Nat.le_refl _, rfl⟩ ?_
    rintro m σ' H' ⟨A, q, a5, a6, a7, rfl, e, hd', hw', B, hmq, hmn, hb⟩
    refine ⟨decide (0 < (nI q).length) && !decide (other ∈ keys A), et_and (et_dq (ev_var rfl) hw' (by rw [nI_len]; omega)) (fun _ => et_test (ev_is (ev_dnin (k := Sum.inl (other : Int)) (ev_var rfl) (ev_var rfl) hd') (by rw [valV_some]))), fun hb1 H3 e3 => ?_, fun hb0 H3 e3 => ?_⟩
    · refine ⟨fun σ2 H2 => ∃ m', m' < m ∧ Wpa H p d w n L one other m' σ2 H2, fun _ _ h => h, ?_⟩
      have hb2 := Bool.and_eq_true_iff.mp hb1
      cases q with
      | nil => exact absurd (of_decide_eq_true hb2.1) (by decide)
      | cons x q =>
        have ho : other ∉ keys A := by simpa using hb2.2
        have xn : x < n := B.t.lt x (B.qs x (List.mem_cons_self ..))
        have hw3 := e3 _ _ hw'
        have hd3 := e3 _ _ hd'
        obtain ⟨B', hm'⟩ := B.turn
        have hql : q.length ≤ n := by rw [List.length_cons] at hmq; omega
        refine ⟨_, rfl, ⟨w, _, rfl, hw3⟩, w, (x : Int), nI q, rfl, rfl, hw3, sz_of (by rw [nI_len]; omega), ?_⟩
        have em : Ex H (upd H3 w (DqI w (nI q))) := Ex.mut (e.trans e3) hw
        refine s_forEn (a := rs x) (xs := lstOf n fun j => .int (L x j)) ((ev_op (ev_var rfl) (ev_var rfl) (rv_ixL (sq_of hm.top) (lstOf_at xn)) : Ev _ _ H _).mono em) (sq_of (em _ _ (hm.row x xn)))
          (fun i σ' H' => ∃ b6 b7, σ' = [some (.ref p), some (.int one), some (.int other), some (.ref d), some (.ref w), some (.int x), b6, b7] ∧ Ex H H' ∧ H' d = some (.dK (kvOf (scanTo L x (A, q) i).1)) ∧ H' w = some (DqI w (nI (scanTo L x (A, q) i).2))) ?_ ?_ ?_ ?_
        · intro H4 e4
          exact ⟨_, _, rfl, em.trans e4, e4 _ _ (by rw [upd_ne ndw]; exact hd3), e4 _ _ upd_same⟩
        · rintro i σ' H4 hi ⟨b6, b7, rfl, e4, d4, w4⟩
          exact sq_of (e4 _ _ (hm.row x xn))
        · rintro i y T σ' H4 hy ⟨b6, b7, rfl, e4, d4, w4⟩ hT
          have hi : i < n := by
            have := (List.getElem?_eq_some_iff.mp hy).1
            rw [lstOf_len] at this
            exact this
          rw [lstOf_get hi] at hy
          obtain rfl := Option.some.inj hy
          have d5 := (Ex.new (o := .tup [.int (i : Int), .int (L x i)]) hT) _ _ d4
          have w5 := (Ex.new (o := .tup [.int (i : Int), .int (L x i)]) hT) _ _ w4
          have e5 := e4.trans (Ex.new (o := .tup [.int (i : Int), .int (L x i)]) hT)
          refine ⟨T, _, rfl, st_of upd_same, rfl, _, _, rfl, _, _, rfl, rfl, ?_⟩
          generalize upd H4 T (.tup [.int (i : Int), .int (L x i)]) = H5 at d5 w5 e5 ⊢
          obtain ⟨S1, S2⟩ := B.start.to (i + 1) hi
          obtain ⟨Z1, Z2⟩ := B.start.to i (Nat.le_of_lt hi)
          have st := scanTo_succ (L := L) (p := x) (st := (A, q)) (i := i)
          generalize scanTo L x (A, q) i = W at d5 w5 st Z1 Z2 ⊢
          generalize scanTo L x (A, q) (i + 1) = W2 at st S1 S2 ⊢
          have z1 := Z1.t.len
          unfold scanStep at st
          refine p_whenE (b := decide (0 < L x i) && !decide (i ∈ keys W.1)) (Ex.refl H5) (et_and (et_test (ev_op (ev_var rfl) ev_c rv_I0)) (fun _ => et_test (ev_is (ev_dnin (k := Sum.inl (i : Int)) (ev_var rfl) (ev_var rfl) d5) (by rw [valV_some])))) (fun hb H6 e6 _ => ?_) (fun hb H6 e6 _ => ?_)
          · have hb3 := Bool.and_eq_true_iff.mp hb
            have c1 : 0 < L x i := of_decide_eq_true hb3.1
            have c2 : i ∉ keys W.1 := by simpa using hb3.2
            rw [if_pos ⟨c1, c2⟩] at st
            subst st
            have d6 := e6 _ _ d5
            have w6 := e6 _ _ w5
            refine ⟨_, rfl, _, rfl, _, rfl, d, _, rfl, .k (k := Sum.inl (i : Int)) d6 (sz_lt (by rw [kvOf_len]; omega)), ?_⟩
            rw [putK_kv c2]
            have w7 : upd H6 d (.dK (kvOf (W.1 ++ [(i, x)]))) w = some (DqI w (nI W.2)) := by rw [upd_ne ndw.symm]; exact w6
            refine ⟨_, rfl, ⟨w, _, rfl, w7⟩, _, rfl, w, _, (i : Int), rfl, rfl, w7, sz_lt (by rw [nI_len]; have := Z2; omega), ?_⟩
            refine ⟨_, _, rfl, Ex.mut (Ex.mut (e5.trans e6) hd) hw, ?_, ?_⟩
            · rw [upd_ne ndw, upd_same]
            · rw [upd_same, nI_app]
              rfl
          · have c : ¬ (0 < L x i ∧ i ∉ keys W.1) := fun z => by
              rw [decide_eq_true z.1, decide_eq_false z.2] at hb
              cases hb
            rw [if_neg c] at st
            subst st
            exact ⟨_, _, rfl, e5.trans e6, e6 _ _ d5, e6 _ _ w5⟩
        · rintro σ' H4 ⟨b6, b7, rfl, e4, d4, w4⟩
          rw [lstOf_len] at d4 w4
          have hml : (x :: q).length = q.length + 1 := rfl
          refine ⟨(scanTo L x (A, q) n).2.length + (n - (scanTo L x (A, q) n).1.length), by omega, _, _, _, _, _, rfl, e4, d4, w4, B', rfl, by omega, ?_⟩
          rw [← hb]
          obtain ⟨m1, rfl⟩ : ∃ m1, m = m1 + 1 := ⟨m - 1, by omega⟩
          have em1 : (scanTo L x (A, q) n).2.length + (n - (scanTo L x (A, q) n).1.length) = m1 := by omega
          rw [em1]
          show _ = (if other ∈ keys A then (A, x :: q) else bfsLoop L n other m1 (scanTo L x (A, q) n))
          rw [if_neg ho]
    · refine p_ret (Ex.refl H3) (ev_var rfl) fun H4 e4 => k d H4 hd ((e.trans e3).trans e4) ?_
      have hA : bfs L n one other = A := by
        unfold bfs
        rw [← hb]
        cases m with
        | zero => rfl
        | succ m =>
          cases q with
          | nil => rfl
          | cons x q =>
            show (if other ∈ keys A then (A, x :: q) else bfsLoop L n other m (scanTo L x (A, q) n)).1 = A
            by_cases c : other ∈ keys A
            · rw [if_pos c]
            · rw [decide_eq_false c, nI_len] at hb0
              simp at hb0
      rw [hA]
      exact e4 _ _ (e3 _ _ hd')
theorem er_ahead {σ : L2.St} {H : Hp} {ta tb tc : TE} {E : XK} {p : Addr} {n : Nat} {L : Mat} {one other : Nat} (ha : Ev ta σ H (.ref p)) (hb : Ev tb σ H (.int (one : Int))) (hc : Ev tc σ H (.int (other : Int))) (h1 : one < n) (hn : n ≤ 24) (hm : MatAt H p n L) :
    EvR (tCall sp_places_ahead [] E (tCons ta (tCons tb (tCons tc tNil)))) σ H (fun H1 v H2 => ∃ d, v = .ref d ∧ H1 d = none ∧ H2 d = some (.dK (kvOf (bfs L n one other)))) := fun H1 e Q q =>
  ha H1 e _ fun H2 e2 => hb H2 (e.trans e2) _ fun H3 e3 => hc H3 ((e.trans e2).trans e3) _ fun H4 e4 => ⟨p, n, L, one, other, rfl, h1, hn, hm.ex (((e.trans e2).trans e3).trans e4), fun d H5 hd e5 h5 => q _ H5 (((e2.trans e3).trans e4).trans e5) ⟨d, rfl, fresh_back ((e2.trans e3).trans e4) hd, h5⟩⟩
end
end Toy

namespace Toy
open PySem L2 TL Evl RZ G N
section
variable {P : Program} {w : World} {K : PySem.W.Frag} {mg : Str → Option Value} {base : Heap}
def sp_shortest_way (K : PySem.W.Frag) : Sp := fun vs H Q _ => ∃ (p : Addr) (n : Nat) (L : Mat) (one other : Nat), vs = [.ref p, .int one, .int other] ∧ one < n ∧ other < n ∧ n ≤ 24 ∧ MatAt H p n L ∧ ∀ l xs H2, H l = none → Ex H H2 → H2 l = some (.lst xs) → TupsV K H2 xs ((way L n one other).map pv) → Q (.ref l) H2
def Wsw (K : PySem.W.Frag) (H : Hp) (p d l : Addr) (n : Nat) (A : Al) (one other : Nat) (m : Nat) (σ' : L2.St) (H' : Hp) : Prop := ∃ k r ps xs f, σ' = [some (.ref p), some (.int one), some (.int other), some (.ref d), some (.ref l), some (.int (k : Nat))] ∧ Ex H H' ∧ H' d = some (.dK (kvOf A)) ∧ H' l = some (.lst xs) ∧ TupsV K H' xs (ps.map pv) ∧ A[m]? = some (k, r) ∧ m < f ∧ ps ++ back A one f k = back A one n other ∧ ps.length + m < n
theorem ok_shortest_way (T : Wd K mg) : FnOk P w K mg base CX0 2 T.f_shortest_way T.d_shortest_way ["left", "one", "other"] (sp_shortest_way K) := by
  have G_places_ahead := ok_places_ahead (P := P) (w := w) (base := base) T
  refine T.F_shortest_way.ok sc_shortest_way (fun vs H Q E h => ?_) (fun cdv A outer s H vs Q E hr h => ?_)
  · obtain ⟨p, n, L, one, other, rfl, _⟩ := h
    rfl
  · obtain ⟨p, n, L, one, other, rfl, h1, h2, hn, hm, k⟩ := h
    refine ⟨_, (pss_cons (ps_set (i := 3) sc_shortest_way.nd rfl (Or.inl rfl) (pe_call G_places_ahead (hr.mono (by decide)) (by rfl) T.m_places_ahead T.F_places_ahead.kp T.b_places_ahead .nil pass0 (pa_cons (pv 0) (pa_cons (pv 1) (pa_cons (pv 2) pa_nil))))) (pss_cons (ps_set (i := 4) sc_shortest_way.nd rfl (Or.inl rfl) (pe_lst pa_nil)) (pss_cons (ps_if (pt_cmp (pc_dnotin (G.u1 hr) (pv 2) (pv 3))) (pss_one (ps_ret (pv 4))) pss_nil) (pss_cons (ps_set (i := 5) sc_shortest_way.nd rfl (Or.inl rfl) (pv 2)) (pss_cons (ps_while PassesOwn.never (pt_cmpR op_ne (pv 5) (pv 1) (nomark _)) (pss_cons (ps_expr (pe_bm PySem.F.plainAttrs_list PySem.F.slot_list_append PySem.F.type_list_append mt_append (pv 4) (pa_cons (pe_tup (pa_cons (pe_dget (G.u1 hr) (pv 3) (pv 5) (fun _ _ => rfl)) (pa_cons (pv 5) pa_nil))) pa_nil))) (pss_one (ps_set (i := 5) sc_shortest_way.nd rfl (Or.inl rfl) (pe_dget (G.u1 hr) (pv 3) (pv 5) (fun _ _ => rfl)))))) (pss_one (ps_ret (pv 4)))))))), ?_⟩
    refine p_asgR (Ex.refl H) (er_ahead (ev_var rfl) (ev_var rfl) (ev_var rfl) h1 hn hm) fun v H1 e1 _ r => ?_
    obtain ⟨d, rfl, hd, d1⟩ := r
    have bt := bfs_bt (L := L) (other := other) h1
    unfold way at k
    generalize bfs L n one other = A at bt d1 k
    refine p_asgL (Ex.refl H1) (el_lst ea_nil (Nat.zero_le _)) fun l H2 hl1 e2 _ hl2 => ?_
    have hl : H l = none := fresh_back e1 hl1
    have ndl : d ≠ l := ne_of_none d1 hl1
    have d2 := e2 _ _ d1
    refine p_when (b := !decide (other ∈ keys A)) (Ex.refl H2) (et_test (ev_is (ev_dnin (k := Sum.inl (other : Int)) (ev_var rfl) (ev_var rfl) d2) (by rw [valV_some]))) (fun hb H3 e3 _ => ?_) (fun hb H3 e3 _ => ?_)
    · have c : other ∉ keys A := by simpa using hb
      rw [if_neg c] at k
      refine p_ret (Ex.refl H3) (ev_var rfl) fun H4 e4 => k l [] H4 hl (((e1.trans e2).trans e3).trans e4) (e4 _ _ (e3 _ _ hl2)) .nil
    · have c : other ∈ keys A := by simpa using hb
      rw [if_pos c] at k
      refine p_asg (Ex.refl H3) (ev_var rfl) fun H4 e4 _ => ?_
      obtain ⟨i, r, hi⟩ := keys_mem c
      have hil := (List.getElem?_eq_some_iff.mp hi).1
      have al := bt.len
      refine q_while (Wsw K H p d l n A one other) i ⟨other, r, [], [], n, rfl, ((e1.trans e2).trans e3).trans e4, e4 _ _ (e3 _ _ d2), e4 _ _ (e3 _ _ hl2), .nil, hi, by omega, rfl, by show 0 + i < n; omega⟩ ?_
      rintro m σ' H' ⟨x, r, ps, xs, f, rfl, e, hd', hl', tz, hx, hmf, hb, hps⟩
      refine ⟨!decide (V.int (x : Int) = V.int (one : Int)), et_test (ev_op (ev_var rfl) (ev_var rfl) (rv_ne rfl)), fun hb1 H5 e5 => ?_, fun hb0 H5 e5 => ?_⟩
      · refine ⟨fun σ2 H2 => ∃ m', m' < m ∧ Wsw K H p d l n A one other m' σ2 H2, fun _ _ h => h, ?_⟩
        have hne : x ≠ one := fun z => by subst z; simp at hb1
        have h0 : 0 < m := by
          cases m with
          | zero =>
            rw [bt.hd] at hx
            exact absurd (congrArg Prod.fst (Option.some.inj hx)).symm hne
          | succ m => exact Nat.succ_pos _
        obtain ⟨⟨i', p', hi', hp'⟩, _⟩ := bt.pr m x r hx h0
        have ep : par A x = r := par_at bt.nd hx
        have hv : valV (kvOf A) (Sum.inl (x : Int)) = some (.int (r : Int)) := by rw [valV_kv, if_pos (mem_keys hx), ep]
        have hd5 := e5 _ _ hd'
        refine q_appU (xs := xs) (ys := pv (r, x)) (e5 _ _ hl') (ev_var rfl) (eu_tup (ea_cons (ev_dget (k := Sum.inl (x : Int)) (ev_var rfl) (ev_var rfl) hd5 hv) (ea_cons (ev_var rfl) ea_nil)) (Nat.le_of_ble_eq_true rfl)) (by rw [tz.len, List.length_map]; omega) fun t H6 ht e6 h6 => ?_
        have hd6 := e6 _ _ hd5
        have hl6 := e6 _ _ (e5 _ _ hl')
        have tz6 := (tz.ex (e5.trans e6)).snoc (v := .ref t) (xs := pv (r, x)) ⟨t, rfl, st_of h6⟩
        have hd7 : upd H6 l (.lst (xs ++ [.ref t])) d = some (.dK (kvOf A)) := by rw [upd_ne ndl]; exact hd6
        refine s_asg (ev_dget (k := Sum.inl (x : Int)) (ev_var rfl) (ev_var rfl) hd7 hv) fun H7 e7 => ?_
        refine ⟨i', hi', r, p', ps ++ [(r, x)], xs ++ [.ref t], f - 1, rfl, (Ex.mut ((e.trans e5).trans e6) hl).trans e7, e7 _ _ hd7, e7 _ _ upd_same, ?_, hp', by omega, ?_, by rw [List.length_append]; show ps.length + 1 + i' < n; omega⟩
        · rw [List.map_append]
          exact (tz6.updL hl6).ex e7
        · rw [← hb]
          obtain ⟨f, rfl⟩ : ∃ g, f = g + 1 := ⟨f - 1, by omega⟩
          rw [List.append_assoc]
          congr 1
          show (r, x) :: back A one f r = if x = one then [] else (par A x, x) :: back A one f (par A x)
          rw [if_neg hne, ep]
      · have he : x = one := by
          simp at hb0
          omega
        refine p_ret (Ex.refl H5) (ev_var rfl) fun H6 e6 => k l xs H6 hl ((e.trans e5).trans e6) (e6 _ _ (e5 _ _ hl')) ?_
        have eb : back A one n other = ps := by
          rw [← hb]
          obtain ⟨f, rfl⟩ : ∃ g, f = g + 1 := ⟨f - 1, by omega⟩
          show ps ++ (if x = one then [] else (par A x, x) :: back A one f (par A x)) = ps
          rw [if_pos he, List.append_nil]
        rw [eb]
        exact tz.ex (e5.trans e6)
theorem er_way {σ : L2.St} {H : Hp} {ta tb tc : TE} {E : XK} {p : Addr} {n : Nat} {L : Mat} {one other : Nat} (ha : Ev ta σ H (.ref p)) (hb : Ev tb σ H (.int (one : Int))) (hc : Ev tc σ H (.int (other : Int))) (h1 : one < n) (h2 : other < n) (hn : n ≤ 24) (hm : MatAt H p n L) :
    EvR (tCall (sp_shortest_way K) [] E (tCons ta (tCons tb (tCons tc tNil)))) σ H (fun H1 v H2 => ∃ l xs, v = .ref l ∧ H1 l = none ∧ H2 l = some (.lst xs) ∧ TupsV K H2 xs ((way L n one other).map pv)) := fun H1 e Q q =>
  ha H1 e _ fun H2 e2 => hb H2 (e.trans e2) _ fun H3 e3 => hc H3 ((e.trans e2).trans e3) _ fun H4 e4 => ⟨p, n, L, one, other, rfl, h1, h2, hn, hm.ex (((e.trans e2).trans e3).trans e4), fun l xs H5 hl e5 h5 tz => q _ H5 (((e2.trans e3).trans e4).trans e5) ⟨l, xs, rfl, fresh_back ((e2.trans e3).trans e4) hl, h5, tz⟩⟩
def sp_run_along (K : PySem.W.Frag) : Sp := fun vs H Q _ => ∃ (p l : Addr) (n : Nat) (rs : Nat → Addr) (L : Mat) (xs : List V) (ps : List (Nat × Nat)), vs = [.ref p, .ref l] ∧ MatR H p n rs L ∧ H l = some (.lst xs) ∧ TupsV K H xs (ps.map pv) ∧ ps ≠ [] ∧ (∀ e ∈ ps, e.1 < n ∧ e.2 < n) ∧ ps.length ≤ 1000 ∧
  ∀ H2, MatR H2 p n rs (runP (amt L ps) L ps) → (∀ b o, (∀ i, i < n → b ≠ rs i) → H b = some o → H2 b = some o) → Q .non H2
theorem ok_run_along (T : Wd K mg) : FnOk P w K mg base CX0 1 T.f_run_along T.d_run_along ["left", "pairs"] (sp_run_along K) := by
  refine T.F_run_along.ok sc_run_along (fun vs H Q E h => ?_) (fun cdv A outer s H vs Q E hr h => ?_)
  · obtain ⟨p, l, n, rs, L, xs, ps, rfl, _⟩ := h
    rfl
  · obtain ⟨p, l, n, rs, L, xs, ps, rfl, hm, hl, tz, hne, hlt, hz, k⟩ := h
    refine ⟨_, (pss_cons (ps_set (i := 2) sc_run_along.nd rfl (Or.inl rfl) (pe_callB (cr_min rfl) (by rfl) T.n_min (by decide +kernel) (pa_cons (pe_lc (own := [("here", 3), ("there", 4)]) (g := (gTup K 2 (gCons (gName 3) (gCons (gName 4) gNil)))) (tt := tYes) rfl sc_run_along.nd (pi_list (pv 1)) (blkOk_by (own := [("here", 3), ("there", 4)]) (N := ["left", "pairs", "amount", "here", "there"]) (sc := defScope s_run_along) (by decide +kernel)) (fun _ _ _ _ _ => (G.kn_pg_tup (K := K) rfl (by rfl) (pgs_cons (pg_name (i := 3) sc_run_along.nd rfl (Or.inl rfl)) (pgs_cons (pg_name (i := 4) sc_run_along.nd rfl (Or.inl rfl)) pgs_nil)))) (fun _ _ _ _ _ => pts_nil) (fun _ _ _ _ _ => (pe_ix (show IxR _ (rIxL K) from ix_list) (pe_ix (show IxR _ (rIxL K) from ix_list) (pv 0) (pv 3) (fun _ _ => rfl)) (pv 4) (fun _ _ => rfl)))) pa_nil))) (pss_one (ps_for PassesOwn.never rfl (pi_list (pv 1)) (pg_tup (by rfl) (pgs_cons (pg_name (i := 3) sc_run_along.nd rfl (Or.inl rfl)) (pgs_cons (pg_name (i := 4) sc_run_along.nd rfl (Or.inl rfl)) pgs_nil))) (pss_cons (ps_augS (pe_ix ix_list (pv 0) (pv 3) (fun _ _ => rfl)) (pv 4) G.pg_list (pv 2) ip_sub set_list) (pss_one (ps_augS (pe_ix ix_list (pv 0) (pv 4) (fun _ _ => rfl)) (pv 3) G.pg_list (pv 2) ip_add set_list)))))), ?_⟩
    have hlen : xs.length = ps.length := by rw [tz.len, List.length_map]
    have get : ∀ {i : Nat} {x : V}, xs[i]? = some x → ∃ e a, ps[i]? = some e ∧ x = .ref a ∧ SqT K H a (pv e) := fun {i x} hx => by
      obtain ⟨ys, a, h1, h2, h3⟩ := tz.get hx
      rw [List.getElem?_map] at h1
      cases he : ps[i]? with
      | none => rw [he] at h1; cases h1
      | some e =>
        rw [he] at h1
        obtain rfl := Option.some.inj h1
        exact ⟨e, a, rfl, h2, h3⟩
    have hnl : ∀ i, i < n → l ≠ rs i := fun i hi => ne_of hl (hm.row i hi) fun q => by
      have e := HO.lst.inj q
      have h0 : 0 < xs.length := by
        rw [hlen]
        exact List.length_pos_iff.mpr hne
      obtain ⟨e0, a, _, hx, _⟩ := get (List.getElem?_eq_getElem h0)
      have h1 : xs[0]? = some (V.ref a) := by rw [List.getElem?_eq_getElem h0, hx]
      rw [e, lstOf_get (by omega)] at h1
      cases h1
    refine p_asg (Ex.refl H) (ev_minL (ns := ps.map fun e => L e.1 e.2) (m := amt L ps) (el_is (el_lcLg (fun _ => true) (fun i => .int (L (ps.getD i (0, 0)).1 (ps.getD i (0, 0)).2)) (ev_var rfl) (sq_of hl) (by omega) ?_) ?_) ?_ ?_) fun H1 e1 _ => ?_
    · intro i x hx
      obtain ⟨e, a, he, rfl, ha⟩ := get hx
      have eg : ps.getD i (0, 0) = e := by simp [List.getD, he]
      obtain ⟨b1, b2⟩ := hlt e (List.mem_of_getElem? he)
      refine ⟨_, ?w, fun H2 Q e2 q => ⟨a, _, rfl, ex_t e2 ha, rfl, _, _, rfl, _, _, rfl, rfl, q⟩, et_yes, fun _ => ?_⟩
      case w => rfl
      obtain ⟨g1, g2, g3, g4⟩ := hm.get (K := K) b1 b2
      rw [eg]
      exact ev_op (ev_op (ev_var rfl) (ev_var rfl) (rv_ixL g1 g2)) (ev_var rfl) (rv_ixL g3 g4)
    · rw [hlen, List.map_map]
      exact given_map (fun e : Nat × Nat => V.int (L e.1 e.2)) (0, 0) ps
    · obtain ⟨e, a, b⟩ := amt_mem (L := L) hne
      exact List.mem_map.mpr ⟨e, a, b.symm⟩
    · intro y hy
      obtain ⟨e, a, rfl⟩ := List.mem_map.mp hy
      exact amt_le a
    · have hm1 := hm.ex e1
      refine s_forL (xs := xs) ((ev_var rfl : Ev _ _ H1 (.ref l))) (sq_of (e1 _ _ hl)) (fun i σ' H' => MatR H' p n rs (runP (amt L ps) L (ps.take i)) ∧ (∀ b o, (∀ i, i < n → b ≠ rs i) → H b = some o → H' b = some o) ∧ TupsV K H' xs (ps.map pv) ∧ ∃ a b, σ' = [some (.ref p), some (.ref l), some (.int (amt L ps)), a, b]) (fun H2 e2 => ⟨hm1.ex e2, fun b o _ h => e2 _ _ (e1 _ _ h), tz.ex (e1.trans e2), _, _, rfl⟩) (fun i σ' H' _ p => sq_of (p.2.1 l _ hnl hl)) ?_ ?_
      · rintro i x σ' H' hx ⟨R, kk, tz', a, b, rfl⟩
        obtain ⟨e, c, he, rfl, _⟩ := get hx
        obtain ⟨c', hc', hcc⟩ := tz'.at_ i (.ref c) (pv e) hx (by rw [List.getElem?_map, he]; rfl)
        cases hc'
        obtain ⟨b1, b2⟩ := hlt e (List.mem_of_getElem? he)
        refine ⟨c, _, rfl, hcc, rfl, _, _, rfl, _, _, rfl, rfl, ?_⟩
        refine mat_aug (pi := 0) (ii := 3) (ji := 4) (zi := 2) rfl rfl rfl rfl R b1 b2 fun H2 R2 k2 => ?_
        refine mat_aug (pi := 0) (ii := 4) (ji := 3) (zi := 2) rfl rfl rfl rfl R2 b2 b1 fun H3 R3 k3 => ?_
        refine ⟨?_, fun b o hb h => k3 b o (hb _ b2) (k2 b o (hb _ b1) (kk b o hb h)), (tz'.but (R.row _ b1) k2).but (R2.row _ b2) k3, _, _, rfl⟩
        rw [take_snoc he]
        have er : runP (amt L ps) L (ps.take i ++ [e]) = runP1 (amt L ps) (runP (amt L ps) L (ps.take i)) e := by unfold runP; rw [List.foldl_append]; rfl
        rw [er]
        exact R3
      · rintro σ' H' ⟨R, kk, tz', a, b, rfl⟩
        rw [hlen, List.take_length] at R
        exact k H' R kk
end
end Toy

namespace Toy
open PySem L2 TL Evl RZ G N
section
variable {P : Program} {w : World} {K : PySem.W.Frag} {mg : Str → Option Value} {base : Heap}
theorem er_costs {C : Addr} {σ : L2.St} {H : Hp} {ta tb : TE} {E E2 : XK} {x : Addr} {n : Nat} {ts : List Tie} (ha : Ev ta σ H (.int (n : Int))) (hb : Ev tb σ H (.ref x)) (N : NetAt K C H x n ts) :
    EvR (tCall (sp_costs_between K) [] E (tCons ta (tCons (tMeth C "ties" (sp_Net_ties K C) [] E2 tb tNil) tNil))) σ H (fun H1 v H2 => ∃ p, v = .ref p ∧ MatN H1 H2 p n (costM ts)) := fun H1 e Q q =>
  ha H1 e _ fun H2 e2 => er_ties hb N H2 (e.trans e2) _ fun v H3 e3 r => by
    obtain ⟨l, xs, rfl, hl, h3, tz⟩ := r
    exact ⟨n, l, ts, rfl, N.hi, ⟨xs, sq_of h3, tz⟩, N.good, fun p H4 e4 m => q _ H4 ((e2.trans e3).trans e4) ⟨p, rfl, fresh_back (e2.trans e3) m.1, by
      obtain ⟨_, rs, R, f⟩ := m
      exact ⟨rs, R, fun i hi => fresh_back (e2.trans e3) (f i hi)⟩⟩⟩
theorem ev_many {C : Addr} {σ : L2.St} {H : Hp} {ta : TE} {x : Addr} {n : Nat} {ts : List Tie} (ha : Ev ta σ H (.ref x)) (N : NetAt K C H x n ts) (c : Cls K C) (na : NoAttr K C "many") : Ev (tFld K ta "many") σ H (.int (n : Int)) := by
  obtain ⟨dx, l, c', hx, _⟩ := N.ob
  exact ev_fld ha hx c na netF_many
def sp_left (K : PySem.W.Frag) (C : Addr) : Sp := fun vs H Q _ => ∃ (x : Addr) (n : Nat) (ts : List Tie) (one other : Nat), vs = [.ref x, .int one, .int other] ∧ NetAt K C H x n ts ∧ one < n ∧ other < n ∧ one ≠ other ∧ ∀ p H2, Ex H H2 → MatN H H2 p n (ff n (costM ts) one other) → Q (.ref p) H2
def Wlf (K : PySem.W.Frag) (H : Hp) (x p : Addr) (n : Nat) (rs : Nat → Addr) (C : Mat) (one other : Nat) (m : Nat) (σ' : L2.St) (H' : Hp) : Prop := ∃ (l : Addr) (xs : List V) (L : Mat) (f : Nat), σ' = [some (.ref x), some (.int one), some (.int other), some (.ref p), some (.ref l)] ∧ Ex H H' ∧ MatR H' p n rs L ∧ Ff n C one other L ∧ H' l = some (.lst xs) ∧ TupsV K H' xs ((way L n one other).map pv) ∧ (S n (L one)).toNat = m ∧ S n (L one) < f ∧ ffLoop n one other f L = ff n C one other
theorem ok_left_by_flow (T : Wd K mg) : FnOk P w K mg base CX0 3 T.f_left_by_flow T.d_left_by_flow ["net", "one", "other"] (sp_left K T.C_Net) := by
  have G_costs_between := ok_costs_between (P := P) (w := w) (base := base) T
  have G_shortest_way := ok_shortest_way (P := P) (w := w) (base := base) T
  have G_Net_ties := ok_Net_ties (P := P) (w := w) (base := base) T
  have G_run_along := ok_run_along (P := P) (w := w) (base := base) T
  refine T.F_left_by_flow.ok sc_left_by_flow (fun vs H Q E h => ?_) (fun cdv A outer s H vs Q E hr h => ?_)
  · obtain ⟨x, n, ts, one, other, rfl, _⟩ := h
    rfl
  · obtain ⟨x, n, ts, one, other, rfl, N, h1, h2, hn, k⟩ := h
    have n24 := N.hi
    have cn := costM_nonneg N.good
    refine ⟨_, (pss_cons (ps_set (i := 3) sc_left_by_flow.nd rfl (Or.inl rfl) (pe_call G_costs_between (hr.mono (by decide)) (by rfl) T.m_costs_between T.F_costs_between.kp T.b_costs_between .nil pass0 (pa_cons (pe_fld (pv 0) rfl) (pa_cons (pe_meth0 (pv 0) T.cl_Net T.mt_Net_ties G_Net_ties (hr.mono (by decide)) T.b_Net_ties .nil pass0) pa_nil)))) (pss_cons (ps_set (i := 4) sc_left_by_flow.nd rfl (Or.inl rfl) (pe_call G_shortest_way (hr.mono (by decide)) (by rfl) T.m_shortest_way T.F_shortest_way.kp T.b_shortest_way .nil pass0 (pa_cons (pv 3) (pa_cons (pv 1) (pa_cons (pv 2) pa_nil))))) (pss_cons (ps_while PassesOwn.never (pt_truth (pv 4) (by intro _; rfl)) (pss_cons (ps_expr (pe_call G_run_along (hr.mono (by decide)) (by rfl) T.m_run_along T.F_run_along.kp T.b_run_along .nil pass0 (pa_cons (pv 3) (pa_cons (pv 4) pa_nil)))) (pss_one (ps_set (i := 4) sc_left_by_flow.nd rfl (Or.inl rfl) (pe_call G_shortest_way (hr.mono (by decide)) (by rfl) T.m_shortest_way T.F_shortest_way.kp T.b_shortest_way .nil pass0 (pa_cons (pv 3) (pa_cons (pv 1) (pa_cons (pv 2) pa_nil)))))))) (pss_one (ps_ret (pv 3)))))), ?_⟩
    refine p_asgR (Ex.refl H) (er_costs (ev_many (ev_var rfl) N T.cl_Net T.na_Net_many) (ev_var rfl) N) fun v H1 e1 _ r => ?_
    obtain ⟨p, rfl, hp, rs, R, fr⟩ := r
    refine p_asgR (Ex.refl H1) (er_way (K := K) (ev_var rfl) (ev_var rfl) (ev_var rfl) h1 h2 n24 ⟨rs, R⟩) fun v H2 e2 _ r => ?_
    obtain ⟨l, xs, rfl, hl, l2, tz⟩ := r
    have sn := S_nonneg (n := n) fun j _ => cn one j
    refine q_while (Wlf K H x p n rs (costM ts) one other) (S n (costM ts one)).toNat ⟨l, xs, costM ts, (S n (costM ts one)).toNat + 1, rfl, e1.trans e2, R.ex e2, Ff.init cn, l2, tz, rfl, by omega, rfl⟩ ?_
    rintro m σ' H' ⟨l, xs, L, f, rfl, e, R', F, hl', tz', hm, hf, hff⟩
    refine ⟨!xs.isEmpty, et_truL (ev_var rfl) (sq_of hl'), fun hb1 H5 e5 => ?_, fun hb0 H5 e5 => ?_⟩
    · refine ⟨fun σ2 H2 => ∃ m', m' < m ∧ Wlf K H x p n rs (costM ts) one other m' σ2 H2, fun _ _ h => h, ?_⟩
      have hlen : xs.length = (way L n one other).length := by rw [tz'.len, List.length_map]
      have hw : way L n one other ≠ [] := fun z => by
        rw [z] at hlen
        rw [List.eq_nil_of_length_eq_zero hlen] at hb1
        cases hb1
      have pt := way_ok h1 hn hw
      obtain ⟨F2, lt2⟩ := F.led pt hn h1 hw
      have wl := way_len (L := L) (n := n) (one := one) (other := other)
      refine ⟨_, rfl, _, rfl, p, l, n, rs, L, xs, way L n one other, rfl, R'.ex e5, e5 _ _ hl', tz'.ex e5, hw, pt.lt, by omega, fun H6 R6 k6 => ?_⟩
      have e6 : Ex H H6 := fun b o hb => k6 b o (fun i hi z => by rw [z, fr i hi] at hb; cases hb) (e5 _ _ (e _ _ hb))
      have s2 := S_nonneg (n := n) fun j _ => F2.nn one j
      refine er_way (K := K) (ev_var rfl) (ev_var rfl) (ev_var rfl) h1 h2 n24 ⟨rs, R6⟩ H6 (Ex.refl H6) _ fun v H7 e7 r => ?_
      obtain ⟨l3, xs3, rfl, hl3, l7, tz7⟩ := r
      refine ⟨_, by omega, l3, xs3, _, f - 1, rfl, e6.trans e7, R6.ex e7, F2, l7, tz7, rfl, by omega, ?_⟩
      rw [← hff]
      obtain ⟨f, rfl⟩ : ∃ g, f = g + 1 := ⟨f - 1, by have := S_nonneg (n := n) fun j _ => F.nn one j; omega⟩
      show _ = if way L n one other = [] then L else _
      rw [if_neg hw]
      rfl
    · have hx : xs = [] := by simpa using hb0
      have hw : way L n one other = [] := by
        have := tz'.len
        rw [hx, List.length_map] at this
        exact List.eq_nil_of_length_eq_zero this.symm
      have hL : ff n (costM ts) one other = L := by
        rw [← hff]
        cases f with
        | zero => rfl
        | succ f =>
          show (if way L n one other = [] then L else _) = L
          rw [if_pos hw]
      refine p_ret (Ex.refl H5) (ev_var rfl) fun H6 e6 => k p H6 ((e.trans e5).trans e6) ⟨hp, rs, ?_, fr⟩
      rw [hL]
      exact R'.ex (e5.trans e6)
theorem er_left {C : Addr} {σ : L2.St} {H : Hp} {ta tb tc : TE} {E : XK} {x : Addr} {n : Nat} {ts : List Tie} {one other : Nat} (ha : Ev ta σ H (.ref x)) (hb : Ev tb σ H (.int (one : Int))) (hc : Ev tc σ H (.int (other : Int))) (N : NetAt K C H x n ts) (h1 : one < n) (h2 : other < n) (hn : one ≠ other) :
    EvR (tCall (sp_left K C) [] E (tCons ta (tCons tb (tCons tc tNil)))) σ H (fun H1 v H2 => ∃ p, v = .ref p ∧ MatN H1 H2 p n (ff n (costM ts) one other)) := fun H1 e Q q =>
  ha H1 e _ fun H2 e2 => hb H2 (e.trans e2) _ fun H3 e3 => hc H3 ((e.trans e2).trans e3) _ fun H4 e4 => ⟨x, n, ts, one, other, rfl, N.ex (((e.trans e2).trans e3).trans e4), h1, h2, hn, fun p H5 e5 m => q _ H5 (((e2.trans e3).trans e4).trans e5) ⟨p, rfl, fresh_back ((e2.trans e3).trans e4) m.1, by
    obtain ⟨_, rs, R, f⟩ := m
    exact ⟨rs, R, fun i hi => fresh_back ((e2.trans e3).trans e4) (f i hi)⟩⟩⟩
/-- what is led between two places -/
def ledN (ts : List Tie) (n one other : Nat) : Mat := led (costM ts) (ff n (costM ts) one other)
def flowN (ts : List Tie) (n one other : Nat) : List Tie := rowsOf (ledN ts n one other) n
def sp_flow (K : PySem.W.Frag) (C : Addr) : Sp := fun vs H Q _ => ∃ (x : Addr) (n : Nat) (ts : List Tie) (one other : Nat), vs = [.ref x, .int one, .int other] ∧ NetAt K C H x n ts ∧ one < n ∧ other < n ∧ one ≠ other ∧ ∀ p xs H2, H p = none → Ex H H2 → H2 p = some (.lst xs) → TiesV K H2 xs (flowN ts n one other) → Q (.ref p) H2
theorem ok_flow (T : Wd K mg) : FnOk P w K mg base CX0 5 T.f_flow T.d_flow ["net", "one", "other"] (sp_flow K T.C_Net) := by
  have G_check_two := ok_check_two (P := P) (w := w) (base := base) T
  have G_costs_between := ok_costs_between (P := P) (w := w) (base := base) T
  have G_left_by_flow := ok_left_by_flow (P := P) (w := w) (base := base) T
  have G_Net_ties := ok_Net_ties (P := P) (w := w) (base := base) T
  refine T.F_flow.ok sc_flow (fun vs H Q E h => ?_) (fun cdv A outer s H vs Q E hr h => ?_)
  · obtain ⟨x, n, ts, one, other, rfl, _⟩ := h
    rfl
  · obtain ⟨x, n, ts, one, other, rfl, N, h1, h2, hn, k⟩ := h
    have n24 := N.hi
    refine ⟨_, (pss_cons (ps_expr (pe_call G_check_two (hr.mono (by decide)) (by rfl) T.m_check_two T.F_check_two.kp T.b_check_two .nil pass0 (pa_cons (pe_fld (pv 0) rfl) (pa_cons (pv 1) (pa_cons (pv 2) pa_nil))))) (pss_cons (ps_set (i := 3) sc_flow.nd rfl (Or.inl rfl) (pe_call G_costs_between (hr.mono (by decide)) (by rfl) T.m_costs_between T.F_costs_between.kp T.b_costs_between .nil pass0 (pa_cons (pe_fld (pv 0) rfl) (pa_cons (pe_meth0 (pv 0) T.cl_Net T.mt_Net_ties G_Net_ties (hr.mono (by decide)) T.b_Net_ties .nil pass0) pa_nil)))) (pss_cons (ps_set (i := 4) sc_flow.nd rfl (Or.inl rfl) (pe_call G_left_by_flow (hr.mono (by decide)) (by rfl) T.m_left_by_flow T.F_left_by_flow.kp T.b_left_by_flow .nil pass0 (pa_cons (pv 0) (pa_cons (pv 1) (pa_cons (pv 2) pa_nil))))) (pss_cons (ps_set (i := 5) sc_flow.nd rfl (Or.inl rfl) (pe_lst pa_nil)) (pss_cons (ps_for PassesOwn.never rfl (pi_range1 (by rfl) T.n_range (pa_cons (pe_fld (pv 0) rfl) pa_nil)) (pg_name (i := 6) sc_flow.nd rfl (Or.inl rfl)) (pss_one (ps_for PassesOwn.never rfl (pi_range1 (by rfl) T.n_range (pa_cons (pe_fld (pv 0) rfl) pa_nil)) (pg_name (i := 7) sc_flow.nd rfl (Or.inl rfl)) (pss_cons (ps_set (i := 8) sc_flow.nd rfl (Or.inl rfl) (pe_op op_sub (pe_ix ix_list (pe_ix ix_list (pv 3) (pv 6) (fun _ _ => rfl)) (pv 7) (fun _ _ => rfl)) (pe_ix ix_list (pe_ix ix_list (pv 4) (pv 6) (fun _ _ => rfl)) (pv 7) (fun _ _ => rfl)))) (pss_one (ps_if (pt_cmpR op_gt (pv 8) pe_int (nomark _)) (pss_one (ps_expr (pe_bm PySem.F.plainAttrs_list PySem.F.slot_list_append PySem.F.type_list_append mt_append (pv 5) (pa_cons (pe_tup (pa_cons (pv 6) (pa_cons (pv 7) (pa_cons (pv 8) pa_nil)))) pa_nil)))) pss_nil)))))) (pss_one (ps_ret (pv 5)))))))), ?_⟩
    refine p_drop (Ex.refl H) (ev_call (ea_cons (ev_many (ev_var rfl) N T.cl_Net T.na_Net_many) (ea_cons (ev_var rfl) (ea_cons (ev_var rfl) ea_nil))) (sv_check_two h1 h2 hn)) fun H1 e1 _ => ?_
    refine p_asgR e1 (er_costs (ev_many (ev_var rfl) N T.cl_Net T.na_Net_many) (ev_var rfl) N) fun v H2 e2 _ r => ?_
    obtain ⟨c, rfl, hc, rs, R, fr⟩ := r
    refine p_asgR e2 (er_left (ev_var rfl) (ev_var rfl) (ev_var rfl) N h1 h2 hn) fun v H3 e3 e23 r => ?_
    obtain ⟨p, rfl, hp, rs2, R2, fr2⟩ := r
    have R3 := R.ex e23
    refine p_asgL (Ex.refl H3) (el_lst ea_nil (Nat.zero_le _)) fun r H4 hr e4 _ h4 => ?_
    have N3 := N.ex e3
    have F : ∀ h, h < n → (rowsTo (ledN ts n one other) n h).length ≤ 600 := fun h hh => Nat.le_trans (rowsTo_len h) (Nat.le_trans (Nat.mul_le_mul (Nat.le_trans (Nat.le_of_lt hh) n24) n24) (by decide))
    refine q_forR1 (n := (n : Int)) (ea_cons ((ev_many (ev_var rfl) N3 T.cl_Net T.na_Net_many).mono e4) ea_nil) (by omega) (fun h σ' H' => ∃ xs a b c', σ' = [some (.ref x), some (.int one), some (.int other), some (.ref c), some (.ref p), some (.ref r), a, b, c'] ∧ Ex H3 H' ∧ H' r = some (.lst xs) ∧ TiesV K H' xs (rowsTo (ledN ts n one other) n h)) (fun H5 e5 => ⟨[], _, _, _, rfl, e4.trans e5, e5 _ _ h4, .nil⟩) ?_ ?_
    · rintro h σ' H5 hh ⟨xs, a, b, c', rfl, e5, h5, tz5⟩
      have hh' : h < n := by omega
      refine s_forR1 (n := (n : Int)) (ea_cons ((ev_many (ev_var rfl) N3 T.cl_Net T.na_Net_many).mono e5) ea_nil) (by omega) (fun m σ' H' => ∃ xs b c', σ' = [some (.ref x), some (.int one), some (.int other), some (.ref c), some (.ref p), some (.ref r), some (.int (h : Int)), b, c'] ∧ Ex H3 H' ∧ H' r = some (.lst xs) ∧ TiesV K H' xs (rowsTo (ledN ts n one other) n h ++ rowsAt (ledN ts n one other) n h m)) (fun H6 e6 => ⟨xs, _, _, rfl, e5.trans e6, e6 _ _ h5, by rw [show rowsAt (ledN ts n one other) n h 0 = [] from rfl, List.append_nil]; exact tz5.ex e6⟩) ?_ ?_
      · rintro m σ' H6 hm ⟨ys, b, c', rfl, e6, h6, tz6⟩
        have hm' : m < n := by omega
        obtain ⟨g1, g2, g3, g4⟩ := (R3.ex e6).get (K := K) hh' hm'
        obtain ⟨f1, f2, f3, f4⟩ := (R2.ex e6).get (K := K) hh' hm'
        refine p_asg (Ex.refl H6) (ev_op (ev_op (ev_op (ev_var rfl) (ev_var rfl) (rv_ixL g1 g2)) (ev_var rfl) (rv_ixL g3 g4)) (ev_op (ev_op (ev_var rfl) (ev_var rfl) (rv_ixL f1 f2)) (ev_var rfl) (rv_ixL f3 f4)) rv_I0) fun H7 e7 _ => ?_
        have fl := F h hh'
        have al := rowsAt_len (F := ledN ts n one other) (n := n) (h := h) (m := m)
        refine p_whenE (b := decide (0 < ledN ts n one other h m)) (Ex.refl H7) (et_test (ev_op (ev_var rfl) ev_c rv_I0)) (fun hb H8 e8 _ => ?_) (fun hb H8 e8 _ => ?_)
        · refine s_appU (xs := ys) (ys := tv (h, m, ledN ts n one other h m)) (e8 _ _ (e7 _ _ h6)) (ev_var rfl) (eu_tup (ea_cons (ev_var rfl) (ea_cons (ev_var rfl) (ea_cons (ev_var rfl) ea_nil))) (Nat.le_of_ble_eq_true rfl)) (by rw [tz6.len, List.length_append]; omega) fun t H9 ht e9 h9 => ?_
          have h9r := e9 _ _ (e8 _ _ (e7 _ _ h6))
          refine ⟨ys ++ [.ref t], _, _, rfl, Ex.mut (((e6.trans e7).trans e8).trans e9) hr, upd_same, ?_⟩
          rw [rowsAt_succ, if_pos (of_decide_eq_true hb), ← List.append_assoc]
          exact ((tz6.ex ((e7.trans e8).trans e9)).snoc (v := .ref t) (t := (h, m, ledN ts n one other h m)) ⟨t, rfl, st_of h9⟩).updL h9r
        · refine ⟨ys, _, _, rfl, (e6.trans e7).trans e8, e8 _ _ (e7 _ _ h6), ?_⟩
          rw [rowsAt_succ, if_neg (of_decide_eq_false hb)]
          exact tz6.ex (e7.trans e8)
      · rintro σ' H6 ⟨ys, b, c', rfl, e6, h6, tz6⟩
        exact ⟨ys, _, _, _, rfl, e6, h6, tz6⟩
    · rintro σ' H5 ⟨xs, a, b, c', rfl, e5, h5, tz5⟩
      exact p_ret (Ex.refl H5) (ev_var rfl) fun H6 e6 => k r xs H6 (fresh_back e3 hr) ((e3.trans e5).trans e6) (e6 _ _ h5) (tz5.ex e6)
theorem er_flow {C : Addr} {σ : L2.St} {H : Hp} {ta tb tc : TE} {E : XK} {x : Addr} {n : Nat} {ts : List Tie} {one other : Nat} (ha : Ev ta σ H (.ref x)) (hb : Ev tb σ H (.int (one : Int))) (hc : Ev tc σ H (.int (other : Int))) (N : NetAt K C H x n ts) (h1 : one < n) (h2 : other < n) (hn : one ≠ other) :
    EvR (tCall (sp_flow K C) [] E (tCons ta (tCons tb (tCons tc tNil)))) σ H (fun H1 v H2 => ∃ p xs, v = .ref p ∧ H1 p = none ∧ H2 p = some (.lst xs) ∧ TiesV K H2 xs (flowN ts n one other)) := fun H1 e Q q =>
  ha H1 e _ fun H2 e2 => hb H2 (e.trans e2) _ fun H3 e3 => hc H3 ((e.trans e2).trans e3) _ fun H4 e4 => ⟨x, n, ts, one, other, rfl, N.ex (((e.trans e2).trans e3).trans e4), h1, h2, hn, fun p xs H5 hp e5 h5 tz => q _ H5 (((e2.trans e3).trans e4).trans e5) ⟨p, xs, rfl, fresh_back ((e2.trans e3).trans e4) hp, h5, tz⟩⟩
def sp_wall (K : PySem.W.Frag) (C : Addr) : Sp := fun vs H Q _ => ∃ (x : Addr) (n : Nat) (ts : List Tie) (one other : Nat), vs = [.ref x, .int one, .int other] ∧ NetAt K C H x n ts ∧ one < n ∧ other < n ∧ one ≠ other ∧ ∀ p H2, H p = none → Ex H H2 → H2 p = some (.lst (IL (wallN (costM ts) n one other))) → Q (.ref p) H2
theorem ok_wall (T : Wd K mg) : FnOk P w K mg base CX0 5 T.f_wall T.d_wall ["net", "one", "other"] (sp_wall K T.C_Net) := by
  have G_check_two := ok_check_two (P := P) (w := w) (base := base) T
  have G_left_by_flow := ok_left_by_flow (P := P) (w := w) (base := base) T
  have G_places_ahead := ok_places_ahead (P := P) (w := w) (base := base) T
  refine T.F_wall.ok sc_wall (fun vs H Q E h => ?_) (fun cdv A outer s H vs Q E hr h => ?_)
  · obtain ⟨x, n, ts, one, other, rfl, _⟩ := h
    rfl
  · obtain ⟨x, n, ts, one, other, rfl, N, h1, h2, hn, k⟩ := h
    have n24 := N.hi
    refine ⟨_, (pss_cons (ps_expr (pe_call G_check_two (hr.mono (by decide)) (by rfl) T.m_check_two T.F_check_two.kp T.b_check_two .nil pass0 (pa_cons (pe_fld (pv 0) rfl) (pa_cons (pv 1) (pa_cons (pv 2) pa_nil))))) (pss_cons (ps_set (i := 3) sc_wall.nd rfl (Or.inl rfl) (pe_call G_left_by_flow (hr.mono (by decide)) (by rfl) T.m_left_by_flow T.F_left_by_flow.kp T.b_left_by_flow .nil pass0 (pa_cons (pv 0) (pa_cons (pv 1) (pa_cons (pv 2) pa_nil))))) (pss_one (ps_ret (pe_callB (call_sortedDI rfl) (by rfl) T.n_sorted (by decide +kernel) (pa_cons (pe_call G_places_ahead (hr.mono (by decide)) (by rfl) T.m_places_ahead T.F_places_ahead.kp T.b_places_ahead .nil pass0 (pa_cons (pv 3) (pa_cons (pv 1) (pa_cons (pv 2) pa_nil)))) pa_nil)))))), ?_⟩
    refine p_drop (Ex.refl H) (ev_call (ea_cons (ev_many (ev_var rfl) N T.cl_Net T.na_Net_many) (ea_cons (ev_var rfl) (ea_cons (ev_var rfl) ea_nil))) (sv_check_two h1 h2 hn)) fun H1 e1 _ => ?_
    refine p_asgR e1 (er_left (ev_var rfl) (ev_var rfl) (ev_var rfl) N h1 h2 hn) fun v H2 e2 _ r => ?_
    obtain ⟨p, rfl, hp, rs, R, fr⟩ := r
    refine er_ahead (ev_var rfl) (ev_var rfl) (ev_var rfl) h1 n24 ⟨rs, R⟩ H2 (Ex.refl H2) _ fun v H3 e3 r => ?_
    obtain ⟨d, rfl, hd, d3⟩ := r
    have bt := bfs_bt (L := ff n (costM ts) one other) (other := other) h1
    have bl := bt.len
    refine ⟨d, _, nI (keys (bfs (ff n (costM ts) one other) n one other)), rfl, .inl d3, kvOf_keys _, by rw [nI_len]; unfold keys; rw [List.length_map]; omega, fun ys q hp hs hq => ?_⟩
    have ey := sorted_is bt.nd bt.lt hp hs
    subst ey
    refine k q _ (fresh_back (e2.trans e3) hq) ((e2.trans e3).trans (Ex.new hq)) ?_
    rw [upd_same, IL_eq]
    rfl
theorem el_wall {C : Addr} {σ : L2.St} {H : Hp} {ta tb tc : TE} {E : XK} {x : Addr} {n : Nat} {ts : List Tie} {one other : Nat} (ha : Ev ta σ H (.ref x)) (hb : Ev tb σ H (.int (one : Int))) (hc : Ev tc σ H (.int (other : Int))) (N : NetAt K C H x n ts) (h1 : one < n) (h2 : other < n) (hn : one ≠ other) :
    EvL (tCall (sp_wall K C) [] E (tCons ta (tCons tb (tCons tc tNil)))) σ H (IL (wallN (costM ts) n one other)) := fun H1 e Q q =>
  ha H1 e _ fun H2 e2 => hb H2 (e.trans e2) _ fun H3 e3 => hc H3 ((e.trans e2).trans e3) _ fun H4 e4 => ⟨x, n, ts, one, other, rfl, N.ex (((e.trans e2).trans e3).trans e4), h1, h2, hn, fun p H5 hp e5 h5 => q _ H5 (fresh_back ((e2.trans e3).trans e4) hp) (((e2.trans e3).trans e4).trans e5) h5⟩
def sp_most (K : PySem.W.Frag) (C : Addr) : Sp := fun vs H Q _ => ∃ (x : Addr) (n : Nat) (ts : List Tie) (one other : Nat), vs = [.ref x, .int one, .int other] ∧ NetAt K C H x n ts ∧ one < n ∧ other < n ∧ one ≠ other ∧ RetV (.int (mostN (costM ts) n one other)) H Q
theorem sv_most {C : Addr} {H : Hp} {x : Addr} {n : Nat} {ts : List Tie} {one other : Nat} (N : NetAt K C H x n ts) (h1 : one < n) (h2 : other < n) (hn : one ≠ other) : SpV (sp_most K C) [.ref x, .int one, .int other] H (.int (mostN (costM ts) n one other)) := fun H1 e Q q E => ⟨x, n, ts, one, other, rfl, N.ex e, h1, h2, hn, q⟩
end
end Toy

namespace Toy
open PySem L2 TL Evl RZ G N
section
variable {P : Program} {w : World} {K : PySem.W.Frag} {mg : Str → Option Value} {base : Heap}
/-! ### trees -/
def iV (u : Nat → Nat) : Nat → V := fun k => .int (u k : Int)
def pV (p : Nat → Int) : Nat → V := fun k => .int (p k)
def sp_take_over (K : PySem.W.Frag) : Sp := fun vs H Q _ => ∃ (a w : Addr) (n i t : Nat) (u : Nat → Nat) (W : List Nat), vs = [.ref a, .int i, .int t, .ref w] ∧ H a = some (.lst (lstOf n (iV u))) ∧ H w = some (.lst (IL W)) ∧ w ≠ a ∧ W.Nodup ∧ (∀ k ∈ W, k < n) ∧
  ∀ H2, H2 a = some (.lst (lstOf n (iV fun k => if k ∈ W ∧ k ≠ i ∧ u k = t then i else u k))) → (∀ b o, b ≠ a → H b = some o → H2 b = some o) → Q .non H2
theorem ok_take_over (T : Wd K mg) : FnOk P w K mg base CX0 1 T.f_take_over T.d_take_over ["uppers", "place", "upper", "side"] (sp_take_over K) := by
  refine T.F_take_over.ok sc_take_over (fun vs H Q E h => ?_) (fun cdv A outer s H vs Q E hr h => ?_)
  · obtain ⟨a, w, n, i, t, u, W, rfl, _⟩ := h
    rfl
  · obtain ⟨a, w, n, i, t, u, W, rfl, ha, hw, nwa, nd, hlt, k⟩ := h
    refine ⟨_, (pss_one (ps_for PassesOwn.never rfl (pi_list (pv 3)) (pg_name (i := 4) sc_take_over.nd rfl (Or.inl rfl)) (pss_one (ps_if (PW.pt (pw_and (pt_cmpR op_ne (pv 4) (pv 1) (nomark _)) (pw_and1 (pt_cmpR op_eq (pe_ix ix_list (pv 0) (pv 4) (fun _ _ => rfl)) (pv 2) (nomark _))))) (pss_one (ps_asg (pv 1) (pg_sub (pv 0) (pv 4) set_list))) pss_nil)))), ?_⟩
    have e0 : lstOf n (iV u) = lstOf n (iV fun k => if k ∈ W.take 0 ∧ k ≠ i ∧ u k = t then i else u k) := lstOf_congr fun k _ => by unfold iV; dsimp only; rw [if_neg (fun z => by simp at z)]
    rw [e0] at ha
    refine s_forL (xs := IL W) (ev_var rfl) (sq_of hw) (fun m σ' H' => ∃ v4, σ' = [some (.ref a), some (.int i), some (.int t), some (.ref w), v4] ∧ H' a = some (.lst (lstOf n (iV fun k => if k ∈ W.take m ∧ k ≠ i ∧ u k = t then i else u k))) ∧ ∀ b o, b ≠ a → H b = some o → H' b = some o) (fun H1 e1 => ⟨_, rfl, e1 _ _ ha, fun b o _ h => e1 _ _ h⟩) (fun m σ' H' _ p => by
      obtain ⟨v4, _, _, kk⟩ := p
      exact sq_of (kk _ _ nwa hw)) ?_ ?_
    · rintro m x σ' H' hx ⟨v4, rfl, ha', kk⟩
      obtain ⟨y, hy, rfl⟩ := IL_get hx
      have hyn := hlt y (List.mem_of_getElem? hy)
      have hnt : y ∉ W.take m := fun z => by
        obtain ⟨j, hj⟩ := List.mem_iff_getElem?.mp z
        rw [List.getElem?_take] at hj
        split at hj
        · rename_i hlt2
          have := nodup_at nd hj hy
          omega
        · cases hj
      have cur : (if y ∈ W.take m ∧ y ≠ i ∧ u y = t then i else u y) = u y := if_neg fun z => hnt z.1
      have hg : atI (lstOf n (iV fun k => if k ∈ W.take m ∧ k ≠ i ∧ u k = t then i else u k)) (y : Int) = some (.int (u y : Int)) := by rw [lstOf_at hyn]; unfold iV; dsimp only; rw [cur]
      have et : W.take (m + 1) = W.take m ++ [y] := take_snoc hy
      refine p_whenE (b := decide (y ≠ i ∧ u y = t)) (Ex.refl H') (et_is (et_and (et_test (ev_op (ev_var rfl) (ev_var rfl) (rv_ne rfl))) (fun _ => et_test (ev_op (ev_op (ev_var rfl) (ev_var rfl) (rv_ixL (sq_of ha') hg)) (ev_var rfl) (rv_eq rfl)))) (by
        by_cases c1 : y = i <;> by_cases c2 : u y = t <;> simp [c1, c2] <;> omega)) (fun hb H3 e3 _ => ?_) (fun hb H3 e3 _ => ?_)
      · have hb := of_decide_eq_true hb
        refine s_setL (e3 _ _ ha') (ev_var rfl) (ev_var rfl) (ev_var rfl) (by rw [lstOf_len]; exact hyn) fun H4 e4 => ?_
        refine ⟨_, rfl, ?_, fun b o hb h => by rw [upd_ne hb]; exact e4 _ _ (e3 _ _ (kk b o hb h))⟩
        rw [upd_same, lstOf_set]
        congr 2
        refine lstOf_congr fun k _ => ?_
        unfold iV
        dsimp only
        rw [et]
        by_cases c : k = y
        · subst c
          rw [if_pos rfl, if_pos ⟨List.mem_append_right _ (List.mem_singleton.mpr rfl), hb⟩]
        · rw [if_neg c]
          have : (k ∈ W.take m ++ [y]) ↔ k ∈ W.take m := by rw [List.mem_append, List.mem_singleton]; exact ⟨fun z => z.resolve_right c, .inl⟩
          simp only [this]
      · have hb := of_decide_eq_false hb
        refine ⟨_, rfl, ?_, fun b o hb h => e3 _ _ (kk b o hb h)⟩
        rw [e3 _ _ ha', et]
        congr 2
        refine lstOf_congr fun k _ => ?_
        unfold iV
        dsimp only
        by_cases c : k = y
        · subst c
          rw [cur, if_neg fun z => hb z.2]
        · have : (k ∈ W.take m ++ [y]) ↔ k ∈ W.take m := by rw [List.mem_append, List.mem_singleton]; exact ⟨fun z => z.resolve_right c, .inl⟩
          simp only [this]
    · rintro σ' H' ⟨v4, rfl, ha', kk⟩
      rw [IL_len, List.take_length] at ha'
      exact k H' ha' kk
def sp_put_between : Sp := fun vs H Q _ => ∃ (a b : Addr) (n i t : Nat) (u : Nat → Nat) (p : Nat → Int), vs = [.ref a, .ref b, .int i, .int t] ∧ H a = some (.lst (lstOf n (iV u))) ∧ H b = some (.lst (lstOf n (pV p))) ∧ a ≠ b ∧ i < n ∧ t < n ∧ i ≠ t ∧
  ∀ H2, H2 a = some (.lst (lstOf n (iV fun k => if k = t then i else if k = i then u t else u k))) → H2 b = some (.lst (lstOf n (pV fun k => if k = t then p i else if k = i then p t else p k))) → (∀ c o, c ≠ a → c ≠ b → H c = some o → H2 c = some o) → Q .non H2
theorem ok_put_between (T : Wd K mg) : FnOk P w K mg base CX0 1 T.f_put_between T.d_put_between ["uppers", "prices", "place", "upper"] (sp_put_between) := by
  refine T.F_put_between.ok sc_put_between (fun vs H Q E h => ?_) (fun cdv A outer s H vs Q E hr h => ?_)
  · obtain ⟨a, b, n, i, t, u, p, rfl, _⟩ := h
    rfl
  · obtain ⟨a, b, n, i, t, u, p, rfl, ha, hb, nab, hi, ht, hn, k⟩ := h
    refine ⟨_, (pss_cons (ps_asg (pe_ix ix_list (pv 0) (pv 3) (fun _ _ => rfl)) (pg_sub (pv 0) (pv 2) set_list)) (pss_cons (ps_asg (pv 2) (pg_sub (pv 0) (pv 3) set_list)) (pss_one (ps_asg (pe_tup (pa_cons (pe_ix ix_list (pv 1) (pv 3) (fun _ _ => rfl)) (pa_cons (pe_ix ix_list (pv 1) (pv 2) (fun _ _ => rfl)) pa_nil))) (pg_tup (by rfl) (pgs_cons (pg_sub (pv 1) (pv 2) set_list) (pgs_cons (pg_sub (pv 1) (pv 3) set_list) pgs_nil))))))), ?_⟩
    refine q_setL ha (ev_op (ev_var rfl) (ev_var rfl) (rv_ixL (sq_of ha) (lstOf_at ht))) (ev_var rfl) (ev_var rfl) (by rw [lstOf_len]; exact hi) fun H1 e1 => ?_
    rw [lstOf_set]
    have a1 : upd H1 a (.lst (lstOf n fun k => if k = i then iV u t else iV u k)) a = some (.lst (lstOf n fun k => if k = i then iV u t else iV u k)) := upd_same
    have b1 : upd H1 a (.lst (lstOf n fun k => if k = i then iV u t else iV u k)) b = some (.lst (lstOf n (pV p))) := by rw [upd_ne nab.symm]; exact e1 _ _ hb
    have c1 : ∀ c o, c ≠ a → c ≠ b → H c = some o → upd H1 a (.lst (lstOf n fun k => if k = i then iV u t else iV u k)) c = some o := fun c o hc _ h => by rw [upd_ne hc]; exact e1 _ _ h
    generalize upd H1 a (.lst (lstOf n fun k => if k = i then iV u t else iV u k)) = G1 at a1 b1 c1 ⊢
    refine q_setL a1 (ev_var rfl) (ev_var rfl) (ev_var rfl) (by rw [lstOf_len]; exact ht) fun H2 e2 => ?_
    rw [lstOf_set]
    have a2 : upd H2 a (.lst (lstOf n fun k => if k = t then .int (i : Int) else if k = i then iV u t else iV u k)) a = some (.lst (lstOf n (iV fun k => if k = t then i else if k = i then u t else u k))) := by
      rw [upd_same]
      congr 2
      refine lstOf_congr fun k _ => ?_
      unfold iV
      dsimp only
      by_cases c : k = t
      · rw [if_pos c, if_pos c]
      · rw [if_neg c, if_neg c]
        by_cases d : k = i
        · rw [if_pos d, if_pos d]
        · rw [if_neg d, if_neg d]
    have b2 : upd H2 a (.lst (lstOf n fun k => if k = t then .int (i : Int) else if k = i then iV u t else iV u k)) b = some (.lst (lstOf n (pV p))) := by rw [upd_ne nab.symm]; exact e2 _ _ b1
    have c2 : ∀ c o, c ≠ a → c ≠ b → H c = some o → upd H2 a (.lst (lstOf n fun k => if k = t then .int (i : Int) else if k = i then iV u t else iV u k)) c = some o := fun c o hc hd h => by rw [upd_ne hc]; exact e2 _ _ (c1 c o hc hd h)
    generalize upd H2 a (.lst (lstOf n fun k => if k = t then .int (i : Int) else if k = i then iV u t else iV u k)) = G2 at a2 b2 c2 ⊢
    refine eu_tup (ea_cons (ev_op (ev_var rfl) (ev_var rfl) (rv_ixL (sq_of b2) (lstOf_at ht))) (ea_cons (ev_op (ev_var rfl) (ev_var rfl) (rv_ixL (sq_of b2) (lstOf_at hi))) ea_nil)) (Nat.le_of_ble_eq_true rfl) G2 (Ex.refl G2) _ fun q H3 hq e3 h3 => ?_
    refine ⟨q, _, rfl, st_of h3, rfl, _, _, rfl, ?_⟩
    have b3 := e3 _ _ b2
    refine ⟨_, rfl, _, rfl, b, _, _, i, rfl, rfl, b3, ixN_nat (by rw [lstOf_len]; exact hi), ?_⟩
    rw [lstOf_set]
    refine ⟨_, _, rfl, _, rfl, _, rfl, b, _, _, t, rfl, rfl, upd_same, ixN_nat (by rw [lstOf_len]; exact ht), ?_⟩
    rw [lstOf_set]
    refine ⟨rfl, k _ ?_ ?_ fun c o hc hd h => ?_⟩
    · rw [upd_ne nab, upd_ne nab]
      exact e3 _ _ a2
    · rw [upd_same]
      congr 2
      refine lstOf_congr fun k _ => ?_
      unfold pV
      dsimp only
      by_cases c : k = t
      · rw [if_pos c, if_pos c]
      · rw [if_neg c, if_neg c]
        by_cases d : k = i
        · rw [if_pos d, if_pos d]
        · rw [if_neg d, if_neg d]
    · rw [upd_ne hd, upd_ne hd]
      exact e3 _ _ (c2 c o hc hd h)
def boughsN (ts : List Tie) (n : Nat) : List Tie := boughsOf n (uN (costM ts) n) (pN (costM ts) n)
def sp_tree (K : PySem.W.Frag) (C : Addr) : Sp := fun vs H Q _ => ∃ (x : Addr) (n : Nat) (ts : List Tie), vs = [.ref x] ∧ NetAt K C H x n ts ∧ ∀ p xs H2, H p = none → Ex H H2 → H2 p = some (.lst xs) → TiesV K H2 xs (boughsN ts n) → Q (.ref p) H2
theorem ok_tree (T : Wd K mg) : FnOk P w K mg base CX0 6 T.f_tree T.d_tree ["net"] (sp_tree K T.C_Net) := by
  have G_wall := ok_wall (P := P) (w := w) (base := base) T
  have G_Net_price := ok_Net_price (P := P) (w := w) (base := base) T
  have G_take_over := ok_take_over (P := P) (w := w) (base := base) T
  have G_put_between := ok_put_between (P := P) (w := w) (base := base) T
  refine T.F_tree.ok sc_tree (fun vs H Q E h => ?_) (fun cdv A outer s H vs Q E hr h => ?_)
  · obtain ⟨x, n, ts, rfl, _⟩ := h
    rfl
  · obtain ⟨x, n, ts, rfl, N, k⟩ := h
    have n24 := N.hi
    have n1 := N.lo
    have cn := costM_nonneg N.good
    refine ⟨_, (pss_cons (ps_set (i := 1) sc_tree.nd rfl (Or.inr rfl) (pe_op op_rep (pe_lst (pa_cons pe_int pa_nil)) (pe_fld (pv 0) rfl))) (pss_cons (ps_set (i := 2) sc_tree.nd rfl (Or.inr rfl) (pe_op op_rep (pe_lst (pa_cons pe_int pa_nil)) (pe_fld (pv 0) rfl))) (pss_cons (ps_for PassesOwn.never rfl (pi_range2 (by rfl) T.n_range (pa_cons pe_int (pa_cons (pe_fld (pv 0) rfl) pa_nil))) (pg_name (i := 3) sc_tree.nd rfl (Or.inl rfl)) (pss_cons (ps_set (i := 4) sc_tree.nd rfl (Or.inl rfl) (pe_ix ix_list (pv 1) (pv 3) (fun _ _ => rfl))) (pss_cons (ps_set (i := 5) sc_tree.nd rfl (Or.inl rfl) (pe_call G_wall (hr.mono (by decide)) (by rfl) T.m_wall T.F_wall.kp T.b_wall .nil pass0 (pa_cons (pv 0) (pa_cons (pv 3) (pa_cons (pv 4) pa_nil))))) (pss_cons (ps_asg (pe_meth (pv 0) T.cl_Net T.mt_Net_price G_Net_price (hr.mono (by decide)) T.b_Net_price .nil pass0 (pa_cons (pv 5) pa_nil)) (pg_sub (pv 2) (pv 3) set_list)) (pss_cons (ps_expr (pe_call G_take_over (hr.mono (by decide)) (by rfl) T.m_take_over T.F_take_over.kp T.b_take_over .nil pass0 (pa_cons (pv 1) (pa_cons (pv 3) (pa_cons (pv 4) (pa_cons (pv 5) pa_nil)))))) (pss_one (ps_if (pt_cmpR op_in_seq (pe_ix ix_list (pv 1) (pv 4) (fun _ _ => rfl)) (pv 5) (by rfl)) (pss_one (ps_expr (pe_call G_put_between (hr.mono (by decide)) (by rfl) T.m_put_between T.F_put_between.kp T.b_put_between .nil pass0 (pa_cons (pv 1) (pa_cons (pv 2) (pa_cons (pv 3) (pa_cons (pv 4) pa_nil))))))) pss_nil))))))) (pss_one (ps_ret (pe_lc (own := [("place", 3)]) (g := (gName 3)) (tt := tYes) rfl sc_tree.nd (pi_range2 (by rfl) T.n_range (pa_cons pe_int (pa_cons (pe_fld (pv 0) rfl) pa_nil))) (blkOk_by (own := [("place", 3)]) (N := ["net", "uppers", "prices", "place", "upper", "side"]) (sc := defScope s_tree) (by decide +kernel)) (fun _ _ _ _ _ => (pg_name (i := 3) sc_tree.nd rfl (Or.inl rfl))) (fun _ _ _ _ _ => pts_nil) (fun _ _ _ _ _ => (pe_tup (pa_cons (pv 3) (pa_cons (pe_ix (show IxR _ (rIxL K) from ix_list) (pv 1) (pv 3) (fun _ _ => rfl)) (pa_cons (pe_ix (show IxR _ (rIxL K) from ix_list) (pv 2) (pv 3) (fun _ _ => rfl)) pa_nil))))))))))), ?_⟩
    refine p_asgL (Ex.refl H) (el_rep1 ev_c (ev_many (ev_var rfl) N T.cl_Net T.na_Net_many) (by omega)) fun a H1 ha e1 _ ha1 => ?_
    refine p_asgL e1 (el_rep1 ev_c (ev_many (ev_var rfl) N T.cl_Net T.na_Net_many) (by omega)) fun b H2 hb e2 e12 hb2 => ?_
    have nab : a ≠ b := ne_of_none ha1 hb
    have hb0 : H b = none := fresh_back e1 hb
    have ha2 := e12 _ _ ha1
    refine q_forR2 (lo := 1) (n := (n : Int)) (ea_cons ev_c (ea_cons ((ev_many (ev_var rfl) N T.cl_Net T.na_Net_many).mono e2) ea_nil)) (by omega) (fun j σ' H' => ∃ v3 v4 v5, σ' = [some (.ref x), some (.ref a), some (.ref b), v3, v4, v5] ∧ Ex H H' ∧ H' a = some (.lst (lstOf n (iV (treeTo (costM ts) n j).1))) ∧ H' b = some (.lst (lstOf n (pV (treeTo (costM ts) n j).2)))) (fun H3 e3 => ⟨_, _, _, rfl, e2.trans e3, e3 _ _ ha2, e3 _ _ hb2⟩) ?_ ?_
    · rintro j σ' H' hj ⟨v3, v4, v5, rfl, e, ha', hb'⟩
      have hjn : j + 1 < n := by omega
      have g := treeTo_ok (C := costM ts) (n := n) cn j (by omega)
      have estep : treeTo (costM ts) n (j + 1) = turnS (costM ts) n (j + 1) (treeTo (costM ts) n j) := rfl
      generalize treeTo (costM ts) n j = st at ha' hb' g estep ⊢
      have hti : st.1 (j + 1) ≤ j := g.le _
      have htn : st.1 (j + 1) < n := by omega
      have hne : j + 1 ≠ st.1 (j + 1) := by omega
      have ej : (1 : Int) + (j : Int) = ((j + 1 : Nat) : Int) := by omega
      rw [ej]
      refine p_asg (Ex.refl H') (ev_op (ev_var rfl) (ev_var rfl) (rv_ixL (sq_of ha') (lstOf_at hjn))) fun H3 e3 _ => ?_
      have N3 := N.ex (e.trans e3)
      refine q_asgL (el_wall (ev_var rfl) (ev_var rfl) (ev_var rfl) N3 hjn htn hne) fun w H4 hw e4 h4 => ?_
      have ha4 := e4 _ _ (e3 _ _ ha')
      have hb4 := e4 _ _ (e3 _ _ hb')
      have nwa : w ≠ a := (ne_of_none (e3 _ _ ha') hw).symm
      have nwb : w ≠ b := (ne_of_none (e3 _ _ hb') hw).symm
      have N4 := N3.ex e4
      have wl := sortN_len n (reach (costM ts) n (j + 1) (st.1 (j + 1)))
      have hmem := wallN_mem (C := costM ts) (n := n) (one := j + 1) (other := st.1 (j + 1)) hjn
      have wlt : ∀ k ∈ wallN (costM ts) n (j + 1) (st.1 (j + 1)), k < n := sortN_lt
      have wnd : (wallN (costM ts) n (j + 1) (st.1 (j + 1))).Nodup := sortN_nodup _ _
      refine q_setL hb4 (ev_is (ev_price (ev_var rfl) (ev_var rfl) N4 (sq_of h4) wlt wnd (by unfold wallN; omega)) (by rw [mostN_cutP N.good hjn hne])) (ev_var rfl) (ev_var rfl) (by rw [lstOf_len]; exact hjn) fun H5 e5 => ?_
      rw [lstOf_set]
      have ha5 : upd H5 b (.lst (lstOf n fun k => if k = j + 1 then .int (mostN (costM ts) n (j + 1) (st.1 (j + 1))) else pV st.2 k)) a = some (.lst (lstOf n (iV st.1))) := by rw [upd_ne nab]; exact e5 _ _ ha4
      have hw5 : upd H5 b (.lst (lstOf n fun k => if k = j + 1 then .int (mostN (costM ts) n (j + 1) (st.1 (j + 1))) else pV st.2 k)) w = some (.lst (IL (wallN (costM ts) n (j + 1) (st.1 (j + 1))))) := by rw [upd_ne nwb]; exact e5 _ _ h4
      have hb5 : upd H5 b (.lst (lstOf n fun k => if k = j + 1 then .int (mostN (costM ts) n (j + 1) (st.1 (j + 1))) else pV st.2 k)) b = some (.lst (lstOf n (pV fun k => if k = j + 1 then mostN (costM ts) n (j + 1) (st.1 (j + 1)) else st.2 k))) := by
        rw [upd_same]
        congr 2
        refine lstOf_congr fun k _ => ?_
        unfold pV
        dsimp only
        split <;> rfl
      have eB : Ex H (upd H5 b (.lst (lstOf n fun k => if k = j + 1 then .int (mostN (costM ts) n (j + 1) (st.1 (j + 1))) else pV st.2 k))) := Ex.mut (((e.trans e3).trans e4).trans e5) hb0
      generalize upd H5 b (.lst (lstOf n fun k => if k = j + 1 then .int (mostN (costM ts) n (j + 1) (st.1 (j + 1))) else pV st.2 k)) = B at ha5 hb5 hw5 eB ⊢
      refine ⟨_, rfl, _, rfl, _, rfl, _, rfl, a, w, n, j + 1, st.1 (j + 1), st.1, _, rfl, ha5, hw5, nwa, wnd, wlt, fun H6 ha6 k6 => ?_⟩
      have e6 : Ex H H6 := fun c o hc => k6 c o (fun z => by rw [z, ha] at hc; cases hc) (eB _ _ hc)
      have hb6 := k6 _ _ nab.symm hb5
      have hw6 := k6 _ _ nwa hw5
      have hu : (fun k => if k ∈ wallN (costM ts) n (j + 1) (st.1 (j + 1)) ∧ k ≠ j + 1 ∧ st.1 k = st.1 (j + 1) then j + 1 else st.1 k) = turnU (wallN (costM ts) n (j + 1) (st.1 (j + 1))) (j + 1) st.1 := rfl
      rw [hu] at ha6
      refine p_whenE (b := decide (turnU (wallN (costM ts) n (j + 1) (st.1 (j + 1))) (j + 1) st.1 (st.1 (j + 1)) ∈ wallN (costM ts) n (j + 1) (st.1 (j + 1)))) (Ex.refl H6) (et_test (ev_inIL (ev_op (ev_var rfl) (ev_var rfl) (rv_ixL (sq_of ha6) (lstOf_at htn))) (ev_var rfl) (sq_of hw6))) (fun hd H7 e7 _ => ?_) (fun hd H7 e7 _ => ?_)
      · have hd := of_decide_eq_true hd
        refine ⟨_, rfl, _, rfl, _, rfl, _, rfl, a, b, n, j + 1, st.1 (j + 1), _, _, rfl, e7 _ _ ha6, e7 _ _ hb6, nab, hjn, htn, hne, fun H8 a8 b8 k8 => ?_⟩
        refine ⟨_, _, _, rfl, fun c o hc => k8 c o (fun z => by rw [z, ha] at hc; cases hc) (fun z => by rw [z, hb0] at hc; cases hc) (e7 _ _ (e6 _ _ hc)), ?_, ?_⟩
        · rw [a8, estep]
          unfold turnS
          dsimp only
          rw [if_pos hd]
        · rw [b8, estep]
          unfold turnS
          dsimp only
          rw [if_pos hd]
      · have hd := of_decide_eq_false hd
        refine ⟨_, _, _, rfl, e6.trans e7, ?_, ?_⟩
        · rw [e7 _ _ ha6, estep]
          unfold turnS
          dsimp only
          rw [if_neg hd]
        · rw [e7 _ _ hb6, estep]
          unfold turnS
          dsimp only
          rw [if_neg hd]
    · rintro σ' H' ⟨v3, v4, v5, rfl, e, ha', hb'⟩
      have en : ((n : Int) - 1).toNat = n - 1 := by omega
      rw [en] at ha' hb'
      have N' := N.ex e
      refine p_retLR (Ex.refl H') (el_cR2 (lo := 1) (n := n) (fun _ => true) (compTie (K := K) (t := fun j => (j + 1, uN (costM ts) n (j + 1), pN (costM ts) n (j + 1)))) (ea_cons ev_c (ea_cons (ev_many (ev_var rfl) N' T.cl_Net T.na_Net_many) ea_nil)) (by omega) (by omega) (fun j hj => ?_)) fun p vs H3 hp e3 h3 hf => ?_
      · refine ⟨_, ?w, fun H2 Q _ q => q, et_yes, fun _ => ?_⟩
        case w => rfl
        intro H4 e4 Q q
        have ej : 1 + j = j + 1 := Nat.add_comm _ _
        rw [ej]
        exact eu_tup (vs := tv (j + 1, uN (costM ts) n (j + 1), pN (costM ts) n (j + 1))) (ea_cons (ev_var rfl) (ea_cons (ev_op (ev_var rfl) (ev_var rfl) (rv_ixL (sq_of ha') (lstOf_at (by omega)))) (ea_cons (ev_op (ev_var rfl) (ev_var rfl) (rv_ixL (sq_of hb') (lstOf_at (by omega)))) ea_nil))) (Nat.le_of_ble_eq_true rfl) H4 e4 Q fun p H5 hp e5 h5 => q _ H5 e5 ⟨p, rfl, st_of h5⟩
      · rw [filter_yes] at hf
        exact k p vs H3 (fresh_back e hp) (e.trans e3) h3 hf.ties
theorem er_tree {C : Addr} {σ : L2.St} {H : Hp} {ta : TE} {E : XK} {x : Addr} {n : Nat} {ts : List Tie} (ha : Ev ta σ H (.ref x)) (N : NetAt K C H x n ts) :
    EvR (tCall (sp_tree K C) [] E (tCons ta tNil)) σ H (fun H1 v H2 => ∃ p xs, v = .ref p ∧ H1 p = none ∧ H2 p = some (.lst xs) ∧ TiesV K H2 xs (boughsN ts n)) := fun H1 e Q q =>
  ha H1 e _ fun H2 e2 => ⟨x, n, ts, rfl, N.ex (e.trans e2), fun p xs H3 hp e3 h3 tz => q _ H3 (e2.trans e3) ⟨p, xs, rfl, fresh_back e2 hp, h3, tz⟩⟩
end
end Toy

namespace Toy
open PySem L2 TL Evl RZ G N
section
variable {P : Program} {w : World} {K : PySem.W.Frag} {mg : Str → Option Value} {base : Heap}
/-- boughs of a tree stand at b -/
structure BghL (K : PySem.W.Frag) (H : Hp) (b : Addr) (n : Nat) (u : Nat → Nat) (p : Nat → Int) : Prop where
  ls : ∃ xs, SqL K H b xs ∧ TiesV K H xs (boughsOf n u p)
  lt : ∀ k, u k < n
  up : ∀ k, Up u k
  lo : 1 ≤ n
  hi : n ≤ 24
theorem BghL.ex {H H' : Hp} {b : Addr} {n : Nat} {u : Nat → Nat} {p : Nat → Int} (h : BghL K H b n u p) (e : Ex H H') : BghL K H' b n u p := by
  obtain ⟨xs, a, c⟩ := h.ls
  exact ⟨⟨xs, ex_l e a, c.ex e⟩, h.lt, h.up, h.lo, h.hi⟩
theorem bghL_of {C : Addr} {H : Hp} {x b : Addr} {n : Nat} {ts : List Tie} {xs : List V} (N : NetAt K C H x n ts) (h : SqL K H b xs) (tz : TiesV K H xs (boughsN ts n)) : BghL K H b n (uN (costM ts) n) (pN (costM ts) n) := by
  have g := uN_ok (C := costM ts) (costM_nonneg N.good) N.lo
  have n1 := N.lo
  exact ⟨⟨xs, h, tz⟩, fun k => by have := g.le k; omega, g.up, N.lo, N.hi⟩
/-- boughs[k - 1][1] -/
theorem BghL.bough {H : Hp} {b : Addr} {n : Nat} {u : Nat → Nat} {p : Nat → Int} (h : BghL K H b n u p) {k : Nat} (h0 : k ≠ 0) (hk : k < n) : ∃ xs a, SqL K H b xs ∧ atI xs ((k : Int) - 1) = some (.ref a) ∧ SqT K H a (tv (k, u k, p k)) := by
  obtain ⟨xs, hb, tz⟩ := h.ls
  have hg := boughsOf_get (n := n) (u := u) (p := p) (j := k - 1) (by omega)
  rw [show k - 1 + 1 = k by omega] at hg
  have hl : k - 1 < xs.length := by rw [tz.len, boughsOf_len]; omega
  obtain ⟨a, ha, hq⟩ := tz.at_ (k - 1) xs[k - 1] _ (List.getElem?_eq_getElem hl) hg
  refine ⟨xs, a, hb, ?_, hq⟩
  have e : ((k : Int) - 1) = ((k - 1 : Nat) : Int) := by omega
  rw [e]
  exact at_of rfl (by rw [List.getElem?_eq_getElem hl, ha])
def sp_way_up (K : PySem.W.Frag) : Sp := fun vs H Q _ => ∃ (b : Addr) (n k : Nat) (u : Nat → Nat) (p : Nat → Int), vs = [.ref b, .int k] ∧ BghL K H b n u p ∧ k < n ∧ RetL (IL (chain n u k)) H Q
theorem ok_way_up (T : Wd K mg) : FnOk P w K mg base CX0 1 T.f_way_up T.d_way_up ["boughs", "place"] (sp_way_up K) := by
  refine T.F_way_up.ok sc_way_up (fun vs H Q E h => ?_) (fun cdv A outer s H vs Q E hr h => ?_)
  · obtain ⟨b, n, k, u, p, rfl, _⟩ := h
    rfl
  · obtain ⟨b, n, k0, u, p, rfl, B, hk, k⟩ := h
    have c0 := chain_ok (B.up k0) B.lt hk
    have n24 := B.hi
    refine ⟨_, (pss_cons (ps_set (i := 2) sc_way_up.nd rfl (Or.inl rfl) (pe_lst (pa_cons (pv 1) pa_nil))) (pss_cons (ps_while PassesOwn.never (pt_cmpR op_ne (pe_ix ix_list (pv 2) (pe_un un_neg pe_int) (fun _ _ => rfl)) pe_int (nomark _)) (pss_one (ps_expr (pe_bm PySem.F.plainAttrs_list PySem.F.slot_list_append PySem.F.type_list_append mt_append (pv 2) (pa_cons (pe_ix ix_tup (pe_ix ix_list (pv 0) (pe_op op_sub (pe_ix ix_list (pv 2) (pe_un un_neg pe_int) (fun _ _ => rfl)) pe_int) (fun _ _ => rfl)) pe_int (fun _ _ => rfl)) pa_nil))))) (pss_one (ps_ret (pv 2))))), ?_⟩
    refine p_asgL (Ex.refl H) (el_lst (ea_cons (ev_var rfl) ea_nil) (Nat.le_of_ble_eq_true rfl)) fun w H1 hw e1 _ hw1 => ?_
    refine q_while (fun m σ' H' => ∃ (pre : List Nat) (x : Nat) (qs : List Nat), σ' = [some (.ref b), some (.int k0), some (.ref w)] ∧ Ex H H' ∧ H' w = some (.lst (IL (pre ++ [x]))) ∧ UpL u x qs ∧ chain n u k0 = pre ++ qs ∧ x < n ∧ m = qs.length) (chain n u k0).length ⟨[], k0, chain n u k0, rfl, e1, hw1, c0, rfl, hk, rfl⟩ ?_
    rintro m σ' H' ⟨pre, x, qs, rfl, e, hw', hu, hc, hx, rfl⟩
    have hl := nodup_le n (chain n u k0) c0.nodup (c0.lt B.lt hk)
    have hq : 0 < qs.length := by
      obtain ⟨q, rfl⟩ := hu.head
      simp
    rw [hc, List.length_append] at hl
    refine ⟨!decide (V.int (x : Int) = V.int 0), et_test (ev_op (ev_op (ev_var rfl) (ev_un ev_c ru_neg) (IL_last hw')) ev_c (rv_ne rfl)), fun hb1 H5 e5 => ?_, fun hb0 H5 e5 => ?_⟩
    · have x0 : x ≠ 0 := fun z => by subst z; simp at hb1
      refine ⟨fun σ2 H2 => ∃ m', m' < qs.length ∧ ∃ (pre : List Nat) (x : Nat) (qs : List Nat), σ2 = [some (.ref b), some (.int k0), some (.ref w)] ∧ Ex H H2 ∧ H2 w = some (.lst (IL (pre ++ [x]))) ∧ UpL u x qs ∧ chain n u k0 = pre ++ qs ∧ x < n ∧ m' = qs.length, fun _ _ h => h, ?_⟩
      cases hu with
      | zero => exact absurd rfl x0
      | @step _ ps h0 g =>
        have e6 := e.trans e5
        have hw5 := e5 _ _ hw'
        obtain ⟨xs, a, hb, hat, hta⟩ := (B.ex e6).bough x0 hx
        refine s_app hw5 (ev_var rfl) (ev_t1 (ev_op (ev_var rfl) (ev_op (ev_op (ev_var rfl) (ev_un ev_c ru_neg) (IL_last hw5)) ev_c rv_I0) (rv_ixL hb hat)) hta) (by rw [IL_len, List.length_append, List.length_singleton]; omega) fun H6 e7 => ?_
        refine ⟨ps.length, by simp, pre ++ [x], u x, ps, rfl, Ex.mut (e6.trans e7) hw, ?_, g, by rw [hc]; simp, B.lt x, rfl⟩
        rw [upd_same, IL_app (pre ++ [x])]
        rfl
    · have x0 : x = 0 := by simp at hb0; omega
      subst x0
      have eq : qs = [0] := by
        cases hu with
        | zero => rfl
        | step h0 _ => exact absurd rfl h0
      subst eq
      refine p_ret (Ex.refl H5) (ev_var rfl) fun H6 e6 => k w H6 hw ((e.trans e5).trans e6) ?_
      rw [hc]
      exact e6 _ _ (e5 _ _ hw')
theorem sl_way_up {b : Addr} {n k : Nat} {u : Nat → Nat} {p : Nat → Int} {H : Hp} (B : BghL K H b n u p) (hk : k < n) : SpL (sp_way_up K) [.ref b, .int k] H (IL (chain n u k)) := fun H1 e Q q E => ⟨b, n, k, u, p, rfl, B.ex e, hk, q⟩
theorem chain_len {n : Nat} {u : Nat → Nat} {k : Nat} (up : ∀ k, Up u k) (hu : ∀ k, u k < n) (hk : k < n) : (chain n u k).length ≤ n := by
  have c0 := chain_ok (up k) hu hk
  exact nodup_le n _ c0.nodup (c0.lt hu hk)
def sp_places_below (K : PySem.W.Frag) : Sp := fun vs H Q _ => ∃ (b : Addr) (n k : Nat) (u : Nat → Nat) (p : Nat → Int), vs = [.ref b, .int k] ∧ BghL K H b n u p ∧ RetL (IL (belowN n u k)) H Q
theorem ok_places_below (T : Wd K mg) : FnOk P w K mg base CX0 2 T.f_places_below T.d_places_below ["boughs", "place"] (sp_places_below K) := by
  have G_way_up := ok_way_up (P := P) (w := w) (base := base) T
  refine T.F_places_below.ok sc_places_below (fun vs H Q E h => ?_) (fun cdv A outer s H vs Q E hr h => ?_)
  · obtain ⟨b, n, k, u, p, rfl, _⟩ := h
    rfl
  · obtain ⟨b, n, k0, u, p, rfl, B, k⟩ := h
    have n24 := B.hi
    have n1 := B.lo
    obtain ⟨xs, hb, tz⟩ := B.ls
    have hlen : ((xs.length : Int) + 1) = (n : Int) := by rw [tz.len, boughsOf_len]; omega
    refine ⟨_, (pss_one (ps_ret (pe_lc (own := [("low", 2)]) (g := (gName 2)) rfl sc_places_below.nd (pi_range1 (by rfl) T.n_range (pa_cons (pe_op op_add (pe_callB call_len_seq (by rfl) T.n_len (by decide +kernel) (pa_cons (pv 0) pa_nil)) pe_int) pa_nil)) (blkOk_by (own := [("low", 2)]) (N := ["boughs", "place", "low"]) (sc := defScope s_places_below) (by decide +kernel)) (fun _ _ _ _ _ => (pg_name (i := 2) sc_places_below.nd rfl (Or.inl rfl))) (fun _ _ _ _ _ => (pts_one (pt_cmpR (show OpR _ _ (rIn K false) from op_in_seq) (pv 1) (pe_call G_way_up (hr.mono (by decide)) (by rfl) T.m_way_up T.F_way_up.kp T.b_way_up .nil pass0 (pa_cons (pv 0) (pa_cons (pv 2) pa_nil))) (by rfl)))) (fun _ _ _ _ _ => (pv 2))))), ?_⟩
    refine p_retL (Ex.refl H) (el_is (el_lcR1 (n := (n : Int)) (fun j => decide (k0 ∈ chain n u j)) (fun j => .int (j : Int)) (ea_cons (ev_is (ev_op (ev_lenS (ev_var rfl) (.inl hb)) ev_c rv_I0) (by rw [hlen])) ea_nil) (by omega) (fun _ => rfl) (fun j H3 e3 hj => ?_) (fun j H3 e3 hj _ => ev_var rfl)) ?_) k
    · exact et_test (ev_is (ev_opL (ev_var rfl) (el_call (ea_cons (ev_var rfl) (ea_cons (ev_var rfl) ea_nil)) (sl_way_up (B.ex e3) (by omega))) (fun q H4 h4 _ => rv_isL (sq_of h4) rfl flat_IL)) (by rw [inV_IL]))
    · rfl
theorem sl_below {b : Addr} {n k : Nat} {u : Nat → Nat} {p : Nat → Int} {H : Hp} (B : BghL K H b n u p) : SpL (sp_places_below K) [.ref b, .int k] H (IL (belowN n u k)) := fun H1 e Q q E => ⟨b, n, k, u, p, rfl, B.ex e, q⟩
def sp_way_between (K : PySem.W.Frag) : Sp := fun vs H Q _ => ∃ (b : Addr) (n one other : Nat) (u : Nat → Nat) (p : Nat → Int), vs = [.ref b, .int one, .int other] ∧ BghL K H b n u p ∧ one < n ∧ other < n ∧ ∀ q ws H2, H q = none → Ex H H2 → RoadOk n u one other ws → H2 q = some (.lst (IL ws)) → Q (.ref q) H2
theorem snoc_of {x : List Nat} (h : x ≠ []) : ∃ y z, x = y ++ [z] := ⟨x.dropLast, x.getLast h, (List.dropLast_concat_getLast h).symm⟩
theorem ok_way_between (T : Wd K mg) : FnOk P w K mg base CX0 2 T.f_way_between T.d_way_between ["boughs", "one", "other"] (sp_way_between K) := by
  have G_way_up := ok_way_up (P := P) (w := w) (base := base) T
  refine T.F_way_between.ok sc_way_between (fun vs H Q E h => ?_) (fun cdv A outer s H vs Q E hr h => ?_)
  · obtain ⟨b, n, one, other, u, p, rfl, _⟩ := h
    rfl
  · obtain ⟨b, n, one, other, u, p, rfl, B, h1, h2, k⟩ := h
    have c1 := chain_ok (B.up one) B.lt h1
    have c2 := chain_ok (B.up other) B.lt h2
    have l1 := chain_len B.up B.lt h1
    have l2 := chain_len B.up B.lt h2
    have n24 := B.hi
    refine ⟨_, (pss_cons (ps_set (i := 3) sc_way_between.nd rfl (Or.inl rfl) (pe_call G_way_up (hr.mono (by decide)) (by rfl) T.m_way_up T.F_way_up.kp T.b_way_up .nil pass0 (pa_cons (pv 0) (pa_cons (pv 1) pa_nil)))) (pss_cons (ps_set (i := 4) sc_way_between.nd rfl (Or.inl rfl) (pe_call G_way_up (hr.mono (by decide)) (by rfl) T.m_way_up T.F_way_up.kp T.b_way_up .nil pass0 (pa_cons (pv 0) (pa_cons (pv 2) pa_nil)))) (pss_cons (ps_while PassesOwn.never (PW.pt (pw_and (pt_cmpR op_gt (pe_callB call_len_seq (by rfl) T.n_len (by decide +kernel) (pa_cons (pv 3) pa_nil)) pe_int (nomark _)) (pw_and (pt_cmpR op_gt (pe_callB call_len_seq (by rfl) T.n_len (by decide +kernel) (pa_cons (pv 4) pa_nil)) pe_int (nomark _)) (pw_and1 (pt_cmpR op_eq (pe_ix ix_list (pv 3) (pe_un un_neg pe_int) (fun _ _ => rfl)) (pe_ix ix_list (pv 4) (pe_un un_neg pe_int) (fun _ _ => rfl)) (nomark _)))))) (pss_cons (ps_expr (pe_bm0 PySem.F.plainAttrs_list PySem.F.slot_list_pop PySem.F.type_list_pop mt_pop (pv 3))) (pss_one (ps_expr (pe_bm0 PySem.F.plainAttrs_list PySem.F.slot_list_pop PySem.F.type_list_pop mt_pop (pv 4)))))) (pss_cons (ps_expr (pe_bm0 PySem.F.plainAttrs_list PySem.F.slot_list_pop PySem.F.type_list_pop mt_pop (pv 4))) (pss_one (ps_ret (pe_op op_cat (pv 3) (pe_revL (pv 4))))))))), ?_⟩
    refine p_asgL (Ex.refl H) (el_call (ea_cons (ev_var rfl) (ea_cons (ev_var rfl) ea_nil)) (sl_way_up B h1)) fun a H1 ha e1 _ ha1 => ?_
    refine p_asgL e1 (el_call (ea_cons (ev_var rfl) (ea_cons (ev_var rfl) ea_nil)) (sl_way_up B h2)) fun d H2 hd e2 e12 hd2 => ?_
    have nad : a ≠ d := ne_of_none ha1 hd
    have hd0 : H d = none := fresh_back e1 hd
    obtain ⟨q1, hq1⟩ := c1.last
    obtain ⟨q2, hq2⟩ := c2.last
    have ha2 := e12 _ _ ha1
    rw [hq1] at ha2
    rw [hq2] at hd2
    refine q_while (fun m σ' H' => ∃ (x y s : List Nat) (z : Nat), σ' = [some (.ref b), some (.int one), some (.int other), some (.ref a), some (.ref d)] ∧ Ex H H' ∧ H' a = some (.lst (IL (x ++ [z]))) ∧ H' d = some (.lst (IL (y ++ [z]))) ∧ chain n u one = x ++ z :: s ∧ chain n u other = y ++ z :: s ∧ m = x.length) q1.length ⟨q1, q2, [], 0, rfl, e2, ha2, hd2, hq1, hq2, rfl⟩ ?_
    rintro m σ' H' ⟨x, y, s, z, rfl, e, ha', hd', f1, f2, rfl⟩
    have lx : x.length ≤ 24 := by
      have := l1
      rw [f1, List.length_append] at this
      omega
    have ly : y.length ≤ 24 := by
      have := l2
      rw [f2, List.length_append] at this
      omega
    have fin : (x = [] ∨ y = [] ∨ x.getLast? ≠ y.getLast?) → ∀ H5, Ex H' H5 → tSeq (tDrop (tBM0 K "list" rPop (tVar 4))) (tRet (tOp rCat (tVar 3) (tRevL K (tVar 4)))) { nx := fun _ H' => Q .non H', rt := Q } [some (.ref b), some (.int one), some (.int other), some (.ref a), some (.ref d)] H5 := by
      intro hm H5 e5
      have hd5 := e5 _ _ hd'
      rw [IL_app] at hd5
      refine q_popD hd5 (ev_var rfl) fun H6 e6 => ?_
      have a6 : upd H6 d (.lst (IL y)) a = some (.lst (IL (x ++ [z]))) := by rw [upd_ne nad]; exact e6 _ _ (e5 _ _ ha')
      have d6 : upd H6 d (.lst (IL y)) d = some (.lst (IL y)) := upd_same
      have eB : Ex H (upd H6 d (.lst (IL y))) := Ex.mut ((e.trans e5).trans e6) hd0
      generalize upd H6 d (.lst (IL y)) = B6 at a6 d6 eB ⊢
      refine p_retL (Ex.refl B6) (el_vcatL (K := K) (ev_var rfl) (sq_of a6) (el_rev (K := K) (ev_var rfl) (sq_of d6)) (by rw [List.length_reverse, IL_len, IL_len, List.length_append, List.length_singleton]; omega) a6) fun q H7 hq e7 h7 => ?_
      refine k q (x ++ z :: y.reverse) H7 (fresh_back eB hq) (eB.trans e7) ⟨x, z, y, s, f1, f2, hm, rfl⟩ ?_
      rw [h7]
      congr 2
      rw [show x ++ z :: y.reverse = (x ++ [z]) ++ y.reverse by simp, IL_app (x ++ [z])]
      congr 1
      unfold IL
      rw [List.map_reverse]
    have lt1 : decide ((1 : Int) < ((IL (x ++ [z])).length : Int)) = decide (x ≠ []) := by
      rw [IL_len, List.length_append, List.length_singleton]
      cases x with
      | nil => rfl
      | cons _ _ => simp; omega
    have lt2 : decide ((1 : Int) < ((IL (y ++ [z])).length : Int)) = decide (y ≠ []) := by
      rw [IL_len, List.length_append, List.length_singleton]
      cases y with
      | nil => rfl
      | cons _ _ => simp; omega
    by_cases hx : x = []
    · refine ⟨false, et_is (et_and (a := false) (b := false) (et_is (et_test (ev_op (ev_lenS (ev_var rfl) (.inl (sq_of ha'))) ev_c rv_I0)) (lt1.trans (decide_eq_false fun z => z hx))) (fun z => by cases z)) rfl, (fun z => by cases z), fun _ H5 e5 => fin (.inl hx) H5 e5⟩
    · by_cases hy : y = []
      · refine ⟨false, et_is (et_and (a := true) (b := false) (et_is (et_test (ev_op (ev_lenS (ev_var rfl) (.inl (sq_of ha'))) ev_c rv_I0)) (lt1.trans (decide_eq_true hx))) (fun _ => et_is (et_and (a := false) (b := false) (et_is (et_test (ev_op (ev_lenS (ev_var rfl) (.inl (sq_of hd'))) ev_c rv_I0)) (lt2.trans (decide_eq_false fun z => z hy))) (fun z => by cases z)) rfl)) rfl, (fun z => by cases z), fun _ H5 e5 => fin (.inr (.inl hy)) H5 e5⟩
      · obtain ⟨x1, v, rfl⟩ := snoc_of hx
        obtain ⟨y1, v2, rfl⟩ := snoc_of hy
        have ha2' : H' a = some (.lst (IL (x1 ++ [v, z]))) := by rw [ha']; simp
        have hd2' : H' d = some (.lst (IL (y1 ++ [v2, z]))) := by rw [hd']; simp
        refine ⟨decide (v = v2), et_is (et_and (a := true) (b := decide (v = v2)) (et_is (et_test (ev_op (ev_lenS (ev_var rfl) (.inl (sq_of ha'))) ev_c rv_I0)) (lt1.trans (decide_eq_true hx))) (fun _ => et_is (et_and (a := true) (b := decide (v = v2)) (et_is (et_test (ev_op (ev_lenS (ev_var rfl) (.inl (sq_of hd'))) ev_c rv_I0)) (lt2.trans (decide_eq_true hy))) (fun _ => et_is (et_test (ev_op (ev_op (ev_var rfl) (ev_un ev_c ru_neg) (IL_m2 ha2')) (ev_op (ev_var rfl) (ev_un ev_c ru_neg) (IL_m2 hd2')) (rv_eq rfl))) (by simp; omega))) rfl)) rfl, fun hb1 H5 e5 => ?_, fun hb0 H5 e5 => fin (.inr (.inr fun z => ?_)) H5 e5⟩
        · have ev := of_decide_eq_true hb1
          subst ev
          refine ⟨fun σ2 H2 => ∃ m', m' < (x1 ++ [v]).length ∧ ∃ (x y s : List Nat) (z : Nat), σ2 = [some (.ref b), some (.int one), some (.int other), some (.ref a), some (.ref d)] ∧ Ex H H2 ∧ H2 a = some (.lst (IL (x ++ [z]))) ∧ H2 d = some (.lst (IL (y ++ [z]))) ∧ chain n u one = x ++ z :: s ∧ chain n u other = y ++ z :: s ∧ m' = x.length, fun _ _ h => h, ?_⟩
          have a5 := e5 _ _ ha'
          rw [IL_app] at a5
          refine q_popD a5 (ev_var rfl) fun H6 e6 => ?_
          have d6 : upd H6 a (.lst (IL (x1 ++ [v]))) d = some (.lst (IL (y1 ++ [v]) ++ IL [z])) := by rw [upd_ne nad.symm, ← IL_app]; exact e6 _ _ (e5 _ _ hd')
          have a6 : upd H6 a (.lst (IL (x1 ++ [v]))) a = some (.lst (IL (x1 ++ [v]))) := upd_same
          have eB : Ex H (upd H6 a (.lst (IL (x1 ++ [v])))) := Ex.mut ((e.trans e5).trans e6) ha
          generalize upd H6 a (.lst (IL (x1 ++ [v]))) = B6 at a6 d6 eB ⊢
          refine s_popD d6 (ev_var rfl) fun H7 e7 => ?_
          refine ⟨x1.length, by simp, x1, y1, z :: s, v, rfl, Ex.mut (eB.trans e7) hd0, by rw [upd_ne nad]; exact e7 _ _ a6, upd_same, by rw [f1]; simp, by rw [f2]; simp, rfl⟩
        · rw [List.getLast?_concat, List.getLast?_concat] at z
          exact (of_decide_eq_false hb0) (Option.some.inj z)
def sp_walls (K : PySem.W.Frag) (C : Addr) : Sp := fun vs H Q _ => ∃ (x : Addr) (n : Nat) (ts : List Tie), vs = [.ref x] ∧ NetAt K C H x n ts ∧ ∀ p vs H2, H p = none → Ex H H2 → H2 p = some (.lst vs) → Fills (fun j v H3 => ∃ a, v = .ref a ∧ a ≠ p ∧ H a = none ∧ H3 a = some (.lst (IL (belowN n (uN (costM ts) n) (1 + j))))) (List.range (n - 1)) vs H2 → Q (.ref p) H2
theorem compLst {B : Hp} {t : Nat → List V} : CompR (fun i H1 v H2 => ∃ a, v = .ref a ∧ H1 a = none ∧ B a = none ∧ H2 a = some (.lst (t i))) (fun D i v H => ∃ a, v = .ref a ∧ a ≠ D ∧ B a = none ∧ H a = some (.lst (t i))) := by
  refine ⟨fun D i v H1 H2 acc acc' e hD r => ?_, fun D i v H H2 acc acc' h1 h2 k r => ?_⟩
  · obtain ⟨a, rfl, f, b, h⟩ := r
    have ne : a ≠ D := (ne_of_none hD f).symm
    exact ⟨a, rfl, ne, b, by rw [upd_ne ne]; exact h⟩
  · obtain ⟨a, rfl, ne, b, h⟩ := r
    exact ⟨a, rfl, ne, b, k _ _ ne h⟩
theorem ok_walls (T : Wd K mg) : FnOk P w K mg base CX0 7 T.f_walls T.d_walls ["net"] (sp_walls K T.C_Net) := by
  have G_tree := ok_tree (P := P) (w := w) (base := base) T
  have G_places_below := ok_places_below (P := P) (w := w) (base := base) T
  refine T.F_walls.ok sc_walls (fun vs H Q E h => ?_) (fun cdv A outer s H vs Q E hr h => ?_)
  · obtain ⟨x, n, ts, rfl, _⟩ := h
    rfl
  · obtain ⟨x, n, ts, rfl, N, k⟩ := h
    have n24 := N.hi
    refine ⟨_, (pss_cons (ps_set (i := 1) sc_walls.nd rfl (Or.inr rfl) (pe_call G_tree (hr.mono (by decide)) (by rfl) T.m_tree T.F_tree.kp T.b_tree .nil pass0 (pa_cons (pv 0) pa_nil))) (pss_one (ps_ret (pe_lc (own := [("place", 2)]) (g := (gName 2)) (tt := tYes) rfl sc_walls.nd (pi_range2 (by rfl) T.n_range (pa_cons pe_int (pa_cons (pe_fld (pv 0) rfl) pa_nil))) (blkOk_by (own := [("place", 2)]) (N := ["net", "boughs", "place"]) (sc := defScope s_walls) (by decide +kernel)) (fun _ _ _ _ _ => (pg_name (i := 2) sc_walls.nd rfl (Or.inl rfl))) (fun _ _ _ _ _ => pts_nil) (fun _ _ _ _ _ => (pe_call G_places_below (hr.mono (by decide)) (by rfl) T.m_places_below T.F_places_below.kp T.b_places_below .nil pass0 (pa_cons (pv 1) (pa_cons (pv 2) pa_nil)))))))), ?_⟩
    refine p_asgR (Ex.refl H) (er_tree (ev_var rfl) N) fun v H1 e1 _ r => ?_
    obtain ⟨b, xs, rfl, hb, hb1, tz⟩ := r
    have B := bghL_of (N.ex e1) (sq_of hb1) tz
    refine p_retLR (Ex.refl H1) (el_cR2 (lo := 1) (n := n) (fun _ => true) (compLst (B := H) (t := fun j => IL (belowN n (uN (costM ts) n) (1 + j)))) (ea_cons ev_c (ea_cons (ev_many (ev_var rfl) (N.ex e1) T.cl_Net T.na_Net_many) ea_nil)) (by omega) (by omega) (fun j hj => ?_)) fun p vs H3 hp e3 h3 hf => ?_
    · refine ⟨_, ?w, fun H2 Q _ q => q, et_yes, fun _ => ?_⟩
      case w => rfl
      intro H4 e4 Q q
      exact el_call (ea_cons (ev_var rfl) (ea_cons (ev_var rfl) ea_nil)) (sl_below B) H4 e4 Q fun p H5 hp e5 h5 => q _ H5 e5 ⟨p, rfl, hp, fresh_back (e1.trans e4) hp, h5⟩
    · rw [filter_yes] at hf
      exact k p vs H3 (fresh_back e1 hp) (e1.trans e3) h3 hf
theorem er_walls {C : Addr} {σ : L2.St} {H : Hp} {ta : TE} {E : XK} {x : Addr} {n : Nat} {ts : List Tie} (ha : Ev ta σ H (.ref x)) (N : NetAt K C H x n ts) :
    EvR (tCall (sp_walls K C) [] E (tCons ta tNil)) σ H (fun H1 v H2 => ∃ p vs, v = .ref p ∧ H1 p = none ∧ H2 p = some (.lst vs) ∧ Fills (fun j v H3 => ∃ a, v = .ref a ∧ a ≠ p ∧ H1 a = none ∧ H3 a = some (.lst (IL (belowN n (uN (costM ts) n) (1 + j))))) (List.range (n - 1)) vs H2) := fun H1 e Q q =>
  ha H1 e _ fun H2 e2 => ⟨x, n, ts, rfl, N.ex (e.trans e2), fun p vs H3 hp e3 h3 hf => q _ H3 (e2.trans e3) ⟨p, vs, rfl, fresh_back e2 hp, h3, hf.1, fun k i v a b => by
    obtain ⟨c, rfl, h1, h2, h4⟩ := hf.2 k i v a b
    exact ⟨c, rfl, h1, fresh_back e2 h2, h4⟩⟩⟩
def sp_road (K : PySem.W.Frag) (C : Addr) : Sp := fun vs H Q _ => ∃ (x : Addr) (n : Nat) (ts : List Tie) (one other : Nat), vs = [.ref x, .int one, .int other] ∧ NetAt K C H x n ts ∧ one < n ∧ other < n ∧ one ≠ other ∧ ∀ q ws H2, H q = none → Ex H H2 → RoadOk n (uN (costM ts) n) one other ws → H2 q = some (.lst (IL ws)) → Q (.ref q) H2
end
end Toy

namespace G
open PySem PySem.Spec PyProof.Rows L2 Evl RZ N
/-! ### reading and changing lists whose noughts were made in the run -/
section
variable {K : PySem.W.Frag} {σ : L2.St} {H : Hp} {te ta tb : TE} {k : Nat} {p : Addr} {xs : List V} {v : V} {D : Ends} {tz : TS}
theorem rv_ixZ {i : Int} (h : H p = some (lz k p xs)) (ha : atI xs i = some v) : RV (rIxZ k) (.ref p) (.int i) H v := fun H1 e _ q => ⟨p, xs, i, v, rfl, rfl, e _ _ h, ha, q H1 (Ex.refl H1)⟩
theorem ev_lenZ (ha : Ev ta σ H (.ref p)) (h : H p = some (lz k p xs)) : Ev (tCB (fun xs H Q => ∃ p ys, xs = [.ref p] ∧ H p = some (lz k p ys) ∧ Q (.int ys.length) H) (tCons ta tNil)) σ H (.int (xs.length : Int)) := fun H1 e Q q =>
  ha H1 e _ fun H2 e2 => ⟨p, xs, rfl, (e.trans e2) _ _ h, q H2 e2⟩
theorem s_setZ {j : Nat} (hp : H p = some (lz k p xs)) (h : Ev te σ H v) (nv : v ≠ .int 0) (ho : Ev ta σ H (.ref p)) (hi : Ev tb σ H (.int (j : Int))) (hj : j < xs.length) (q : ∀ H1, Ex H H1 → D.nx σ (upd H1 p (lz k p (xs.set j v)))) : tSetZ k (tNz te) ta tb D σ H :=
  h H (Ex.refl H) _ fun H1 e1 => ⟨nv, ho H1 e1 _ fun H2 e2 => hi H2 (e1.trans e2) _ fun H3 e3 => ⟨p, xs, j, rfl, rfl, ((e1.trans e2).trans e3) _ _ hp, hj, q H3 ((e1.trans e2).trans e3)⟩⟩
theorem q_setZ {j : Nat} (hp : H p = some (lz k p xs)) (h : Ev te σ H v) (nv : v ≠ .int 0) (ho : Ev ta σ H (.ref p)) (hi : Ev tb σ H (.int (j : Int))) (hj : j < xs.length) (q : ∀ H1, Ex H H1 → tz D σ (upd H1 p (lz k p (xs.set j v)))) : tSeq (tSetZ k (tNz te) ta tb) tz D σ H :=
  s_setZ (D := { D with nx := tz D }) hp h nv ho hi hj q
/-- the value is known to be no bare nought by another way -/
theorem q_setZZ {j : Nat} (hp : H p = some (lz k p xs)) (h : Ev te σ H v) (ho : Ev ta σ H (.ref p)) (hi : Ev tb σ H (.int (j : Int))) (hj : j < xs.length) (q : ∀ H1, Ex H H1 → tz D σ (upd H1 p (lz k p (xs.set j v)))) : tSeq (tSetZ k te ta tb) tz D σ H :=
  h H (Ex.refl H) _ fun H1 e1 => ho H1 e1 _ fun H2 e2 => hi H2 (e1.trans e2) _ fun H3 e3 => ⟨p, xs, j, rfl, rfl, ((e1.trans e2).trans e3) _ _ hp, hj, q H3 ((e1.trans e2).trans e3)⟩
theorem q_zeros {i n : Nat} (h : Ev te σ H (.int (n : Int))) (hn : n ≤ 1000) (q : ∀ p H1, H p = none → Ex H H1 → H1 p = some (lz 0 p (lstOf n fun _ => .int 0)) → tz D (σ.set i (some (.ref p))) H1) : tSeq (tAsg (tZeros te) (gName i)) tz D σ H :=
  ⟨n, hn, fun l hl => h _ (Ex.new hl) _ fun H2 e2 => ⟨rfl, e2 _ _ upd_same, fun p hp => q p _ (fresh_back ((Ex.new hl).trans e2) hp) (((Ex.new hl).trans e2).trans (Ex.new hp)) (by rw [upd_same, lstOf_rep])⟩⟩
theorem s_appZ (hp : H p = some (lz k p xs)) (ho : Ev ta σ H (.ref p)) (h : Ev te σ H v) (hz : xs.length < 1000) (q : ∀ H1, Ex H H1 → D.nx σ (upd H1 p (lz k p (xs ++ [v])))) : tDrop (tAppZ k ta te) D σ H :=
  ho H (Ex.refl H) _ fun H1 e1 => ⟨p, xs, rfl, e1 _ _ hp, h H1 e1 _ fun H2 e2 => ⟨xs, (e1.trans e2) _ _ hp, Nat.lt_of_lt_of_le hz (by decide), q H2 (e1.trans e2)⟩⟩
theorem q_popZ {y : V} (hp : H p = some (lz k p (xs ++ [y]))) (ho : Ev ta σ H (.ref p)) (q : ∀ H1, Ex H H1 → tz D σ (upd H1 p (lz k p xs))) : tSeq (tDrop (tPopZ k ta)) tz D σ H :=
  ho H (Ex.refl H) _ fun H1 e1 => ⟨p, xs, y, rfl, e1 _ _ hp, q H1 e1⟩
/-- a tie's tuple whose second item is no bare nought -/
def TupZ (H : Hp) (v : V) (t : Tie) : Prop := ∃ (a : Addr) (o : Obj), v = .ref a ∧ H a = some (.frz o (.tup (tv t))) ∧ TZ o
theorem TupZ.ex {H H' : Hp} {v : V} {t : Tie} (h : TupZ H v t) (e : Ex H H') : TupZ H' v t := by
  obtain ⟨a, o, rfl, h, z⟩ := h
  exact ⟨a, o, rfl, e _ _ h, z⟩
theorem TupZ.tie {H : Hp} {v : V} {t : Tie} (h : TupZ H v t) : TieV K H v t := by
  obtain ⟨a, o, rfl, h, _⟩ := h
  exact ⟨a, rfl, .inl (.inr ⟨o, h⟩)⟩
theorem compZ {t : Nat → Tie} : CompR (fun i _ v H2 => TupZ H2 v (t i)) (fun _ i v H => TupZ H v (t i)) := by
  refine ⟨fun D i v H1 H2 acc acc' e hD r => ?_, fun D i v H H2 acc acc' h1 h2 k r => ?_⟩
  · obtain ⟨a, o, rfl, r, z⟩ := r
    have hD2 := e _ _ hD
    exact ⟨a, o, rfl, by rw [upd_ne (fun q => by rw [q, hD2] at r; cases r)]; exact r, z⟩
  · obtain ⟨a, o, rfl, r, z⟩ := r
    exact ⟨a, o, rfl, k a _ (fun q => by rw [q, h1] at r; cases r) r, z⟩
theorem ev_ix1 {a : Addr} {t : Tie} {o : Obj} (ha : Ev ta σ H (.ref a)) (h : H a = some (.frz o (.tup (tv t)))) (z : TZ o) : Ev (tOp rIx1 ta (tC (.int 1))) σ H (.int (t.2.1 : Int)) := fun H1 e Q q =>
  ha H1 e _ fun H2 e2 => ⟨a, o, _, _, _, rfl, rfl, (e.trans e2) _ _ h, z, q H2 e2⟩
theorem er_tupZ {t : Tie} {tA : TA} (h : EvA tA σ H (tv t)) : EvR (tTupZ tA) σ H (fun _ v H2 => TupZ H2 v t) := fun H1 e Q q =>
  h H1 e _ fun H2 e2 p o z hp => q _ _ (e2.trans (Ex.new hp)) ⟨p, o, rfl, upd_same, z⟩
theorem el_lstA_go {i : Nat} (h : Ev te σ H v) (q : ∀ p H1, H p = none → Ex H H1 → H1 p = some (lz 1 p [v]) → tz D (σ.set i (some (.ref p))) H1) : tSeq (tAsg (tLst1 1 te) (gName i)) tz D σ H :=
  h H (Ex.refl H) _ fun H1 e1 p hp => q p _ (fresh_back e1 hp) (e1.trans (Ex.new hp)) upd_same
end
theorem PSsp.nox {X : Cx} {st : List Stmt} {t : TS} (h : PSsp X.nox st t) : PSsp X st t := ⟨fun pins s σ H D I ht hw => wpAny_mono (h.run pins s σ H D (I.wish _) ht hw) (fun _ _ q => q.unwish) fun _ _ z => False.elim z⟩
theorem FnOk.or {P : Program} {w : World} {K : PySem.W.Frag} {mg : Str → Option Value} {base : Heap} {CX : CXT} {k : Nat} {f : Addr} {fd : FuncData} {ps : List Str} {sp sp' : Sp} (F : FnOk P w K mg base CX k f fd ps sp) (F' : FnOk P w K mg base CX k f fd ps sp') : FnOk P w K mg base CX k f fd ps (fun vs H Q E => sp vs H Q E ∨ sp' vs H Q E) :=
  ⟨fun vs H Q E h => h.elim (F.len vs H Q E) (F'.len vs H Q E), fun A outer s H args us vs Q E hr e0 hb r h => h.elim (F.run A outer s H args us vs Q E hr e0 hb r) (F'.run A outer s H args us vs Q E hr e0 hb r)⟩
end G
namespace Toy
open PySem L2 TL Evl RZ G N
section
variable {P : Program} {w : World} {K : PySem.W.Frag} {mg : Str → Option Value} {base : Heap}
/-! ### trees whose noughts were made in the run -/
def spz_take_over (K : PySem.W.Frag) : Sp := fun vs H Q _ => ∃ (a w : Addr) (n i t : Nat) (u : Nat → Nat) (W : List Nat), vs = [.ref a, .int i, .int t, .ref w] ∧ H a = some (lz 0 a (lstOf n (iV u))) ∧ H w = some (.lst (IL W)) ∧ i ≠ 0 ∧ w ≠ a ∧ W.Nodup ∧ (∀ k ∈ W, k < n) ∧
  ∀ H2, H2 a = some (lz 0 a (lstOf n (iV fun k => if k ∈ W ∧ k ≠ i ∧ u k = t then i else u k))) → (∀ b o, b ≠ a → H b = some o → H2 b = some o) → Q .non H2
theorem okz_take_over (T : Wd K mg) : FnOk P w K mg base CX0 1 T.f_take_over T.d_take_over ["uppers", "place", "upper", "side"] (spz_take_over K) := by
  refine T.F_take_over.ok sc_take_over (fun vs H Q E h => ?_) (fun cdv A outer s H vs Q E hr h => ?_)
  · obtain ⟨a, w, n, i, t, u, W, rfl, _⟩ := h
    rfl
  · obtain ⟨a, w, n, i, t, u, W, rfl, ha, hw, i0, nwa, nd, hlt, k⟩ := h
    refine ⟨_, (pss_one (ps_for PassesOwn.never rfl (pi_list (pv 3)) (pg_name (i := 4) sc_take_over.nd rfl (Or.inl rfl)) (pss_one (ps_if (PW.pt (pw_and (pt_cmpR op_ne (pv 4) (pv 1) (nomark _)) (pw_and1 (pt_cmpR op_eq (pe_ixz (k := 0) (pv 0) (pv 4) (fun _ _ => rfl)) (pv 2) (nomark _))))) (pss_one (ps_setZ (k := 0) (pz_of (pv 1)) (pv 0) (pv 4))) pss_nil)))), ?_⟩
    have e0 : lstOf n (iV u) = lstOf n (iV fun k => if k ∈ W.take 0 ∧ k ≠ i ∧ u k = t then i else u k) := lstOf_congr fun k _ => by unfold iV; dsimp only; rw [if_neg (fun z => by simp at z)]
    rw [e0] at ha
    refine s_forL (xs := IL W) (ev_var rfl) (sq_of hw) (fun m σ' H' => ∃ v4, σ' = [some (.ref a), some (.int i), some (.int t), some (.ref w), v4] ∧ H' a = some (lz 0 a (lstOf n (iV fun k => if k ∈ W.take m ∧ k ≠ i ∧ u k = t then i else u k))) ∧ ∀ b o, b ≠ a → H b = some o → H' b = some o) (fun H1 e1 => ⟨_, rfl, e1 _ _ ha, fun b o _ h => e1 _ _ h⟩) (fun m σ' H' _ p => by
      obtain ⟨v4, _, _, kk⟩ := p
      exact sq_of (kk _ _ nwa hw)) ?_ ?_
    · rintro m x σ' H' hx ⟨v4, rfl, ha', kk⟩
      obtain ⟨y, hy, rfl⟩ := IL_get hx
      have hyn := hlt y (List.mem_of_getElem? hy)
      have hnt : y ∉ W.take m := fun z => by
        obtain ⟨j, hj⟩ := List.mem_iff_getElem?.mp z
        rw [List.getElem?_take] at hj
        split at hj
        · rename_i hlt2
          have := nodup_at nd hj hy
          omega
        · cases hj
      have cur : (if y ∈ W.take m ∧ y ≠ i ∧ u y = t then i else u y) = u y := if_neg fun z => hnt z.1
      have hg : atI (lstOf n (iV fun k => if k ∈ W.take m ∧ k ≠ i ∧ u k = t then i else u k)) (y : Int) = some (.int (u y : Int)) := by rw [lstOf_at hyn]; unfold iV; dsimp only; rw [cur]
      have et : W.take (m + 1) = W.take m ++ [y] := take_snoc hy
      refine p_whenE (b := decide (y ≠ i ∧ u y = t)) (Ex.refl H') (et_is (et_and (et_test (ev_op (ev_var rfl) (ev_var rfl) (rv_ne rfl))) (fun _ => et_test (ev_op (ev_op (ev_var rfl) (ev_var rfl) (rv_ixZ ha' hg)) (ev_var rfl) (rv_eq rfl)))) (by
        by_cases c1 : y = i <;> by_cases c2 : u y = t <;> simp [c1, c2] <;> omega)) (fun hb H3 e3 _ => ?_) (fun hb H3 e3 _ => ?_)
      · have hb := of_decide_eq_true hb
        refine s_setZ (e3 _ _ ha') (ev_var rfl) (fun z => by cases z; exact i0 rfl) (ev_var rfl) (ev_var rfl) (by rw [lstOf_len]; exact hyn) fun H4 e4 => ?_
        refine ⟨_, rfl, ?_, fun b o hb h => by rw [upd_ne hb]; exact e4 _ _ (e3 _ _ (kk b o hb h))⟩
        rw [upd_same, lstOf_set]
        congr 2
        refine lstOf_congr fun k _ => ?_
        unfold iV
        dsimp only
        rw [et]
        by_cases c : k = y
        · subst c
          rw [if_pos rfl, if_pos ⟨List.mem_append_right _ (List.mem_singleton.mpr rfl), hb⟩]
        · rw [if_neg c]
          have : (k ∈ W.take m ++ [y]) ↔ k ∈ W.take m := by rw [List.mem_append, List.mem_singleton]; exact ⟨fun z => z.resolve_right c, .inl⟩
          simp only [this]
      · have hb := of_decide_eq_false hb
        refine ⟨_, rfl, ?_, fun b o hb h => e3 _ _ (kk b o hb h)⟩
        rw [e3 _ _ ha', et]
        congr 2
        refine lstOf_congr fun k _ => ?_
        unfold iV
        dsimp only
        by_cases c : k = y
        · subst c
          rw [cur, if_neg fun z => hb z.2]
        · have : (k ∈ W.take m ++ [y]) ↔ k ∈ W.take m := by rw [List.mem_append, List.mem_singleton]; exact ⟨fun z => z.resolve_right c, .inl⟩
          simp only [this]
    · rintro σ' H' ⟨v4, rfl, ha', kk⟩
      rw [IL_len, List.take_length] at ha'
      exact k H' ha' kk
def spz_put_between : Sp := fun vs H Q _ => ∃ (a b : Addr) (n i t : Nat) (u : Nat → Nat) (p : Nat → Int), vs = [.ref a, .ref b, .int i, .int t] ∧ H a = some (lz 0 a (lstOf n (iV u))) ∧ H b = some (.lst (lstOf n (pV p))) ∧ i ≠ 0 ∧ a ≠ b ∧ i < n ∧ t < n ∧ i ≠ t ∧
  ∀ H2, H2 a = some (lz 0 a (lstOf n (iV fun k => if k = t then i else if k = i then u t else u k))) → H2 b = some (.lst (lstOf n (pV fun k => if k = t then p i else if k = i then p t else p k))) → (∀ c o, c ≠ a → c ≠ b → H c = some o → H2 c = some o) → Q .non H2
theorem okz_put_between (T : Wd K mg) : FnOk P w K mg base CX0 1 T.f_put_between T.d_put_between ["uppers", "prices", "place", "upper"] (spz_put_between) := by
  refine T.F_put_between.ok sc_put_between (fun vs H Q E h => ?_) (fun cdv A outer s H vs Q E hr h => ?_)
  · obtain ⟨a, b, n, i, t, u, p, rfl, _⟩ := h
    rfl
  · obtain ⟨a, b, n, i, t, u, p, rfl, ha, hb, i0, nab, hi, ht, hn, k⟩ := h
    refine ⟨_, (pss_cons (ps_setZ (k := 0) (pz_ixz (pv 0) (pv 3) (fun _ _ => rfl)) (pv 0) (pv 2)) (pss_cons (ps_setZ (k := 0) (pz_of (pv 2)) (pv 0) (pv 3)) (pss_one (ps_asg (pe_tup (pa_cons (pe_ix ix_list (pv 1) (pv 3) (fun _ _ => rfl)) (pa_cons (pe_ix ix_list (pv 1) (pv 2) (fun _ _ => rfl)) pa_nil))) (pg_tup (by rfl) (pgs_cons (pg_sub (pv 1) (pv 2) set_list) (pgs_cons (pg_sub (pv 1) (pv 3) set_list) pgs_nil))))))), ?_⟩
    refine q_setZZ ha (ev_op (ev_var rfl) (ev_var rfl) (rv_ixZ ha (lstOf_at ht))) (ev_var rfl) (ev_var rfl) (by rw [lstOf_len]; exact hi) fun H1 e1 => ?_
    rw [lstOf_set]
    have a1 : upd H1 a (lz 0 a (lstOf n fun k => if k = i then iV u t else iV u k)) a = some (lz 0 a (lstOf n fun k => if k = i then iV u t else iV u k)) := upd_same
    have b1 : upd H1 a (lz 0 a (lstOf n fun k => if k = i then iV u t else iV u k)) b = some (.lst (lstOf n (pV p))) := by rw [upd_ne nab.symm]; exact e1 _ _ hb
    have c1 : ∀ c o, c ≠ a → c ≠ b → H c = some o → upd H1 a (lz 0 a (lstOf n fun k => if k = i then iV u t else iV u k)) c = some o := fun c o hc _ h => by rw [upd_ne hc]; exact e1 _ _ h
    generalize upd H1 a (lz 0 a (lstOf n fun k => if k = i then iV u t else iV u k)) = G1 at a1 b1 c1 ⊢
    refine q_setZ a1 (ev_var rfl) (fun z => by cases z; exact i0 rfl) (ev_var rfl) (ev_var rfl) (by rw [lstOf_len]; exact ht) fun H2 e2 => ?_
    rw [lstOf_set]
    have a2 : upd H2 a (lz 0 a (lstOf n fun k => if k = t then .int (i : Int) else if k = i then iV u t else iV u k)) a = some (lz 0 a (lstOf n (iV fun k => if k = t then i else if k = i then u t else u k))) := by
      rw [upd_same]
      congr 2
      refine lstOf_congr fun k _ => ?_
      unfold iV
      dsimp only
      by_cases c : k = t
      · rw [if_pos c, if_pos c]
      · rw [if_neg c, if_neg c]
        by_cases d : k = i
        · rw [if_pos d, if_pos d]
        · rw [if_neg d, if_neg d]
    have b2 : upd H2 a (lz 0 a (lstOf n fun k => if k = t then .int (i : Int) else if k = i then iV u t else iV u k)) b = some (.lst (lstOf n (pV p))) := by rw [upd_ne nab.symm]; exact e2 _ _ b1
    have c2 : ∀ c o, c ≠ a → c ≠ b → H c = some o → upd H2 a (lz 0 a (lstOf n fun k => if k = t then .int (i : Int) else if k = i then iV u t else iV u k)) c = some o := fun c o hc hd h => by rw [upd_ne hc]; exact e2 _ _ (c1 c o hc hd h)
    generalize upd H2 a (lz 0 a (lstOf n fun k => if k = t then .int (i : Int) else if k = i then iV u t else iV u k)) = G2 at a2 b2 c2 ⊢
    refine eu_tup (ea_cons (ev_op (ev_var rfl) (ev_var rfl) (rv_ixL (sq_of b2) (lstOf_at ht))) (ea_cons (ev_op (ev_var rfl) (ev_var rfl) (rv_ixL (sq_of b2) (lstOf_at hi))) ea_nil)) (Nat.le_of_ble_eq_true rfl) G2 (Ex.refl G2) _ fun q H3 hq e3 h3 => ?_
    refine ⟨q, _, rfl, st_of h3, rfl, _, _, rfl, ?_⟩
    have b3 := e3 _ _ b2
    refine ⟨_, rfl, _, rfl, b, _, _, i, rfl, rfl, b3, ixN_nat (by rw [lstOf_len]; exact hi), ?_⟩
    rw [lstOf_set]
    refine ⟨_, _, rfl, _, rfl, _, rfl, b, _, _, t, rfl, rfl, upd_same, ixN_nat (by rw [lstOf_len]; exact ht), ?_⟩
    rw [lstOf_set]
    refine ⟨rfl, k _ ?_ ?_ fun c o hc hd h => ?_⟩
    · rw [upd_ne nab, upd_ne nab]
      exact e3 _ _ a2
    · rw [upd_same]
      congr 2
      refine lstOf_congr fun k _ => ?_
      unfold pV
      dsimp only
      by_cases c : k = t
      · rw [if_pos c, if_pos c]
      · rw [if_neg c, if_neg c]
        by_cases d : k = i
        · rw [if_pos d, if_pos d]
        · rw [if_neg d, if_neg d]
    · rw [upd_ne hd, upd_ne hd]
      exact e3 _ _ (c2 c o hc hd h)
theorem boughs_fill {n : Nat} {u : Nat → Nat} {p : Nat → Int} {vs : List V} {H : Hp} (hf : Fills (fun i v H => TupZ H v (i + 1, u (i + 1), p (i + 1))) (List.range (n - 1)) vs H) : vs.length = (boughsOf n u p).length ∧ ∀ (i : Nat) (v : V) (t : Tie), vs[i]? = some v → (boughsOf n u p)[i]? = some t → TupZ H v t := by
  have hl : vs.length = n - 1 := by rw [hf.1, List.length_range]
  refine ⟨by rw [hl, boughsOf_len], fun i v t h1 h2 => ?_⟩
  have hi : i < n - 1 := by
    have := (List.getElem?_eq_some_iff.mp h1).1
    omega
  rw [boughsOf_get (by omega)] at h2
  obtain rfl := Option.some.inj h2
  exact hf.2 i i v (List.getElem?_range hi) h1
def spz_tree (K : PySem.W.Frag) (C : Addr) : Sp := fun vs H Q _ => ∃ (x : Addr) (n : Nat) (ts : List Tie), vs = [.ref x] ∧ NetAt K C H x n ts ∧ ∀ p xs H2, H p = none → Ex H H2 → H2 p = some (.lst xs) → (xs.length = (boughsN ts n).length ∧ ∀ (i : Nat) (v : V) (t : Tie), xs[i]? = some v → (boughsN ts n)[i]? = some t → TupZ H2 v t) → Q (.ref p) H2
theorem okz_tree (T : Wd K mg) : FnT P w K mg base CX0 6 T.f_tree T.d_tree ["net"] (spz_tree K T.C_Net) := by
  have G_wall := ok_wall (P := P) (w := w) (base := base) T
  have G_Net_price := ok_Net_price (P := P) (w := w) (base := base) T
  have G_take_over := okz_take_over (P := P) (w := w) (base := base) T
  have G_put_between := okz_put_between (P := P) (w := w) (base := base) T
  obtain ⟨oc, od, kV, doc, pm, an, cdv, ct, osl, efd, lk, hcd⟩ := T.F_tree.ex
  rw [efd] at lk ⊢
  refine fnT_of lk hcd sc_tree (fun vs H Q E h => ?_) (fun A outer s H vs Q E hr h => ?_)
  · obtain ⟨x, n, ts, rfl, _⟩ := h
    rfl
  · obtain ⟨x, n, ts, rfl, N, k⟩ := h
    have n24 := N.hi
    have n1 := N.lo
    have cn := costM_nonneg N.good
    refine ⟨_, PSsp.nox (pssp_cons (psp_set (i := 1) sc_tree.nd rfl (Or.inr rfl) (pkp_zeros (pe_fld (pv 0) rfl))) (pss_cons (ps_set (i := 2) sc_tree.nd rfl (Or.inr rfl) (pe_op op_rep (pe_lst (pa_cons pe_int pa_nil)) (pe_fld (pv 0) rfl))) (pss_cons (ps_for PassesOwn.never rfl (pi_range2 (by rfl) T.n_range (pa_cons pe_int (pa_cons (pe_fld (pv 0) rfl) pa_nil))) (pg_name (i := 3) sc_tree.nd rfl (Or.inl rfl)) (pss_cons (ps_set (i := 4) sc_tree.nd rfl (Or.inl rfl) (pe_ixz (k := 0) (pv 1) (pv 3) (fun _ _ => rfl))) (pss_cons (ps_set (i := 5) sc_tree.nd rfl (Or.inl rfl) (pe_call G_wall (hr.mono (by decide)) (by rfl) T.m_wall T.F_wall.kp T.b_wall .nil pass0 (pa_cons (pv 0) (pa_cons (pv 3) (pa_cons (pv 4) pa_nil))))) (pss_cons (ps_asg (pe_meth (pv 0) T.cl_Net T.mt_Net_price G_Net_price (hr.mono (by decide)) T.b_Net_price .nil pass0 (pa_cons (pv 5) pa_nil)) (pg_sub (pv 2) (pv 3) set_list)) (pss_cons (ps_expr (pe_call G_take_over (hr.mono (by decide)) (by rfl) T.m_take_over T.F_take_over.kp T.b_take_over .nil pass0 (pa_cons (pv 1) (pa_cons (pv 3) (pa_cons (pv 4) (pa_cons (pv 5) pa_nil)))))) (pss_one (ps_if (pt_cmpR op_in_seq (pe_ixz (k := 0) (pv 1) (pv 4) (fun _ _ => rfl)) (pv 5) (by rfl)) (pss_one (ps_expr (pe_call G_put_between (hr.mono (by decide)) (by rfl) T.m_put_between T.F_put_between.kp T.b_put_between .nil pass0 (pa_cons (pv 1) (pa_cons (pv 2) (pa_cons (pv 3) (pa_cons (pv 4) pa_nil))))))) pss_nil))))))) (pss_one (ps_ret (pe_lc (own := [("place", 3)]) (g := (gName 3)) (tt := tYes) rfl sc_tree.nd (pi_range2 (by rfl) T.n_range (pa_cons pe_int (pa_cons (pe_fld (pv 0) rfl) pa_nil))) (blkOk_by (own := [("place", 3)]) (N := ["net", "uppers", "prices", "place", "upper", "side"]) (sc := defScope s_tree) (by decide +kernel)) (fun _ _ _ _ _ => (pg_name (i := 3) sc_tree.nd rfl (Or.inl rfl))) (fun _ _ _ _ _ => pts_nil) (fun _ _ _ _ _ => (pe_tupZ (paz_cons (pv 3) (paz_consZ (pz_ixz (pv 1) (pv 3) (fun _ _ => rfl)) (paz_cons (pe_ix (show IxR _ (rIxL K) from ix_list) (pv 2) (pv 3) (fun _ _ => rfl)) paz_nil))))))))))), ?_⟩
    refine q_zeros (ev_many (ev_var rfl) N T.cl_Net T.na_Net_many) (by omega) fun a H1 ha e1 ha1 => ?_
    refine p_asgL e1 (el_rep1 ev_c (ev_many (ev_var rfl) N T.cl_Net T.na_Net_many) (by omega)) fun b H2 hb e2 e12 hb2 => ?_
    have nab : a ≠ b := ne_of_none ha1 hb
    have hb0 : H b = none := fresh_back e1 hb
    have ha2 := e12 _ _ ha1
    refine q_forR2 (lo := 1) (n := (n : Int)) (ea_cons ev_c (ea_cons ((ev_many (ev_var rfl) N T.cl_Net T.na_Net_many).mono e2) ea_nil)) (by omega) (fun j σ' H' => ∃ v3 v4 v5, σ' = [some (.ref x), some (.ref a), some (.ref b), v3, v4, v5] ∧ Ex H H' ∧ H' a = some (lz 0 a (lstOf n (iV (treeTo (costM ts) n j).1))) ∧ H' b = some (.lst (lstOf n (pV (treeTo (costM ts) n j).2)))) (fun H3 e3 => ⟨_, _, _, rfl, e2.trans e3, e3 _ _ ha2, e3 _ _ hb2⟩) ?_ ?_
    · rintro j σ' H' hj ⟨v3, v4, v5, rfl, e, ha', hb'⟩
      have hjn : j + 1 < n := by omega
      have g := treeTo_ok (C := costM ts) (n := n) cn j (by omega)
      have estep : treeTo (costM ts) n (j + 1) = turnS (costM ts) n (j + 1) (treeTo (costM ts) n j) := rfl
      generalize treeTo (costM ts) n j = st at ha' hb' g estep ⊢
      have hti : st.1 (j + 1) ≤ j := g.le _
      have htn : st.1 (j + 1) < n := by omega
      have hne : j + 1 ≠ st.1 (j + 1) := by omega
      have ej : (1 : Int) + (j : Int) = ((j + 1 : Nat) : Int) := by omega
      rw [ej]
      refine p_asg (Ex.refl H') (ev_op (ev_var rfl) (ev_var rfl) (rv_ixZ ha' (lstOf_at hjn))) fun H3 e3 _ => ?_
      have N3 := N.ex (e.trans e3)
      refine q_asgL (el_wall (ev_var rfl) (ev_var rfl) (ev_var rfl) N3 hjn htn hne) fun w H4 hw e4 h4 => ?_
      have ha4 := e4 _ _ (e3 _ _ ha')
      have hb4 := e4 _ _ (e3 _ _ hb')
      have nwa : w ≠ a := (ne_of_none (e3 _ _ ha') hw).symm
      have nwb : w ≠ b := (ne_of_none (e3 _ _ hb') hw).symm
      have N4 := N3.ex e4
      have wl := sortN_len n (reach (costM ts) n (j + 1) (st.1 (j + 1)))
      have hmem := wallN_mem (C := costM ts) (n := n) (one := j + 1) (other := st.1 (j + 1)) hjn
      have wlt : ∀ k ∈ wallN (costM ts) n (j + 1) (st.1 (j + 1)), k < n := sortN_lt
      have wnd : (wallN (costM ts) n (j + 1) (st.1 (j + 1))).Nodup := sortN_nodup _ _
      refine q_setL hb4 (ev_is (ev_price (ev_var rfl) (ev_var rfl) N4 (sq_of h4) wlt wnd (by unfold wallN; omega)) (by rw [mostN_cutP N.good hjn hne])) (ev_var rfl) (ev_var rfl) (by rw [lstOf_len]; exact hjn) fun H5 e5 => ?_
      rw [lstOf_set]
      have ha5 : upd H5 b (.lst (lstOf n fun k => if k = j + 1 then .int (mostN (costM ts) n (j + 1) (st.1 (j + 1))) else pV st.2 k)) a = some (lz 0 a (lstOf n (iV st.1))) := by rw [upd_ne nab]; exact e5 _ _ ha4
      have hw5 : upd H5 b (.lst (lstOf n fun k => if k = j + 1 then .int (mostN (costM ts) n (j + 1) (st.1 (j + 1))) else pV st.2 k)) w = some (.lst (IL (wallN (costM ts) n (j + 1) (st.1 (j + 1))))) := by rw [upd_ne nwb]; exact e5 _ _ h4
      have hb5 : upd H5 b (.lst (lstOf n fun k => if k = j + 1 then .int (mostN (costM ts) n (j + 1) (st.1 (j + 1))) else pV st.2 k)) b = some (.lst (lstOf n (pV fun k => if k = j + 1 then mostN (costM ts) n (j + 1) (st.1 (j + 1)) else st.2 k))) := by
        rw [upd_same]
        congr 2
        refine lstOf_congr fun k _ => ?_
        unfold pV
        dsimp only
        split <;> rfl
      have eB : Ex H (upd H5 b (.lst (lstOf n fun k => if k = j + 1 then .int (mostN (costM ts) n (j + 1) (st.1 (j + 1))) else pV st.2 k))) := Ex.mut (((e.trans e3).trans e4).trans e5) hb0
      generalize upd H5 b (.lst (lstOf n fun k => if k = j + 1 then .int (mostN (costM ts) n (j + 1) (st.1 (j + 1))) else pV st.2 k)) = B at ha5 hb5 hw5 eB ⊢
      refine ⟨_, rfl, _, rfl, _, rfl, _, rfl, a, w, n, j + 1, st.1 (j + 1), st.1, _, rfl, ha5, hw5, Nat.succ_ne_zero j, nwa, wnd, wlt, fun H6 ha6 k6 => ?_⟩
      have e6 : Ex H H6 := fun c o hc => k6 c o (fun z => by rw [z, ha] at hc; cases hc) (eB _ _ hc)
      have hb6 := k6 _ _ nab.symm hb5
      have hw6 := k6 _ _ nwa hw5
      have hu : (fun k => if k ∈ wallN (costM ts) n (j + 1) (st.1 (j + 1)) ∧ k ≠ j + 1 ∧ st.1 k = st.1 (j + 1) then j + 1 else st.1 k) = turnU (wallN (costM ts) n (j + 1) (st.1 (j + 1))) (j + 1) st.1 := rfl
      rw [hu] at ha6
      refine p_whenE (b := decide (turnU (wallN (costM ts) n (j + 1) (st.1 (j + 1))) (j + 1) st.1 (st.1 (j + 1)) ∈ wallN (costM ts) n (j + 1) (st.1 (j + 1)))) (Ex.refl H6) (et_test (ev_inIL (ev_op (ev_var rfl) (ev_var rfl) (rv_ixZ ha6 (lstOf_at htn))) (ev_var rfl) (sq_of hw6))) (fun hd H7 e7 _ => ?_) (fun hd H7 e7 _ => ?_)
      · have hd := of_decide_eq_true hd
        refine ⟨_, rfl, _, rfl, _, rfl, _, rfl, a, b, n, j + 1, st.1 (j + 1), _, _, rfl, e7 _ _ ha6, e7 _ _ hb6, Nat.succ_ne_zero j, nab, hjn, htn, hne, fun H8 a8 b8 k8 => ?_⟩
        refine ⟨_, _, _, rfl, fun c o hc => k8 c o (fun z => by rw [z, ha] at hc; cases hc) (fun z => by rw [z, hb0] at hc; cases hc) (e7 _ _ (e6 _ _ hc)), ?_, ?_⟩
        · rw [a8, estep]
          unfold turnS
          dsimp only
          rw [if_pos hd]
        · rw [b8, estep]
          unfold turnS
          dsimp only
          rw [if_pos hd]
      · have hd := of_decide_eq_false hd
        refine ⟨_, _, _, rfl, e6.trans e7, ?_, ?_⟩
        · rw [e7 _ _ ha6, estep]
          unfold turnS
          dsimp only
          rw [if_neg hd]
        · rw [e7 _ _ hb6, estep]
          unfold turnS
          dsimp only
          rw [if_neg hd]
    · rintro σ' H' ⟨v3, v4, v5, rfl, e, ha', hb'⟩
      have en : ((n : Int) - 1).toNat = n - 1 := by omega
      rw [en] at ha' hb'
      have N' := N.ex e
      refine p_retLR (Ex.refl H') (el_cR2 (lo := 1) (n := n) (fun _ => true) (compZ (t := fun j => (j + 1, uN (costM ts) n (j + 1), pN (costM ts) n (j + 1)))) (ea_cons ev_c (ea_cons (ev_many (ev_var rfl) N' T.cl_Net T.na_Net_many) ea_nil)) (by omega) (by omega) (fun j hj => ?_)) fun p vs H3 hp e3 h3 hf => ?_
      · refine ⟨_, ?w, fun H2 Q _ q => q, et_yes, fun _ => ?_⟩
        case w => rfl
        intro H4 e4 Q q
        have ej : 1 + j = j + 1 := Nat.add_comm _ _
        rw [ej]
        exact er_tupZ (t := (j + 1, uN (costM ts) n (j + 1), pN (costM ts) n (j + 1))) (ea_cons (ev_var rfl) (ea_cons (ev_op (ev_var rfl) (ev_var rfl) (rv_ixZ ha' (lstOf_at (by omega)))) (ea_cons (ev_op (ev_var rfl) (ev_var rfl) (rv_ixL (sq_of hb') (lstOf_at (by omega)))) ea_nil))) H4 e4 Q q
      · rw [filter_yes] at hf
        exact k p vs H3 (fresh_back e hp) (e.trans e3) h3 (boughs_fill hf)
end
end Toy

namespace G
open PySem PySem.Spec PyProof.Rows L2 Evl RZ N
section
variable {K : PySem.W.Frag} {σ : L2.St} {H : Hp} {te ta tb : TE} {k : Nat} {a : Addr} {xs : List V} {v : V} {D : Ends}
theorem IL_lastZ {pre : List Nat} {m : Nat} (h : H a = some (lz k a (IL (pre ++ [m])))) : RV (rIxZ k) (.ref a) (.int (-1)) H (.int (m : Int)) := rv_ixZ h (by rw [IL_app]; exact atI_last _ _)
theorem IL_m2Z {pre : List Nat} {i m : Nat} (h : H a = some (lz k a (IL (pre ++ [i, m])))) : RV (rIxZ k) (.ref a) (.int (-2)) H (.int (i : Int)) := rv_ixZ h (by rw [IL_app]; exact atI_m2 _ _ _)
theorem s_catZ {zs : List V} (ha : Ev ta σ H (.ref a)) (hx : H a = some (lz k a xs)) (hb : EvL tb σ H zs) (nz : ∀ z ∈ zs, z ≠ .int 0) (hz : xs.length + zs.length ≤ 1000) (q : ∀ p H1, H p = none → Ex H H1 → H1 p = some (lz k p (xs ++ zs)) → D.rt (.ref p) H1) : tRet (tOp (rCatZ k) ta tb) D σ H :=
  ha H (Ex.refl H) _ fun H1 e1 => hb H1 e1 _ fun b H2 hb e2 h2 => ⟨a, b, xs, zs, rfl, rfl, (e1.trans e2) _ _ hx, h2, nz, Nat.le_trans hz (by decide), fun p hp => q p _ (fresh_back (e1.trans e2) hp) ((e1.trans e2).trans (Ex.new hp)) upd_same⟩
end
theorem UpL.pre_ne {u : Nat → Nat} {k : Nat} {ps : List Nat} (h : UpL u k ps) : ∀ (y : List Nat) (z : Nat) (s : List Nat), ps = y ++ z :: s → ∀ v ∈ y, v ≠ 0 := by
  induction h with
  | zero =>
    intro y z s e v hv
    cases y with
    | nil => cases hv
    | cons a r => simp at e
  | @step k ps h0 g ih =>
    intro y z s e v hv
    cases y with
    | nil => cases hv
    | cons a r =>
      injection e with e1 e2
      rcases List.mem_cons.mp hv with rfl | hv
      · exact fun z => h0 (e1.trans z)
      · exact ih r z s e2 v hv
end G
namespace Toy
open PySem L2 TL Evl RZ G N
section
variable {P : Program} {w : World} {K : PySem.W.Frag} {mg : Str → Option Value} {base : Heap}
/-- boughs of a tree stand at b, their noughts no bare ones -/
structure BghZ (K : PySem.W.Frag) (H : Hp) (b : Addr) (n : Nat) (u : Nat → Nat) (p : Nat → Int) : Prop where
  l : BghL K H b n u p
  zs : ∃ xs, SqL K H b xs ∧ xs.length = (boughsOf n u p).length ∧ ∀ (i : Nat) (v : V) (t : Tie), xs[i]? = some v → (boughsOf n u p)[i]? = some t → TupZ H v t
theorem BghZ.ex {H H' : Hp} {b : Addr} {n : Nat} {u : Nat → Nat} {p : Nat → Int} (h : BghZ K H b n u p) (e : Ex H H') : BghZ K H' b n u p := by
  obtain ⟨xs, a, c, d⟩ := h.zs
  exact ⟨h.l.ex e, xs, ex_l e a, c, fun i v t h1 h2 => (d i v t h1 h2).ex e⟩
theorem BghZ.bough {H : Hp} {b : Addr} {n : Nat} {u : Nat → Nat} {p : Nat → Int} (h : BghZ K H b n u p) {k : Nat} (h0 : k ≠ 0) (hk : k < n) : ∃ xs a o, SqL K H b xs ∧ atI xs ((k : Int) - 1) = some (.ref a) ∧ H a = some (.frz o (.tup (tv (k, u k, p k)))) ∧ TZ o := by
  obtain ⟨xs, hb, hxl, hz⟩ := h.zs
  have hg := boughsOf_get (n := n) (u := u) (p := p) (j := k - 1) (by omega)
  rw [show k - 1 + 1 = k by omega] at hg
  have hl : k - 1 < xs.length := by rw [hxl, boughsOf_len]; omega
  obtain ⟨a, o, ha, hq, z⟩ := hz (k - 1) xs[k - 1] _ (List.getElem?_eq_getElem hl) hg
  refine ⟨xs, a, o, hb, ?_, hq, z⟩
  rw [show ((k : Int) - 1) = ((k - 1 : Nat) : Int) by omega]
  exact at_of rfl (by rw [List.getElem?_eq_getElem hl, ha])
def spz_way_up (K : PySem.W.Frag) : Sp := fun vs H Q _ => ∃ (b : Addr) (n k : Nat) (u : Nat → Nat) (p : Nat → Int), vs = [.ref b, .int k] ∧ BghZ K H b n u p ∧ k < n ∧ ∀ q H2, H q = none → Ex H H2 → H2 q = some (lz 1 q (IL (chain n u k))) → Q (.ref q) H2
theorem okz_way_up (T : Wd K mg) : FnOk P w K mg base CX0 1 T.f_way_up T.d_way_up ["boughs", "place"] (spz_way_up K) := by
  refine T.F_way_up.ok sc_way_up (fun vs H Q E h => ?_) (fun cdv A outer s H vs Q E hr h => ?_)
  · obtain ⟨b, n, k, u, p, rfl, _⟩ := h
    rfl
  · obtain ⟨b, n, k0, u, p, rfl, B, hk, k⟩ := h
    have c0 := chain_ok (B.l.up k0) B.l.lt hk
    have n24 := B.l.hi
    refine ⟨_, (pss_cons (ps_set (i := 2) sc_way_up.nd rfl (Or.inl rfl) (pe_lstA (pv 1))) (pss_cons (ps_while PassesOwn.never (pt_cmpR op_ne (pe_ixz (k := 1) (pv 2) (pe_un un_neg pe_int) (fun _ _ => rfl)) pe_int (nomark _)) (pss_one (ps_expr (pe_appZ (k := 1) (pv 2) (pz_ix1 (pe_ix ix_list (pv 0) (pe_op op_sub (pe_ixz (k := 1) (pv 2) (pe_un un_neg pe_int) (fun _ _ => rfl)) pe_int) (fun _ _ => rfl)) pe_int (fun _ _ => rfl)))))) (pss_one (ps_ret (pv 2))))), ?_⟩
    refine el_lstA_go (ev_var rfl) fun w H1 hw e1 hw1 => ?_
    refine q_while (fun m σ' H' => ∃ (pre : List Nat) (x : Nat) (qs : List Nat), σ' = [some (.ref b), some (.int k0), some (.ref w)] ∧ Ex H H' ∧ H' w = some (lz 1 w (IL (pre ++ [x]))) ∧ UpL u x qs ∧ chain n u k0 = pre ++ qs ∧ x < n ∧ m = qs.length) (chain n u k0).length ⟨[], k0, chain n u k0, rfl, e1, hw1, c0, rfl, hk, rfl⟩ ?_
    rintro m σ' H' ⟨pre, x, qs, rfl, e, hw', hu, hc, hx, rfl⟩
    have hl := nodup_le n (chain n u k0) c0.nodup (c0.lt B.l.lt hk)
    have hq : 0 < qs.length := by
      obtain ⟨q, rfl⟩ := hu.head
      simp
    rw [hc, List.length_append] at hl
    refine ⟨!decide (V.int (x : Int) = V.int 0), et_test (ev_op (ev_op (ev_var rfl) (ev_un ev_c ru_neg) (IL_lastZ hw')) ev_c (rv_ne rfl)), fun hb1 H5 e5 => ?_, fun hb0 H5 e5 => ?_⟩
    · have x0 : x ≠ 0 := fun z => by subst z; simp at hb1
      refine ⟨fun σ2 H2 => ∃ m', m' < qs.length ∧ ∃ (pre : List Nat) (x : Nat) (qs : List Nat), σ2 = [some (.ref b), some (.int k0), some (.ref w)] ∧ Ex H H2 ∧ H2 w = some (lz 1 w (IL (pre ++ [x]))) ∧ UpL u x qs ∧ chain n u k0 = pre ++ qs ∧ x < n ∧ m' = qs.length, fun _ _ h => h, ?_⟩
      cases hu with
      | zero => exact absurd rfl x0
      | @step _ ps h0 g =>
        have e6 := e.trans e5
        have hw5 := e5 _ _ hw'
        obtain ⟨xs, a, o, hb, hat, hta, hz⟩ := (B.ex e6).bough x0 hx
        refine s_appZ hw5 (ev_var rfl) (ev_ix1 (ev_op (ev_var rfl) (ev_op (ev_op (ev_var rfl) (ev_un ev_c ru_neg) (IL_lastZ hw5)) ev_c rv_I0) (rv_ixL hb hat)) hta hz) (by rw [IL_len, List.length_append, List.length_singleton]; omega) fun H6 e7 => ?_
        refine ⟨ps.length, by simp, pre ++ [x], u x, ps, rfl, Ex.mut (e6.trans e7) hw, ?_, g, by rw [hc]; simp, B.l.lt x, rfl⟩
        rw [upd_same, IL_app (pre ++ [x])]
        rfl
    · have x0 : x = 0 := by simp at hb0; omega
      subst x0
      have eq : qs = [0] := by
        cases hu with
        | zero => rfl
        | step h0 _ => exact absurd rfl h0
      subst eq
      refine p_ret (Ex.refl H5) (ev_var rfl) fun H6 e6 => k w H6 hw ((e.trans e5).trans e6) ?_
      rw [hc]
      exact e6 _ _ (e5 _ _ hw')
theorem er_way_upZ {σ : L2.St} {H : Hp} {ta tb : TE} {E : XK} {b : Addr} {n k : Nat} {u : Nat → Nat} {p : Nat → Int} (ha : Ev ta σ H (.ref b)) (hb : Ev tb σ H (.int (k : Int))) (B : BghZ K H b n u p) (hk : k < n) : EvR (tCall (spz_way_up K) [] E (tCons ta (tCons tb tNil))) σ H (fun H1 v H2 => ∃ q, v = .ref q ∧ H1 q = none ∧ H2 q = some (lz 1 q (IL (chain n u k)))) := fun H1 e Q q =>
  ha H1 e _ fun H2 e2 => hb H2 (e.trans e2) _ fun H3 e3 => ⟨b, n, k, u, p, rfl, B.ex ((e.trans e2).trans e3), hk, fun r H4 hr e4 h4 => q _ H4 ((e2.trans e3).trans e4) ⟨r, rfl, fresh_back (e2.trans e3) hr, h4⟩⟩
def spz_way_between (K : PySem.W.Frag) : Sp := fun vs H Q _ => ∃ (b : Addr) (n one other : Nat) (u : Nat → Nat) (p : Nat → Int), vs = [.ref b, .int one, .int other] ∧ BghZ K H b n u p ∧ one < n ∧ other < n ∧ ∀ q ws H2, H q = none → Ex H H2 → RoadOk n u one other ws → H2 q = some (lz 1 q (IL ws)) → Q (.ref q) H2
theorem okz_way_between (T : Wd K mg) : FnOk P w K mg base CX0 2 T.f_way_between T.d_way_between ["boughs", "one", "other"] (spz_way_between K) := by
  have G_way_up := okz_way_up (P := P) (w := w) (base := base) T
  refine T.F_way_between.ok sc_way_between (fun vs H Q E h => ?_) (fun cdv A outer s H vs Q E hr h => ?_)
  · obtain ⟨b, n, one, other, u, p, rfl, _⟩ := h
    rfl
  · obtain ⟨b, n, one, other, u, p, rfl, B, h1, h2, k⟩ := h
    have c1 := chain_ok (B.l.up one) B.l.lt h1
    have c2 := chain_ok (B.l.up other) B.l.lt h2
    have l1 := chain_len B.l.up B.l.lt h1
    have l2 := chain_len B.l.up B.l.lt h2
    have n24 := B.l.hi
    have G_way_upO := ok_way_up (P := P) (w := w) (base := base) T
    refine ⟨_, (pss_cons (ps_set (i := 3) sc_way_between.nd rfl (Or.inl rfl) (pe_call G_way_up (hr.mono (by decide)) (by rfl) T.m_way_up T.F_way_up.kp T.b_way_up .nil pass0 (pa_cons (pv 0) (pa_cons (pv 1) pa_nil)))) (pss_cons (ps_set (i := 4) sc_way_between.nd rfl (Or.inl rfl) (pe_call G_way_upO (hr.mono (by decide)) (by rfl) T.m_way_up T.F_way_up.kp T.b_way_up .nil pass0 (pa_cons (pv 0) (pa_cons (pv 2) pa_nil)))) (pss_cons (ps_while PassesOwn.never (PW.pt (pw_and (pt_cmpR op_gt (pe_callB (call_lenZ (k := 1)) (by rfl) T.n_len (by decide +kernel) (pa_cons (pv 3) pa_nil)) pe_int (nomark _)) (pw_and (pt_cmpR op_gt (pe_callB call_len_seq (by rfl) T.n_len (by decide +kernel) (pa_cons (pv 4) pa_nil)) pe_int (nomark _)) (pw_and1 (pt_cmpR op_eq (pe_ixz (k := 1) (pv 3) (pe_un un_neg pe_int) (fun _ _ => rfl)) (pe_ix ix_list (pv 4) (pe_un un_neg pe_int) (fun _ _ => rfl)) (nomark _)))))) (pss_cons (ps_expr (pe_popZ (k := 1) (pv 3))) (pss_one (ps_expr (pe_bm0 PySem.F.plainAttrs_list PySem.F.slot_list_pop PySem.F.type_list_pop mt_pop (pv 4)))))) (pss_cons (ps_expr (pe_bm0 PySem.F.plainAttrs_list PySem.F.slot_list_pop PySem.F.type_list_pop mt_pop (pv 4))) (pss_one (ps_ret (pe_op (op_catZ (k := 1)) (pv 3) (pe_revL (pv 4))))))))), ?_⟩
    refine p_asgR (Ex.refl H) (er_way_upZ (ev_var rfl) (ev_var rfl) B h1) fun v H1 e1 _ r => ?_
    obtain ⟨a, rfl, ha, ha1⟩ := r
    refine p_asgL e1 (el_call (ea_cons (ev_var rfl) (ea_cons (ev_var rfl) ea_nil)) (sl_way_up B.l h2)) fun d H2 hd e2 e12 hd2 => ?_
    have nad : a ≠ d := ne_of_none ha1 hd
    have hd0 : H d = none := fresh_back e1 hd
    obtain ⟨q1, hq1⟩ := c1.last
    obtain ⟨q2, hq2⟩ := c2.last
    have ha2 := e12 _ _ ha1
    rw [hq1] at ha2
    rw [hq2] at hd2
    refine q_while (fun m σ' H' => ∃ (x y s : List Nat) (z : Nat), σ' = [some (.ref b), some (.int one), some (.int other), some (.ref a), some (.ref d)] ∧ Ex H H' ∧ H' a = some (lz 1 a (IL (x ++ [z]))) ∧ H' d = some (.lst (IL (y ++ [z]))) ∧ chain n u one = x ++ z :: s ∧ chain n u other = y ++ z :: s ∧ m = x.length) q1.length ⟨q1, q2, [], 0, rfl, e2, ha2, hd2, hq1, hq2, rfl⟩ ?_
    rintro m σ' H' ⟨x, y, s, z, rfl, e, ha', hd', f1, f2, rfl⟩
    have lx : x.length ≤ 24 := by
      have := l1
      rw [f1, List.length_append] at this
      omega
    have ly : y.length ≤ 24 := by
      have := l2
      rw [f2, List.length_append] at this
      omega
    have fin : (x = [] ∨ y = [] ∨ x.getLast? ≠ y.getLast?) → ∀ H5, Ex H' H5 → tSeq (tDrop (tBM0 K "list" rPop (tVar 4))) (tRet (tOp (rCatZ 1) (tVar 3) (tRevL K (tVar 4)))) { nx := fun _ H' => Q .non H', rt := Q } [some (.ref b), some (.int one), some (.int other), some (.ref a), some (.ref d)] H5 := by
      intro hm H5 e5
      have hd5 := e5 _ _ hd'
      rw [IL_app] at hd5
      refine q_popD hd5 (ev_var rfl) fun H6 e6 => ?_
      have a6 : upd H6 d (.lst (IL y)) a = some (lz 1 a (IL (x ++ [z]))) := by rw [upd_ne nad]; exact e6 _ _ (e5 _ _ ha')
      have d6 : upd H6 d (.lst (IL y)) d = some (.lst (IL y)) := upd_same
      have eB : Ex H (upd H6 d (.lst (IL y))) := Ex.mut ((e.trans e5).trans e6) hd0
      generalize upd H6 d (.lst (IL y)) = B6 at a6 d6 eB ⊢
      refine s_catZ (ev_var rfl) a6 (el_rev (K := K) (ev_var rfl) (sq_of d6)) (fun v hv => ?_) (by rw [List.length_reverse, IL_len, IL_len, List.length_append, List.length_singleton]; omega) fun q H7 hq e7 h7 => ?_
      · obtain ⟨j, hj⟩ := List.mem_iff_getElem?.mp (List.mem_reverse.mp hv)
        obtain ⟨m, hm1, rfl⟩ := IL_get hj
        have hm0 := UpL.pre_ne c2 y z s f2 m (List.mem_of_getElem? hm1)
        exact fun e0 => hm0 (by injection e0 with e1; omega)
      refine k q (x ++ z :: y.reverse) H7 (fresh_back eB hq) (eB.trans e7) ⟨x, z, y, s, f1, f2, hm, rfl⟩ ?_
      rw [h7]
      congr 2
      rw [show x ++ z :: y.reverse = (x ++ [z]) ++ y.reverse by simp, IL_app (x ++ [z])]
      congr 1
      unfold IL
      rw [List.map_reverse]
    have lt1 : decide ((1 : Int) < ((IL (x ++ [z])).length : Int)) = decide (x ≠ []) := by
      rw [IL_len, List.length_append, List.length_singleton]
      cases x with
      | nil => rfl
      | cons _ _ => simp; omega
    have lt2 : decide ((1 : Int) < ((IL (y ++ [z])).length : Int)) = decide (y ≠ []) := by
      rw [IL_len, List.length_append, List.length_singleton]
      cases y with
      | nil => rfl
      | cons _ _ => simp; omega
    by_cases hx : x = []
    · refine ⟨false, et_is (et_and (a := false) (b := false) (et_is (et_test (ev_op (ev_lenZ (ev_var rfl) ha') ev_c rv_I0)) (lt1.trans (decide_eq_false fun z => z hx))) (fun z => by cases z)) rfl, (fun z => by cases z), fun _ H5 e5 => fin (.inl hx) H5 e5⟩
    · by_cases hy : y = []
      · refine ⟨false, et_is (et_and (a := true) (b := false) (et_is (et_test (ev_op (ev_lenZ (ev_var rfl) ha') ev_c rv_I0)) (lt1.trans (decide_eq_true hx))) (fun _ => et_is (et_and (a := false) (b := false) (et_is (et_test (ev_op (ev_lenS (ev_var rfl) (.inl (sq_of hd'))) ev_c rv_I0)) (lt2.trans (decide_eq_false fun z => z hy))) (fun z => by cases z)) rfl)) rfl, (fun z => by cases z), fun _ H5 e5 => fin (.inr (.inl hy)) H5 e5⟩
      · obtain ⟨x1, v, rfl⟩ := snoc_of hx
        obtain ⟨y1, v2, rfl⟩ := snoc_of hy
        have ha2' : H' a = some (lz 1 a (IL (x1 ++ [v, z]))) := by rw [ha']; simp
        have hd2' : H' d = some (.lst (IL (y1 ++ [v2, z]))) := by rw [hd']; simp
        refine ⟨decide (v = v2), et_is (et_and (a := true) (b := decide (v = v2)) (et_is (et_test (ev_op (ev_lenZ (ev_var rfl) ha') ev_c rv_I0)) (lt1.trans (decide_eq_true hx))) (fun _ => et_is (et_and (a := true) (b := decide (v = v2)) (et_is (et_test (ev_op (ev_lenS (ev_var rfl) (.inl (sq_of hd'))) ev_c rv_I0)) (lt2.trans (decide_eq_true hy))) (fun _ => et_is (et_test (ev_op (ev_op (ev_var rfl) (ev_un ev_c ru_neg) (IL_m2Z ha2')) (ev_op (ev_var rfl) (ev_un ev_c ru_neg) (IL_m2 hd2')) (rv_eq rfl))) (by simp; omega))) rfl)) rfl, fun hb1 H5 e5 => ?_, fun hb0 H5 e5 => fin (.inr (.inr fun z => ?_)) H5 e5⟩
        · have ev := of_decide_eq_true hb1
          subst ev
          refine ⟨fun σ2 H2 => ∃ m', m' < (x1 ++ [v]).length ∧ ∃ (x y s : List Nat) (z : Nat), σ2 = [some (.ref b), some (.int one), some (.int other), some (.ref a), some (.ref d)] ∧ Ex H H2 ∧ H2 a = some (lz 1 a (IL (x ++ [z]))) ∧ H2 d = some (.lst (IL (y ++ [z]))) ∧ chain n u one = x ++ z :: s ∧ chain n u other = y ++ z :: s ∧ m' = x.length, fun _ _ h => h, ?_⟩
          have a5 := e5 _ _ ha'
          rw [IL_app] at a5
          refine q_popZ a5 (ev_var rfl) fun H6 e6 => ?_
          have d6 : upd H6 a (lz 1 a (IL (x1 ++ [v]))) d = some (.lst (IL (y1 ++ [v]) ++ IL [z])) := by rw [upd_ne nad.symm, ← IL_app]; exact e6 _ _ (e5 _ _ hd')
          have a6 : upd H6 a (lz 1 a (IL (x1 ++ [v]))) a = some (lz 1 a (IL (x1 ++ [v]))) := upd_same
          have eB : Ex H (upd H6 a (lz 1 a (IL (x1 ++ [v])))) := Ex.mut ((e.trans e5).trans e6) ha
          generalize upd H6 a (lz 1 a (IL (x1 ++ [v]))) = B6 at a6 d6 eB ⊢
          refine s_popD d6 (ev_var rfl) fun H7 e7 => ?_
          refine ⟨x1.length, by simp, x1, y1, z :: s, v, rfl, Ex.mut (eB.trans e7) hd0, by rw [upd_ne nad]; exact e7 _ _ a6, upd_same, by rw [f1]; simp, by rw [f2]; simp, rfl⟩
        · rw [List.getLast?_concat, List.getLast?_concat] at z
          exact (of_decide_eq_false hb0) (Option.some.inj z)
end
end Toy

namespace G
open PySem PySem.Spec PyProof.Rows L2 Evl RZ N
section
variable {σ : L2.St} {H : Hp} {ta tb : TE}
/-- (v, [..]) -/
theorem er_pairL {xs : List V} {v : V} (ha : Ev ta σ H v) (hb : EvL tb σ H xs) : EvR (tTup (tCons ta (tCons tb tNil))) σ H (fun H1 w H2 => ∃ q l, w = .ref q ∧ H1 q = none ∧ H1 l = none ∧ H2 q = some (.tup [v, .ref l]) ∧ H2 l = some (.lst xs)) := fun H1 e Q k =>
  ha H1 e _ fun H2 e2 => hb H2 (e.trans e2) _ fun p H3 hp e3 h3 => ⟨by show 2 ≤ sizeLine; decide, fun q hq => k _ _ ((e2.trans e3).trans (Ex.new hq)) ⟨q, p, rfl, fresh_back (e2.trans e3) hq, fresh_back e2 hp, upd_same, (Ex.new hq) _ _ h3⟩⟩
end
end G
namespace Toy
open PySem L2 TL Evl RZ G N LamX
section
variable {P : Program} {w : World} {K : PySem.W.Frag} {mg : Str → Option Value} {base : Heap}
def Lower (u : Nat → Nat) (i j r : Nat) : Prop := (r = i ∧ u i = j) ∨ (r = j ∧ u j = i)
def sp_bough_between (K : PySem.W.Frag) : Sp := fun vs H Q _ => ∃ (b : Addr) (n i j : Nat) (u : Nat → Nat) (p : Nat → Int), vs = [.ref b, .int i, .int j] ∧ BghL K H b n u p ∧ i < n ∧ j < n ∧ Adj u i j ∧ ∀ q r H2, Ex H H2 → r ≠ 0 → r < n → Lower u i j r → SqT K H2 q (tv (r, u r, p r)) → Q (.ref q) H2
theorem ok_bough_between (T : Wd K mg) : FnOk P w K mg base CX0 1 T.f_bough_between T.d_bough_between ["boughs", "one", "other"] (sp_bough_between K) := by
  refine T.F_bough_between.ok sc_bough_between (fun vs H Q E h => ?_) (fun cdv A outer s H vs Q E hr h => ?_)
  · obtain ⟨b, n, i, j, u, p, rfl, _⟩ := h
    rfl
  · obtain ⟨b, n, i, j, u, p, rfl, B, hi, hj, A0, k⟩ := h
    refine ⟨_, (pss_cons (ps_if (PW.pt (pw_and (pt_cmpR op_ne (pv 1) pe_int (nomark _)) (pw_and1 (pt_cmpR op_eq (pe_ix ix_tup (pe_ix ix_list (pv 0) (pe_op op_sub (pv 1) pe_int) (fun _ _ => rfl)) pe_int (fun _ _ => rfl)) (pv 2) (nomark _))))) (pss_one (ps_ret (pe_ix ix_list (pv 0) (pe_op op_sub (pv 1) pe_int) (fun _ _ => rfl)))) pss_nil) (pss_one (ps_ret (pe_ix ix_list (pv 0) (pe_op op_sub (pv 2) pe_int) (fun _ _ => rfl))))), ?_⟩
    refine p_when (b := decide (i ≠ 0 ∧ u i = j)) (Ex.refl H) (et_is (et_and (a := decide (i ≠ 0)) (b := decide (u i = j)) (et_is (et_test (ev_op (ev_var rfl) ev_c (rv_ne rfl))) (by simp)) (fun h => by
      have i0 := of_decide_eq_true h
      obtain ⟨xs, a, hb, hat, hta⟩ := B.bough i0 hi
      exact et_is (et_test (ev_op (ev_t1 (ev_op (ev_var rfl) (ev_op (ev_var rfl) ev_c rv_I0) (rv_ixL hb hat)) hta) (ev_var rfl) (rv_eq rfl))) (by simp; omega))) (by rw [Bool.decide_and])) (fun hb H1 e1 _ => ?_) (fun hb H1 e1 _ => ?_)
    · obtain ⟨i0, ui⟩ := of_decide_eq_true hb
      obtain ⟨xs, a, hb, hat, hta⟩ := B.bough i0 hi
      exact p_ret e1 (ev_op (ev_var rfl) (ev_op (ev_var rfl) ev_c rv_I0) (rv_ixL hb hat)) fun H2 e2 => k a i H2 e2 i0 hi (.inl ⟨rfl, ui⟩) (ex_t e2 hta)
    · have hb := of_decide_eq_false hb
      have hl : j ≠ 0 ∧ u j = i := by
        rcases A0 with z | z
        · exact absurd z hb
        · exact z
      obtain ⟨xs, a, hb, hat, hta⟩ := B.bough hl.1 hj
      exact p_ret e1 (ev_op (ev_var rfl) (ev_op (ev_var rfl) ev_c rv_I0) (rv_ixL hb hat)) fun H2 e2 => k a j H2 e2 hl.1 hj (.inr ⟨rfl, hl.2⟩) (ex_t e2 hta)
def sideN (n : Nat) (u : Nat → Nat) (r one : Nat) : List Nat := if one ∈ belowN n u r then belowN n u r else (List.range n).filter fun k => !decide (k ∈ belowN n u r)
end
end Toy

namespace Toy
open PySem L2 TL Evl RZ G N LamX
section
variable {P : Program} {w : World} {K : PySem.W.Frag} {mg : Str → Option Value} {base : Heap}
/-- r is the lower place of the first cheapest bough on the road -/
def BestOn (n : Nat) (u : Nat → Nat) (p : Nat → Int) (one other r : Nat) : Prop := ∃ (ws rs : List Nat) (i : Nat), RoadOk n u one other ws ∧ rs.length = ws.length - 1 ∧ (∀ (j c : Nat), rs[j]? = some c → c ≠ 0 ∧ c < n ∧ ∃ a b, ws[j]? = some a ∧ ws[j + 1]? = some b ∧ Lower u a b c) ∧ rs[i]? = some r ∧ ∀ (j c : Nat), rs[j]? = some c → p r ≤ p c ∧ (j < i → p r < p c)
theorem List.getElem?_map_eq_some {α β : Type} {f : α → β} {xs : List α} {j : Nat} {c : β} (h : (xs.map f)[j]? = some c) : ∃ t, xs[j]? = some t ∧ c = f t := by
  rw [List.getElem?_map] at h
  cases e : xs[j]? with
  | none => rw [e] at h; cases h
  | some t => rw [e] at h; exact ⟨t, rfl, (Option.some.inj h).symm⟩
theorem zies_ties {K : PySem.W.Frag} {H : Hp} {xs : List V} {ts : List Tie} (h : xs.length = ts.length ∧ ∀ (i : Nat) (v : V) (t : Tie), xs[i]? = some v → ts[i]? = some t → TupZ H v t) : TiesV K H xs ts := ⟨h.1, fun i v t h1 h2 => (h.2 i v t h1 h2).tie⟩
theorem er_treeZ {C : Addr} {σ : L2.St} {H : Hp} {ta : TE} {E : XK} {x : Addr} {n : Nat} {ts : List Tie} (ha : Ev ta σ H (.ref x)) (N : NetAt K C H x n ts) :
    EvR (tCall (spz_tree K C) [] E (tCons ta tNil)) σ H (fun H1 v H2 => ∃ p xs, v = .ref p ∧ H1 p = none ∧ H2 p = some (.lst xs) ∧ (xs.length = (boughsN ts n).length ∧ ∀ (i : Nat) (v : V) (t : Tie), xs[i]? = some v → (boughsN ts n)[i]? = some t → TupZ H2 v t)) := fun H1 e Q q =>
  ha H1 e _ fun H2 e2 => ⟨x, n, ts, rfl, N.ex (e.trans e2), fun p xs H3 hp e3 h3 tz => q _ H3 (e2.trans e3) ⟨p, xs, rfl, fresh_back e2 hp, h3, tz⟩⟩
def spz_cheapest (K : PySem.W.Frag) (C Pt : Addr) : Sp := fun vs H Q _ => ∃ (x : Addr) (n : Nat) (ts : List Tie) (one other : Nat), vs = [.ref x, .int one, .int other] ∧ NetAt K C H x n ts ∧ one < n ∧ other < n ∧ one ≠ other ∧ Tabs [(Pt, lamQ)] H ∧
  ∀ q l r H2, ExtN H H2 → Tabs [(Pt, lamQ)] H2 → BestOn n (uN (costM ts) n) (pN (costM ts) n) one other r → hid H l = none → SqT K H2 q [.int (pN (costM ts) n r), .ref l] → H2 l = some (.lst (IL (sideN n (uN (costM ts) n) r one))) → Q (.ref q) H2
theorem ok_cheapest (T : Wd K mg) (TB : TabB base mg T.cc_cheapest T.PP_cheapest) : FnOk P w K mg base CX0 7 T.f_cheapest T.d_cheapest ["net", "one", "other"] (spz_cheapest K T.C_Net T.PP_cheapest) := by
  have G_check_two := ok_check_two (P := P) (w := w) (base := base) T
  have G_tree := okz_tree (P := P) (w := w) (base := base) T
  have G_way_between := okz_way_between (P := P) (w := w) (base := base) T
  have G_places_below := ok_places_below (P := P) (w := w) (base := base) T
  have G_bough_between := ok_bough_between (P := P) (w := w) (base := base) T
  refine T.FT_cheapest.ok sc_cheapest (fun vs H Q E h => ?_) (fun A outer s H vs Q E hr h => ?_)
  · obtain ⟨x, n, ts, one, other, rfl, _⟩ := h
    rfl
  · obtain ⟨x, n, ts, one, other, rfl, N, h1, h2, hn, TT, k⟩ := h
    have n24 := N.hi
    refine ⟨_, (pss_consT (pst_expr (pk_call G_check_two (hr.mono (by decide)) (by rfl) T.m_check_two T.F_check_two.kp T.b_check_two .nil pass0 (pat_cons (pk_fld (pv 0) rfl) (pa_cons (pv 1) (pa_cons (pv 2) pa_nil))))) (pssp_cons (psp_set (i := 3) sc_cheapest.nd rfl (Or.inr rfl) (pkp_call G_tree (hr.mono (by decide)) (by rfl) T.m_tree T.F_tree.kp T.b_tree pass0 (pa_cons (pv 0) pa_nil))) (pss_cons (ps_set (i := 4) sc_cheapest.nd rfl (Or.inl rfl) (G.pe_frzZ (k := 1) (pe_call G_way_between (hr.mono (by decide)) (by rfl) T.m_way_between T.F_way_between.kp T.b_way_between .nil pass0 (pa_cons (pv 3) (pa_cons (pv 1) (pa_cons (pv 2) pa_nil)))))) (pss_cons (ps_setLc (i := 5) (own := [("here", 6), ("there", 7)]) (g := (gTup K 2 (gCons (gName 6) (gCons (gName 7) gNil)))) (tt := tYes) rfl sc_cheapest.nd rfl rfl (sw_true rfl rfl rfl (by decide +kernel)) (G.pi_pwX (by rfl) T.m_pairwise (pa_cons (pv 4) pa_nil)) (blkOk_by (own := [("here", 6), ("there", 7)]) (N := ["net", "one", "other", "boughs", "way", "on_way", "here", "there", "place", "_", "price", "low", "outer"]) (sc := defScope s_cheapest) (by decide +kernel)) (fun _ _ _ _ _ => (G.kn_pg_tup (K := K) rfl (by rfl) (pgs_cons (pg_name (i := 6) sc_cheapest.nd rfl (Or.inl rfl)) (pgs_cons (pg_name (i := 7) sc_cheapest.nd rfl (Or.inl rfl)) pgs_nil)))) (fun _ _ _ _ _ => pts_nil) (fun _ _ _ _ _ => (pe_call G_bough_between (hr.mono (by decide)) (by rfl) T.m_bough_between T.F_bough_between.kp T.b_bough_between .nil pass0 (pa_cons (pv 3) (pa_cons (pv 6) (pa_cons (pv 7) pa_nil)))))) (pss_cons (ps_asg (G.pe_minKey (T := [(T.PP_cheapest, G.lamQ)]) (by rfl) T.n_min (pv 5) rfl TB rfl (List.mem_singleton.mpr rfl) (fun p hp _ => by rw [List.mem_singleton.mp hp]; rfl) (hr.mono (by decide)) ⟨⟨_, _, _, _, rfl⟩, rfl, rfl, rfl, ⟨rfl, by decide +kernel⟩, fun _ _ _ _ _ _ => rfl, by decide⟩ rfl) (pg_tup (by rfl) (pgs_cons (pg_name (i := 8) sc_cheapest.nd rfl (Or.inl rfl)) (pgs_cons (pg_name (i := 9) sc_cheapest.nd rfl (Or.inl rfl)) (pgs_cons (pg_name (i := 10) sc_cheapest.nd rfl (Or.inl rfl)) pgs_nil))))) (pss_cons (ps_set (i := 11) sc_cheapest.nd rfl (Or.inr rfl) (pe_call G_places_below (hr.mono (by decide)) (by rfl) T.m_places_below T.F_places_below.kp T.b_places_below .nil pass0 (pa_cons (pv 3) (pa_cons (pv 8) pa_nil)))) (pss_cons (ps_if (pt_cmpR op_in_seq (pv 1) (pv 11) (by rfl)) (pss_one (ps_ret (pe_tup (pa_cons (pv 10) (pa_cons (pv 11) pa_nil))))) pss_nil) (pss_one (ps_ret (pe_tup (pa_cons (pv 10) (pa_cons (pe_lc (own := [("outer", 12)]) (g := (gName 12)) rfl sc_cheapest.nd (pi_range1 (by rfl) T.n_range (pa_cons (pe_fld (pv 0) rfl) pa_nil)) (blkOk_by (own := [("outer", 12)]) (N := ["net", "one", "other", "boughs", "way", "on_way", "here", "there", "place", "_", "price", "low", "outer"]) (sc := defScope s_cheapest) (by decide +kernel)) (fun _ _ _ _ _ => (pg_name (i := 12) sc_cheapest.nd rfl (Or.inl rfl))) (fun _ _ _ _ _ => (pts_one (pt_cmpR (show OpR _ _ (rIn K true) from op_notIn_seq) (pv 12) (pv 11) (by rfl)))) (fun _ _ _ _ _ => (pv 12))) pa_nil)))))))))))), ?_⟩
    refine p_drop (Ex.refl H) (ev_call (ea_cons (ev_many (ev_var rfl) N T.cl_Net T.na_Net_many) (ea_cons (ev_var rfl) (ea_cons (ev_var rfl) ea_nil))) (sv_check_two h1 h2 hn)) fun H1 e1 _ => ?_
    refine p_asgR e1 (er_treeZ (ev_var rfl) N) fun v H2 e2 e12 r => ?_
    obtain ⟨b, zs, rfl, hb, hb2, tz⟩ := r
    have B : BghZ K H2 b n (uN (costM ts) n) (pN (costM ts) n) := ⟨bghL_of (N.ex e2) (sq_of hb2) (zies_ties tz), zs, sq_of hb2, tz⟩
    generalize uN (costM ts) n = u at B k
    generalize pN (costM ts) n = p at B k
    refine ⟨_, rfl, _, rfl, _, rfl, b, n, one, other, u, p, rfl, B, h1, h2, fun q ws H3 hq e3 rd h3 => ⟨q, _, rfl, h3, fun its nn rv nz => ?_⟩⟩
    have e24 : Ex H2 (upd H3 q (.frz (zob its nn) (.lst (IL ws)))) := Ex.mut e3 hq
    have h4 : upd H3 q (.frz (zob its nn) (.lst (IL ws))) q = some (.frz (zob its nn) (.lst (IL ws))) := upd_same
    generalize upd H3 q (.frz (zob its nn) (.lst (IL ws))) = H4 at e24 h4 ⊢
    obtain ⟨f1, f2, nd, flt, adj⟩ := rd.facts B.l.lt B.l.up h1 h2
    have wl := nodup_le n ws nd flt
    have w2 : 2 ≤ ws.length := by
      cases ws with
      | nil => cases f1
      | cons a r =>
        cases r with
        | nil =>
          have z1 := Option.some.inj f1
          have z2 : some a = some other := f2
          exact absurd (z1.symm.trans (Option.some.inj z2)) hn
        | cons _ _ => simp
    have B4 := B.ex e24
    have near : ∀ x y, Adjc (IL ws) (x, y) → ∃ (i a c : Nat), x = .int a ∧ y = .int c ∧ ws[i]? = some a ∧ ws[i + 1]? = some c ∧ a < n ∧ c < n ∧ Adj u a c := fun x y hxy => by
      obtain ⟨i, i1, i2⟩ := hxy
      obtain ⟨a, ha, rfl⟩ := IL_get i1
      obtain ⟨c, hc, rfl⟩ := IL_get i2
      exact ⟨i, a, c, rfl, rfl, ha, hc, flt a (List.mem_of_getElem? ha), flt c (List.mem_of_getElem? hc), adj i a c ha hc⟩
    refine p_asgLR (Ex.refl H4) (el_cPwX (fun xy r => r.1 ≠ 0 ∧ r.1 < n ∧ (∃ (a c : Nat), xy.1 = V.int a ∧ xy.2 = V.int c ∧ Lower u a c r.1) ∧ r = (r.1, u r.1, p r.1)) (ea_cons (ev_var rfl) ea_nil) h4 rv nz (by rw [IL_len]; omega) (fun x y hxy => ⟨rfl, ?_⟩)) fun ow ys H5 how e5 _ how5 hf => ?_
    · obtain ⟨i, a, c, rfl, rfl, ia, ic, la, lc, ad⟩ := near x y hxy
      intro H6 e6 Q' q'
      exact ⟨_, rfl, _, rfl, _, rfl, b, n, a, c, u, p, rfl, B4.l.ex e6, la, lc, ad, fun q2 r H7 e7 r0 rn lw hq2 => q' _ H7 e7 ⟨(r, u r, p r), ⟨r0, rn, ⟨a, c, rfl, rfl, lw⟩, rfl⟩, q2, rfl, hq2⟩⟩
    obtain ⟨us, hul, hus, tys⟩ := hf
    have hll : us.length = ws.length - 1 := by rw [hul, nxt_len, IL_len]
    have une : us ≠ [] := fun z => by
      rw [z] at hll
      have : (0 : Nat) = ws.length - 1 := hll
      omega
    have good : ∀ (j : Nat) (r : Tie), us[j]? = some r → (r.1 ≠ 0 ∧ r.1 < n ∧ ∃ a b, ws[j]? = some a ∧ ws[j + 1]? = some b ∧ Lower u a b r.1) ∧ r = (r.1, u r.1, p r.1) := fun j r hj => by
      have hlt := (List.getElem?_eq_some_iff.mp hj).1
      obtain ⟨r0, rn, ⟨a, c, e1, e2, lw⟩, er⟩ := hus j _ r (List.getElem?_eq_getElem (by omega)) hj
      obtain ⟨g1, g2⟩ := nxt_get.mp (List.getElem?_eq_getElem (l := nxt (IL ws)) (i := j) (by omega))
      rw [e1] at g1
      rw [e2] at g2
      obtain ⟨a', ha', ea⟩ := IL_get g1
      obtain ⟨c', hc', ec⟩ := IL_get g2
      have ea : a = a' := by injection ea with z; omega
      have ec : c = c' := by injection ec with z; omega
      subst ea
      subst ec
      exact ⟨⟨r0, rn, a, c, ha', hc', lw⟩, er⟩
    have eH5 : Ex H H5 := (e2.trans e24).trans e5
    refine ⟨_, rfl, Tabs.ext TT eH5, fun H6 eN T6 => ?_⟩
    have b6 : Ex (hid H5) H6 := hid_up hid_ex eN
    have how6 := b6 _ _ (lst_hid how5)
    have ty6 := (tiesV_hid tys).ex b6
    refine ⟨ow, ys, us.map fun r => r.2.2, rfl, sq_of how6, by rw [tys.len, List.length_map], by rw [tys.len]; exact List.length_pos_iff.mpr une, fun i y hy => ?_, fun i y kk hy hk hmin => ?_⟩
    · obtain ⟨t, a, ht, rfl, hta⟩ := ty6.get hy
      exact ⟨a, _, _, t.2.2, rfl, hta, by rw [List.getElem?_map, ht]; rfl⟩
    obtain ⟨t, a, ht, rfl, hta⟩ := ty6.get hy
    obtain ⟨⟨r0, rn, _⟩, et⟩ := good i t ht
    have onr : BestOn n u p one other t.1 := ⟨ws, us.map fun r => r.1, i, rd, by rw [List.length_map]; exact hll, fun j c hc => by
      obtain ⟨t', ht', rfl⟩ := List.getElem?_map_eq_some hc
      exact (good j t' ht').1, by rw [List.getElem?_map, ht]; rfl, fun j c hc => by
      obtain ⟨t', ht', rfl⟩ := List.getElem?_map_eq_some hc
      have hk2 : kk = p t.1 := by
        rw [List.getElem?_map, ht] at hk
        have z := Option.some.inj hk
        rw [et] at z
        exact z.symm
      have hm := hmin j t'.2.2 (by rw [List.getElem?_map, ht']; rfl)
      have e3 : t'.2.2 = p t'.1 := by have := (good j t' ht').2; rw [this]
      rw [hk2, e3] at hm
      exact hm⟩
    generalize ht1 : t.1 = r at onr et
    subst et
    have B6 : BghL K H6 b n u p := ⟨by
      obtain ⟨xs, g1, g2⟩ := (B4.l.ex e5).ls
      exact ⟨xs, ex_l b6 (sql_hid g1), (tiesV_hid g2).ex b6⟩, B.l.lt, B.l.up, B.l.lo, B.l.hi⟩
    have N6 : NetAt K T.C_Net H6 x n ts := (net_hid (N.ex eH5)).ex b6
    refine ⟨a, _, rfl, hta, rfl, _, _, rfl, _, _, rfl, _, _, rfl, rfl, ?_⟩
    refine p_asgL (Ex.refl H6) (el_call (ea_cons (ev_var rfl) (ea_cons (ev_var rfl) ea_nil)) (sl_below B6)) fun l H7 hl e7 _ hl7 => ?_
    have fin : ∀ {q2 l2 : Addr} {H8 : Hp}, Ex H6 H8 → H6 l2 = none → SqT K H8 q2 [.int (p r), .ref l2] → H8 l2 = some (.lst (IL (sideN n u r one))) → Q (.ref q2) H8 := fun {q2 l2 H8} e8 a0 a1 a2 => by
      have eN8 : ExtN H H8 := ((ExtN.of eH5).trans eN).trans (ExtN.of e8)
      exact k q2 l2 r H8 eN8 (Tabs.ext T6 e8) onr (fresh_back (hid_up (hid_ex.trans eH5) eN) a0) a1 a2
    refine p_when (b := decide (one ∈ belowN n u r)) (Ex.refl H7) (et_test (ev_inIL (ev_var rfl) (ev_var rfl) (sq_of hl7))) (fun hb H8 e8 _ => ?_) (fun hb H8 e8 _ => ?_)
    · have hb := of_decide_eq_true hb
      refine p_retU (Ex.refl H8) (eu_tup (ea_cons (ev_var rfl) (ea_cons (ev_var rfl) ea_nil)) (Nat.le_of_ble_eq_true rfl)) fun q2 H9 hq2 e9 h9 => fin (l2 := l) ((e7.trans e8).trans e9) hl (st_of h9) ?_
      rw [e9 _ _ (e8 _ _ hl7)]
      unfold sideN
      rw [if_pos hb]
    · have hb := of_decide_eq_false hb
      refine er_pairL (v := .int (p r)) (ev_var rfl) (el_is (el_lcR1 (n := (n : Int)) (fun j => !decide (j ∈ belowN n u r)) (fun j => .int (j : Int)) (ea_cons (ev_many (ev_var rfl) ((N6.ex e7).ex e8) T.cl_Net T.na_Net_many) ea_nil) (by omega) (fun _ => rfl) (fun j H9 e9 hj => et_test (ev_ninIL (ev_var rfl) (ev_var rfl) (sq_of (e9 _ _ (e8 _ _ hl7))))) (fun j H9 e9 hj _ => ev_var rfl)) (ys := IL (sideN n u r one)) (by unfold sideN; rw [if_neg hb]; rfl)) H8 (Ex.refl H8) _ fun v H9 e9 r9 => ?_
      obtain ⟨q2, l2, rfl, _, g0, g1, g2⟩ := r9
      exact fin ((e7.trans e8).trans e9) (fresh_back (e7.trans e8) g0) (st_of g1) g2
end
end Toy

namespace Toy
open PySem L2 Evl RZ G
section
variable {P : Program} {w : World} {K : PySem.W.Frag} {mg : Str → Option Value} {base : Heap}
/-! ### the law's helpers -/
def sp_cell_at (K : PySem.W.Frag) : Sp := fun vs H Q _ => ∃ (a : Addr) (ns : List Int) (k : Nat), vs = [.ref a, .int k] ∧ SqL K H a (ns.map V.int) ∧ RetV (.int (cellA ns k)) H Q
theorem sv_cell {a : Addr} {ns : List Int} {k : Nat} {H : Hp} (h : SqL K H a (ns.map V.int)) : SpV (sp_cell_at K) [.ref a, .int k] H (.int (cellA ns k)) := fun H1 e Q q E => ⟨a, ns, k, rfl, ex_l e h, q⟩
theorem ok__law_cell_at (T : Wd K mg) : FnOk P w K mg base CX0 1 T.f__law_cell_at T.d__law_cell_at ["_law_script", "_law_k"] (sp_cell_at K) := by
  refine T.F__law_cell_at.ok sc__law_cell_at (fun vs H Q E h => ?_) (fun cdv A outer s H vs Q E hr h => ?_)
  · obtain ⟨a, ns, k, rfl, _⟩ := h
    rfl
  · obtain ⟨a, ns, k, rfl, hs, q⟩ := h
    refine ⟨_, (pss_cons (ps_if (pt_cmpR op_lt (pv 1) (pe_callB call_len_seq (by rfl) T.n_len (by decide +kernel) (pa_cons (pv 0) pa_nil)) (nomark _)) (pss_one (ps_ret (pe_ix ix_list (pv 0) (pv 1) (fun _ _ => rfl)))) pss_nil) (pss_one (ps_ret pe_int))), ?_⟩
    refine p_when (Ex.refl H) (et_test (ev_op (ev_var rfl) (ev_lenS (ev_var rfl) (Or.inl hs)) rv_I0)) (fun hb H1 e1 _ => ?_) (fun hb H1 e1 _ => ?_)
    · have hk : k < ns.length := by
        have := of_decide_eq_true hb
        rw [List.length_map] at this
        omega
      refine p_ret e1 (ev_op (ev_var rfl) (ev_var rfl) (rv_ixL (v := .int (cellA ns k)) hs (at_of rfl ?_))) q
      rw [List.getElem?_map, List.getElem?_eq_getElem hk]
      simp [cellA, List.getD, List.getElem?_eq_getElem hk]
    · have hk : ns.length ≤ k := by
        have := of_decide_eq_false hb
        rw [List.length_map] at this
        omega
      refine p_ret e1 (ev_is ev_c ?_) q
      simp [cellA, List.getD, List.getElem?_eq_none hk]
def sp_whole : Sp := fun vs H Q _ => ∃ i : Int, vs = [.int i] ∧ RetV (.bl true) H Q
theorem sv_whole {i : Int} {H : Hp} : SpV sp_whole [.int i] H (.bl true) := fun H1 e Q q E => ⟨i, rfl, q⟩
theorem ok__law_whole (T : Wd K mg) : FnOk P w K mg base CX0 1 T.f__law_whole T.d__law_whole ["_law_found"] (sp_whole) := by
  refine T.F__law_whole.ok sc__law_whole (fun vs H Q E h => ?_) (fun cdv A outer s H vs Q E hr h => ?_)
  · obtain ⟨i, rfl, _⟩ := h
    rfl
  · obtain ⟨i, rfl, q⟩ := h
    refine ⟨_, (pss_one (ps_ret (pe_and (pe_callB call_isi (by rfl) T.n_isinstance (by decide +kernel) (pa_cons (pv 0) (pa_cons (pe_bltn (v := .ty "int") (by rfl) T.n_int (by decide +kernel) rfl) pa_nil))) (pe_one (pe_not (pe_callB call_isi (by rfl) T.n_isinstance (by decide +kernel) (pa_cons (pv 0) (pa_cons (pe_bltn (v := .ty "bool") (by rfl) T.n_bool (by decide +kernel) rfl) pa_nil)))))))), ?_⟩
    exact p_ret (Ex.refl H) (ev_andV (a := true) (b := true) (ev_isiI (ev_var rfl) (by decide +kernel)) (fun _ => ev_notV (a := false) (ev_isiI (ev_var rfl) (by decide +kernel)))) q
def sp_tie : Sp := fun vs H Q _ => ∃ (c top : Int) (n : Nat), vs = [.int c, .int n, .int top] ∧ 2 ≤ n ∧ n ≤ 24 ∧ 1 ≤ top ∧ ∀ p H2, H p = none → Ex H H2 → H2 p = some (.tup (tv (tieOf n top c))) → Q (.ref p) H2
theorem ok__law_tie (T : Wd K mg) : FnOk P w K mg base CX0 1 T.f__law_tie T.d__law_tie ["_law_cell", "_law_many_here", "_law_top"] (sp_tie) := by
  refine T.F__law_tie.ok sc__law_tie (fun vs H Q E h => ?_) (fun cdv A outer s H vs Q E hr h => ?_)
  · obtain ⟨c, top, n, rfl, _⟩ := h
    rfl
  · obtain ⟨c, top, n, rfl, h1, h2, h3, q⟩ := h
    obtain ⟨m1, m2⟩ := mulN h1 h2
    refine ⟨_, (pss_cons (ps_set (i := 3) sc__law_tie.nd rfl (Or.inl rfl) (pe_op op_mod (pv 0) (pv 1))) (pss_cons (ps_set (i := 4) sc__law_tie.nd rfl (Or.inl rfl) (pe_op op_mod (pe_op op_add (pe_op op_add (pv 3) pe_int) (pe_op op_mod (pe_op op_fdiv (pv 0) (pv 1)) (pe_op op_sub (pv 1) pe_int))) (pv 1))) (pss_one (ps_ret (pe_tup (pa_cons (pv 3) (pa_cons (pv 4) (pa_cons (pe_op op_add pe_int (pe_op op_mod (pe_op op_fdiv (pv 0) (pe_op op_mul (pv 1) (pe_op op_sub (pv 1) pe_int))) (pv 2))) pa_nil)))))))), ?_⟩
    refine p_asg (Ex.refl H) (ev_op (ev_var rfl) (ev_var rfl) (rv_I (by omega : (0 : Int) < (n : Int)))) fun H1 e1 _ => ?_
    refine p_asg e1 (ev_op (ev_op (ev_op (ev_var rfl) ev_c rv_I0) (ev_op (ev_op (ev_var rfl) (ev_var rfl) (rv_I ⟨by omega, by omega⟩)) (ev_op (ev_var rfl) ev_c rv_I0) (rv_I (by omega : (0 : Int) < (n : Int) - 1))) rv_I0) (ev_var rfl) (rv_I (by omega : (0 : Int) < (n : Int)))) fun H2 e2 _ => ?_
    have a0 : 0 ≤ c % (n : Int) := Int.emod_nonneg _ (by omega)
    have a1 : c % (n : Int) < n := Int.emod_lt_of_pos _ (by omega)
    have r0 : 0 ≤ c / (n : Int) % ((n : Int) - 1) := Int.emod_nonneg _ (by omega)
    have r1 : c / (n : Int) % ((n : Int) - 1) < (n : Int) - 1 := Int.emod_lt_of_pos _ (by omega)
    obtain ⟨o1, o2, o3⟩ := otherOf a0 a1 r0 r1
    refine p_retU e2 (eu_is (eu_tup (ea_cons (ev_var rfl) (ea_cons (ev_var rfl) (ea_cons (ev_op ev_c (ev_op (ev_op (ev_var rfl) (ev_op (ev_var rfl) (ev_op (ev_var rfl) ev_c rv_I0) (rv_I (Or.inl (by omega)))) (rv_I ⟨m1, by omega⟩)) (ev_var rfl) (rv_I (by omega : (0 : Int) < top))) rv_I0) ea_nil))) (Nat.le_of_ble_eq_true rfl)) ?_) q
    unfold tv tieOf
    simp only [Int.toNat_of_nonneg a0, Int.toNat_of_nonneg o2]
theorem er_tie {n : Nat} {c top : Int} {H : Hp} {ta : TA} {σ : L2.St} {E : XK} (ha : EvA ta σ H [.int c, .int n, .int top]) (h1 : 2 ≤ n) (h2 : n ≤ 24) (h3 : 1 ≤ top) : EvR (tCall sp_tie [] E ta) σ H (fun _ v H2 => TieV K H2 v (tieOf n top c)) := fun H1 e Q q =>
  ha H1 e _ fun H2 e2 => ⟨c, top, n, rfl, h1, h2, h3, fun p H3 hp e3 h => q _ H3 (e2.trans e3) ⟨p, rfl, st_of h⟩⟩
/-- a list of good ties that was made anew -/
structure TiesNew (K : PySem.W.Frag) (H0 H : Hp) (p : Addr) (n m : Nat) (ts : List Tie) : Prop where
  fr : H0 p = none
  ls : ∃ xs, H p = some (.lst xs) ∧ TiesV K H xs ts
  good : ∀ t ∈ ts, Good n t
  len : ts.length ≤ m
theorem TiesNew.ex {H0 H H' : Hp} {p : Addr} {n m : Nat} {ts : List Tie} (h : TiesNew K H0 H p n m ts) (e : Ex H H') : TiesNew K H0 H' p n m ts := by
  obtain ⟨xs, a, b⟩ := h.ls
  exact ⟨h.fr, ⟨xs, e _ _ a, b.ex e⟩, h.good, h.len⟩
def spLaw (K : PySem.W.Frag) : Sp := fun vs H Q _ => ∃ (a : Addr) (ns : List Int), vs = [.ref a] ∧ SqL K H a (ns.map V.int) ∧ ns.length ≤ 63 ∧ ∀ H', Q (.bl true) H'
end
end Toy

namespace Toy
open PySem L2 Evl RZ G
section
variable {P : Program} {w : World} {K : PySem.W.Frag} {mg : Str → Option Value} {base : Heap}
def sp_many (K : PySem.W.Frag) : Sp := fun vs H Q _ => ∃ (a : Addr) (ns : List Int), vs = [.ref a] ∧ SqL K H a (ns.map V.int) ∧ ∀ n : Nat, 2 ≤ n → n ≤ 24 → RetV (.int n) H Q
theorem ok__law_many (T : Wd K mg) : FnOk P w K mg base CX0 2 T.f__law_many T.d__law_many ["_law_script"] (sp_many K) := by
  have G__law_cell_at := ok__law_cell_at (P := P) (w := w) (base := base) T
  refine T.F__law_many.ok sc__law_many (fun vs H Q E h => ?_) (fun cdv A outer s H vs Q E hr h => ?_)
  · obtain ⟨a, ns, rfl, _⟩ := h
    rfl
  · obtain ⟨a, ns, rfl, hs, q⟩ := h
    refine ⟨_, (pss_cons (ps_set (i := 1) sc__law_many.nd rfl (Or.inl rfl) (pe_call G__law_cell_at (hr.mono (by decide)) (by rfl) T.m__law_cell_at T.F__law_cell_at.kp T.b__law_cell_at .nil pass0 (pa_cons (pv 0) (pa_cons pe_int pa_nil)))) (pss_cons (ps_if (pt_cmpR op_eq (pe_op op_mod (pe_op op_fdiv (pv 1) pe_int) pe_int) pe_int (nomark _)) (pss_one (ps_ret (pe_op op_add pe_int (pe_op op_mod (pe_op op_fdiv (pv 1) pe_int) pe_int)))) pss_nil) (pss_cons (ps_if (pt_cmpR op_eq (pe_op op_mod (pe_op op_fdiv (pv 1) pe_int) pe_int) pe_int (nomark _)) (pss_one (ps_ret (pe_op op_add pe_int (pe_op op_mod (pe_op op_fdiv (pv 1) pe_int) pe_int)))) pss_nil) (pss_one (ps_ret (pe_op op_add pe_int (pe_op op_mod (pv 1) pe_int))))))), ?_⟩
    refine p_asg (Ex.refl H) (ev_call (ea_cons (ev_var rfl) (ea_cons ev_c ea_nil)) (sv_cell (k := 0) hs)) fun H1 e1 _ => ?_
    generalize cellA ns 0 = f
    refine p_when (b := decide (f / 6 % 8 = 1)) e1 (et_is (et_test (ev_op (ev_op (ev_op (ev_var rfl) ev_c (rv_I ⟨by decide, by decide⟩)) ev_c (rv_I (by decide : (0 : Int) < 8))) ev_c (rv_eq rfl))) (by simp)) (fun hb H2 e2 _ => ?_) (fun hb H2 e2 _ => ?_)
    · refine p_ret e2 (ev_is (ev_op ev_c (ev_op (ev_op (ev_var rfl) ev_c (rv_I ⟨by decide, by decide⟩)) ev_c (rv_I (by decide : (0 : Int) < 5))) rv_I0) ?_) (q (8 + f / 48 % 5).toNat (by omega) (by omega))
      congr 1
      omega
    · refine p_when (b := decide (f / 6 % 24 = 2)) e2 (et_is (et_test (ev_op (ev_op (ev_op (ev_var rfl) ev_c (rv_I ⟨by decide, by decide⟩)) ev_c (rv_I (by decide : (0 : Int) < 24))) ev_c (rv_eq rfl))) (by simp)) (fun hb H3 e3 _ => ?_) (fun hb H3 e3 _ => ?_)
      · refine p_ret e3 (ev_is (ev_op ev_c (ev_op (ev_op (ev_var rfl) ev_c (rv_I ⟨by decide, by decide⟩)) ev_c (rv_I (by decide : (0 : Int) < 12))) rv_I0) ?_) (q (13 + f / 144 % 12).toNat (by omega) (by omega))
        congr 1
        omega
      · refine p_ret e3 (ev_is (ev_op ev_c (ev_op (ev_var rfl) ev_c (rv_I (by decide : (0 : Int) < 6))) rv_I0) ?_) (q (2 + f % 6).toNat (by omega) (by omega))
        congr 1
        omega
theorem er_many {H : Hp} {σ : L2.St} {E : XK} {ta : TA} {a : Addr} {ns : List Int} (ha : EvA ta σ H [.ref a]) (hs : SqL K H a (ns.map V.int)) : EvR (tCall (sp_many K) [] E ta) σ H (fun _ v _ => ∃ n : Nat, v = .int n ∧ 2 ≤ n ∧ n ≤ 24) := fun H1 e Q q =>
  ha H1 e _ fun H2 e2 => ⟨a, ns, rfl, ex_l (e.trans e2) hs, fun n h1 h2 H3 e3 => q _ H3 (e2.trans e3) ⟨n, rfl, h1, h2⟩⟩
def sp_ties (K : PySem.W.Frag) : Sp := fun vs H Q _ => ∃ (a : Addr) (ns : List Int) (n : Nat), vs = [.ref a, .int n] ∧ SqL K H a (ns.map V.int) ∧ 2 ≤ n ∧ n ≤ 24 ∧ ∀ p ts H2, Ex H H2 → TiesNew K H H2 p n 100 ts → Q (.ref p) H2
theorem ok__law_ties (T : Wd K mg) : FnOk P w K mg base CX0 2 T.f__law_ties T.d__law_ties ["_law_script", "_law_many_here"] (sp_ties K) := by
  have G__law_tie := ok__law_tie (P := P) (w := w) (base := base) T
  have G__law_cell_at := ok__law_cell_at (P := P) (w := w) (base := base) T
  refine T.F__law_ties.ok sc__law_ties (fun vs H Q E h => ?_) (fun cdv A outer s H vs Q E hr h => ?_)
  · obtain ⟨a, ns, n, rfl, _⟩ := h
    rfl
  · obtain ⟨a, ns, n, rfl, hs, h2, h24, k⟩ := h
    refine ⟨_, (pss_cons (ps_set (i := 2) sc__law_ties.nd rfl (Or.inr rfl) (pe_ix ix_list (pe_lst (pa_cons pe_int (pa_cons pe_int (pa_cons pe_int pa_nil)))) (pe_op op_mod (pe_call G__law_cell_at (hr.mono (by decide)) (by rfl) T.m__law_cell_at T.F__law_cell_at.kp T.b__law_cell_at .nil pass0 (pa_cons (pv 0) (pa_cons pe_int pa_nil))) pe_int) (fun _ _ => rfl))) (pss_cons (ps_setLc (i := 3) (own := [("_law_cell", 4)]) (g := (gName 4)) (tt := tYes) rfl sc__law_ties.nd rfl rfl (sw_true rfl rfl rfl (by decide +kernel)) (pi_list (pe_slice sl_list (pv 0) (po_some pe_int) (po_some pe_int))) (blkOk_by (own := [("_law_cell", 4)]) (N := ["_law_script", "_law_many_here", "_law_top", "_law_ties_here", "_law_cell", "_law_one"]) (sc := defScope s__law_ties) (by decide +kernel)) (fun _ _ _ _ _ => (pg_name (i := 4) sc__law_ties.nd rfl (Or.inl rfl))) (fun _ _ _ _ _ => pts_nil) (fun _ _ _ _ _ => (pe_call G__law_tie (hr.mono (by decide)) (by rfl) T.m__law_tie T.F__law_tie.kp T.b__law_tie .nil pass0 (pa_cons (pv 4) (pa_cons (pv 1) (pa_cons (pv 2) pa_nil)))))) (pss_cons (ps_if (pt_cmpR op_gt (pv 1) pe_int (nomark _)) (pss_one (ps_set (i := 3) sc__law_ties.nd rfl (Or.inl rfl) (pe_slice sl_list (pv 3) po_none (po_some pe_int)))) pss_nil) (pss_cons (ps_if (PW.pt (pw_or (pt_cmpR op_eq (pe_op op_mod (pe_op op_fdiv (pe_call G__law_cell_at (hr.mono (by decide)) (by rfl) T.m__law_cell_at T.F__law_cell_at.kp T.b__law_cell_at .nil pass0 (pa_cons (pv 0) (pa_cons pe_int pa_nil))) pe_int) pe_int) pe_int (nomark _)) (pw_or1 (pt_cmpR op_gt (pv 1) pe_int (nomark _))))) (pss_one (ps_for PassesOwn.never rfl (pi_range1 (by rfl) T.n_range (pa_cons (pv 1) pa_nil)) (pg_name (i := 5) sc__law_ties.nd rfl (Or.inl rfl)) (pss_one (ps_expr (pe_bm PySem.F.plainAttrs_list PySem.F.slot_list_append PySem.F.type_list_append mt_append (pv 3) (pa_cons (pe_tup (pa_cons (pv 5) (pa_cons (pe_op op_mod (pe_op op_add (pv 5) pe_int) (pv 1)) (pa_cons (pe_op op_add pe_int (pe_op op_mod (pe_op op_add (pe_call G__law_cell_at (hr.mono (by decide)) (by rfl) T.m__law_cell_at T.F__law_cell_at.kp T.b__law_cell_at .nil pass0 (pa_cons (pv 0) (pa_cons pe_int pa_nil))) (pe_op op_mul (pv 5) (pv 5))) (pv 2))) pa_nil)))) pa_nil)))))) pss_nil) (pss_one (ps_ret (pv 3))))))), ?_⟩
    obtain ⟨tb1, tb2⟩ := topOf_b (cellA ns 1)
    refine p_asg (Ex.refl H) (ev_pick (ea_cons ev_c (ea_cons ev_c (ea_cons ev_c ea_nil))) (Nat.le_of_ble_eq_true rfl) (ev_op (ev_call (ea_cons (ev_var rfl) (ea_cons ev_c ea_nil)) (sv_cell (k := 1) hs)) ev_c (rv_I (by decide : (0 : Int) < 3))) (topOf_at _)) fun H2 e2 _ => ?_
    generalize topOf (cellA ns 1) = top at tb1 tb2 ⊢
    generalize hcs : cutG ns (some ((4 : Nat) : Int)) (some ((44 : Nat) : Int)) = cs
    have hcs' : cutV (ns.map V.int) (some 4) (some 44) = cs.map V.int := by rw [← hcs]; exact cutV_map V.int ns _ _
    have hcl : cs.length ≤ 40 := by
      have := cutV_len (ns.map V.int) 4 44
      rw [show ((4 : Nat) : Int) = 4 from rfl, show ((44 : Nat) : Int) = 44 from rfl, hcs', List.length_map] at this
      omega
    refine p_asgLR (P := fun D ys H2 => Fills (fun i v H => TieV K H v (tieOf n top (cs.getD i 0))) ((List.range (cs.map V.int).length).filter fun _ => true) ys H2) e2 (el_cNL (fun _ => true) compTie (el_is (el_sl (ev_var rfl) (eo_some ev_c) (eo_some ev_c) hs) hcs') (by rw [List.length_map]; omega) ?_) ?_
    · intro i x hx
      refine ⟨_, ?w, fun H2 Q _ q => q, et_yes, fun _ => ?_⟩
      case w => rfl
      obtain ⟨c, hc, rfl⟩ := ints_at hx
      have ec : cs.getD i 0 = c := by simp [List.getD, hc]
      rw [ec]
      exact er_tie (ea_cons (ev_var rfl) (ea_cons (ev_var rfl) (ea_cons (ev_var rfl) ea_nil))) h2 h24 tb1
    · intro p ys H3 hp e3 _ hl hf
      rw [filter_yes, List.length_map] at hf
      have tz0 := hf.ties
      rw [range_getD (tieOf n top) cs 0] at tz0
      have t0 : TiesNew K H H3 p n 50 (cs.map (tieOf n top)) := ⟨fresh_back e2 hp, ⟨ys, hl, tz0⟩, fun t ht => by
        obtain ⟨c, _, rfl⟩ := List.mem_map.mp ht
        exact tieOf_good h2 tb1 tb2, by rw [List.length_map]; omega⟩
      generalize cs.map (tieOf n top) = ts0 at t0
      refine p_whenK (fun σ' H' => ∃ (p : Addr) (ts0 : List Tie), σ' = [some (.ref a), some (.int n), some (.int top), some (.ref p), none, none] ∧ Ex H H' ∧ TiesNew K H H' p n 50 ts0) (b := decide (12 < n)) e3 (et_is (et_test (ev_op (ev_var rfl) ev_c rv_I0)) (decide_eq_decide.mpr (by omega))) (fun hb H4 e4 e34 kk => ?_) (fun hb H4 e4 e34 => ⟨p, ts0, rfl, e4, t0.ex e34⟩) ?_
      · have t4 := t0.ex e34
        obtain ⟨zs, hz4, tz4⟩ := t4.ls
        refine s_asgL (el_sl (ev_var rfl) eo_none (eo_some ev_c) (sq_of hz4)) fun p2 H5 hp2 e5 h5 => kk _ _ ⟨p2, ts0.take 12, rfl, e4.trans e5, fresh_back e4 hp2, ⟨_, h5, (tz4.ex e5).cut 12⟩, fun t ht => t4.good t (List.mem_of_mem_take ht), ?_⟩
        have := t4.len
        rw [List.length_take]
        omega
      rintro σ' H3 ⟨p, ts0, rfl, e3, t0⟩
      refine p_when (b := decide (cellA ns 1 / 3 % 4 = 0) || decide (12 < n)) e3 (et_is (et_or (et_test (ev_op (ev_op (ev_op (ev_call (ea_cons (ev_var rfl) (ea_cons ev_c ea_nil)) (sv_cell (k := 1) hs)) ev_c (rv_I ⟨by decide, by decide⟩)) ev_c (rv_I (by decide : (0 : Int) < 4))) ev_c (rv_eq rfl))) (fun _ => et_test (ev_op (ev_var rfl) ev_c rv_I0))) (by simp; congr 1; exact decide_eq_decide.mpr (by omega))) (fun hb H4 e4 e34 => ?_) (fun hb H4 e4 e34 => ?_)
      · have t4 := t0.ex e34
        refine s_forR1 (n := (n : Int)) (ea_cons (ev_var rfl) ea_nil) (by omega) (fun i σ' H' => ∃ ts u v, σ' = [some (.ref a), some (.int n), some (.int top), some (.ref p), u, v] ∧ Ex H H' ∧ TiesNew K H H' p n (50 + i) ts) (fun H6 e6 => ⟨ts0, _, _, rfl, e4.trans e6, t4.ex e6⟩) ?_ ?_
        · rintro i σ' H' hi ⟨ts, u, v, rfl, e6, t6⟩
          have hin : i < n := by omega
          obtain ⟨xs, hl6, tz6⟩ := t6.ls
          have hlen : xs.length < 100000 := by
            rw [tz6.len]
            have := t6.len
            omega
          have o0 : 0 ≤ ((i : Int) + 1) % (n : Int) := Int.emod_nonneg _ (by omega)
          have o1 : ((i : Int) + 1) % (n : Int) < n := Int.emod_lt_of_pos _ (by omega)
          obtain ⟨j, hj⟩ : ∃ j : Nat, ((i : Int) + 1) % (n : Int) = (j : Int) := ⟨(((i : Int) + 1) % (n : Int)).toNat, by omega⟩
          have hij : i ≠ j := fun z => by
            subst z
            by_cases c : (i : Int) + 1 < n
            · rw [Int.emod_eq_of_lt (by omega) c] at hj
              omega
            · rw [show (i : Int) + 1 = n by omega, Int.emod_self] at hj
              omega
          refine s_appU (ys := tv (i, j, 1 + (cellA ns 2 + (i : Int) * (i : Int)) % top)) hl6 (ev_var rfl) (eu_is (eu_tup (ea_cons (ev_var rfl) (ea_cons (ev_op (ev_op (ev_var rfl) ev_c rv_I0) (ev_var rfl) (rv_I (by omega : (0 : Int) < (n : Int)))) (ea_cons (ev_op ev_c (ev_op (ev_op (ev_call (ea_cons (ev_var rfl) (ea_cons ev_c ea_nil)) (sv_cell (k := 2) (ex_l e6 hs))) (ev_op (ev_var rfl) (ev_var rfl) (rv_I (Or.inl (by omega)))) rv_I0) (ev_var rfl) (rv_I (by omega : (0 : Int) < top))) rv_I0) ea_nil))) (Nat.le_of_ble_eq_true rfl)) (by rw [hj]; rfl)) hlen fun q H8 hq e8 hq8 => ?_
          have hl8 := e8 _ _ hl6
          have r0 : 0 ≤ (cellA ns 2 + (i : Int) * (i : Int)) % top := Int.emod_nonneg _ (by omega)
          have r1 : (cellA ns 2 + (i : Int) * (i : Int)) % top < top := Int.emod_lt_of_pos _ (by omega)
          refine ⟨ts ++ [(i, j, 1 + (cellA ns 2 + (i : Int) * (i : Int)) % top)], _, _, rfl, (e6.trans e8).mut t6.fr, t6.fr, ⟨_, upd_same, ((tz6.ex e8).snoc (t := (i, j, 1 + (cellA ns 2 + (i : Int) * (i : Int)) % top)) ⟨q, rfl, st_of hq8⟩).updL hl8⟩, fun t ht => ?_, ?_⟩
          · rcases List.mem_append.mp ht with ht | ht
            · exact t6.good t ht
            · have e := List.mem_singleton.mp ht
              subst e
              refine ⟨?_, ?_, hij, ?_, ?_⟩
              · show i < n
                omega
              · show j < n
                omega
              · show 1 ≤ 1 + (cellA ns 2 + (i : Int) * (i : Int)) % top
                omega
              · show 1 + (cellA ns 2 + (i : Int) * (i : Int)) % top ≤ 1000000000
                omega
          · have := t6.len
            rw [List.length_append]
            show ts.length + 1 ≤ _
            omega
        · rintro σ' H' ⟨ts, u, v, rfl, e6, t6⟩
          refine p_ret (Ex.refl H') (ev_var rfl) fun H7 e7 => k p ts H7 (e6.trans e7) ?_
          have t7 := t6.ex e7
          refine ⟨t7.fr, t7.ls, t7.good, ?_⟩
          have := t7.len
          have e2 : (n : Int).toNat = n := rfl
          rw [e2] at this
          omega
      · refine p_ret (Ex.refl H4) (ev_var rfl) fun H7 e7 => k p ts0 H7 (e4.trans e7) ?_
        have t7 := t0.ex (e34.trans e7)
        exact ⟨t7.fr, t7.ls, t7.good, Nat.le_trans t7.len (by decide)⟩
theorem er_lties {H : Hp} {σ : L2.St} {E : XK} {ta : TA} {a : Addr} {ns : List Int} {n : Nat} (ha : EvA ta σ H [.ref a, .int n]) (hs : SqL K H a (ns.map V.int)) (h1 : 2 ≤ n) (h2 : n ≤ 24) : EvR (tCall (sp_ties K) [] E ta) σ H (fun H1 v H2 => ∃ p ts, v = .ref p ∧ TiesNew K H1 H2 p n 100 ts) := fun H1 e Q q =>
  ha H1 e _ fun H2 e2 => ⟨a, ns, n, rfl, ex_l (e.trans e2) hs, h1, h2, fun p ts H3 e3 t => q _ H3 (e2.trans e3) ⟨p, ts, rfl, fresh_back e2 t.fr, t.ls, t.good, t.len⟩⟩
end
end Toy

namespace N
open G PySem PySem.Spec PyProof.Rows L2 Evl RZ
def keyI (t : Tie) : List Int := [((min t.1 t.2.1 : Nat) : Int), ((max t.1 t.2.1 : Nat) : Int)]
def keyT (t : Tie) : List Key := (keyI t).map Sum.inl
theorem keyT_v (t : Tie) : (keyT t).map kV = (keyI t).map V.int := rfl
theorem keyI_eq {t r : Tie} : keyI t = keyI r ↔ (t.1 = r.1 ∧ t.2.1 = r.2.1) ∨ (t.1 = r.2.1 ∧ t.2.1 = r.1) := by
  unfold keyI
  constructor
  · intro h
    have h1 := (List.cons.inj h).1
    have h2 := (List.cons.inj (List.cons.inj h).2).1
    omega
  · intro h
    rw [show min t.1 t.2.1 = min r.1 r.2.1 by omega, show max t.1 t.2.1 = max r.1 r.2.1 by omega]
theorem keyT_eq {t r : Tie} (h : keyT t = keyT r) : keyI t = keyI r := by
  unfold keyT at h
  exact (List.map_inj_right (fun x y h => Sum.inl.inj h)).mp h
theorem room_is (ts : List Tie) (r : Tie) : (ts.map fun t => if decide (keyI t = keyI r) = true then t.2.2 else 0).sum = costM ts r.1 r.2.1 := by
  unfold costM
  congr 1
  refine List.map_congr_left fun t _ => ?_
  by_cases c : keyI t = keyI r
  · rw [if_pos (decide_eq_true c), if_pos (keyI_eq.mp c)]
  · rw [if_neg (by simpa using c), if_neg fun z => c (keyI_eq.mpr z)]
theorem min_is (a b : Nat) : (if (b : Int) < (a : Int) then (b : Int) else (a : Int)) = ((min a b : Nat) : Int) := by split <;> omega
theorem max_is (a b : Nat) : (if (b : Int) > (a : Int) then (b : Int) else (a : Int)) = ((max a b : Nat) : Int) := by split <;> omega
theorem gone_snoc {rs : List Tie} {i : Nat} {r : Tie} (h : rs[i]? = some r) (p : Nat) : goneOf (rs.take (i + 1)) p = goneOf (rs.take i) p + ((if r.1 = p then r.2.2 else 0) - (if r.2.1 = p then r.2.2 else 0)) := by
  rw [take_snoc h, goneOf_append]
  congr 1
  show _ + 0 = _
  rw [Int.add_zero]
theorem RowsRight.fresh {n : Nat} {C : Mat} {rs : List Tie} (R : RowsRight n C rs) {i : Nat} {r : Tie} (h : rs[i]? = some r) : ∀ s ∈ rs.take i, keyT r ≠ keyT s := fun s hs e => by
  have hm := List.mem_of_getElem? h
  have hms := List.mem_of_mem_take hs
  obtain ⟨j, hj⟩ := List.mem_iff_getElem?.mp hs
  have hlt := (List.getElem?_eq_some_iff.mp hj).1
  rw [List.length_take] at hlt
  rw [List.getElem?_take_of_lt (by omega)] at hj
  have i1 := List.getElem?_eq_some_iff.mp h
  have i2 := List.getElem?_eq_some_iff.mp hj
  have hinc := List.pairwise_iff_getElem.mp R.inc j i i2.1 i1.1 (by omega)
  rw [i1.2, i2.2] at hinc
  rcases keyI_eq.mp (keyT_eq e) with z | z
  · omega
  · exact R.no r hm s hms ⟨z.2.symm, z.1.symm⟩
end N
namespace Toy
open PySem L2 TL Evl RZ G N
section
variable {P : Program} {w : World} {K : PySem.W.Frag} {mg : Str → Option Value} {base : Heap}
def sp_led (K : PySem.W.Frag) : Sp := fun vs H Q _ => ∃ (f l : Addr) (n one other : Nat) (xs : List V) (rs ts : List Tie), vs = [.ref f, .ref l, .int n, .int one, .int other] ∧ SqL K H f xs ∧ TiesV K H xs rs ∧ TiesL K H l ts ∧ rs.length ≤ 1000 ∧ ts.length ≤ 1000 ∧ n ≤ 24 ∧ RowsRight n (costM ts) rs ∧ (∀ p, p < n → p ≠ one → p ≠ other → goneOf rs p = 0) ∧ one < n ∧ RetV (.int (goneOf rs one)) H Q
theorem ok__law_led (T : Wd K mg) : FnOk P w K mg base CX0 2 T.f__law_led T.d__law_led ["_law_rows", "_law_ties_here", "_law_many_here", "_law_one", "_law_other"] (sp_led K) := by
  have G__law_whole := ok__law_whole (P := P) (w := w) (base := base) T
  refine T.F__law_led.ok sc__law_led (fun vs H Q E h => ?_) (fun cdv A outer s H vs Q E hr h => ?_)
  · obtain ⟨f, l, n, one, other, xs, rs, ts, rfl, _⟩ := h
    rfl
  · obtain ⟨f, l, n, one, other, xs, rs, ts, rfl, hf, tz, TL, hz, hzt, n24, R, g0, h1, k⟩ := h
    obtain ⟨ys, hl, tl⟩ := TL
    refine ⟨_, (pss_cons (ps_setLc (i := 5) (own := [("_law_place", 6)]) (g := (gName 6)) (tt := tYes) rfl sc__law_led.nd rfl rfl (sw_true rfl rfl rfl (by decide +kernel)) (pi_range1 (by rfl) T.n_range (pa_cons (pv 2) pa_nil)) (blkOk_by (own := [("_law_place", 6)]) (N := ["_law_rows", "_law_ties_here", "_law_many_here", "_law_one", "_law_other", "_law_gone", "_law_place", "_law_seen", "_law_row", "_law_pair", "_law_room", "_law_tie_here"]) (sc := defScope s__law_led) (by decide +kernel)) (fun _ _ _ _ _ => (pg_name (i := 6) sc__law_led.nd rfl (Or.inl rfl))) (fun _ _ _ _ _ => pts_nil) (fun _ _ _ _ _ => pe_int)) (pss_cons (ps_set (i := 7) sc__law_led.nd rfl (Or.inl rfl) pe_dnewT) (pss_cons (ps_for PassesOwn.never rfl (pi_list (pv 0)) (pg_name (i := 8) sc__law_led.nd rfl (Or.inl rfl)) (pss_cons (ps_if (PW.pt (pw_or (pt_not (pt_val (pe_callB call_isi (by rfl) T.n_isinstance (by decide +kernel) (pa_cons (pv 8) (pa_cons (pe_bltn (v := .ty "tuple") (by rfl) T.n_tuple (by decide +kernel) rfl) pa_nil))))) (pw_or (pt_cmpR op_ne (pe_callB call_len_seq (by rfl) T.n_len (by decide +kernel) (pa_cons (pv 8) pa_nil)) pe_int (nomark _)) (pw_or (pt_not (pt_val (pe_call G__law_whole (hr.mono (by decide)) (by rfl) T.m__law_whole T.F__law_whole.kp T.b__law_whole .nil pass0 (pa_cons (pe_ix ix_tup (pv 8) pe_int (fun _ _ => rfl)) pa_nil)))) (pw_or1 (pt_cmpR op_lt (pe_ix ix_tup (pv 8) pe_int (fun _ _ => rfl)) pe_int (nomark _))))))) (pss_one (ps_ret (pe_un un_neg pe_int))) pss_nil) (pss_cons (ps_if (PW.pt (pw_or (pt_cmpR G.op_notinR (pe_ix ix_tup (pv 8) pe_int (fun _ _ => rfl)) (pe_callTy G.cr_range1 (by rfl) T.n_range (by decide +kernel) (pa_cons (pv 2) pa_nil)) (by rfl)) (pw_or (pt_cmpR G.op_notinR (pe_ix ix_tup (pv 8) pe_int (fun _ _ => rfl)) (pe_callTy G.cr_range1 (by rfl) T.n_range (by decide +kernel) (pa_cons (pv 2) pa_nil)) (by rfl)) (pw_or1 (pt_cmpR op_eq (pe_ix ix_tup (pv 8) pe_int (fun _ _ => rfl)) (pe_ix ix_tup (pv 8) pe_int (fun _ _ => rfl)) (nomark _)))))) (pss_one (ps_ret (pe_un un_neg pe_int))) pss_nil) (pss_cons (ps_set (i := 9) sc__law_led.nd rfl (Or.inr rfl) (pe_tup (pa_cons (pe_callB (call_min2 rfl) (by rfl) T.n_min (by decide +kernel) (pa_cons (pe_ix ix_tup (pv 8) pe_int (fun _ _ => rfl)) (pa_cons (pe_ix ix_tup (pv 8) pe_int (fun _ _ => rfl)) pa_nil))) (pa_cons (pe_callB (call_max2 rfl) (by rfl) T.n_max (by decide +kernel) (pa_cons (pe_ix ix_tup (pv 8) pe_int (fun _ _ => rfl)) (pa_cons (pe_ix ix_tup (pv 8) pe_int (fun _ _ => rfl)) pa_nil))) pa_nil)))) (pss_cons (ps_set (i := 10) sc__law_led.nd rfl (Or.inl rfl) (pe_callB (cr_sum rfl) (by rfl) T.n_sum (by decide +kernel) (pa_cons (pe_lc (own := [("_law_tie_here", 11)]) (g := (gName 11)) rfl sc__law_led.nd (pi_list (pv 1)) (blkOk_by (own := [("_law_tie_here", 11)]) (N := ["_law_rows", "_law_ties_here", "_law_many_here", "_law_one", "_law_other", "_law_gone", "_law_place", "_law_seen", "_law_row", "_law_pair", "_law_room", "_law_tie_here"]) (sc := defScope s__law_led) (by decide +kernel)) (fun _ _ _ _ _ => (pg_name (i := 11) sc__law_led.nd rfl (Or.inl rfl))) (fun _ _ _ _ _ => (pts_one (pt_cmpR (G.kn_eqD (K := K) rfl hr.units) (pe_tup (pa_cons (pe_callB (call_min2 rfl) (by rfl) T.n_min (by decide +kernel) (pa_cons (pe_ix (show IxR _ (rIxT K) from ix_tup) (pv 11) pe_int (fun _ _ => rfl)) (pa_cons (pe_ix (show IxR _ (rIxT K) from ix_tup) (pv 11) pe_int (fun _ _ => rfl)) pa_nil))) (pa_cons (pe_callB (call_max2 rfl) (by rfl) T.n_max (by decide +kernel) (pa_cons (pe_ix (show IxR _ (rIxT K) from ix_tup) (pv 11) pe_int (fun _ _ => rfl)) (pa_cons (pe_ix (show IxR _ (rIxT K) from ix_tup) (pv 11) pe_int (fun _ _ => rfl)) pa_nil))) pa_nil))) (pv 9) (nomark _)))) (fun _ _ _ _ _ => (pe_ix (show IxR _ (rIxT K) from ix_tup) (pv 11) pe_int (fun _ _ => rfl)))) pa_nil))) (pss_cons (ps_if (PW.pt (pw_or (pt_cmp (pc_din (G.u1 hr) (pv 9) (pv 7))) (pw_or1 (pt_cmpR op_gt (pe_ix ix_tup (pv 8) pe_int (fun _ _ => rfl)) (pv 10) (nomark _))))) (pss_one (ps_ret (pe_un un_neg pe_int))) pss_nil) (pss_cons (ps_dput (G.u1 hr) (pv 7) (pv 9) pe_bl rfl) (pss_cons (ps_asg (pe_op op_add (pe_ix ix_list (pv 5) (pe_ix ix_tup (pv 8) pe_int (fun _ _ => rfl)) (fun _ _ => rfl)) (pe_ix ix_tup (pv 8) pe_int (fun _ _ => rfl))) (pg_sub (pv 5) (pe_ix ix_tup (pv 8) pe_int (fun _ _ => rfl)) set_list)) (pss_one (ps_asg (pe_op op_sub (pe_ix ix_list (pv 5) (pe_ix ix_tup (pv 8) pe_int (fun _ _ => rfl)) (fun _ _ => rfl)) (pe_ix ix_tup (pv 8) pe_int (fun _ _ => rfl))) (pg_sub (pv 5) (pe_ix ix_tup (pv 8) pe_int (fun _ _ => rfl)) set_list))))))))))) (pss_cons (ps_for PassesOwn.never rfl (pi_range1 (by rfl) T.n_range (pa_cons (pv 2) pa_nil)) (pg_name (i := 6) sc__law_led.nd rfl (Or.inl rfl)) (pss_one (ps_if (PW.pt (pw_and (pt_cmpR op_ne (pv 6) (pv 3) (nomark _)) (pw_and (pt_cmpR op_ne (pv 6) (pv 4) (nomark _)) (pw_and1 (pt_cmpR op_ne (pe_ix ix_list (pv 5) (pv 6) (fun _ _ => rfl)) pe_int (nomark _)))))) (pss_one (ps_ret (pe_un un_neg pe_int))) pss_nil))) (pss_one (ps_ret (pe_ix ix_list (pv 5) (pv 3) (fun _ _ => rfl)))))))), ?_⟩
    refine p_asgL (Ex.refl H) (el_is (el_lcR1 (n := (n : Int)) (fun _ => true) (fun _ => .int 0) (ea_cons (ev_var rfl) ea_nil) (by omega) (fun _ => rfl) (fun j H3 e3 hj => et_yes) (fun j H3 e3 hj _ => ev_c)) (ys := lstOf n fun p => .int (goneOf (rs.take 0) p)) (by unfold given; rw [filter_yes]; rfl)) fun g H1 hg e1 _ hg1 => ?_
    refine p_asgR e1 er_newT fun v H2 e2 e12 r => ?_
    obtain ⟨d, rfl, hd, hd2⟩ := r
    have ngd : g ≠ d := ne_of_none hg1 hd
    have hd0 : H d = none := fresh_back e1 hd
    refine q_forLn (xs := xs) ((ev_var rfl : Ev _ _ H (.ref f)).mono e2) (ex_l e2 hf) (fun i σ' H' => ∃ (kvs : List (List Key × V)) (u8 u9 u10 : Option V), σ' = [some (.ref f), some (.ref l), some (.int n), some (.int one), some (.int other), some (.ref g), none, some (.ref d), u8, u9, u10, none] ∧ Ex H H' ∧ H' g = some (.lst (lstOf n fun p => .int (goneOf (rs.take i) p))) ∧ H' d = some (.dT kvs) ∧ kvs.length ≤ i ∧ ∀ k, (valV kvs k).isSome = true → ∃ s ∈ rs.take i, k = keyT s) (fun H3 e3 => ⟨[], _, _, _, rfl, e2.trans e3, e3 _ _ (e12 _ _ hg1), e3 _ _ hd2, Nat.le_refl _, fun k hk => by cases hk⟩) (fun i σ' H' _ p => by
      obtain ⟨_, _, _, _, _, e, _⟩ := p
      exact ex_l e hf) ?_ ?_
    · rintro i x σ' H' hx ⟨kvs, u8, u9, u10, rfl, e, g', d', kl, kk⟩
      obtain ⟨r, a, hr, rfl, ha⟩ := tz.get hx
      have hm := List.mem_of_getElem? hr
      have hil := (List.getElem?_eq_some_iff.mp hr).1
      obtain ⟨l1, l2⟩ := R.lt r hm
      have hne := R.ne r hm
      have lo := R.lo r hm
      have hi := R.hi r hm
      have ha1 := ex_t e ha
      refine p_no (Ex.refl H') (et_is (et_or (a := false) (et_is (et_not (et_B (ev_isiT (b := true) (ev_var rfl) ha1 (by decide +kernel)))) rfl) (fun _ => et_or (a := false) (et_is (et_test (ev_op (ev_lenS (ev_var rfl) (.inr ha1)) ev_c (rv_ne rfl))) rfl) (fun _ => et_or (a := false) (et_is (et_not (et_B (ev_call (ea_cons (ev_t2 (ev_var rfl) ha1) ea_nil) sv_whole))) rfl) (fun _ => et_test (ev_op (ev_t2 (ev_var rfl) ha1) ev_c rv_I0))))) (by simp; omega)) fun H3 e3 _ => ?_
      have ha3 := ex_t e3 ha1
      refine p_no (Ex.refl H3) (et_is (et_or (a := false) (et_is (et_test (ev_ninR (ev_t0 (ev_var rfl) ha3) (ev_var rfl))) (by rw [decide_eq_true (by omega : (0 : Int) ≤ (r.1 : Int) ∧ (r.1 : Int) < (n : Int))]; rfl)) (fun _ => et_or (a := false) (et_is (et_test (ev_ninR (ev_t1 (ev_var rfl) ha3) (ev_var rfl))) (by rw [decide_eq_true (by omega : (0 : Int) ≤ (r.2.1 : Int) ∧ (r.2.1 : Int) < (n : Int))]; rfl)) (fun _ => et_test (ev_op (ev_t0 (ev_var rfl) ha3) (ev_t1 (ev_var rfl) ha3) (rv_eq rfl))))) (by simp; omega)) fun H4 e4 _ => ?_
      have ha4 := ex_t e4 ha3
      refine q_asgU (xs := (keyT r).map kV) (eu_is (eu_tup (ea_cons (ev_min2 (ev_t0 (ev_var rfl) ha4) (ev_t1 (ev_var rfl) ha4)) (ea_cons (ev_max2 (ev_t0 (ev_var rfl) ha4) (ev_t1 (ev_var rfl) ha4)) ea_nil)) (Nat.le_of_ble_eq_true rfl)) (by rw [min_is, max_is]; rfl)) fun pr H5 hpr e5 hpr5 => ?_
      have eH5 : Ex H H5 := ((e.trans e3).trans e4).trans e5
      have ha5 := ex_t e5 ha4
      refine p_asg (Ex.refl H5) (ev_rowsum (p := 1) (j := 11) (f := fun t => decide (keyI t = keyI r)) rfl (ex_l eH5 hl) (tl.ex eH5) (by omega) (fun _ => rfl) (fun _ => rfl) (fun t b H6 e6 hb => et_is (et_test (ev_is (ev_opU1 (z := .bl (PyData.eqv (.tuple (pds (keyI t))) (.tuple (pds (keyI r))))) (eu_is (eu_tup (ea_cons (ev_min2 (ev_t0 (ev_var rfl) hb) (ev_t1 (ev_var rfl) hb)) (ea_cons (ev_max2 (ev_t0 (ev_var rfl) hb) (ev_t1 (ev_var rfl) hb)) ea_nil)) (Nat.le_of_ble_eq_true rfl)) (ys := (keyI t).map V.int) (by rw [min_is, max_is]; rfl)) (fun H7 e7 => ev_var rfl) (fun p H7 hp e7 => rv_eqD (.tup (st_of hp) (dp_ints _)) (.tup (st_of (e7 _ _ (e6 _ _ hpr5))) (by rw [keyT_v]; exact dp_ints _)) (sh_intsT _) (sh_intsT _))) (by rw [eqv_intsT]))) rfl)) fun H6 e6 _ => ?_
      rw [room_is]
      have ha6 := ex_t e6 ha5
      have d6 : H6 d = some (.dT kvs) := e6 _ _ (e5 _ _ (e4 _ _ (e3 _ _ d')))
      have fr := R.fresh hr
      have nv : valV kvs (keyT r) = none := by
        cases z : valV kvs (keyT r) with
        | none => rfl
        | some v =>
          obtain ⟨s, hs, es⟩ := kk (keyT r) (by rw [z]; rfl)
          exact absurd es (fr s hs)
      refine p_no (Ex.refl H6) (et_is (et_or (a := false) (et_is (et_test (ev_dinT (k := keyT r) (ev_var rfl) (ev_var rfl) d6 (e6 _ _ hpr5))) (by rw [nv]; rfl)) (fun _ => et_test (ev_op (ev_t2 (ev_var rfl) ha6) (ev_var rfl) rv_I0))) (by simp; omega)) fun H7 e7 _ => ?_
      have ha7 := ex_t e7 ha6
      refine q_dputT (k := keyT r) (e7 _ _ d6) (e7 _ _ (e6 _ _ hpr5)) (by omega) ev_c (ev_var rfl) (ev_var rfl) fun H8 e8 => ?_
      have g8 : upd H8 d (.dT (putK kvs (keyT r) (.bl true))) g = some (.lst (lstOf n fun p => .int (goneOf (rs.take i) p))) := by
        rw [upd_ne ngd]
        exact e8 _ _ (e7 _ _ (e6 _ _ (e5 _ _ (e4 _ _ (e3 _ _ g')))))
      have d8 : upd H8 d (.dT (putK kvs (keyT r) (.bl true))) d = some (.dT (putK kvs (keyT r) (.bl true))) := upd_same
      have eB : Ex H (upd H8 d (.dT (putK kvs (keyT r) (.bl true)))) := Ex.mut (((eH5.trans e6).trans e7).trans e8) hd0
      generalize upd H8 d (.dT (putK kvs (keyT r) (.bl true))) = B at g8 d8 eB ⊢
      have haB := ex_t eB ha
      refine q_setL g8 (ev_op (ev_op (ev_var rfl) (ev_t0 (ev_var rfl) haB) (rv_ixL (sq_of g8) (lstOf_at l1))) (ev_t2 (ev_var rfl) haB) rv_I0) (ev_var rfl) (ev_t0 (ev_var rfl) haB) (by rw [lstOf_len]; exact l1) fun H9 e9 => ?_
      rw [lstOf_set]
      have g9 : upd H9 g (.lst (lstOf n fun k => if k = r.1 then .int (goneOf (rs.take i) r.1 + r.2.2) else .int (goneOf (rs.take i) k))) g = some (.lst (lstOf n fun k => if k = r.1 then .int (goneOf (rs.take i) r.1 + r.2.2) else .int (goneOf (rs.take i) k))) := upd_same
      have d9 : upd H9 g (.lst (lstOf n fun k => if k = r.1 then .int (goneOf (rs.take i) r.1 + r.2.2) else .int (goneOf (rs.take i) k))) d = some (.dT (putK kvs (keyT r) (.bl true))) := by rw [upd_ne ngd.symm]; exact e9 _ _ d8
      have eC : Ex H (upd H9 g (.lst (lstOf n fun k => if k = r.1 then .int (goneOf (rs.take i) r.1 + r.2.2) else .int (goneOf (rs.take i) k)))) := Ex.mut (eB.trans e9) hg
      generalize upd H9 g (.lst (lstOf n fun k => if k = r.1 then .int (goneOf (rs.take i) r.1 + r.2.2) else .int (goneOf (rs.take i) k))) = C at g9 d9 eC ⊢
      have haC := ex_t eC ha
      refine s_setL (v := .int (goneOf (rs.take i) r.2.1 - r.2.2)) g9 (ev_op (ev_op (ev_var rfl) (ev_t1 (ev_var rfl) haC) (rv_ixL (v := .int (goneOf (rs.take i) r.2.1)) (sq_of g9) (by rw [lstOf_at l2, if_neg hne.symm]))) (ev_t2 (ev_var rfl) haC) rv_I0) (ev_var rfl) (ev_t1 (ev_var rfl) haC) (by rw [lstOf_len]; exact l2) fun H10 e10 => ?_
      refine ⟨_, _, _, _, rfl, Ex.mut (eC.trans e10) hg, ?_, by rw [upd_ne ngd.symm]; exact e10 _ _ d9, ?_, fun k hk => ?_⟩
      · rw [upd_same, lstOf_set]
        congr 2
        refine lstOf_congr fun k _ => ?_
        rw [gone_snoc hr]
        by_cases c1 : k = r.2.1
        · rw [if_pos c1, if_neg (by omega : ¬ r.1 = k), if_pos c1.symm, c1]
          congr 1
          omega
        · by_cases c2 : k = r.1
          · rw [if_neg c1, if_pos c2, if_pos c2.symm, if_neg (fun z => c1 z.symm), c2]
            congr 1
            omega
          · rw [if_neg c1, if_neg c2, if_neg (fun z => c2 z.symm), if_neg (fun z => c1 z.symm)]
            congr 1
            omega
      · rw [putK_new _ nv, List.length_append]
        show kvs.length + 1 ≤ i + 1
        omega
      · rw [valV_put] at hk
        rw [take_snoc hr]
        by_cases c : k = keyT r
        · exact ⟨r, List.mem_append_right _ (List.mem_singleton.mpr rfl), c⟩
        · rw [if_neg c] at hk
          obtain ⟨s, hs, es⟩ := kk k hk
          exact ⟨s, List.mem_append_left _ hs, es⟩
    · rintro σ' H' ⟨kvs, u8, u9, u10, rfl, e, g', d', kl, kk⟩
      rw [tz.len, List.take_length] at g'
      refine q_forR1 (n := (n : Int)) (ea_cons (ev_var rfl) ea_nil) (by omega) (fun i σ2 H2 => ∃ u6, σ2 = [some (.ref f), some (.ref l), some (.int n), some (.int one), some (.int other), some (.ref g), u6, some (.ref d), u8, u9, u10, none] ∧ Ex H' H2) (fun H3 e3 => ⟨_, rfl, e3⟩) ?_ ?_
      · rintro i σ2 H2 hi ⟨u6, rfl, e2⟩
        have hin : i < n := by omega
        refine p_noE (Ex.refl H2) (et_is (et_and (et_test (ev_op (ev_var rfl) (ev_var rfl) (rv_ne rfl))) (fun h1 => et_is (et_and (et_test (ev_op (ev_var rfl) (ev_var rfl) (rv_ne rfl))) (fun h2 => et_test (ev_is (ev_op (ev_op (ev_var rfl) (ev_var rfl) (rv_ixL (sq_of (e2 _ _ g')) (lstOf_at hin))) ev_c (rv_ne rfl)) (w := .bl false) (by
          have g := g0 i hin (fun z => by subst z; simp at h1) (fun z => by subst z; simp at h2)
          rw [g]
          rfl)))) (Bool.and_false _))) (Bool.and_false _)) fun H8 e8 _ => ⟨_, rfl, e2.trans e8⟩
      · rintro σ2 H2 ⟨u6, rfl, e2⟩
        exact p_ret (Ex.refl H2) (ev_op (ev_var rfl) (ev_var rfl) (rv_ixL (sq_of (e2 _ _ g')) (lstOf_at h1))) fun H3 e3 => k H3 ((e.trans e2).trans e3)
/-- f(flow(..), ..) -/
theorem sv_led {f l : Addr} {n one other : Nat} {xs : List V} {ts : List Tie} {H : Hp} (good : ∀ t ∈ ts, Good n t) (hf : SqL K H f xs) (tz : TiesV K H xs (flowN ts n one other)) (TL : TiesL K H l ts) (hzt : ts.length ≤ 1000) (n24 : n ≤ 24) (h1 : one < n) (hn : one ≠ other) : SpV (sp_led K) [.ref f, .ref l, .int n, .int one, .int other] H (.int (mostN (costM ts) n one other)) := fun H1 e Q q E => by
  have cn := costM_nonneg good
  have F := (ff_ok (n := n) (C := costM ts) cn hn h1).1
  have zl : (flowN ts n one other).length ≤ 1000 := Nat.le_trans (rowsTo_len n) (Nat.le_trans (Nat.mul_le_mul n24 n24) (by decide))
  refine ⟨f, l, n, one, other, xs, _, ts, rfl, ex_l e hf, tz.ex e, TL.ex e, zl, hzt, n24, rows_right F, fun p hp a b => gone_else F hp a b, h1, ?_⟩
  have g1 : goneOf (flowN ts n one other) one = mostN (costM ts) n one other := gone_one F h1
  rw [g1]
  exact q
end
end Toy

namespace N
open G
/-! ### what is left with a place where one bough is taken out -/
theorem up_closed {n : Nat} {u : Nat → Nat} {r : Nat} {F : Nat → Prop} (hu : ∀ k, u k < n) (hF : ∀ k, k ≠ 0 → k < n → k ≠ r → (F k ↔ F (u k))) {k : Nat} (up : Up u k) : k < n → (Dn u r k → (F k ↔ F r)) ∧ (¬ Dn u r k → (F k ↔ F 0)) := by
  induction up with
  | zero =>
    intro h
    refine ⟨fun d => ?_, fun _ => Iff.rfl⟩
    rcases (dn_iff Up.zero).mp d with e | ⟨e, _⟩
    · rw [e]
    · exact absurd rfl e
  | @step k h0 g ih =>
    intro h
    have ih := ih (hu k)
    have di := dn_iff (r := r) (Up.step h0 g)
    by_cases e : k = r
    · refine ⟨fun _ => by rw [e], fun nd => absurd (di.mpr (.inl e)) nd⟩
    · refine ⟨fun d => ?_, fun nd => ?_⟩
      · rcases di.mp d with z | ⟨_, z⟩
        · exact absurd z e
        · exact (hF k h0 h e).trans (ih.1 z)
      · exact (hF k h0 h e).trans (ih.2 fun z => nd (di.mpr (.inr ⟨h0, z⟩)))
/-- on the one place's side of the bough of r -/
def sideB (n : Nat) (u : Nat → Nat) (r one : Nat) : Nat → Bool := fun k => decide (r ∈ chain n u k) == decide (r ∈ chain n u one)
theorem sideB_one {n : Nat} {u : Nat → Nat} {r one : Nat} : sideB n u r one one = true := by unfold sideB; exact beq_self_eq_true _
theorem sideB_up {n : Nat} {u : Nat → Nat} {r one : Nat} (up : ∀ k, Up u k) (hu : ∀ k, u k < n) {k : Nat} (h0 : k ≠ 0) (hk : k < n) (hr : k ≠ r) : sideB n u r one k = sideB n u r one (u k) := by
  have e : decide (r ∈ chain n u k) = decide (r ∈ chain n u (u k)) := decide_eq_decide.mpr (by
    rw [← dn_chain (up k) hu hk, ← dn_chain (up (u k)) hu (hu k), dn_iff (up k)]
    exact ⟨fun z => z.elim (fun z => absurd z hr) fun z => z.2, fun z => .inr ⟨h0, z⟩⟩)
  unfold sideB
  rw [e]
theorem side_conn {n : Nat} {u : Nat → Nat} {r one : Nat} {F : Nat → Prop} (up : ∀ k, Up u k) (hu : ∀ k, u k < n) (h1 : one < n) (hF : ∀ k, k ≠ 0 → k < n → k ≠ r → (F k ↔ F (u k))) (f1 : F one) {y : Nat} (hy : y < n) (h : sideB n u r one y = true) : F y := by
  have a := up_closed hu hF (up one) h1
  have b := up_closed hu hF (up y) hy
  unfold sideB at h
  have h := decide_eq_decide.mp (eq_of_beq h)
  rw [← dn_chain (up y) hu hy, ← dn_chain (up one) hu h1] at h
  by_cases d : Dn u r one
  · exact (b.1 (h.mpr d)).mpr ((a.1 d).mp f1)
  · exact (b.2 fun z => d (h.mp z)).mpr ((a.2 d).mp f1)
/-! ### the road is one -/
theorem sfx {α : Type} : ∀ {x x' q q' : List α}, x ++ q = x' ++ q' → q.length < q'.length → ∃ t, t ≠ [] ∧ x = x' ++ t ∧ q' = t ++ q
  | [], x', q, q', e, h => by
    have := congrArg List.length e
    simp at this
    omega
  | a :: x, [], q, q', e, h => ⟨a :: x, by simp, rfl, e.symm⟩
  | a :: x, b :: x', q, q', e, h => by
    injection e with e1 e2
    obtain ⟨t, h1, h2, h3⟩ := sfx e2 h
    exact ⟨t, h1, by rw [e1, h2]; rfl, h3⟩
theorem sfx_eq {α : Type} {x x' q q' : List α} (e : x ++ q = x' ++ q') (h : q.length = q'.length) : x = x' ∧ q = q' := List.append_inj e (by
  have := congrArg List.length e
  simp at this
  omega)
theorem road_not_lt {n : Nat} {u : Nat → Nat} {one other : Nat} {x y s x' y' s' : List Nat} {m m' : Nat} (e1 : chain n u one = x ++ m :: s) (e2 : chain n u other = y ++ m :: s) (hm : x = [] ∨ y = [] ∨ x.getLast? ≠ y.getLast?) (f1 : chain n u one = x' ++ m' :: s') (f2 : chain n u other = y' ++ m' :: s') : ¬ s.length < s'.length := fun h => by
  obtain ⟨t, t0, a1, a2⟩ := sfx (e1.symm.trans f1) (by simp; omega)
  obtain ⟨t2, _, b1, b2⟩ := sfx (e2.symm.trans f2) (by simp; omega)
  have et : t = t2 := (List.append_left_inj (m :: s)).mp (a2.symm.trans b2)
  subst et
  rcases hm with z | z | z
  · rw [z] at a1
    exact t0 (List.append_eq_nil_iff.mp a1.symm).2
  · rw [z] at b1
    exact t0 (List.append_eq_nil_iff.mp b1.symm).2
  · rw [a1, b1, last_app (z := 0) _ _ t0, last_app (z := 0) _ _ t0] at z
    exact z rfl
theorem road_one {n : Nat} {u : Nat → Nat} {one other : Nat} {ws ws' : List Nat} (h : RoadOk n u one other ws) (h' : RoadOk n u one other ws') : ws = ws' := by
  obtain ⟨x, m, y, s, e1, e2, hm, rfl⟩ := h
  obtain ⟨x', m', y', s', f1, f2, hm', rfl⟩ := h'
  have l : s.length = s'.length := by
    have a := road_not_lt e1 e2 hm f1 f2
    have b := road_not_lt f1 f2 hm' e1 e2
    omega
  obtain ⟨ex, eq⟩ := sfx_eq (e1.symm.trans f1) (by simp [l])
  obtain ⟨ey, _⟩ := sfx_eq (e2.symm.trans f2) (by simp [l])
  injection eq with em _
  rw [ex, ey, em]
end N
namespace N
open G
theorem UpL.mid {u : Nat → Nat} {k : Nat} {ps : List Nat} (h : UpL u k ps) : ∀ (x : List Nat) (m : Nat) (s : List Nat), ps = x ++ m :: s → m ≠ 0 → u m ∈ s := by
  induction h with
  | zero =>
    intro x m s e m0
    cases x with
    | nil =>
      injection e with e1 _
      exact absurd e1.symm m0
    | cons a r => simp at e
  | @step k ps h0 g ih =>
    intro x m s e m0
    cases x with
    | nil =>
      injection e with e1 e2
      subst e1
      subst e2
      obtain ⟨q, rfl⟩ := g.head
      exact List.mem_cons_self
    | cons a r =>
      injection e with e1 e2
      exact ih r m s e2 m0
/-- a bough of the road parts its ends -/
theorem road_parts {n : Nat} {u : Nat → Nat} {one other c : Nat} {ws : List Nat} (rd : RoadOk n u one other ws) (up : ∀ k, Up u k) (hu : ∀ k, u k < n) (h1 : one < n) (h2 : other < n) (hc : c ∈ ws) (hd : u c ∈ ws) (c0 : c ≠ 0) : (c ∈ chain n u one ↔ ¬ c ∈ chain n u other) := by
  obtain ⟨_, _, nd, _, _⟩ := rd.facts hu up h1 h2
  obtain ⟨x, m, y, s, e1, e2, hm, rfl⟩ := rd
  have c1 := chain_ok (up one) hu h1
  have c2 := chain_ok (up other) hu h2
  have n1 := c1.nodup
  have n2 := c2.nodup
  rw [e1] at n1 c1
  rw [e2] at n2 c2
  rw [e1, e2]
  rw [List.nodup_append] at n1 n2 nd
  have hx : ∀ z, z ∈ x → z ∈ m :: s → False := fun z a b => n1.2.2 z a z b rfl
  have hy : ∀ z, z ∈ y → z ∈ m :: s → False := fun z a b => n2.2.2 z a z b rfl
  have hxy : ∀ z, z ∈ x → z ∈ y → False := fun z a b => nd.2.2 z a z (List.mem_cons_of_mem _ (List.mem_reverse.mpr b)) rfl
  rcases List.mem_append.mp hc with a | a
  · refine ⟨fun _ z => ?_, fun _ => List.mem_append_left _ a⟩
    rcases List.mem_append.mp z with z | z
    · exact hxy c a z
    · exact hx c a z
  rcases List.mem_cons.mp a with rfl | a
  · have us := c1.mid x c s rfl c0
    exfalso
    rcases List.mem_append.mp hd with b | b
    · exact hx _ b (List.mem_cons_of_mem _ us)
    rcases List.mem_cons.mp b with b | b
    · rw [b] at us
      exact (List.nodup_cons.mp n1.2.1).1 us
    · exact hy _ (List.mem_reverse.mp b) (List.mem_cons_of_mem _ us)
  · have a := List.mem_reverse.mp a
    refine ⟨fun z => ?_, fun z => absurd (List.mem_append_left _ a) z⟩
    rcases List.mem_append.mp z with z | z
    · exact absurd a fun q => hxy c z q
    · exact absurd z fun q => hy c a q
/-- where two ends are parted, two neighbours are -/
theorem step_parted {w : Nat → Bool} : ∀ (ws : List Nat) (a b : Nat), ws[0]? = some a → ws.getLast? = some b → w a = true → w b = false → ∃ j x y, ws[j]? = some x ∧ ws[j + 1]? = some y ∧ w x ≠ w y
  | [], _, _, h, _, _, _ => by cases h
  | [x], a, b, h, g, wa, wb => by
    cases h
    have e : x = b := Option.some.inj g
    rw [← e, wa] at wb
    cases wb
  | x :: y :: r, a, b, h, g, wa, wb => by
    cases h
    by_cases c : w x = w y
    · obtain ⟨j, p, q, h1, h2, h3⟩ := step_parted (y :: r) y b rfl g (by rw [← c]; exact wa) wb
      exact ⟨j + 1, p, q, h1, h2, h3⟩
    · exact ⟨0, x, y, rfl, rfl, c⟩
theorem cut_sideB {n : Nat} {ts : List Tie} {r one : Nat} (good : ∀ t ∈ ts, Good n t) (h1 : 1 ≤ n) (r0 : r ≠ 0) (hr : r < n) : cut (costM ts) n (sideB n (uN (costM ts) n) r one) = pN (costM ts) n r := by
  have g := uN_ok (C := costM ts) (n := n) (costM_nonneg good) h1
  have hu : ∀ k, uN (costM ts) n k < n := fun k => by have := g.le k; omega
  have w := (uN_walled (C := costM ts) (n := n) (costM_nonneg good) (costM_comm ts) h1 r r0 (by omega)).2
  have e : cut (costM ts) n (fun k => decide (r ∈ chain n (uN (costM ts) n) k)) = pN (costM ts) n r := by
    rw [w, cut_below g.up hu]
    exact cut_congr fun k hk => decide_eq_decide.mpr ⟨fun z => mem_belowN.mpr ⟨hk, z⟩, fun z => (mem_belowN.mp z).2⟩
  by_cases c : r ∈ chain n (uN (costM ts) n) one
  · rw [← e]
    refine cut_congr fun k _ => ?_
    unfold sideB
    rw [decide_eq_true c]
    cases decide (r ∈ chain n (uN (costM ts) n) k) <;> rfl
  · rw [← e, ← cut_not (costM_comm ts)]
    refine cut_congr fun k _ => ?_
    unfold sideB
    rw [decide_eq_false c]
    cases decide (r ∈ chain n (uN (costM ts) n) k) <;> rfl
end N
namespace G
open PySem PySem.Spec PyProof.Rows L2 Evl RZ N LamX
theorem Tabs.upd {T : List (Addr × Str)} {H : Hp} {l : Addr} {xs ys : List V} (h : Tabs T H) (hl : H l = some (.lst xs)) : Tabs T (upd H l (.lst ys)) := fun p hp => by
  obtain ⟨ps, h1, h2, h3⟩ := h p hp
  refine ⟨ps, by rw [upd_ne (fun z => by rw [z, hl] at h1; cases h1)]; exact h1, h2, fun pos cv hc => ?_⟩
  obtain ⟨c, e, g⟩ := h3 pos cv hc
  exact ⟨c, e, by rw [upd_ne (fun z => by rw [z, hl] at g; cases g)]; exact g⟩
theorem compConst {Pv : Nat → V → Prop} : CompR (fun i _ v _ => Pv i v) (fun _ i v _ => Pv i v) := ⟨fun _ _ _ _ _ _ _ _ _ r => r, fun _ _ _ _ _ _ _ _ _ _ r => r⟩
end G
namespace Toy
open PySem L2 TL Evl RZ G N
open LamX hiding takes0
section
variable {P : Program} {w : World} {K : PySem.W.Frag} {mg : Str → Option Value} {base : Heap}
theorem no_turn {u : Nat → Nat} {a b : Nat} (up : ∀ k, Up u k) (ha : a ≠ 0) (hb : b ≠ 0) (h : u a = b) (g : u b = a) : False := by
  have d1 := dn_up (up a) ha
  have d2 := dn_up (up b) hb
  rw [h] at d1
  rw [g] at d2
  have e := dn_anti d1 d2
  exact (up a).ne ha (h.trans e)
theorem sideN_eq {n : Nat} {u : Nat → Nat} {r one : Nat} (h1 : one < n) : sideN n u r one = (List.range n).filter (sideB n u r one) := by
  unfold sideN sideB
  by_cases c : one ∈ belowN n u r
  · rw [if_pos c]
    have c2 := (mem_belowN.mp c).2
    unfold belowN
    refine List.filter_congr fun k _ => ?_
    rw [decide_eq_true c2]
    cases decide (r ∈ chain n u k) <;> rfl
  · rw [if_neg c]
    have c2 : r ∉ chain n u one := fun z => c (mem_belowN.mpr ⟨h1, z⟩)
    refine List.filter_congr fun k hk => ?_
    rw [decide_eq_false c2]
    have : decide (k ∈ belowN n u r) = decide (r ∈ chain n u k) := decide_eq_decide.mpr ⟨fun z => (mem_belowN.mp z).2, fun z => mem_belowN.mpr ⟨List.mem_range.mp hk, z⟩⟩
    rw [this]
    cases decide (r ∈ chain n u k) <;> rfl
section
variable {n : Nat} {ts : List Tie} {one other r : Nat} (good : ∀ t ∈ ts, Good n t) (n1 : 1 ≤ n) (h1 : one < n) (h2 : other < n) (hn : one ≠ other) (h : BestOn n (uN (costM ts) n) (pN (costM ts) n) one other r)
include good n1 h1 h2 hn h
theorem best_sides : r ≠ 0 ∧ r < n ∧ (r ∈ chain n (uN (costM ts) n) one ↔ ¬ r ∈ chain n (uN (costM ts) n) other) := by
  have g := uN_ok (C := costM ts) (n := n) (costM_nonneg good) n1
  have hu : ∀ k, uN (costM ts) n k < n := fun k => by have := g.le k; omega
  obtain ⟨ws, rs, i, rd, hl, hr, hi, _⟩ := h
  obtain ⟨r0, rn, a, b, ha, hb, lw⟩ := hr i r hi
  have ma := List.mem_of_getElem? ha
  have mb := List.mem_of_getElem? hb
  refine ⟨r0, rn, ?_⟩
  rcases lw with ⟨rfl, e⟩ | ⟨rfl, e⟩
  · exact road_parts rd g.up hu h1 h2 ma (by rw [e]; exact mb) r0
  · exact road_parts rd g.up hu h1 h2 mb (by rw [e]; exact ma) r0
theorem best_other : sideB n (uN (costM ts) n) r one other = false := by
  obtain ⟨_, _, z⟩ := best_sides good n1 h1 h2 hn h
  unfold sideB
  by_cases c : r ∈ chain n (uN (costM ts) n) one
  · rw [decide_eq_true c, decide_eq_false (z.mp c)]
    rfl
  · rw [decide_eq_false c, decide_eq_true (Classical.byContradiction fun q => c (z.mpr q))]
    rfl
theorem best_most : pN (costM ts) n r = mostN (costM ts) n one other := by
  obtain ⟨r0, rn, _⟩ := best_sides good n1 h1 h2 hn h
  have hc := costM_nonneg good
  refine Int.le_antisymm ?_ ?_
  · have g := uN_ok (C := costM ts) (n := n) hc n1
    have hu : ∀ k, uN (costM ts) n k < n := fun k => by have := g.le k; omega
    obtain ⟨ws, rs, i, rd, hl, hr, hi, hmin⟩ := h
    obtain ⟨f1, f2, _⟩ := rd.facts hu g.up h1 h2
    obtain ⟨j, a, b, ha, hb, hw⟩ := step_parted (w := wb (costM ts) n one other) ws one other f1 f2 (decide_eq_true (wallN_one h1)) (decide_eq_false (wallN_other hc h1 hn))
    have hjl : j < rs.length := by
      have := (List.getElem?_eq_some_iff.mp hb).1
      omega
    have hc2 := List.getElem?_eq_getElem hjl
    generalize rs[j] = c at hc2
    obtain ⟨c0, cn, a', b', ha', hb', lw⟩ := hr j c hc2
    rw [ha] at ha'
    rw [hb] at hb'
    obtain rfl := Option.some.inj ha'
    obtain rfl := Option.some.inj hb'
    have hcu : wb (costM ts) n one other c ≠ wb (costM ts) n one other (uN (costM ts) n c) := by
      rcases lw with ⟨rfl, e⟩ | ⟨rfl, e⟩
      · rw [e]
        exact hw
      · rw [e]
        exact hw.symm
    have ne : c ≠ uN (costM ts) n c := ((g.up c).ne c0).symm
    have mb := most_below good n1 c0 cn
    refine Int.le_trans (hmin j c hc2).1 ?_
    rw [← mb, mostN_cut hc h1 hn]
    cases hwc : wb (costM ts) n one other c with
    | true => exact mostN_le hc cn ne hwc (by rw [hwc] at hcu; cases q : wb (costM ts) n one other (uN (costM ts) n c) with
      | true => rw [q] at hcu; exact absurd rfl hcu
      | false => rfl)
    | false =>
      rw [← cut_not (costM_comm ts)]
      refine mostN_le hc cn ne (by rw [hwc]; rfl) ?_
      cases q : wb (costM ts) n one other (uN (costM ts) n c) with
      | true => rfl
      | false => rw [hwc, q] at hcu; exact absurd rfl hcu
  · rw [← cut_sideB (one := one) good n1 r0 rn]
    exact mostN_le hc h1 hn sideB_one (best_other good n1 h1 h2 hn h)
theorem best_price : cutP ts (sideN n (uN (costM ts) n) r one) = pN (costM ts) n r := by
  obtain ⟨r0, rn, _⟩ := best_sides good n1 h1 h2 hn h
  rw [← cut_cutP good, ← cut_sideB (one := one) good n1 r0 rn]
  refine cut_congr fun k hk => ?_
  rw [sideN_eq h1]
  cases q : sideB n (uN (costM ts) n) r one k with
  | true => exact decide_eq_true (List.mem_filter.mpr ⟨List.mem_range.mpr hk, q⟩)
  | false =>
    refine decide_eq_false fun z => ?_
    have := (List.mem_filter.mp z).2
    rw [q] at this
    cases this
end
theorem q_cheap {C Pt x : Addr} {n one other i : Nat} {ts : List Tie} {σ : L2.St} {H : Hp} {ta : TA} {E : XK} {D : Ends} {tz : TS} (ha : EvA ta σ H [.ref x, .int one, .int other]) (N : NetAt K C H x n ts) (h1 : one < n) (h2 : other < n) (hn : one ≠ other) (TT : Tabs [(Pt, lamQ)] H)
    (k : ∀ q l r H1, Ex (hid H) H1 → Tabs [(Pt, lamQ)] H1 → BestOn n (uN (costM ts) n) (pN (costM ts) n) one other r → SqT K H1 q [.int (pN (costM ts) n r), .ref l] → H1 l = some (.lst (IL (sideN n (uN (costM ts) n) r one))) → tz D (σ.set i (some (.ref q))) H1) :
    tSeq (tAsg (tCall (spz_cheapest K C Pt) [] E ta) (gName i)) tz D σ H :=
  ha H (Ex.refl H) _ fun H1 e1 => ⟨x, n, ts, one, other, rfl, N.ex e1, h1, h2, hn, Tabs.ext TT e1, fun q l r H2 eN T2 b hl hq hl2 => k q l r H2 (hid_up (hid_ex.trans e1) eN) T2 b hq hl2⟩
end
end Toy

namespace G
open PySem PySem.Spec PyProof.Rows L2 Evl RZ N
section
variable {K : PySem.W.Frag} {σ : L2.St} {H : Hp} {te ta tb : TE}
theorem inV_ints {ns : List Int} {i : Int} (h : i ∈ ns) : inV (.int i) (ns.map V.int) = true := by
  unfold inV
  rw [List.any_map, List.any_eq_true]
  exact ⟨i, h, by simp [eqV]⟩
theorem flat_ints {ns : List Int} : (ns.map V.int).all flatV = true := by
  rw [List.all_map, List.all_eq_true]
  intro q _
  rfl
theorem ev_inLR {i : Int} {Pv : Addr → List V → Hp → Prop} (ha : Ev ta σ H (.int i)) (hb : EvLR tb σ H Pv) (hp : ∀ p vs H2, Pv p vs H2 → ∃ ns : List Int, vs = ns.map V.int ∧ i ∈ ns) : Ev (tOp (rIn K false) ta tb) σ H (.bl true) := fun H1 e Q q =>
  ha H1 e _ fun H2 e2 => hb H2 (e.trans e2) _ fun p vs H3 hn e3 h3 r => by
    obtain ⟨ns, rfl, hi⟩ := hp p vs H3 r
    have h := rv_isL (K := K) (x := .int i) (sq_of h3) rfl (flat_ints (ns := ns))
    rw [inV_ints hi] at h
    exact h H3 (Ex.refl _) Q fun H4 e4 => q H4 ((e2.trans e3).trans e4)
end
theorem fill_ints {g : Nat → Int} {is : List Nat} {vs : List V} {H : Hp} (h : Fills (fun i v _ => v = .int (g i)) is vs H) : vs = (is.map g).map V.int := by
  refine List.ext_getElem? fun k => ?_
  rw [List.getElem?_map, List.getElem?_map]
  by_cases c : k < vs.length
  · have hi : k < is.length := by rw [← h.1]; exact c
    rw [List.getElem?_eq_getElem c, List.getElem?_eq_getElem hi]
    have := h.2 k is[k] vs[k] (List.getElem?_eq_getElem hi) (List.getElem?_eq_getElem c)
    rw [this]
    rfl
  · have hi : ¬ k < is.length := by rw [← h.1]; exact c
    rw [List.getElem?_eq_none (by omega), List.getElem?_eq_none (by omega)]
    rfl
end G
namespace Toy
open PySem L2 TL Evl RZ G N
open LamX hiding takes0
section
variable {P : Program} {w : World} {K : PySem.W.Frag} {mg : Str → Option Value} {base : Heap}
def sp_lprice (K : PySem.W.Frag) : Sp := fun vs H Q _ => ∃ (l s : Addr) (xs : List V) (ts : List Tie) (ns : List Nat), vs = [.ref l, .ref s] ∧ SqL K H l xs ∧ TiesV K H xs ts ∧ SqL K H s (IL ns) ∧ ts.length ≤ 40000 ∧ RetV (.int (cutP ts ns)) H Q
theorem sv_lprice {l s : Addr} {ts : List Tie} {ns : List Nat} {H : Hp} (TL : TiesL K H l ts) (hs : SqL K H s (IL ns)) (hz : ts.length ≤ 40000) : SpV (sp_lprice K) [.ref l, .ref s] H (.int (cutP ts ns)) := fun H1 e Q q E => by
  obtain ⟨xs, h, tz⟩ := TL.ex e
  exact ⟨l, s, xs, ts, ns, rfl, h, tz, ex_l e hs, hz, q⟩
theorem ok__law_price (T : Wd K mg) : FnOk P w K mg base CX0 1 T.f__law_price T.d__law_price ["_law_ties_here", "_law_side"] (sp_lprice K) := by
  refine T.F__law_price.ok sc__law_price (fun vs H Q E h => ?_) (fun cdv A outer s H vs Q E hr h => ?_)
  · obtain ⟨l, s, xs, ts, ns, rfl, _⟩ := h
    rfl
  · obtain ⟨l, s, xs, ts, ns, rfl, hl, tz, hs, hz, k⟩ := h
    refine ⟨_, (pss_one (ps_ret (pe_callB (cr_sum rfl) (by rfl) T.n_sum (by decide +kernel) (pa_cons (pe_lc (own := [("_law_tie_here", 2)]) (g := (gName 2)) rfl sc__law_price.nd (pi_list (pv 0)) (blkOk_by (own := [("_law_tie_here", 2)]) (N := ["_law_ties_here", "_law_side", "_law_tie_here"]) (sc := defScope s__law_price) (by decide +kernel)) (fun _ _ _ _ _ => (pg_name (i := 2) sc__law_price.nd rfl (Or.inl rfl))) (fun _ _ _ _ _ => (pts_one (pt_cmpR op_ne (pe_cmpR (show OpR _ _ (rIn K false) from op_in_seq) (pe_ix (show IxR _ (rIxT K) from ix_tup) (pv 2) pe_int (fun _ _ => rfl)) (pv 1) (by rfl)) (pe_cmpR (show OpR _ _ (rIn K false) from op_in_seq) (pe_ix (show IxR _ (rIxT K) from ix_tup) (pv 2) pe_int (fun _ _ => rfl)) (pv 1) (by rfl)) (nomark _)))) (fun _ _ _ _ _ => (pe_ix (show IxR _ (rIxT K) from ix_tup) (pv 2) pe_int (fun _ _ => rfl)))) pa_nil)))), ?_⟩
    exact p_ret (Ex.refl H) (ev_cut (p := 0) (j := 2) (s := 1) (ns := ns) rfl hl tz hs hz (fun _ => rfl) (fun _ => rfl) (fun _ => rfl)) k
/-- if cheapest(..)[0] != .. -/
theorem q_cheapNe {C Pt x : Addr} {n one other : Nat} {ts : List Tie} {σ : L2.St} {H : Hp} {ta : TA} {tb : TE} {E : XK} {D : Ends} {tu tz : TS} (ha : EvA ta σ H [.ref x, .int one, .int other]) (N : NetAt K C H x n ts) (h1 : one < n) (h2 : other < n) (hn : one ≠ other) (TT : Tabs [(Pt, lamQ)] H)
    (k : ∀ r H1, Ex (hid H) H1 → Tabs [(Pt, lamQ)] H1 → BestOn n (uN (costM ts) n) (pN (costM ts) n) one other r → tSeq (tIfS (tTest (tOp rNe (tC (.int (pN (costM ts) n r))) tb)) tu tNext) tz D σ H1) :
    tSeq (tIfS (tTest (tOp rNe (tOp (rIxT K) (tCall (spz_cheapest K C Pt) [] E ta) (tC (.int 0))) tb)) tu tNext) tz D σ H :=
  ha H (Ex.refl H) _ fun H1 e1 => ⟨x, n, ts, one, other, rfl, N.ex e1, h1, h2, hn, Tabs.ext TT e1, fun q l r H2 eN T2 b hl hq hl2 => ⟨q, _, 0, _, rfl, rfl, hq, at_of (j := 0) rfl rfl, k r H2 (hid_up (hid_ex.trans e1) eN) T2 b⟩⟩
/-- the sides that walls tells stand at sd -/
structure SidesAt (K : PySem.W.Frag) (H : Hp) (sd : Addr) (n : Nat) (u : Nat → Nat) : Prop where
  l : ∃ svs, SqL K H sd svs ∧ svs.length = n - 1 ∧ ∀ (j : Nat) (v : V), svs[j]? = some v → ∃ c, v = .ref c ∧ H c = some (.lst (IL (belowN n u (1 + j))))
theorem SidesAt.ex {H H' : Hp} {sd : Addr} {n : Nat} {u : Nat → Nat} (h : SidesAt K H sd n u) (e : Ex H H') : SidesAt K H' sd n u := by
  obtain ⟨svs, a, b, c⟩ := h.l
  exact ⟨svs, ex_l e a, b, fun j v hv => by
    obtain ⟨d, h1, h2⟩ := c j v hv
    exact ⟨d, h1, e _ _ h2⟩⟩
theorem SidesAt.hid {H : Hp} {sd : Addr} {n : Nat} {u : Nat → Nat} (h : SidesAt K H sd n u) : SidesAt K (hid H) sd n u := by
  obtain ⟨svs, a, b, c⟩ := h.l
  exact ⟨svs, sql_hid a, b, fun j v hv => by
    obtain ⟨d, h1, h2⟩ := c j v hv
    exact ⟨d, h1, lst_hid h2⟩⟩
def sp_pair (K : PySem.W.Frag) (C Pt : Addr) : Sp := fun vs H Q _ => ∃ (x l sd : Addr) (n : Nat) (ts : List Tie) (one other : Nat), vs = [.ref x, .ref l, .ref sd, .int one, .int other] ∧ NetAt K C H x n ts ∧ TiesL K H l ts ∧ SidesAt K H sd n (uN (costM ts) n) ∧ one < n ∧ other < n ∧ one ≠ other ∧ Tabs [(Pt, lamQ)] H ∧ ∀ H2, Ex (hid H) H2 → Tabs [(Pt, lamQ)] H2 → Q (.bl true) H2
theorem ok__law_pair_right (T : Wd K mg) (TB : TabB base mg T.cc_cheapest T.PP_cheapest) : FnOk P w K mg base CX0 8 T.f__law_pair_right T.d__law_pair_right ["_law_net", "_law_ties_here", "_law_sides", "_law_one", "_law_other"] (sp_pair K T.C_Net T.PP_cheapest) := by
  have G_cheapest := ok_cheapest (P := P) (w := w) (base := base) T TB
  have G__law_led := ok__law_led (P := P) (w := w) (base := base) T
  have G__law_whole := ok__law_whole (P := P) (w := w) (base := base) T
  have G__law_price := ok__law_price (P := P) (w := w) (base := base) T
  have G_flow := ok_flow (P := P) (w := w) (base := base) T
  refine T.F__law_pair_right.ok sc__law_pair_right (fun vs H Q E h => ?_) (fun cdv A outer s H vs Q E hr h => ?_)
  · obtain ⟨x, l, sd, n, ts, one, other, rfl, _⟩ := h
    rfl
  · obtain ⟨x, l, sd, n, ts, one, other, rfl, N, TL, SD, h1, h2, hn, TT, k⟩ := h
    refine ⟨_, (pss_cons (ps_set (i := 5) sc__law_pair_right.nd rfl (Or.inl rfl) (pe_call G_cheapest (hr.mono (by decide)) (by rfl) T.m_cheapest T.F_cheapest.kp T.b_cheapest .nil pass0 (pa_cons (pv 0) (pa_cons (pv 3) (pa_cons (pv 4) pa_nil))))) (pss_cons (ps_if (PW.pt (pw_or (pt_not (pt_val (pe_callB call_isi (by rfl) T.n_isinstance (by decide +kernel) (pa_cons (pv 5) (pa_cons (pe_bltn (v := .ty "tuple") (by rfl) T.n_tuple (by decide +kernel) rfl) pa_nil))))) (pw_or (pt_cmpR op_ne (pe_callB call_len_seq (by rfl) T.n_len (by decide +kernel) (pa_cons (pv 5) pa_nil)) pe_int (nomark _)) (pw_or (pt_not (pt_val (pe_call G__law_whole (hr.mono (by decide)) (by rfl) T.m__law_whole T.F__law_whole.kp T.b__law_whole .nil pass0 (pa_cons (pe_ix ix_tup (pv 5) pe_int (fun _ _ => rfl)) pa_nil)))) (pw_or1 (pt_not (pt_val (pe_callB call_isi (by rfl) T.n_isinstance (by decide +kernel) (pa_cons (pe_ix ix_tup (pv 5) pe_int (fun _ _ => rfl)) (pa_cons (pe_bltn (v := .ty "list") (by rfl) T.n_list (by decide +kernel) rfl) pa_nil)))))))))) (pss_one (ps_ret pe_bl)) pss_nil) (pss_cons (ps_if (PW.pt (pw_or (pt_cmpR op_notIn_seq (pv 3) (pe_ix ix_tup (pv 5) pe_int (fun _ _ => rfl)) (by rfl)) (pw_or (pt_cmpR op_in_seq (pv 4) (pe_ix ix_tup (pv 5) pe_int (fun _ _ => rfl)) (by rfl)) (pw_or1 (pt_cmpR op_ne (pe_ix ix_tup (pv 5) pe_int (fun _ _ => rfl)) (pe_call G__law_price (hr.mono (by decide)) (by rfl) T.m__law_price T.F__law_price.kp T.b__law_price .nil pass0 (pa_cons (pv 1) (pa_cons (pe_ix ix_tup (pv 5) pe_int (fun _ _ => rfl)) pa_nil))) (nomark _)))))) (pss_one (ps_ret pe_bl)) pss_nil) (pss_cons (ps_if (pt_cmpR op_ne (pe_call G__law_led (hr.mono (by decide)) (by rfl) T.m__law_led T.F__law_led.kp T.b__law_led .nil pass0 (pa_cons (pe_call G_flow (hr.mono (by decide)) (by rfl) T.m_flow T.F_flow.kp T.b_flow .nil pass0 (pa_cons (pv 0) (pa_cons (pv 3) (pa_cons (pv 4) pa_nil)))) (pa_cons (pv 1) (pa_cons (pe_fld (pv 0) rfl) (pa_cons (pv 3) (pa_cons (pv 4) pa_nil)))))) (pe_ix ix_tup (pv 5) pe_int (fun _ _ => rfl)) (nomark _)) (pss_one (ps_ret pe_bl)) pss_nil) (pss_cons (ps_if (pt_cmpR op_ne (pe_ix ix_tup (pe_call G_cheapest (hr.mono (by decide)) (by rfl) T.m_cheapest T.F_cheapest.kp T.b_cheapest .nil pass0 (pa_cons (pv 0) (pa_cons (pv 4) (pa_cons (pv 3) pa_nil)))) pe_int (fun _ _ => rfl)) (pe_ix ix_tup (pv 5) pe_int (fun _ _ => rfl)) (nomark _)) (pss_one (ps_ret pe_bl)) pss_nil) (pss_cons (ps_setLc (i := 6) (own := [("_law_side", 7)]) (g := (gName 7)) rfl sc__law_pair_right.nd rfl rfl (sw_true rfl rfl rfl (by decide +kernel)) (pi_list (pv 2)) (blkOk_by (own := [("_law_side", 7)]) (N := ["_law_net", "_law_ties_here", "_law_sides", "_law_one", "_law_other", "_law_found", "_law_parting", "_law_side"]) (sc := defScope s__law_pair_right) (by decide +kernel)) (fun _ _ _ _ _ => (pg_name (i := 7) sc__law_pair_right.nd rfl (Or.inl rfl))) (fun _ _ _ _ _ => (pts_one (pt_cmpR op_ne (pe_cmpR (show OpR _ _ (rIn K false) from op_in_seq) (pv 3) (pv 7) (by rfl)) (pe_cmpR (show OpR _ _ (rIn K false) from op_in_seq) (pv 4) (pv 7) (by rfl)) (nomark _)))) (fun _ _ _ _ _ => (pv 7))) (pss_one (ps_ret (pe_cmpR op_in_seq (pe_ix ix_tup (pv 5) pe_int (fun _ _ => rfl)) (pe_lc (own := [("_law_side", 7)]) (g := (gName 7)) (tt := tYes) rfl sc__law_pair_right.nd (pi_list (pv 6)) (blkOk_by (own := [("_law_side", 7)]) (N := ["_law_net", "_law_ties_here", "_law_sides", "_law_one", "_law_other", "_law_found", "_law_parting", "_law_side"]) (sc := defScope s__law_pair_right) (by decide +kernel)) (fun _ _ _ _ _ => (pg_name (i := 7) sc__law_pair_right.nd rfl (Or.inl rfl))) (fun _ _ _ _ _ => pts_nil) (fun _ _ _ _ _ => (pe_call G__law_price (hr.mono (by decide)) (by rfl) T.m__law_price T.F__law_price.kp T.b__law_price .nil pass0 (pa_cons (pv 1) (pa_cons (pv 7) pa_nil))))) (by rfl)))))))))), ?_⟩
    have good := N.good
    have n24 := N.hi
    have n1 := N.lo
    have tlen := N.len
    refine q_cheap (ea_cons (ev_var rfl) (ea_cons (ev_var rfl) (ea_cons (ev_var rfl) ea_nil))) N h1 h2 hn TT fun q lf r H1 b1 T1 bo hq hl => ?_
    have N1 := (net_hid N).ex b1
    have TL1 := (tiesL_hid TL).ex b1
    have SD1 := SD.hid.ex b1
    obtain ⟨r0, rn, rs⟩ := best_sides good n1 h1 h2 hn bo
    have most := best_most good n1 h1 h2 hn bo
    have price := best_price good n1 h1 h2 hn bo
    have inOne : one ∈ sideN n (uN (costM ts) n) r one := by
      rw [sideN_eq h1]
      exact List.mem_filter.mpr ⟨List.mem_range.mpr h1, sideB_one⟩
    have outOther : ¬ other ∈ sideN n (uN (costM ts) n) r one := fun z => by
      rw [sideN_eq h1] at z
      have := (List.mem_filter.mp z).2
      rw [best_other good n1 h1 h2 hn bo] at this
      cases this
    have pbelow := price_below good n1 r0 rn
    generalize hW : sideN n (uN (costM ts) n) r one = W at hl inOne outOther price
    refine p_no (Ex.refl H1) (et_is (et_or (a := false) (b := false) (et_is (et_not (et_B (ev_isiT (b := true) (ev_var rfl) hq (by decide +kernel)))) rfl) (fun _ => et_is (et_or (a := false) (b := false) (et_is (et_test (ev_op (ev_lenS (ev_var rfl) (.inr hq)) ev_c (rv_ne rfl))) (by simp)) (fun _ => et_is (et_or (a := false) (b := false) (et_is (et_not (et_B (ev_call (ea_cons (ev_op (ev_var rfl) ev_c (rv_ixT hq (at_of (j := 0) rfl rfl))) ea_nil) sv_whole))) rfl) (fun _ => et_is (et_not (et_B (ev_isiL (b := true) (ev_op (ev_var rfl) ev_c (rv_ixT hq (at_of (j := 1) rfl rfl))) (sq_of hl) (by decide +kernel)))) rfl)) rfl)) rfl)) rfl) fun H2 e2 _ => ?_
    have hq2 := ex_t e2 hq
    have hl2 := e2 _ _ hl
    have TL2 := TL1.ex e2
    have N2 := N1.ex e2
    refine p_no (Ex.refl H2) (et_is (et_or (a := false) (b := false) (et_is (et_test (ev_ninIL (ev_var rfl) (ev_op (ev_var rfl) ev_c (rv_ixT hq2 (at_of (j := 1) rfl rfl))) (sq_of hl2))) (by rw [decide_eq_true inOne]; rfl)) (fun _ => et_is (et_or (a := false) (b := false) (et_is (et_test (ev_inIL (ev_var rfl) (ev_op (ev_var rfl) ev_c (rv_ixT hq2 (at_of (j := 1) rfl rfl))) (sq_of hl2))) (decide_eq_false outOther)) (fun _ => et_is (et_test (ev_op (ev_op (ev_var rfl) ev_c (rv_ixT hq2 (at_of (j := 0) rfl rfl))) (ev_call (ea_cons (ev_var rfl) (ea_cons (ev_op (ev_var rfl) ev_c (rv_ixT hq2 (at_of (j := 1) rfl rfl))) ea_nil)) (sv_lprice TL2 (sq_of hl2) (by omega))) (rv_ne rfl))) (by rw [price]; simp))) rfl)) rfl) fun H3 e3 _ => ?_
    have hq3 := ex_t e3 hq2
    have TL3 := TL2.ex e3
    have N3 := N2.ex e3
    refine p_no (Ex.refl H3) (et_is (et_test (ev_op (ev_callR1 (er_flow (ev_var rfl) (ev_var rfl) (ev_var rfl) N3 h1 h2 hn) (ea_cons (ev_var rfl) (ea_cons (ev_many (ev_var rfl) N3 T.cl_Net T.na_Net_many) (ea_cons (ev_var rfl) (ea_cons (ev_var rfl) ea_nil)))) (fun H0 v Ha Hb ea eb ec rr => by
      obtain ⟨f, ys, rfl, _, hf, ty⟩ := rr
      exact sv_led good (sq_of (ec _ _ hf)) (ty.ex ec) (TL3.ex ((ea.trans eb).trans ec)) (by omega) n24 h1 hn)) (ev_op (ev_var rfl) ev_c (rv_ixT hq3 (at_of (j := 0) rfl rfl))) (rv_ne rfl))) (by rw [most]; simp)) fun H4 e4 _ => ?_
    have e14 := (e2.trans e3).trans e4
    have hq4 := ex_t e4 hq3
    have T4 := Tabs.ext T1 e14
    refine q_cheapNe (ea_cons (ev_var rfl) (ea_cons (ev_var rfl) (ea_cons (ev_var rfl) ea_nil))) (N3.ex e4) h2 h1 hn.symm T4 fun r' H5 b5 T5 bo' => ?_
    have most' := best_most good n1 h2 h1 hn.symm bo'
    rw [← mostN_comm (costM_nonneg good) (costM_comm ts) h1 h2 hn, ← most] at most'
    have hq5 := ex_t b5 (sqt_hid hq4)
    refine p_no (Ex.refl H5) (et_is (et_test (ev_op ev_c (ev_op (ev_var rfl) ev_c (rv_ixT hq5 (at_of (j := 0) rfl rfl))) (rv_ne rfl))) (by rw [most']; simp)) fun H6 e6 _ => ?_
    have hq6 := ex_t e6 hq5
    have TL6 := ((tiesL_hid (TL3.ex e4)).ex b5).ex e6
    have SD6 := (((SD1.ex e14).hid).ex b5).ex e6
    have bH6 : Ex (hid H) H6 := ((hid_hid b1).trans ((hid_mono e14).trans b5)).trans e6
    have T6 := Tabs.ext T5 e6
    obtain ⟨svs, sv1, sv2, sv3⟩ := SD6.l
    generalize hu : uN (costM ts) n = u at sv3 rs pbelow
    refine p_asgLR (Ex.refl H6) (el_cL (fun j => decide (one ∈ belowN n u (1 + j)) != decide (other ∈ belowN n u (1 + j))) (compConst (Pv := fun j v => ∃ c, v = .ref c ∧ H6 c = some (.lst (IL (belowN n u (1 + j)))))) (ev_var rfl) sv1 (by omega) ?_) fun pl ps H7 _ e7 _ hpl hf => ?_
    · intro j v hv
      obtain ⟨c, rfl, hc⟩ := sv3 j v hv
      refine ⟨_, ?w, fun H2 Q _ q => q, et_is (et_test (ev_op (ev_inIL (ev_var rfl) (ev_var rfl) (sq_of hc)) (ev_inIL (ev_var rfl) (ev_var rfl) (sq_of hc)) (rv_ne rfl))) ?_, fun _ => evr_of (ev_var rfl) fun _ _ _ _ => ⟨c, rfl, hc⟩⟩
      case w => rfl
      cases decide (one ∈ belowN n u (1 + j)) <;> cases decide (other ∈ belowN n u (1 + j)) <;> rfl
    generalize hfl : ((List.range svs.length).filter fun j => decide (one ∈ belowN n u (1 + j)) != decide (other ∈ belowN n u (1 + j))) = is at hf
    have isl : is.length ≤ 24 := by
      rw [← hfl]
      refine Nat.le_trans (List.length_filter_le _ _) ?_
      rw [List.length_range]
      omega
    refine p_ret (Ex.refl H7) (ev_inLR (i := pN (costM ts) n r) (ev_op (ev_var rfl) ev_c (rv_ixT (ex_t e7 hq6) (at_of (j := 0) rfl rfl))) (el_cL (fun _ => true) (compConst (Pv := fun kk v => v = .int (cutP ts (belowN n u (1 + is.getD kk 0))))) (ev_var rfl) (sq_of hpl) (by rw [hf.1]; omega) ?_) (fun p vs H8 h8 => ?_)) fun H8 e8 => k H8 (bH6.trans (e7.trans e8)) (Tabs.ext T6 (e7.trans e8))
    · intro kk v hv
      have hkl : kk < is.length := by
        have := (List.getElem?_eq_some_iff.mp hv).1
        rw [hf.1] at this
        exact this
      obtain ⟨c, rfl, hc⟩ := hf.2 kk is[kk] v (List.getElem?_eq_getElem hkl) hv
      refine ⟨_, ?w, fun H2 Q _ q => q, et_yes, fun _ => ?_⟩
      case w => rfl
      have eg : is.getD kk 0 = is[kk] := by simp [List.getD, List.getElem?_eq_getElem hkl]
      rw [eg]
      exact evr_of (ev_call (ea_cons (ev_var rfl) (ea_cons (ev_var rfl) ea_nil)) (sv_lprice (TL6.ex e7) (sq_of (e7 _ _ hc)) (by omega))) fun _ _ _ _ => rfl
    · rw [filter_yes] at h8
      refine ⟨_, fill_ints h8, List.mem_map.mpr ?_⟩
      have hm : r - 1 ∈ is := by
        rw [← hfl]
        refine List.mem_filter.mpr ⟨List.mem_range.mpr (by omega), ?_⟩
        rw [show 1 + (r - 1) = r by omega]
        by_cases c : r ∈ chain n u one
        · rw [decide_eq_true (mem_belowN.mpr ⟨h1, c⟩), decide_eq_false fun z => rs.mp c (mem_belowN.mp z).2]
          rfl
        · have c2 : r ∈ chain n u other := Classical.byContradiction fun q => c (rs.mpr q)
          rw [decide_eq_false (fun z => c (mem_belowN.mp z).2), decide_eq_true (mem_belowN.mpr ⟨h2, c2⟩)]
          rfl
      obtain ⟨kk, hkk⟩ := List.mem_iff_getElem?.mp hm
      have hkl := (List.getElem?_eq_some_iff.mp hkk).1
      refine ⟨kk, List.mem_range.mpr (by rw [hf.1]; exact hkl), ?_⟩
      have eg : is.getD kk 0 = r - 1 := by simp [List.getD, hkk]
      rw [eg, show 1 + (r - 1) = r by omega, pbelow]
/-- if not _law_pair_right(..) -/
theorem q_pair {C Pt x l sd : Addr} {n one other : Nat} {ts : List Tie} {σ : L2.St} {H : Hp} {ta : TA} {E : XK} {D : Ends} {tu tz : TS} (ha : EvA ta σ H [.ref x, .ref l, .ref sd, .int one, .int other]) (N : NetAt K C H x n ts) (TL : TiesL K H l ts) (SD : SidesAt K H sd n (uN (costM ts) n)) (h1 : one < n) (h2 : other < n) (hn : one ≠ other) (TT : Tabs [(Pt, lamQ)] H)
    (k : ∀ H1, Ex (hid H) H1 → Tabs [(Pt, lamQ)] H1 → tz D σ H1) : tSeq (tIfS (tNot (tB (tCall (sp_pair K C Pt) [] E ta))) tu tNext) tz D σ H :=
  ha H (Ex.refl H) _ fun H1 e1 => ⟨x, l, sd, n, ts, one, other, rfl, N.ex e1, TL.ex e1, SD.ex e1, h1, h2, hn, Tabs.ext TT e1, fun H2 e2 T2 => ⟨true, rfl, by
    show (if (!true) = true then _ else _)
    rw [if_neg (by decide)]
    exact k H2 ((hid_mono e1).trans e2) T2⟩⟩
def spLawT (K : PySem.W.Frag) (Pt : Addr) : Sp := fun vs H Q _ => ∃ (a : Addr) (ns : List Int), vs = [.ref a] ∧ SqL K H a (ns.map V.int) ∧ ns.length ≤ 63 ∧ H Pt = some (.tbl #[]) ∧ ∀ H', Q (.bl true) H'
theorem ok_law {f : Addr} {fd : FuncData} (F : Fun K "law" "law" s_law f fd) (T : Wd K mg) (TB : TabB base mg T.cc_cheapest T.PP_cheapest) : FnOk P w K mg base CX0 9 f fd ["_law_script"] (spLawT K T.PP_cheapest) := by
  have G__law_many := ok__law_many (P := P) (w := w) (base := base) T
  have G__law_ties := ok__law_ties (P := P) (w := w) (base := base) T
  have G_Net_init := ok_Net_init (P := P) (w := w) (base := base) T
  have G_walls := ok_walls (P := P) (w := w) (base := base) T
  have G__law_cell_at := ok__law_cell_at (P := P) (w := w) (base := base) T
  have G_Net_ties := ok_Net_ties (P := P) (w := w) (base := base) T
  have G__law_pair_right := ok__law_pair_right (P := P) (w := w) (base := base) T TB
  refine F.ok sc_law (fun vs H Q E h => ?_) (fun cdv A outer s H vs Q E hr h => ?_)
  · obtain ⟨a, ns, rfl, _⟩ := h
    rfl
  · obtain ⟨a, ns, rfl, hs, hz, hP, k⟩ := h
    have TT : Tabs [(T.PP_cheapest, lamQ)] H := fun p hp => by
      rw [List.mem_singleton.mp hp]
      exact TabS.nil hP
    refine ⟨_, (pss_cons (ps_set (i := 1) sc_law.nd rfl (Or.inl rfl) (pe_call G__law_many (hr.mono (by decide)) (by rfl) T.m__law_many T.F__law_many.kp T.b__law_many .nil pass0 (pa_cons (pv 0) pa_nil))) (pss_cons (ps_set (i := 2) sc_law.nd rfl (Or.inl rfl) (pe_call G__law_ties (hr.mono (by decide)) (by rfl) T.m__law_ties T.F__law_ties.kp T.b__law_ties .nil pass0 (pa_cons (pv 0) (pa_cons (pv 1) pa_nil)))) (pss_cons (ps_set (i := 3) sc_law.nd rfl (Or.inl rfl) (pe_make T.MK_Net G_Net_init (hr.mono (by decide)) (by rfl) T.m_Net T.b_Net_init .nil pass0 (pa_cons (pv 1) (pa_cons (pe_callTy call_list_of (by rfl) T.n_list (by decide +kernel) (pa_cons (pv 2) pa_nil)) pa_nil)))) (pss_cons (ps_set (i := 4) sc_law.nd rfl (Or.inl rfl) (pe_call G_walls (hr.mono (by decide)) (by rfl) T.m_walls T.F_walls.kp T.b_walls .nil pass0 (pa_cons (pv 3) pa_nil))) (pss_cons (ps_if (PW.pt (pw_or (pt_not (pt_val (pe_callB call_isi (by rfl) T.n_isinstance (by decide +kernel) (pa_cons (pv 4) (pa_cons (pe_bltn (v := .ty "list") (by rfl) T.n_list (by decide +kernel) rfl) pa_nil))))) (pw_or1 (pt_cmpR op_ne (pe_callB call_len_seq (by rfl) T.n_len (by decide +kernel) (pa_cons (pv 4) pa_nil)) (pe_op op_sub (pv 1) pe_int) (nomark _))))) (pss_one (ps_ret pe_bl)) pss_nil) (pss_cons (ps_set (i := 5) sc_law.nd rfl (Or.inl rfl) (pe_call G__law_cell_at (hr.mono (by decide)) (by rfl) T.m__law_cell_at T.F__law_cell_at.kp T.b__law_cell_at .nil pass0 (pa_cons (pv 0) (pa_cons pe_int pa_nil)))) (pss_cons (ps_for PassesOwn.never rfl (pi_range1 (by rfl) T.n_range (pa_cons pe_int pa_nil)) (pg_name (i := 6) sc_law.nd rfl (Or.inl rfl)) (pss_cons (ps_set (i := 7) sc_law.nd rfl (Or.inl rfl) (pe_op op_mod (pv 5) (pv 1))) (pss_cons (ps_set (i := 8) sc_law.nd rfl (Or.inl rfl) (pe_op op_mod (pe_op op_add (pe_op op_add (pv 7) pe_int) (pe_op op_mod (pe_op op_fdiv (pv 5) (pv 1)) (pe_op op_sub (pv 1) pe_int))) (pv 1))) (pss_cons (ps_if (pt_not (pt_val (pe_call G__law_pair_right (hr.mono (by decide)) (by rfl) T.m__law_pair_right T.F__law_pair_right.kp T.b__law_pair_right .nil pass0 (pa_cons (pv 3) (pa_cons (pv 2) (pa_cons (pv 4) (pa_cons (pv 7) (pa_cons (pv 8) pa_nil)))))))) (pss_one (ps_ret pe_bl)) pss_nil) (pss_one (ps_set (i := 5) sc_law.nd rfl (Or.inl rfl) (pe_op op_fdiv (pv 5) (pe_op op_mul (pv 1) (pe_op op_sub (pv 1) pe_int))))))))) (pss_one (ps_ret (pe_cmpR (op_eqD hr.units) (pe_meth0 (pv 3) T.cl_Net T.mt_Net_ties G_Net_ties (hr.mono (by decide)) T.b_Net_ties .nil pass0) (pv 2) (nomark _))))))))))), ?_⟩
    refine p_asgR (Ex.refl H) (er_many (ea_cons (ev_var rfl) ea_nil) hs) fun v H1 e1 _ r => ?_
    obtain ⟨n, rfl, n2, n24⟩ := r
    refine p_asgR e1 (er_lties (ea_cons (ev_var rfl) (ea_cons (ev_var rfl) ea_nil)) hs n2 n24) fun v H2 e2 e12 r => ?_
    obtain ⟨l, ts, rfl, t⟩ := r
    obtain ⟨xs, hl, tz⟩ := t.ls
    have good := t.good
    have tlen := t.len
    refine p_asgR (Ex.refl H2) (er_netN (C := T.C_Net) (n := n) (xs := xs) (ts := ts) (ev_var rfl) (el_list (ev_var rfl) (sq_of hl)) (by omega) n24 tz (by omega) good) fun v H3 e3 _ r => ?_
    obtain ⟨x, rfl, N⟩ := r
    refine p_asgR (Ex.refl H3) (er_walls (ev_var rfl) N) fun v H4 e4 _ r => ?_
    obtain ⟨sd, svs, rfl, _, hsd, hf⟩ := r
    have svl : svs.length = n - 1 := by rw [hf.1, List.length_range]
    have SD4 : SidesAt K H4 sd n (uN (costM ts) n) := ⟨svs, sq_of hsd, svl, fun j v hv => by
      have hj : j < n - 1 := by
        have := (List.getElem?_eq_some_iff.mp hv).1
        omega
      obtain ⟨c, h1, _, _, h2⟩ := hf.2 j j v (List.getElem?_range hj) hv
      exact ⟨c, h1, h2⟩⟩
    have N4 := N.ex e4
    have TL4 : TiesL K H4 l ts := ⟨xs, sq_of ((e3.trans e4) _ _ hl), tz.ex (e3.trans e4)⟩
    refine p_no (Ex.refl H4) (et_is (et_or (a := false) (b := false) (et_is (et_not (et_B (ev_isiL (b := true) (ev_var rfl) (sq_of hsd) (by decide +kernel)))) rfl) (fun _ => et_is (et_test (ev_op (ev_lenS (ev_var rfl) (.inl (sq_of hsd))) (ev_op (ev_var rfl) ev_c rv_I0) (rv_ne rfl))) (by rw [svl]; simp; omega))) rfl) fun H5 e5 _ => ?_
    have e25 := (e3.trans e4).trans e5
    have hs5 := ex_l (e2.trans e25) hs
    refine p_asg (Ex.refl H5) (ev_call (ea_cons (ev_var rfl) (ea_cons ev_c ea_nil)) (sv_cell (k := 3) hs5)) fun H6 e6 _ => ?_
    have N6 := N4.ex (e5.trans e6)
    have TL6 := TL4.ex (e5.trans e6)
    have SD6 := SD4.ex (e5.trans e6)
    have T6 := Tabs.ext TT ((e2.trans e25).trans e6)
    have hl6 := (e25.trans e6) _ _ hl
    have tz6 := tz.ex (e25.trans e6)
    have mm1 : 0 < (n : Int) * ((n : Int) - 1) := Int.mul_pos (by omega) (by omega)
    obtain ⟨m1, m2⟩ := mulN n2 n24
    refine q_forR1 (n := 3) (ea_cons ev_c ea_nil) (by decide) (fun i σ' H' => ∃ (num : Int) (u6 u7 u8 : Option V), σ' = [some (.ref a), some (.int n), some (.ref l), some (.ref x), some (.ref sd), some (.int num), u6, u7, u8] ∧ Ex (hid H6) H' ∧ Tabs [(T.PP_cheapest, lamQ)] H') (fun H7 e7 => ⟨_, _, _, _, rfl, hid_ex.trans e7, Tabs.ext T6 e7⟩) ?_ ?_
    · rintro i σ' H' hi ⟨num, u6, u7, u8, rfl, b, T'⟩
      have a0 : 0 ≤ num % (n : Int) := Int.emod_nonneg _ (by omega)
      have a1 : num % (n : Int) < n := Int.emod_lt_of_pos _ (by omega)
      have r0 : 0 ≤ num / (n : Int) % ((n : Int) - 1) := Int.emod_nonneg _ (by omega)
      have r1 : num / (n : Int) % ((n : Int) - 1) < (n : Int) - 1 := Int.emod_lt_of_pos _ (by omega)
      obtain ⟨o1, o2, o3⟩ := otherOf a0 a1 r0 r1
      obtain ⟨one, hp⟩ : ∃ one : Nat, num % (n : Int) = (one : Int) := ⟨(num % (n : Int)).toNat, by omega⟩
      rw [hp] at o1 o2 o3
      obtain ⟨other, hq⟩ : ∃ q : Nat, ((one : Int) + 1 + num / (n : Int) % ((n : Int) - 1)) % (n : Int) = (q : Int) := ⟨(((one : Int) + 1 + num / (n : Int) % ((n : Int) - 1)) % (n : Int)).toNat, by omega⟩
      refine p_asg (Ex.refl H') (ev_is (ev_op (ev_var rfl) (ev_var rfl) (rv_I (by omega : (0 : Int) < (n : Int)))) (by rw [hp])) fun H7 e7 _ => ?_
      refine p_asg e7 (ev_is (ev_op (ev_op (ev_op (ev_var rfl) ev_c rv_I0) (ev_op (ev_op (ev_var rfl) (ev_var rfl) (rv_I ⟨by omega, by omega⟩)) (ev_op (ev_var rfl) ev_c rv_I0) (rv_I (by omega : (0 : Int) < (n : Int) - 1))) rv_I0) (ev_var rfl) (rv_I (by omega : (0 : Int) < (n : Int)))) (by rw [hq])) fun H8 e8 _ => ?_
      have b8 := b.trans e8
      refine q_pair (ea_cons (ev_var rfl) (ea_cons (ev_var rfl) (ea_cons (ev_var rfl) (ea_cons (ev_var rfl) (ea_cons (ev_var rfl) ea_nil))))) ((net_hid N6).ex b8) ((tiesL_hid TL6).ex b8) (SD6.hid.ex b8) (by omega) (by omega) (by omega) (Tabs.ext T' e8) fun H9 b9 T9 => ?_
      refine s_asg (ev_op (ev_var rfl) (ev_op (ev_var rfl) (ev_op (ev_var rfl) ev_c rv_I0) (rv_I (Or.inl (by omega)))) (rv_I ⟨m1, by omega⟩)) fun H10 e10 => ⟨_, _, _, _, rfl, ((hid_hid b8).trans b9).trans e10, Tabs.ext T9 e10⟩
    rintro σ' H7 ⟨num, u6, u7, u8, rfl, b, _⟩
    have N7 := (net_hid N6).ex b
    have l7 := b _ _ (lst_hid hl6)
    have tz7 := (tiesV_hid tz6).ex b
    refine p_ret (Ex.refl H7) (ev_is (ev_opR (z := .bl (PyData.eqv (.list (pdt ts)) (.list (pdt ts)))) (er_ties (ev_var rfl) N7) (ev_var rfl) (fun H0 v H1 H2 a b c r => by
      obtain ⟨p1, x1, rfl, _, q1, y1⟩ := r
      exact rv_eqD (.lst (sq_of (c _ _ q1)) (dp_ties (y1.ex c))) (.lst (sq_of ((a.trans (b.trans c)) _ _ l7)) (dp_ties (tz7.ex (a.trans (b.trans c))))) (sh_ties _) (sh_ties _))) (by rw [eqv_tiesL]; simp)) fun H8 _ => k H8
end
end Toy

namespace Toy
open PySem L2 Evl RZ G
theorem all_mk {l : PySem.W.OpenLaw} {w : World} {K : PySem.W.Frag} {h : Heap} {mg : Str → Option Value} (X : K.In h) (G : h.Ns mainGlobals mg) {fa : Addr} (hfa : mg "law" = some (.ref fa))
    {f_is_whole : Addr} {od_is_whole an_is_whole : Option Addr} {sl_is_whole : Array (Option Value)} {oc_is_whole kV_is_whole dc_is_whole pm_is_whole cd_is_whole ct_is_whole : Value}
    {f_is_place : Addr} {od_is_place an_is_place : Option Addr} {sl_is_place : Array (Option Value)} {oc_is_place kV_is_place dc_is_place pm_is_place cd_is_place ct_is_place : Value}
    {f_is_tie : Addr} {od_is_tie an_is_tie : Option Addr} {sl_is_tie : Array (Option Value)} {oc_is_tie kV_is_tie dc_is_tie pm_is_tie cd_is_tie ct_is_tie : Value}
    {f_check_net : Addr} {od_check_net an_check_net : Option Addr} {sl_check_net : Array (Option Value)} {oc_check_net kV_check_net dc_check_net pm_check_net cd_check_net ct_check_net : Value}
    {f_check_place : Addr} {od_check_place an_check_place : Option Addr} {sl_check_place : Array (Option Value)} {oc_check_place kV_check_place dc_check_place pm_check_place cd_check_place ct_check_place : Value}
    {f_check_two : Addr} {od_check_two an_check_two : Option Addr} {sl_check_two : Array (Option Value)} {oc_check_two kV_check_two dc_check_two pm_check_two cd_check_two ct_check_two : Value}
    {f_check_side : Addr} {od_check_side an_check_side : Option Addr} {sl_check_side : Array (Option Value)} {oc_check_side kV_check_side dc_check_side pm_check_side cd_check_side ct_check_side : Value}
    {f_costs_between : Addr} {od_costs_between an_costs_between : Option Addr} {sl_costs_between : Array (Option Value)} {oc_costs_between kV_costs_between dc_costs_between pm_costs_between cd_costs_between ct_costs_between : Value}
    {f_Net_init : Addr} {od_Net_init an_Net_init : Option Addr} {sl_Net_init : Array (Option Value)} {oc_Net_init kV_Net_init dc_Net_init pm_Net_init cd_Net_init ct_Net_init : Value}
    {f_Net_ties : Addr} {od_Net_ties an_Net_ties : Option Addr} {sl_Net_ties : Array (Option Value)} {oc_Net_ties kV_Net_ties dc_Net_ties pm_Net_ties cd_Net_ties ct_Net_ties : Value}
    {f_Net_between : Addr} {od_Net_between an_Net_between : Option Addr} {sl_Net_between : Array (Option Value)} {oc_Net_between kV_Net_between dc_Net_between pm_Net_between cd_Net_between ct_Net_between : Value}
    {f_Net_price : Addr} {od_Net_price an_Net_price : Option Addr} {sl_Net_price : Array (Option Value)} {oc_Net_price kV_Net_price dc_Net_price pm_Net_price cd_Net_price ct_Net_price : Value}
    {f_places_ahead : Addr} {od_places_ahead an_places_ahead : Option Addr} {sl_places_ahead : Array (Option Value)} {oc_places_ahead kV_places_ahead dc_places_ahead pm_places_ahead cd_places_ahead ct_places_ahead : Value}
    {f_shortest_way : Addr} {od_shortest_way an_shortest_way : Option Addr} {sl_shortest_way : Array (Option Value)} {oc_shortest_way kV_shortest_way dc_shortest_way pm_shortest_way cd_shortest_way ct_shortest_way : Value}
    {f_run_along : Addr} {od_run_along an_run_along : Option Addr} {sl_run_along : Array (Option Value)} {oc_run_along kV_run_along dc_run_along pm_run_along cd_run_along ct_run_along : Value}
    {f_left_by_flow : Addr} {od_left_by_flow an_left_by_flow : Option Addr} {sl_left_by_flow : Array (Option Value)} {oc_left_by_flow kV_left_by_flow dc_left_by_flow pm_left_by_flow cd_left_by_flow ct_left_by_flow : Value}
    {f_flow : Addr} {od_flow an_flow : Option Addr} {sl_flow : Array (Option Value)} {oc_flow kV_flow dc_flow pm_flow cd_flow ct_flow : Value}
    {f_wall : Addr} {od_wall an_wall : Option Addr} {sl_wall : Array (Option Value)} {oc_wall kV_wall dc_wall pm_wall cd_wall ct_wall : Value}
    {f_take_over : Addr} {od_take_over an_take_over : Option Addr} {sl_take_over : Array (Option Value)} {oc_take_over kV_take_over dc_take_over pm_take_over cd_take_over ct_take_over : Value}
    {f_put_between : Addr} {od_put_between an_put_between : Option Addr} {sl_put_between : Array (Option Value)} {oc_put_between kV_put_between dc_put_between pm_put_between cd_put_between ct_put_between : Value}
    {f_tree : Addr} {od_tree an_tree : Option Addr} {sl_tree : Array (Option Value)} {oc_tree kV_tree dc_tree pm_tree cd_tree ct_tree : Value}
    {f_way_up : Addr} {od_way_up an_way_up : Option Addr} {sl_way_up : Array (Option Value)} {oc_way_up kV_way_up dc_way_up pm_way_up cd_way_up ct_way_up : Value}
    {f_places_below : Addr} {od_places_below an_places_below : Option Addr} {sl_places_below : Array (Option Value)} {oc_places_below kV_places_below dc_places_below pm_places_below cd_places_below ct_places_below : Value}
    {f_way_between : Addr} {od_way_between an_way_between : Option Addr} {sl_way_between : Array (Option Value)} {oc_way_between kV_way_between dc_way_between pm_way_between cd_way_between ct_way_between : Value}
    {f_bough_between : Addr} {od_bough_between an_bough_between : Option Addr} {sl_bough_between : Array (Option Value)} {oc_bough_between kV_bough_between dc_bough_between pm_bough_between cd_bough_between ct_bough_between : Value}
    {f_walls : Addr} {od_walls an_walls : Option Addr} {sl_walls : Array (Option Value)} {oc_walls kV_walls dc_walls pm_walls cd_walls ct_walls : Value}
    {f_cheapest cc_cheapest PP_cheapest : Addr} {od_cheapest an_cheapest : Option Addr} {sl_cheapest : Array (Option Value)} {oc_cheapest kV_cheapest dc_cheapest pm_cheapest ct_cheapest : Value}
    {f__law_cell_at : Addr} {od__law_cell_at an__law_cell_at : Option Addr} {sl__law_cell_at : Array (Option Value)} {oc__law_cell_at kV__law_cell_at dc__law_cell_at pm__law_cell_at cd__law_cell_at ct__law_cell_at : Value}
    {f__law_whole : Addr} {od__law_whole an__law_whole : Option Addr} {sl__law_whole : Array (Option Value)} {oc__law_whole kV__law_whole dc__law_whole pm__law_whole cd__law_whole ct__law_whole : Value}
    {f__law_many : Addr} {od__law_many an__law_many : Option Addr} {sl__law_many : Array (Option Value)} {oc__law_many kV__law_many dc__law_many pm__law_many cd__law_many ct__law_many : Value}
    {f__law_tie : Addr} {od__law_tie an__law_tie : Option Addr} {sl__law_tie : Array (Option Value)} {oc__law_tie kV__law_tie dc__law_tie pm__law_tie cd__law_tie ct__law_tie : Value}
    {f__law_ties : Addr} {od__law_ties an__law_ties : Option Addr} {sl__law_ties : Array (Option Value)} {oc__law_ties kV__law_ties dc__law_ties pm__law_ties cd__law_ties ct__law_ties : Value}
    {f__law_price : Addr} {od__law_price an__law_price : Option Addr} {sl__law_price : Array (Option Value)} {oc__law_price kV__law_price dc__law_price pm__law_price cd__law_price ct__law_price : Value}
    {f__law_led : Addr} {od__law_led an__law_led : Option Addr} {sl__law_led : Array (Option Value)} {oc__law_led kV__law_led dc__law_led pm__law_led cd__law_led ct__law_led : Value}
    {f__law_pair_right : Addr} {od__law_pair_right an__law_pair_right : Option Addr} {sl__law_pair_right : Array (Option Value)} {oc__law_pair_right kV__law_pair_right dc__law_pair_right pm__law_pair_right cd__law_pair_right ct__law_pair_right : Value}
    {f_law : Addr} {od_law an_law : Option Addr} {sl_law : Array (Option Value)} {oc_law kV_law dc_law pm_law cd_law ct_law : Value}
    {C_Net : Addr}
    {t_MOST_PLACES : Tok}
    {t_MOST_TIES : Tok}
    {t_TOP_PRICE : Tok}
    (aC_Net : PySem.W.nsIn K mainGlobals "Net" = some (some (.ref C_Net)))
    (pg_Net : PySem.W.plainGet K C_Net Str.empty = true)
    (hd_Net : PySem.W.hasDictIn K C_Net = true)
    (po_Net : PySem.W.plainOver K C_Net = true)
    (sa_Net : PySem.W.findIn K (.ref C_Net) "__setattr__" = some (some (.builtin "object.__setattr__")))
    (mk_Net : PySem.W.makesIn K C_Net = true)
    (kc_Net : PySem.W.keepIn K (.ref C_Net) = true)
    (na_Net__costs : PySem.W.findIn K (.ref C_Net) "_costs" = some none)
    (na_Net__ties : PySem.W.findIn K (.ref C_Net) "_ties" = some none)
    (na_Net_many : PySem.W.findIn K (.ref C_Net) "many" = some none)
    (a_is_whole : PySem.W.nsIn K mainGlobals "is_whole" = some (some (.ref f_is_whole)))
    (l_is_whole : K.lookup f_is_whole = some ⟨oc_is_whole, od_is_whole, .func (PySem.W.fnOf "is_whole" "is_whole" (defArgs s_is_whole) (defBody s_is_whole) (defScope s_is_whole) .none kV_is_whole dc_is_whole pm_is_whole an_is_whole cd_is_whole ct_is_whole), sl_is_whole⟩)
    (c_is_whole : PySem.W.codeIn K cd_is_whole "is_whole" = true)
    (k_is_whole : PySem.W.keepIn K (.ref f_is_whole) = true)
    (a_is_place : PySem.W.nsIn K mainGlobals "is_place" = some (some (.ref f_is_place)))
    (l_is_place : K.lookup f_is_place = some ⟨oc_is_place, od_is_place, .func (PySem.W.fnOf "is_place" "is_place" (defArgs s_is_place) (defBody s_is_place) (defScope s_is_place) .none kV_is_place dc_is_place pm_is_place an_is_place cd_is_place ct_is_place), sl_is_place⟩)
    (c_is_place : PySem.W.codeIn K cd_is_place "is_place" = true)
    (k_is_place : PySem.W.keepIn K (.ref f_is_place) = true)
    (a_is_tie : PySem.W.nsIn K mainGlobals "is_tie" = some (some (.ref f_is_tie)))
    (l_is_tie : K.lookup f_is_tie = some ⟨oc_is_tie, od_is_tie, .func (PySem.W.fnOf "is_tie" "is_tie" (defArgs s_is_tie) (defBody s_is_tie) (defScope s_is_tie) .none kV_is_tie dc_is_tie pm_is_tie an_is_tie cd_is_tie ct_is_tie), sl_is_tie⟩)
    (c_is_tie : PySem.W.codeIn K cd_is_tie "is_tie" = true)
    (k_is_tie : PySem.W.keepIn K (.ref f_is_tie) = true)
    (a_check_net : PySem.W.nsIn K mainGlobals "check_net" = some (some (.ref f_check_net)))
    (l_check_net : K.lookup f_check_net = some ⟨oc_check_net, od_check_net, .func (PySem.W.fnOf "check_net" "check_net" (defArgs s_check_net) (defBody s_check_net) (defScope s_check_net) .none kV_check_net dc_check_net pm_check_net an_check_net cd_check_net ct_check_net), sl_check_net⟩)
    (c_check_net : PySem.W.codeIn K cd_check_net "check_net" = true)
    (k_check_net : PySem.W.keepIn K (.ref f_check_net) = true)
    (a_check_place : PySem.W.nsIn K mainGlobals "check_place" = some (some (.ref f_check_place)))
    (l_check_place : K.lookup f_check_place = some ⟨oc_check_place, od_check_place, .func (PySem.W.fnOf "check_place" "check_place" (defArgs s_check_place) (defBody s_check_place) (defScope s_check_place) .none kV_check_place dc_check_place pm_check_place an_check_place cd_check_place ct_check_place), sl_check_place⟩)
    (c_check_place : PySem.W.codeIn K cd_check_place "check_place" = true)
    (k_check_place : PySem.W.keepIn K (.ref f_check_place) = true)
    (a_check_two : PySem.W.nsIn K mainGlobals "check_two" = some (some (.ref f_check_two)))
    (l_check_two : K.lookup f_check_two = some ⟨oc_check_two, od_check_two, .func (PySem.W.fnOf "check_two" "check_two" (defArgs s_check_two) (defBody s_check_two) (defScope s_check_two) .none kV_check_two dc_check_two pm_check_two an_check_two cd_check_two ct_check_two), sl_check_two⟩)
    (c_check_two : PySem.W.codeIn K cd_check_two "check_two" = true)
    (k_check_two : PySem.W.keepIn K (.ref f_check_two) = true)
    (a_check_side : PySem.W.nsIn K mainGlobals "check_side" = some (some (.ref f_check_side)))
    (l_check_side : K.lookup f_check_side = some ⟨oc_check_side, od_check_side, .func (PySem.W.fnOf "check_side" "check_side" (defArgs s_check_side) (defBody s_check_side) (defScope s_check_side) .none kV_check_side dc_check_side pm_check_side an_check_side cd_check_side ct_check_side), sl_check_side⟩)
    (c_check_side : PySem.W.codeIn K cd_check_side "check_side" = true)
    (k_check_side : PySem.W.keepIn K (.ref f_check_side) = true)
    (a_costs_between : PySem.W.nsIn K mainGlobals "costs_between" = some (some (.ref f_costs_between)))
    (l_costs_between : K.lookup f_costs_between = some ⟨oc_costs_between, od_costs_between, .func (PySem.W.fnOf "costs_between" "costs_between" (defArgs s_costs_between) (defBody s_costs_between) (defScope s_costs_between) .none kV_costs_between dc_costs_between pm_costs_between an_costs_between cd_costs_between ct_costs_between), sl_costs_between⟩)
    (c_costs_between : PySem.W.codeIn K cd_costs_between "costs_between" = true)
    (k_costs_between : PySem.W.keepIn K (.ref f_costs_between) = true)
    (a_Net_init : PySem.W.findIn K (.ref C_Net) "__init__" = some (some (.ref f_Net_init)))
    (i_Net_init : PySem.W.isFn K (.ref f_Net_init) = true)
    (l_Net_init : K.lookup f_Net_init = some ⟨oc_Net_init, od_Net_init, .func (PySem.W.fnOf "__init__" "Net.__init__" (defArgs s_Net_init) (defBody s_Net_init) (defScope s_Net_init) .none kV_Net_init dc_Net_init pm_Net_init an_Net_init cd_Net_init ct_Net_init), sl_Net_init⟩)
    (c_Net_init : PySem.W.codeIn K cd_Net_init "Net.__init__" = true)
    (k_Net_init : PySem.W.keepIn K (.ref f_Net_init) = true)
    (a_Net_ties : PySem.W.findIn K (.ref C_Net) "ties" = some (some (.ref f_Net_ties)))
    (i_Net_ties : PySem.W.isFn K (.ref f_Net_ties) = true)
    (l_Net_ties : K.lookup f_Net_ties = some ⟨oc_Net_ties, od_Net_ties, .func (PySem.W.fnOf "ties" "Net.ties" (defArgs s_Net_ties) (defBody s_Net_ties) (defScope s_Net_ties) .none kV_Net_ties dc_Net_ties pm_Net_ties an_Net_ties cd_Net_ties ct_Net_ties), sl_Net_ties⟩)
    (c_Net_ties : PySem.W.codeIn K cd_Net_ties "Net.ties" = true)
    (k_Net_ties : PySem.W.keepIn K (.ref f_Net_ties) = true)
    (a_Net_between : PySem.W.findIn K (.ref C_Net) "between" = some (some (.ref f_Net_between)))
    (i_Net_between : PySem.W.isFn K (.ref f_Net_between) = true)
    (l_Net_between : K.lookup f_Net_between = some ⟨oc_Net_between, od_Net_between, .func (PySem.W.fnOf "between" "Net.between" (defArgs s_Net_between) (defBody s_Net_between) (defScope s_Net_between) .none kV_Net_between dc_Net_between pm_Net_between an_Net_between cd_Net_between ct_Net_between), sl_Net_between⟩)
    (c_Net_between : PySem.W.codeIn K cd_Net_between "Net.between" = true)
    (k_Net_between : PySem.W.keepIn K (.ref f_Net_between) = true)
    (a_Net_price : PySem.W.findIn K (.ref C_Net) "price" = some (some (.ref f_Net_price)))
    (i_Net_price : PySem.W.isFn K (.ref f_Net_price) = true)
    (l_Net_price : K.lookup f_Net_price = some ⟨oc_Net_price, od_Net_price, .func (PySem.W.fnOf "price" "Net.price" (defArgs s_Net_price) (defBody s_Net_price) (defScope s_Net_price) .none kV_Net_price dc_Net_price pm_Net_price an_Net_price cd_Net_price ct_Net_price), sl_Net_price⟩)
    (c_Net_price : PySem.W.codeIn K cd_Net_price "Net.price" = true)
    (k_Net_price : PySem.W.keepIn K (.ref f_Net_price) = true)
    (a_places_ahead : PySem.W.nsIn K mainGlobals "places_ahead" = some (some (.ref f_places_ahead)))
    (l_places_ahead : K.lookup f_places_ahead = some ⟨oc_places_ahead, od_places_ahead, .func (PySem.W.fnOf "places_ahead" "places_ahead" (defArgs s_places_ahead) (defBody s_places_ahead) (defScope s_places_ahead) .none kV_places_ahead dc_places_ahead pm_places_ahead an_places_ahead cd_places_ahead ct_places_ahead), sl_places_ahead⟩)
    (c_places_ahead : PySem.W.codeIn K cd_places_ahead "places_ahead" = true)
    (k_places_ahead : PySem.W.keepIn K (.ref f_places_ahead) = true)
    (a_shortest_way : PySem.W.nsIn K mainGlobals "shortest_way" = some (some (.ref f_shortest_way)))
    (l_shortest_way : K.lookup f_shortest_way = some ⟨oc_shortest_way, od_shortest_way, .func (PySem.W.fnOf "shortest_way" "shortest_way" (defArgs s_shortest_way) (defBody s_shortest_way) (defScope s_shortest_way) .none kV_shortest_way dc_shortest_way pm_shortest_way an_shortest_way cd_shortest_way ct_shortest_way), sl_shortest_way⟩)
    (c_shortest_way : PySem.W.codeIn K cd_shortest_way "shortest_way" = true)
    (k_shortest_way : PySem.W.keepIn K (.ref f_shortest_way) = true)
    (a_run_along : PySem.W.nsIn K mainGlobals "run_along" = some (some (.ref f_run_along)))
    (l_run_along : K.lookup f_run_along = some ⟨oc_run_along, od_run_along, .func (PySem.W.fnOf "run_along" "run_along" (defArgs s_run_along) (defBody s_run_along) (defScope s_run_along) .none kV_run_along dc_run_along pm_run_along an_run_along cd_run_along ct_run_along), sl_run_along⟩)
    (c_run_along : PySem.W.codeIn K cd_run_along "run_along" = true)
    (k_run_along : PySem.W.keepIn K (.ref f_run_along) = true)
    (a_left_by_flow : PySem.W.nsIn K mainGlobals "left_by_flow" = some (some (.ref f_left_by_flow)))
    (l_left_by_flow : K.lookup f_left_by_flow = some ⟨oc_left_by_flow, od_left_by_flow, .func (PySem.W.fnOf "left_by_flow" "left_by_flow" (defArgs s_left_by_flow) (defBody s_left_by_flow) (defScope s_left_by_flow) .none kV_left_by_flow dc_left_by_flow pm_left_by_flow an_left_by_flow cd_left_by_flow ct_left_by_flow), sl_left_by_flow⟩)
    (c_left_by_flow : PySem.W.codeIn K cd_left_by_flow "left_by_flow" = true)
    (k_left_by_flow : PySem.W.keepIn K (.ref f_left_by_flow) = true)
    (a_flow : PySem.W.nsIn K mainGlobals "flow" = some (some (.ref f_flow)))
    (l_flow : K.lookup f_flow = some ⟨oc_flow, od_flow, .func (PySem.W.fnOf "flow" "flow" (defArgs s_flow) (defBody s_flow) (defScope s_flow) .none kV_flow dc_flow pm_flow an_flow cd_flow ct_flow), sl_flow⟩)
    (c_flow : PySem.W.codeIn K cd_flow "flow" = true)
    (k_flow : PySem.W.keepIn K (.ref f_flow) = true)
    (a_wall : PySem.W.nsIn K mainGlobals "wall" = some (some (.ref f_wall)))
    (l_wall : K.lookup f_wall = some ⟨oc_wall, od_wall, .func (PySem.W.fnOf "wall" "wall" (defArgs s_wall) (defBody s_wall) (defScope s_wall) .none kV_wall dc_wall pm_wall an_wall cd_wall ct_wall), sl_wall⟩)
    (c_wall : PySem.W.codeIn K cd_wall "wall" = true)
    (k_wall : PySem.W.keepIn K (.ref f_wall) = true)
    (a_take_over : PySem.W.nsIn K mainGlobals "take_over" = some (some (.ref f_take_over)))
    (l_take_over : K.lookup f_take_over = some ⟨oc_take_over, od_take_over, .func (PySem.W.fnOf "take_over" "take_over" (defArgs s_take_over) (defBody s_take_over) (defScope s_take_over) .none kV_take_over dc_take_over pm_take_over an_take_over cd_take_over ct_take_over), sl_take_over⟩)
    (c_take_over : PySem.W.codeIn K cd_take_over "take_over" = true)
    (k_take_over : PySem.W.keepIn K (.ref f_take_over) = true)
    (a_put_between : PySem.W.nsIn K mainGlobals "put_between" = some (some (.ref f_put_between)))
    (l_put_between : K.lookup f_put_between = some ⟨oc_put_between, od_put_between, .func (PySem.W.fnOf "put_between" "put_between" (defArgs s_put_between) (defBody s_put_between) (defScope s_put_between) .none kV_put_between dc_put_between pm_put_between an_put_between cd_put_between ct_put_between), sl_put_between⟩)
    (c_put_between : PySem.W.codeIn K cd_put_between "put_between" = true)
    (k_put_between : PySem.W.keepIn K (.ref f_put_between) = true)
    (a_tree : PySem.W.nsIn K mainGlobals "tree" = some (some (.ref f_tree)))
    (l_tree : K.lookup f_tree = some ⟨oc_tree, od_tree, .func (PySem.W.fnOf "tree" "tree" (defArgs s_tree) (defBody s_tree) (defScope s_tree) .none kV_tree dc_tree pm_tree an_tree cd_tree ct_tree), sl_tree⟩)
    (c_tree : PySem.W.codeIn K cd_tree "tree" = true)
    (k_tree : PySem.W.keepIn K (.ref f_tree) = true)
    (a_way_up : PySem.W.nsIn K mainGlobals "way_up" = some (some (.ref f_way_up)))
    (l_way_up : K.lookup f_way_up = some ⟨oc_way_up, od_way_up, .func (PySem.W.fnOf "way_up" "way_up" (defArgs s_way_up) (defBody s_way_up) (defScope s_way_up) .none kV_way_up dc_way_up pm_way_up an_way_up cd_way_up ct_way_up), sl_way_up⟩)
    (c_way_up : PySem.W.codeIn K cd_way_up "way_up" = true)
    (k_way_up : PySem.W.keepIn K (.ref f_way_up) = true)
    (a_places_below : PySem.W.nsIn K mainGlobals "places_below" = some (some (.ref f_places_below)))
    (l_places_below : K.lookup f_places_below = some ⟨oc_places_below, od_places_below, .func (PySem.W.fnOf "places_below" "places_below" (defArgs s_places_below) (defBody s_places_below) (defScope s_places_below) .none kV_places_below dc_places_below pm_places_below an_places_below cd_places_below ct_places_below), sl_places_below⟩)
    (c_places_below : PySem.W.codeIn K cd_places_below "places_below" = true)
    (k_places_below : PySem.W.keepIn K (.ref f_places_below) = true)
    (a_way_between : PySem.W.nsIn K mainGlobals "way_between" = some (some (.ref f_way_between)))
    (l_way_between : K.lookup f_way_between = some ⟨oc_way_between, od_way_between, .func (PySem.W.fnOf "way_between" "way_between" (defArgs s_way_between) (defBody s_way_between) (defScope s_way_between) .none kV_way_between dc_way_between pm_way_between an_way_between cd_way_between ct_way_between), sl_way_between⟩)
    (c_way_between : PySem.W.codeIn K cd_way_between "way_between" = true)
    (k_way_between : PySem.W.keepIn K (.ref f_way_between) = true)
    (a_bough_between : PySem.W.nsIn K mainGlobals "bough_between" = some (some (.ref f_bough_between)))
    (l_bough_between : K.lookup f_bough_between = some ⟨oc_bough_between, od_bough_between, .func (PySem.W.fnOf "bough_between" "bough_between" (defArgs s_bough_between) (defBody s_bough_between) (defScope s_bough_between) .none kV_bough_between dc_bough_between pm_bough_between an_bough_between cd_bough_between ct_bough_between), sl_bough_between⟩)
    (c_bough_between : PySem.W.codeIn K cd_bough_between "bough_between" = true)
    (k_bough_between : PySem.W.keepIn K (.ref f_bough_between) = true)
    (a_walls : PySem.W.nsIn K mainGlobals "walls" = some (some (.ref f_walls)))
    (l_walls : K.lookup f_walls = some ⟨oc_walls, od_walls, .func (PySem.W.fnOf "walls" "walls" (defArgs s_walls) (defBody s_walls) (defScope s_walls) .none kV_walls dc_walls pm_walls an_walls cd_walls ct_walls), sl_walls⟩)
    (c_walls : PySem.W.codeIn K cd_walls "walls" = true)
    (k_walls : PySem.W.keepIn K (.ref f_walls) = true)
    (a_cheapest : PySem.W.nsIn K mainGlobals "cheapest" = some (some (.ref f_cheapest)))
    (l_cheapest : K.lookup f_cheapest = some ⟨oc_cheapest, od_cheapest, .func (PySem.W.fnOf "cheapest" "cheapest" (defArgs s_cheapest) (defBody s_cheapest) (defScope s_cheapest) .none kV_cheapest dc_cheapest pm_cheapest an_cheapest (.ref cc_cheapest) ct_cheapest), sl_cheapest⟩)
    (c_cheapest : PySem.W.codeIn K (.ref cc_cheapest) "cheapest" = true)
    (k_cheapest : PySem.W.keepIn K (.ref f_cheapest) = true)
    (tI_cheapest : PySem.W.tabIn K "cheapest" = some (cc_cheapest, PP_cheapest))
    (nP_cheapest : K.lookup PP_cheapest = none)
    (a__law_cell_at : PySem.W.nsIn K mainGlobals "_law_cell_at" = some (some (.ref f__law_cell_at)))
    (l__law_cell_at : K.lookup f__law_cell_at = some ⟨oc__law_cell_at, od__law_cell_at, .func (PySem.W.fnOf "_law_cell_at" "_law_cell_at" (defArgs s__law_cell_at) (defBody s__law_cell_at) (defScope s__law_cell_at) .none kV__law_cell_at dc__law_cell_at pm__law_cell_at an__law_cell_at cd__law_cell_at ct__law_cell_at), sl__law_cell_at⟩)
    (c__law_cell_at : PySem.W.codeIn K cd__law_cell_at "_law_cell_at" = true)
    (k__law_cell_at : PySem.W.keepIn K (.ref f__law_cell_at) = true)
    (a__law_whole : PySem.W.nsIn K mainGlobals "_law_whole" = some (some (.ref f__law_whole)))
    (l__law_whole : K.lookup f__law_whole = some ⟨oc__law_whole, od__law_whole, .func (PySem.W.fnOf "_law_whole" "_law_whole" (defArgs s__law_whole) (defBody s__law_whole) (defScope s__law_whole) .none kV__law_whole dc__law_whole pm__law_whole an__law_whole cd__law_whole ct__law_whole), sl__law_whole⟩)
    (c__law_whole : PySem.W.codeIn K cd__law_whole "_law_whole" = true)
    (k__law_whole : PySem.W.keepIn K (.ref f__law_whole) = true)
    (a__law_many : PySem.W.nsIn K mainGlobals "_law_many" = some (some (.ref f__law_many)))
    (l__law_many : K.lookup f__law_many = some ⟨oc__law_many, od__law_many, .func (PySem.W.fnOf "_law_many" "_law_many" (defArgs s__law_many) (defBody s__law_many) (defScope s__law_many) .none kV__law_many dc__law_many pm__law_many an__law_many cd__law_many ct__law_many), sl__law_many⟩)
    (c__law_many : PySem.W.codeIn K cd__law_many "_law_many" = true)
    (k__law_many : PySem.W.keepIn K (.ref f__law_many) = true)
    (a__law_tie : PySem.W.nsIn K mainGlobals "_law_tie" = some (some (.ref f__law_tie)))
    (l__law_tie : K.lookup f__law_tie = some ⟨oc__law_tie, od__law_tie, .func (PySem.W.fnOf "_law_tie" "_law_tie" (defArgs s__law_tie) (defBody s__law_tie) (defScope s__law_tie) .none kV__law_tie dc__law_tie pm__law_tie an__law_tie cd__law_tie ct__law_tie), sl__law_tie⟩)
    (c__law_tie : PySem.W.codeIn K cd__law_tie "_law_tie" = true)
    (k__law_tie : PySem.W.keepIn K (.ref f__law_tie) = true)
    (a__law_ties : PySem.W.nsIn K mainGlobals "_law_ties" = some (some (.ref f__law_ties)))
    (l__law_ties : K.lookup f__law_ties = some ⟨oc__law_ties, od__law_ties, .func (PySem.W.fnOf "_law_ties" "_law_ties" (defArgs s__law_ties) (defBody s__law_ties) (defScope s__law_ties) .none kV__law_ties dc__law_ties pm__law_ties an__law_ties cd__law_ties ct__law_ties), sl__law_ties⟩)
    (c__law_ties : PySem.W.codeIn K cd__law_ties "_law_ties" = true)
    (k__law_ties : PySem.W.keepIn K (.ref f__law_ties) = true)
    (a__law_price : PySem.W.nsIn K mainGlobals "_law_price" = some (some (.ref f__law_price)))
    (l__law_price : K.lookup f__law_price = some ⟨oc__law_price, od__law_price, .func (PySem.W.fnOf "_law_price" "_law_price" (defArgs s__law_price) (defBody s__law_price) (defScope s__law_price) .none kV__law_price dc__law_price pm__law_price an__law_price cd__law_price ct__law_price), sl__law_price⟩)
    (c__law_price : PySem.W.codeIn K cd__law_price "_law_price" = true)
    (k__law_price : PySem.W.keepIn K (.ref f__law_price) = true)
    (a__law_led : PySem.W.nsIn K mainGlobals "_law_led" = some (some (.ref f__law_led)))
    (l__law_led : K.lookup f__law_led = some ⟨oc__law_led, od__law_led, .func (PySem.W.fnOf "_law_led" "_law_led" (defArgs s__law_led) (defBody s__law_led) (defScope s__law_led) .none kV__law_led dc__law_led pm__law_led an__law_led cd__law_led ct__law_led), sl__law_led⟩)
    (c__law_led : PySem.W.codeIn K cd__law_led "_law_led" = true)
    (k__law_led : PySem.W.keepIn K (.ref f__law_led) = true)
    (a__law_pair_right : PySem.W.nsIn K mainGlobals "_law_pair_right" = some (some (.ref f__law_pair_right)))
    (l__law_pair_right : K.lookup f__law_pair_right = some ⟨oc__law_pair_right, od__law_pair_right, .func (PySem.W.fnOf "_law_pair_right" "_law_pair_right" (defArgs s__law_pair_right) (defBody s__law_pair_right) (defScope s__law_pair_right) .none kV__law_pair_right dc__law_pair_right pm__law_pair_right an__law_pair_right cd__law_pair_right ct__law_pair_right), sl__law_pair_right⟩)
    (c__law_pair_right : PySem.W.codeIn K cd__law_pair_right "_law_pair_right" = true)
    (k__law_pair_right : PySem.W.keepIn K (.ref f__law_pair_right) = true)
    (a_law : PySem.W.nsIn K mainGlobals "law" = some (some (.ref f_law)))
    (l_law : K.lookup f_law = some ⟨oc_law, od_law, .func (PySem.W.fnOf "law" "law" (defArgs s_law) (defBody s_law) (defScope s_law) .none kV_law dc_law pm_law an_law cd_law ct_law), sl_law⟩)
    (c_law : PySem.W.codeIn K cd_law "law" = true)
    (k_law : PySem.W.keepIn K (.ref f_law) = true)
    (g_MOST_PLACES : PySem.W.nsIn K mainGlobals "MOST_PLACES" = some (some (.int 24 t_MOST_PLACES)))
    (g_MOST_TIES : PySem.W.nsIn K mainGlobals "MOST_TIES" = some (some (.int 300 t_MOST_TIES)))
    (g_TOP_PRICE : PySem.W.nsIn K mainGlobals "TOP_PRICE" = some (some (.int 1000000000 t_TOP_PRICE)))
    (nb_bool : PySem.W.nsIn K mainGlobals "bool" = some none)
    (nb_enumerate : PySem.W.nsIn K mainGlobals "enumerate" = some none)
    (nb_int : PySem.W.nsIn K mainGlobals "int" = some none)
    (nb_isinstance : PySem.W.nsIn K mainGlobals "isinstance" = some none)
    (nb_len : PySem.W.nsIn K mainGlobals "len" = some none)
    (nb_list : PySem.W.nsIn K mainGlobals "list" = some none)
    (nb_max : PySem.W.nsIn K mainGlobals "max" = some none)
    (nb_min : PySem.W.nsIn K mainGlobals "min" = some none)
    (nb_range : PySem.W.nsIn K mainGlobals "range" = some none)
    (nb_set : PySem.W.nsIn K mainGlobals "set" = some none)
    (nb_sorted : PySem.W.nsIn K mainGlobals "sorted" = some none)
    (nb_sum : PySem.W.nsIn K mainGlobals "sum" = some none)
    (nb_tuple : PySem.W.nsIn K mainGlobals "tuple" = some none)
    (nb_type : PySem.W.nsIn K mainGlobals "type" = some none)
    (gi_deque : PySem.W.nsIn K mainGlobals "deque" = some (some (.type "collections.deque")))
    (gi_pairwise : PySem.W.nsIn K mainGlobals "pairwise" = some (some (.type "itertools.pairwise")))
    : _root_.G.LawAtT l w K 9 63 "_law_script" mg fa "cheapest" := by
  have e := hfa.symm.trans (PySem.W.mg_of X G a_law)
  cases e
  exact ⟨_, cc_cheapest, PP_cheapest, spLawT K PP_cheapest, tI_cheapest, nP_cheapest, fun s v => .of_eq rfl, fun H a ns hl hP hS => ⟨a, ns, rfl, hS, hl, hP, fun _ => rfl⟩, fun base _ _ TB => ok_law (fun_mk (st := s_law) l_law c_law k_law) { f_is_whole := f_is_whole, d_is_whole := _, F_is_whole := fun_mk (st := s_is_whole) l_is_whole c_is_whole k_is_whole, b_is_whole := ((fun_mk (st := s_is_whole) l_is_whole c_is_whole k_is_whole).binds (ps := ["number", "low", "high"]) fun _ _ _ _ _ _ us hl => match us, hl with | [_, _, _], _ => rfl), m_is_whole := PySem.W.mg_of X G a_is_whole, f_is_place := f_is_place, d_is_place := _, F_is_place := fun_mk (st := s_is_place) l_is_place c_is_place k_is_place, b_is_place := ((fun_mk (st := s_is_place) l_is_place c_is_place k_is_place).binds (ps := ["many", "place"]) fun _ _ _ _ _ _ us hl => match us, hl with | [_, _], _ => rfl), m_is_place := PySem.W.mg_of X G a_is_place, f_is_tie := f_is_tie, d_is_tie := _, F_is_tie := fun_mk (st := s_is_tie) l_is_tie c_is_tie k_is_tie, b_is_tie := ((fun_mk (st := s_is_tie) l_is_tie c_is_tie k_is_tie).binds (ps := ["many", "tie"]) fun _ _ _ _ _ _ us hl => match us, hl with | [_, _], _ => rfl), m_is_tie := PySem.W.mg_of X G a_is_tie, f_check_net := f_check_net, d_check_net := _, F_check_net := fun_mk (st := s_check_net) l_check_net c_check_net k_check_net, b_check_net := ((fun_mk (st := s_check_net) l_check_net c_check_net k_check_net).binds (ps := ["many", "ties"]) fun _ _ _ _ _ _ us hl => match us, hl with | [_, _], _ => rfl), m_check_net := PySem.W.mg_of X G a_check_net, f_check_place := f_check_place, d_check_place := _, F_check_place := fun_mk (st := s_check_place) l_check_place c_check_place k_check_place, b_check_place := ((fun_mk (st := s_check_place) l_check_place c_check_place k_check_place).binds (ps := ["many", "place"]) fun _ _ _ _ _ _ us hl => match us, hl with | [_, _], _ => rfl), m_check_place := PySem.W.mg_of X G a_check_place, f_check_two := f_check_two, d_check_two := _, F_check_two := fun_mk (st := s_check_two) l_check_two c_check_two k_check_two, b_check_two := ((fun_mk (st := s_check_two) l_check_two c_check_two k_check_two).binds (ps := ["many", "one", "other"]) fun _ _ _ _ _ _ us hl => match us, hl with | [_, _, _], _ => rfl), m_check_two := PySem.W.mg_of X G a_check_two, f_check_side := f_check_side, d_check_side := _, F_check_side := fun_mk (st := s_check_side) l_check_side c_check_side k_check_side, b_check_side := ((fun_mk (st := s_check_side) l_check_side c_check_side k_check_side).binds (ps := ["many", "side"]) fun _ _ _ _ _ _ us hl => match us, hl with | [_, _], _ => rfl), m_check_side := PySem.W.mg_of X G a_check_side, f_costs_between := f_costs_between, d_costs_between := _, F_costs_between := fun_mk (st := s_costs_between) l_costs_between c_costs_between k_costs_between, b_costs_between := ((fun_mk (st := s_costs_between) l_costs_between c_costs_between k_costs_between).binds (ps := ["many", "ties"]) fun _ _ _ _ _ _ us hl => match us, hl with | [_, _], _ => rfl), m_costs_between := PySem.W.mg_of X G a_costs_between, f_Net_init := f_Net_init, d_Net_init := _, F_Net_init := fun_mk (st := s_Net_init) l_Net_init c_Net_init k_Net_init, b_Net_init := ((fun_mk (st := s_Net_init) l_Net_init c_Net_init k_Net_init).binds (ps := ["self", "many", "ties"]) fun _ _ _ _ _ _ us hl => match us, hl with | [_, _, _], _ => rfl), f_Net_ties := f_Net_ties, d_Net_ties := _, F_Net_ties := fun_mk (st := s_Net_ties) l_Net_ties c_Net_ties k_Net_ties, b_Net_ties := ((fun_mk (st := s_Net_ties) l_Net_ties c_Net_ties k_Net_ties).binds (ps := ["self"]) fun _ _ _ _ _ _ us hl => match us, hl with | [_], _ => rfl), f_Net_between := f_Net_between, d_Net_between := _, F_Net_between := fun_mk (st := s_Net_between) l_Net_between c_Net_between k_Net_between, b_Net_between := ((fun_mk (st := s_Net_between) l_Net_between c_Net_between k_Net_between).binds (ps := ["self", "one", "other"]) fun _ _ _ _ _ _ us hl => match us, hl with | [_, _, _], _ => rfl), f_Net_price := f_Net_price, d_Net_price := _, F_Net_price := fun_mk (st := s_Net_price) l_Net_price c_Net_price k_Net_price, b_Net_price := ((fun_mk (st := s_Net_price) l_Net_price c_Net_price k_Net_price).binds (ps := ["self", "side"]) fun _ _ _ _ _ _ us hl => match us, hl with | [_, _], _ => rfl), f_places_ahead := f_places_ahead, d_places_ahead := _, F_places_ahead := fun_mk (st := s_places_ahead) l_places_ahead c_places_ahead k_places_ahead, b_places_ahead := ((fun_mk (st := s_places_ahead) l_places_ahead c_places_ahead k_places_ahead).binds (ps := ["left", "one", "other"]) fun _ _ _ _ _ _ us hl => match us, hl with | [_, _, _], _ => rfl), m_places_ahead := PySem.W.mg_of X G a_places_ahead, f_shortest_way := f_shortest_way, d_shortest_way := _, F_shortest_way := fun_mk (st := s_shortest_way) l_shortest_way c_shortest_way k_shortest_way, b_shortest_way := ((fun_mk (st := s_shortest_way) l_shortest_way c_shortest_way k_shortest_way).binds (ps := ["left", "one", "other"]) fun _ _ _ _ _ _ us hl => match us, hl with | [_, _, _], _ => rfl), m_shortest_way := PySem.W.mg_of X G a_shortest_way, f_run_along := f_run_along, d_run_along := _, F_run_along := fun_mk (st := s_run_along) l_run_along c_run_along k_run_along, b_run_along := ((fun_mk (st := s_run_along) l_run_along c_run_along k_run_along).binds (ps := ["left", "pairs"]) fun _ _ _ _ _ _ us hl => match us, hl with | [_, _], _ => rfl), m_run_along := PySem.W.mg_of X G a_run_along, f_left_by_flow := f_left_by_flow, d_left_by_flow := _, F_left_by_flow := fun_mk (st := s_left_by_flow) l_left_by_flow c_left_by_flow k_left_by_flow, b_left_by_flow := ((fun_mk (st := s_left_by_flow) l_left_by_flow c_left_by_flow k_left_by_flow).binds (ps := ["net", "one", "other"]) fun _ _ _ _ _ _ us hl => match us, hl with | [_, _, _], _ => rfl), m_left_by_flow := PySem.W.mg_of X G a_left_by_flow, f_flow := f_flow, d_flow := _, F_flow := fun_mk (st := s_flow) l_flow c_flow k_flow, b_flow := ((fun_mk (st := s_flow) l_flow c_flow k_flow).binds (ps := ["net", "one", "other"]) fun _ _ _ _ _ _ us hl => match us, hl with | [_, _, _], _ => rfl), m_flow := PySem.W.mg_of X G a_flow, f_wall := f_wall, d_wall := _, F_wall := fun_mk (st := s_wall) l_wall c_wall k_wall, b_wall := ((fun_mk (st := s_wall) l_wall c_wall k_wall).binds (ps := ["net", "one", "other"]) fun _ _ _ _ _ _ us hl => match us, hl with | [_, _, _], _ => rfl), m_wall := PySem.W.mg_of X G a_wall, f_take_over := f_take_over, d_take_over := _, F_take_over := fun_mk (st := s_take_over) l_take_over c_take_over k_take_over, b_take_over := ((fun_mk (st := s_take_over) l_take_over c_take_over k_take_over).binds (ps := ["uppers", "place", "upper", "side"]) fun _ _ _ _ _ _ us hl => match us, hl with | [_, _, _, _], _ => rfl), m_take_over := PySem.W.mg_of X G a_take_over, f_put_between := f_put_between, d_put_between := _, F_put_between := fun_mk (st := s_put_between) l_put_between c_put_between k_put_between, b_put_between := ((fun_mk (st := s_put_between) l_put_between c_put_between k_put_between).binds (ps := ["uppers", "prices", "place", "upper"]) fun _ _ _ _ _ _ us hl => match us, hl with | [_, _, _, _], _ => rfl), m_put_between := PySem.W.mg_of X G a_put_between, f_tree := f_tree, d_tree := _, F_tree := fun_mk (st := s_tree) l_tree c_tree k_tree, b_tree := ((fun_mk (st := s_tree) l_tree c_tree k_tree).binds (ps := ["net"]) fun _ _ _ _ _ _ us hl => match us, hl with | [_], _ => rfl), m_tree := PySem.W.mg_of X G a_tree, f_way_up := f_way_up, d_way_up := _, F_way_up := fun_mk (st := s_way_up) l_way_up c_way_up k_way_up, b_way_up := ((fun_mk (st := s_way_up) l_way_up c_way_up k_way_up).binds (ps := ["boughs", "place"]) fun _ _ _ _ _ _ us hl => match us, hl with | [_, _], _ => rfl), m_way_up := PySem.W.mg_of X G a_way_up, f_places_below := f_places_below, d_places_below := _, F_places_below := fun_mk (st := s_places_below) l_places_below c_places_below k_places_below, b_places_below := ((fun_mk (st := s_places_below) l_places_below c_places_below k_places_below).binds (ps := ["boughs", "place"]) fun _ _ _ _ _ _ us hl => match us, hl with | [_, _], _ => rfl), m_places_below := PySem.W.mg_of X G a_places_below, f_way_between := f_way_between, d_way_between := _, F_way_between := fun_mk (st := s_way_between) l_way_between c_way_between k_way_between, b_way_between := ((fun_mk (st := s_way_between) l_way_between c_way_between k_way_between).binds (ps := ["boughs", "one", "other"]) fun _ _ _ _ _ _ us hl => match us, hl with | [_, _, _], _ => rfl), m_way_between := PySem.W.mg_of X G a_way_between, f_bough_between := f_bough_between, d_bough_between := _, F_bough_between := fun_mk (st := s_bough_between) l_bough_between c_bough_between k_bough_between, b_bough_between := ((fun_mk (st := s_bough_between) l_bough_between c_bough_between k_bough_between).binds (ps := ["boughs", "one", "other"]) fun _ _ _ _ _ _ us hl => match us, hl with | [_, _, _], _ => rfl), m_bough_between := PySem.W.mg_of X G a_bough_between, f_walls := f_walls, d_walls := _, F_walls := fun_mk (st := s_walls) l_walls c_walls k_walls, b_walls := ((fun_mk (st := s_walls) l_walls c_walls k_walls).binds (ps := ["net"]) fun _ _ _ _ _ _ us hl => match us, hl with | [_], _ => rfl), m_walls := PySem.W.mg_of X G a_walls, f_cheapest := f_cheapest, d_cheapest := _, F_cheapest := fun_mk (st := s_cheapest) l_cheapest c_cheapest k_cheapest, b_cheapest := ((fun_mk (st := s_cheapest) l_cheapest c_cheapest k_cheapest).binds (ps := ["net", "one", "other"]) fun _ _ _ _ _ _ us hl => match us, hl with | [_, _, _], _ => rfl), m_cheapest := PySem.W.mg_of X G a_cheapest, cc_cheapest := cc_cheapest, PP_cheapest := PP_cheapest, FT_cheapest := _root_.G.funT_mk (st := s_cheapest) l_cheapest c_cheapest, f__law_cell_at := f__law_cell_at, d__law_cell_at := _, F__law_cell_at := fun_mk (st := s__law_cell_at) l__law_cell_at c__law_cell_at k__law_cell_at, b__law_cell_at := ((fun_mk (st := s__law_cell_at) l__law_cell_at c__law_cell_at k__law_cell_at).binds (ps := ["_law_script", "_law_k"]) fun _ _ _ _ _ _ us hl => match us, hl with | [_, _], _ => rfl), m__law_cell_at := PySem.W.mg_of X G a__law_cell_at, f__law_whole := f__law_whole, d__law_whole := _, F__law_whole := fun_mk (st := s__law_whole) l__law_whole c__law_whole k__law_whole, b__law_whole := ((fun_mk (st := s__law_whole) l__law_whole c__law_whole k__law_whole).binds (ps := ["_law_found"]) fun _ _ _ _ _ _ us hl => match us, hl with | [_], _ => rfl), m__law_whole := PySem.W.mg_of X G a__law_whole, f__law_many := f__law_many, d__law_many := _, F__law_many := fun_mk (st := s__law_many) l__law_many c__law_many k__law_many, b__law_many := ((fun_mk (st := s__law_many) l__law_many c__law_many k__law_many).binds (ps := ["_law_script"]) fun _ _ _ _ _ _ us hl => match us, hl with | [_], _ => rfl), m__law_many := PySem.W.mg_of X G a__law_many, f__law_tie := f__law_tie, d__law_tie := _, F__law_tie := fun_mk (st := s__law_tie) l__law_tie c__law_tie k__law_tie, b__law_tie := ((fun_mk (st := s__law_tie) l__law_tie c__law_tie k__law_tie).binds (ps := ["_law_cell", "_law_many_here", "_law_top"]) fun _ _ _ _ _ _ us hl => match us, hl with | [_, _, _], _ => rfl), m__law_tie := PySem.W.mg_of X G a__law_tie, f__law_ties := f__law_ties, d__law_ties := _, F__law_ties := fun_mk (st := s__law_ties) l__law_ties c__law_ties k__law_ties, b__law_ties := ((fun_mk (st := s__law_ties) l__law_ties c__law_ties k__law_ties).binds (ps := ["_law_script", "_law_many_here"]) fun _ _ _ _ _ _ us hl => match us, hl with | [_, _], _ => rfl), m__law_ties := PySem.W.mg_of X G a__law_ties, f__law_price := f__law_price, d__law_price := _, F__law_price := fun_mk (st := s__law_price) l__law_price c__law_price k__law_price, b__law_price := ((fun_mk (st := s__law_price) l__law_price c__law_price k__law_price).binds (ps := ["_law_ties_here", "_law_side"]) fun _ _ _ _ _ _ us hl => match us, hl with | [_, _], _ => rfl), m__law_price := PySem.W.mg_of X G a__law_price, f__law_led := f__law_led, d__law_led := _, F__law_led := fun_mk (st := s__law_led) l__law_led c__law_led k__law_led, b__law_led := ((fun_mk (st := s__law_led) l__law_led c__law_led k__law_led).binds (ps := ["_law_rows", "_law_ties_here", "_law_many_here", "_law_one", "_law_other"]) fun _ _ _ _ _ _ us hl => match us, hl with | [_, _, _, _, _], _ => rfl), m__law_led := PySem.W.mg_of X G a__law_led, f__law_pair_right := f__law_pair_right, d__law_pair_right := _, F__law_pair_right := fun_mk (st := s__law_pair_right) l__law_pair_right c__law_pair_right k__law_pair_right, b__law_pair_right := ((fun_mk (st := s__law_pair_right) l__law_pair_right c__law_pair_right k__law_pair_right).binds (ps := ["_law_net", "_law_ties_here", "_law_sides", "_law_one", "_law_other"]) fun _ _ _ _ _ _ us hl => match us, hl with | [_, _, _, _, _], _ => rfl), m__law_pair_right := PySem.W.mg_of X G a__law_pair_right, C_Net := C_Net, cl_Net := ⟨pg_Net, hd_Net, po_Net, sa_Net⟩, m_Net := PySem.W.mg_of X G aC_Net, kc_Net := kc_Net, ci_Net := mk_Net, na_Net__costs := na_Net__costs, na_Net__ties := na_Net__ties, na_Net_many := na_Net_many, MK_Net := ⟨mk_Net, a_Net_init, i_Net_init, kc_Net⟩, mt_Net_ties := ⟨a_Net_ties, i_Net_ties, k_Net_ties⟩, mt_Net_between := ⟨a_Net_between, i_Net_between, k_Net_between⟩, mt_Net_price := ⟨a_Net_price, i_Net_price, k_Net_price⟩, t_MOST_PLACES := t_MOST_PLACES, c_MOST_PLACES := PySem.W.mg_of X G g_MOST_PLACES, t_MOST_TIES := t_MOST_TIES, c_MOST_TIES := PySem.W.mg_of X G g_MOST_TIES, t_TOP_PRICE := t_TOP_PRICE, c_TOP_PRICE := PySem.W.mg_of X G g_TOP_PRICE, n_bool := PySem.W.mg_none_of X G nb_bool, n_enumerate := PySem.W.mg_none_of X G nb_enumerate, n_int := PySem.W.mg_none_of X G nb_int, n_isinstance := PySem.W.mg_none_of X G nb_isinstance, n_len := PySem.W.mg_none_of X G nb_len, n_list := PySem.W.mg_none_of X G nb_list, n_max := PySem.W.mg_none_of X G nb_max, n_min := PySem.W.mg_none_of X G nb_min, n_range := PySem.W.mg_none_of X G nb_range, n_set := PySem.W.mg_none_of X G nb_set, n_sorted := PySem.W.mg_none_of X G nb_sorted, n_sum := PySem.W.mg_none_of X G nb_sum, n_tuple := PySem.W.mg_none_of X G nb_tuple, n_type := PySem.W.mg_none_of X G nb_type, m_deque := PySem.W.mg_of X G gi_deque, m_pairwise := PySem.W.mg_of X G gi_pairwise } TB⟩
theorem walk {l : PySem.W.OpenLaw} {q : Program} {loose : List Str} {XP : (Str → Option Value) → Heap → Prop} {YP : World → Heap → Prop} {d : DefRec} {K : Params → PySem.W.Frag} (hn : l.most = some 63) (hdf : d.params.defaults = []) (hrec : ((PyProof.Rows.recsOf q).find? fun e => e.name == ("cheapest" : Str)).isSome = true)
    (hY : ∀ (w : World) (h : Heap), YP w h → (K w.params).In h)
    (F : ∀ (w : World) (mg : Str → Option Value) (fa : Addr) (h : Heap), (K w.params).In h → h.Ns mainGlobals mg → mg d.name = some (.ref fa) → G.LawAtT l w (K w.params) 9 63 "_law_script" mg fa "cheapest") :
    PySem.W.WalkO q loose XP YP l.row.toRowW d [] (fun f vs => PySem.call f vs) :=
  G.walk_ofTab (n := 63) (k := 9) (x := "_law_script") "cheapest" hn (by decide) hdf ⟨rfl, by decide, by decide⟩ hrec hY F
end Toy
open PySem PySem.W PyProof.Rows
set_option maxRecDepth 100000 in
set_option maxHeartbeats 0 in
theorem PySem.Challenge.cw_onewalls_k09_whole_any_two_places_holds : PySem.Challenge.rw_onewalls_k09_whole_any_two_places.Holds := by
  w_on; o_law; k_head; (case hw => w_witness2)
  k_fill
  refine Toy.walk (l := PySem.Challenge.rw_onewalls_k09_whole_any_two_places) rfl rfl ?R (fun w h Y => PySem.W.km_in_of Y) ?F
  case R => first | kernel_rfl | rfl | decide +kernel
  case F =>
    intro w mg fa h KX G hmg
    refine' Toy.all_mk KX G hmg ?aC_Net ?pg_Net ?hd_Net ?po_Net ?sa_Net ?mk_Net ?kc_Net ?na_Net__costs ?na_Net__ties ?na_Net_many ?a_is_whole ?l_is_whole ?c_is_whole ?k_is_whole ?a_is_place ?l_is_place ?c_is_place ?k_is_place ?a_is_tie ?l_is_tie ?c_is_tie ?k_is_tie ?a_check_net ?l_check_net ?c_check_net ?k_check_net ?a_check_place ?l_check_place ?c_check_place ?k_check_place ?a_check_two ?l_check_two ?c_check_two ?k_check_two ?a_check_side ?l_check_side ?c_check_side ?k_check_side ?a_costs_between ?l_costs_between ?c_costs_between ?k_costs_between ?a_Net_init ?i_Net_init ?l_Net_init ?c_Net_init ?k_Net_init ?a_Net_ties ?i_Net_ties ?l_Net_ties ?c_Net_ties ?k_Net_ties ?a_Net_between ?i_Net_between ?l_Net_between ?c_Net_between ?k_Net_between ?a_Net_price ?i_Net_price ?l_Net_price ?c_Net_price ?k_Net_price ?a_places_ahead ?l_places_ahead ?c_places_ahead ?k_places_ahead ?a_shortest_way ?l_shortest_way ?c_shortest_way ?k_shortest_way ?a_run_along ?l_run_along ?c_run_along ?k_run_along ?a_left_by_flow ?l_left_by_flow ?c_left_by_flow ?k_left_by_flow ?a_flow ?l_flow ?c_flow ?k_flow ?a_wall ?l_wall ?c_wall ?k_wall ?a_take_over ?l_take_over ?c_take_over ?k_take_over ?a_put_between ?l_put_between ?c_put_between ?k_put_between ?a_tree ?l_tree ?c_tree ?k_tree ?a_way_up ?l_way_up ?c_way_up ?k_way_up ?a_places_below ?l_places_below ?c_places_below ?k_places_below ?a_way_between ?l_way_between ?c_way_between ?k_way_between ?a_bough_between ?l_bough_between ?c_bough_between ?k_bough_between ?a_walls ?l_walls ?c_walls ?k_walls ?a_cheapest ?l_cheapest ?c_cheapest ?k_cheapest ?tI_cheapest ?nP_cheapest ?a__law_cell_at ?l__law_cell_at ?c__law_cell_at ?k__law_cell_at ?a__law_whole ?l__law_whole ?c__law_whole ?k__law_whole ?a__law_many ?l__law_many ?c__law_many ?k__law_many ?a__law_tie ?l__law_tie ?c__law_tie ?k__law_tie ?a__law_ties ?l__law_ties ?c__law_ties ?k__law_ties ?a__law_price ?l__law_price ?c__law_price ?k__law_price ?a__law_led ?l__law_led ?c__law_led ?k__law_led ?a__law_pair_right ?l__law_pair_right ?c__law_pair_right ?k__law_pair_right ?a_law ?l_law ?c_law ?k_law ?g_MOST_PLACES ?g_MOST_TIES ?g_TOP_PRICE ?nb_bool ?nb_enumerate ?nb_int ?nb_isinstance ?nb_len ?nb_list ?nb_max ?nb_min ?nb_range ?nb_set ?nb_sorted ?nb_sum ?nb_tuple ?nb_type ?gi_deque ?gi_pairwise
    (case aC_Net => k_is)
    (case pg_Net => k_is)
    (case hd_Net => k_is)
    (case po_Net => k_is)
    (case sa_Net => k_is)
    (case mk_Net => k_is)
    (case kc_Net => k_is)
    (case na_Net__costs => k_is)
    (case na_Net__ties => k_is)
    (case na_Net_many => k_is)
    (case a_is_whole => k_is)
    (case l_is_whole => k_is)
    (case c_is_whole => k_is)
    (case k_is_whole => k_is)
    (case a_is_place => k_is)
    (case l_is_place => k_is)
    (case c_is_place => k_is)
    (case k_is_place => k_is)
    (case a_is_tie => k_is)
    (case l_is_tie => k_is)
    (case c_is_tie => k_is)
    (case k_is_tie => k_is)
    (case a_check_net => k_is)
    (case l_check_net => k_is)
    (case c_check_net => k_is)
    (case k_check_net => k_is)
    (case a_check_place => k_is)
    (case l_check_place => k_is)
    (case c_check_place => k_is)
    (case k_check_place => k_is)
    (case a_check_two => k_is)
    (case l_check_two => k_is)
    (case c_check_two => k_is)
    (case k_check_two => k_is)
    (case a_check_side => k_is)
    (case l_check_side => k_is)
    (case c_check_side => k_is)
    (case k_check_side => k_is)
    (case a_costs_between => k_is)
    (case l_costs_between => k_is)
    (case c_costs_between => k_is)
    (case k_costs_between => k_is)
    (case a_Net_init => k_is)
    (case i_Net_init => k_is)
    (case l_Net_init => k_is)
    (case c_Net_init => k_is)
    (case k_Net_init => k_is)
    (case a_Net_ties => k_is)
    (case i_Net_ties => k_is)
    (case l_Net_ties => k_is)
    (case c_Net_ties => k_is)
    (case k_Net_ties => k_is)
    (case a_Net_between => k_is)
    (case i_Net_between => k_is)
    (case l_Net_between => k_is)
    (case c_Net_between => k_is)
    (case k_Net_between => k_is)
    (case a_Net_price => k_is)
    (case i_Net_price => k_is)
    (case l_Net_price => k_is)
    (case c_Net_price => k_is)
    (case k_Net_price => k_is)
    (case a_places_ahead => k_is)
    (case l_places_ahead => k_is)
    (case c_places_ahead => k_is)
    (case k_places_ahead => k_is)
    (case a_shortest_way => k_is)
    (case l_shortest_way => k_is)
    (case c_shortest_way => k_is)
    (case k_shortest_way => k_is)
    (case a_run_along => k_is)
    (case l_run_along => k_is)
    (case c_run_along => k_is)
    (case k_run_along => k_is)
    (case a_left_by_flow => k_is)
    (case l_left_by_flow => k_is)
    (case c_left_by_flow => k_is)
    (case k_left_by_flow => k_is)
    (case a_flow => k_is)
    (case l_flow => k_is)
    (case c_flow => k_is)
    (case k_flow => k_is)
    (case a_wall => k_is)
    (case l_wall => k_is)
    (case c_wall => k_is)
    (case k_wall => k_is)
    (case a_take_over => k_is)
    (case l_take_over => k_is)
    (case c_take_over => k_is)
    (case k_take_over => k_is)
    (case a_put_between => k_is)
    (case l_put_between => k_is)
    (case c_put_between => k_is)
    (case k_put_between => k_is)
    (case a_tree => k_is)
    (case l_tree => k_is)
    (case c_tree => k_is)
    (case k_tree => k_is)
    (case a_way_up => k_is)
    (case l_way_up => k_is)
    (case c_way_up => k_is)
    (case k_way_up => k_is)
    (case a_places_below => k_is)
    (case l_places_below => k_is)
    (case c_places_below => k_is)
    (case k_places_below => k_is)
    (case a_way_between => k_is)
    (case l_way_between => k_is)
    (case c_way_between => k_is)
    (case k_way_between => k_is)
    (case a_bough_between => k_is)
    (case l_bough_between => k_is)
    (case c_bough_between => k_is)
    (case k_bough_between => k_is)
    (case a_walls => k_is)
    (case l_walls => k_is)
    (case c_walls => k_is)
    (case k_walls => k_is)
    (case a_cheapest => k_is)
    (case l_cheapest => k_is)
    (case c_cheapest => k_is)
    (case k_cheapest => k_is)
    (case tI_cheapest => first | rfl | k_is)
    (case nP_cheapest => first | rfl | k_is)
    (case a__law_cell_at => k_is)
    (case l__law_cell_at => k_is)
    (case c__law_cell_at => k_is)
    (case k__law_cell_at => k_is)
    (case a__law_whole => k_is)
    (case l__law_whole => k_is)
    (case c__law_whole => k_is)
    (case k__law_whole => k_is)
    (case a__law_many => k_is)
    (case l__law_many => k_is)
    (case c__law_many => k_is)
    (case k__law_many => k_is)
    (case a__law_tie => k_is)
    (case l__law_tie => k_is)
    (case c__law_tie => k_is)
    (case k__law_tie => k_is)
    (case a__law_ties => k_is)
    (case l__law_ties => k_is)
    (case c__law_ties => k_is)
    (case k__law_ties => k_is)
    (case a__law_price => k_is)
    (case l__law_price => k_is)
    (case c__law_price => k_is)
    (case k__law_price => k_is)
    (case a__law_led => k_is)
    (case l__law_led => k_is)
    (case c__law_led => k_is)
    (case k__law_led => k_is)
    (case a__law_pair_right => k_is)
    (case l__law_pair_right => k_is)
    (case c__law_pair_right => k_is)
    (case k__law_pair_right => k_is)
    (case a_law => k_is)
    (case l_law => k_is)
    (case c_law => k_is)
    (case k_law => k_is)
    (case g_MOST_PLACES => k_is)
    (case g_MOST_TIES => k_is)
    (case g_TOP_PRICE => k_is)
    (case nb_bool => k_is)
    (case nb_enumerate => k_is)
    (case nb_int => k_is)
    (case nb_isinstance => k_is)
    (case nb_len => k_is)
    (case nb_list => k_is)
    (case nb_max => k_is)
    (case nb_min => k_is)
    (case nb_range => k_is)
    (case nb_set => k_is)
    (case nb_sorted => k_is)
    (case nb_sum => k_is)
    (case nb_tuple => k_is)
    (case nb_type => k_is)
    (case gi_deque => k_is)
    (case gi_pairwise => k_is)
