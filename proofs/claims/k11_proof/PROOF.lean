import PyProof.Rows.All
import Wide.All
import OpenK.AllK
import Wide.FinOn
import HandS.Base
import HandS.Call
import HandS.List
import HandS.More
import HandS.Evl
import HandS.Comp
import HandS.Ends
import HandS.Words
import HandS.WordsList
import HandS.WordsDict
import HandS.WordsExc
import HandS.Dict
import HandS.Iter
import HandS.Text
import HandS.IsInst
import HandS.Zip
import HandS.SortInts
import HandS.Conv
import HandS.FStr
import HandS.Exc
import HandS.ExcOwn
import HandS.ExcIs
import HandS.TryOnly
import HandS.RaiseMore
import HandS.WordsExc
import HandS.ExcCtx
import HandS.SuiteRaise
import HandS.RaiseFrom
import KE.GoesComp
import PySem.Challenge.RW_onewalls_k11_texts_refused
set_option Elab.async false
set_option linter.all false
set_option maxRecDepth 100000
set_option maxHeartbeats 4000000
namespace G
open PySem PySem.Spec PyProof.Rows L2
theorem slot_type_ne : Slot "type" (cmpInfo .NotEq).2.1 "object.__ne__" :=
  .of (owner := "object") (n := "__ne__") (by rw [typeLookup_type, builtinLookup_eq_fast]; kernel_rfl) (by decide +kernel) (by decide +kernel) (by decide +kernel)
    (by first | exact .inl (by decide +kernel) | exact .inr (by decide +kernel)) (by rw [isSubtype_type]; kernel_rfl)
theorem slot_type_ne_refl : Slot "type" (cmpInfo .NotEq).2.2 "object.__ne__" :=
  .of (owner := "object") (n := "__ne__") (by rw [typeLookup_type, builtinLookup_eq_fast]; kernel_rfl) (by decide +kernel) (by decide +kernel) (by decide +kernel)
    (by first | exact .inl (by decide +kernel) | exact .inr (by decide +kernel)) (by rw [isSubtype_type]; kernel_rfl)
section
variable {prog : Program} {w : World} {A : Around} {E : Value → Shared → Prop} {s : Shared}
theorem special_eq_type_same {X : String} (hX : ∀ s' : Shared, s'.TypeIs (.type X) "type") {Q : Option Value → Shared → Prop} (h : Q (some (.bool true)) s) : wpAny (model prog w) A (callSpecialIfBound? (.type X) "__eq__" [.type X]) Q E s :=
  wpAny_callSpecialIfBound?_slot (hX s) TypeEq.slot_type_eq (call_gives TypeEq.slot_type_eq (hX s) F.entry_object_eq (F.args_object_eq_2 _ _) (TypeEq.object_eq_same rfl (by simp)) h)
theorem special_eq_type_other {X Y : String} (hX : ∀ s' : Shared, s'.TypeIs (.type X) "type") (hne : (Value.type X == Value.type Y) = false) {Q : Option Value → Shared → Prop} (h : Q (some .notImplemented) s) : wpAny (model prog w) A (callSpecialIfBound? (.type X) "__eq__" [.type Y]) Q E s :=
  wpAny_callSpecialIfBound?_slot (hX s) TypeEq.slot_type_eq (call_gives TypeEq.slot_type_eq (hX s) F.entry_object_eq (F.args_object_eq_2 _ _) (TypeEq.object_eq_other rfl hne) h)
theorem call_ne_same {X : String} (hX : ∀ s' : Shared, s'.TypeIs (.type X) "type") {Q : Value → Shared → Prop} (h : Q (.bool false) s) : wpAny (model prog w) A (call (.builtin "object.__ne__") [.type X, .type X]) Q E s := by
  refine wpAny_call_entry slot_type_ne (hX s) F.cmpEntry_ne ?_ (F.cmpArgs_ne _ _)
  unfold Builtin.«object.__ne__»
  repeat (first | with_reducible refine wpAny_cRoomFor_or (.inl rfl) ?_ | with_reducible refine special_eq_type_same hX ?_ | wp_step)
  exact ⟨_, rfl, h⟩
theorem call_ne_other {X Y : String} (hX : ∀ s' : Shared, s'.TypeIs (.type X) "type") (hne : (Value.type X == Value.type Y) = false) {Q : Value → Shared → Prop} (h : Q .notImplemented s) : wpAny (model prog w) A (call (.builtin "object.__ne__") [.type X, .type Y]) Q E s := by
  refine wpAny_call_entry slot_type_ne (hX s) F.cmpEntry_ne ?_ (F.cmpArgs_ne _ _)
  unfold Builtin.«object.__ne__»
  repeat (first | with_reducible refine wpAny_cRoomFor_or (.inl rfl) ?_ | with_reducible refine special_eq_type_other hX hne ?_ | wp_step)
  exact ⟨_, rfl, h⟩
theorem ne_type_same {X : String} (hX : ∀ s' : Shared, s'.TypeIs (.type X) "type") {Q : Value → Shared → Prop} (h : Q (.bool false) s) : wpAny (model prog w) A (compareOp .NotEq (.type X) (.type X)) Q E s := by
  show wpAny _ A (richCompare .NotEq _ _) Q E s
  exact wpAny_richCompare_same (T := "type") (hX s) (hX s) slot_type_ne (call_ne_same hX ⟨(by intro e; cases e), h⟩)
theorem richCompare_ne_same_decline {M : Model} {a b : Value} {T id : String} {k : Bool} {Q : Value → Shared → Prop} (ha : ∀ s' : Shared, s'.TypeIs a T) (hb : ∀ s' : Shared, s'.TypeIs b T)
    (h1 : Slot T (cmpInfo .NotEq).2.1 id) (h2 : Slot T (cmpInfo .NotEq).2.2 id) (hv : [a, b].any Value.onHeap = false) (hk : isSame a b = pure k)
    (hc : wpAny M A (call (.builtin id) [a, b]) (fun v s₁ => v = .notImplemented ∧ wpAny M A (call (.builtin id) [b, a]) (fun v s₂ => v = .notImplemented ∧ Q (.bool !k) s₂) E s₁) E s) :
    wpAny M A (richCompare .NotEq a b) Q E s := by
  rcases hi : cmpInfo CmpOp.NotEq with ⟨sym, f, r⟩
  rw [hi] at h1 h2
  simp only [richCompare, hi, (ha s).oneThing_none]
  try with_reducible refine wpAny_holding ?_
  refine wpAny_bind (wpAny_cRoomFor_or (.inl hv) ?_)
  refine wpAny_bind (wpAny_typeOf (ha s) (wpAny_bind (wpAny_typeOf (hb s) ?_)))
  simp only [bne_self_eq_false, Bool.false_eq_true, if_false, pure_bind, Bool.not_false, if_true]
  refine wpAny_bind (m := tryCompare a _ b) (wpAny_tryCompare_declines (ha s) h1 (wpAny_mono hc (fun v s₁ h₁ => ⟨h₁.1, ?_⟩) fun _ _ x => x))
  refine wpAny_bind (m := tryCompare b _ a) (wpAny_tryCompare_declines (hb s₁) h2 (wpAny_mono h₁.2 (fun v s₂ h₂ => ⟨h₂.1, ?_⟩) fun _ _ x => x))
  refine wpAny_bind (wpAny_rule (wpAny_bind (wpAny_of_eq hk (wpAny_pure h₂.2))))
theorem ne_type_other {X Y : String} (hX : ∀ s' : Shared, s'.TypeIs (.type X) "type") (hY : ∀ s' : Shared, s'.TypeIs (.type Y) "type") (hne : (Value.type X == Value.type Y) = false) {Q : Value → Shared → Prop} (h : Q (.bool true) s) : wpAny (model prog w) A (compareOp .NotEq (.type X) (.type Y)) Q E s := by
  have hne' : (Value.type Y == Value.type X) = false := by
    rw [Bool.eq_false_iff] at hne ⊢
    intro e
    exact hne (by rw [beq_iff_eq] at e ⊢; exact e.symm)
  show wpAny _ A (richCompare .NotEq _ _) Q E s
  exact richCompare_ne_same_decline (T := "type") (k := false) hX hY slot_type_ne slot_type_ne_refl rfl (by rw [isSame_plain rfl, hne])
    (call_ne_other hX hne ⟨rfl, call_ne_other hY hne' ⟨rfl, h⟩⟩)
/-- types whose own type is type -/
def Ty8 (a : String) : Prop := a = "NoneType" ∨ a = "bool" ∨ a = "int" ∨ a = "str" ∨ a = "list" ∨ a = "tuple" ∨ a = "dict"
theorem Ty8.meta {a : String} (h : Ty8 a) : ∀ s' : Shared, s'.TypeIs (.type a) "type" := by
  rcases h with rfl | rfl | rfl | rfl | rfl | rfl | rfl
  · exact TypeEq.meta_NoneType
  · exact TypeEq.meta_bool
  · exact TypeEq.meta_int
  · exact TypeEq.meta_str
  · exact TypeEq.meta_list
  · exact TypeEq.meta_tuple
  · exact TypeEq.meta_dict
end
section
variable {X : Cx}
def rTyEq : R2 := fun x y H Q => ∃ a b, x = .ty a ∧ y = .ty b ∧ Ty8 a ∧ Ty8 b ∧ Q (.bl (decide (a = b))) H
def rTyNe : R2 := fun x y H Q => ∃ a b, x = .ty a ∧ y = .ty b ∧ Ty8 a ∧ Ty8 b ∧ Q (.bl (!decide (a = b))) H
theorem op_eqTy : OpR X (compareOp .Eq) rTyEq := by
  intro pins s σ H x y v u Q I rx ry h
  obtain ⟨a, b, rfl, rfl, ha, hb, q⟩ := h
  cases (show v = Value.type a from rx)
  cases (show u = Value.type b from ry)
  by_cases e : a = b
  · subst e
    rw [decide_eq_true rfl] at q
    exact TypeEq.eq_type_same ha.meta ⟨.bl true, H, I, rfl, q⟩
  · rw [decide_eq_false e] at q
    exact TypeEq.eq_type_other ha.meta hb.meta ((ty_beq a b).trans (decide_eq_false e)) ⟨.bl false, H, I, rfl, q⟩
theorem op_neTy : OpR X (compareOp .NotEq) rTyNe := by
  intro pins s σ H x y v u Q I rx ry h
  obtain ⟨a, b, rfl, rfl, ha, hb, q⟩ := h
  cases (show v = Value.type a from rx)
  cases (show u = Value.type b from ry)
  by_cases e : a = b
  · subst e
    rw [decide_eq_true rfl] at q
    exact ne_type_same ha.meta ⟨.bl false, H, I, rfl, q⟩
  · rw [decide_eq_false e] at q
    exact ne_type_other ha.meta hb.meta ((ty_beq a b).trans (decide_eq_false e)) ⟨.bl true, H, I, rfl, q⟩
/-- xs[i], by values -/
theorem pg_list : PGet X (rIxL X.K) := by
  intro pins s σ H x y v u Q I rx ry h
  obtain ⟨p, xs, i, z, rfl, rfl, hq, he, q⟩ := h
  cases rx
  obtain ⟨t, rfl⟩ := ry
  obtain ⟨its, r, pl, hz⟩ := I.list hq
  obtain ⟨j, h1, h2, h3, h4, h5⟩ := atI_get he
  obtain ⟨w, ew, rw'⟩ := r.get h2
  have hl := r.length
  have hn := line63
  have fin : EP X pins σ Q w s := ⟨z, H, I, rw', q⟩
  by_cases h0 : 0 ≤ i
  · have hj : i.toNat = j := by
      rw [seqIndex_of h0 h5] at h1
      exact Option.some.inj h1
    exact wpAny_getItem_list pl.isList h0 (by omega) (by rw [hj]; simpa using ew) fin
  · have hj : (i + (its.toArray.size : Int)).toNat = j := by
      rw [seqIndex_neg (by omega) h4] at h1
      rw [List.size_toArray, ← hl]
      exact Option.some.inj h1
    exact wpAny_getItem_list_neg pl.isList (by omega) (by rw [List.size_toArray] <;> omega) (by omega) (by rw [hj]; simpa using ew) fin
end
end G

namespace G
open PySem PySem.Spec PyProof.Rows L2 Evl RZ
/-! ### evaluation, further -/
section
variable {K : PySem.W.Frag} {σ : L2.St} {H H' : Hp} {ta tb tc te : TE} {t u : TT} {x y z v : V} {r r' : R2}
theorem ev_chain {a b : Bool} (ha : Ev ta σ H x) (hb : Ev tb σ H y) (hr : RV r x y H (.bl a)) (hc : a = true → Ev tc σ H z) (hr' : a = true → RV r' y z H (.bl b)) : Ev (tChain r r' ta tb tc) σ H (.bl (a && b)) := fun H1 e Q q =>
  ha H1 e _ fun H2 e2 => hb H2 (e.trans e2) _ fun H3 e3 => hr H3 ((e.trans e2).trans e3) _ fun H4 e4 => ⟨a, rfl, by
    cases a with
    | true =>
      refine iteT ?_
      exact hc rfl H4 (((e.trans e2).trans e3).trans e4) _ fun H5 e5 => hr' rfl H5 ((((e.trans e2).trans e3).trans e4).trans e5) Q fun H6 e6 => q H6 ((((e2.trans e3).trans e4).trans e5).trans e6)
    | false => exact iteF (q H4 ((e2.trans e3).trans e4))⟩
theorem rv_tyEq {a b : String} (ha : Ty8 a) (hb : Ty8 b) : RV rTyEq (.ty a) (.ty b) H (.bl (decide (a = b))) := fun H1 _ _ q => ⟨a, b, rfl, rfl, ha, hb, q H1 (Ex.refl H1)⟩
theorem rv_tyNe {a b : String} (ha : Ty8 a) (hb : Ty8 b) : RV rTyNe (.ty a) (.ty b) H (.bl (!decide (a = b))) := fun H1 _ _ q => ⟨a, b, rfl, rfl, ha, hb, q H1 (Ex.refl H1)⟩
theorem ty_ex {T : String} (e : Ex H H') (h : TyB K H x T) : TyB K H' x T := by
  cases h with
  | non => exact .non
  | bl b => exact .bl b
  | int i => exact .int i
  | str x => exact .str x
  | byt b => exact .byt b
  | lst h => exact .lst (ex_l e h)
  | tup h => exact .tup (ex_t e h)
  | dK h => exact .dK (e _ _ h)
theorem rc_type {T : String} (h : TyB K H x T) : RC (rTyp K) [x] H (.ty T) := fun H1 e _ q => ⟨x, T, rfl, ty_ex e h, q H1 (Ex.refl H1)⟩
/-- type(x) -/
theorem ev_type {T : String} (ha : Ev ta σ H x) (h : TyB K H x T) : Ev (tCB (rTyp K) (tCons ta tNil)) σ H (.ty T) := ev_cb (ea_cons ha ea_nil) (rc_type h)
theorem t8int : Ty8 "int" := .inr (.inr (.inl rfl))
theorem t8str : Ty8 "str" := .inr (.inr (.inr (.inl rfl)))
theorem t8list : Ty8 "list" := .inr (.inr (.inr (.inr (.inl rfl))))
theorem t8tuple : Ty8 "tuple" := .inr (.inr (.inr (.inr (.inr (.inl rfl)))))
theorem ev_fld {a C dx : Addr} {fs : List (Str × V)} {f : Str} (ha : Ev ta σ H (.ref a)) (h : H a = some (.ins C dx fs)) (c : Cls K C) (n : NoAttr K C f) (l : fs.lookup f = some v) : Ev (tFld K ta f) σ H v := fun H1 e _ q =>
  ha H1 e _ fun H2 e2 => ⟨a, C, dx, fs, v, rfl, e2 _ _ (e _ _ h), c, n, l, q H2 e2⟩
theorem ev_lenS {p : Addr} {xs : List V} (ha : Ev ta σ H (.ref p)) (h : SqL K H p xs ∨ SqT K H p xs) : Ev (tCB (fun xs H Q => ∃ p ys, xs = [.ref p] ∧ (SqL K H p ys ∨ SqT K H p ys) ∧ Q (.int ys.length) H) (tCons ta tNil)) σ H (.int (xs.length : Int)) := fun H1 e Q q =>
  ha H1 e _ fun H2 e2 => ⟨p, xs, rfl, h.elim (fun h => .inl (ex_l (e.trans e2) h)) (fun h => .inr (ex_t (e.trans e2) h)), q H2 e2⟩
theorem ev_meth {a C dx : Addr} {fs : List (Str × V)} {m : Str} {sp : Sp} {dvs vs : List V} {E : XK} {tr : TA} (ha : Ev ta σ H (.ref a)) (h : H a = some (.ins C dx fs)) (l : fs.lookup m = none) (hv : EvA tr σ H vs) (hs : SpV sp (.ref a :: (vs ++ dvs)) H z) :
    Ev (tMeth C m sp dvs E ta tr) σ H z := fun H1 e Q q =>
  ha H1 e _ fun H2 e2 => ⟨a, dx, fs, rfl, e2 _ _ (e _ _ h), l, hv H2 (e.trans e2) _ fun H3 e3 => hs H3 ((e.trans e2).trans e3) Q (fun H4 e4 => q H4 ((e2.trans e3).trans e4)) E⟩
theorem el_meth {a C dx : Addr} {fs : List (Str × V)} {m : Str} {sp : Sp} {dvs vs xs : List V} {E : XK} {tr : TA} (ha : Ev ta σ H (.ref a)) (h : H a = some (.ins C dx fs)) (l : fs.lookup m = none) (hv : EvA tr σ H vs) (hs : SpL sp (.ref a :: (vs ++ dvs)) H xs) :
    EvL (tMeth C m sp dvs E ta tr) σ H xs := fun H1 e Q q =>
  ha H1 e _ fun H2 e2 => ⟨a, dx, fs, rfl, e2 _ _ (e _ _ h), l, hv H2 (e.trans e2) _ fun H3 e3 => hs H3 ((e.trans e2).trans e3) Q (fun p H4 hp e4 h4 => q p H4 (fresh_back e2 (fresh_back e3 hp)) ((e2.trans e3).trans e4) h4) E⟩
end
/-! ### statements from a base: H0 (what is known), H (where we are) -/
section
variable {K : PySem.W.Frag} {σ : L2.St} {H0 H : Hp} {ta tb te : TE} {t : TT} {x y v : V} {D : Ends} {tu tw tz : TS}
theorem p_asg {i : Nat} (e : Ex H0 H) (h : Ev te σ H0 v) (k : ∀ H1, Ex H0 H1 → Ex H H1 → tz D (σ.set i (some v)) H1) : tSeq (tAsg te (gName i)) tz D σ H := q_asg (h.mono e) fun H1 e1 => k H1 (e.trans e1) e1
theorem p_asgL {i : Nat} {xs : List V} (e : Ex H0 H) (h : EvL te σ H0 xs) (k : ∀ p H1, H p = none → Ex H0 H1 → Ex H H1 → H1 p = some (.lst xs) → tz D (σ.set i (some (.ref p))) H1) : tSeq (tAsg te (gName i)) tz D σ H := q_asgL (h.mono e) fun p H1 hp e1 h1 => k p H1 hp (e.trans e1) e1 h1
theorem p_drop (e : Ex H0 H) (h : Ev te σ H0 v) (k : ∀ H1, Ex H0 H1 → Ex H H1 → tz D σ H1) : tSeq (tDrop te) tz D σ H := q_drop (h.mono e) fun H1 e1 => k H1 (e.trans e1) e1
theorem p_dropE (e : Ex H0 H) (h : Ev te σ H0 v) (k : ∀ H1, Ex H0 H1 → Ex H H1 → D.nx σ H1) : tDrop te D σ H := s_drop (h.mono e) fun H1 e1 => k H1 (e.trans e1) e1
theorem p_ret (e : Ex H0 H) (h : Ev te σ H0 v) (k : ∀ H1, Ex H0 H1 → D.rt v H1) : tRet te D σ H := s_ret (h.mono e) fun H1 e1 => k H1 (e.trans e1)
theorem p_retL {xs : List V} (e : Ex H0 H) (h : EvL te σ H0 xs) (k : ∀ p H1, H0 p = none → Ex H0 H1 → H1 p = some (.lst xs) → D.rt (.ref p) H1) : tRet te D σ H := s_retL (h.mono e) fun p H1 hp e1 h1 => k p H1 (fresh_back e hp) (e.trans e1) h1
theorem p_retU {xs : List V} (e : Ex H0 H) (h : EvU te σ H0 xs) (k : ∀ p H1, H0 p = none → Ex H0 H1 → H1 p = some (.tup xs) → D.rt (.ref p) H1) : tRet te D σ H := s_retU (fun H1 e1 => h H1 (e.trans e1)) fun p H1 hp e1 h1 => k p H1 (fresh_back e hp) (e.trans e1) h1
theorem p_if {b : Bool} (e : Ex H0 H) (h : EvT t σ H0 b) (h1 : b = true → ∀ H1, Ex H0 H1 → Ex H H1 → tu { D with nx := tz D } σ H1) (h2 : b = false → ∀ H1, Ex H0 H1 → Ex H H1 → tw { D with nx := tz D } σ H1) : tSeq (tIfS t tu tw) tz D σ H :=
  q_if (h.mono e) (fun hb H1 e1 => h1 hb H1 (e.trans e1) e1) (fun hb H1 e1 => h2 hb H1 (e.trans e1) e1)
theorem p_when {b : Bool} (e : Ex H0 H) (h : EvT t σ H0 b) (h1 : b = true → ∀ H1, Ex H0 H1 → Ex H H1 → tu { D with nx := tz D } σ H1) (h2 : b = false → ∀ H1, Ex H0 H1 → Ex H H1 → tz D σ H1) : tSeq (tIfS t tu tNext) tz D σ H :=
  q_when (h.mono e) (fun hb H1 e1 => h1 hb H1 (e.trans e1) e1) (fun hb H1 e1 => h2 hb H1 (e.trans e1) e1)
theorem p_whenE {b : Bool} (e : Ex H0 H) (h : EvT t σ H0 b) (h1 : b = true → ∀ H1, Ex H0 H1 → Ex H H1 → tu D σ H1) (h2 : b = false → ∀ H1, Ex H0 H1 → Ex H H1 → D.nx σ H1) : tIfS t tu tNext D σ H :=
  s_when (h.mono e) (fun hb H1 e1 => h1 hb H1 (e.trans e1) e1) (fun hb H1 e1 => h2 hb H1 (e.trans e1) e1)
theorem p_ifE {b : Bool} (e : Ex H0 H) (h : EvT t σ H0 b) (h1 : b = true → ∀ H1, Ex H0 H1 → Ex H H1 → tu D σ H1) (h2 : b = false → ∀ H1, Ex H0 H1 → Ex H H1 → tw D σ H1) : tIfS t tu tw D σ H :=
  s_if (h.mono e) (fun hb H1 e1 => h1 hb H1 (e.trans e1) e1) (fun hb H1 e1 => h2 hb H1 (e.trans e1) e1)
/-- a test that is known to be false: what it guards is never reached -/
theorem p_no (e : Ex H0 H) (h : EvT t σ H0 false) (k : ∀ H1, Ex H0 H1 → Ex H H1 → tz D σ H1) : tSeq (tIfS t tu tNext) tz D σ H := p_when e h (fun z => by cases z) fun _ => k
theorem p_noE (e : Ex H0 H) (h : EvT t σ H0 false) (k : ∀ H1, Ex H0 H1 → Ex H H1 → D.nx σ H1) : tIfS t tu tNext D σ H := p_whenE e h (fun z => by cases z) fun _ => k
end
/-! ### data: ties -/
abbrev Tie := Nat × Nat × Int
def tv (t : Tie) : List V := [.int t.1, .int t.2.1, .int t.2.2]
def TieV (K : PySem.W.Frag) (H : Hp) (v : V) (t : Tie) : Prop := ∃ a, v = .ref a ∧ SqT K H a (tv t)
structure TiesV (K : PySem.W.Frag) (H : Hp) (vs : List V) (ts : List Tie) : Prop where
  len : vs.length = ts.length
  at_ : ∀ (i : Nat) (v : V) (t : Tie), vs[i]? = some v → ts[i]? = some t → TieV K H v t
def TiesL (K : PySem.W.Frag) (H : Hp) (l : Addr) (ts : List Tie) : Prop := ∃ vs, SqL K H l vs ∧ TiesV K H vs ts
structure Good (n : Nat) (t : Tie) : Prop where
  one : t.1 < n
  two : t.2.1 < n
  ne : t.1 ≠ t.2.1
  lo : 1 ≤ t.2.2
  hi : t.2.2 ≤ 1000000000
section
variable {K : PySem.W.Frag} {H H' : Hp}
theorem TieV.ex {v : V} {t : Tie} (h : TieV K H v t) (e : Ex H H') : TieV K H' v t := by
  obtain ⟨a, rfl, h⟩ := h
  exact ⟨a, rfl, ex_t e h⟩
theorem TiesV.ex {vs : List V} {ts : List Tie} (h : TiesV K H vs ts) (e : Ex H H') : TiesV K H' vs ts := ⟨h.len, fun i v t a b => (h.at_ i v t a b).ex e⟩
theorem TiesL.ex {l : Addr} {ts : List Tie} (h : TiesL K H l ts) (e : Ex H H') : TiesL K H' l ts := by
  obtain ⟨vs, a, b⟩ := h
  exact ⟨vs, ex_l e a, b.ex e⟩
theorem TiesV.get {vs : List V} {ts : List Tie} (h : TiesV K H vs ts) {i : Nat} {v : V} (hv : vs[i]? = some v) : ∃ t a, ts[i]? = some t ∧ v = .ref a ∧ SqT K H a (tv t) := by
  have hi := (List.getElem?_eq_some_iff.mp hv).1
  have hi' : i < ts.length := by rw [← h.len]; exact hi
  obtain ⟨a, e, q⟩ := h.at_ i v ts[i] hv (List.getElem?_eq_getElem hi')
  exact ⟨ts[i], a, List.getElem?_eq_getElem hi', e, q⟩
theorem TiesV.nil : TiesV K H [] [] := ⟨rfl, fun i v t a _ => by simp at a⟩
theorem TiesV.snoc {vs : List V} {ts : List Tie} {v : V} {t : Tie} (h : TiesV K H vs ts) (hv : TieV K H v t) : TiesV K H (vs ++ [v]) (ts ++ [t]) := by
  refine ⟨by simp [h.len], fun i x y a b => ?_⟩
  by_cases hi : i < vs.length
  · rw [List.getElem?_append_left hi] at a
    rw [List.getElem?_append_left (by rw [← h.len]; exact hi)] at b
    exact h.at_ i x y a b
  · have hl := h.len
    rw [List.getElem?_append_right (by omega)] at a b
    by_cases h0 : i - vs.length = 0
    · rw [h0] at a
      rw [← hl, h0] at b
      simp at a b
      subst a b
      exact hv
    · obtain ⟨m, hm⟩ : ∃ m, i - vs.length = m + 1 := ⟨i - vs.length - 1, by omega⟩
      rw [hm] at a
      simp at a
theorem sum_map_append {α : Type} (f : α → Int) (xs ys : List α) : ((xs ++ ys).map f).sum = (xs.map f).sum + (ys.map f).sum := by
  rw [List.map_append, List.sum_append]
end
/-! ### data: n values by a function -/
def lstOf (n : Nat) (f : Nat → V) : List V := (List.range n).map f
theorem lstOf_len (n : Nat) (f : Nat → V) : (lstOf n f).length = n := by unfold lstOf; rw [List.length_map, List.length_range]
theorem lstOf_get {n i : Nat} {f : Nat → V} (h : i < n) : (lstOf n f)[i]? = some (f i) := by
  unfold lstOf
  rw [List.getElem?_map, List.getElem?_range h]
  rfl
theorem lstOf_at {n i : Nat} {f : Nat → V} (h : i < n) : atI (lstOf n f) (i : Int) = some (f i) := at_of rfl (lstOf_get h)
theorem lstOf_congr {n : Nat} {f g : Nat → V} (h : ∀ i, i < n → f i = g i) : lstOf n f = lstOf n g := by
  unfold lstOf
  refine List.map_congr_left fun i hi => h i (List.mem_range.mp hi)
theorem lstOf_set {n i : Nat} {f : Nat → V} {v : V} : (lstOf n f).set i v = lstOf n (fun k => if k = i then v else f k) := by
  apply List.ext_getElem?
  intro k
  by_cases hk : k < n
  · rw [lstOf_get hk]
    by_cases e : i = k
    · subst e
      rw [List.getElem?_set_self (by rw [lstOf_len]; exact hk), if_pos rfl]
    · rw [List.getElem?_set_ne e, lstOf_get hk, if_neg (fun q => e q.symm)]
  · rw [List.getElem?_eq_none (by rw [List.length_set, lstOf_len]; omega), List.getElem?_eq_none (by rw [lstOf_len]; omega)]
theorem lstOf_succ {n : Nat} {f : Nat → V} : lstOf (n + 1) f = lstOf n f ++ [f n] := by
  unfold lstOf
  rw [List.range_succ, List.map_append]
  rfl
theorem lstOf_rep {n : Nat} {v : V} : lstOf n (fun _ => v) = List.replicate n v := by
  apply List.ext_getElem?
  intro k
  by_cases hk : k < n
  · rw [lstOf_get hk, List.getElem?_replicate, if_pos hk]
  · rw [List.getElem?_eq_none (by rw [lstOf_len]; omega), List.getElem?_eq_none (by rw [List.length_replicate]; omega)]
/-! ### data: a square of numbers, rows of its own -/
structure MatR (H : Hp) (p : Addr) (n : Nat) (rs : Nat → Addr) (M : Nat → Nat → Int) : Prop where
  top : H p = some (.lst (lstOf n fun i => .ref (rs i)))
  row : ∀ i, i < n → H (rs i) = some (.lst (lstOf n fun j => .int (M i j)))
  inj : ∀ i j, i < n → j < n → rs i = rs j → i = j
def MatAt (H : Hp) (p : Addr) (n : Nat) (M : Nat → Nat → Int) : Prop := ∃ rs, MatR H p n rs M
/-- .. made anew: nothing of it stood in H0 -/
def MatN (H0 H : Hp) (p : Addr) (n : Nat) (M : Nat → Nat → Int) : Prop := H0 p = none ∧ ∃ rs, MatR H p n rs M ∧ ∀ i, i < n → H0 (rs i) = none
section
variable {K : PySem.W.Frag} {H0 H H' : Hp} {p : Addr} {n : Nat} {M : Nat → Nat → Int} {rs : Nat → Addr}
theorem MatR.ex (h : MatR H p n rs M) (e : Ex H H') : MatR H' p n rs M := ⟨e _ _ h.top, fun i hi => e _ _ (h.row i hi), h.inj⟩
theorem MatAt.ex (h : MatAt H p n M) (e : Ex H H') : MatAt H' p n M := by
  obtain ⟨rs, h⟩ := h
  exact ⟨rs, h.ex e⟩
theorem MatN.ex (h : MatN H0 H p n M) (e : Ex H H') : MatN H0 H' p n M := by
  obtain ⟨a, rs, h, f⟩ := h
  exact ⟨a, rs, h.ex e, f⟩
theorem MatN.at_ (h : MatN H0 H p n M) : MatAt H p n M := by
  obtain ⟨a, rs, h, f⟩ := h
  exact ⟨rs, h⟩
theorem MatR.npr (h : MatR H p n rs M) {i : Nat} (hi : i < n) : p ≠ rs i := by
  refine ne_of h.top (h.row i hi) ?_
  intro q
  have e := HO.lst.inj q
  have h1 : (lstOf n fun i => V.ref (rs i))[i]? = (lstOf n fun j => V.int (M i j))[i]? := by rw [e]
  rw [lstOf_get hi, lstOf_get hi] at h1
  cases h1
def put2 (M : Nat → Nat → Int) (i j : Nat) (z : Int) : Nat → Nat → Int := fun a b => if a = i ∧ b = j then z else M a b
theorem MatR.set (h : MatR H p n rs M) {i j : Nat} {z : Int} (hi : i < n) (hj : j < n) : MatR (upd H (rs i) (.lst ((lstOf n fun j => .int (M i j)).set j (.int z)))) p n rs (put2 M i j z) := by
  refine ⟨by rw [upd_ne (h.npr hi)]; exact h.top, fun k hk => ?_, h.inj⟩
  by_cases e : k = i
  · subst e
    rw [upd_same, lstOf_set]
    congr 2
    refine lstOf_congr fun b hb => ?_
    unfold put2
    by_cases q : b = j
    · rw [if_pos q, if_pos ⟨rfl, q⟩]
    · rw [if_neg q, if_neg (fun x => q x.2)]
  · rw [upd_ne (fun q => e (h.inj k i hk hi q)), h.row k hk]
    congr 2
    refine lstOf_congr fun b hb => ?_
    unfold put2
    rw [if_neg (fun x => e x.1)]
/-- c[i][j] is read -/
theorem MatR.get (h : MatR H p n rs M) {i j : Nat} (hi : i < n) (hj : j < n) : SqL K H p (lstOf n fun i => .ref (rs i)) ∧ atI (lstOf n fun i => V.ref (rs i)) (i : Int) = some (.ref (rs i)) ∧ SqL K H (rs i) (lstOf n fun j => .int (M i j)) ∧ atI (lstOf n fun j => V.int (M i j)) (j : Int) = some (.int (M i j)) :=
  ⟨sq_of h.top, lstOf_at hi, sq_of (h.row i hi), lstOf_at hj⟩
end
def costM (ts : List Tie) (i j : Nat) : Int := (ts.map fun t => if (t.1 = i ∧ t.2.1 = j) ∨ (t.1 = j ∧ t.2.1 = i) then t.2.2 else 0).sum
theorem costM_snoc (ts : List Tie) (t : Tie) (i j : Nat) : costM (ts ++ [t]) i j = costM ts i j + if (t.1 = i ∧ t.2.1 = j) ∨ (t.1 = j ∧ t.2.1 = i) then t.2.2 else 0 := by
  unfold costM
  rw [sum_map_append]
  simp
theorem costM_put {ts : List Tie} {t : Tie} (h : t.1 ≠ t.2.1) : ∀ i j, put2 (put2 (costM ts) t.1 t.2.1 (costM ts t.1 t.2.1 + t.2.2)) t.2.1 t.1 (put2 (costM ts) t.1 t.2.1 (costM ts t.1 t.2.1 + t.2.2) t.2.1 t.1 + t.2.2) i j = costM (ts ++ [t]) i j := by
  intro i j
  rw [costM_snoc]
  unfold put2
  by_cases a : i = t.2.1 ∧ j = t.1
  · obtain ⟨rfl, rfl⟩ := a
    rw [if_pos ⟨rfl, rfl⟩, if_neg (fun x => h x.1.symm), if_pos (Or.inr ⟨rfl, rfl⟩)]
  · rw [if_neg a]
    by_cases b : i = t.1 ∧ j = t.2.1
    · obtain ⟨rfl, rfl⟩ := b
      rw [if_pos ⟨rfl, rfl⟩, if_pos (Or.inl ⟨rfl, rfl⟩)]
    · rw [if_neg b, if_neg, Int.add_zero]
      rintro (⟨x, y⟩ | ⟨x, y⟩)
      · exact b ⟨x.symm, y.symm⟩
      · exact a ⟨y.symm, x.symm⟩
/-! ### a net -/
def netF (n l c : V) : List (Str × V) := putF "_costs" c (putF "_ties" l (putF "many" n []))
theorem nm1 : ¬ (("many" : Str) = "_ties") := by decide +kernel
theorem nm2 : ¬ (("many" : Str) = "_costs") := by decide +kernel
theorem nm3 : ¬ (("_ties" : Str) = "_costs") := by decide +kernel
theorem netF_many {n l c : V} : (netF n l c).lookup ("many" : Str) = some n := by
  unfold netF
  rw [lookup_putF, if_neg nm2, lookup_putF, if_neg nm1, lookup_putF, if_pos rfl]
theorem netF_ties {n l c : V} : (netF n l c).lookup ("_ties" : Str) = some l := by
  unfold netF
  rw [lookup_putF, if_neg nm3, lookup_putF, if_pos rfl]
theorem netF_costs {n l c : V} : (netF n l c).lookup ("_costs" : Str) = some c := by
  unfold netF
  rw [lookup_putF, if_pos rfl]
theorem netF_no {n l c : V} {m : Str} (h1 : ¬ m = "_costs") (h2 : ¬ m = "_ties") (h3 : ¬ m = "many") : (netF n l c).lookup m = none := by
  unfold netF
  rw [lookup_putF, if_neg h1, lookup_putF, if_neg h2, lookup_putF, if_neg h3]
  rfl
/-- a net of n places and of the ties ts stands at x -/
structure NetAt (K : PySem.W.Frag) (C : Addr) (H : Hp) (x : Addr) (n : Nat) (ts : List Tie) : Prop where
  ob : ∃ dx l c, H x = some (.ins C dx (netF (.int n) (.ref l) (.ref c))) ∧ (∃ vs, H l = some (.lst vs) ∧ TiesV K H vs ts) ∧ MatAt H c n (costM ts)
  lo : 1 ≤ n
  hi : n ≤ 24
  len : ts.length ≤ 300
  good : ∀ t ∈ ts, Good n t
theorem NetAt.ex {K : PySem.W.Frag} {C : Addr} {H H' : Hp} {x : Addr} {n : Nat} {ts : List Tie} (h : NetAt K C H x n ts) (e : Ex H H') : NetAt K C H' x n ts := by
  obtain ⟨dx, l, c, h1, ⟨vs, h2, h3⟩, h4⟩ := h.ob
  exact ⟨⟨dx, l, c, e _ _ h1, ⟨vs, e _ _ h2, h3.ex e⟩, h4.ex e⟩, h.lo, h.hi, h.len, h.good⟩

/-! ### lists of places -/
def IL (ns : List Nat) : List V := ns.map fun (k : Nat) => V.int (k : Int)
theorem IL_len (ns : List Nat) : (IL ns).length = ns.length := by unfold IL; rw [List.length_map]
theorem IL_get {ns : List Nat} {i : Nat} {x : V} (h : (IL ns)[i]? = some x) : ∃ p, ns[i]? = some p ∧ x = .int (p : Int) := by
  unfold IL at h
  rw [List.getElem?_map] at h
  cases e : ns[i]? with
  | none => rw [e] at h; cases h
  | some p => rw [e] at h; exact ⟨p, rfl, (Option.some.inj h).symm⟩
theorem IL_eq (ns : List Nat) : IL ns = (ns.map fun (k : Nat) => (k : Int)).map V.int := by unfold IL; rw [List.map_map]; rfl
theorem nodup_cast {ns : List Nat} (h : ns.Nodup) : (ns.map fun (k : Nat) => (k : Int)).Nodup := by
  unfold List.Nodup at h ⊢
  rw [List.pairwise_map]
  exact h.imp fun hab e => hab (by exact Int.ofNat.inj e)
theorem ev_lenSet {K : PySem.W.Frag} {σ : L2.St} {H : Hp} {ta : TE} {a : Addr} {ns : List Nat} (ha : Ev ta σ H (.ref a)) (h : SqL K H a (IL ns)) (nd : ns.Nodup) (hz : ns.length ≤ 4000) : Ev (tLenSetI K ta) σ H (.int (ns.length : Int)) := fun H1 e Q q =>
  ha H1 e _ fun H2 e2 => ⟨a, ns.map fun (k : Nat) => (k : Int), rfl, by rw [← IL_eq]; exact ex_l (e.trans e2) h, nodup_cast nd, by rw [List.length_map]; exact hz, by rw [List.length_map]; exact q H2 e2⟩
theorem take_snoc {α : Type} {xs : List α} {i : Nat} {x : α} (h : xs[i]? = some x) : xs.take (i + 1) = xs.take i ++ [x] := by
  rw [List.take_succ, h]
  rfl
/-- what H0 knows is kept where only a thing changes that H0 does not know -/
theorem _root_.Evl.Ex.but {H0 H H' : Hp} {p : Addr} (e : Ex H0 H) (h : H0 p = none) (k : ∀ b o, b ≠ p → H b = some o → H' b = some o) : Ex H0 H' := fun a o ha => k a o (ne_of_none ha h) (e a o ha)
theorem MatR.congr {H : Hp} {p : Addr} {n : Nat} {rs : Nat → Addr} {M M' : Nat → Nat → Int} (h : MatR H p n rs M) (e : ∀ i j, M i j = M' i j) : MatR H p n rs M' := by
  have : M = M' := funext fun i => funext fun j => e i j
  rw [← this]
  exact h
theorem yes_go {te : TE} {σ : L2.St} {H : Hp} {A : VK} {B : Hp → Prop} (h : te σ H A) : tYes σ H (fun b H3 => if b = true then te σ H3 A else B H3) := by
  show (if true = true then te σ H A else B H)
  rw [if_pos rfl]
  exact h
/-- c[i][j] += z -/
theorem mat_aug {K : PySem.W.Frag} {σ : L2.St} {H : Hp} {D : Ends} {pi ii ji zi : Nat} {p : Addr} {n i j : Nat} {z : Int} {rs : Nat → Addr} {M : Nat → Nat → Int} {f : Int → Int → Int}
    (hp : σ[pi]? = some (some (.ref p))) (hi : σ[ii]? = some (some (.int (i : Int)))) (hj : σ[ji]? = some (some (.int (j : Int)))) (hz : σ[zi]? = some (some (.int z))) (R : MatR H p n rs M) (li : i < n) (lj : j < n)
    (k : ∀ H', MatR H' p n rs (put2 M i j (f (M i j) z)) → (∀ b o, b ≠ rs i → H b = some o → H' b = some o) → D.nx σ H') :
    tAugS (tOp (rIxL K) (tVar pi) (tVar ii)) (tVar ji) (tVar zi) (rIxL K) (ipI f) rSetL D σ H := by
  obtain ⟨h1, h2, h3, h4⟩ := R.get (K := K) li lj
  refine ⟨_, hp, _, hi, p, _, _, _, rfl, rfl, h1, h2, _, hj, rs i, _, _, _, rfl, rfl, h3, h4, _, hz, _, _, rfl, rfl, rs i, _, _, j, rfl, rfl, R.row i li, ixN_nat (by rw [lstOf_len]; exact lj), ?_⟩
  exact k _ (R.set li lj) fun b o hb e => by rw [upd_ne hb]; exact e

section
variable {K : PySem.W.Frag} {σ : L2.St} {H H' : Hp} {ta tb te : TE}
theorem el_is {xs ys : List V} (h : EvL te σ H xs) (e : xs = ys) : EvL te σ H ys := by
  rw [← e]
  exact h
theorem inV_IL {ns : List Nat} {p : Nat} : inV (.int (p : Int)) (IL ns) = decide (p ∈ ns) := by
  unfold inV IL
  rw [List.any_map]
  by_cases h : p ∈ ns
  · rw [decide_eq_true h, List.any_eq_true]
    exact ⟨p, h, by simp [eqV]⟩
  · rw [decide_eq_false h, List.any_eq_false]
    intro q hq
    simp only [Function.comp, eqV, beq_iff_eq]
    intro e
    exact h (by rw [← Int.ofNat.inj e]; exact hq)
theorem flat_IL {ns : List Nat} : (IL ns).all flatV = true := by
  unfold IL
  rw [List.all_map, List.all_eq_true]
  intro q hq
  rfl
/-- p in a list of places -/
theorem ev_inIL {p : Nat} {a : Addr} {ns : List Nat} (ha : Ev ta σ H (.int (p : Int))) (hb : Ev tb σ H (.ref a)) (h : SqL K H a (IL ns)) : Ev (tOp (rIn K false) ta tb) σ H (.bl (decide (p ∈ ns))) :=
  ev_is (ev_op ha hb (rv_isL h rfl flat_IL)) (by rw [inV_IL])
theorem ev_ninIL {p : Nat} {a : Addr} {ns : List Nat} (ha : Ev ta σ H (.int (p : Int))) (hb : Ev tb σ H (.ref a)) (h : SqL K H a (IL ns)) : Ev (tOp (rIn K true) ta tb) σ H (.bl (!decide (p ∈ ns))) :=
  ev_is (ev_op ha hb (rv_niL h rfl flat_IL)) (by rw [inV_IL])
end

theorem bl_ne {a b : Bool} : (!decide (V.bl a = V.bl b)) = (a != b) := by cases a <;> cases b <;> decide
theorem bl_eq {a b : Bool} : (decide (V.bl a = V.bl b)) = (a == b) := by cases a <;> cases b <;> decide
theorem netF2_len {n l : V} : (putF "_ties" l (putF "many" n [])).length < 1000 := by
  show (if ("many" : Str) = "_ties" then [(("many" : Str), l)] else (("many" : Str), n) :: putF "_ties" l []).length < 1000
  rw [if_neg nm1]
  show 2 < 1000
  decide

/-! ### comprehensions whose items are related, not known -/
/-- a value that is R0 of the heap before and the heap behind -/
def EvR (te : TE) (σ : L2.St) (H : Hp) (R0 : Hp → V → Hp → Prop) : Prop := ∀ H1, Ex H H1 → ∀ Q : VK, (∀ v H2, Ex H1 H2 → R0 H1 v H2 → Q v H2) → te σ H1 Q
/-- a new list at p whose items vs are P p -/
def EvLR (te : TE) (σ : L2.St) (H : Hp) (P : Addr → List V → Hp → Prop) : Prop := ∀ H1, Ex H H1 → ∀ Q : VK, (∀ p vs H2, H1 p = none → Ex H1 H2 → H2 p = some (.lst vs) → P p vs H2 → Q (.ref p) H2) → te σ H1 Q
def Fills (R : Nat → V → Hp → Prop) (is : List Nat) (vs : List V) (H : Hp) : Prop := vs.length = is.length ∧ ∀ (k i : Nat) (v : V), is[k]? = some i → vs[k]? = some v → R i v H
structure CompR (R0 : Nat → Hp → V → Hp → Prop) (R : Addr → Nat → V → Hp → Prop) : Prop where
  new : ∀ D i v H1 H2 acc acc', Ex H1 H2 → H1 D = some (.lst acc) → R0 i H1 v H2 → R D i v (upd H2 D (.lst acc'))
  keep : ∀ D i v H H2 acc acc', H D = some (.lst acc) → H2 D = some (.lst acc') → (∀ a o, a ≠ D → H a = some o → H2 a = some o) → R D i v H → R D i v H2
def CwR (H : Hp) (R : Addr → Nat → V → Hp → Prop) (f : Nat → Bool) (D : Addr) (i : Nat) (H' : Hp) : Prop := H D = none ∧ Ex H H' ∧ ∃ vs, H' D = some (.lst vs) ∧ Fills (R D) ((List.range i).filter f) vs H'
section
variable {K : PySem.W.Frag} {σ : L2.St} {H : Hp} {te : TE} {t : TT} {g : TG} {R0 : Nat → Hp → V → Hp → Prop} {R : Addr → Nat → V → Hp → Prop}
theorem et_yes : EvT tYes σ H true := fun H1 _ _ q => q H1 (Ex.refl H1)
theorem evr_of {v : V} {R1 : Hp → V → Hp → Prop} (h : Ev te σ H v) (r : ∀ H1 H2, Ex H H1 → Ex H1 H2 → R1 H1 v H2) : EvR te σ H R1 := fun H1 e Q q => h H1 e Q fun H2 e2 => q v H2 e2 (r H1 H2 e e2)
theorem cwR_turn {H H' : Hp} {f : Nat → Bool} {D : Addr} {i : Nat} {σ2 : L2.St} (c : CompR R0 R) (p : CwR H R f D i H') (hi : i < 50000) (ht : EvT t σ2 H (f i)) (he : f i = true → EvR te σ2 H (R0 i)) :
    t σ2 H' fun b H3 => if b = true then te σ2 H3 fun y H4 => ∃ acc, H4 D = some (.lst acc) ∧ acc.length < sizeLine ∧ CwR H R f D (i + 1) (upd H4 D (.lst (acc ++ [y]))) else CwR H R f D (i + 1) H3 := by
  obtain ⟨p1, p2, vs, p3, p4, p5⟩ := p
  have hlen : ((List.range i).filter f).length ≤ i := by
    have h := List.length_filter_le f (List.range i)
    rw [List.length_range] at h
    exact h
  refine ht H' p2 _ fun H3 e3 => ?_
  cases hf : f i with
  | true =>
    show te σ2 H3 fun y H4 => ∃ acc, H4 D = some (.lst acc) ∧ acc.length < sizeLine ∧ CwR H R f D (i + 1) (upd H4 D (.lst (acc ++ [y])))
    refine he hf H3 (p2.trans e3) _ fun y H4 e4 r => ⟨vs, e4 D _ (e3 D _ p3), sz_lt (by omega), p1, Ex.mut ((p2.trans e3).trans e4) p1, vs ++ [y], upd_same, ?_⟩
    have er : (List.range (i + 1)).filter f = (List.range i).filter f ++ [i] := by
      rw [List.range_succ, List.filter_append, List.filter_cons, if_pos hf]
      rfl
    rw [er]
    refine ⟨by simp [p4], fun k j v h1 h2 => ?_⟩
    by_cases hk : k < vs.length
    · rw [List.getElem?_append_left (by omega)] at h1
      rw [List.getElem?_append_left hk] at h2
      exact c.keep D j v H' _ vs _ p3 upd_same (fun a o ha h => by rw [upd_ne ha]; exact e4 _ _ (e3 _ _ h)) (p5 k j v h1 h2)
    · have h0 : k = vs.length := by
        have := (List.getElem?_eq_some_iff.mp h2).1
        simp at this
        omega
      subst h0
      rw [List.getElem?_append_right (by omega), p4, Nat.sub_self] at h1
      rw [List.getElem?_append_right (by omega), Nat.sub_self] at h2
      have e1 : i = j := Option.some.inj h1
      have e2 : y = v := Option.some.inj h2
      subst e1 e2
      exact c.new D i y H3 H4 vs _ e4 (e3 D _ p3) r
  | false =>
    show CwR H R f D (i + 1) H3
    have er : (List.range (i + 1)).filter f = (List.range i).filter f := by
      rw [List.range_succ, List.filter_append, List.filter_cons, if_neg (by rw [hf]; decide)]
      show _ ++ [] = _
      rw [List.append_nil]
    refine ⟨p1, p2.trans e3, vs, e3 D _ p3, ?_⟩
    rw [er]
    exact ⟨p4, fun k j v h1 h2 => c.keep D j v H' _ vs _ p3 (e3 _ _ p3) (fun a o _ h => e3 _ _ h) (p5 k j v h1 h2)⟩
theorem cwR_end {H1 H' : Hp} {f : Nat → Bool} {D : Addr} {n : Nat} (p : CwR H1 R f D n H') : H1 D = none ∧ Ex H1 H' ∧ ∃ vs, H' D = some (.lst vs) ∧ Fills (R D) ((List.range n).filter f) vs H' := p
/-- over a list that stands, or a new one -/
theorem el_cL {a : Addr} {xs : List V} {tl : TE} {vs : List Nat} (f : Nat → Bool) (c : CompR R0 R) (h : Ev tl σ H (.ref a)) (hx : SqL K H a xs) (hz : xs.length ≤ 40000)
    (hg : ∀ i x, xs[i]? = some x → ∃ σ2, wipe σ2 vs = wipe σ vs ∧ (∀ H2 Q, Ex H H2 → Q σ2 H2 → g x (wipe σ vs) H2 Q) ∧ EvT t σ2 H (f i) ∧ (f i = true → EvR te σ2 H (R0 i))) :
    EvLR (tLc (iList K tl) g t te vs) σ H (fun D ys H2 => Fills (R D) ((List.range xs.length).filter f) ys H2) := fun H0 e Q q => h H0 e _ fun H1 e1 => ⟨a, rfl, ⟨xs, ex_l (e.trans e1) hx⟩, fun Dl hD =>
  lc_list (xs := xs) (CwR H1 R f Dl) ⟨hD, Ex.new hD, [], upd_same, by simp [Fills]⟩ (fun i H' _ p => ex_l ((e.trans e1).trans p.2.1) hx) (fun i x H' hi p => by
    obtain ⟨σ2, w1, w2, w3, w4⟩ := hg i x hi
    exact w2 H' _ ((e.trans e1).trans p.2.1) ⟨w1, cwR_turn c p (by have := (List.getElem?_eq_some_iff.mp hi).1; omega) (w3.mono (e.trans e1)) (fun hf H3 e3 => w4 hf H3 ((e.trans e1).trans e3))⟩)
    (fun H' p => by
      obtain ⟨p1, p2, ys, p3, p4⟩ := p
      exact q Dl ys H' (fresh_back e1 p1) (e1.trans p2) p3 p4)⟩
theorem el_cNL {xs : List V} {tl : TE} {vs : List Nat} (f : Nat → Bool) (c : CompR R0 R) (h : EvL tl σ H xs) (hz : xs.length ≤ 40000)
    (hg : ∀ i x, xs[i]? = some x → ∃ σ2, wipe σ2 vs = wipe σ vs ∧ (∀ H2 Q, Ex H H2 → Q σ2 H2 → g x (wipe σ vs) H2 Q) ∧ EvT t σ2 H (f i) ∧ (f i = true → EvR te σ2 H (R0 i))) :
    EvLR (tLc (iList K tl) g t te vs) σ H (fun D ys H2 => Fills (R D) ((List.range xs.length).filter f) ys H2) := fun H0 e Q q => h H0 e _ fun a H1 ha e1 hx => ⟨a, rfl, ⟨xs, sq_of hx⟩, fun Dl hD =>
  lc_list (xs := xs) (CwR H1 R f Dl) ⟨hD, Ex.new hD, [], upd_same, by simp [Fills]⟩ (fun i H' _ p => sq_of (p.2.1 a _ hx)) (fun i x H' hi p => by
    obtain ⟨σ2, w1, w2, w3, w4⟩ := hg i x hi
    exact w2 H' _ ((e.trans e1).trans p.2.1) ⟨w1, cwR_turn c p (by have := (List.getElem?_eq_some_iff.mp hi).1; omega) (w3.mono (e.trans e1)) (fun hf H3 e3 => w4 hf H3 ((e.trans e1).trans e3))⟩)
    (fun H' p => by
      obtain ⟨p1, p2, ys, p3, p4⟩ := p
      exact q Dl ys H' (fresh_back e1 p1) (e1.trans p2) p3 p4)⟩
theorem el_cR1 {ta : TA} {vs : List Nat} {n : Nat} (f : Nat → Bool) (c : CompR R0 R) (h : EvA ta σ H [.int (n : Int)]) (hn : n ≤ 40000)
    (hg : ∀ i, i < n → ∃ σ2, wipe σ2 vs = wipe σ vs ∧ (∀ H2 Q, Ex H H2 → Q σ2 H2 → g (.int (i : Int)) (wipe σ vs) H2 Q) ∧ EvT t σ2 H (f i) ∧ (f i = true → EvR te σ2 H (R0 i))) :
    EvLR (tLc (iRng1 ta) g t te vs) σ H (fun D ys H2 => Fills (R D) ((List.range n).filter f) ys H2) := fun H0 e Q q => h H0 e _ fun H1 e1 => ⟨(n : Int), rfl, by omega, by omega, fun Dl hD =>
  lc_range (lo := 0) (n := n) (CwR H1 R f Dl) ⟨hD, Ex.new hD, [], upd_same, by simp [Fills]⟩ (fun i H' hi p => by
    obtain ⟨σ2, w1, w2, w3, w4⟩ := hg i hi
    rw [Int.zero_add]
    exact w2 H' _ ((e.trans e1).trans p.2.1) ⟨w1, cwR_turn c p (by omega) (w3.mono (e.trans e1)) (fun hf H3 e3 => w4 hf H3 ((e.trans e1).trans e3))⟩)
    (fun H' p => by
      obtain ⟨p1, p2, ys, p3, p4⟩ := p
      exact q Dl ys H' (fresh_back e1 p1) (e1.trans p2) p3 p4)⟩
theorem el_cR2 {ta : TA} {vs : List Nat} {lo n : Nat} (f : Nat → Bool) (c : CompR R0 R) (h : EvA ta σ H [.int (lo : Int), .int (n : Int)]) (hn : n ≤ 40000) (hlo : lo ≤ 40000)
    (hg : ∀ i, i < n - lo → ∃ σ2, wipe σ2 vs = wipe σ vs ∧ (∀ H2 Q, Ex H H2 → Q σ2 H2 → g (.int ((lo + i : Nat) : Int)) (wipe σ vs) H2 Q) ∧ EvT t σ2 H (f i) ∧ (f i = true → EvR te σ2 H (R0 i))) :
    EvLR (tLc (iRng2 ta) g t te vs) σ H (fun D ys H2 => Fills (R D) ((List.range (n - lo)).filter f) ys H2) := fun H0 e Q q => h H0 e _ fun H1 e1 => ⟨(lo : Int), (n : Int), rfl, by omega, fun Dl hD => by
  have en : ((n : Int) - (lo : Int)).toNat = n - lo := by omega
  rw [en]
  exact lc_range (lo := (lo : Int)) (n := n - lo) (CwR H1 R f Dl) ⟨hD, Ex.new hD, [], upd_same, by simp [Fills]⟩ (fun i H' hi p => by
    obtain ⟨σ2, w1, w2, w3, w4⟩ := hg i hi
    have ei : (lo : Int) + (i : Int) = ((lo + i : Nat) : Int) := by omega
    rw [ei]
    exact w2 H' _ ((e.trans e1).trans p.2.1) ⟨w1, cwR_turn c p (by omega) (w3.mono (e.trans e1)) (fun hf H3 e3 => w4 hf H3 ((e.trans e1).trans e3))⟩)
    (fun H' p => by
      obtain ⟨p1, p2, ys, p3, p4⟩ := p
      exact q Dl ys H' (fresh_back e1 p1) (e1.trans p2) p3 p4)⟩
/-- x = [..] -/
theorem p_asgLR {H0 : Hp} {D : Ends} {tz : TS} {i : Nat} {P : Addr → List V → Hp → Prop} (e : Ex H0 H) (h : EvLR te σ H0 P) (k : ∀ p vs H1, H p = none → Ex H0 H1 → Ex H H1 → H1 p = some (.lst vs) → P p vs H1 → tz D (σ.set i (some (.ref p))) H1) : tSeq (tAsg te (gName i)) tz D σ H :=
  h H e _ fun p vs H1 hp e1 h1 r => k p vs H1 hp (e.trans e1) e1 h1 r
theorem p_retLR {H0 : Hp} {D : Ends} {P : Addr → List V → Hp → Prop} (e : Ex H0 H) (h : EvLR te σ H0 P) (k : ∀ p vs H1, H0 p = none → Ex H0 H1 → H1 p = some (.lst vs) → P p vs H1 → D.rt (.ref p) H1) : tRet te D σ H :=
  h H e _ fun p vs H1 hp e1 h1 r => k p vs H1 (fresh_back e hp) (e.trans e1) h1 r
end
theorem filter_yes (n : Nat) : (List.range n).filter (fun _ => true) = List.range n := List.filter_eq_self.mpr fun _ _ => rfl
/-- ties made one by one -/
theorem compTie {K : PySem.W.Frag} {t : Nat → Tie} : CompR (fun i _ v H2 => TieV K H2 v (t i)) (fun _ i v H => TieV K H v (t i)) := by
  refine ⟨fun D i v H1 H2 acc acc' e hD r => ?_, fun D i v H H2 acc acc' h1 h2 k r => ?_⟩
  · obtain ⟨a, rfl, r⟩ := r
    refine ⟨a, rfl, ?_⟩
    have hD2 := e _ _ hD
    rcases r with (r | ⟨o, r⟩) | r
    · exact .inl (.inl (by rw [upd_ne (ne_of r hD2 (by intro q; cases q))]; exact r))
    · exact .inl (.inr ⟨o, by rw [upd_ne (ne_of r hD2 (by intro q; cases q))]; exact r⟩)
    · exact .inr r
  · obtain ⟨a, rfl, r⟩ := r
    refine ⟨a, rfl, ?_⟩
    rcases r with (r | ⟨o, r⟩) | r
    · exact .inl (.inl (k _ _ (ne_of r h1 (by intro q; cases q)) r))
    · exact .inl (.inr ⟨o, k _ _ (ne_of r h1 (by intro q; cases q)) r⟩)
    · exact .inr r
theorem Fills.ties {K : PySem.W.Frag} {t : Nat → Tie} {is : List Nat} {vs : List V} {H : Hp} (h : Fills (fun i v H => TieV K H v (t i)) is vs H) : TiesV K H vs (is.map t) := by
  refine ⟨by rw [h.1, List.length_map], fun k v y h1 h2 => ?_⟩
  rw [List.getElem?_map] at h2
  cases e : is[k]? with
  | none => rw [e] at h2; cases h2
  | some i =>
    rw [e] at h2
    have e2 : t i = y := Option.some.inj h2
    rw [← e2]
    exact h.2 k i v e h1
theorem range_getD {α β : Type} (f : α → β) (xs : List α) (d : α) : (List.range xs.length).map (fun i => f (xs.getD i d)) = xs.map f := by
  apply List.ext_getElem?
  intro i
  by_cases h : i < xs.length
  · rw [List.getElem?_map, List.getElem?_range h, List.getElem?_map, List.getElem?_eq_getElem h]
    simp [List.getD, List.getElem?_eq_getElem h]
  · rw [List.getElem?_eq_none (by simp; omega), List.getElem?_eq_none (by simp; omega)]
/-- a cut of a list -/
def cutG {α : Type} (xs : List α) (lo hi : Option Int) : List α := (xs.drop (HT.sIx xs.length 0 lo)).take (HT.sIx xs.length xs.length hi - HT.sIx xs.length 0 lo)
theorem cutV_map {α : Type} (f : α → V) (xs : List α) (lo hi : Option Int) : cutV (xs.map f) lo hi = (cutG xs lo hi).map f := by
  unfold cutV cutG
  rw [List.length_map, List.map_take, List.map_drop]
/-! ### isinstance -/
theorem tyx_l {K : PySem.W.Frag} {H : Hp} {a : Addr} {xs : List V} (h : SqL K H a xs) : TyX K H (.ref a) (.type "list") := by
  rcases h with (h | ⟨o, h⟩) | ⟨o, its, n, h, c, _⟩
  · exact .base (.lst h)
  · exact .base (.frz h)
  · exact .kList h c
theorem tyx_t {K : PySem.W.Frag} {H : Hp} {a : Addr} {xs : List V} (h : SqT K H a xs) : TyX K H (.ref a) (.type "tuple") := by
  rcases h with (h | ⟨o, h⟩) | ⟨o, its, n, h, c, _⟩
  · exact .base (.tup h)
  · exact .fTuple h
  · exact .kTuple h c
theorem rc_isi {K : PySem.W.Frag} {H : Hp} {x c : V} {t u : Value} {b : Bool} (hc : ClsV c u) (ht : ∀ H1, Ex H H1 → TyX K H1 x t) (hk : PySem.W.kitOne K t u = some b) : RC (rIsi K) [x, c] H (.bl b) := fun H1 e _ q => ⟨x, c, t, u, b, rfl, hc, ht H1 e, hk, q H1 (Ex.refl H1)⟩
section
variable {K : PySem.W.Frag} {σ : L2.St} {H : Hp} {ta tb : TE}
theorem ev_isiI {i : Int} {T : String} {b : Bool} (ha : Ev ta σ H (.int i)) (hk : kitB "int" T = some b) : Ev (tCB (rIsi K) (tCons ta (tCons (tC (.ty T)) tNil))) σ H (.bl b) :=
  ev_cb (ea_cons ha (ea_cons ev_c ea_nil)) (rc_isi (.ty T) (fun _ _ => .base (.int i)) (kit_ty hk))
theorem ev_isiS {x : Str} {T : String} {b : Bool} (ha : Ev ta σ H (.str x)) (hk : kitB "str" T = some b) : Ev (tCB (rIsi K) (tCons ta (tCons (tC (.ty T)) tNil))) σ H (.bl b) :=
  ev_cb (ea_cons ha (ea_cons ev_c ea_nil)) (rc_isi (.ty T) (fun _ _ => .base (.str x)) (kit_ty hk))
theorem ev_isiL {a : Addr} {xs : List V} {T : String} {b : Bool} (ha : Ev ta σ H (.ref a)) (h : SqL K H a xs) (hk : kitB "list" T = some b) : Ev (tCB (rIsi K) (tCons ta (tCons (tC (.ty T)) tNil))) σ H (.bl b) :=
  ev_cb (ea_cons ha (ea_cons ev_c ea_nil)) (rc_isi (.ty T) (fun _ e => tyx_l (ex_l e h)) (kit_ty hk))
theorem ev_isiT {a : Addr} {xs : List V} {T : String} {b : Bool} (ha : Ev ta σ H (.ref a)) (h : SqT K H a xs) (hk : kitB "tuple" T = some b) : Ev (tCB (rIsi K) (tCons ta (tCons (tC (.ty T)) tNil))) σ H (.bl b) :=
  ev_cb (ea_cons ha (ea_cons ev_c ea_nil)) (rc_isi (.ty T) (fun _ e => tyx_t (ex_t e h)) (kit_ty hk))
end

/-! ### == of data -/
def pds (ns : List Int) : List PyData := ns.map PyData.int
def tvI (t : Tie) : List Int := [(t.1 : Int), (t.2.1 : Int), t.2.2]
def pdt (ts : List Tie) : List PyData := ts.map fun t => PyData.tuple (pds (tvI t))
mutual
theorem dp_ex {K : PySem.W.Frag} {H H' : Hp} (e : Ex H H') : ∀ (d : PyData) (v : V), Dp K H v d → Dp K H' v d
  | .none, _, h => by cases h; exact .non
  | .bool b, _, h => by cases h; exact .bl b
  | .int i, _, h => by cases h; exact .int i
  | .str x, _, h => by cases h; exact .str x
  | .list ds, _, h => by
    cases h with
    | lst hs ha => exact .lst (ex_l e hs) (dp_exA e ds _ ha)
  | .tuple ds, _, h => by
    cases h with
    | tup hs ha => exact .tup (ex_t e hs) (dp_exA e ds _ ha)
  | .dict _, _, h => by cases h
theorem dp_exA {K : PySem.W.Frag} {H H' : Hp} (e : Ex H H') : ∀ (ds : List PyData) (vs : List V), DpAll K H vs ds → DpAll K H' vs ds
  | [], _, h => by cases h; exact .nil
  | d :: ds, _, h => by
    cases h with
    | cons h1 h2 => exact .cons (dp_ex e d _ h1) (dp_exA e ds _ h2)
end
theorem dp_ints {K : PySem.W.Frag} {H : Hp} : ∀ ns : List Int, DpAll K H (ns.map V.int) (pds ns)
  | [] => .nil
  | n :: ns => .cons (.int n) (dp_ints ns)
theorem pds_lay : ∀ ns : List Int, PyData.canLayAll0 (pds ns) = true
  | [] => rfl
  | n :: ns => by
    show (PyData.canLay0 (.int n) && PyData.canLayAll0 (pds ns)) = true
    rw [pds_lay ns]
    rfl
theorem pds_depth : ∀ ns : List Int, PyData.depthAll (pds ns) = 0
  | [] => rfl
  | n :: ns => by
    show max (PyData.depth (.int n)) (PyData.depthAll (pds ns)) = 0
    rw [pds_depth ns]
    rfl
theorem sh_ints (ns : List Int) : SeqAt.shaped (.list (pds ns)) = true := by
  unfold SeqAt.shaped PyData.canLay0 PyData.depth
  rw [pds_lay, pds_depth]
  rfl
theorem sh_intsT (ns : List Int) : SeqAt.shaped (.tuple (pds ns)) = true := by
  unfold SeqAt.shaped PyData.canLay0 PyData.depth
  rw [pds_lay, pds_depth]
  rfl
theorem eqv_pds : ∀ ns ms : List Int, PyData.eqvAll (pds ns) (pds ms) = decide (ns = ms)
  | [], [] => rfl
  | [], m :: ms => rfl
  | n :: ns, [] => rfl
  | n :: ns, m :: ms => by
    show (PyData.eqv (.int n) (.int m) && PyData.eqvAll (pds ns) (pds ms)) = _
    rw [eqv_pds ns ms]
    show ((n == m) && decide (ns = ms)) = decide (n :: ns = m :: ms)
    by_cases h : n = m
    · subst h
      by_cases h2 : ns = ms
      · subst h2; simp
      · simp [h2]
    · simp [h]
theorem pdt_lay : ∀ ts : List Tie, PyData.canLayAll0 (pdt ts) = true
  | [] => rfl
  | t :: ts => by
    show (PyData.canLayAll0 (pds (tvI t)) && PyData.canLayAll0 (pdt ts)) = true
    rw [pdt_lay ts, pds_lay]
    rfl
theorem pdt_depth : ∀ ts : List Tie, PyData.depthAll (pdt ts) ≤ 1
  | [] => Nat.zero_le _
  | t :: ts => by
    show max (PyData.depthAll (pds (tvI t)) + 1) (PyData.depthAll (pdt ts)) ≤ 1
    rw [pds_depth]
    exact Nat.max_le.mpr ⟨Nat.le_refl _, pdt_depth ts⟩
theorem sh_ties (ts : List Tie) : SeqAt.shaped (.list (pdt ts)) = true := by
  unfold SeqAt.shaped PyData.canLay0 PyData.depth
  rw [pdt_lay, Bool.true_and]
  exact decide_eq_true (by have := pdt_depth ts; omega)
theorem tvI_inj {t u : Tie} (h : tvI t = tvI u) : t = u := by
  obtain ⟨a, b, c⟩ := t
  obtain ⟨x, y, z⟩ := u
  unfold tvI at h
  simp only [List.cons.injEq, and_true] at h
  obtain ⟨h1, h2, h3⟩ := h
  have e1 : a = x := Int.ofNat.inj h1
  have e2 : b = y := Int.ofNat.inj h2
  subst e1 e2 h3
  rfl
theorem eqv_pdt : ∀ ts us : List Tie, PyData.eqvAll (pdt ts) (pdt us) = decide (ts = us)
  | [], [] => rfl
  | [], m :: ms => rfl
  | n :: ns, [] => rfl
  | n :: ns, m :: ms => by
    show (PyData.eqvAll (pds (tvI n)) (pds (tvI m)) && PyData.eqvAll (pdt ns) (pdt ms)) = _
    rw [eqv_pdt ns ms, eqv_pds]
    by_cases h : n = m
    · subst h
      by_cases h2 : ns = ms
      · subst h2; simp
      · simp [h2]
    · rw [decide_eq_false (fun q => h (tvI_inj q)), decide_eq_false (fun q => h (List.cons.inj q).1)]
      rfl
theorem dp_tie {K : PySem.W.Frag} {H : Hp} {v : V} {t : Tie} (h : TieV K H v t) : Dp K H v (.tuple (pds (tvI t))) := by
  obtain ⟨a, rfl, h⟩ := h
  exact .tup h (dp_ints (tvI t))
theorem dp_ties {K : PySem.W.Frag} {H : Hp} : ∀ {vs : List V} {ts : List Tie}, TiesV K H vs ts → DpAll K H vs (pdt ts)
  | [], [], _ => .nil
  | [], t :: ts, h => by have := h.len; simp at this
  | v :: vs, [], h => by have := h.len; simp at this
  | v :: vs, t :: ts, h => .cons (dp_tie (h.at_ 0 v t rfl rfl)) (dp_ties ⟨by have := h.len; simpa using this, fun i x y h1 h2 => h.at_ (i + 1) x y h1 h2⟩)
section
variable {K : PySem.W.Frag} {σ : L2.St} {H : Hp} {ta tb : TE} {x y : V} {d e : PyData}
theorem rv_eqD (hd : Dp K H x d) (he : Dp K H y e) (sd : SeqAt.shaped d = true) (se : SeqAt.shaped e = true) : RV (rEqD K) x y H (.bl (PyData.eqv d e)) := fun H1 ex _ q => ⟨d, e, dp_ex ex d x hd, dp_ex ex e y he, sd, se, q H1 (Ex.refl H1)⟩
theorem rv_neD (hd : Dp K H x d) (he : Dp K H y e) (sd : SeqAt.shaped d = true) (se : SeqAt.shaped e = true) : RV (rNeD K) x y H (.bl (!PyData.eqv d e)) := fun H1 ex _ q => ⟨d, e, dp_ex ex d x hd, dp_ex ex e y he, sd, se, q H1 (Ex.refl H1)⟩
theorem eqv_intsL (ns ms : List Int) : PyData.eqv (.list (pds ns)) (.list (pds ms)) = decide (ns = ms) := eqv_pds ns ms
theorem eqv_intsT (ns ms : List Int) : PyData.eqv (.tuple (pds ns)) (.tuple (pds ms)) = decide (ns = ms) := eqv_pds ns ms
theorem eqv_tiesL (ts us : List Tie) : PyData.eqv (.list (pdt ts)) (.list (pdt us)) = decide (ts = us) := eqv_pdt ts us
/-- an item of a tie -/
theorem tv0 {t : Tie} : atI (tv t) 0 = some (.int (t.1 : Int)) := at_of (j := 0) rfl rfl
theorem tv1 {t : Tie} : atI (tv t) 1 = some (.int (t.2.1 : Int)) := at_of (j := 1) rfl rfl
theorem tv2 {t : Tie} : atI (tv t) 2 = some (.int t.2.2) := at_of (j := 2) rfl rfl
theorem ev_t0 {a : Addr} {t : Tie} (ha : Ev ta σ H (.ref a)) (h : SqT K H a (tv t)) : Ev (tOp (rIxT K) ta (tC (.int 0))) σ H (.int (t.1 : Int)) := ev_op ha ev_c (rv_ixT h tv0)
theorem ev_t1 {a : Addr} {t : Tie} (ha : Ev ta σ H (.ref a)) (h : SqT K H a (tv t)) : Ev (tOp (rIxT K) ta (tC (.int 1))) σ H (.int (t.2.1 : Int)) := ev_op ha ev_c (rv_ixT h tv1)
theorem ev_t2 {a : Addr} {t : Tie} (ha : Ev ta σ H (.ref a)) (h : SqT K H a (tv t)) : Ev (tOp (rIxT K) ta (tC (.int 2))) σ H (.int t.2.2) := ev_op ha ev_c (rv_ixT h tv2)
end
theorem mulN {n : Nat} (h1 : 2 ≤ n) (h2 : n ≤ 24) : (0 : Int) < (n : Int) * ((n : Int) - 1) ∧ (n : Int) * ((n : Int) - 1) < 1000 := by
  have e : (n : Int) * ((n : Int) - 1) = ((n * (n - 1) : Nat) : Int) := by
    rw [Int.natCast_mul]
    congr 1
    omega
  have a : 0 < n * (n - 1) := Nat.mul_pos (by omega) (by omega)
  have b : n * (n - 1) ≤ 24 * 23 := Nat.mul_le_mul h2 (by omega)
  rw [e]
  omega
/-- a tie by a cell -/
def tieOf (n : Nat) (top c : Int) : Tie := ((c % (n : Int)).toNat, ((c % (n : Int) + 1 + c / (n : Int) % ((n : Int) - 1)) % (n : Int)).toNat, 1 + c / ((n : Int) * ((n : Int) - 1)) % top)
theorem otherOf {n a r : Int} (h0 : 0 ≤ a) (h1 : a < n) (r0 : 0 ≤ r) (r1 : r < n - 1) : (a + 1 + r) % n ≠ a ∧ 0 ≤ (a + 1 + r) % n ∧ (a + 1 + r) % n < n := by
  have hn : 0 < n := by omega
  refine ⟨?_, Int.emod_nonneg _ (by omega), Int.emod_lt_of_pos _ hn⟩
  by_cases h : a + 1 + r < n
  · rw [Int.emod_eq_of_lt (by omega) h]
    omega
  · have e : (a + 1 + r) % n = a + 1 + r - n := by
      have e1 : a + 1 + r = (a + 1 + r - n) + n := by omega
      rw [e1, Int.add_emod_right, Int.emod_eq_of_lt (by omega) (by omega)]
      omega
    rw [e]
    omega
theorem tieOf_good {n : Nat} {top c : Int} (h : 2 ≤ n) (h1 : 1 ≤ top) (h2 : top ≤ 1000000000) : Good n (tieOf n top c) := by
  have a0 : 0 ≤ c % (n : Int) := Int.emod_nonneg _ (by omega)
  have a1 : c % (n : Int) < n := Int.emod_lt_of_pos _ (by omega)
  have r0 : 0 ≤ c / (n : Int) % ((n : Int) - 1) := Int.emod_nonneg _ (by omega)
  have r1 : c / (n : Int) % ((n : Int) - 1) < (n : Int) - 1 := Int.emod_lt_of_pos _ (by omega)
  obtain ⟨o1, o2, o3⟩ := otherOf a0 a1 r0 r1
  have p0 : 0 ≤ c / ((n : Int) * ((n : Int) - 1)) % top := Int.emod_nonneg _ (by omega)
  have p1 : c / ((n : Int) * ((n : Int) - 1)) % top < top := Int.emod_lt_of_pos _ (by omega)
  refine ⟨?_, ?_, ?_, ?_, ?_⟩
  · show (c % (n : Int)).toNat < n
    omega
  · show ((c % (n : Int) + 1 + c / (n : Int) % ((n : Int) - 1)) % (n : Int)).toNat < n
    omega
  · show (c % (n : Int)).toNat ≠ ((c % (n : Int) + 1 + c / (n : Int) % ((n : Int) - 1)) % (n : Int)).toNat
    omega
  · show 1 ≤ 1 + c / ((n : Int) * ((n : Int) - 1)) % top
    omega
  · show 1 + c / ((n : Int) * ((n : Int) - 1)) % top ≤ 1000000000
    omega
theorem eu_is {te : TE} {σ : L2.St} {H : Hp} {xs ys : List V} (h : EvU te σ H xs) (e : xs = ys) : EvU te σ H ys := by
  rw [← e]
  exact h
def cellA (ns : List Int) (k : Nat) : Int := ns.getD k 0

/-! ### what stands while a list changes -/
theorem sqt_updL {K : PySem.W.Frag} {H : Hp} {a l : Addr} {xs ys zs : List V} (h : SqT K H a ys) (hl : H l = some (.lst xs)) : SqT K (upd H l (.lst zs)) a ys := by
  rcases h with (h | ⟨o, h⟩) | h
  · exact .inl (.inl (by rw [upd_ne (ne_of h hl (by intro q; cases q))]; exact h))
  · exact .inl (.inr ⟨o, by rw [upd_ne (ne_of h hl (by intro q; cases q))]; exact h⟩)
  · exact .inr h
theorem TieV.updL {K : PySem.W.Frag} {H : Hp} {l : Addr} {xs zs : List V} {v : V} {t : Tie} (h : TieV K H v t) (hl : H l = some (.lst xs)) : TieV K (upd H l (.lst zs)) v t := by
  obtain ⟨a, rfl, h⟩ := h
  exact ⟨a, rfl, sqt_updL h hl⟩
theorem TiesV.updL {K : PySem.W.Frag} {H : Hp} {l : Addr} {xs zs vs : List V} {ts : List Tie} (h : TiesV K H vs ts) (hl : H l = some (.lst xs)) : TiesV K (upd H l (.lst zs)) vs ts := ⟨h.len, fun i v t a b => (h.at_ i v t a b).updL hl⟩
def tri : Nat → Nat
  | 0 => 0
  | i + 1 => tri i + i
theorem tri24 : ∀ n, n < 25 → tri n ≤ 276 := by decide
theorem tri20 : ∀ n, n < 21 → tri n ≤ 190 := by decide
def topOf (c : Int) : Int := if c % 3 = 0 then 3 else if c % 3 = 1 then 20 else 1000000000
theorem topOf_at (c : Int) : atI [V.int 3, V.int 20, V.int 1000000000] (c % 3) = some (.int (topOf c)) := by
  have h0 : 0 ≤ c % 3 := Int.emod_nonneg _ (by decide)
  have h1 : c % 3 < 3 := Int.emod_lt_of_pos _ (by decide)
  unfold topOf
  by_cases e0 : c % 3 = 0
  · rw [if_pos e0]
    exact at_of (j := 0) (by omega) rfl
  · rw [if_neg e0]
    by_cases e1 : c % 3 = 1
    · rw [if_pos e1]
      exact at_of (j := 1) (by omega) rfl
    · rw [if_neg e1]
      exact at_of (j := 2) (by omega) rfl
theorem topOf_b (c : Int) : 1 ≤ topOf c ∧ topOf c ≤ 1000000000 := by
  unfold topOf
  split
  · omega
  · split <;> omega
/-- an item of a display -/
theorem ev_pick {K : PySem.W.Frag} {σ : L2.St} {H : Hp} {ta : TA} {tb : TE} {vs : List V} {i : Int} {v : V} (ha : EvA ta σ H vs) (hl : vs.length ≤ 100000) (hb : Ev tb σ H (.int i)) (h : atI vs i = some v) : Ev (tOp (rIxL K) (tLst ta) tb) σ H v :=
  ev_opL1 (el_lst ha hl) (fun H1 e => hb.mono e) (fun p H1 h1 _ => rv_ixL (sq_of h1) h)
theorem cutV_len (xs : List V) (lo hi : Nat) : (cutV xs (some (lo : Int)) (some (hi : Int))).length ≤ hi - lo := by
  unfold cutV
  rw [HT.sIx_nat, HT.sIx_nat, List.length_take, List.length_drop]
  omega
theorem cutV_lenN (xs : List V) (hi : Nat) : (cutV xs none (some (hi : Int))).length ≤ hi := by
  unfold cutV
  rw [HT.sIx_nat, HT.sIx_none, List.length_take, List.length_drop]
  omega
/-- the first ties of a list of ties -/
theorem TiesV.cut {K : PySem.W.Frag} {H : Hp} {vs : List V} {ts : List Tie} (h : TiesV K H vs ts) (hi : Nat) : TiesV K H (cutV vs none (some (hi : Int))) (ts.take hi) := by
  have e : cutV vs none (some (hi : Int)) = vs.take hi := by
    unfold cutV
    rw [HT.sIx_nat, HT.sIx_none, List.drop_zero, Nat.sub_zero, ← List.take_take, List.take_length]
  rw [e]
  refine ⟨by rw [List.length_take, List.length_take, h.len], fun i v t a b => ?_⟩
  rw [List.getElem?_take] at a b
  split at a
  · rename_i hlt
    rw [if_pos hlt] at b
    exact h.at_ i v t a b
  · cases a

section
variable {K : PySem.W.Frag} {σ : L2.St} {H H0 : Hp} {ta tb te : TE} {D : Ends} {tz : TS}
/-- f(..).append(e): the list is new, and gone -/
theorem q_appNew {xs : List V} {v : V} (h : EvL te σ H xs) (hv : Ev ta σ H v) (hz : xs.length < 100000) (k : ∀ H1, Ex H H1 → tz D σ H1) : tSeq (tDrop (tBM K "list" rAppend te (tCons ta tNil))) tz D σ H := h H (Ex.refl H) _ fun p H1 hp e1 h1 =>
  ⟨Or.inl ⟨rfl, xs, sq_of h1⟩, hv H1 e1 _ fun H2 e2 => ⟨p, xs, v, rfl, rfl, e2 _ _ h1, sz_lt hz, k _ ((e1.trans e2).mut hp)⟩⟩
theorem ints_at {ns : List Int} {i : Nat} {x : V} (h : (ns.map V.int)[i]? = some x) : ∃ n, ns[i]? = some n ∧ x = .int n := by
  rw [List.getElem?_map] at h
  cases e : ns[i]? with
  | none => rw [e] at h; cases h
  | some c =>
    rw [e] at h
    exact ⟨c, rfl, (Option.some.inj h).symm⟩
theorem dp_IL {K : PySem.W.Frag} {H : Hp} {a : Addr} {ns : List Nat} (h : SqL K H a (IL ns)) : Dp K H (.ref a) (.list (pds (ns.map fun (k : Nat) => (k : Int)))) := .lst h (by rw [IL_eq]; exact dp_ints _)
/-- what a side costs -/
def cutP (ts : List Tie) (ns : List Nat) : Int := (ts.map fun t => if (decide (t.1 ∈ ns) != decide (t.2.1 ∈ ns)) = true then t.2.2 else 0).sum
theorem cutP_mem {ts : List Tie} {ns ms : List Nat} (h : ∀ t ∈ ts, (t.1 ∈ ns ↔ t.1 ∈ ms) ∧ (t.2.1 ∈ ns ↔ t.2.1 ∈ ms)) : cutP ts ns = cutP ts ms := by
  unfold cutP
  congr 1
  refine List.map_congr_left fun t ht => ?_
  obtain ⟨a, b⟩ := h t ht
  rw [decide_eq_decide.mpr a, decide_eq_decide.mpr b]
end
theorem sum_filter {α : Type} (d : α) (p : α → Bool) (g : α → Int) (xs : List α) : (((List.range xs.length).filter fun i => p (xs.getD i d)).map fun i => g (xs.getD i d)).sum = (xs.map fun x => if p x = true then g x else 0).sum := by
  have e : ((List.range xs.length).filter fun i => p (xs.getD i d)).map (fun i => g (xs.getD i d)) = (xs.filter p).map g := by
    have e1 : xs = (List.range xs.length).map fun i => xs.getD i d := by
      have := range_getD (fun x : α => x) xs d
      rw [List.map_id'] at this
      exact this.symm
    conv => rhs; rw [e1]
    rw [List.filter_map, List.map_map]
    rfl
  rw [e]
  induction xs with
  | nil => rfl
  | cons x xs ih =>
    have e1 : (((List.range xs.length).filter fun i => p (xs.getD i d)).map fun i => g (xs.getD i d)) = (xs.filter p).map g := by
      have e1 : xs = (List.range xs.length).map fun i => xs.getD i d := by
        have := range_getD (fun x : α => x) xs d
        rw [List.map_id'] at this
        exact this.symm
      conv => rhs; rw [e1]
      rw [List.filter_map, List.map_map]
      rfl
    have ih := ih e1
    by_cases h : p x = true
    · rw [List.filter_cons, if_pos h, List.map_cons, List.map_cons, List.sum_cons, List.sum_cons, if_pos h, ih]
    · rw [List.filter_cons, if_neg h, List.map_cons, List.sum_cons, if_neg h, ih, Int.zero_add]
theorem given_ints {n : Nat} {f : Nat → Bool} {w : Nat → Int} : given n f (fun i => .int (w i)) = ((((List.range n).filter f).map w).map V.int) := by
  unfold given
  rw [List.map_map]
  rfl

theorem p_asgR {te : TE} {σ : L2.St} {H0 H : Hp} {D : Ends} {tz : TS} {i : Nat} {R0 : Hp → V → Hp → Prop} (e : Ex H0 H) (h : EvR te σ H0 R0) (k : ∀ v H1, Ex H0 H1 → Ex H H1 → R0 H v H1 → tz D (σ.set i (some v)) H1) : tSeq (tAsg te (gName i)) tz D σ H := h H e _ fun v H1 e1 r => k v H1 (e.trans e1) e1 r
theorem p_dropR {te : TE} {σ : L2.St} {H0 H : Hp} {D : Ends} {tz : TS} {R0 : Hp → V → Hp → Prop} (e : Ex H0 H) (h : EvR te σ H0 R0) (k : ∀ v H1, Ex H0 H1 → Ex H H1 → R0 H v H1 → tz D σ H1) : tSeq (tDrop te) tz D σ H := h H e _ fun v H1 e1 r => k v H1 (e.trans e1) e1 r
/-- x.append(e), x any value that is known by a relation to be a new list -/
theorem q_appR {K : PySem.W.Frag} {σ : L2.St} {H : Hp} {ta te : TE} {D : Ends} {tz : TS} {v : V} {R0 : Hp → V → Hp → Prop} (h : EvR te σ H R0) (hr : ∀ H1 x H2, R0 H1 x H2 → ∃ p xs, x = .ref p ∧ H1 p = none ∧ H2 p = some (.lst xs) ∧ xs.length < 100000) (hv : Ev ta σ H v) (k : ∀ H1, Ex H H1 → tz D σ H1) :
    tSeq (tDrop (tBM K "list" rAppend te (tCons ta tNil))) tz D σ H := h H (Ex.refl H) _ fun x H1 e1 r => by
  obtain ⟨p, xs, rfl, hp, h1, hz⟩ := hr _ _ _ r
  exact ⟨Or.inl ⟨rfl, xs, sq_of h1⟩, hv H1 e1 _ fun H2 e2 => ⟨p, xs, v, rfl, rfl, e2 _ _ h1, sz_lt hz, k _ ((e1.trans e2).mut hp)⟩⟩
/-- x.reverse() -/
theorem q_rev {K : PySem.W.Frag} {σ : L2.St} {H : Hp} {ta : TE} {D : Ends} {l : Addr} {xs : List V} (hl : H l = some (.lst xs)) (ha : Ev ta σ H (.ref l)) (k : ∀ H1, Ex H H1 → D.nx σ (upd H1 l (.lst xs.reverse))) :
    tDrop (tBM0 K "list" rReverse ta) D σ H := ha H (Ex.refl H) _ fun H1 e1 => ⟨Or.inl ⟨rfl, xs, sq_of (e1 _ _ hl)⟩, l, xs, rfl, rfl, e1 _ _ hl, k H1 e1⟩

/-- an if whose ways meet in Fin -/
theorem p_whenK {σ : L2.St} {H0 H : Hp} {t : TT} {D : Ends} {tu tz : TS} {b : Bool} (Fin : L2.St → Hp → Prop) (e : Ex H0 H) (h : EvT t σ H0 b) (h1 : b = true → ∀ H1, Ex H0 H1 → Ex H H1 → (∀ σ' H', Fin σ' H' → tz D σ' H') → tu { D with nx := tz D } σ H1) (h2 : b = false → ∀ H1, Ex H0 H1 → Ex H H1 → Fin σ H1) (k : ∀ σ' H', Fin σ' H' → tz D σ' H') : tSeq (tIfS t tu tNext) tz D σ H :=
  p_when e h (fun hb H1 a b => h1 hb H1 a b k) fun hb H1 a b => k _ _ (h2 hb H1 a b)

section
variable {K : PySem.W.Frag} {σ : L2.St} {H : Hp} {te : TE}
theorem ev_sumL {ns : List Int} (h : EvL te σ H (ns.map V.int)) : Ev (tCB (rSum K) (tCons te tNil)) σ H (.int ns.sum) := fun H1 e Q q => h H1 e _ fun p H2 hp e2 h2 => ⟨p, ns, rfl, sq_of h2, q H2 e2⟩
theorem nodup_rev {ns : List Nat} (h : ns.Nodup) : ns.reverse.Nodup := by
  unfold List.Nodup at h ⊢
  rw [List.pairwise_reverse]
  exact h.imp Ne.symm
/-- sum([t[2] for t in ties if (t[0] in side) != (t[1] in side)]) -/
theorem ev_cut {p j s : Nat} {l sd : Addr} {xs : List V} {ts : List Tie} {ns : List Nat} (hp : σ[p]? = some (some (.ref l))) (hl : SqL K H l xs) (tz : TiesV K H xs ts) (hsd : SqL K H sd (IL ns)) (hz : ts.length ≤ 40000)
    (hj : ∀ x, ((wipe σ [j]).set j (some x))[j]? = some (some x)) (hs : ∀ x, ((wipe σ [j]).set j (some x))[s]? = some (some (.ref sd))) (hw : ∀ x, wipe ((wipe σ [j]).set j (some x)) [j] = wipe σ [j]) :
    Ev (tCB (rSum K) (tCons (tLc (iList K (tVar p)) (gName j) (tTest (tOp rNe (tOp (rIn K false) (tOp (rIxT K) (tVar j) (tC (.int 0))) (tVar s)) (tOp (rIn K false) (tOp (rIxT K) (tVar j) (tC (.int 1))) (tVar s)))) (tOp (rIxT K) (tVar j) (tC (.int 2))) [j]) tNil)) σ H (.int (cutP ts ns)) := by
  have key := sum_filter ((0, 0, 0) : Tie) (fun t => decide (t.1 ∈ ns) != decide (t.2.1 ∈ ns)) (fun t => t.2.2) ts
  have e0 : cutP ts ns = (((List.range ts.length).filter fun i => decide ((ts.getD i (0, 0, 0)).1 ∈ ns) != decide ((ts.getD i (0, 0, 0)).2.1 ∈ ns)).map fun i => (ts.getD i (0, 0, 0)).2.2).sum := key.symm
  rw [e0]
  refine ev_sumL ?_
  rw [← given_ints, ← tz.len]
  refine el_lcL (f := fun i => decide ((ts.getD i (0, 0, 0)).1 ∈ ns) != decide ((ts.getD i (0, 0, 0)).2.1 ∈ ns)) (v := fun i => .int (ts.getD i (0, 0, 0)).2.2) (ev_var hp) hl (by rw [tz.len]; exact hz) hw (fun i x H1 e hx => ?_) (fun i x H1 e hx _ => ?_)
  · obtain ⟨t, a, ht, rfl, ha⟩ := tz.get hx
    have et : ts.getD i (0, 0, 0) = t := by simp [List.getD, ht]
    rw [et]
    have ha1 := ex_t e ha
    exact et_is (et_test (ev_op (ev_inIL (ev_t0 (ev_var (hj _)) ha1) (ev_var (hs _)) (ex_l e hsd)) (ev_inIL (ev_t1 (ev_var (hj _)) ha1) (ev_var (hs _)) (ex_l e hsd)) (rv_ne rfl))) bl_ne
  · obtain ⟨t, a, ht, rfl, ha⟩ := tz.get hx
    have et : ts.getD i (0, 0, 0) = t := by simp [List.getD, ht]
    rw [et]
    exact ev_t2 (ev_var (hj _)) (ex_t e ha)
theorem sh_two (a b : List Int) : SeqAt.shaped (.list [.list (pds a), .list (pds b)]) = true := by
  unfold SeqAt.shaped
  have h1 : PyData.canLay0 (.list [.list (pds a), .list (pds b)]) = true := by
    show (PyData.canLayAll0 (pds a) && (PyData.canLayAll0 (pds b) && true)) = true
    rw [pds_lay, pds_lay]
    rfl
  have h2 : PyData.depth (.list [.list (pds a), .list (pds b)]) = 2 := by
    show max (PyData.depthAll (pds a) + 1) (max (PyData.depthAll (pds b) + 1) 0) + 1 = 2
    rw [pds_depth, pds_depth]
    rfl
  rw [h1, h2]
  rfl
end

/-- a loop over a list that an expression makes -/
theorem q_forE {K : PySem.W.Frag} {σ : L2.St} {H : Hp} {tl : TE} {g : TG} {D : Ends} {tu tz : TS} {R0 : Hp → V → Hp → Prop} (h : EvR tl σ H R0)
    (k : ∀ v H1, Ex H H1 → R0 H v H1 → ∃ p xs, v = .ref p ∧ SqL K H1 p xs ∧ ∃ Pv : Nat → L2.St → Hp → Prop, Pv 0 σ H1 ∧ (∀ i σ' H', i ≤ xs.length → Pv i σ' H' → SqL K H' p xs) ∧ (∀ i x σ' H', xs[i]? = some x → Pv i σ' H' → g x σ' H' fun σ2 H2 => tu { D with nx := Pv (i + 1), ct := Pv (i + 1), bk := tz D } σ2 H2) ∧ ∀ σ' H', Pv xs.length σ' H' → tz D σ' H') :
    tSeq (tFor (iList K tl) g tu) tz D σ H := h H (Ex.refl H) _ fun v H1 e r => by
  obtain ⟨p, xs, rfl, hp, Pv, h0, hl, hs, hd⟩ := k v H1 e r
  exact ⟨p, rfl, ⟨xs, hp⟩, for_list (D := { D with nx := tz D }) Pv h0 hl hs hd⟩

/-! ### rules in a comprehension's block: K by its name -/
theorem kn_tuple_of {X : Cx} {K : PySem.W.Frag} (h : X.K = K) : CallR X (.type "tuple") (fun xs H Q => ∃ p ys, xs = [.ref p] ∧ ((SqL K H p ys ∧ ∀ l, H l = none → Q (.ref l) (upd H l (.tup ys))) ∨ (SqT K H p ys ∧ Q (.ref p) H))) := by
  subst h
  exact call_tuple_of
theorem kn_len_seq {X : Cx} {K : PySem.W.Frag} (h : X.K = K) : CallR X (.builtin "len") (fun xs H Q => ∃ p ys, xs = [.ref p] ∧ (SqL K H p ys ∨ SqT K H p ys) ∧ Q (.int ys.length) H) := by
  subst h
  exact call_len_seq
theorem kn_sum {X : Cx} {K : PySem.W.Frag} (hc : X.calm = true) (h : X.K = K) : CallR X (.builtin "sum") (rSum K) := by
  subst h
  exact cr_sum hc

section
variable {K : PySem.W.Frag} {σ : L2.St} {H : Hp} {ta tb te tl : TE} {t : TT} {x y z : V} {R0 : Hp → V → Hp → Prop}
/-- one side known by a relation -/
theorem ev_opR {r : R2} (h : EvR ta σ H R0) (hb : Ev tb σ H y) (hr : ∀ H0 v H1 H2, Ex H H0 → Ex H0 H1 → Ex H1 H2 → R0 H0 v H1 → RV r v y H2 z) : Ev (tOp r ta tb) σ H z := fun H1 e Q q =>
  h H1 e _ fun v H2 e2 r2 => hb H2 (e.trans e2) _ fun H3 e3 => hr H1 v H2 H3 e e2 e3 r2 H3 (Ex.refl H3) Q fun H4 e4 => q H4 ((e2.trans e3).trans e4)
theorem ev_lenR {n : Nat} (h : EvR te σ H R0) (hr : ∀ H1 v H2, R0 H1 v H2 → ∃ p xs, v = .ref p ∧ SqL K H2 p xs ∧ xs.length = n) : Ev (tCB (fun xs H Q => ∃ p ys, xs = [.ref p] ∧ (SqL K H p ys ∨ SqT K H p ys) ∧ Q (.int ys.length) H) (tCons te tNil)) σ H (.int (n : Int)) := fun H1 e Q q =>
  h H1 e _ fun v H2 e2 r => by
    obtain ⟨p, xs, rfl, hp, hn⟩ := hr _ _ _ r
    exact ⟨p, xs, rfl, .inl hp, by rw [hn]; exact q H2 e2⟩
theorem ev_fldR {C a : Addr} {f : Str} (h : EvR te σ H R0) (hr : ∀ H1 v H2, R0 H1 v H2 → ∃ a dx fs, v = .ref a ∧ H2 a = some (.ins C dx fs) ∧ Cls K C ∧ NoAttr K C f ∧ fs.lookup f = some x) : Ev (tFld K te f) σ H x := fun H1 e Q q =>
  h H1 e _ fun v H2 e2 r => by
    obtain ⟨a, dx, fs, rfl, ha, c, n, l⟩ := hr _ _ _ r
    exact ⟨a, C, dx, fs, x, rfl, ha, c, n, l, q H2 e2⟩
theorem el_lcT {a : Addr} {xs : List V} {j : Nat} {vs : List Nat} (f : Nat → Bool) (v : Nat → V) (h : Ev tl σ H (.ref a)) (hx : SqT K H a xs) (hz : xs.length ≤ 40000) (hw : ∀ x, wipe ((wipe σ vs).set j (some x)) vs = wipe σ vs)
    (ht : ∀ (i : Nat) (x : V) H1, Ex H H1 → xs[i]? = some x → EvT t ((wipe σ vs).set j (some x)) H1 (f i)) (he : ∀ (i : Nat) (x : V) H1, Ex H H1 → xs[i]? = some x → f i = true → Ev te ((wipe σ vs).set j (some x)) H1 (v i)) :
    EvL (tLc (iTup K tl) (gName j) t te vs) σ H (given xs.length f v) := fun H0 e Q q => h H0 e _ fun H1 e1 => ⟨a, rfl, ⟨xs, ex_t (e.trans e1) hx⟩, fun Dl hD =>
  lc_tup (xs := xs) (Cw H1 f v Dl) ⟨hD, Ex.new hD, upd_same⟩ (fun i H' _ p => ex_t ((e.trans e1).trans p.2.1) hx) (fun i x H' hi p => ⟨hw x, cw_turn p (by have := (List.getElem?_eq_some_iff.mp hi).1; omega) (ht i x H1 (e.trans e1) hi) (fun hf => he i x H1 (e.trans e1) hi hf)⟩)
    (fun H' p => q Dl H' (fresh_back e1 p.1) (e1.trans p.2.1) p.2.2)⟩
theorem given_map {α : Type} (g : α → V) (d : α) (ns : List α) : given ns.length (fun _ => true) (fun i => g (ns.getD i d)) = ns.map g := by
  unfold given
  rw [filter_yes]
  exact range_getD g ns d
/-- a loop over zip of a list that an expression makes and one that stands -/
theorem q_forZ {g : TG} {D : Ends} {tu tz : TS} {b : Addr} (h : EvR ta σ H R0) (hb : Ev tb σ H (.ref b))
    (k : ∀ H0 v H1, Ex H H0 → Ex H0 H1 → R0 H0 v H1 → ∃ p xs ys, v = .ref p ∧ xs.length = ys.length ∧ SqL K H1 p xs ∧ SqL K H1 b ys ∧ ∀ H1', Ex H1 H1' → ∃ Pv : Nat → L2.St → Hp → Prop, Pv 0 σ H1' ∧ (∀ i σ' H', Pv i σ' H' → SqL K H' p xs ∧ SqL K H' b ys) ∧
      (∀ (i : Nat) (x y : V) (T : Addr) (σ' : L2.St) (H' : Hp), xs[i]? = some x → ys[i]? = some y → Pv i σ' H' → H' T = none → g (.ref T) σ' (upd H' T (.tup [x, y])) fun σ2 H2 => tu { D with nx := Pv (i + 1), ct := Pv (i + 1), bk := tz D } σ2 H2) ∧ ∀ σ' H', Pv xs.length σ' H' → tz D σ' H') :
    tSeq (tFor (iZip K (tCons ta (tCons tb tNil))) g tu) tz D σ H := h H (Ex.refl H) _ fun v H1 e r => by
  obtain ⟨p, xs, ys, rfl, hl, hp, hq, k⟩ := k H v H1 (Ex.refl H) e r
  refine hb H1 e _ fun H2 e2 => ?_
  obtain ⟨Pv, h0, hs, ht, hd⟩ := k H2 e2
  exact ⟨p, b, xs, ys, rfl, ex_l e2 hp, ex_l e2 hq, for_zipL (D := { D with nx := tz D }) hl Pv h0 hs ht hd⟩
end

theorem TiesV.append {K : PySem.W.Frag} {H : Hp} {vs ws : List V} {ts us : List Tie} (h : TiesV K H vs ts) (h2 : TiesV K H ws us) : TiesV K H (vs ++ ws) (ts ++ us) := by
  refine ⟨by rw [List.length_append, List.length_append, h.len, h2.len], fun i x y a b => ?_⟩
  have hl := h.len
  by_cases hi : i < vs.length
  · rw [List.getElem?_append_left hi] at a
    rw [List.getElem?_append_left (by omega)] at b
    exact h.at_ i x y a b
  · rw [List.getElem?_append_right (by omega)] at a
    rw [List.getElem?_append_right (by omega), ← hl] at b
    exact h2.at_ _ x y a b
end G

namespace G
open PySem PySem.Spec PyProof.Rows L2 Evl RZ
/-! ### what is raised, wished for at the caller's slots -/
section
variable {X : Cx} {CX : CXT} {k : Nat} {f C : Addr} {fd : FuncData} {ps : List Str} {sp : Sp} {E : L2.St → XK} {x m : Str} {p pos apos : Pos} {e o : Expr} {es : List Expr} {ta : TE} {t : TA}
theorem run_makeS {pins : List (Addr × Obj)} {σ : L2.St} {H : Hp} {s : Shared} {Q : VK} {us : List Value} {vs : List V} (M : Mk X.K C f) (F : FnOk X.prog X.w X.K X.mg X.base CX k f fd ps sp) (hr : Room (k + 1) X.A) (hb : Binds X.K fd ps [])
    (hx : PassesAt CX X σ (E σ)) (I : Inv X pins σ H s) (r : Vals vs us)
    (h : ∀ x dx, H x = none → H dx = none → dx ≠ x → sp (.ref x :: vs) (upd (upd H dx (.own x)) x (.ins C dx [])) (fun v H2 => v = .non ∧ Q (.ref x) H2) (E σ)) :
    wpAny (model X.prog X.w) X.A (call (.ref C) us) (EP X pins σ Q) X.xe s := by
  have hq := h (s.heap.objs.size + 1) s.heap.objs.size (I.hok.fresh (Nat.le_succ _)) (I.hok.fresh (Nat.le_refl _)) (Nat.ne_of_lt (Nat.lt_succ_self _))
  have I2 := Inv.made (C := C) I
  have r2 : Vals (V.ref (s.heap.objs.size + 1) :: vs) (Value.ref (s.heap.objs.size + 1) :: us) := .cons rfl r
  have hl : (Value.ref (s.heap.objs.size + 1) :: us ++ []).length = ps.length := by
    have e := r2.length
    rw [F.len _ _ _ _ hq] at e
    rw [List.append_nil]
    exact e.symm
  have b := hb _ (Value.ref (s.heap.objs.size + 1) :: us) I2.kIn hl
  rw [List.append_nil] at b
  refine wpAny_call (make_map (f := f) I.kIn M.makes M.init (beq_iff_eq.mp M.fn) (codeAny_mono (F.run _ X.stack _ _ ⟨Value.ref (s.heap.objs.size + 1) :: us, []⟩ (Value.ref (s.heap.objs.size + 1) :: us) _ _ (E σ) (hr.make C us [])
    (I2.env0.make C us []) b r2 hq) fun r s' hq' => ?_))
  cases r with
  | error e => exact hx pins _ _ e s' I2 hq'
  | ok fl =>
    cases fl with
    | ret u =>
      obtain ⟨v, H', I3, rv, ev, q3⟩ := I2.after hq'
      subst ev
      exact ⟨rv, ⟨V.ref (s.heap.objs.size + 1), H', I3, rfl, q3⟩⟩
    | next => exact False.elim hq'
    | brk => exact False.elim hq'
    | cont => exact False.elim hq'
def tMakeS (C : Addr) (sp : Sp) (E : L2.St → XK) (t : TA) : TE := fun σ H Q => t σ H fun vs H1 => ∀ x dx, H1 x = none → H1 dx = none → dx ≠ x → sp (.ref x :: vs) (upd (upd H1 dx (.own x)) x (.ins C dx [])) (fun v H2 => v = .non ∧ Q (.ref x) H2) (E σ)
theorem pe_makeS (M : Mk X.K C f) (F : FnOk X.prog X.w X.K X.mg X.base CX k f fd ps sp) (hr : Room (k + 1) X.A) (hg : Gl X x) (hm : X.mg x = some (.ref C)) (hb : Binds X.K fd ps []) (hx : ∀ σ, PassesAt CX X σ (E σ))
    (ha : PA X (e :: es) t) (hdb : (x == ("__debug__" : Str)) = false := by decide) (he : starEach (e :: es) X.env = (false, eval e X.env) :: starEach es X.env := by rfl) (hpl : (backTo pos (starEach es X.env)).any (·.1) = false := by rfl) :
    PE X (.Call (.Name x p) (e :: es) [] pos) (tMakeS C sp E t) := by
  refine ⟨fun pins s σ H Q I h => ?_⟩
  refine wpAny_Call_Name_kw (ld_glob I hg hm ?_ hdb)
  refine PySem.W.callWith_K (h₀ := X.base) I.ok.mod.kin M.kp (thn (ha.run pos pins s σ H _ I h) fun us s1 ⟨vs, H1, I1, r, q⟩ => ⟨I1.kIn, ?_⟩) he hpl
  exact run_makeS M F hr hb (hx σ) I1 r q
def tMethS (C : Addr) (m : Str) (sp : Sp) (E : L2.St → XK) (ta : TE) (t : TA) : TE := fun σ H Q => ta σ H fun x H1 => ∃ a dx fs, x = .ref a ∧ H1 a = some (.ins C dx fs) ∧ fs.lookup m = none ∧ t σ H1 fun vs H2 => sp (x :: vs) H2 Q (E σ)
theorem pe_methS {pl : Sem Bool} (he : PE X o ta) (c : Cls X.K C) (hm : Meth X.K C m f) (F : FnOk X.prog X.w X.K X.mg X.base CX k f fd ps sp) (hr : Room k X.A) (hb : Binds X.K fd ps []) (hx : ∀ σ, PassesAt CX X σ (E σ)) (ha : PA X (e :: es) t)
    (hst : starEach (e :: es) X.env = (false, eval e X.env) :: starEach es X.env := by rfl) (hpl : (backTo pos (starEach es X.env)).any (·.1) = false := by rfl)
    (ht : eval (.Call (.Attribute o m apos) (e :: es) [] pos) X.env = (do
      let ov ← eval o X.env
      standAt apos.atName
      let (f, first) ← holding [ov] (getMethod ov m pl)
      callWith pos f first (backTo pos (starEach (e :: es) X.env)) (backToKw pos (keywordEach [] X.env))) := by rfl) :
    PE X (.Call (.Attribute o m apos) (e :: es) [] pos) (tMethS C m sp E ta t) := by
  refine ⟨fun pins s σ H Q I h => ?_⟩
  refine PySem.W.methodCall_KW (pl := pl) (thn (he.run pins s σ H _ I h) fun u s1 ⟨x, H1, I1, rx, a, dx, fs, ex, ea, l, q⟩ => ?_) ht
  subst ex
  obtain rfl : u = Value.ref a := rx
  refine getmeth_ok I1 ea c hm l ?_
  refine PySem.W.callWith_K (first := [.ref a]) (h₀ := X.base) I.ok.mod.kin hm.kp (thn (ha.run pos pins s1 σ H1 _ I1 q) fun us s2 ⟨vs, H2, I2, r, q2⟩ => ⟨I2.kIn, ?_⟩) hst hpl
  exact run_fnS (us := .ref a :: us) (vs := .ref a :: vs) F hr hb (hx σ) I2 (.cons rfl r) q2
end
/-! ### isinstance of the caught exception -/
def rIsE1 (K : PySem.W.Frag) (D a : Addr) (cls : Value) (d : Option Addr) : List V → Hp → VK → Prop := fun xs H Q => cls = .ref D ∧ d = none ∧ rIsE K D a xs H Q
theorem call_isE1 {X : Cx} {a D : Addr} {oe : Obj} {cls : Value} {d : Option Addr} {pn : List (Addr × Obj)} (C : ExcC X.K D) (hz : Zc cls d oe) (hf : ∃ vs, oe.data = .fields vs) : CallR (X.suite a ((a, oe) :: pn)) (.builtin "isinstance") (rIsE1 X.K D a cls d) := by
  intro pins s σ H xs us Q I r h
  obtain ⟨rfl, rfl, h⟩ := h
  exact call_isE C hz hf pins s σ H xs us Q I r h
def rIsE2 (K : PySem.W.Frag) (D a : Addr) (cls : Value) (d : Option Addr) : List V → Hp → VK → Prop := fun xs H Q => cls = .ref D ∧ d = none ∧ ∃ (tp : Addr) (cs : List V) (us : List Value) (b : Bool), xs = [.ref a, .ref tp] ∧ H tp = some (.tup cs) ∧ Paired ClsV cs us ∧ PySem.W.kitAny K (.ref D) us = some b ∧ Q (.bl b) H
theorem call_isE2 {X : Cx} {a D : Addr} {oe : Obj} {cls : Value} {d : Option Addr} {pn : List (Addr × Obj)} (C : ExcC X.K D) (hz : Zc cls d oe) (hf : ∃ vs, oe.data = .fields vs) : CallR (X.suite a ((a, oe) :: pn)) (.builtin "isinstance") (rIsE2 X.K D a cls d) := by
  intro pins s σ H xs us Q I r h
  obtain ⟨rfl, rfl, tp, cs, ws, b, rfl, hT, k, e, q⟩ := h
  obtain ⟨u1, u2, rfl, r1, r2⟩ := vals2 r
  cases (show u2 = Value.ref tp from r2)
  cases (show u1 = Value.ref a from r1)
  obtain ⟨hget, _⟩ := I.pin (a, oe) (List.mem_append.mpr (.inl List.mem_cons_self))
  obtain ⟨vs, hv⟩ := hf
  have J : PySem.W.InstAt s.heap a oe D none := by
    obtain ⟨oc, od, oda, osl⟩ := oe
    obtain ⟨h1, h2⟩ := hz
    dsimp only at h1 h2 hv
    subst h1 h2 hv
    exact ⟨hget, rfl, rfl, trivial⟩
  obtain ⟨_, its, rv, o, h1, h2, n, h3⟩ := (show ObjOk X.prog X.w H s.heap tp (.tup cs) from I.hok tp _ hT)
  have e3 := ClsV.all k rv
  subst e3
  obtain ⟨oc, od, dt, sl⟩ := o
  simp only at h2 h3
  subst h2 h3
  exact PySem.W.kia_tup (PySem.W.handS_kitx_exc C.hg C.hk C.hs C.hd C.ha C.hn C.ht C.hm) I.kIn J h1 e (fun z => nomatch z) fun tk => ⟨.bl b, H, I.kept (t' := tk) fun _ _ z => z, rfl, q⟩
theorem kit_own {K : PySem.W.Frag} {D M : Addr} {b : Bool} (hi : PySem.W.isClsIn K M = true) (ht : PySem.W.typeIn K (.ref M) = some (.type "type")) (hs : PySem.W.subIn K (.ref D) (.ref M) = some b) (hn : b = false → D ≠ M) : PySem.W.kitOne K (.ref D) (.ref M) = some b := by
  unfold PySem.W.kitOne
  by_cases e : D = M
  · subst e
    rw [if_pos (beq_self_eq_true _)]
    cases b with
    | true => rfl
    | false => exact absurd rfl (hn rfl)
  · rw [if_neg (by simpa using e)]
    have hi' : (PySem.W.clsIn K M).isSome = true := hi
    show (if ((PySem.W.clsIn K M).isSome && PySem.W.typeIn K (.ref M) == some (.type "type")) = true then PySem.W.subIn K (.ref D) (.ref M) else none) = some b
    rw [hi', ht, if_pos (by rfl), hs]
theorem kit_ty' {K : PySem.W.Frag} {D : Addr} {T : String} {b : Bool} (hm : PySem.W.kitMeta T = true) (hs : PySem.W.subIn K (.ref D) (.type T) = some b) : PySem.W.kitOne K (.ref D) (.type T) = some b := by
  unfold PySem.W.kitOne
  rw [if_neg (by simp)]
  show (if PySem.W.kitMeta T = true then PySem.W.subIn K (.ref D) (.type T) else none) = some b
  rw [if_pos hm, hs]
theorem exm_self' {K : PySem.W.Frag} {S : Addr} (h1 : PySem.W.subIn K (.ref S) (.type "BaseException") = some true) (h2 : PySem.W.isClsIn K S = true) (h3 : PySem.W.typeIn K (.ref S) = some (.type "type")) (h4 : PySem.W.subIn K (.ref S) (.ref S) = some true) :
    PySem.W.exmOne K (.ref S) (.ref S) = some true := by
  have e1 : (PySem.W.subIn K (.ref S) (.type "BaseException") == some true) = true := by rw [h1] <;> rfl
  have e2 : ((PySem.W.clsIn K S).isSome && PySem.W.typeIn K (.ref S) == some (.type "type")) = true := by
    have h2' : (PySem.W.clsIn K S).isSome = true := h2
    rw [h2', h3] <;> rfl
  show (if (PySem.W.subIn K (.ref S) (.type "BaseException") == some true) = true then (if ((PySem.W.clsIn K S).isSome && PySem.W.typeIn K (.ref S) == some (.type "type")) = true then PySem.W.subIn K (.ref S) (.ref S) else none) else none) = some true
  rw [if_pos e1, if_pos e2]
  exact h4
/-- an own exception's class -/
structure XCls (K : PySem.W.Frag) (D : Addr) : Prop where
  kp : PySem.W.keepIn K (.ref D) = true
  x : PySem.W.excIn K D [.type "ValueError", .type "Exception", .type "BaseException", .type "object"] "ValueError.__new__" = true
  b : PySem.W.subIn K (.ref D) (.type "BaseException") = some true
  t : PySem.W.typeIn K (.ref D) = some (.type "type")
  i : PySem.W.isClsIn K D = true
  s : PySem.W.subIn K (.ref D) (.ref D) = some true
  v : PySem.W.subIn K (.ref D) (.type "ValueError") = some true
  ec : ExcC K D
/-! ### things of any kind -/
def tyD : PyData → String
  | .none => "NoneType" | .bool _ => "bool" | .int _ => "int" | .str _ => "str" | .list _ => "list" | .tuple _ => "tuple" | .dict _ => "dict"
theorem tyb_of {K : PySem.W.Frag} {H : Hp} {v : V} {d : PyData} (h : Dp K H v d) : TyB K H v (tyD d) := by
  cases h with
  | non => exact .non
  | bl b => exact .bl b
  | int i => exact .int i
  | str x => exact .str x
  | lst h _ => exact .lst h
  | tup h _ => exact .tup h
theorem ty8_of {K : PySem.W.Frag} {H : Hp} {v : V} {d : PyData} (h : Dp K H v d) : Ty8 (tyD d) := by
  cases h with
  | non => exact .inl rfl
  | bl b => exact .inr (.inl rfl)
  | int i => exact .inr (.inr (.inl rfl))
  | str x => exact .inr (.inr (.inr (.inl rfl)))
  | lst h _ => exact .inr (.inr (.inr (.inr (.inl rfl))))
  | tup h _ => exact .inr (.inr (.inr (.inr (.inr (.inl rfl)))))
def isW (d : PyData) (lo hi : Int) : Bool := match d with
  | .int n => decide (lo ≤ n ∧ n ≤ hi)
  | _ => false
def eqI : PyData → PyData → Bool
  | .int a, .int b => decide (a = b)
  | _, _ => false
def isT (n : Nat) (d : PyData) : Bool := match d with
  | .tuple [a, b, c] => isW a 0 ((n : Int) - 1) && isW b 0 ((n : Int) - 1) && !eqI a b && isW c 1 1000000000
  | _ => false

theorem isW_no {d : PyData} {lo hi : Int} (h : tyD d ≠ "int") : isW d lo hi = false := by
  cases d <;> first | rfl | exact absurd rfl h
theorem isW_yes {d : PyData} {lo hi : Int} (h : isW d lo hi = true) : ∃ n, d = .int n ∧ lo ≤ n ∧ n ≤ hi := by
  cases d with
  | int n => exact ⟨n, rfl, of_decide_eq_true h⟩
  | _ => cases h
theorem dpall_len {K : PySem.W.Frag} {H : Hp} : ∀ {xs : List V} {ds : List PyData}, DpAll K H xs ds → xs.length = ds.length
  | _, _, .nil => rfl
  | _, _, .cons _ t => by rw [List.length_cons, List.length_cons, dpall_len t]
theorem dpall_get {K : PySem.W.Frag} {H : Hp} : ∀ {xs : List V} {ds : List PyData} {i : Nat} {x : V}, DpAll K H xs ds → xs[i]? = some x → ∃ d, ds[i]? = some d ∧ Dp K H x d
  | _, _, _, _, .nil, e => by simp at e
  | _, _, 0, _, .cons h _, e => by
    simp at e
    subst e
    exact ⟨_, rfl, h⟩
  | _, _, i + 1, x, .cons _ t, e => by
    obtain ⟨d, a, b⟩ := dpall_get (i := i) (x := x) t (by simpa using e)
    exact ⟨d, by simpa using a, b⟩
theorem dpall_ex {K : PySem.W.Frag} {H H' : Hp} (e : Ex H H') {xs : List V} {ds : List PyData} (h : DpAll K H xs ds) : DpAll K H' xs ds := dp_exA e ds xs h
theorem isT_no {n : Nat} {d : PyData} (h : tyD d ≠ "tuple") : isT n d = false := by
  cases d <;> first | rfl | exact absurd rfl h
theorem isT_len {n : Nat} {ds : List PyData} (h : ds.length ≠ 3) : isT n (.tuple ds) = false := by
  match ds, h with
  | [], _ => rfl
  | [_], _ => rfl
  | [_, _], _ => rfl
  | [_, _, _], h => exact absurd rfl h
  | _ :: _ :: _ :: _ :: _, _ => rfl
/-! ### len(set(xs)), any ints -/
def uniq (ns : List Int) : Nat := (PyProof.Rows.firstMet (fun i => ns.getD i 0) ns.length).length
def tLenSetG (K : PySem.W.Frag) (ta : TE) : TE := fun σ H Q => ta σ H fun x H1 => ∃ (l : Addr) (ns : List Int), x = .ref l ∧ SqL K H1 l (ns.map V.int) ∧ ns.length ≤ 4000 ∧ Q (.int (uniq ns : Nat)) H1
theorem uniq_le (f : Nat → Int) : ∀ i, (PyProof.Rows.firstMet f i).length ≤ i ∧ ∀ j, j < i → f j ∈ PyProof.Rows.firstMet f i
  | 0 => ⟨Nat.le_refl _, fun j h => absurd h (Nat.not_lt_zero _)⟩
  | i + 1 => by
    obtain ⟨a, b⟩ := uniq_le f i
    rw [PyProof.Rows.firstMet_succ]
    unfold PyProof.Rows.step_dedup
    by_cases h : ((PyProof.Rows.firstMet f i).any (· == f i)) = true
    · rw [if_pos h]
      refine ⟨Nat.le_succ_of_le a, fun j hj => ?_⟩
      by_cases e : j = i
      · subst e
        obtain ⟨y, hy, ey⟩ := List.any_eq_true.mp h
        rw [← eq_of_beq ey]
        exact hy
      · exact b j (by omega)
    · rw [if_neg h]
      refine ⟨by rw [List.length_append]; exact Nat.succ_le_succ a, fun j hj => ?_⟩
      by_cases e : j = i
      · subst e
        exact List.mem_append.mpr (.inr (List.mem_singleton.mpr rfl))
      · exact List.mem_append.mpr (.inl (b j (by omega)))
theorem uniq_dup (f : Nat → Int) : ∀ n i j, i < j → j < n → f i = f j → (PyProof.Rows.firstMet f n).length < n
  | 0, i, j, _, h, _ => absurd h (Nat.not_lt_zero _)
  | n + 1, i, j, hij, hj, e => by
    obtain ⟨a, b⟩ := uniq_le f n
    rw [PyProof.Rows.firstMet_succ]
    unfold PyProof.Rows.step_dedup
    by_cases h : j = n
    · subst h
      rw [if_pos (List.any_eq_true.mpr ⟨f i, b i hij, by rw [e]; exact beq_self_eq_true _⟩)]
      omega
    · have ih := uniq_dup f n i j hij (by omega) e
      by_cases h : ((PyProof.Rows.firstMet f n).any (· == f n)) = true
      · rw [if_pos h]; omega
      · rw [if_neg h, List.length_append]
        show _ + 1 < _
        omega
theorem uniq_lt {ns : List Int} {i j : Nat} {k : Int} (hij : i < j) (h1 : ns[i]? = some k) (h2 : ns[j]? = some k) : uniq ns < ns.length :=
  uniq_dup _ ns.length i j hij (List.getElem?_eq_some_iff.mp h2).1 (by simp [List.getD, h1, h2])
theorem intsAre_vals' : ∀ {ns : List Int} {us : List Value}, Vals (ns.map V.int) us → PyProof.Rows.IntsAre us ns
  | [], _, .nil => .nil
  | n :: ns, _, .cons r t => by
    obtain ⟨k, rfl⟩ := r
    exact .cons n k (intsAre_vals' t)
theorem pe_lenSetG {X : Cx} {a : Expr} {ta : TE} {p p2 q pos : Pos} (hg : Gl X "len") (hm : X.mg "len" = none) (hg2 : Gl X "set") (hm2 : X.mg "set" = none) (ha : PE X a ta) (hc : X.calm = true := by rfl)
    (na : starEach [a] X.env = (false, eval a X.env) :: starEach [] X.env := by rfl) : PE X (.Call (.Name "len" p) [.Call (.Name "set" p2) [a] [] q] [] pos) (tLenSetG X.K ta) := by
  refine ⟨fun pins s σ H Q I h => ?_⟩
  refine Call_ (ld_blt I hg hm boot_len ?_)
  refine PyProof.Rows.callWith_builtin1 (PyProof.Rows.args_cons ?_ rfl) rfl rfl
  refine Call_ (ld_blt I hg2 hm2 boot_set ?_)
  refine PyProof.Rows.callWith_type1 (PyProof.Rows.args_cons (thn (ha.run pins s σ H _ I h) fun v s1 ⟨x, H1, I1, r1, q1⟩ => PyProof.Rows.args_nil ?_) na) na rfl
  obtain ⟨l, ns, rfl, hq, hl, q1⟩ := q1
  cases r1
  obtain ⟨its, r, pl, hz⟩ := I1.list hq
  have hlen : its.toArray.size = ns.length := by rw [List.size_toArray, ← r.length, List.length_map]
  refine call_set_list (I1.ok.hd hc) pl.isList (by simpa using intsAre_vals' r) (by rw [hlen]; unfold scanBound; omega) fun h' tk hS hk => ?_
  refine PyProof.Rows.args_nil ?_
  rw [hlen] at hS
  obtain ⟨o, es, ep, t, ho, hex, hd, _, _, _, hf, hn⟩ := hS
  have hu := (uniq_le (fun i => ns.getD i 0) ns.length).1
  have I2 : Inv X pins σ H1 { s1 with heap := h', toks := tk } := I1.kept fun b o e => hk b o (Heap.lt_size e) e
  exact call_len_set ho hex hd hf (by rw [hn] <;> omega) ⟨.int (uniq ns : Nat), H1, I2.tok _, ⟨_, by rw [hn]; rfl⟩, q1⟩
theorem ev_lenSetG {K : PySem.W.Frag} {σ : L2.St} {H : Hp} {ta : TE} {a : Addr} {ns : List Int} (ha : Ev ta σ H (.ref a)) (h : SqL K H a (ns.map V.int)) (hz : ns.length ≤ 4000) : Ev (tLenSetG K ta) σ H (.int (uniq ns : Nat)) := fun H1 e Q q =>
  ha H1 e _ fun H2 e2 => ⟨a, ns, rfl, ex_l (e.trans e2) h, hz, q H2 e2⟩

section
variable {K : PySem.W.Frag} {σ : L2.St} {H : Hp} {ta tb te : TE}
theorem ev_isE1 {D a : Addr} {i : Nat} {c : V} {cv : Value} {b : Bool} (hi : σ[i]? = some (some (.ref a))) (hb : Ev tb σ H c) (hc : ClsV c cv) (hk : PySem.W.kitOne K (.ref D) cv = some b) : Ev (tCB (rIsE1 K D a (.ref D) none) (tCons (tVar i) (tCons tb tNil))) σ H (.bl b) := fun H1 e Q q =>
  ⟨_, hi, hb H1 e _ fun H2 e2 => ⟨rfl, rfl, c, cv, b, rfl, fun u r => hc.eq r, hk, q H2 e2⟩⟩
theorem ev_isE2 {D a : Addr} {i : Nat} {ta : TA} {cs : List V} {us : List Value} {b : Bool} (hi : σ[i]? = some (some (.ref a))) (hb : EvA ta σ H cs) (hz : cs.length ≤ 100) (hc : Paired ClsV cs us) (hk : PySem.W.kitAny K (.ref D) us = some b) : Ev (tCB (rIsE2 K D a (.ref D) none) (tCons (tVar i) (tCons (tTup ta) tNil))) σ H (.bl b) := fun H1 e Q q =>
  ⟨_, hi, hb H1 e _ fun H2 e2 => ⟨sz_of (by omega), fun p hp => ⟨rfl, rfl, p, cs, us, b, rfl, upd_same, hc, hk, q _ (e2.trans (Ex.new hp))⟩⟩⟩
theorem kit_none3 {D A B C : Addr} {K : PySem.W.Frag} (ha : PySem.W.kitOne K (.ref D) (.ref A) = some false) (hb : PySem.W.kitOne K (.ref D) (.ref B) = some false) (hc : PySem.W.kitOne K (.ref D) (.ref C) = some false) : PySem.W.kitAny K (.ref D) [.ref A, .ref B, .ref C] = some false :=
  kitAny_cons ha (fun _ => kitAny_cons hb (fun _ => kitAny_cons hc (fun _ => kitAny_nil) (fun z => by cases z)) (fun z => by cases z)) (fun z => by cases z)
theorem kit_yes {K : PySem.W.Frag} {D M : Addr} (h : XCls K M) (hs : PySem.W.subIn K (.ref D) (.ref M) = some true) : PySem.W.kitOne K (.ref D) (.ref M) = some true := kit_own h.i h.t hs (fun z => by cases z)
theorem kit_no {K : PySem.W.Frag} {D M : Addr} (hd : XCls K D) (h : XCls K M) (hs : PySem.W.subIn K (.ref D) (.ref M) = some false) : PySem.W.kitOne K (.ref D) (.ref M) = some false := kit_own h.i h.t hs (fun _ e => by
  subst e
  have := hd.s.symm.trans hs
  cases this)
/-! ### things made: a value that stands for d -/
def EvD (K : PySem.W.Frag) (te : TE) (σ : L2.St) (H : Hp) (d : PyData) : Prop := EvR te σ H fun _ v H2 => Dp K H2 v d
def EvDA (K : PySem.W.Frag) (ta : TA) (σ : L2.St) (H : Hp) (ds : List PyData) : Prop := ∀ H1, Ex H H1 → ∀ Q : List V → Hp → Prop, (∀ vs H2, Ex H1 H2 → DpAll K H2 vs ds → Q vs H2) → ta σ H1 Q
def EvDL (K : PySem.W.Frag) (te : TE) (σ : L2.St) (H : Hp) (ds : List PyData) : Prop := EvLR te σ H fun _ vs H2 => DpAll K H2 vs ds
theorem ed_int {i : Int} (h : Ev te σ H (.int i)) : EvD K te σ H (.int i) := fun H1 e Q q => h H1 e Q fun H2 e2 => q _ H2 e2 (.int i)
theorem ed_bl {b : Bool} (h : Ev te σ H (.bl b)) : EvD K te σ H (.bool b) := fun H1 e Q q => h H1 e Q fun H2 e2 => q _ H2 e2 (.bl b)
theorem ed_str {s : Str} (h : Ev te σ H (.str s)) : EvD K te σ H (.str s) := fun H1 e Q q => h H1 e Q fun H2 e2 => q _ H2 e2 (.str s)
theorem ed_non (h : Ev te σ H .non) : EvD K te σ H .none := fun H1 e Q q => h H1 e Q fun H2 e2 => q _ H2 e2 .non
theorem ed_dp {v : V} {d : PyData} (h : Ev te σ H v) (hd : Dp K H v d) : EvD K te σ H d := fun H1 e Q q => h H1 e Q fun H2 e2 => q _ H2 e2 (dp_ex (e.trans e2) _ _ hd)
theorem eda_nil : EvDA K tNil σ H [] := fun H1 _ Q q => q [] H1 (Ex.refl H1) .nil
theorem eda_cons {tr : TA} {d : PyData} {ds : List PyData} (h : EvD K te σ H d) (r : EvDA K tr σ H ds) : EvDA K (tCons te tr) σ H (d :: ds) := fun H1 e Q q =>
  h H1 e _ fun v H2 e2 hd => r H2 (e.trans e2) _ fun vs H3 e3 hs => q _ H3 (e2.trans e3) (.cons (dp_ex e3 _ _ hd) hs)
theorem ed_tup {ta : TA} {ds : List PyData} (h : EvDA K ta σ H ds) (hz : ds.length ≤ 1000) : EvD K (tTup ta) σ H (.tuple ds) := fun H1 e Q q =>
  h H1 e _ fun vs H2 e2 hs => ⟨sz_of (by rw [dpall_len hs]; omega), fun p hp => q _ _ (e2.trans (Ex.new hp)) (.tup (st_of upd_same) (dpall_ex (Ex.new hp) hs))⟩
theorem edl_lst {ta : TA} {ds : List PyData} (h : EvDA K ta σ H ds) (hz : ds.length ≤ 1000) : EvDL K (tLst ta) σ H ds := fun H1 e Q q =>
  h H1 e _ fun vs H2 e2 hs => ⟨sz_of (by rw [dpall_len hs]; omega), fun p hp => q p vs _ (fresh_back e2 hp) (e2.trans (Ex.new hp)) upd_same (dpall_ex (Ex.new hp) hs)⟩
theorem ed_lst {ta : TA} {ds : List PyData} (h : EvDA K ta σ H ds) (hz : ds.length ≤ 1000) : EvD K (tLst ta) σ H (.list ds) := fun H1 e Q q =>
  h H1 e _ fun vs H2 e2 hs => ⟨sz_of (by rw [dpall_len hs]; omega), fun p hp => q _ _ (e2.trans (Ex.new hp)) (.lst (sq_of upd_same) (dpall_ex (Ex.new hp) hs))⟩
theorem dpall_app {xs ys : List V} {ds es : List PyData} (h : DpAll K H xs ds) (g : DpAll K H ys es) : DpAll K H (xs ++ ys) (ds ++ es) := by
  match xs, ds, h with
  | _, _, .nil => exact g
  | _, _, .cons a b => exact .cons a (dpall_app b g)
/-- x[..] of a display of things -/
theorem ed_pick {ta : TA} {ds : List PyData} {i : Int} (h : EvDA K ta σ H ds) (hz : ds.length ≤ 1000) (hb : Ev tb σ H (.int i)) (h0 : 0 ≤ i) (h1 : i < ds.length) : EvR (tOp (rIxL K) (tLst ta) tb) σ H (fun _ v H2 => ∃ d, ds[i.toNat]? = some d ∧ Dp K H2 v d) := fun H1 e Q q =>
  edl_lst h hz H1 e _ fun p vs H2 hp e2 h2 hs => hb H2 (e.trans e2) _ fun H3 e3 => by
    have hl := dpall_len hs
    have hi : i.toNat < vs.length := by omega
    have hx : vs[i.toNat]? = some vs[i.toNat] := List.getElem?_eq_getElem hi
    obtain ⟨d, hd, hp'⟩ := dpall_get hs hx
    exact ⟨p, vs, i, _, rfl, rfl, sq_of (e3 _ _ h2), at_of (by omega) hx, q _ H3 (e2.trans e3) ⟨d, hd, dp_ex e3 _ _ hp'⟩⟩
end

theorem pick_ints (ns : List Int) {i : Int} (h0 : 0 ≤ i) (h1 : i < ns.length) : atI (ns.map V.int) i = some (.int (ns.getD i.toNat 0)) := by
  have hi : i.toNat < ns.length := by omega
  refine at_of (j := i.toNat) (by omega) ?_
  rw [List.getElem?_map, List.getElem?_eq_getElem hi]
  simp [List.getD, List.getElem?_eq_getElem hi]
-- every list in a thing begins with a number
mutual
def okD : PyData → Bool
  | .list (.int i :: r) => okA r
  | .list _ => false
  | .tuple ds => okA ds
  | .dict _ => false
  | .none => true
  | .bool _ => true
  | .int _ => true
  | .str _ => true
def okA : List PyData → Bool
  | [] => true
  | d :: ds => okD d && okA ds
end
mutual
theorem dp_upd {K : PySem.W.Frag} {H : Hp} {p : Addr} {xs ys : List V} (hp : H p = some (.lst xs)) (hr : ∀ x ∈ xs, ∃ r, x = V.ref r) : ∀ (d : PyData) (v : V), okD d = true → Dp K H v d → Dp K (upd H p (.lst ys)) v d
  | .none, _, _, h => by cases h; exact .non
  | .bool b, _, _, h => by cases h; exact .bl b
  | .int i, _, _, h => by cases h; exact .int i
  | .str x, _, _, h => by cases h; exact .str x
  | .list ds, _, ok, h => by
    cases h with
    | @lst a zs _ hs ha =>
      match ds, ok, ha with
      | .int i :: r, ok, .cons (v := z) (vs := zs) q ha =>
        cases q
        have hs' : SqL K (upd H p (.lst ys)) a (.int i :: zs) := by
          rcases hs with (hs | ⟨o, hs⟩) | hs
          · have ne : a ≠ p := fun e => by
              subst e
              rw [hp] at hs
              have e := HO.lst.inj (Option.some.inj hs)
              obtain ⟨r, hr⟩ := hr (.int i) (by rw [e]; exact List.mem_cons_self ..)
              cases hr
            exact .inl (.inl (by rw [upd_ne ne]; exact hs))
          · have ne : a ≠ p := fun e => by
              subst e
              rw [hp] at hs
              cases hs
            exact .inl (.inr ⟨o, by rw [upd_ne ne]; exact hs⟩)
          · exact .inr hs
        exact .lst hs' (.cons (.int i) (dp_updA hp hr r _ ok ha))
  | .tuple ds, _, ok, h => by
    cases h with
    | tup hs ha => exact .tup (sqt_updL hs hp) (dp_updA hp hr ds _ ok ha)
  | .dict _, _, _, h => by cases h
theorem dp_updA {K : PySem.W.Frag} {H : Hp} {p : Addr} {xs ys : List V} (hp : H p = some (.lst xs)) (hr : ∀ x ∈ xs, ∃ r, x = V.ref r) : ∀ (ds : List PyData) (vs : List V), okA ds = true → DpAll K H vs ds → DpAll K (upd H p (.lst ys)) vs ds
  | [], _, _, h => by cases h; exact .nil
  | d :: ds, _, ok, h => by
    cases h with
    | cons h1 h2 =>
      have ok' : (okD d && okA ds) = true := ok
      rw [Bool.and_eq_true] at ok'
      exact .cons (dp_upd hp hr d _ ok'.1 h1) (dp_updA hp hr ds _ ok'.2 h2)
end

section
variable {K : PySem.W.Frag} {σ : L2.St} {H : Hp} {ta tb te : TE} {z : V} {R0 R1 : Hp → V → Hp → Prop}
theorem ev_opRR {r : R2} (h : EvR ta σ H R0) (hb : EvR tb σ H R1) (hr : ∀ H0 v H1 u H2, Ex H H0 → Ex H0 H1 → Ex H1 H2 → R0 H0 v H1 → R1 H1 u H2 → RV r v u H2 z) : Ev (tOp r ta tb) σ H z := fun H1 e Q q =>
  h H1 e _ fun v H2 e2 r2 => hb H2 (e.trans e2) _ fun u H3 e3 r3 => hr H1 v H2 u H3 e e2 e3 r2 r3 H3 (Ex.refl H3) Q fun H4 e4 => q H4 ((e2.trans e3).trans e4)
theorem elr_one {t : Tie} (h : EvU te σ H (tv t)) : EvLR (tLst (tCons te tNil)) σ H (fun _ xs H2 => TiesV K H2 xs [t]) := fun H1 e Q q =>
  h H1 e _ fun a H2 ha e2 h2 => ⟨sz_of (Nat.le_of_ble_eq_true rfl), fun p hp => q p [.ref a] _ (fresh_back e2 hp) (e2.trans (Ex.new hp)) upd_same (TiesV.nil.snoc (v := .ref a) (t := t) ⟨a, rfl, ex_t (Ex.new hp) (st_of h2)⟩)⟩
theorem evr_of_L {P : Addr → List V → Hp → Prop} (h : EvLR te σ H P) : EvR te σ H (fun H1 v H2 => ∃ p xs, v = .ref p ∧ H1 p = none ∧ H2 p = some (.lst xs) ∧ P p xs H2) := fun H1 e Q q => h H1 e _ fun p vs H2 hp e2 h2 r => q _ H2 e2 ⟨p, vs, rfl, hp, h2, r⟩
/-- xs + ys, both new; the second a name's -/
theorem el_catLL {xs ys : List V} (h : EvL ta σ H xs) (hb : EvL tb σ H ys) (hz : xs.length + ys.length ≤ 100000) : EvL (tOp rCat ta tb) σ H (xs ++ ys) := fun H1 e Q q =>
  h H1 e _ fun p H2 hp e2 h2 => hb H2 (e.trans e2) _ fun b H3 hb e3 h3 => ⟨p, b, xs, ys, rfl, rfl, e3 _ _ h2, h3, sz_of hz, fun r hr => q r _ (fresh_back (e2.trans e3) hr) ((e2.trans e3).trans (Ex.new hr)) upd_same⟩
theorem el_catLv {xs ys : List V} {b : Addr} (h : EvL ta σ H xs) (hb : Ev tb σ H (.ref b)) (hl : H b = some (.lst ys)) (hz : xs.length + ys.length ≤ 100000) : EvL (tOp rCat ta tb) σ H (xs ++ ys) := fun H1 e Q q =>
  h H1 e _ fun p H2 hp e2 h2 => hb H2 (e.trans e2) _ fun H3 e3 => ⟨p, b, xs, ys, rfl, rfl, e3 _ _ h2, e3 _ _ (e2 _ _ (e _ _ hl)), sz_of hz, fun r hr => q r _ (fresh_back (e2.trans e3) hr) ((e2.trans e3).trans (Ex.new hr)) upd_same⟩
/-- the last argument is a new list -/
theorem eva_last {tr : TE} {xs : List V} {v : V} {Q : List V → Hp → Prop} (ha : Ev ta σ H v) (hb : EvL tr σ H xs) (k : ∀ p H1, Ex H H1 → H1 p = some (.lst xs) → Q [v, .ref p] H1) : tCons ta (tCons tr tNil) σ H Q :=
  ha H (Ex.refl H) _ fun H1 e1 => hb H1 e1 _ fun p H2 _ e2 h2 => k p H2 (e1.trans e2) h2
end
theorem dpall_mid {K : PySem.W.Frag} {H : Hp} {xs ys : List V} {ds es : List PyData} {v : V} {d : PyData} (h : DpAll K H xs ds) (hv : Dp K H v d) (g : DpAll K H ys es) : DpAll K H (xs ++ [v] ++ ys) (ds ++ [d] ++ es) := dpall_app (dpall_app h (.cons hv .nil)) g
theorem get_mid {α : Type} (xs ys : List α) (d : α) : (xs ++ [d] ++ ys)[xs.length]? = some d := by simp

theorem evr_of_EL {σ : L2.St} {H : Hp} {te : TE} {xs : List V} (h : EvL te σ H xs) : EvR te σ H (fun _ v H2 => ∃ p, v = .ref p ∧ H2 p = some (.lst xs)) := fun H1 e Q q => h H1 e Q fun p H2 _ e2 h2 => q _ H2 e2 ⟨p, rfl, h2⟩
end G

namespace G
open PySem PySem.Spec PyProof.Rows L2 TL Evl RZ
/-! ### texts -/
def nS (i : Int) : Str := Str.ofString (toString i)
theorem nS_tl (n : Nat) : tl (nS (n : Int)) = numL n := tl_num n
set_option exponentiation.threshold 3000 in
theorem log_lt {n : Nat} (h : n < 10000000000) : n.log2 < 1920 := by
  by_cases h0 : n = 0
  · subst h0; decide
  · exact (Nat.log2_lt h0).mpr (Nat.lt_of_lt_of_le h (Nat.le_trans (by decide : 10000000000 ≤ 2 ^ 34) (Nat.pow_le_pow_right (by decide) (by decide))))
theorem nS_len {n : Nat} (h : n < 10000000000) : (nS (n : Int)).length ≤ 10 := by
  rw [len_tl, nS_tl]
  exact numL_len (by decide) (by omega)
def headS (n : Nat) : Str := Txt.join " " ["places", nS (n : Int)]
def rowS (t : Tie) : Str := Txt.join " " ["tie", nS (t.1 : Int), nS (t.2.1 : Int), nS t.2.2]
def textS (n : Nat) (ts : List Tie) : Str := Txt.join "\n" (headS n :: ts.map rowS)
theorem tl_J (y : Str) (ps : List Str) : tl (Txt.join y ps) = joinL (tl y) (ps.map tl) := by rw [join_eq, tl_join]
theorem tl_blank : tl (" " : Str) = [32] := by decide +kernel
theorem tl_line : tl ("\n" : Str) = [10] := by decide +kernel
theorem tl_tie : tl ("tie" : Str) = [116, 105, 101] := by decide +kernel
theorem tl_tieB : tl ("tie " : Str) = [116, 105, 101, 32] := by decide +kernel
theorem tl_places : tl ("places" : Str) = [112, 108, 97, 99, 101, 115] := by decide +kernel
theorem tl_placesB : tl ("places " : Str) = [112, 108, 97, 99, 101, 115, 32] := by decide +kernel
theorem tl_empty : tl Str.empty = [] := by decide +kernel
theorem head_tl (n : Nat) : tl (headS n) = [112, 108, 97, 99, 101, 115] ++ ([32] ++ numL n) := by
  unfold headS
  rw [tl_J, tl_blank]
  show tl ("places" : Str) ++ ([32] ++ tl (nS (n : Int))) = _
  rw [tl_places, nS_tl]
theorem row_tl (t : Tie) : tl (rowS t) = [116, 105, 101] ++ ([32] ++ (numL t.1 ++ ([32] ++ (numL t.2.1 ++ ([32] ++ tl (nS t.2.2)))))) := by
  unfold rowS
  rw [tl_J, tl_blank]
  show tl ("tie" : Str) ++ ([32] ++ (tl (nS (t.1 : Int)) ++ ([32] ++ (tl (nS (t.2.1 : Int)) ++ ([32] ++ tl (nS t.2.2)))))) = _
  rw [tl_tie, nS_tl, nS_tl]
theorem head_plus (n : Nat) : ("places " : Str) ++ nS (n : Int) = headS n := by
  refine ext_tl ?_
  rw [tl_append, head_tl, tl_placesB, nS_tl]
  rfl
theorem head_f (n : Nat) : Str.empty ++ ("places " : Str) ++ nS (n : Int) = headS n := by
  refine ext_tl ?_
  rw [tl_append, tl_append, head_tl, tl_empty, tl_placesB, nS_tl]
  rfl
theorem row_f (t : Tie) : Str.empty ++ ("tie " : Str) ++ nS (t.1 : Int) ++ (" " : Str) ++ nS (t.2.1 : Int) ++ (" " : Str) ++ nS t.2.2 = rowS t := by
  refine ext_tl ?_
  rw [tl_append, tl_append, tl_append, tl_append, tl_append, tl_append, row_tl, tl_empty, tl_tieB, nS_tl, nS_tl, tl_blank]
  simp only [List.append_assoc, List.nil_append]
  rfl
theorem row_plus (t : Tie) : ("tie " : Str) ++ Txt.join " " [nS (t.1 : Int), nS (t.2.1 : Int), nS t.2.2] = rowS t := by
  refine ext_tl ?_
  rw [tl_append, row_tl, tl_tieB, tl_J, tl_blank]
  show _ ++ (tl (nS (t.1 : Int)) ++ ([32] ++ (tl (nS (t.2.1 : Int)) ++ ([32] ++ tl (nS t.2.2))))) = _
  rw [nS_tl, nS_tl]
  rfl
theorem cost_nat {n : Nat} {t : Tie} (g : Good n t) : t.2.2 = ((t.2.2.toNat : Nat) : Int) := by have := g.lo; omega
theorem tl_cost {n : Nat} {t : Tie} (g : Good n t) : tl (nS t.2.2) = numL t.2.2.toNat := by
  conv => lhs; rw [cost_nat g]
  exact nS_tl _
theorem row_len {n : Nat} {t : Tie} (g : Good n t) (hn : n ≤ 24) : (rowS t).length ≤ 40 := by
  rw [len_tl, row_tl, tl_cost g]
  have h1 := g.one
  have h2 := g.two
  have h3 := g.hi
  have a := numL_len (n := t.1) (k := 10) (by decide) (by omega)
  have b := numL_len (n := t.2.1) (k := 10) (by decide) (by omega)
  have c := numL_len (n := t.2.2.toNat) (k := 10) (by decide) (by omega)
  simp only [List.length_append, List.length_cons, List.length_nil]
  omega
theorem head_len {n : Nat} (hn : n ≤ 24) : (headS n).length ≤ 40 := by
  rw [len_tl, head_tl]
  have a := numL_len (n := n) (k := 10) (by decide) (by omega)
  simp only [List.length_append, List.length_cons, List.length_nil]
  omega
theorem head_no10 (n : Nat) : 10 ∉ tl (headS n) := by
  rw [head_tl]
  simp only [List.mem_append]
  rintro (h | h | h)
  · revert h; decide
  · revert h; decide
  · exact numL_free (by decide) h
theorem row_no10 {n : Nat} {t : Tie} (g : Good n t) : 10 ∉ tl (rowS t) := by
  rw [row_tl, tl_cost g]
  simp only [List.mem_append]
  rintro (h | h | h | h | h | h | h)
  · revert h; decide
  · revert h; decide
  · exact numL_free (by decide) h
  · revert h; decide
  · exact numL_free (by decide) h
  · revert h; decide
  · exact numL_free (by decide) h
theorem text_split {n m : Nat} {ts : List Tie} (g : ∀ t ∈ ts, Good m t) : Txt.split (textS n ts) "\n" = headS n :: ts.map rowS := by
  refine split_join (s := 10) (S := []) tl_line (by decide +kernel) (by simp) fun p hp => ?_
  rcases List.mem_cons.mp hp with rfl | hp
  · exact head_no10 n
  · obtain ⟨t, ht, rfl⟩ := List.mem_map.mp hp
    exact row_no10 (g t ht)
theorem words_split {name : Str} {ns : List Nat} (h : 32 ∉ tl name) : Txt.split (Txt.join " " (name :: ns.map fun (k : Nat) => nS (k : Int))) " " = name :: ns.map fun (k : Nat) => nS (k : Int) := by
  refine split_join (s := 32) (S := []) tl_blank (by decide +kernel) (by simp) fun p hp => ?_
  rcases List.mem_cons.mp hp with rfl | hp
  · exact h
  · obtain ⟨k, hk, rfl⟩ := List.mem_map.mp hp
    rw [nS_tl]
    exact numL_free (by decide)
theorem numL_head : ∀ n : Nat, 0 < n → ∃ c r, numL n = c :: r ∧ c ≠ 48 := by
  intro n
  induction n using Nat.strongRecOn with
  | _ n ih =>
    intro h0
    by_cases h : n < 10
    · exact ⟨48 + n, [], numL_lt h, by omega⟩
    · obtain ⟨c, r, e, hc⟩ := ih (n / 10) (by omega) (by omega)
      exact ⟨c, r ++ [48 + n % 10], by rw [numL_step (by omega), e]; rfl, hc⟩
/-- for c in s -/
theorem for_str {x : Str} {g : TG} {tb : TS} {D : Ends} {σ : L2.St} {H : Hp} (Pv : Nat → L2.St → Hp → Prop) (h0 : Pv 0 σ H)
    (hs : ∀ i c σ H, x.cps[i]? = some c → Pv i σ H → g (.str ⟨#[c]⟩) σ H fun σ2 H2 => tb { D with nx := Pv (i + 1), ct := Pv (i + 1), bk := D.nx } σ2 H2) (hd : ∀ σ H, Pv x.cps.size σ H → D.nx σ H) :
    ∃ W : Nat → Nat → L2.St → Hp → Prop, (∃ m, W 0 m σ H) ∧ ∀ i m σ H, W i m σ H →
      ((Its x).stop i H ∧ D.nx σ H) ∨ ((Its x).go i H ∧ ∃ N : L2.St → Hp → Prop, (∀ σ' H', N σ' H' → ∃ m', m' < m ∧ W (i + 1) m' σ' H') ∧ ∀ v H', (Its x).yld i H v H' → g v σ H' fun σ2 H2 => tb { D with nx := N, ct := N, bk := D.nx } σ2 H2) := by
  refine ⟨fun i m σ H => m = x.cps.size - i ∧ i ≤ x.cps.size ∧ Pv i σ H, ⟨x.cps.size, by simp, Nat.zero_le _, h0⟩, ?_⟩
  rintro i m σ H ⟨rfl, hi, p⟩
  by_cases hlt : i < x.cps.size
  · refine .inr ⟨hlt, Pv (i + 1), fun σ' H' p' => ⟨x.cps.size - (i + 1), by omega, rfl, hlt, p'⟩, fun v H' y => ?_⟩
    obtain ⟨rfl, c, hc, rfl⟩ := y
    exact hs i c σ H' hc p
  · have e : i = x.cps.size := by omega
    subst e
    exact .inl ⟨Nat.le_refl _, hd σ H p⟩
section
variable {K : PySem.W.Frag} {σ : L2.St} {H : Hp} {ta tb te : TE}
theorem ev_js0 {acc : Str} : Ev (fun σ H Q => tJs [] acc σ H fun out H1 => Q (.str out) H1) σ H (.str acc) := fun H1 e Q q => q H1 (Ex.refl H1)
theorem ev_js {t : TE} {ts : List TE} {acc y out : Str} (h : Ev t σ H (.str y)) (hz : (acc ++ y).length ≤ 100000) (r : Ev (fun σ H Q => tJs ts (acc ++ y) σ H fun out H1 => Q (.str out) H1) σ H (.str out)) : Ev (fun σ H Q => tJs (t :: ts) acc σ H fun out H1 => Q (.str out) H1) σ H (.str out) := fun H1 e Q q =>
  h H1 e _ fun H2 e2 => ⟨y, rfl, sz_of hz, r H2 (e.trans e2) Q fun H3 e3 => q H3 (e2.trans e3)⟩
theorem ev_fmtI {i : Int} (h : Ev te σ H (.int i)) (hz : i.natAbs < 10000000000) : Ev (tFmt te) σ H (.str (nS i)) := fun H1 e Q q => h H1 e _ fun H2 e2 => .inr ⟨i, rfl, log_lt hz, q H2 e2⟩
theorem ev_strI {i : Int} (h : Ev te σ H (.int i)) (hz : i.natAbs < 10000000000) : Ev (tCB (fun xs H Q => ∃ i, xs = [.int i] ∧ i.natAbs.log2 < 1920 ∧ Q (.str (toString i)) H) (tCons te tNil)) σ H (.str (nS i)) := fun H1 e Q q => h H1 e _ fun H2 e2 => ⟨i, rfl, log_lt hz, q H2 e2⟩
theorem rv_addS {x y : Str} (hz : x.length + y.length ≤ 100000) : RV (fun x y H Q => ∃ i j, x = .str i ∧ y = .str j ∧ i.length + j.length ≤ sizeLine ∧ Q (.str (i ++ j)) H) (.str x) (.str y) H (.str (x ++ y)) := fun H1 _ _ q => ⟨x, y, rfl, rfl, sz_of hz, q H1 (Ex.refl H1)⟩
theorem ev_lenStr {x : Str} (h : Ev te σ H (.str x)) (hz : x.length ≤ 100000) : Ev (tCB (fun xs H Q => ∃ z, xs = [.str z] ∧ z.length ≤ sizeLine ∧ Q (.int z.length) H) (tCons te tNil)) σ H (.int (x.length : Int)) := fun H1 e Q q => h H1 e _ fun H2 e2 => ⟨x, rfl, sz_of hz, q H2 e2⟩
theorem ev_join {a : Str} {p : Addr} {ys : List Str} (ha : Ev ta σ H (.str a)) (hb : Ev tb σ H (.ref p)) (h : SqL K H p (ys.map V.str)) (hz : (ys.map (·.length)).sum + ys.length * a.length ≤ 16777216) :
    Ev (tM1 (fun x xs H Q => ∃ a p, ∃ ys : List Str, x = .str a ∧ xs = [.ref p] ∧ (SqL K H p (ys.map V.str) ∨ SqT K H p (ys.map V.str)) ∧ (ys.map (·.length)).sum + ys.length * a.length ≤ 16777216 ∧ Q (.str (Txt.join a ys)) H) ta tb) σ H (.str (Txt.join a ys)) := fun H1 e Q q =>
  ha H1 e _ fun H2 e2 => ⟨⟨a, rfl⟩, hb H2 (e.trans e2) _ fun H3 e3 => ⟨a, p, ys, rfl, rfl, .inl (ex_l ((e.trans e2).trans e3) h), hz, q H3 (e2.trans e3)⟩⟩
theorem ev_joinN {a : Str} {ys : List Str} (ha : Ev ta σ H (.str a)) (hb : EvL tb σ H (ys.map V.str)) (hz : (ys.map (·.length)).sum + ys.length * a.length ≤ 16777216) :
    Ev (tM1 (fun x xs H Q => ∃ a p, ∃ ys : List Str, x = .str a ∧ xs = [.ref p] ∧ (SqL K H p (ys.map V.str) ∨ SqT K H p (ys.map V.str)) ∧ (ys.map (·.length)).sum + ys.length * a.length ≤ 16777216 ∧ Q (.str (Txt.join a ys)) H) ta tb) σ H (.str (Txt.join a ys)) := fun H1 e Q q =>
  ha H1 e _ fun H2 e2 => ⟨⟨a, rfl⟩, hb H2 (e.trans e2) _ fun p H3 _ e3 h3 => ⟨a, p, ys, rfl, rfl, .inl (sq_of h3), hz, q H3 (e2.trans e3)⟩⟩
theorem el_split {a b : Str} {ys : List Str} (ha : Ev ta σ H (.str a)) (hb : Ev tb σ H (.str b)) (h0 : (b.length == 0) = false) (hz : a.length ≤ 90000) (hy : Txt.split a b = ys) :
    EvL (tM1 (fun x xs H Q => ∃ a b, x = .str a ∧ xs = [.str b] ∧ (b.length == 0) = false ∧ a.length + 2 ≤ sizeLine ∧ rNewStrs (Txt.split a b) H Q) ta tb) σ H (ys.map V.str) := fun H1 e Q q =>
  ha H1 e _ fun H2 e2 => ⟨⟨a, rfl⟩, hb H2 (e.trans e2) _ fun H3 e3 => ⟨a, b, rfl, rfl, h0, sz_of (by omega), fun p hp => q p _ (fresh_back e2 (fresh_back e3 hp)) ((e2.trans e3).trans (Ex.new hp)) (by rw [upd_same, hy])⟩⟩
theorem rv_notSign {c : Nat} {z : Str} : RV (fun x y H Q => ∃ (c : Nat) (z : Str), x = .str ⟨#[c]⟩ ∧ y = .str z ∧ Q (.bl (!decide (c ∈ z.cps.toList))) H) (.str ⟨#[c]⟩) (.str z) H (.bl (!decide (c ∈ z.cps.toList))) := fun H1 _ _ q => ⟨c, z, rfl, rfl, q H1 (Ex.refl H1)⟩
theorem ev_intS {m : Nat} (h : Ev te σ H (.str (nS (m : Int)))) (hz : m < 10000000000) : Ev (tCB (fun xs H Q => ∃ a n, xs = [.str a] ∧ PySem.intText? a = some n ∧ a.length ≤ 640 ∧ Q (.int n) H) (tCons te tNil)) σ H (.int (m : Int)) := fun H1 e Q q =>
  h H1 e _ fun H2 e2 => ⟨nS (m : Int), (m : Int), rfl, int_num (Nat.le_trans (numL_len (k := 10) (by decide) (by omega)) (by decide)), Nat.le_trans (nS_len hz) (by decide), q H2 e2⟩
theorem rv_ixStr {w : Str} {i : Int} {c : Nat} (h : w.length ≤ 100000) (ha : atI w.cps.toList i = some c) : RV rIxS (.str w) (.int i) H (.str ⟨#[c]⟩) := rv_ixS h ha
theorem sgn_mem (c : Nat) : (c ∈ (("0123456789" : Str).cps.toList)) ↔ (48 ≤ c ∧ c ≤ 57) := by
  have e : (("0123456789" : Str).cps.toList) = [48, 49, 50, 51, 52, 53, 54, 55, 56, 57] := by decide +kernel
  rw [e]
  simp only [List.mem_cons, List.not_mem_nil, or_false]
  omega
end

theorem q_forStr {σ : L2.St} {H : Hp} {te : TE} {j : Nat} {D : Ends} {tu tz : TS} {x : Str} (h : Ev te σ H (.str x)) (Pv : Nat → L2.St → Hp → Prop) (h0 : ∀ H1, Ex H H1 → Pv 0 σ H1)
    (hs : ∀ i c σ' H', x.cps[i]? = some c → Pv i σ' H' → tu { D with nx := Pv (i + 1), ct := Pv (i + 1), bk := tz D } (σ'.set j (some (.str ⟨#[c]⟩))) H') (hd : ∀ σ' H', Pv x.cps.size σ' H' → tz D σ' H') : tSeq (tFor (iStr te) (gName j) tu) tz D σ H :=
  h H (Ex.refl H) _ fun H1 e => ⟨x, rfl, for_str (D := { D with nx := tz D }) Pv (h0 H1 e) hs hd⟩

theorem given_IL (ns : List Nat) : given ns.length (fun _ => true) (fun i => .int ((ns.getD i 0 : Nat) : Int)) = IL ns := by
  unfold given IL
  rw [filter_yes]
  exact range_getD (fun k : Nat => V.int (k : Int)) ns 0
theorem text_len {n : Nat} {ts : List Tie} (hn : n ≤ 24) (hz : ts.length ≤ 300) (g : ∀ t ∈ ts, Good n t) : (textS n ts).length ≤ 20000 := by
  have h2 : ∀ us : List Tie, (∀ t ∈ us, Good n t) → ((us.map rowS).map (·.length)).sum ≤ 40 * us.length := by
    intro us
    induction us with
    | nil => intro _; simp
    | cons u us ih =>
      intro hu
      have a := row_len (hu u (List.mem_cons_self ..)) hn
      have b := ih fun t ht => hu t (List.mem_cons_of_mem _ ht)
      simp only [List.map_cons, List.sum_cons, List.length_cons]
      omega
  have h1 : ("\n" : Str).length = 1 := by decide +kernel
  have a := StrLaws.join_length_le "\n" (headS n :: ts.map rowS)
  have b := h2 ts g
  have c := head_len hn
  unfold textS
  rw [join_eq]
  rw [h1] at a
  simp only [List.map_cons, List.sum_cons, List.length_cons, List.length_map] at a b
  omega
theorem row_join {n : Nat} {t : Tie} (g : Good n t) : rowS t = Txt.join " " ("tie" :: [t.1, t.2.1, t.2.2.toNat].map fun (k : Nat) => nS (k : Int)) := by
  show Txt.join " " ["tie", nS (t.1 : Int), nS (t.2.1 : Int), nS t.2.2] = Txt.join " " ["tie", nS (t.1 : Int), nS (t.2.1 : Int), nS ((t.2.2.toNat : Nat) : Int)]
  rw [← cost_nat g]
theorem tv_IL {n : Nat} {t : Tie} (g : Good n t) : IL [t.1, t.2.1, t.2.2.toNat] = tv t := by
  show [V.int (t.1 : Int), V.int (t.2.1 : Int), V.int ((t.2.2.toNat : Nat) : Int)] = tv t
  rw [← cost_nat g]
  rfl
end G

namespace G
open PySem PySem.Spec PyProof.Rows L2
/-! ### a list comprehension whose element may raise -/
theorem noteFrame_congr {e : Value} {env env' : Env} (h : env.frame = env'.frame) : noteFrame e env = noteFrame e env' := by
  unfold noteFrame PySem.frameOf
  rw [h]
/-- an exception in the air of a block, on its way to the def that the block stands in -/
def BlkX (X Xb : Cx) (W : XK) (u : Value) (s' : Shared) : Prop :=
  ∃ (a : Addr) (B : Heap) (sI : Shared) (pins : List (Addr × Obj)) (σ : L2.St) (H : Hp) (cls : Value) (d : Option Addr), u = .ref a ∧ Inv Xb pins σ H sI ∧ (∀ b o, sI.heap.get? b = some o → b ∉ frs X.stack → B.get? b = some o) ∧
    sI.heap.UpToSlots s'.heap ∧ HandSPX.FlyingZ B X.stack a (Zc cls d) s'.heap ∧ H a = none ∧ s'.os = sI.os ∧ AllBare s'.gens ∧ W cls d H
section
variable {X Xb : Cx} {W E : XK} {pins : List (Addr × Obj)} {σ : L2.St} {H : Hp} {s s' : Shared}
/-- a call's exception is in the block's air -/
theorem blkX_call (hst : Xb.stack = X.stack) (I : Inv Xb pins σ H s) (hW : ∀ cls d H', E cls d H' → W cls d H') {u : Value} (c : L2.CX Xb.prog Xb.w Xb.stack H s E u s') : BlkX X Xb W u s' := by
  obtain ⟨a, B, H', cls, d, rfl, fl, hok, ub, na, os, ag, hE⟩ := c
  rw [hst] at fl ub
  obtain ⟨G, g1, g2⟩ := restrict s'.heap fun b => (B.get? b).isSome || decide (b ∈ frs X.stack)
  have st := fl.1
  have inB : ∀ b o, B.get? b = some o → G.get? b = some o := fun b o e => (g1 b (by simp [e])).trans (st b o e)
  have inF : ∀ b, b ∈ frs X.stack → G.get? b = s'.heap.get? b := fun b hb => g1 b (by simp [hb])
  have out : ∀ b o, G.get? b = some o → s'.heap.get? b = some o ∧ ((B.get? b).isSome = true ∨ b ∈ frs X.stack) := fun b o e => by
    cases q : ((B.get? b).isSome || decide (b ∈ frs X.stack)) with
    | false =>
      rw [g2 b q] at e
      cases e
    | true =>
      rw [g1 b q] at e
      exact ⟨e, by simpa [Bool.or_eq_true] using q⟩
  refine ⟨a, B, { s with heap := G, gens := s'.gens, drawn := s'.drawn, toks := s'.toks }, pins, σ, H', cls, d, rfl, ?_, fun b o e hb => ?_, Heap.UpToSlots.of_keeps fun b o e => (out b o e).1, fl, na, os, ag, hW _ _ _ hE⟩
  · have u : Un (frs Xb.stack) [] H H' s.heap G := by
      rw [hst]
      refine ⟨fun b o e n hb _ => inB b o (ub.keep b o e n hb), fun b o e _ hb _ => ?_, fun b o e n _ => ub.free b o e n, fun b o e _ => ?_, ub.tups, ub.frzs, ub.tbls⟩
      · obtain ⟨sl, q⟩ := ub.slot b o e hb
        exact ⟨sl, (inF b hb).trans q⟩
      · by_cases hb : b ∈ frs X.stack
        · obtain ⟨sl, q⟩ := ub.slot b o e hb
          exact ⟨_, (inF b hb).trans q⟩
        · obtain ⟨o', q⟩ := ub.there b o e hb
          exact ⟨o', inB b o' q⟩
    exact I.call (ch := []) u (hok.kept inB) ag (fun _ z => nomatch z)
  · obtain ⟨e', h⟩ := out b o e
    rcases h with h | h
    · obtain ⟨o', q⟩ := Option.isSome_iff_exists.mp h
      have z := st b o' q
      rw [e'] at z
      cases z
      exact q
    · exact absurd h hb
end
section
variable {X : Cx} {W : XK} {pins : List (Addr × Obj)} {σ : L2.St} {H3 : Hp} {s3 s' : Shared} {scope : Scope} {ce : Env} {fp : List Addr}
theorem ns_slots {h h' : Heap} {C : Addr} {m : Str → Option Value} (x : h.Ns C m) (u : h.UpToSlots h') : h'.Ns C m := by
  obtain ⟨o, es, ep, ho, hd, r⟩ := x
  obtain ⟨sl, e⟩ := u C o ho fun vs z => by rw [hd] at z; cases z
  exact ⟨_, es, ep, e, hd, r⟩
/-- the block has raised: its names are let go, then the def has the exception -/
theorem blk_fails (hc : X.calm = true) (hs : X.stack = X.env :: X.outer) (hf : X.env.frame = some X.env.locals) (hcf : ce.frame = X.env.frame) (hcl : ce.locals = s3.heap.objs.size) (I3 : Inv X pins σ H3 s3) (f3 : ∀ b ∈ fp, FpOk X pins H3 b) (tk : Takes X (fun cls d _ H => W cls d H)) {u : Value} (x : BlkX X (X.blk s3 H3 scope ce fp) W u s') :
    notedBy (model X.prog X.w) X.A ce (fun e s'' => CompFails (model X.prog X.w) X.A X.xe ce e s'') u s' := by
  obtain ⟨a, B, sI, pb, σb, Hb, cls, d, rfl, I, nb, up, fl, na, os, ag, w⟩ := x
  have hfr : X.A.frames = some (X.env :: X.outer) := by rw [I3.ok.frames, hs]
  obtain ⟨m, hns, _⟩ := I.loc
  have hns : sI.heap.Ns ce.locals m := hns
  have freeC : Hb ce.locals = none := I.free
  show wpAny _ _ (noteFrame (.ref a) ce) _ _ _
  rw [noteFrame_congr hcf]
  rw [hs] at fl
  refine HandSPX.looks_onZ Zc.steady hfr hf fl fun h1 hh up1 => ?_
  have hns1 : h1.Ns ce.locals m := ns_slots (ns_slots hns up) up1
  refine ⟨m, hns1, fun h' m' hn' sb => ?_⟩
  obtain ⟨k1, k2, k3, oe, vs, T, oT, ts, he, hz, hd, hv1, hnT, hTe, hT, hdT, hv3⟩ := hh
  obtain ⟨oC, esC, epC, gC, dC, _⟩ := id hns1
  have naC : a ≠ ce.locals := fun z => by
    rw [z, gC] at he
    cases he
    rw [dC] at hd
    cases hd
  have nTC : T ≠ ce.locals := fun z => by
    rw [z, gC] at hT
    cases hT
    rw [dC] at hdT
    cases hdT
  obtain ⟨B', b1, b2⟩ := restrict B fun b => decide (b ≠ ce.locals)
  have bB : ∀ b, b ≠ ce.locals → B'.get? b = B.get? b := fun b hb => b1 b (decide_eq_true hb)
  have bC : B'.get? ce.locals = none := b2 _ (by simp)
  have nfr : ∀ b ∈ frs X.stack, b ≠ ce.locals := fun b hb z => by
    have hlt : b < s3.heap.objs.size := by
      rcases List.mem_cons.mp (I3.stkSub b hb) with q | q
      · rw [q]
        exact I3.lt
      · obtain ⟨_, o, ho, _⟩ := I3.funs.mem q
        exact Heap.lt_size ho
    rw [z, hcl] at hlt
    exact absurd hlt (Nat.lt_irrefl _)
  have ff : ∀ l : List Env, (∀ b ∈ frs l, b ≠ ce.locals) → h1.FunFrames B l → h'.FunFrames B' l := by
    intro l
    induction l with
    | nil => intro _ _; trivial
    | cons env r ih =>
      intro hb hl
      obtain ⟨q1, ⟨L, o, q2, q3, q4, q5⟩, q6⟩ := hl
      have hL : L ≠ ce.locals := hb L (by unfold frs; rw [List.filterMap_cons, q2]; exact List.mem_cons_self)
      refine ⟨q1, ⟨L, o, q2, by rw [bB L hL]; exact q3, (sb.2 L hL).trans q4, q5⟩, ih (fun b hm => hb b ?_) q6⟩
      unfold frs
      rw [List.filterMap_cons, q2]
      exact List.mem_cons_of_mem _ hm
  have held : HandSPX.HeldZ B' (X.env :: X.outer) a (Zc cls d) X.env.locals h' := by
    refine ⟨fun b o e => ?_, by rw [bB a naC]; exact k2, ff _ (fun b hb => nfr b (by rw [hs]; exact hb)) k3, oe, vs, T, oT, ts, (sb.2 a naC).trans he, hz, hd, hv1, by rw [bB T nTC]; exact hnT, hTe, (sb.2 T nTC).trans hT, hdT, hv3⟩
    have hb : b ≠ ce.locals := fun z => by
      rw [z, bC] at e
      cases e
    rw [bB b hb] at e
    exact (sb.2 b hb).trans (k1 b o e)
  unfold PySem.passOn
  refine wpAny_bind (wpAny_field ((sb.2 a naC).trans he) hd hv1 ?_)
  rw [if_neg (show ¬ ((Value.ref T == Value.none) = true) from Bool.false_ne_true), hcf, hf]
  refine wpAny_bind (HandSPX.setFlight_onZ held fun h2 held2 up2 => wpAny_throw (tk _ _ ?_))
  obtain ⟨G1, g1, g2⟩ := restrict sI.heap fun b => decide (b ≠ ce.locals)
  have gB : ∀ b, b ≠ ce.locals → G1.get? b = sI.heap.get? b := fun b hb => g1 b (decide_eq_true hb)
  have gC1 : G1.get? ce.locals = none := g2 _ (by simp)
  have lt3 : ∀ b o, s3.heap.get? b = some o → b ≠ ce.locals := fun b o e z => by
    have := Heap.lt_size e
    rw [z, hcl] at this
    exact absurd this (Nat.lt_irrefl _)
  have hokG : HOk X.prog X.w Hb G1 := fun b o e => (I.hok b o e).stay (fun c v hc q => by
    have hcn : c ≠ ce.locals := by
      rcases hc with z | z
      · rw [z]
        intro y
        rw [y, freeC] at e
        cases e
      · intro y
        rw [y, freeC] at z
        cases z
    exact (gB c hcn).trans q) (fun _ z => z) fun _ _ z => z
  have base := I.base
  have unG : Un (frs X.stack) fp H3 Hb s3.heap G1 := ⟨fun b o e n hb hx => (gB b (lt3 b o e)).trans (base.keep b o e n hb hx), fun b o e n hb hx => by
    obtain ⟨sl, q⟩ := base.slot b o e n hb hx
    exact ⟨sl, (gB b (lt3 b o e)).trans q⟩, base.free, fun b o e hx => by
    obtain ⟨o', q⟩ := base.there b o e hx
    exact ⟨o', (gB b (lt3 b o e)).trans q⟩, base.tups, base.frzs, base.tbls⟩
  have I7 : Inv X pins σ Hb { sI with heap := G1 } := I3.call' (ch := fp) I.os unG hokG I.bare fun b hb => ⟨(f3 b hb).2.2.2.1, (f3 b hb).2.1, (f3 b hb).2.2.2.2.1, (f3 b hb).2.2.2.2.2⟩
  refine ⟨a, B', { sI with heap := G1 }, pins, σ, Hb, cls, d, rfl, I7, fun b o e hb => ?_, fun b o e hnf => ?_, ?_, na, os, ag, w⟩
  · have hbc : b ≠ ce.locals := fun z => by
      rw [z, gC1] at e
      cases e
    rw [gB b hbc] at e
    exact (bB b hbc).trans (nb b o e hb)
  · have hbc : b ≠ ce.locals := fun z => by
      rw [z, gC1] at e
      cases e
    rw [gB b hbc] at e
    obtain ⟨sl1, e1⟩ := up b o e hnf
    obtain ⟨sl2, e2⟩ := up1 b _ e1 hnf
    obtain ⟨sl3, e3⟩ := up2 b _ ((sb.2 b hbc).trans e2) hnf
    exact ⟨sl3, e3⟩
  · rw [hs]
    exact .inr (.inr held2)
end
section
variable {X : Cx} {W : XK}
/-- [elt for tg in iter if ..] where the element may raise -/
theorem lc_coreX {pins : List (Addr × Obj)} {s : Shared} {σ : L2.St} {H : Hp} {Q : VK} {pos' : Pos} {use : Option (Value → Sem Unit)} {Qf : Value → Shared → Prop} {elt tg iter : Expr} {ifs : List Expr} {scope : Scope} {own : List (Str × Nat)} {pos : Pos} {wi : TI} {g : TG} {tt : TT} {te : TE} (hc : X.calm = true) (hs1 : X.stack = X.env :: X.outer) (hf1 : X.env.frame = some X.env.locals) (tk : Takes X (fun cls d _ H => W cls d H)) (hN : X.N.Nodup) (I : Inv X pins σ H s) (hi : PI X tg iter wi) (ok : BlkOk X.N X.env.scope scope own)
    (hg : ∀ (s : Shared) (H : Hp) (C : Addr) (cl : List (Str × Addr)) (fp : List Addr), PG (X.blk s H scope (compEnvC scope cl C X.env) fp) tg g) (ht : ∀ (s : Shared) (H : Hp) (C : Addr) (cl : List (Str × Addr)) (fp : List Addr), PTs (X.blk s H scope (compEnvC scope cl C X.env) fp) ifs tt)
    (he : ∀ (s : Shared) (H : Hp) (C : Addr) (cl : List (Str × Addr)) (fp : List Addr), PE ((X.blk s H scope (compEnvC scope cl C X.env) fp).wish (BlkX X (X.blk s H scope (compEnvC scope cl C X.env) fp) W)) elt te) (hfs : ∀ x, foldedSetIterable iter X.env x = pure x) (h : tLc wi g tt te (own.map (·.2)) σ H Q)
    (hRR : ∀ D C s' m H', Inv X pins σ H' s' → Q (.ref D) H' → s'.heap.Ns C m → FpOk X pins H' C → compPost (model X.prog X.w) X.A X.xe use Qf (.ref D) C (.ok .next) s') :
    wpAny (model X.prog X.w) X.A (comprehension (.ListComp elt [⟨tg, iter, ifs, 0⟩] scope pos) scope X.env pos' (newList []) false (eval iter X.env) use) Qf X.xe s := by
  have hfree : ∀ y ∈ scope.names, y.2 = .free → ∃ c, X.env.cells.lookup y.1 = some c := fun y hy e => I.ok.has _ ((ok.free y hy e).elim .inl .inr)
  refine comprehension_at (use := use) rfl hfs (closure_ok hfree) ok.kind (fun y hy e => by rw [ok.uniq y hy, e]) (thn (hi.run pins s σ H _ I h) fun xv s1 hx => thn hx fun itv s2 h2 => ?_)
  obtain ⟨it, fp, tn, J, H2, e, I2, T, st2, f2, q⟩ := h2
  subst e
  refine wpAny_newObj_type (newEnv_comp ?_) (by show 0 ≤ sizeLine; decide)
  generalize hD : s2.heap.objs.size = D
  have hDn : H2 D = none := I2.hok.fresh (Nat.le_of_eq hD)
  obtain ⟨Wt, ⟨m0, w0⟩, turn⟩ := q D hDn
  generalize hs3 : ({ s2 with heap := s2.heap.push { cls := .type "list", data := .seq ([] : List Value).toArray } } : Shared) = s3
  have I3 : Inv X pins σ (upd H2 D (.lst [])) s3 := by
    rw [← hs3]
    exact I2.laid (t' := s2.toks) (fun b o e => Heap.get?_push_of_some _ e) (Nat.le_of_eq hD) ⟨Nat.zero_le _, [], 0, .nil, by rw [← hD]; exact Heap.get?_push_size _ rfl⟩
  have h3 : s3.heap = s2.heap.push { cls := .type "list", data := .seq ([] : List Value).toArray } := by rw [← hs3]
  have sz : ∀ b ∈ fp, b < s2.heap.objs.size := fun b hb => by
    obtain ⟨o, e, _⟩ := T.obj _ _ st2 b hb
    exact Heap.lt_size e
  have f3 : ∀ b ∈ fp, FpOk X pins (upd H2 D (.lst [])) b ∧ b < s3.heap.objs.size := fun b hb => by
    have hlt := sz b hb
    refine ⟨⟨?_, (f2 b hb).2⟩, by rw [h3, Heap.size_push]; exact Nat.lt_succ_of_lt hlt⟩
    rw [upd_ne (by rw [← hD]; exact Nat.ne_of_lt hlt)]
    exact (f2 b hb).1
  have st3 : tn 0 s3.heap := T.keep _ _ _ st2 fun b _ o e => by rw [h3]; exact Heap.get?_push_of_some _ e
  have I4 := block_start I3 ok hN f3
  have pg := hg s3 (upd H2 D (.lst [])) s3.heap.objs.size (cellsFrom (s3.heap.objs.size + 1) scope.names (cloFrom X.env.cells scope.names [])) fp
  have pt := ht s3 (upd H2 D (.lst [])) s3.heap.objs.size (cellsFrom (s3.heap.objs.size + 1) scope.names (cloFrom X.env.cells scope.names [])) fp
  have pe := he s3 (upd H2 D (.lst [])) s3.heap.objs.size (cellsFrom (s3.heap.objs.size + 1) scope.names (cloFrom X.env.cells scope.names [])) fp
  show codeAny _ _ (.compStart (.ListComp elt [⟨tg, iter, ifs, 0⟩] scope pos) 0 (.ref it) (.ref D) (compEnvC scope (cellsFrom (s3.heap.objs.size + 1) scope.names (cloFrom X.env.cells scope.names [])) s3.heap.objs.size X.env)) (compEnds (model X.prog X.w) X.A X.xe use Qf (.ref D) (compEnvC scope (cellsFrom (s3.heap.objs.size + 1) scope.names (cloFrom X.env.cells scope.names [])) s3.heap.objs.size X.env)) { s3 with heap := pushCells (s3.heap.push { cls := .type "dict", data := .dict #[] }) scope.names }
  have nfp : ∀ b ∈ fp, (upd H2 D (.lst [])) b = none := fun b hb => (f3 b hb).1.1
  generalize hce : compEnvC scope (cellsFrom (s3.heap.objs.size + 1) scope.names (cloFrom X.env.cells scope.names [])) s3.heap.objs.size X.env = ce at I4 pg pt pe ⊢
  have cL : ce.locals = s3.heap.objs.size := by subst hce; rfl
  have cF : ce.frame = X.env.frame := by subst hce; rfl
  generalize hH3 : upd H2 D (.lst []) = H3 at I3 I4 pg pt pe w0 nfp f3
  generalize hs4 : ({ s3 with heap := pushCells (s3.heap.push { cls := .type "dict", data := .dict #[] }) scope.names } : Shared) = s4 at I4 ⊢
  have st4 : tn 0 s4.heap := T.keep _ _ _ st3 fun b _ o e => by rw [← hs4]; exact pushCells_keeps _ _ _ _ (Heap.get?_push_of_some _ e)
  have stat : ∀ {σ' : L2.St} {H' : Hp} {s' : Shared}, Inv (X.blk s3 H3 scope ce fp) [] σ' H' s' → (∀ b ∈ fp, H' b = none) → ∀ b ∈ fp, FpOk (X.blk s3 H3 scope ce fp) [] H' b := fun {σ' H' s'} I' hn b hb =>
    ⟨hn b hb, (I'.ok.exf b hb).1, I'.ok.exfs b hb, .inl hb, fun x c e => (I'.ok.exf b hb).2 x c e, fun p hp => absurd (show p ∈ ([] : List (Addr × Obj)) ++ [] from hp) (by simp)⟩
  have fails : ∀ u s', BlkX X (X.blk s3 H3 scope ce fp) W u s' → notedBy (model X.prog X.w) X.A ce (fun e s'' => compEnds (model X.prog X.w) X.A X.xe use Qf (.ref D) ce (.error e) s'') u s' := fun u s' x => by
    have z := blk_fails hc hs1 hf1 cF cL I3 (fun b hb => (f3 b hb).1) tk x
    cases use <;> exact z
  have loop : codeAny (model X.prog X.w) X.A (.compLoop (.ListComp elt [⟨tg, iter, ifs, 0⟩] scope pos) 0 (.ref it) (.ref D) ce) (compEnds (model X.prog X.w) X.A X.xe use Qf (.ref D) ce) s4 := by
    refine compLoop_any (fun n s' => ∃ i H', Inv (X.blk s3 H3 scope ce fp) [] (wipe σ (own.map (·.2))) H' s' ∧ tn i s'.heap ∧ (∀ b ∈ fp, H' b = none) ∧ Wt i n H') ?_ m0 ⟨0, H3, I4, st4, nfp, w0⟩
    rintro n s5 ⟨i, H5, I5, st5, n5, w5⟩
    rcases turn i n H5 w5 with ⟨stop, qq⟩ | ⟨go, Nx, hNx, step⟩
    · refine thnF (T.done (X.blk s3 H3 scope ce fp) rfl rfl rfl hc i [] s5 _ H5 (fun _ _ => False) I5 (stat I5 n5) st5 stop) fun r s6 ⟨hr, I6⟩ => ?_
      subst hr
      have I7 : Inv X pins σ H5 s6 := I3.call' (ch := fp) I6.os I6.base I6.hok I6.bare fun b hb => ⟨(f3 b hb).1.2.2.2.1, (f3 b hb).1.2.1, (f3 b hb).1.2.2.2.2.1, (f3 b hb).1.2.2.2.2.2⟩
      have nC : H5 ce.locals = none := I6.free
      obtain ⟨m, hn, _⟩ := I6.loc
      have hn : s6.heap.Ns ce.locals m := hn
      rw [cL] at nC
      have z := hRR D s3.heap.objs.size s6 m H5 I7 qq (by rw [← cL]; exact hn) (I3.fpOk (Nat.le_refl _) nC)
      rw [← cL] at z
      cases use <;> exact z
    · refine thnF (T.item (X.blk s3 H3 scope ce fp) rfl rfl rfl hc i [] s5 _ H5 (fun _ _ => False) I5 (stat I5 n5) st5 go) fun r s6 ⟨u, hr, h6⟩ => ?_
      subst hr
      refine thnF h6 fun _ s7 ⟨x, H7, I7, r7, y7, st7, n7⟩ => ?_
      have I7' := I7.pinned (stat I7 n7) (T.obj _ _ st7)
      refine thnF (pg.run _ s7 _ H7 x u _ I7' r7 (step x H7 y7)) fun _ s8 ⟨σ8, H8, I8, hw8, q8⟩ => thnF (pt.run _ s8 σ8 H8 _ I8 q8) fun b s9 ⟨H9, I9, q9⟩ => ?_
      have fin : ∀ {s' : Shared} {H' : Hp}, Inv (X.blk s3 H3 scope ce fp) ([] ++ pinsAt fp s7.heap) σ8 H' s' → Nx H' → ∃ m, m < n ∧ ∃ i H', Inv (X.blk s3 H3 scope ce fp) [] (wipe σ (own.map (·.2))) H' s' ∧ tn i s'.heap ∧ (∀ b ∈ fp, H' b = none) ∧ Wt i m H' := fun {s' H'} I' nx => by
        obtain ⟨m', hm, w'⟩ := hNx H' nx
        have pin' : ∀ b ∈ fp, ∀ o, s7.heap.get? b = some o → s'.heap.get? b = some o ∧ H' b = none := fun b hb o e =>
          let z := I'.pin (b, o) (List.mem_append_right _ (List.mem_append_right _ (mem_pinsAt hb e)))
          ⟨z.1, z.2.1⟩
        have hl : (wipe σ (own.map (·.2))).length = σ8.length := by rw [← hw8, wipe_length]
        refine ⟨m', hm, i + 1, H', (I'.unpinned (pins := [])).weak hl (fun j v e => ?_), T.keep _ _ _ st7 fun b hb o e => (pin' b hb o e).1, fun b hb => ?_, w'⟩
        · rw [← hw8] at e
          exact (wipe_some e).1
        · obtain ⟨o, e, _⟩ := T.obj _ _ st7 b hb
          exact (pin' b hb o e).2
      cases b with
      | false =>
        simp only [Bool.false_eq_true, if_false] at q9 ⊢
        exact fin I9 q9
      | true =>
        simp only [if_true] at q9 ⊢
        refine wpAny_mono (pe.run _ s9 σ8 H9 _ (I9.wish _) q9) (fun z s10 ⟨yv, H10, I10w, r10, acc, hD10, hz10, nx⟩ => ?_) fun u s' x => fails u s' x
        exact app_ok (X := X.blk s3 H3 scope ce fp) I10w.unwish hD10 hz10 r10 fun s11 I11 => fin I11 nx
  exact codeAny_compStart_list loop (T.self X.A 0 _ _ _ st4 loop)
theorem pe_lcX {elt tg iter : Expr} {ifs : List Expr} {scope : Scope} {own : List (Str × Nat)} {pos : Pos} {wi : TI} {g : TG} {tt : TT} {te : TE} (hc : X.calm = true) (hs1 : X.stack = X.env :: X.outer) (hf1 : X.env.frame = some X.env.locals) (tk : Takes X (fun cls d _ H => W cls d H)) (hN : X.N.Nodup) (hi : PI X tg iter wi) (ok : BlkOk X.N X.env.scope scope own)
    (hg : ∀ (s : Shared) (H : Hp) (C : Addr) (cl : List (Str × Addr)) (fp : List Addr), PG (X.blk s H scope (compEnvC scope cl C X.env) fp) tg g) (ht : ∀ (s : Shared) (H : Hp) (C : Addr) (cl : List (Str × Addr)) (fp : List Addr), PTs (X.blk s H scope (compEnvC scope cl C X.env) fp) ifs tt)
    (he : ∀ (s : Shared) (H : Hp) (C : Addr) (cl : List (Str × Addr)) (fp : List Addr), PE ((X.blk s H scope (compEnvC scope cl C X.env) fp).wish (BlkX X (X.blk s H scope (compEnvC scope cl C X.env) fp) W)) elt te) (hfs : ∀ x, foldedSetIterable iter X.env x = pure x := by intro _; rfl) :
    PE X (.ListComp elt [⟨tg, iter, ifs, 0⟩] scope pos) (tLc wi g tt te (own.map (·.2))) := by
  refine ⟨fun pins s σ H Q I h => ?_⟩
  rw [eval_ListComp]
  refine lc_coreX hc hs1 hf1 tk hN I hi ok hg ht he hfs h fun D C s' m H' I' q hn f => ⟨m, hn, fun h'' sb => ?_⟩
  obtain ⟨f0, f1, f2, f3, f4, f5⟩ := f
  exact ⟨.ref D, H', I'.turned (t' := s'.toks) (fun b o hb e => (sb.2 b hb).trans e) f0 f1 f3 f4 f5, rfl, q⟩
/-- name = [..] on one row, the element may raise -/
theorem ps_setLcX {i : Nat} {y : Str} {py : Pos} {elt tg iter : Expr} {ifs : List Expr} {scope : Scope} {own : List (Str × Nat)} {pos spos : Pos} {wi : TI} {g : TG} {tt : TT} {te : TE} (hc : X.calm = true) (hs1 : X.stack = X.env :: X.outer) (hf1 : X.env.frame = some X.env.locals) (tk : Takes X (fun cls d _ H => W cls d H)) (hN : X.N.Nodup) (hy : X.N[i]? = some y) (hyl : X.env.scope.names.lookup y = some .local)
    (hsw : swapsWith (.ListComp elt [⟨tg, iter, ifs, 0⟩] scope pos) (some (.Name y py)) spos.line X.env = pure true) (hi : PI X tg iter wi) (ok : BlkOk X.N X.env.scope scope own)
    (hg : ∀ (s : Shared) (H : Hp) (C : Addr) (cl : List (Str × Addr)) (fp : List Addr), PG (X.blk s H scope (compEnvC scope cl C X.env) fp) tg g) (ht : ∀ (s : Shared) (H : Hp) (C : Addr) (cl : List (Str × Addr)) (fp : List Addr), PTs (X.blk s H scope (compEnvC scope cl C X.env) fp) ifs tt)
    (he : ∀ (s : Shared) (H : Hp) (C : Addr) (cl : List (Str × Addr)) (fp : List Addr), PE ((X.blk s H scope (compEnvC scope cl C X.env) fp).wish (BlkX X (X.blk s H scope (compEnvC scope cl C X.env) fp) W)) elt te) (hfs : ∀ x, foldedSetIterable iter X.env x = pure x := by intro _; rfl) :
    PS X (.Assign [.Name y py] (.ListComp elt [⟨tg, iter, ifs, 0⟩] scope pos) spos) (tAsg (tLc wi g tt te (own.map (·.2))) (gName i)) := by
  refine ⟨fun pins s σ H D I h => ?_⟩
  rw [exec_Assign_Name_used _ _ _ _ hsw]
  refine wpAny_bind (wpAny_standAt (wpAny_bind ?_))
  show wpAny _ X.A (do let _ ← comprehension (.ListComp elt [⟨tg, iter, ifs, 0⟩] scope pos) scope X.env (firstIterPos [⟨tg, iter, ifs, 0⟩] pos) (newList []) false (eval iter X.env) (some (assign (.Name y py) X.env))) _ _ s
  have h : tLc wi g tt te (own.map (·.2)) σ H (fun x H1 => gName i x σ H1 D.nx) := h
  refine wpAny_bind (thn (lc_coreX (Qf := fun _ s' => SP X pins D .next s') hc hs1 hf1 tk hN I hi ok hg ht he hfs h fun L C s' m H' I' q hn f => ?_) fun _ s' hq => wpAny_pure (wpAny_pure hq))
  show wpAny _ _ (assign (.Name y py) X.env (.ref L)) _ _ _
  refine wpAny_assign_Name (store_ok2 (v := V.ref L) I' hN hy (.inl hyl) rfl (fun s2 I2 ⟨a, sb, ha⟩ => ?_) (.inr hyl))
  obtain ⟨f0, f1, f2, f3, f4, f5⟩ := f
  have haC : C ≠ a := by
    rcases ha with z | z
    · rw [z]; exact f1
    · exact fun e => f4 y a z e.symm
  refine ⟨m, hn.sameBut sb haC, fun h3 sb3 => ⟨_, H', I2.turned (t' := s2.toks) (fun b o hb e => (sb3.2 b hb).trans e) f0 f1 f3 f4 f5, q⟩⟩
/-- what a callee may let out is taken by the block -/
theorem blk_passes {E : XK} {s : Shared} {H : Hp} {scope : Scope} {ce : Env} {fp : List Addr} (hW : ∀ cls d H, E cls d H → W cls d H) : Passes (L2.CX X.prog X.w) ((X.blk s H scope ce fp).wish (BlkX X (X.blk s H scope ce fp) W)) E := fun pins σ H' s1 e s' I c => blkX_call (X := X) (Xb := X.blk s H scope ce fp) rfl I.unwish hW c
end
end G

namespace G
open PySem PySem.Spec PyProof.Rows L2
section
variable {X : Cx} {C : Addr} {bmB : List Value} {B newId initId : String} {x : Str} {e : Expr} {ta : TE} {p pos : Pos}
/-- X(e) of one's own class, its context known to be None -/
theorem pmkN_own1 (F : ExcBaseFacts B newId initId bmB) (q : PySem.W.excIn X.K C bmB newId = true) (gC : X.mg x = some (.ref C)) (kC : PySem.W.keepIn X.K (.ref C) = true) (r : Raises X (.ref C)) (hg : Gl X x) (he : PE X e ta) (hs : starEach [e] X.env = (false, eval e X.env) :: starEach [] X.env := by rfl) (hdb : (x == ("__debug__" : Str)) = false := by decide) :
    L2N.PMk X (.Call (.Name x p) [e] [] pos) (fun σ H Q => ta σ H fun _ H1 => Q (.ref C) none H1) := by
  intro pins s σ H Q I h
  refine wpAny_Call_Name_kw (ld_glob I hg gC (PySem.W.callWith_K (h₀ := X.base) I.ok.mod.kin kC ?_ hs (by rfl)) hdb)
  rw [hs]
  show wpAny _ _ (spliced ((false, eval e X.env) :: backTo pos (starEach [] X.env))) _ _ s
  refine Calls.spliced_cons (thn (he.run pins s σ H _ I h) fun u s1 ⟨v, H1, I1, r1, q1⟩ => Calls.spliced_nil ⟨I1.kIn, ?_⟩)
  show wpAny _ _ (call (.ref C) [u]) _ _ _
  obtain ⟨bm, N, nm, qn, bs, hdct, sn, sub, ab, col, dd, k0, k1, k2, k3, k5, mN, hC, hN, hni, T⟩ := exc_obj I1.kIn q
  exact wpAny_call_exc_subT F T hC hN hni (fun h' e hm => L2N.mk_of I1 hm r q1 (I1.hok.gone hm.new)) (by show 1 ≤ sizeLine; rw [sizeLine_eq]; omega)
/-- .. with its six fields -/
theorem pmk5_own1 (F : ExcBaseFacts B newId initId bmB) (q : PySem.W.excIn X.K C bmB newId = true) (gC : X.mg x = some (.ref C)) (kC : PySem.W.keepIn X.K (.ref C) = true) (r : Raises X (.ref C)) (hg : Gl X x) (he : PE X e ta) (hs : starEach [e] X.env = (false, eval e X.env) :: starEach [] X.env := by rfl) (hdb : (x == ("__debug__" : Str)) = false := by decide) :
    L2H.PMk5 X (.Call (.Name x p) [e] [] pos) (fun σ H Q => ta σ H fun _ H1 => Q (.ref C) none H1) := by
  intro pins s σ H Q I h
  refine wpAny_Call_Name_kw (ld_glob I hg gC (PySem.W.callWith_K (h₀ := X.base) I.ok.mod.kin kC ?_ hs (by rfl)) hdb)
  rw [hs]
  show wpAny _ _ (spliced ((false, eval e X.env) :: backTo pos (starEach [] X.env))) _ _ s
  refine Calls.spliced_cons (thn (he.run pins s σ H _ I h) fun u s1 ⟨v, H1, I1, r1, q1⟩ => Calls.spliced_nil ⟨I1.kIn, ?_⟩)
  show wpAny _ _ (call (.ref C) [u]) _ _ _
  obtain ⟨bm, N, nm, qn, bs, hdct, sn, sub, ab, col, dd, k0, k1, k2, k3, k5, mN, hC, hN, hni, T⟩ := exc_obj I1.kIn q
  exact wpAny_call_exc_subT F T hC hN hni (fun h' e hm => L2H.mk_of5 I1 hm r q1 (I1.hok.gone hm.new)) (by show 1 ≤ sizeLine; rw [sizeLine_eq]; omega)
end
end G
namespace L2
open PySem PySem.Spec PyProof.Rows G
variable {P : Program} {w : World} {K : PySem.W.Frag} {mg : Str → Option Value} {base : Heap}
theorem Fun.okN {x qual : Str} {st : Stmt} {f : Addr} {fd : FuncData} {N ps : List Str} {k : Nat} {sp : Sp} (F : Fun K x qual st f fd) (S : FnScope N ps (defScope st)) (len : ∀ vs H Q E, sp vs H Q E → vs.length = ps.length)
    (hbody : ∀ (cdv : Value) (A : Around) (outer : List Env) (s : Shared) (H : Hp) (vs : List V) (Q : VK) (E : XK), Room k (A.deeper (envOfC qual (defScope st) s.heap.objs.size f cdv)) → sp vs H Q E →
      ∃ t, PSs (cxOf (L2N.CX P w) P w K mg base N qual (defScope st) f cdv A outer s H E) (defBody st) t ∧ t { nx := fun _ H' => Q .non H', rt := Q } (start N vs) H) : FnOk P w K mg base (L2N.CX P w) (k + 1) f fd ps sp := by
  obtain ⟨oc, od, kV, doc, pm, an, cdv, ct, osl, rfl, lk, hcd⟩ := F.ex
  exact fn_of lk hcd S len fun A outer s H vs Q E hr hsp => hbody cdv A outer s H vs Q E hr hsp
end L2

namespace G
open PySem PySem.Spec PyProof.Rows L2 TL Evl RZ
/-! ### a text times a number -/
def rRepS : R2 := fun x y H Q => ∃ (i : Str) (n : Int), x = .str i ∧ y = .int n ∧ PySem.MulOk i n ∧ Q (.str (PySem.Txt.mul i n)) H
theorem op_repS {X : Cx} : OpR X (binaryOp .Mult) rRepS := by
  intro pins s σ H x y v u Q I rx ry h
  obtain ⟨i, n, rfl, rfl, hz, q⟩ := h
  obtain ⟨t, rfl⟩ := rx
  obtain ⟨t', rfl⟩ := ry
  exact PySem.SB.mul hz fun t' k => ⟨.str (PySem.Txt.mul i n), H, I.tok _, ⟨_, rfl⟩, q⟩
theorem ev_repS {σ : L2.St} {H : Hp} {ta tb : TE} {x : Str} {n : Int} (ha : Ev ta σ H (.str x)) (hb : Ev tb σ H (.int n)) (h : PySem.MulOk x n) : Ev (tOp rRepS ta tb) σ H (.str (PySem.Txt.mul x n)) := fun H1 e Q q =>
  ha H1 e _ fun H2 e2 => hb H2 (e.trans e2) _ fun H3 e3 => ⟨x, n, rfl, rfl, h, q H3 (e2.trans e3)⟩
theorem tl_foldl (l : List Nat) : ∀ (m : Nat) (a : Array Nat), ((List.replicate m l.toArray).foldl (fun x1 x2 => x1 ++ x2) a).toList = a.toList ++ (List.replicate m l).flatten
  | 0, a => by simp
  | m + 1, a => by
    rw [List.replicate_succ, List.replicate_succ, List.foldl_cons, tl_foldl l m, List.flatten_cons]
    simp
theorem tl_mul {x : Str} {n : Nat} (h : 2 ≤ n) (hx : x.length ≠ 0) : tl (PySem.Txt.mul x (n : Int)) = (List.replicate n (tl x)).flatten := by
  unfold PySem.Txt.mul
  rw [if_neg (by omega), if_neg (by simp; omega)]
  have := tl_foldl (tl x) n #[]
  simpa using this
theorem joinL_flat (s : Nat) : ∀ (rs : List (List Nat)) (h : List Nat), joinL [s] (h :: rs) = h ++ (rs.map fun r => s :: r).flatten
  | [], h => by simp [joinL]
  | r :: rs, h => by
    show h ++ ([s] ++ joinL [s] (r :: rs)) = _
    rw [joinL_flat s rs r]
    simp
theorem text_flat (n : Nat) (ts : List Tie) : tl (textS n ts) = tl (headS n) ++ (ts.map fun t => 10 :: tl (rowS t)).flatten := by
  unfold textS
  rw [tl_J, tl_line, List.map_cons, joinL_flat, List.map_map, List.map_map]
  rfl
theorem row017 : tl ("\ntie 0 1 7" : Str) = 10 :: tl (rowS (0, 1, 7)) := by
  rw [row_tl, show (7 : Int) = ((7 : Nat) : Int) from rfl, nS_tl, numL_lt (by decide), numL_lt (by decide), numL_lt (by decide)]
  decide +kernel
theorem row107 : tl ("\ntie 1 0 7" : Str) = 10 :: tl (rowS (1, 0, 7)) := by
  rw [row_tl, show (7 : Int) = ((7 : Nat) : Int) from rfl, nS_tl, numL_lt (by decide), numL_lt (by decide), numL_lt (by decide)]
  decide +kernel
theorem head2 : tl ("places 2" : Str) = tl (headS 2) := by
  rw [head_tl, numL_lt (by decide)]
  decide +kernel
def T300 : List Tie := List.replicate 300 (0, 1, 7)
theorem x300 : ("places 2" : Str) ++ PySem.Txt.mul ("\ntie 0 1 7" : Str) 300 = textS 2 T300 := by
  refine ext_tl ?_
  rw [tl_append, show (300 : Int) = ((300 : Nat) : Int) from rfl, tl_mul (by decide) (by decide +kernel), text_flat, head2, row017]
  unfold T300
  rw [List.map_replicate]
theorem x301 : textS 2 T300 ++ ("\ntie 1 0 7" : Str) = textS 2 (T300 ++ [(1, 0, 7)]) := by
  refine ext_tl ?_
  rw [tl_append, text_flat, text_flat, row107]
  simp
theorem good017 : Good 2 (0, 1, 7) := ⟨by decide, by decide, by decide, by decide, by decide⟩
theorem good107 : Good 2 (1, 0, 7) := ⟨by decide, by decide, by decide, by decide, by decide⟩
theorem good300 : ∀ t ∈ T300, Good 2 t := fun t ht => by
  rw [List.eq_of_mem_replicate ht]
  exact good017
theorem len300 : T300.length = 300 := List.length_replicate
end G

namespace Toy
open PySem L2 Evl RZ G
def top (i : Nat) : Stmt := PySem.Challenge.pw_onewalls_k11_texts_refused.main.body.getD i (.Pass ⟨0, 0, 0, 0⟩)
abbrev s_is_whole : Stmt := top 11
abbrev s_is_place : Stmt := top 12
abbrev s_is_tie : Stmt := top 13
abbrev s_check_net : Stmt := top 14
abbrev s_check_place : Stmt := top 15
abbrev s_check_two : Stmt := top 16
abbrev s_check_side : Stmt := top 17
abbrev s_costs_between : Stmt := top 18
abbrev s_Net_init : Stmt := inClass (top 19) 0
abbrev s_Net_ties : Stmt := inClass (top 19) 1
abbrev s_Net_between : Stmt := inClass (top 19) 2
abbrev s_Net_price : Stmt := inClass (top 19) 4
abbrev s_number_in : Stmt := top 23
abbrev s_numbers_in : Stmt := top 24
abbrev s_read : Stmt := top 25
abbrev s__law_cell_at : Stmt := top 27
abbrev s__law_number : Stmt := top 28
abbrev s__law_due : Stmt := top 29
abbrev s__law_refused : Stmt := top 30
abbrev s__law_odd : Stmt := top 31
abbrev s__law_signs : Stmt := top 32
abbrev s__law_sign_by : Stmt := top 33
abbrev s__law_no_blank : Stmt := top 34
abbrev s__law_good : Stmt := top 35
abbrev s_law : Stmt := top 36
theorem sc_is_whole : FnScope ["number", "low", "high"] ["number", "low", "high"] (defScope s_is_whole) := ⟨rfl, rfl, rfl, by decide +kernel, rfl, by decide +kernel, by decide +kernel⟩
theorem sc_is_place : FnScope ["many", "place"] ["many", "place"] (defScope s_is_place) := ⟨rfl, rfl, rfl, by decide +kernel, rfl, by decide +kernel, by decide +kernel⟩
theorem sc_is_tie : FnScope ["many", "tie", "one", "other", "cost"] ["many", "tie"] (defScope s_is_tie) := ⟨rfl, rfl, rfl, by decide +kernel, rfl, by decide +kernel, by decide +kernel⟩
theorem sc_check_net : FnScope ["many", "ties", "tie"] ["many", "ties"] (defScope s_check_net) := ⟨rfl, rfl, rfl, by decide +kernel, rfl, by decide +kernel, by decide +kernel⟩
theorem sc_check_place : FnScope ["many", "place"] ["many", "place"] (defScope s_check_place) := ⟨rfl, rfl, rfl, by decide +kernel, rfl, by decide +kernel, by decide +kernel⟩
theorem sc_check_two : FnScope ["many", "one", "other"] ["many", "one", "other"] (defScope s_check_two) := ⟨rfl, rfl, rfl, by decide +kernel, rfl, by decide +kernel, by decide +kernel⟩
theorem sc_check_side : FnScope ["many", "side", "place"] ["many", "side"] (defScope s_check_side) := ⟨rfl, rfl, rfl, by decide +kernel, rfl, by decide +kernel, by decide +kernel⟩
theorem sc_costs_between : FnScope ["many", "ties", "costs", "place", "one", "other", "cost"] ["many", "ties"] (defScope s_costs_between) := ⟨rfl, rfl, rfl, by decide +kernel, rfl, by decide +kernel, by decide +kernel⟩
theorem sc_Net_init : FnScope ["self", "many", "ties"] ["self", "many", "ties"] (defScope s_Net_init) := ⟨rfl, rfl, rfl, by decide +kernel, rfl, by decide +kernel, by decide +kernel⟩
theorem sc_Net_ties : FnScope ["self"] ["self"] (defScope s_Net_ties) := ⟨rfl, rfl, rfl, by decide +kernel, rfl, by decide +kernel, by decide +kernel⟩
theorem sc_Net_between : FnScope ["self", "one", "other"] ["self", "one", "other"] (defScope s_Net_between) := ⟨rfl, rfl, rfl, by decide +kernel, rfl, by decide +kernel, by decide +kernel⟩
theorem sc_Net_price : FnScope ["self", "side", "total", "one", "other", "cost"] ["self", "side"] (defScope s_Net_price) := ⟨rfl, rfl, rfl, by decide +kernel, rfl, by decide +kernel, by decide +kernel⟩
theorem sc_number_in : FnScope ["word", "sign"] ["word"] (defScope s_number_in) := ⟨rfl, rfl, rfl, by decide +kernel, rfl, by decide +kernel, by decide +kernel⟩
theorem sc_numbers_in : FnScope ["row", "name", "many", "words", "word"] ["row", "name", "many"] (defScope s_numbers_in) := ⟨rfl, rfl, rfl, by decide +kernel, rfl, by decide +kernel, by decide +kernel⟩
theorem sc_read : FnScope ["text", "rows", "many", "ties", "row"] ["text"] (defScope s_read) := ⟨rfl, rfl, rfl, by decide +kernel, rfl, by decide +kernel, by decide +kernel⟩
theorem sc__law_cell_at : FnScope ["_law_script", "_law_k"] ["_law_script", "_law_k"] (defScope s__law_cell_at) := ⟨rfl, rfl, rfl, by decide +kernel, rfl, by decide +kernel, by decide +kernel⟩
theorem sc__law_number : FnScope ["_law_word", "_law_sign"] ["_law_word"] (defScope s__law_number) := ⟨rfl, rfl, rfl, by decide +kernel, rfl, by decide +kernel, by decide +kernel⟩
theorem sc__law_due : FnScope ["_law_text", "_law_rows", "_law_row", "_law_many", "_law_ties", "_law_tie"] ["_law_text"] (defScope s__law_due) := ⟨rfl, rfl, rfl, by decide +kernel, rfl, by decide +kernel, by decide +kernel⟩
theorem sc__law_refused : FnScope ["_law_text", "e"] ["_law_text"] (defScope s__law_refused) := ⟨rfl, rfl, rfl, by decide +kernel, rfl, by decide +kernel, by decide +kernel⟩
theorem sc__law_odd : FnScope ["_law_cell", "_law_some", "_law_rows", "_law_row"] ["_law_cell"] (defScope s__law_odd) := ⟨rfl, rfl, rfl, by decide +kernel, rfl, by decide +kernel, by decide +kernel⟩
theorem sc__law_signs : FnScope ["_law_some"] [] (defScope s__law_signs) := ⟨rfl, rfl, rfl, by decide +kernel, rfl, by decide +kernel, by decide +kernel⟩
theorem sc__law_sign_by : FnScope ["_law_cell"] ["_law_cell"] (defScope s__law_sign_by) := ⟨rfl, rfl, rfl, by decide +kernel, rfl, by decide +kernel, by decide +kernel⟩
theorem sc__law_no_blank : FnScope ["_law_at", "_law_words", "_law_sign"] ["_law_at"] (defScope s__law_no_blank) := ⟨rfl, rfl, rfl, by decide +kernel, rfl, by decide +kernel, by decide +kernel⟩
theorem sc__law_good : FnScope ["_law_script", "_law_many", "_law_rows", "_law_k", "_law_cell", "_law_one", "_law_other", "_law_price"] ["_law_script", "_law_many"] (defScope s__law_good) := ⟨rfl, rfl, rfl, by decide +kernel, rfl, by decide +kernel, by decide +kernel⟩
theorem sc_law : FnScope ["_law_script", "_law_way", "_law_cell", "_law_many", "_law_text", "_law_at", "_law_sign", "_law_due_here", "_law_net"] ["_law_script"] (defScope s_law) := ⟨rfl, rfl, rfl, by decide +kernel, rfl, by decide +kernel, by decide +kernel⟩
structure Wd (K : PySem.W.Frag) (mg : Str → Option Value) where
  f_is_whole : Addr
  d_is_whole : FuncData
  F_is_whole : Fun K "is_whole" "is_whole" s_is_whole f_is_whole d_is_whole
  b_is_whole : Binds K d_is_whole ["number", "low", "high"] []
  m_is_whole : mg "is_whole" = some (.ref f_is_whole)
  f_is_place : Addr
  d_is_place : FuncData
  F_is_place : Fun K "is_place" "is_place" s_is_place f_is_place d_is_place
  b_is_place : Binds K d_is_place ["many", "place"] []
  m_is_place : mg "is_place" = some (.ref f_is_place)
  f_is_tie : Addr
  d_is_tie : FuncData
  F_is_tie : Fun K "is_tie" "is_tie" s_is_tie f_is_tie d_is_tie
  b_is_tie : Binds K d_is_tie ["many", "tie"] []
  m_is_tie : mg "is_tie" = some (.ref f_is_tie)
  f_check_net : Addr
  d_check_net : FuncData
  F_check_net : Fun K "check_net" "check_net" s_check_net f_check_net d_check_net
  b_check_net : Binds K d_check_net ["many", "ties"] []
  m_check_net : mg "check_net" = some (.ref f_check_net)
  f_check_place : Addr
  d_check_place : FuncData
  F_check_place : Fun K "check_place" "check_place" s_check_place f_check_place d_check_place
  b_check_place : Binds K d_check_place ["many", "place"] []
  m_check_place : mg "check_place" = some (.ref f_check_place)
  f_check_two : Addr
  d_check_two : FuncData
  F_check_two : Fun K "check_two" "check_two" s_check_two f_check_two d_check_two
  b_check_two : Binds K d_check_two ["many", "one", "other"] []
  m_check_two : mg "check_two" = some (.ref f_check_two)
  f_check_side : Addr
  d_check_side : FuncData
  F_check_side : Fun K "check_side" "check_side" s_check_side f_check_side d_check_side
  b_check_side : Binds K d_check_side ["many", "side"] []
  m_check_side : mg "check_side" = some (.ref f_check_side)
  f_costs_between : Addr
  d_costs_between : FuncData
  F_costs_between : Fun K "costs_between" "costs_between" s_costs_between f_costs_between d_costs_between
  b_costs_between : Binds K d_costs_between ["many", "ties"] []
  m_costs_between : mg "costs_between" = some (.ref f_costs_between)
  f_Net_init : Addr
  d_Net_init : FuncData
  F_Net_init : Fun K "__init__" "Net.__init__" s_Net_init f_Net_init d_Net_init
  b_Net_init : Binds K d_Net_init ["self", "many", "ties"] []
  f_Net_ties : Addr
  d_Net_ties : FuncData
  F_Net_ties : Fun K "ties" "Net.ties" s_Net_ties f_Net_ties d_Net_ties
  b_Net_ties : Binds K d_Net_ties ["self"] []
  f_Net_between : Addr
  d_Net_between : FuncData
  F_Net_between : Fun K "between" "Net.between" s_Net_between f_Net_between d_Net_between
  b_Net_between : Binds K d_Net_between ["self", "one", "other"] []
  f_Net_price : Addr
  d_Net_price : FuncData
  F_Net_price : Fun K "price" "Net.price" s_Net_price f_Net_price d_Net_price
  b_Net_price : Binds K d_Net_price ["self", "side"] []
  f_number_in : Addr
  d_number_in : FuncData
  F_number_in : Fun K "number_in" "number_in" s_number_in f_number_in d_number_in
  b_number_in : Binds K d_number_in ["word"] []
  m_number_in : mg "number_in" = some (.ref f_number_in)
  f_numbers_in : Addr
  d_numbers_in : FuncData
  F_numbers_in : Fun K "numbers_in" "numbers_in" s_numbers_in f_numbers_in d_numbers_in
  b_numbers_in : Binds K d_numbers_in ["row", "name", "many"] []
  m_numbers_in : mg "numbers_in" = some (.ref f_numbers_in)
  f_read : Addr
  d_read : FuncData
  F_read : Fun K "read" "read" s_read f_read d_read
  b_read : Binds K d_read ["text"] []
  m_read : mg "read" = some (.ref f_read)
  f__law_cell_at : Addr
  d__law_cell_at : FuncData
  F__law_cell_at : Fun K "_law_cell_at" "_law_cell_at" s__law_cell_at f__law_cell_at d__law_cell_at
  b__law_cell_at : Binds K d__law_cell_at ["_law_script", "_law_k"] []
  m__law_cell_at : mg "_law_cell_at" = some (.ref f__law_cell_at)
  f__law_number : Addr
  d__law_number : FuncData
  F__law_number : Fun K "_law_number" "_law_number" s__law_number f__law_number d__law_number
  b__law_number : Binds K d__law_number ["_law_word"] []
  m__law_number : mg "_law_number" = some (.ref f__law_number)
  f__law_due : Addr
  d__law_due : FuncData
  F__law_due : Fun K "_law_due" "_law_due" s__law_due f__law_due d__law_due
  b__law_due : Binds K d__law_due ["_law_text"] []
  m__law_due : mg "_law_due" = some (.ref f__law_due)
  f__law_refused : Addr
  d__law_refused : FuncData
  F__law_refused : Fun K "_law_refused" "_law_refused" s__law_refused f__law_refused d__law_refused
  b__law_refused : Binds K d__law_refused ["_law_text"] []
  m__law_refused : mg "_law_refused" = some (.ref f__law_refused)
  f__law_odd : Addr
  d__law_odd : FuncData
  F__law_odd : Fun K "_law_odd" "_law_odd" s__law_odd f__law_odd d__law_odd
  b__law_odd : Binds K d__law_odd ["_law_cell"] []
  m__law_odd : mg "_law_odd" = some (.ref f__law_odd)
  f__law_signs : Addr
  d__law_signs : FuncData
  F__law_signs : Fun K "_law_signs" "_law_signs" s__law_signs f__law_signs d__law_signs
  b__law_signs : Binds K d__law_signs [] []
  m__law_signs : mg "_law_signs" = some (.ref f__law_signs)
  f__law_sign_by : Addr
  d__law_sign_by : FuncData
  F__law_sign_by : Fun K "_law_sign_by" "_law_sign_by" s__law_sign_by f__law_sign_by d__law_sign_by
  b__law_sign_by : Binds K d__law_sign_by ["_law_cell"] []
  m__law_sign_by : mg "_law_sign_by" = some (.ref f__law_sign_by)
  f__law_no_blank : Addr
  d__law_no_blank : FuncData
  F__law_no_blank : Fun K "_law_no_blank" "_law_no_blank" s__law_no_blank f__law_no_blank d__law_no_blank
  b__law_no_blank : Binds K d__law_no_blank ["_law_at"] []
  m__law_no_blank : mg "_law_no_blank" = some (.ref f__law_no_blank)
  f__law_good : Addr
  d__law_good : FuncData
  F__law_good : Fun K "_law_good" "_law_good" s__law_good f__law_good d__law_good
  b__law_good : Binds K d__law_good ["_law_script", "_law_many"] []
  m__law_good : mg "_law_good" = some (.ref f__law_good)
  C_Net : Addr
  cl_Net : Cls K C_Net
  m_Net : mg "Net" = some (.ref C_Net)
  kc_Net : PySem.W.keepIn K (.ref C_Net) = true
  ci_Net : PySem.W.makesIn K C_Net = true
  na_Net__costs : NoAttr K C_Net "_costs"
  na_Net__ties : NoAttr K C_Net "_ties"
  na_Net_many : NoAttr K C_Net "many"
  MK_Net : Mk K C_Net f_Net_init
  mt_Net_ties : Meth K C_Net "ties" f_Net_ties
  mt_Net_between : Meth K C_Net "between" f_Net_between
  mt_Net_price : Meth K C_Net "price" f_Net_price
  C_WallError : Addr
  m_WallError : mg "WallError" = some (.ref C_WallError)
  X_WallError : XCls K C_WallError
  C_NoNet : Addr
  m_NoNet : mg "NoNet" = some (.ref C_NoNet)
  X_NoNet : XCls K C_NoNet
  C_NoPlace : Addr
  m_NoPlace : mg "NoPlace" = some (.ref C_NoPlace)
  X_NoPlace : XCls K C_NoPlace
  C_NoSide : Addr
  m_NoSide : mg "NoSide" = some (.ref C_NoSide)
  X_NoSide : XCls K C_NoSide
  C_NoText : Addr
  m_NoText : mg "NoText" = some (.ref C_NoText)
  X_NoText : XCls K C_NoText
  su_NoNet_WallError : PySem.W.subIn K (.ref C_NoNet) (.ref C_WallError) = some true
  su_NoNet_NoPlace : PySem.W.subIn K (.ref C_NoNet) (.ref C_NoPlace) = some false
  su_NoNet_NoSide : PySem.W.subIn K (.ref C_NoNet) (.ref C_NoSide) = some false
  su_NoNet_NoText : PySem.W.subIn K (.ref C_NoNet) (.ref C_NoText) = some false
  su_NoPlace_WallError : PySem.W.subIn K (.ref C_NoPlace) (.ref C_WallError) = some true
  su_NoPlace_NoNet : PySem.W.subIn K (.ref C_NoPlace) (.ref C_NoNet) = some false
  su_NoPlace_NoSide : PySem.W.subIn K (.ref C_NoPlace) (.ref C_NoSide) = some false
  su_NoPlace_NoText : PySem.W.subIn K (.ref C_NoPlace) (.ref C_NoText) = some false
  su_NoSide_WallError : PySem.W.subIn K (.ref C_NoSide) (.ref C_WallError) = some true
  su_NoSide_NoNet : PySem.W.subIn K (.ref C_NoSide) (.ref C_NoNet) = some false
  su_NoSide_NoPlace : PySem.W.subIn K (.ref C_NoSide) (.ref C_NoPlace) = some false
  su_NoSide_NoText : PySem.W.subIn K (.ref C_NoSide) (.ref C_NoText) = some false
  su_NoText_WallError : PySem.W.subIn K (.ref C_NoText) (.ref C_WallError) = some true
  su_NoText_NoNet : PySem.W.subIn K (.ref C_NoText) (.ref C_NoNet) = some false
  su_NoText_NoPlace : PySem.W.subIn K (.ref C_NoText) (.ref C_NoPlace) = some false
  su_NoText_NoSide : PySem.W.subIn K (.ref C_NoText) (.ref C_NoSide) = some false
  t_MOST_PLACES : Tok
  c_MOST_PLACES : mg "MOST_PLACES" = some (.int 24 t_MOST_PLACES)
  t_MOST_TIES : Tok
  c_MOST_TIES : mg "MOST_TIES" = some (.int 300 t_MOST_TIES)
  t_TOP_PRICE : Tok
  c_TOP_PRICE : mg "TOP_PRICE" = some (.int 1000000000 t_TOP_PRICE)
  t_FIGURES : Tok
  c_FIGURES : mg "FIGURES" = some (.str "0123456789" t_FIGURES)
  t_MOST_FIGURES : Tok
  c_MOST_FIGURES : mg "MOST_FIGURES" = some (.int 10 t_MOST_FIGURES)
  n_ValueError : mg "ValueError" = none
  n_int : mg "int" = none
  n_isinstance : mg "isinstance" = none
  n_len : mg "len" = none
  n_list : mg "list" = none
  n_range : mg "range" = none
  n_set : mg "set" = none
  n_str : mg "str" = none
  n_tuple : mg "tuple" = none
  n_type : mg "type" = none
section
variable {P : Program} {w : World} {K : PySem.W.Frag} {mg : Str → Option Value} {base : Heap}
/-! ### the program's defs -/
def sp_is_whole : Sp := fun vs H Q _ => ∃ n lo hi : Int, vs = [.int n, .int lo, .int hi] ∧ RetV (.bl (decide (lo ≤ n ∧ n ≤ hi))) H Q
theorem sv_is_whole {n lo hi : Int} {H : Hp} : SpV sp_is_whole [.int n, .int lo, .int hi] H (.bl (decide (lo ≤ n ∧ n ≤ hi))) := fun H1 _ Q q E => ⟨n, lo, hi, rfl, q⟩
theorem ok_is_whole (T : Wd K mg) : FnOk P w K mg base CX0 1 T.f_is_whole T.d_is_whole ["number", "low", "high"] (sp_is_whole) := by
  refine T.F_is_whole.ok sc_is_whole (fun vs H Q E h => ?_) (fun cdv A outer s H vs Q E hr h => ?_)
  · obtain ⟨n, lo, hi, rfl, _⟩ := h
    rfl
  · obtain ⟨n, lo, hi, rfl, k⟩ := h
    refine ⟨_, (pss_one (ps_ret (pe_and (pe_cmpR G.op_eqTy (pe_callTy call_type1 (by rfl) T.n_type (by decide +kernel) (pa_cons (pv 0) pa_nil)) (pe_bltn (v := .ty "int") (by rfl) T.n_int (by decide +kernel) rfl) (nomark _)) (pe_one (pe_chain op_le op_le (pv 1) (pv 0) (pv 2)))))), ?_⟩
    refine p_ret (Ex.refl H) (ev_is (ev_andV (a := true) (ev_op (ev_type (ev_var rfl) (.int n)) ev_c (rv_tyEq t8int t8int)) (fun _ => ev_chain (ev_var rfl) (ev_var rfl) rv_I0 (fun _ => ev_var rfl) (fun _ => rv_I0))) ?_) k
    simp [Bool.decide_and]
def sp_is_place : Sp := fun vs H Q _ => ∃ n p : Int, vs = [.int n, .int p] ∧ RetV (.bl (decide (0 ≤ p ∧ p < n))) H Q
theorem sv_is_place {n p : Int} {H : Hp} : SpV sp_is_place [.int n, .int p] H (.bl (decide (0 ≤ p ∧ p < n))) := fun H1 _ Q q E => ⟨n, p, rfl, q⟩
theorem ok_is_place (T : Wd K mg) : FnOk P w K mg base CX0 2 T.f_is_place T.d_is_place ["many", "place"] (sp_is_place) := by
  have G_is_whole := ok_is_whole (P := P) (w := w) (base := base) T
  refine T.F_is_place.ok sc_is_place (fun vs H Q E h => ?_) (fun cdv A outer s H vs Q E hr h => ?_)
  · obtain ⟨n, p, rfl, _⟩ := h
    rfl
  · obtain ⟨n, p, rfl, k⟩ := h
    refine ⟨_, (pss_one (ps_ret (pe_call G_is_whole (hr.mono (by decide)) (by rfl) T.m_is_whole T.F_is_whole.kp T.b_is_whole .nil pass0 (pa_cons (pv 1) (pa_cons pe_int (pa_cons (pe_op op_sub (pv 0) pe_int) pa_nil)))))), ?_⟩
    refine p_ret (Ex.refl H) (ev_is (ev_call (ea_cons (ev_var rfl) (ea_cons ev_c (ea_cons (ev_op (ev_var rfl) ev_c rv_I0) ea_nil))) sv_is_whole) ?_) k
    congr 2
    exact propext ⟨fun ⟨a, b⟩ => ⟨a, by omega⟩, fun ⟨a, b⟩ => ⟨a, by omega⟩⟩
def sp_is_tie (K : PySem.W.Frag) : Sp := fun vs H Q _ => ∃ (n : Nat) (a : Addr) (t : Tie), vs = [.int n, .ref a] ∧ SqT K H a (tv t) ∧ Good n t ∧ RetV (.bl true) H Q
theorem sv_is_tie {n : Nat} {a : Addr} {t : Tie} {H : Hp} (ht : SqT K H a (tv t)) (g : Good n t) : SpV (sp_is_tie K) [.int n, .ref a] H (.bl true) := fun H1 e Q q E => ⟨n, a, t, rfl, ex_t e ht, g, q⟩
theorem ok_is_tie (T : Wd K mg) : FnOk P w K mg base CX0 3 T.f_is_tie T.d_is_tie ["many", "tie"] (sp_is_tie K) := by
  have G_is_whole := ok_is_whole (P := P) (w := w) (base := base) T
  have G_is_place := ok_is_place (P := P) (w := w) (base := base) T
  refine T.F_is_tie.ok sc_is_tie (fun vs H Q E h => ?_) (fun cdv A outer s H vs Q E hr h => ?_)
  · obtain ⟨n, a, t, rfl, _⟩ := h
    rfl
  · obtain ⟨n, a, t, rfl, ht, g, k⟩ := h
    have g1 := g.one
    have g2 := g.two
    have g3 := g.ne
    have g4 := g.lo
    have g5 := g.hi
    refine ⟨_, (pss_cons (ps_if (PW.pt (pw_or (pt_cmpR G.op_neTy (pe_callTy call_type1 (by rfl) T.n_type (by decide +kernel) (pa_cons (pv 1) pa_nil)) (pe_bltn (v := .ty "tuple") (by rfl) T.n_tuple (by decide +kernel) rfl) (nomark _)) (pw_or1 (pt_cmpR op_ne (pe_callB call_len_seq (by rfl) T.n_len (by decide +kernel) (pa_cons (pv 1) pa_nil)) pe_int (nomark _))))) (pss_one (ps_ret pe_bl)) pss_nil) (pss_cons (ps_asg (pv 1) (pg_tup (by rfl) (pgs_cons (pg_name (i := 2) sc_is_tie.nd rfl (Or.inl rfl)) (pgs_cons (pg_name (i := 3) sc_is_tie.nd rfl (Or.inl rfl)) (pgs_cons (pg_name (i := 4) sc_is_tie.nd rfl (Or.inl rfl)) pgs_nil))))) (pss_cons (ps_if (PW.pt (pw_or (pt_not (pt_val (pe_call G_is_place (hr.mono (by decide)) (by rfl) T.m_is_place T.F_is_place.kp T.b_is_place .nil pass0 (pa_cons (pv 0) (pa_cons (pv 2) pa_nil))))) (pw_or1 (pt_not (pt_val (pe_call G_is_place (hr.mono (by decide)) (by rfl) T.m_is_place T.F_is_place.kp T.b_is_place .nil pass0 (pa_cons (pv 0) (pa_cons (pv 3) pa_nil)))))))) (pss_one (ps_ret pe_bl)) pss_nil) (pss_one (ps_ret (pe_and (pe_cmpR op_ne (pv 2) (pv 3) (nomark _)) (pe_one (pe_call G_is_whole (hr.mono (by decide)) (by rfl) T.m_is_whole T.F_is_whole.kp T.b_is_whole .nil pass0 (pa_cons (pv 4) (pa_cons pe_int (pa_cons (pe_glob (v := .int 1000000000) (by rfl) T.c_TOP_PRICE ⟨_, rfl⟩) pa_nil))))))))))), ?_⟩
    refine p_no (Ex.refl H) (et_is (et_or (a := false) (et_test (ev_is (ev_op (ev_type (ev_var rfl) (.tup ht)) ev_c (rv_tyNe t8tuple t8tuple)) rfl)) (fun _ => et_test (ev_op (ev_lenS (ev_var rfl) (Or.inr ht)) ev_c (rv_ne rfl)))) rfl) fun H1 e1 _ => ?_
    refine ⟨_, rfl, a, _, rfl, ex_t e1 ht, rfl, _, _, rfl, _, _, rfl, _, _, rfl, rfl, ?_⟩
    refine p_no e1 (et_is (et_or (a := false) (et_is (et_not (et_B (ev_call (ea_cons (ev_var rfl) (ea_cons (ev_var rfl) ea_nil)) sv_is_place))) (by simp; omega)) (fun _ => et_not (et_B (ev_call (ea_cons (ev_var rfl) (ea_cons (ev_var rfl) ea_nil)) sv_is_place)))) (by simp; omega)) fun H2 e2 _ => ?_
    refine p_ret e2 (ev_is (ev_andV (ev_op (ev_var rfl) (ev_var rfl) (rv_ne rfl)) (fun _ => ev_call (ea_cons (ev_var rfl) (ea_cons ev_c (ea_cons ev_c ea_nil))) sv_is_whole)) ?_) k
    simp
    omega

def sp_check_net (K : PySem.W.Frag) : Sp := fun vs H Q _ => ∃ (n : Nat) (l : Addr) (ts : List Tie), vs = [.int n, .ref l] ∧ 1 ≤ n ∧ n ≤ 24 ∧ TiesL K H l ts ∧ ts.length ≤ 300 ∧ (∀ t ∈ ts, Good n t) ∧ RetV .non H Q
theorem sv_check_net {n : Nat} {l : Addr} {ts : List Tie} {H : Hp} (h1 : 1 ≤ n) (h2 : n ≤ 24) (hl : TiesL K H l ts) (hn : ts.length ≤ 300) (g : ∀ t ∈ ts, Good n t) : SpV (sp_check_net K) [.int n, .ref l] H .non := fun H1 e Q q E => ⟨n, l, ts, rfl, h1, h2, hl.ex e, hn, g, q⟩
theorem ok_check_net (T : Wd K mg) : FnOk P w K mg base CX0 4 T.f_check_net T.d_check_net ["many", "ties"] (sp_check_net K) := by
  have G_is_whole := ok_is_whole (P := P) (w := w) (base := base) T
  have G_is_tie := ok_is_tie (P := P) (w := w) (base := base) T
  refine T.F_check_net.ok sc_check_net (fun vs H Q E h => ?_) (fun cdv A outer s H vs Q E hr h => ?_)
  · obtain ⟨n, l, ts, rfl, _⟩ := h
    rfl
  · obtain ⟨n, l, ts, rfl, h1, h2, ⟨xs, hl, tz⟩, hn, g, k⟩ := h
    have hlen := tz.len
    refine ⟨_, (pss_cons (ps_if (pt_not (pt_val (pe_call G_is_whole (hr.mono (by decide)) (by rfl) T.m_is_whole T.F_is_whole.kp T.b_is_whole .nil pass0 (pa_cons (pv 0) (pa_cons pe_int (pa_cons (pe_glob (v := .int 24) (by rfl) T.c_MOST_PLACES ⟨_, rfl⟩) pa_nil)))))) (pss_one (ps_never)) pss_nil) (pss_cons (ps_if (PW.pt (pw_or (pt_cmpR G.op_neTy (pe_callTy call_type1 (by rfl) T.n_type (by decide +kernel) (pa_cons (pv 1) pa_nil)) (pe_bltn (v := .ty "list") (by rfl) T.n_list (by decide +kernel) rfl) (nomark _)) (pw_or1 (pt_cmpR op_gt (pe_callB call_len_seq (by rfl) T.n_len (by decide +kernel) (pa_cons (pv 1) pa_nil)) (pe_glob (v := .int 300) (by rfl) T.c_MOST_TIES ⟨_, rfl⟩) (nomark _))))) (pss_one (ps_never)) pss_nil) (pss_one (ps_for PassesOwn.never rfl (pi_list (pv 1)) (pg_name (i := 2) sc_check_net.nd rfl (Or.inl rfl)) (pss_one (ps_if (pt_not (pt_val (pe_call G_is_tie (hr.mono (by decide)) (by rfl) T.m_is_tie T.F_is_tie.kp T.b_is_tie .nil pass0 (pa_cons (pv 0) (pa_cons (pv 2) pa_nil))))) (pss_one (ps_never)) pss_nil)))))), ?_⟩
    refine p_no (Ex.refl H) (et_is (et_not (et_B (ev_call (ea_cons (ev_var rfl) (ea_cons ev_c (ea_cons ev_c ea_nil))) sv_is_whole))) (by simp; omega)) fun H1 e1 _ => ?_
    refine p_no e1 (et_is (et_or (a := false) (et_test (ev_is (ev_op (ev_type (ev_var rfl) (.lst hl)) ev_c (rv_tyNe t8list t8list)) rfl)) (fun _ => et_test (ev_op (ev_lenS (ev_var rfl) (Or.inl hl)) ev_c rv_I0))) (by simp; omega)) fun H2 e2 _ => ?_
    refine s_forLn (xs := xs) ((ev_var rfl : Ev _ _ H (.ref l)).mono e2) (ex_l e2 hl) (fun i σ' H' => Ex H H' ∧ ∃ v2, σ' = [some (.int n), some (.ref l), v2]) (fun H1 e => ⟨e2.trans e, _, rfl⟩) (fun i σ' H' _ p => ex_l p.1 hl) ?_ (fun σ' H' p => k H' p.1)
    rintro i x σ' H' hx ⟨e, v2, rfl⟩
    obtain ⟨t, a, ht, rfl, hta⟩ := tz.get hx
    refine p_noE e (et_is (et_not (et_B (ev_call (ea_cons (ev_var rfl) (ea_cons (ev_var rfl) ea_nil)) (sv_is_tie hta (g t (List.mem_of_getElem? ht)))))) rfl) fun H3 e3 _ => ?_
    exact ⟨e3, _, rfl⟩
def sp_check_place : Sp := fun vs H Q _ => ∃ (n p : Nat), vs = [.int n, .int p] ∧ p < n ∧ RetV .non H Q
theorem sv_check_place {n p : Nat} {H : Hp} (h : p < n) : SpV sp_check_place [.int n, .int p] H .non := fun H1 e Q q E => ⟨n, p, rfl, h, q⟩
theorem ok_check_place (T : Wd K mg) : FnOk P w K mg base CX0 3 T.f_check_place T.d_check_place ["many", "place"] (sp_check_place) := by
  have G_is_place := ok_is_place (P := P) (w := w) (base := base) T
  refine T.F_check_place.ok sc_check_place (fun vs H Q E h => ?_) (fun cdv A outer s H vs Q E hr h => ?_)
  · obtain ⟨n, p, rfl, _⟩ := h
    rfl
  · obtain ⟨n, p, rfl, hp, k⟩ := h
    refine ⟨_, (pss_one (ps_if (pt_not (pt_val (pe_call G_is_place (hr.mono (by decide)) (by rfl) T.m_is_place T.F_is_place.kp T.b_is_place .nil pass0 (pa_cons (pv 0) (pa_cons (pv 1) pa_nil))))) (pss_one (ps_never)) pss_nil)), ?_⟩
    exact p_noE (Ex.refl H) (et_is (et_not (et_B (ev_call (ea_cons (ev_var rfl) (ea_cons (ev_var rfl) ea_nil)) sv_is_place))) (by simp; omega)) fun H1 e1 _ => k H1 e1
def sp_check_two : Sp := fun vs H Q _ => ∃ (n i j : Nat), vs = [.int n, .int i, .int j] ∧ i < n ∧ j < n ∧ i ≠ j ∧ RetV .non H Q
theorem sv_check_two {n i j : Nat} {H : Hp} (hi : i < n) (hj : j < n) (hn : i ≠ j) : SpV sp_check_two [.int n, .int i, .int j] H .non := fun H1 e Q q E => ⟨n, i, j, rfl, hi, hj, hn, q⟩
theorem ok_check_two (T : Wd K mg) : FnOk P w K mg base CX0 4 T.f_check_two T.d_check_two ["many", "one", "other"] (sp_check_two) := by
  have G_check_place := ok_check_place (P := P) (w := w) (base := base) T
  refine T.F_check_two.ok sc_check_two (fun vs H Q E h => ?_) (fun cdv A outer s H vs Q E hr h => ?_)
  · obtain ⟨n, i, j, rfl, _⟩ := h
    rfl
  · obtain ⟨n, i, j, rfl, hi, hj, hn, k⟩ := h
    refine ⟨_, (pss_cons (ps_expr (pe_call G_check_place (hr.mono (by decide)) (by rfl) T.m_check_place T.F_check_place.kp T.b_check_place .nil pass0 (pa_cons (pv 0) (pa_cons (pv 1) pa_nil)))) (pss_cons (ps_expr (pe_call G_check_place (hr.mono (by decide)) (by rfl) T.m_check_place T.F_check_place.kp T.b_check_place .nil pass0 (pa_cons (pv 0) (pa_cons (pv 2) pa_nil)))) (pss_one (ps_if (pt_cmpR op_eq (pv 1) (pv 2) (nomark _)) (pss_one (ps_never)) pss_nil)))), ?_⟩
    refine p_drop (Ex.refl H) (ev_call (ea_cons (ev_var rfl) (ea_cons (ev_var rfl) ea_nil)) (sv_check_place hi)) fun H1 e1 _ => ?_
    refine p_drop e1 (ev_call (ea_cons (ev_var rfl) (ea_cons (ev_var rfl) ea_nil)) (sv_check_place hj)) fun H2 e2 _ => ?_
    exact p_noE e2 (et_is (et_test (ev_op (ev_var rfl) (ev_var rfl) (rv_eq rfl))) (by simp; omega)) fun H3 e3 _ => k H3 e3
def sp_check_side (K : PySem.W.Frag) : Sp := fun vs H Q _ => ∃ (n : Nat) (a : Addr) (ns : List Nat), vs = [.int n, .ref a] ∧ SqL K H a (IL ns) ∧ (∀ p ∈ ns, p < n) ∧ ns.Nodup ∧ ns.length ≤ 4000 ∧ RetV .non H Q
theorem sv_check_side {n : Nat} {a : Addr} {ns : List Nat} {H : Hp} (h : SqL K H a (IL ns)) (hp : ∀ p ∈ ns, p < n) (nd : ns.Nodup) (hz : ns.length ≤ 4000) : SpV (sp_check_side K) [.int n, .ref a] H .non := fun H1 e Q q E => ⟨n, a, ns, rfl, ex_l e h, hp, nd, hz, q⟩
theorem ok_check_side (T : Wd K mg) : FnOk P w K mg base CX0 3 T.f_check_side T.d_check_side ["many", "side"] (sp_check_side K) := by
  have G_is_place := ok_is_place (P := P) (w := w) (base := base) T
  refine T.F_check_side.ok sc_check_side (fun vs H Q E h => ?_) (fun cdv A outer s H vs Q E hr h => ?_)
  · obtain ⟨n, a, ns, rfl, _⟩ := h
    rfl
  · obtain ⟨n, a, ns, rfl, hl, hp, nd, hz, k⟩ := h
    refine ⟨_, (pss_cons (ps_if (pt_cmpR G.op_neTy (pe_callTy call_type1 (by rfl) T.n_type (by decide +kernel) (pa_cons (pv 1) pa_nil)) (pe_bltn (v := .ty "list") (by rfl) T.n_list (by decide +kernel) rfl) (nomark _)) (pss_one (ps_never)) pss_nil) (pss_cons (ps_for PassesOwn.never rfl (pi_list (pv 1)) (pg_name (i := 2) sc_check_side.nd rfl (Or.inl rfl)) (pss_one (ps_if (pt_not (pt_val (pe_call G_is_place (hr.mono (by decide)) (by rfl) T.m_is_place T.F_is_place.kp T.b_is_place .nil pass0 (pa_cons (pv 0) (pa_cons (pv 2) pa_nil))))) (pss_one (ps_never)) pss_nil))) (pss_one (ps_if (pt_cmpR op_lt (pe_lenSetI (by rfl) T.n_len (by rfl) T.n_set (pv 1)) (pe_callB call_len_seq (by rfl) T.n_len (by decide +kernel) (pa_cons (pv 1) pa_nil)) (nomark _)) (pss_one (ps_never)) pss_nil)))), ?_⟩
    refine p_no (Ex.refl H) (et_is (et_test (ev_op (ev_type (ev_var rfl) (.lst hl)) ev_c (rv_tyNe t8list t8list))) rfl) fun H1 e1 _ => ?_
    refine q_forLn (xs := IL ns) ((ev_var rfl : Ev _ _ H (.ref a)).mono e1) (ex_l e1 hl) (fun i σ' H' => Ex H H' ∧ ∃ v2, σ' = [some (.int n), some (.ref a), v2]) (fun H1 e => ⟨e1.trans e, _, rfl⟩) (fun i σ' H' _ p => ex_l p.1 hl) ?_ ?_
    · rintro i x σ' H' hx ⟨e, v2, rfl⟩
      obtain ⟨p, hm, rfl⟩ := IL_get hx
      refine p_noE e (et_is (et_not (et_B (ev_call (ea_cons (ev_var rfl) (ea_cons (ev_var rfl) ea_nil)) sv_is_place))) (by have := hp p (List.mem_of_getElem? hm); simp; omega)) fun H3 e3 _ => ?_
      exact ⟨e3, _, rfl⟩
    · rintro σ' H' ⟨e, v2, rfl⟩
      refine p_noE e (et_is (et_test (ev_op (ev_lenSet (ev_var rfl) hl nd hz) (ev_lenS (ev_var rfl) (Or.inl hl)) rv_I0)) (by rw [IL_len]; simp)) fun H3 e3 _ => k H3 e3
def sp_costs_between (K : PySem.W.Frag) : Sp := fun vs H Q _ => ∃ (n : Nat) (l : Addr) (ts : List Tie), vs = [.int n, .ref l] ∧ n ≤ 24 ∧ TiesL K H l ts ∧ (∀ t ∈ ts, Good n t) ∧ ∀ p H2, Ex H H2 → MatN H H2 p n (costM ts) → Q (.ref p) H2
theorem ok_costs_between (T : Wd K mg) : FnOk P w K mg base CX0 1 T.f_costs_between T.d_costs_between ["many", "ties"] (sp_costs_between K) := by
  refine T.F_costs_between.ok sc_costs_between (fun vs H Q E h => ?_) (fun cdv A outer s H vs Q E hr h => ?_)
  · obtain ⟨n, l, ts, rfl, _⟩ := h
    rfl
  · obtain ⟨n, l, ts, rfl, hn, ⟨xs, hl, tz⟩, g, k⟩ := h
    refine ⟨_, (pss_cons (ps_setLc (i := 2) (own := [("place", 3)]) (g := (gName 3)) (tt := tYes) rfl sc_costs_between.nd rfl rfl (sw_true rfl rfl rfl (by decide +kernel)) (pi_range1 (by rfl) T.n_range (pa_cons (pv 0) pa_nil)) (blkOk_by (own := [("place", 3)]) (N := ["many", "ties", "costs", "place", "one", "other", "cost"]) (sc := defScope s_costs_between) (by decide +kernel)) (fun _ _ _ _ _ => (pg_name (i := 3) sc_costs_between.nd rfl (Or.inl rfl))) (fun _ _ _ _ _ => pts_nil) (fun _ _ _ _ _ => (pe_op op_rep (pe_lst (pa_cons pe_int pa_nil)) (pv 0)))) (pss_cons (ps_for PassesOwn.never rfl (pi_list (pv 1)) (pg_tup (by rfl) (pgs_cons (pg_name (i := 4) sc_costs_between.nd rfl (Or.inl rfl)) (pgs_cons (pg_name (i := 5) sc_costs_between.nd rfl (Or.inl rfl)) (pgs_cons (pg_name (i := 6) sc_costs_between.nd rfl (Or.inl rfl)) pgs_nil)))) (pss_cons (ps_augS (pe_ix ix_list (pv 2) (pv 4) (fun _ _ => rfl)) (pv 5) G.pg_list (pv 6) ip_add set_list) (pss_one (ps_augS (pe_ix ix_list (pv 2) (pv 5) (fun _ _ => rfl)) (pv 4) G.pg_list (pv 6) ip_add set_list)))) (pss_one (ps_ret (pv 2))))), ?_⟩
    refine ⟨_, rfl, (n : Int), rfl, by omega, by omega, fun D hD => lc_range (lo := 0) (n := n) (fun i H' => Ex H H' ∧ ∃ rs : Nat → Addr, H' D = some (.lst (lstOf i fun k => .ref (rs k))) ∧ (∀ k, k < i → H' (rs k) = some (.lst (lstOf n fun _ => .int 0)) ∧ H (rs k) = none ∧ rs k ≠ D) ∧ ∀ a b, a < i → b < i → rs a = rs b → a = b) ?_ ?_ ?_⟩
    · exact ⟨Ex.new hD, fun _ => 0, upd_same, fun k hk => absurd hk (by omega), fun a b ha => absurd ha (by omega)⟩
    · rintro i H' hi ⟨e, rs, hDl, hrow, hinj⟩
      refine ⟨rfl, yes_go ⟨by show 1 ≤ sizeLine; decide, fun q hq => ⟨_, rfl, q, n, _, rfl, rfl, upd_same, by omega, by omega, ?_, fun p hp => ?_⟩⟩⟩
      · show 1 * n ≤ sizeLine
        exact sz_of (by omega)
      · have nqD : q ≠ D := (ne_of_none hDl hq).symm
        have npq : p ≠ q := fun z => by rw [z, upd_same] at hp; cases hp
        have hp' : H' p = none := by rw [upd_ne npq] at hp; exact hp
        have npD : p ≠ D := (ne_of_none hDl hp').symm
        refine ⟨lstOf i fun k => .ref (rs k), ?_, ?_, ?_, fun k => if k = i then p else rs k, ?_, fun k hk => ?_, fun a b ha hb hab => ?_⟩
        · rw [upd_ne npD.symm, upd_ne nqD.symm]
          exact hDl
        · rw [lstOf_len]
          exact sz_lt (by omega)
        · exact Ex.mut (((e.trans (Ex.new hq))).trans (Ex.new hp)) hD
        · have e2 : lstOf (i + 1) (fun k => V.ref (if k = i then p else rs k)) = lstOf i (fun k => .ref (rs k)) ++ [.ref p] := by
            rw [lstOf_succ, if_pos rfl]
            congr 1
            exact lstOf_congr fun k hk => by rw [if_neg (by omega)]
          exact upd_same.trans (congrArg (fun z => some (HO.lst z)) e2.symm)
        · show upd _ D _ (if k = i then p else rs k) = _ ∧ H (if k = i then p else rs k) = none ∧ (if k = i then p else rs k) ≠ D
          by_cases hki : k = i
          · rw [if_pos hki, upd_ne npD, upd_same]
            refine ⟨?_, fresh_back e hp', npD⟩
            have e1 : ((n : Int)).toNat = n := rfl
            rw [e1, List.flatten_replicate_singleton, lstOf_rep]
          · rw [if_neg hki]
            obtain ⟨r1, r2, r3⟩ := hrow k (by omega)
            exact ⟨by rw [upd_ne r3, upd_ne (ne_of_none r1 hp'), upd_ne (ne_of_none r1 hq)]; exact r1, r2, r3⟩
        · have hab : (if a = i then p else rs a) = (if b = i then p else rs b) := hab
          by_cases ha' : a = i
          · by_cases hb' : b = i
            · omega
            · rw [if_pos ha', if_neg hb'] at hab
              exact absurd hab.symm (ne_of_none (hrow b (by omega)).1 hp')
          · by_cases hb' : b = i
            · rw [if_neg ha', if_pos hb'] at hab
              exact absurd hab (ne_of_none (hrow a (by omega)).1 hp')
            · rw [if_neg ha', if_neg hb'] at hab
              exact hinj a b (by omega) (by omega) hab
    · rintro H' ⟨e, rs, hDl, hrow, hinj⟩
      have m0 : MatN H H' D n (costM []) := ⟨hD, rs, ⟨hDl, fun i hi => (hrow i hi).1, hinj⟩, fun i hi => (hrow i hi).2.1⟩
      refine q_forL (xs := xs) ((ev_var rfl : Ev _ _ H (.ref l)).mono e) (ex_l e hl) (fun i σ' H' => Ex H H' ∧ MatN H H' D n (costM (ts.take i)) ∧ ∃ a b c, σ' = [some (.int n), some (.ref l), some (.ref D), none, a, b, c]) (fun H1 e1 => ⟨e.trans e1, m0.ex e1, _, _, _, rfl⟩) (fun i σ' H' _ p => ex_l p.1 hl) ?_ ?_
      · rintro i x σ' H' hx ⟨e, ⟨f1, rs, R, f2⟩, a, b, c, rfl⟩
        obtain ⟨t, q, ht, rfl, hq⟩ := tz.get hx
        have g := g t (List.mem_of_getElem? ht)
        refine ⟨q, _, rfl, ex_t e hq, rfl, _, _, rfl, _, _, rfl, _, _, rfl, rfl, ?_⟩
        refine mat_aug (pi := 2) (ii := 4) (ji := 5) (zi := 6) rfl rfl rfl rfl R g.one g.two fun H1 R1 k1 => ?_
        refine mat_aug (pi := 2) (ii := 5) (ji := 4) (zi := 6) rfl rfl rfl rfl R1 g.two g.one fun H2 R2 k2 => ?_
        have e1 := e.but (f2 _ g.one) k1
        have e2 := e1.but (f2 _ g.two) k2
        refine ⟨e2, ⟨f1, rs, ?_, f2⟩, _, _, _, rfl⟩
        have et : ts.take (i + 1) = ts.take i ++ [t] := take_snoc ht
        rw [et]
        refine R2.congr fun a b => ?_
        exact costM_put g.ne a b
      · rintro σ' H' ⟨e, m, a, b, c, rfl⟩
        refine p_ret (Ex.refl H') (ev_var rfl) fun H1 e1 => k D H1 (e.trans e1) ?_
        rw [tz.len, List.take_length] at m
        exact m.ex e1

/-- a net that was made anew: what of it H does not know -/
structure NetNew (K : PySem.W.Frag) (C : Addr) (H H2 : Hp) (x : Addr) (n : Nat) (vs : List V) (ts : List Tie) (l c : Addr) (rs : Nat → Addr) : Prop where
  ob : ∃ dx, H2 x = some (.ins C dx (netF (.int n) (.ref l) (.ref c)))
  ls : H2 l = some (.lst vs)
  mat : MatR H2 c n rs (costM ts)
  fl : H l = none
  fc : H c = none
  fr : ∀ i, i < n → H (rs i) = none
def sp_Net_init (K : PySem.W.Frag) (C : Addr) : Sp := fun vs H Q _ => ∃ (x dx : Addr) (n : Nat) (l : Addr) (xs : List V) (ts : List Tie), vs = [.ref x, .int n, .ref l] ∧ H x = some (.ins C dx []) ∧ 1 ≤ n ∧ n ≤ 24 ∧ SqL K H l xs ∧ TiesV K H xs ts ∧ ts.length ≤ 300 ∧ (∀ t ∈ ts, Good n t) ∧
  ∀ H2 l' c rs, (∀ b o, b ≠ x → H b = some o → H2 b = some o) → NetNew K C H H2 x n xs ts l' c rs → Q .non H2
theorem ok_Net_init (T : Wd K mg) : FnOk P w K mg base CX0 5 T.f_Net_init T.d_Net_init ["self", "many", "ties"] (sp_Net_init K T.C_Net) := by
  have G_check_net := ok_check_net (P := P) (w := w) (base := base) T
  have G_costs_between := ok_costs_between (P := P) (w := w) (base := base) T
  refine T.F_Net_init.ok sc_Net_init (fun vs H Q E h => ?_) (fun cdv A outer s H vs Q E hr h => ?_)
  · obtain ⟨x, dx, n, l, xs, ts, rfl, _⟩ := h
    rfl
  · obtain ⟨x, dx, n, l, xs, ts, rfl, hx, h1, h2, hl, tz, hn, g, k⟩ := h
    refine ⟨_, (pss_cons (ps_expr (pe_call G_check_net (hr.mono (by decide)) (by rfl) T.m_check_net T.F_check_net.kp T.b_check_net .nil pass0 (pa_cons (pv 1) (pa_cons (pv 2) pa_nil)))) (pss_cons (ps_fld (pv 0) (pv 1) rfl) (pss_cons (ps_fld (pv 0) (pe_callTy call_list_of (by rfl) T.n_list (by decide +kernel) (pa_cons (pv 2) pa_nil)) rfl) (pss_one (ps_fld (pv 0) (pe_call G_costs_between (hr.mono (by decide)) (by rfl) T.m_costs_between T.F_costs_between.kp T.b_costs_between .nil pass0 (pa_cons (pv 1) (pa_cons (pv 2) pa_nil))) rfl))))), ?_⟩
    refine p_drop (Ex.refl H) (ev_call (ea_cons (ev_var rfl) (ea_cons (ev_var rfl) ea_nil)) (sv_check_net h1 h2 ⟨xs, hl, tz⟩ hn g)) fun H1 e1 _ => ?_
    have hx1 := e1 _ _ hx
    have hlx : ∀ {H' : Hp}, (∀ b o, b ≠ x → H b = some o → H' b = some o) → SqL K H' l xs := fun {H'} kk => by
      rcases hl with (hl | ⟨o, hl⟩) | hl
      · exact .inl (.inl (kk _ _ (ne_of hl hx (by intro q; cases q)) hl))
      · exact .inl (.inr ⟨o, kk _ _ (ne_of hl hx (by intro q; cases q)) hl⟩)
      · exact .inr hl
    have tzx : ∀ {H' : Hp}, (∀ b o, b ≠ x → H b = some o → H' b = some o) → TiesV K H' xs ts := fun {H'} kk => ⟨tz.len, fun i v t h1 h2 => by
      obtain ⟨a, rfl, ht⟩ := tz.at_ i v t h1 h2
      refine ⟨a, rfl, ?_⟩
      rcases ht with (ht | ⟨o, ht⟩) | ht
      · exact .inl (.inl (kk _ _ (ne_of ht hx (by intro q; cases q)) ht))
      · exact .inl (.inr ⟨o, kk _ _ (ne_of ht hx (by intro q; cases q)) ht⟩)
      · exact .inr ht⟩
    refine ⟨_, rfl, _, rfl, x, T.C_Net, dx, [], rfl, hx1, T.cl_Net, T.na_Net_many, (by show 0 < 1000; decide), ?_⟩
    have k2 : ∀ b o, b ≠ x → H b = some o → upd H1 x (.ins T.C_Net dx (putF "many" (.int n) [])) b = some o := fun b o hb e => by rw [upd_ne hb]; exact e1 _ _ e
    refine ⟨_, rfl, l, xs, rfl, .inl (hlx k2), fun l' hl' => ⟨_, rfl, x, T.C_Net, dx, putF "many" (.int n) [], rfl, ?_, T.cl_Net, T.na_Net__ties, (by show 1 < 1000; decide), ?_⟩⟩
    · have : x ≠ l' := fun z => by rw [← z, upd_same] at hl'; cases hl'
      rw [upd_ne this, upd_same]
    · have nlx : l' ≠ x := fun z => by rw [z, upd_same] at hl'; cases hl'
      have fl' : H1 l' = none := by rw [upd_ne nlx] at hl'; exact hl'
      have k3 : ∀ b o, b ≠ x → H b = some o → upd (upd (upd H1 x (.ins T.C_Net dx (putF "many" (.int n) []))) l' (.lst xs)) x (.ins T.C_Net dx (putF "_ties" (.ref l') (putF "many" (.int n) []))) b = some o := fun b o hb e => by
        rw [upd_ne hb, upd_ne (ne_of_none (e1 _ _ e) fl')]
        exact k2 b o hb e
      refine ⟨_, rfl, _, rfl, n, l, ts, rfl, h2, ⟨xs, hlx k3, tzx k3⟩, g, fun c H2 e2 m => ⟨_, rfl, x, T.C_Net, dx, putF "_ties" (.ref l') (putF "many" (.int n) []), rfl, e2 _ _ upd_same, T.cl_Net, T.na_Net__costs, netF2_len, ?_⟩⟩
      obtain ⟨fc, rs, R, fr⟩ := m
      have fre : ∀ {q : Addr}, upd (upd (upd H1 x (.ins T.C_Net dx (putF "many" (.int n) []))) l' (.lst xs)) x (.ins T.C_Net dx (putF "_ties" (.ref l') (putF "many" (.int n) []))) q = none → H q = none ∧ q ≠ x := fun {q} hq => by
        have nq : q ≠ x := fun z => by rw [z, upd_same] at hq; cases hq
        rw [upd_ne nq] at hq
        have nql : q ≠ l' := fun z => by rw [z, upd_same] at hq; cases hq
        rw [upd_ne nql, upd_ne nq] at hq
        exact ⟨fresh_back e1 hq, nq⟩
      refine k _ l' c rs (fun b o hb e => ?_) ⟨⟨dx, upd_same⟩, ?_, ⟨?_, fun i hi => ?_, R.inj⟩, fresh_back e1 fl', (fre fc).1, fun i hi => (fre (fr i hi)).1⟩
      · rw [upd_ne hb]
        exact e2 _ _ (k3 b o hb e)
      · rw [upd_ne nlx]
        exact e2 _ _ (by rw [upd_ne nlx, upd_same])
      · rw [upd_ne (fre fc).2]
        exact R.top
      · rw [upd_ne (fre (fr i hi)).2]
        exact R.row i hi
/-- Net(many, ties) as an expression -/
theorem make_net {C : Addr} {σ : L2.St} {H : Hp} {ta : TA} {Q : VK} {E : XK} {n : Nat} {l : Addr} {xs : List V} {ts : List Tie} (ha : EvA ta σ H [.int n, .ref l]) (h1 : 1 ≤ n) (h2 : n ≤ 24) (hl : SqL K H l xs) (tz : TiesV K H xs ts) (hn : ts.length ≤ 300) (g : ∀ t ∈ ts, Good n t)
    (k : ∀ x l' c rs H2, H x = none → Ex H H2 → NetNew K C H H2 x n xs ts l' c rs → Q (.ref x) H2) : tMake C (sp_Net_init K C) [] E ta σ H Q := by
  refine ha H (Ex.refl H) _ fun H1 e1 => ?_
  intro x dx hx hdx nx
  have e2 : Ex H1 (upd (upd H1 dx (.own x)) x (.ins C dx [])) := (Ex.new hdx).trans (Ex.new (by rw [upd_ne nx.symm]; exact hx))
  refine ⟨x, dx, n, l, xs, ts, rfl, upd_same, h1, h2, ex_l (e1.trans e2) hl, tz.ex (e1.trans e2), hn, g, fun H2 l' c rs kk N => ⟨rfl, ?_⟩⟩
  have e3 : Ex H H2 := fun a o h => by
    have h' := e1 _ _ h
    refine kk a o (ne_of_none h' hx) ?_
    rw [upd_ne (ne_of_none h' hx), upd_ne (ne_of_none h' hdx)]
    exact h'
  exact k x l' c rs H2 (fresh_back e1 hx) e3 ⟨N.ob, N.ls, N.mat, fresh_back (e1.trans e2) N.fl, fresh_back (e1.trans e2) N.fc, fun i hi => fresh_back (e1.trans e2) (N.fr i hi)⟩
theorem NetNew.at_ {C : Addr} {H H2 : Hp} {x : Addr} {n : Nat} {vs : List V} {ts : List Tie} {l c : Addr} {rs : Nat → Addr} (N : NetNew K C H H2 x n vs ts l c rs) (tz : TiesV K H2 vs ts) (h1 : 1 ≤ n) (h2 : n ≤ 24) (hn : ts.length ≤ 300) (g : ∀ t ∈ ts, Good n t) : NetAt K C H2 x n ts := by
  obtain ⟨dx, ob⟩ := N.ob
  exact ⟨⟨dx, l, c, ob, ⟨vs, N.ls, tz⟩, ⟨rs, N.mat⟩⟩, h1, h2, hn, g⟩
theorem NetNew.past {C : Addr} {H H2 H3 : Hp} {x h : Addr} {n : Nat} {vs : List V} {ts : List Tie} {l c : Addr} {rs : Nat → Addr} {o : HO} (N : NetNew K C H H2 x n vs ts l c rs) (hh : H h = some o) (hx : H x = none) (k : ∀ b o, b ≠ h → H2 b = some o → H3 b = some o) : NetNew K C H H3 x n vs ts l c rs := by
  obtain ⟨dx, ob⟩ := N.ob
  exact ⟨⟨dx, k _ _ (ne_of_none hh hx).symm ob⟩, k _ _ (ne_of_none hh N.fl).symm N.ls, ⟨k _ _ (ne_of_none hh N.fc).symm N.mat.top, fun i hi => k _ _ (ne_of_none hh (N.fr i hi)).symm (N.mat.row i hi), N.mat.inj⟩, N.fl, N.fc, N.fr⟩
def sp_Net_ties (K : PySem.W.Frag) (C : Addr) : Sp := fun vs H Q _ => ∃ (x : Addr) (n : Nat) (ts : List Tie), vs = [.ref x] ∧ NetAt K C H x n ts ∧ ∀ xs, TiesV K H xs ts → RetL xs H Q
theorem tie_ties {C : Addr} {n : Nat} {ts : List Tie} {x : Addr} {H : Hp} {Q : VK} (N : NetAt K C H x n ts) (k : ∀ xs, TiesV K H xs ts → RetL xs H Q) {E : XK} : sp_Net_ties K C [.ref x] H Q E := ⟨x, n, ts, rfl, N, k⟩
theorem ok_Net_ties (T : Wd K mg) : FnOk P w K mg base CX0 1 T.f_Net_ties T.d_Net_ties ["self"] (sp_Net_ties K T.C_Net) := by
  refine T.F_Net_ties.ok sc_Net_ties (fun vs H Q E h => ?_) (fun cdv A outer s H vs Q E hr h => ?_)
  · obtain ⟨x, n, ts, rfl, _⟩ := h
    rfl
  · obtain ⟨x, n, ts, rfl, N, k⟩ := h
    obtain ⟨dx, l, c, hx, ⟨xs, hl, tz⟩, hm⟩ := N.ob
    refine ⟨_, (pss_one (ps_ret (pe_callTy call_list_of (by rfl) T.n_list (by decide +kernel) (pa_cons (pe_fld (pv 0) rfl) pa_nil)))), ?_⟩
    refine p_retL (Ex.refl H) (el_list (ev_fld (ev_var rfl) hx T.cl_Net T.na_Net__ties netF_ties) (sq_of hl)) (k xs tz)
def sp_Net_between (K : PySem.W.Frag) (C : Addr) : Sp := fun vs H Q _ => ∃ (x : Addr) (n : Nat) (ts : List Tie) (i j : Nat), vs = [.ref x, .int i, .int j] ∧ NetAt K C H x n ts ∧ i < n ∧ j < n ∧ i ≠ j ∧ RetV (.int (costM ts i j)) H Q
theorem sv_between {C : Addr} {n : Nat} {ts : List Tie} {x : Addr} {H : Hp} {i j : Nat} (N : NetAt K C H x n ts) (hi : i < n) (hj : j < n) (hn : i ≠ j) : SpV (sp_Net_between K C) [.ref x, .int i, .int j] H (.int (costM ts i j)) := fun H1 e Q q E => ⟨x, n, ts, i, j, rfl, N.ex e, hi, hj, hn, q⟩
theorem ok_Net_between (T : Wd K mg) : FnOk P w K mg base CX0 5 T.f_Net_between T.d_Net_between ["self", "one", "other"] (sp_Net_between K T.C_Net) := by
  have G_check_two := ok_check_two (P := P) (w := w) (base := base) T
  refine T.F_Net_between.ok sc_Net_between (fun vs H Q E h => ?_) (fun cdv A outer s H vs Q E hr h => ?_)
  · obtain ⟨x, n, ts, i, j, rfl, _⟩ := h
    rfl
  · obtain ⟨x, n, ts, i, j, rfl, N, hi, hj, hn, k⟩ := h
    obtain ⟨dx, l, c, hx, ⟨xs, hl, tz⟩, rs, hm⟩ := N.ob
    obtain ⟨g1, g2, g3, g4⟩ := hm.get (K := K) hi hj
    refine ⟨_, (pss_cons (ps_expr (pe_call G_check_two (hr.mono (by decide)) (by rfl) T.m_check_two T.F_check_two.kp T.b_check_two .nil pass0 (pa_cons (pe_fld (pv 0) rfl) (pa_cons (pv 1) (pa_cons (pv 2) pa_nil))))) (pss_one (ps_ret (pe_ix ix_list (pe_ix ix_list (pe_fld (pv 0) rfl) (pv 1) (fun _ _ => rfl)) (pv 2) (fun _ _ => rfl))))), ?_⟩
    refine p_drop (Ex.refl H) (ev_call (ea_cons (ev_fld (ev_var rfl) hx T.cl_Net T.na_Net_many netF_many) (ea_cons (ev_var rfl) (ea_cons (ev_var rfl) ea_nil))) (sv_check_two hi hj hn)) fun H1 e1 _ => ?_
    exact p_ret e1 (ev_op (ev_op (ev_fld (ev_var rfl) hx T.cl_Net T.na_Net__costs netF_costs) (ev_var rfl) (rv_ixL g1 g2)) (ev_var rfl) (rv_ixL g3 g4)) k
/-- the places to which a tie leads -/
def besideOf (n : Nat) (ts : List Tie) (i : Nat) : List Nat := (List.range n).filter fun j => decide (costM ts i j > 0)
def sp_Net_beside (K : PySem.W.Frag) (C : Addr) : Sp := fun vs H Q _ => ∃ (x : Addr) (n : Nat) (ts : List Tie) (i : Nat), vs = [.ref x, .int i] ∧ NetAt K C H x n ts ∧ i < n ∧ RetL (IL (besideOf n ts i)) H Q
theorem sl_beside {C : Addr} {n : Nat} {ts : List Tie} {x : Addr} {H : Hp} {i : Nat} (N : NetAt K C H x n ts) (hi : i < n) : SpL (sp_Net_beside K C) [.ref x, .int i] H (IL (besideOf n ts i)) := fun H1 e Q q E => ⟨x, n, ts, i, rfl, N.ex e, hi, fun p H2 hp e2 h2 => q p H2 hp e2 h2⟩
def sp_Net_price (K : PySem.W.Frag) (C : Addr) : Sp := fun vs H Q _ => ∃ (x : Addr) (n : Nat) (ts : List Tie) (a : Addr) (ns : List Nat), vs = [.ref x, .ref a] ∧ NetAt K C H x n ts ∧ SqL K H a (IL ns) ∧ (∀ p ∈ ns, p < n) ∧ ns.Nodup ∧ ns.length ≤ 4000 ∧ RetV (.int (cutP ts ns)) H Q
theorem sv_price {C : Addr} {n : Nat} {ts : List Tie} {x a : Addr} {H : Hp} {ns : List Nat} (N : NetAt K C H x n ts) (hl : SqL K H a (IL ns)) (hp : ∀ p ∈ ns, p < n) (nd : ns.Nodup) (hz : ns.length ≤ 4000) : SpV (sp_Net_price K C) [.ref x, .ref a] H (.int (cutP ts ns)) := fun H1 e Q q E => ⟨x, n, ts, a, ns, rfl, N.ex e, ex_l e hl, hp, nd, hz, q⟩
theorem ok_Net_price (T : Wd K mg) : FnOk P w K mg base CX0 4 T.f_Net_price T.d_Net_price ["self", "side"] (sp_Net_price K T.C_Net) := by
  have G_check_side := ok_check_side (P := P) (w := w) (base := base) T
  refine T.F_Net_price.ok sc_Net_price (fun vs H Q E h => ?_) (fun cdv A outer s H vs Q E hr h => ?_)
  · obtain ⟨x, n, ts, a, ns, rfl, _⟩ := h
    rfl
  · obtain ⟨x, n, ts, a, ns, rfl, N, hs, hp, nd, hz, k⟩ := h
    obtain ⟨dx, l, c, hx, ⟨xs, hl, tz⟩, rs, hm⟩ := N.ob
    refine ⟨_, (pss_cons (ps_expr (pe_call G_check_side (hr.mono (by decide)) (by rfl) T.m_check_side T.F_check_side.kp T.b_check_side .nil pass0 (pa_cons (pe_fld (pv 0) rfl) (pa_cons (pv 1) pa_nil)))) (pss_cons (ps_set (i := 2) sc_Net_price.nd rfl (Or.inl rfl) pe_int) (pss_cons (ps_for PassesOwn.never rfl (pi_list (pe_fld (pv 0) rfl)) (pg_tup (by rfl) (pgs_cons (pg_name (i := 3) sc_Net_price.nd rfl (Or.inl rfl)) (pgs_cons (pg_name (i := 4) sc_Net_price.nd rfl (Or.inl rfl)) (pgs_cons (pg_name (i := 5) sc_Net_price.nd rfl (Or.inl rfl)) pgs_nil)))) (pss_one (ps_if (pt_cmpR op_ne (pe_cmpR op_in_seq (pv 3) (pv 1) (by rfl)) (pe_cmpR op_in_seq (pv 4) (pv 1) (by rfl)) (nomark _)) (pss_one (ps_aug (i := 2) sc_Net_price.nd rfl (Or.inl rfl) (pv 5) ip_add)) pss_nil))) (pss_one (ps_ret (pv 2)))))), ?_⟩
    refine p_drop (Ex.refl H) (ev_call (ea_cons (ev_fld (ev_var rfl) hx T.cl_Net T.na_Net_many netF_many) (ea_cons (ev_var rfl) ea_nil)) (sv_check_side hs hp nd hz)) fun H1 e1 _ => ?_
    refine p_asg e1 ev_c fun H2 e2 _ => ?_
    refine q_forL (xs := xs) ((ev_fld (ev_var rfl) hx T.cl_Net T.na_Net__ties netF_ties : Ev _ _ H (.ref l)).mono e2) (ex_l e2 (sq_of hl)) (fun i σ' H' => Ex H H' ∧ ∃ u v z, σ' = [some (.ref x), some (.ref a), some (.int (cutP (ts.take i) ns)), u, v, z]) (fun H1 e1 => ⟨e2.trans e1, _, _, _, rfl⟩) (fun i σ' H' _ p => ex_l p.1 (sq_of hl)) ?_ ?_
    · rintro i y σ' H' hy ⟨e, u, v, z, rfl⟩
      obtain ⟨t, q, ht, rfl, hq⟩ := tz.get hy
      refine ⟨q, _, rfl, ex_t e hq, rfl, _, _, rfl, _, _, rfl, _, _, rfl, rfl, ?_⟩
      have et : cutP (ts.take (i + 1)) ns = cutP (ts.take i) ns + if (decide (t.1 ∈ ns) != decide (t.2.1 ∈ ns)) = true then t.2.2 else 0 := by
        unfold cutP
        rw [take_snoc ht, sum_map_append]
        simp
      refine p_whenE (b := decide (t.1 ∈ ns) != decide (t.2.1 ∈ ns)) e (et_is (et_test (ev_op (ev_inIL (ev_var rfl) (ev_var rfl) hs) (ev_inIL (ev_var rfl) (ev_var rfl) hs) (rv_ne rfl))) bl_ne) (fun hb H3 e3 _ => ?_) (fun hb H3 e3 _ => ?_)
      · refine s_aug rfl (ev_var rfl) fun H4 e4 => ?_
        refine ⟨e3.trans e4, some (.int t.1), some (.int t.2.1), some (.int t.2.2), ?_⟩
        rw [et, if_pos hb]
        rfl
      · refine ⟨e3, some (.int t.1), some (.int t.2.1), some (.int t.2.2), ?_⟩
        rw [et, if_neg (by rw [hb]; decide), Int.add_zero]
        rfl
    · rintro σ' H' ⟨e, u, v, z, rfl⟩
      refine p_ret e (ev_var rfl) fun H1 e1 => ?_
      rw [tz.len, List.take_length]
      exact k H1 e1
theorem er_ties {C : Addr} {σ : L2.St} {H : Hp} {ta : TE} {x : Addr} {n : Nat} {ts : List Tie} {E : XK} (ha : Ev ta σ H (.ref x)) (N : NetAt K C H x n ts) : EvR (tMeth C "ties" (sp_Net_ties K C) [] E ta tNil) σ H (fun H1 v H2 => ∃ p xs, v = .ref p ∧ H1 p = none ∧ H2 p = some (.lst xs) ∧ TiesV K H2 xs ts) := fun H1 e Q q =>
  ha H1 e _ fun H2 e2 => by
    have N2 := N.ex (e.trans e2)
    obtain ⟨dx, l, c, hx, _⟩ := N2.ob
    exact ⟨x, dx, _, rfl, hx, netF_no (by decide +kernel) (by decide +kernel) (by decide +kernel), x, n, ts, rfl, N2, fun xs tz p H3 hp e3 h3 => q _ H3 (e2.trans e3) ⟨p, xs, rfl, fresh_back e2 hp, h3, tz.ex e3⟩⟩
theorem ev_between {C : Addr} {σ : L2.St} {H : Hp} {ta tb tc : TE} {x : Addr} {n : Nat} {ts : List Tie} {i j : Nat} {E : XK} (ha : Ev ta σ H (.ref x)) (hb : Ev tb σ H (.int (i : Int))) (hc : Ev tc σ H (.int (j : Int))) (N : NetAt K C H x n ts) (hi : i < n) (hj : j < n) (hn : i ≠ j) : Ev (tMeth C "between" (sp_Net_between K C) [] E ta (tCons tb (tCons tc tNil))) σ H (.int (costM ts i j)) := by
  obtain ⟨dx, l, c, hx, _⟩ := N.ob
  exact ev_meth ha hx (netF_no (by decide +kernel) (by decide +kernel) (by decide +kernel)) (ea_cons hb (ea_cons hc ea_nil)) (sv_between N hi hj hn)
theorem el_beside {C : Addr} {σ : L2.St} {H : Hp} {ta tb : TE} {x : Addr} {n : Nat} {ts : List Tie} {i : Nat} {E : XK} (ha : Ev ta σ H (.ref x)) (hb : Ev tb σ H (.int (i : Int))) (N : NetAt K C H x n ts) (hi : i < n) : EvL (tMeth C "beside" (sp_Net_beside K C) [] E ta (tCons tb tNil)) σ H (IL (besideOf n ts i)) := by
  obtain ⟨dx, l, c, hx, _⟩ := N.ob
  exact el_meth ha hx (netF_no (by decide +kernel) (by decide +kernel) (by decide +kernel)) (ea_cons hb ea_nil) (sl_beside N hi)
theorem ev_price {C : Addr} {σ : L2.St} {H : Hp} {ta tb : TE} {x a : Addr} {n : Nat} {ts : List Tie} {ns : List Nat} {E : XK} (ha : Ev ta σ H (.ref x)) (hb : Ev tb σ H (.ref a)) (N : NetAt K C H x n ts) (hl : SqL K H a (IL ns)) (hp : ∀ p ∈ ns, p < n) (nd : ns.Nodup) (hz : ns.length ≤ 4000) : Ev (tMeth C "price" (sp_Net_price K C) [] E ta (tCons tb tNil)) σ H (.int (cutP ts ns)) := by
  obtain ⟨dx, l, c, hx, _⟩ := N.ob
  exact ev_meth ha hx (netF_no (by decide +kernel) (by decide +kernel) (by decide +kernel)) (ea_cons hb ea_nil) (sv_price N hl hp nd hz)
theorem ev_priceN {C : Addr} {σ : L2.St} {H : Hp} {ta tb : TE} {x : Addr} {n : Nat} {ts : List Tie} {ns : List Nat} {E : XK} (ha : Ev ta σ H (.ref x)) (hb : EvL tb σ H (IL ns)) (N : NetAt K C H x n ts) (hp : ∀ p ∈ ns, p < n) (nd : ns.Nodup) (hz : ns.length ≤ 4000) : Ev (tMeth C "price" (sp_Net_price K C) [] E ta (tCons tb tNil)) σ H (.int (cutP ts ns)) := fun H1 e Q q =>
  ha H1 e _ fun H2 e2 => by
    obtain ⟨dx, l, c, hx, _⟩ := (N.ex (e.trans e2)).ob
    refine ⟨x, dx, _, rfl, hx, netF_no (by decide +kernel) (by decide +kernel) (by decide +kernel), ?_⟩
    exact hb H2 (e.trans e2) _ fun p H3 hp3 e3 h3 => ⟨x, n, ts, p, ns, rfl, N.ex ((e.trans e2).trans e3), sq_of h3, hp, nd, hz, fun H4 e4 => q H4 ((e2.trans e3).trans e4)⟩
theorem er_net {C : Addr} {σ : L2.St} {H : Hp} {ta : TA} {E : XK} {n : Nat} {l : Addr} {xs : List V} {ts : List Tie} (ha : EvA ta σ H [.int n, .ref l]) (h1 : 1 ≤ n) (h2 : n ≤ 24) (hl : SqL K H l xs) (tz : TiesV K H xs ts) (hn : ts.length ≤ 300) (g : ∀ t ∈ ts, Good n t) :
    EvR (tMake C (sp_Net_init K C) [] E ta) σ H (fun H1 v H2 => ∃ x l' c rs, v = .ref x ∧ H1 x = none ∧ NetNew K C H1 H2 x n xs ts l' c rs) := fun H1 e Q q =>
  make_net (fun H2 e2 Q q => ha H2 (e.trans e2) Q q) h1 h2 (ex_l e hl) (tz.ex e) hn g fun x l' c rs H2 hx e2 N => q _ H2 e2 ⟨x, l', c, rs, rfl, hx, N⟩
/-- Net(many, list(ties)), and its like: the list is made for the call -/
theorem er_netN {C : Addr} {σ : L2.St} {H : Hp} {ta tb : TE} {E : XK} {n : Nat} {xs : List V} {ts : List Tie} (ha : Ev ta σ H (.int (n : Int))) (hb : EvL tb σ H xs) (h1 : 1 ≤ n) (h2 : n ≤ 24) (tz : TiesV K H xs ts) (hn : ts.length ≤ 300) (g : ∀ t ∈ ts, Good n t) :
    EvR (tMake C (sp_Net_init K C) [] E (tCons ta (tCons tb tNil))) σ H (fun _ v H2 => ∃ x, v = .ref x ∧ NetAt K C H2 x n ts) := fun H1 e Q q =>
  ha H1 e _ fun H2 e2 => hb H2 (e.trans e2) _ fun l H3 hl e3 h3 => by
    have tz3 := tz.ex ((e.trans e2).trans e3)
    refine make_net (C := C) (ta := fun _ H Q => Q [.int (n : Int), .ref l] H) (σ := σ) (E := E) (fun H4 e4 Q q => q H4 (Ex.refl H4)) h1 h2 (sq_of h3) tz3 hn g fun x l' c rs H4 hx e4 N => q _ H4 ((e2.trans e3).trans e4) ⟨x, rfl, N.at_ (tz3.ex e4) h1 h2 hn g⟩
end
end Toy

namespace G
open PySem PySem.Spec PyProof.Rows L2 Evl RZ TL
/-! ### what is a number's word -/
theorem snoc_of' {α : Type} {x : List α} (h : x ≠ []) : ∃ y z, x = y ++ [z] := ⟨x.dropLast, x.getLast h, (List.dropLast_concat_getLast h).symm⟩
theorem numL_make : ∀ (k : Nat) (ds : List Nat), ds.length = k → 1 ≤ k → (∀ c ∈ ds, 48 ≤ c ∧ c ≤ 57) → (∀ c r, ds = c :: r → c = 48 → r = []) → ∃ m, m < 10 ^ k ∧ numL m = ds ∧ (1 < k → 0 < m)
  | 0, _, _, h, _, _ => absurd h (by decide)
  | 1, ds, hl, _, hd, _ => by
    match ds, hl with
    | [c], _ =>
      have := hd c (List.mem_singleton.mpr rfl)
      refine ⟨c - 48, by omega, ?_, fun h => absurd h (by decide)⟩
      rw [numL_lt (by omega), show 48 + (c - 48) = c by omega]
  | k + 2, ds, hl, _, hd, h0 => by
    obtain ⟨y, z, rfl⟩ := snoc_of' (x := ds) (by intro e; rw [e] at hl; cases hl)
    have yl : y.length = k + 1 := by
      rw [List.length_append] at hl
      have : y.length + 1 = k + 2 := hl
      omega
    have hz := hd z (List.mem_append_right _ (List.mem_singleton.mpr rfl))
    have y0 : ∀ c r, y = c :: r → c ≠ 48 := fun c r e hc => by
      have := h0 c (r ++ [z]) (by rw [e]; rfl) hc
      simp at this
    obtain ⟨m, m1, m2, m3⟩ := numL_make (k + 1) y yl (by omega) (fun c hc => hd c (List.mem_append_left _ hc)) (fun c r e hc => absurd hc (y0 c r e))
    have mp : 0 < m := by
      rcases Nat.eq_zero_or_pos m with e | e
      · subst e
        rw [numL_lt (by decide)] at m2
        exact absurd rfl (y0 48 [] m2.symm)
      · exact e
    refine ⟨10 * m + (z - 48), ?_, ?_, fun _ => by omega⟩
    · rw [Nat.pow_succ]
      omega
    · rw [numL_step (by omega), show (10 * m + (z - 48)) / 10 = m by omega, show (10 * m + (z - 48)) % 10 = z - 48 by omega, m2, show 48 + (z - 48) = z by omega]
/-- the word writes the number m -/
def Num (w : Str) (m : Nat) : Prop := m < 10000000000 ∧ w = nS (m : Int)
theorem num_make {w : Str} (h1 : 1 ≤ w.length) (h2 : w.length ≤ 10) (hd : ∀ c ∈ tl w, 48 ≤ c ∧ c ≤ 57) (h0 : ∀ c r, tl w = c :: r → c = 48 → r = []) : ∃ m, Num w m := by
  obtain ⟨m, a, b, _⟩ := numL_make _ (tl w) rfl (by rw [len_tl] at h1; exact h1) hd h0
  rw [len_tl] at h2
  refine ⟨m, Nat.lt_of_lt_of_le a (Nat.pow_le_pow_right (by decide) h2), ext_tl ?_⟩
  rw [nS_tl, b]
theorem Num.len {w : Str} {m : Nat} (h : Num w m) : 1 ≤ w.length ∧ w.length ≤ 10 := by
  obtain ⟨h1, rfl⟩ := h
  refine ⟨?_, nS_len h1⟩
  rw [len_tl, nS_tl]
  have := numL_ne m
  cases e : numL m with
  | nil => exact absurd e this
  | cons a b => simp
theorem Num.digits {w : Str} {m : Nat} (h : Num w m) : ∀ c ∈ tl w, 48 ≤ c ∧ c ≤ 57 := by
  obtain ⟨_, rfl⟩ := h
  rw [nS_tl]
  exact fun c hc => numL_digits m c hc
theorem Num.head {w : Str} {m : Nat} (h : Num w m) : ∀ c r, tl w = c :: r → c = 48 → r = [] := by
  obtain ⟨_, rfl⟩ := h
  rw [nS_tl]
  intro c r e hc
  by_cases h0 : m = 0
  · subst h0
    rw [numL_lt (by decide)] at e
    injection e with _ e2
    exact e2.symm
  · obtain ⟨c', r', e', hne⟩ := numL_head m (by omega)
    rw [e'] at e
    injection e with e1 _
    exact absurd (e1.trans hc) hne
theorem Num.inj {w : Str} {m k : Nat} (h : Num w m) (g : Num w k) : m = k := by
  have := h.2.symm.trans g.2
  have e := congrArg tl this
  rw [nS_tl, nS_tl] at e
  exact numL_inj e
end G
namespace G
open PySem PySem.Spec PyProof.Rows L2 Evl RZ TL
theorem ev_fmtS {σ : L2.St} {H : Hp} {te : TE} {y : Str} (h : Ev te σ H (.str y)) (hz : y.length ≤ 100000) : Ev (tFmt te) σ H (.str y) := fun H1 e Q q => h H1 e _ fun H2 e2 => .inl ⟨y, rfl, sz_of hz, q H2 e2⟩
end G
namespace Toy
open PySem L2 TL Evl RZ G
section
variable {P : Program} {w : World} {K : PySem.W.Frag} {mg : Str → Option Value} {base : Heap}
def spb_number_in (C : Addr) : Sp := fun vs H Q E => ∃ w : Str, vs = [.str w] ∧ w.length ≤ 90000 ∧ (∀ m, Num w m → RetV (.int (m : Int)) H Q) ∧ ((∀ m, ¬ Num w m) → ∀ H', Ex H H' → E (.ref C) none H')
theorem okb_number_in (T : Wd K mg) : FnOk P w K mg base (L2.CX P w) 1 T.f_number_in T.d_number_in ["word"] (spb_number_in T.C_NoText) := by
  refine T.F_number_in.okX sc_number_in (fun vs H Q E h => ?_) (fun cdv A outer s H vs Q E hr h => ?_)
  · obtain ⟨w, rfl, _⟩ := h
    rfl
  · obtain ⟨w, rfl, hz, k1, k2⟩ := h
    refine ⟨_, (pss_cons (ps_if (PW.pt (pw_or (pt_cmpR op_lt (pe_callB call_len_str (by rfl) T.n_len (by decide +kernel) (pa_cons (pv 0) pa_nil)) pe_int (nomark _)) (pw_or1 (pt_cmpR op_gt (pe_callB call_len_str (by rfl) T.n_len (by decide +kernel) (pa_cons (pv 0) pa_nil)) (pe_glob (v := .int 10) (by rfl) T.c_MOST_FIGURES ⟨_, rfl⟩) (nomark _))))) (pss_one (ps_raise rfl (takes_of rfl rfl rfl rfl) (SkE.pmk_own1 PySem.F.excBase_ValueError T.X_NoText.x T.m_NoText T.X_NoText.kp (raises_own T.X_NoText.b T.X_NoText.t) rfl pe_str))) pss_nil) (pss_cons (ps_for (passes_of rfl) rfl (pi_str (pv 0)) (pg_name (i := 1) sc_number_in.nd rfl (Or.inl rfl)) (pss_one (ps_if (pt_cmpR op_notIn_sign (pv 1) (pe_glob (v := .str "0123456789") (by rfl) T.c_FIGURES ⟨_, rfl⟩) (by rfl)) (pss_one (ps_raise rfl (takes_of rfl rfl rfl rfl) (SkE.pmk_own1 PySem.F.excBase_ValueError T.X_NoText.x T.m_NoText T.X_NoText.kp (raises_own T.X_NoText.b T.X_NoText.t) rfl pe_str))) pss_nil))) (pss_cons (ps_if (PW.pt (pw_and (pt_cmpR op_eq (pe_ix ix_str (pv 0) pe_int (fun _ _ => rfl)) pe_str (nomark _)) (pw_and1 (pt_cmpR op_gt (pe_callB call_len_str (by rfl) T.n_len (by decide +kernel) (pa_cons (pv 0) pa_nil)) pe_int (nomark _))))) (pss_one (ps_raise rfl (takes_of rfl rfl rfl rfl) (SkE.pmk_own1 PySem.F.excBase_ValueError T.X_NoText.x T.m_NoText T.X_NoText.kp (raises_own T.X_NoText.b T.X_NoText.t) rfl pe_str))) pss_nil) (pss_one (ps_ret (pe_callTy call_int_str (by rfl) T.n_int (by decide +kernel) (pa_cons (pv 0) pa_nil))))))), ?_⟩
    refine p_when (b := decide ((w.length : Int) < 1) || decide ((10 : Int) < (w.length : Int))) (Ex.refl H) (et_or (et_test (ev_op (ev_lenStr (ev_var rfl) (by omega)) ev_c rv_I0)) (fun _ => et_test (ev_op (ev_lenStr (ev_var rfl) (by omega)) ev_c rv_I0))) (fun hb H1 e1 _ => ?_) (fun hb H1 e1 _ => ?_)
    · refine k2 (fun m hm => ?_) H1 e1
      have := hm.len
      rcases Bool.or_eq_true_iff.mp hb with z | z
      · have := of_decide_eq_true z
        omega
      · have := of_decide_eq_true z
        omega
    have hlen : 1 ≤ w.length ∧ w.length ≤ 10 := by
      rw [Bool.or_eq_false_iff] at hb
      have z1 := of_decide_eq_false hb.1
      have z2 := of_decide_eq_false hb.2
      omega
    refine q_forStr (ev_var rfl) (fun i σ' H' => Ex H H' ∧ (∀ (j c : Nat), j < i → (tl w)[j]? = some c → 48 ≤ c ∧ c ≤ 57) ∧ ∃ u, σ' = [some (.str w), u]) (fun H2 e2 => ⟨e1.trans e2, fun j c hj => absurd hj (Nat.not_lt_zero _), _, rfl⟩) ?_ ?_
    · rintro i c σ' H' hc ⟨e, hd, u, rfl⟩
      have hc' : (tl w)[i]? = some c := by rw [← hc, show tl w = w.cps.toList from rfl, Array.getElem?_toList]
      refine p_whenE (b := !decide (c ∈ (("0123456789" : Str).cps.toList))) e (et_test (ev_op (ev_var rfl) ev_c rv_notSign)) (fun hb H2 e2 _ => ?_) (fun hb H2 e2 _ => ?_)
      · refine k2 (fun m hm => ?_) H2 e2
        have := hm.digits c (List.mem_of_getElem? hc')
        rw [decide_eq_true ((sgn_mem c).mpr this)] at hb
        cases hb
      · have hcd : 48 ≤ c ∧ c ≤ 57 := (sgn_mem c).mp (by simpa using hb)
        refine ⟨e2, fun j c' hj hj' => ?_, _, rfl⟩
        rcases Nat.lt_or_ge j i with z | z
        · exact hd j c' z hj'
        · have : j = i := by omega
          subst this
          rw [hc'] at hj'
          cases hj'
          exact hcd
    rintro σ' H' ⟨e, hd, u, rfl⟩
    have hdig : ∀ c ∈ tl w, 48 ≤ c ∧ c ≤ 57 := fun c hc => by
      obtain ⟨j, hj⟩ := List.mem_iff_getElem?.mp hc
      refine hd j c ?_ hj
      have := (List.getElem?_eq_some_iff.mp hj).1
      exact this
    obtain ⟨c, r, ec⟩ : ∃ c r, tl w = c :: r := by
      cases e0 : tl w with
      | nil =>
        have := hlen.1
        rw [len_tl, e0] at this
        exact absurd this (by decide)
      | cons a b => exact ⟨a, b, rfl⟩
    have hc0 : atI w.cps.toList 0 = some c := by
      rw [show w.cps.toList = c :: r from ec]
      exact atI_nat (j := 0) rfl
    have hl : w.length = r.length + 1 := by rw [len_tl, ec]; rfl
    refine p_when (b := decide (c = 48) && decide ((1 : Int) < (w.length : Int))) e (et_is (et_and (et_test (ev_op (ev_op (ev_var rfl) ev_c (rv_ixStr (by omega) hc0)) ev_c (rv_eq rfl))) (fun _ => et_test (ev_op (ev_lenStr (x := w) (ev_var rfl) (by omega)) ev_c rv_I0))) ?_) (fun hb H2 e2 _ => ?_) (fun hb H2 e2 _ => ?_)
    · congr 1
      refine decide_eq_decide.mpr ⟨fun q => ?_, fun q => by rw [q]; decide +kernel⟩
      have e := congrArg (fun z : Str => z.cps) (V.str.inj q)
      have e2 : ("0" : Str).cps = #[48] := by decide +kernel
      rw [e2] at e
      simpa using e
    · obtain ⟨z1, z2⟩ := Bool.and_eq_true_iff.mp hb
      have z1 := of_decide_eq_true z1
      have z2 := of_decide_eq_true z2
      refine k2 (fun m hm => ?_) H2 e2
      have := hm.head c r ec z1
      rw [this] at hl
      simp at hl
      omega
    · obtain ⟨m, hm⟩ := num_make hlen.1 hlen.2 hdig fun c' r' e' hc => by
        rw [ec] at e'
        injection e' with e1 e3
        subst e1
        subst e3
        subst hc
        rw [decide_eq_true rfl, Bool.true_and] at hb
        have := of_decide_eq_false hb
        cases r with
        | nil => rfl
        | cons a b =>
          rw [hl] at this
          simp at this
          omega
      obtain ⟨hm1, hm2⟩ := id hm
      subst hm2
      exact p_ret e2 (ev_intS (ev_var rfl) hm1) (k1 m hm)
/-- the row is of this name, and its words write these numbers -/
def RowIs (r name : Str) (ns : List Nat) : Prop := Txt.split r " " = name :: ns.map (fun (k : Nat) => nS (k : Int)) ∧ ∀ k ∈ ns, k < 10000000000
noncomputable def numOf (w : Str) : Nat := @dite _ (∃ m, Num w m) (Classical.propDecidable _) (fun h => Classical.choose h) fun _ => 0
theorem numOf_num {w : Str} {m : Nat} (h : Num w m) : numOf w = m := by
  unfold numOf
  rw [dif_pos ⟨m, h⟩]
  exact (Classical.choose_spec (⟨m, h⟩ : ∃ m, Num w m)).inj h
theorem compConstW {Pv : Nat → V → Prop} : CompR (fun i _ v _ => Pv i v) (fun _ i v _ => Pv i v) := ⟨fun _ _ _ _ _ _ _ _ _ r => r, fun _ _ _ _ _ _ _ _ _ _ r => r⟩
theorem split_some (r : Str) (y : Str) : ∃ w0 wr, Txt.split r y = w0 :: wr := by
  cases e : Txt.split r y with
  | nil =>
    have := PyProof.Rows.split_pos r y
    rw [e] at this
    exact absurd this (by decide)
  | cons a b => exact ⟨a, b, rfl⟩
theorem cut_tail {ws : List V} {w0 : V} : cutV (w0 :: ws) (some 1) none = ws := by
  unfold cutV
  rw [show (1 : Int) = ((1 : Nat) : Int) from rfl, HT.sIx_nat, HT.sIx_none]
  simp
theorem fill_map {α : Type} {f : α → V} {Ok : α → Prop} {wr : List α} {vs : List V} {H : Hp} (h : Fills (fun i v _ => ∃ w, wr[i]? = some w ∧ Ok w ∧ v = f w) (List.range wr.length) vs H) : vs = wr.map f ∧ ∀ w ∈ wr, Ok w := by
  have hl : vs.length = wr.length := by rw [h.1, List.length_range]
  have at_ : ∀ (i : Nat) (w : α), wr[i]? = some w → Ok w ∧ vs[i]? = some (f w) := fun i w hw => by
    have hi := (List.getElem?_eq_some_iff.mp hw).1
    have hv := List.getElem?_eq_getElem (l := vs) (i := i) (by omega)
    obtain ⟨w', h1, h2, h3⟩ := h.2 i i _ (List.getElem?_range hi) hv
    rw [hw] at h1
    cases h1
    exact ⟨h2, by rw [hv, h3]⟩
  refine ⟨List.ext_getElem? fun i => ?_, fun w hw => ?_⟩
  · rw [List.getElem?_map]
    cases e : wr[i]? with
    | none =>
      have : wr.length ≤ i := List.getElem?_eq_none_iff.mp e
      rw [List.getElem?_eq_none (by omega)]
      rfl
    | some w => rw [(at_ i w e).2]; rfl
  · obtain ⟨i, hi⟩ := List.mem_iff_getElem?.mp hw
    exact (at_ i w hi).1
def spb_numbers_in (C : Addr) : Sp := fun vs H Q E => ∃ (r name : Str) (k : Nat), vs = [.str r, .str name, .int k] ∧ r.length ≤ 30000 ∧ name.length ≤ 100 ∧ (∀ ns, ns.length = k → RowIs r name ns → RetL (IL ns) H Q) ∧ ((∀ ns, ns.length = k → ¬ RowIs r name ns) → ∀ H', Ex H H' → E (.ref C) none H')
theorem okb_numbers_in (T : Wd K mg) : FnOk P w K mg base (L2.CX P w) 2 T.f_numbers_in T.d_numbers_in ["row", "name", "many"] (spb_numbers_in T.C_NoText) := by
  have G_number_in := okb_number_in (P := P) (w := w) (base := base) T
  refine T.F_numbers_in.okX sc_numbers_in (fun vs H Q E h => ?_) (fun cdv A outer s H vs Q E hr h => ?_)
  · obtain ⟨r, name, k, rfl, _⟩ := h
    rfl
  · obtain ⟨r, name, k, rfl, hz, hnz, k1, k2⟩ := h
    refine ⟨_, (pss_cons (ps_set (i := 3) sc_numbers_in.nd rfl (Or.inl rfl) (pe_split (pv 0) pe_str)) (pss_cons (ps_if (PW.pt (pw_or (pt_cmpR op_ne (pe_ix ix_list (pv 3) pe_int (fun _ _ => rfl)) (pv 1) (nomark _)) (pw_or1 (pt_cmpR op_ne (pe_callB call_len_seq (by rfl) T.n_len (by decide +kernel) (pa_cons (pv 3) pa_nil)) (pe_op op_add (pv 2) pe_int) (nomark _))))) (pss_one (ps_raise rfl (takes_of rfl rfl rfl rfl) (SkE.pmk_own1 PySem.F.excBase_ValueError T.X_NoText.x T.m_NoText T.X_NoText.kp (raises_own T.X_NoText.b T.X_NoText.t) rfl (pe_joined (PJ.cons pe_str (PJ.cons (pe_fmt (pv 1)) PJ.nil)))))) pss_nil) (pss_one (ps_ret (G.pe_lcX (own := [("word", 4)]) (g := (gName 4)) (tt := tYes) rfl rfl rfl (takes_of rfl rfl rfl rfl) sc_numbers_in.nd (pi_list (pe_slice sl_list (pv 3) (po_some pe_int) po_none)) (blkOk_by (own := [("word", 4)]) (N := ["row", "name", "many", "words", "word"]) (sc := defScope s_numbers_in) (by decide +kernel)) (fun _ _ _ _ _ => (pg_name (i := 4) sc_numbers_in.nd rfl (Or.inl rfl))) (fun _ _ _ _ _ => pts_nil) (fun _ _ _ _ _ => (pe_call G_number_in (hr.mono (by decide)) (by rfl) T.m_number_in T.F_number_in.kp T.b_number_in .nil (G.blk_passes (fun _ _ _ h => h)) (pa_cons (pv 4) pa_nil)))))))), ?_⟩
    obtain ⟨w0, wr, ew⟩ := split_some r " "
    have wlen : ∀ x ∈ w0 :: wr, x.length ≤ 30000 := fun x hx => by
      rw [← ew] at hx
      exact Nat.le_trans (PyProof.Rows.part_short hx) hz
    refine p_asgL (Ex.refl H) (el_split (ev_var rfl) ev_c (by decide +kernel) (by omega) ew) fun p H1 hp e1 _ h1 => ?_
    have wrl : wr.length ≤ 30002 := by
      have := PyProof.Rows.split_le r " "
      rw [ew] at this
      simp at this
      omega
    refine p_when (b := !decide (w0 = name) || !decide (wr.length = k)) (Ex.refl H1) (et_is (et_or (et_test (ev_op (ev_op (ev_var rfl) ev_c (rv_ixL (sq_of h1) (at_of (j := 0) rfl rfl))) (ev_var rfl) (rv_ne rfl))) (fun _ => et_test (ev_op (ev_lenS (ev_var rfl) (Or.inl (sq_of h1))) (ev_op (ev_var rfl) ev_c rv_I0) (rv_ne rfl)))) (by
      congr 1
      · congr 1
        exact decide_eq_decide.mpr ⟨fun z => by injection z, fun z => by rw [z]⟩
      · congr 1
        refine decide_eq_decide.mpr ?_
        rw [List.length_map, List.length_cons]
        exact ⟨fun z => by injection z with z; omega, fun z => by rw [z]; rfl⟩)) (fun hb H2 e2 _ => ?_) (fun hb H2 e2 _ => ?_)
    · have hjs : (Str.empty ++ ("this is no row of the kind " : Str) ++ name).length ≤ 100000 := by
        rw [len_tl, tl_append, List.length_append, ← len_tl, ← len_tl]
        have : (Str.empty ++ ("this is no row of the kind " : Str)).length = 27 := by decide +kernel
        omega
      have ev : Ev (fun σ H Q => tJs [tC (V.str "this is no row of the kind "), tFmt (tVar 1)] Str.empty σ H fun out H1 => Q (.str out) H1) [some (V.str r), some (V.str name), some (V.int (k : Int)), some (V.ref p), none] H2 (.str (Str.empty ++ ("this is no row of the kind " : Str) ++ name)) := ev_js ev_c (by decide +kernel) (ev_js (ev_fmtS (ev_var rfl) (by omega)) hjs ev_js0)
      refine ev H2 (Ex.refl H2) (fun _ H' => E (.ref T.C_NoText) none H') fun H3 e3 => k2 (fun ns hns hrow => ?_) H3 ((e1.trans e2).trans e3)
      have ee := hrow.1
      rw [ew] at ee
      injection ee with ee1 ee2
      rw [decide_eq_true ee1, decide_eq_true (by rw [ee2, List.length_map]; exact hns)] at hb
      cases hb
    · rw [Bool.or_eq_false_iff] at hb
      have n1 : w0 = name := by simpa using hb.1
      have n2 : wr.length = k := by simpa using hb.2
      subst n1
      refine p_retLR (Ex.refl H2) (el_cNL (fun _ => true) (compConstW (Pv := fun i v => ∃ w, wr[i]? = some w ∧ Num w (numOf w) ∧ v = .int (numOf w : Int))) (el_is (el_sl (ev_var rfl) (eo_some ev_c) eo_none (sq_of (e2 _ _ h1))) cut_tail) (by rw [List.length_map]; omega) ?_) fun q vs H3 hq e3 h3 hf => ?_
      · intro i x hx
        refine ⟨_, ?w, fun H2 Q _ q => q, et_yes, fun _ => ?_⟩
        case w => rfl
        obtain ⟨x', hx', rfl⟩ : ∃ x', wr[i]? = some x' ∧ x = .str x' := by
          rw [List.getElem?_map] at hx
          cases e : wr[i]? with
          | none => rw [e] at hx; cases hx
          | some m => rw [e] at hx; exact ⟨m, rfl, (Option.some.inj hx).symm⟩
        intro H4 e4 Q' q'
        refine ⟨_, rfl, x', rfl, Nat.le_trans (wlen x' (List.mem_cons_of_mem _ (List.mem_of_getElem? hx'))) (by decide), fun m hm H5 e5 => q' _ H5 e5 ⟨x', hx', by rw [numOf_num hm]; exact hm, by rw [numOf_num hm]⟩, fun bad H5 e5 => k2 (fun ns hns hrow => ?_) H5 ((e1.trans e2).trans (e4.trans e5))⟩
        have ee := hrow.1
        rw [ew] at ee
        injection ee with _ ee
        rw [ee, List.getElem?_map] at hx'
        cases eq : ns[i]? with
        | none => rw [eq] at hx'; cases hx'
        | some m =>
          rw [eq] at hx'
          have hm : nS (m : Int) = x' := Option.some.inj hx'
          exact bad m ⟨hrow.2 m (List.mem_of_getElem? eq), hm.symm⟩
      · rw [filter_yes, List.length_map] at hf
        obtain ⟨hv, hok⟩ := fill_map hf
        refine k1 (wr.map numOf) (by rw [List.length_map]; exact n2) ⟨?_, fun m hm => ?_⟩ q H3 (fresh_back (e1.trans e2) hq) ((e1.trans e2).trans e3) (by rw [h3, hv]; unfold IL; rw [List.map_map]; rfl)
        · rw [ew]
          congr 1
          rw [List.map_map]
          have z := List.map_congr_left (l := wr) (f := id) (g := fun w => nS (numOf w : Int)) fun w hw => (hok w hw).2
          rw [List.map_id] at z
          exact z
        · obtain ⟨w, hw, rfl⟩ := List.mem_map.mp hm
          exact (hok w hw).1
end
end Toy

namespace Toy
open PySem L2 TL Evl RZ G
section
variable {P : Program} {w : World} {K : PySem.W.Frag} {mg : Str → Option Value} {base : Heap}
/-! ### the same defs, of things of any kind -/
def spg_is_whole (K : PySem.W.Frag) : Sp := fun vs H Q _ => ∃ (v : V) (d : PyData) (lo hi : Int), vs = [v, .int lo, .int hi] ∧ Dp K H v d ∧ RetV (.bl (isW d lo hi)) H Q
theorem svg_is_whole {v : V} {d : PyData} {lo hi : Int} {H : Hp} (h : Dp K H v d) : SpV (spg_is_whole K) [v, .int lo, .int hi] H (.bl (isW d lo hi)) := fun H1 e Q q E => ⟨v, d, lo, hi, rfl, dp_ex e d v h, q⟩
theorem okg_is_whole (T : Wd K mg) : FnOk P w K mg base CX0 1 T.f_is_whole T.d_is_whole ["number", "low", "high"] (spg_is_whole K) := by
  refine T.F_is_whole.ok sc_is_whole (fun vs H Q E h => ?_) (fun cdv A outer s H vs Q E hr h => ?_)
  · obtain ⟨v, d, lo, hi, rfl, _⟩ := h
    rfl
  · obtain ⟨v, d, lo, hi, rfl, hd, k⟩ := h
    refine ⟨_, (pss_one (ps_ret (pe_and (pe_cmpR G.op_eqTy (pe_callTy call_type1 (by rfl) T.n_type (by decide +kernel) (pa_cons (pv 0) pa_nil)) (pe_bltn (v := .ty "int") (by rfl) T.n_int (by decide +kernel) rfl) (nomark _)) (pe_one (pe_chain op_le op_le (pv 1) (pv 0) (pv 2)))))), ?_⟩
    by_cases hi : tyD d = "int"
    · cases hd with
      | int n =>
        refine p_ret (Ex.refl H) (ev_is (ev_andV (a := true) (ev_op (ev_type (ev_var rfl) (.int n)) ev_c (rv_tyEq t8int t8int)) (fun _ => ev_chain (ev_var rfl) (ev_var rfl) rv_I0 (fun _ => ev_var rfl) (fun _ => rv_I0))) ?_) k
        simp [isW, Bool.decide_and]
      | _ => exact absurd hi (by simp [tyD])
    · rw [isW_no hi] at k
      exact p_ret (Ex.refl H) (ev_andV (a := false) (b := false) (ev_is (ev_op (ev_type (ev_var rfl) (tyb_of hd)) ev_c (rv_tyEq (ty8_of hd) t8int)) (by rw [decide_eq_false hi])) (fun z => by cases z)) k
def spg_is_place (K : PySem.W.Frag) : Sp := fun vs H Q _ => ∃ (n : Nat) (v : V) (d : PyData), vs = [.int n, v] ∧ Dp K H v d ∧ RetV (.bl (isW d 0 ((n : Int) - 1))) H Q
theorem svg_is_place {n : Nat} {v : V} {d : PyData} {H : Hp} (h : Dp K H v d) : SpV (spg_is_place K) [.int n, v] H (.bl (isW d 0 ((n : Int) - 1))) := fun H1 e Q q E => ⟨n, v, d, rfl, dp_ex e d v h, q⟩
theorem okg_is_place (T : Wd K mg) : FnOk P w K mg base CX0 2 T.f_is_place T.d_is_place ["many", "place"] (spg_is_place K) := by
  have G_is_whole := okg_is_whole (P := P) (w := w) (base := base) T
  refine T.F_is_place.ok sc_is_place (fun vs H Q E h => ?_) (fun cdv A outer s H vs Q E hr h => ?_)
  · obtain ⟨n, v, d, rfl, _⟩ := h
    rfl
  · obtain ⟨n, v, d, rfl, hd, k⟩ := h
    refine ⟨_, (pss_one (ps_ret (pe_call G_is_whole (hr.mono (by decide)) (by rfl) T.m_is_whole T.F_is_whole.kp T.b_is_whole .nil pass0 (pa_cons (pv 1) (pa_cons pe_int (pa_cons (pe_op op_sub (pv 0) pe_int) pa_nil)))))), ?_⟩
    exact p_ret (Ex.refl H) (ev_call (ea_cons (ev_var rfl) (ea_cons ev_c (ea_cons (ev_op (ev_var rfl) ev_c rv_I0) ea_nil))) (svg_is_whole hd)) k
def spg_is_tie (K : PySem.W.Frag) : Sp := fun vs H Q _ => ∃ (n : Nat) (v : V) (d : PyData), vs = [.int n, v] ∧ Dp K H v d ∧ RetV (.bl (isT n d)) H Q
theorem svg_is_tie {n : Nat} {v : V} {d : PyData} {H : Hp} (h : Dp K H v d) : SpV (spg_is_tie K) [.int n, v] H (.bl (isT n d)) := fun H1 e Q q E => ⟨n, v, d, rfl, dp_ex e d v h, q⟩
theorem okg_is_tie (T : Wd K mg) : FnOk P w K mg base CX0 3 T.f_is_tie T.d_is_tie ["many", "tie"] (spg_is_tie K) := by
  have G_is_whole := okg_is_whole (P := P) (w := w) (base := base) T
  have G_is_place := okg_is_place (P := P) (w := w) (base := base) T
  refine T.F_is_tie.ok sc_is_tie (fun vs H Q E h => ?_) (fun cdv A outer s H vs Q E hr h => ?_)
  · obtain ⟨n, v, d, rfl, _⟩ := h
    rfl
  · obtain ⟨n, v, d, rfl, hd, k⟩ := h
    refine ⟨_, (pss_cons (ps_if (PW.pt (pw_or (pt_cmpR G.op_neTy (pe_callTy call_type1 (by rfl) T.n_type (by decide +kernel) (pa_cons (pv 1) pa_nil)) (pe_bltn (v := .ty "tuple") (by rfl) T.n_tuple (by decide +kernel) rfl) (nomark _)) (pw_or1 (pt_cmpR op_ne (pe_callB call_len_seq (by rfl) T.n_len (by decide +kernel) (pa_cons (pv 1) pa_nil)) pe_int (nomark _))))) (pss_one (ps_ret pe_bl)) pss_nil) (pss_cons (ps_asg (pv 1) (pg_tup (by rfl) (pgs_cons (pg_name (i := 2) sc_is_tie.nd rfl (Or.inl rfl)) (pgs_cons (pg_name (i := 3) sc_is_tie.nd rfl (Or.inl rfl)) (pgs_cons (pg_name (i := 4) sc_is_tie.nd rfl (Or.inl rfl)) pgs_nil))))) (pss_cons (ps_if (PW.pt (pw_or (pt_not (pt_val (pe_call G_is_place (hr.mono (by decide)) (by rfl) T.m_is_place T.F_is_place.kp T.b_is_place .nil pass0 (pa_cons (pv 0) (pa_cons (pv 2) pa_nil))))) (pw_or1 (pt_not (pt_val (pe_call G_is_place (hr.mono (by decide)) (by rfl) T.m_is_place T.F_is_place.kp T.b_is_place .nil pass0 (pa_cons (pv 0) (pa_cons (pv 3) pa_nil)))))))) (pss_one (ps_ret pe_bl)) pss_nil) (pss_one (ps_ret (pe_and (pe_cmpR op_ne (pv 2) (pv 3) (nomark _)) (pe_one (pe_call G_is_whole (hr.mono (by decide)) (by rfl) T.m_is_whole T.F_is_whole.kp T.b_is_whole .nil pass0 (pa_cons (pv 4) (pa_cons pe_int (pa_cons (pe_glob (v := .int 1000000000) (by rfl) T.c_TOP_PRICE ⟨_, rfl⟩) pa_nil))))))))))), ?_⟩
    by_cases ht : tyD d = "tuple"
    · cases hd with
      | @tup a xs ds hs ha =>
        have hl := dpall_len ha
        refine p_when (b := decide (ds.length ≠ 3)) (Ex.refl H) (et_is (et_or (a := false) (et_is (et_test (ev_op (ev_type (ev_var rfl) (.tup hs)) ev_c (rv_tyNe t8tuple t8tuple))) rfl) (fun _ => et_test (ev_op (ev_lenS (ev_var rfl) (Or.inr hs)) ev_c (rv_ne rfl)))) (by rw [hl]; simp; omega)) (fun hb H1 e1 _ => ?_) (fun hb H1 e1 _ => ?_)
        · rw [isT_len (of_decide_eq_true hb)] at k
          exact p_ret e1 ev_c k
        · have h3 : ds.length = 3 := by have := of_decide_eq_false hb; omega
          obtain ⟨d1, d2, d3, rfl⟩ : ∃ d1 d2 d3, ds = [d1, d2, d3] := by
            match ds, h3 with
            | [x, y, z], _ => exact ⟨x, y, z, rfl⟩
          cases ha with
          | @cons v1 _ _ _ q1 ha =>
          cases ha with
          | @cons v2 _ _ _ q2 ha =>
          cases ha with
          | @cons v3 _ _ _ q3 ha =>
            cases ha
            refine ⟨_, rfl, a, _, rfl, ex_t e1 hs, rfl, _, _, rfl, _, _, rfl, _, _, rfl, rfl, ?_⟩
            refine p_when (b := !isW d1 0 ((n : Int) - 1) || !isW d2 0 ((n : Int) - 1)) e1 (et_or (et_not (et_B (ev_call (ea_cons (ev_var rfl) (ea_cons (ev_var rfl) ea_nil)) (svg_is_place q1)))) (fun _ => et_not (et_B (ev_call (ea_cons (ev_var rfl) (ea_cons (ev_var rfl) ea_nil)) (svg_is_place q2))))) (fun hb H2 e2 _ => ?_) (fun hb H2 e2 _ => ?_)
            · have : isT n (.tuple [d1, d2, d3]) = false := by
                show (isW d1 0 ((n : Int) - 1) && isW d2 0 ((n : Int) - 1) && !eqI d1 d2 && isW d3 1 1000000000) = false
                revert hb
                cases isW d1 0 ((n : Int) - 1) <;> cases isW d2 0 ((n : Int) - 1) <;> simp
              rw [this] at k
              exact p_ret e2 ev_c k
            · have w1 : isW d1 0 ((n : Int) - 1) = true := by
                revert hb
                cases isW d1 0 ((n : Int) - 1) <;> simp
              have w2 : isW d2 0 ((n : Int) - 1) = true := by
                revert hb
                cases isW d2 0 ((n : Int) - 1) <;> simp
              obtain ⟨n1, rfl, _⟩ := isW_yes w1
              obtain ⟨n2, rfl, _⟩ := isW_yes w2
              cases q1
              cases q2
              refine p_ret e2 (ev_is (ev_andV (ev_op (ev_var rfl) (ev_var rfl) (rv_ne rfl)) (fun _ => ev_call (ea_cons (ev_var rfl) (ea_cons ev_c (ea_cons ev_c ea_nil))) (svg_is_whole q3))) ?_) k
              show V.bl (!decide (V.int n1 = V.int n2) && isW d3 1 1000000000) = V.bl (isW (.int n1) 0 ((n : Int) - 1) && isW (.int n2) 0 ((n : Int) - 1) && !eqI (.int n1) (.int n2) && isW d3 1 1000000000)
              rw [w1, w2]
              congr 1
              simp [eqI]
      | _ => exact absurd ht (by simp [tyD])
    · rw [isT_no ht] at k
      refine p_when (b := true) (Ex.refl H) (et_or (a := true) (b := true) (et_is (et_test (ev_op (ev_type (ev_var rfl) (tyb_of hd)) ev_c (rv_tyNe (ty8_of hd) t8tuple))) (by rw [decide_eq_false ht]; rfl)) (fun z => by cases z)) (fun hb H1 e1 _ => p_ret e1 ev_c k) (fun hb => by cases hb)
/-! ### what is refused -/
/-- no net -/
def BadNet (K : PySem.W.Frag) (H : Hp) (v w : V) : Prop := (∃ d, Dp K H v d ∧ isW d 1 24 = false) ∨
  ∃ n : Nat, v = .int n ∧ 1 ≤ n ∧ n ≤ 24 ∧ ((∃ T, TyB K H w T ∧ Ty8 T ∧ T ≠ "list") ∨ ∃ (a : Addr) (xs : List V), w = .ref a ∧ SqL K H a xs ∧ (300 < xs.length ∨ ∃ (ds : List PyData) (i : Nat) (d : PyData), DpAll K H xs ds ∧ ds[i]? = some d ∧ isT n d = false))
theorem BadNet.ex {H H' : Hp} {v w' : V} (h : BadNet K H v w') (e : Ex H H') : BadNet K H' v w' := by
  rcases h with ⟨d, a, b⟩ | ⟨n, h1, h2, h3, h⟩
  · exact .inl ⟨d, dp_ex e d v a, b⟩
  · refine .inr ⟨n, h1, h2, h3, ?_⟩
    rcases h with ⟨T, a, b, c⟩ | ⟨a, xs, b, c, d⟩
    · exact .inl ⟨T, ty_ex e a, b, c⟩
    · refine .inr ⟨a, xs, b, ex_l e c, ?_⟩
      rcases d with d | ⟨ds, i, d, x, y⟩
      · exact .inl d
      · exact .inr ⟨ds, i, d, dpall_ex e x, y⟩
def spx_check_net (K : PySem.W.Frag) (C : Addr) : Sp := fun vs H _ E => ∃ (v w' : V), vs = [v, w'] ∧ BadNet K H v w' ∧ ∀ H', Ex H H' → E (.ref C) none H'
theorem ev_txt2 {σ : L2.St} {H : Hp} {a b : Str} {i : Int} (h1 : (Str.empty ++ a).length ≤ 100) (h2 : (Str.empty ++ a ++ nS i).length ≤ 200) (h3 : (Str.empty ++ a ++ nS i ++ b).length ≤ 300) (hi : i.natAbs < 10000000000) : Ev (fun σ H Q => tJs [tC (.str a), tFmt (tC (.int i)), tC (.str b)] Str.empty σ H fun out H1 => Q (.str out) H1) σ H (.str (Str.empty ++ a ++ nS i ++ b)) :=
  ev_js (y := a) ev_c (by omega) (ev_js (ev_fmtI ev_c hi) (by omega) (ev_js (y := b) ev_c (by omega) ev_js0))
theorem ev_txt1 {σ : L2.St} {H : Hp} {a : Str} {i : Int} (h1 : (Str.empty ++ a).length ≤ 100) (h2 : (Str.empty ++ a ++ nS i).length ≤ 200) (hi : i.natAbs < 10000000000) : Ev (fun σ H Q => tJs [tC (.str a), tFmt (tC (.int i))] Str.empty σ H fun out H1 => Q (.str out) H1) σ H (.str (Str.empty ++ a ++ nS i)) :=
  ev_js (y := a) ev_c (by omega) (ev_js (ev_fmtI ev_c hi) (by omega) ev_js0)
theorem okx_check_net (T : Wd K mg) : FnOk P w K mg base (L2.CX P w) 4 T.f_check_net T.d_check_net ["many", "ties"] (spx_check_net K T.C_NoNet) := by
  have G_is_whole := okg_is_whole (P := P) (w := w) (base := base) T
  have G_is_tie := okg_is_tie (P := P) (w := w) (base := base) T
  refine T.F_check_net.okX sc_check_net (fun vs H Q E h => ?_) (fun cdv A outer s H vs Q E hr h => ?_)
  · obtain ⟨v, w', rfl, _⟩ := h
    rfl
  · obtain ⟨v, w', rfl, hb, k⟩ := h
    refine ⟨_, (pss_cons (ps_if (pt_not (pt_val (pe_call G_is_whole (hr.mono (by decide)) (by rfl) T.m_is_whole T.F_is_whole.kp T.b_is_whole .nil pass0 (pa_cons (pv 0) (pa_cons pe_int (pa_cons (pe_glob (v := .int 24) (by rfl) T.c_MOST_PLACES ⟨_, rfl⟩) pa_nil)))))) (pss_one (ps_raise rfl (takes_of rfl rfl rfl rfl) (SkE.pmk_own1 PySem.F.excBase_ValueError T.X_NoNet.x T.m_NoNet T.X_NoNet.kp (raises_own T.X_NoNet.b T.X_NoNet.t) rfl (pe_joined (PJ.cons pe_str (PJ.cons (pe_fmt (pe_glob (v := .int 24) (by rfl) T.c_MOST_PLACES ⟨_, rfl⟩)) (PJ.cons pe_str PJ.nil))))))) pss_nil) (pss_cons (ps_if (PW.pt (pw_or (pt_cmpR G.op_neTy (pe_callTy call_type1 (by rfl) T.n_type (by decide +kernel) (pa_cons (pv 1) pa_nil)) (pe_bltn (v := .ty "list") (by rfl) T.n_list (by decide +kernel) rfl) (nomark _)) (pw_or1 (pt_cmpR op_gt (pe_callB call_len_seq (by rfl) T.n_len (by decide +kernel) (pa_cons (pv 1) pa_nil)) (pe_glob (v := .int 300) (by rfl) T.c_MOST_TIES ⟨_, rfl⟩) (nomark _))))) (pss_one (ps_raise rfl (takes_of rfl rfl rfl rfl) (SkE.pmk_own1 PySem.F.excBase_ValueError T.X_NoNet.x T.m_NoNet T.X_NoNet.kp (raises_own T.X_NoNet.b T.X_NoNet.t) rfl (pe_joined (PJ.cons pe_str (PJ.cons (pe_fmt (pe_glob (v := .int 300) (by rfl) T.c_MOST_TIES ⟨_, rfl⟩)) PJ.nil)))))) pss_nil) (pss_one (ps_for (passes_of rfl) rfl (pi_list (pv 1)) (pg_name (i := 2) sc_check_net.nd rfl (Or.inl rfl)) (pss_one (ps_if (pt_not (pt_val (pe_call G_is_tie (hr.mono (by decide)) (by rfl) T.m_is_tie T.F_is_tie.kp T.b_is_tie .nil pass0 (pa_cons (pv 0) (pa_cons (pv 2) pa_nil))))) (pss_one (ps_raise rfl (takes_of rfl rfl rfl rfl) (SkE.pmk_own1 PySem.F.excBase_ValueError T.X_NoNet.x T.m_NoNet T.X_NoNet.kp (raises_own T.X_NoNet.b T.X_NoNet.t) rfl pe_str))) pss_nil)))))), ?_⟩
    rcases hb with ⟨d, hd, hw⟩ | ⟨n, rfl, n1, n2, hb⟩
    · exact p_when (b := true) (Ex.refl H) (et_is (et_not (et_B (ev_call (ea_cons (ev_var rfl) (ea_cons ev_c (ea_cons ev_c ea_nil))) (svg_is_whole hd)))) (by rw [hw]; rfl)) (fun _ H1 e1 _ => ev_txt2 (a := "a net has 1 to ") (b := " places") (i := 24) (by decide +kernel) (by decide +kernel) (by decide +kernel) (by decide) H1 (Ex.refl H1) (fun _ H' => E (.ref T.C_NoNet) none H') fun H2 e2 => k H2 (e1.trans e2)) (fun hb => by cases hb)
    · refine p_no (Ex.refl H) (et_is (et_not (et_B (ev_call (ea_cons (ev_var rfl) (ea_cons ev_c (ea_cons ev_c ea_nil))) (svg_is_whole (.int (n : Int)))))) (by simp [isW]; omega)) fun H1 e1 _ => ?_
      rcases hb with ⟨T', ht, h8, hne⟩ | ⟨a, xs, rfl, hs, hb⟩
      · exact p_when (b := true) e1 (et_or (a := true) (b := true) (et_is (et_test (ev_op (ev_type (ev_var rfl) ht) ev_c (rv_tyNe h8 t8list))) (by rw [decide_eq_false hne]; rfl)) (fun z => by cases z)) (fun _ H2 e2 _ => ev_txt1 (a := "the ties are a list of at most ") (i := 300) (by decide +kernel) (by decide +kernel) (by decide) H2 (Ex.refl H2) (fun _ H' => E (.ref T.C_NoNet) none H') fun H3 e3 => k H3 (e2.trans e3)) (fun hb => by cases hb)
      · by_cases hz : 300 < xs.length
        · exact p_when (b := true) e1 (et_is (et_or (a := false) (et_is (et_test (ev_op (ev_type (ev_var rfl) (.lst hs)) ev_c (rv_tyNe t8list t8list))) rfl) (fun _ => et_test (ev_op (ev_lenS (ev_var rfl) (Or.inl hs)) ev_c rv_I0))) (by simp; omega)) (fun _ H2 e2 _ => ev_txt1 (a := "the ties are a list of at most ") (i := 300) (by decide +kernel) (by decide +kernel) (by decide) H2 (Ex.refl H2) (fun _ H' => E (.ref T.C_NoNet) none H') fun H3 e3 => k H3 (e2.trans e3)) (fun hb => by cases hb)
        · obtain ⟨ds, i0, d0, hds, hi0, hbad⟩ := hb.resolve_left hz
          refine p_no e1 (et_is (et_or (a := false) (et_is (et_test (ev_op (ev_type (ev_var rfl) (.lst hs)) ev_c (rv_tyNe t8list t8list))) rfl) (fun _ => et_test (ev_op (ev_lenS (ev_var rfl) (Or.inl hs)) ev_c rv_I0))) (by simp; omega)) fun H2 e2 _ => ?_
          refine s_forLn (xs := xs) ((ev_var rfl : Ev _ _ H (.ref a)).mono e2) (ex_l e2 hs) (fun i σ' H' => Ex H H' ∧ (∀ j d, j < i → ds[j]? = some d → isT n d = true) ∧ ∃ u, σ' = [some (.int n), some (.ref a), u]) (fun H3 e3 => ⟨e2.trans e3, (fun j d hj => absurd hj (Nat.not_lt_zero _)), _, rfl⟩) (fun i σ' H' _ p => ex_l p.1 hs) ?_ ?_
          · rintro i x σ' H' hx ⟨e, ok, u, rfl⟩
            obtain ⟨d, hd, hdp⟩ := dpall_get hds hx
            refine p_whenE (b := !isT n d) e (et_not (et_B (ev_call (ea_cons (ev_var rfl) (ea_cons (ev_var rfl) ea_nil)) (svg_is_tie hdp)))) (fun _ H3 e3 _ => k H3 e3) (fun hb H3 e3 _ => ?_)
            refine ⟨e3, fun j d' hj hj' => ?_, _, rfl⟩
            by_cases hji : j = i
            · subst hji
              have : d = d' := Option.some.inj (hd.symm.trans hj')
              subst this
              cases h : isT n d with
              | true => rfl
              | false => rw [h] at hb; cases hb
            · exact ok j d' (by omega) hj'
          · rintro σ' H' ⟨e, ok, u, rfl⟩
            have hl := dpall_len hds
            have hi := (List.getElem?_eq_some_iff.mp hi0).1
            have := ok i0 d0 (by omega) hi0
            rw [hbad] at this
            cases this
def spx_init (K : PySem.W.Frag) (C : Addr) : Sp := fun vs H _ E => ∃ (x : Addr) (v w' : V), vs = [.ref x, v, w'] ∧ BadNet K H v w' ∧ ∀ H', Ex H H' → E (.ref C) none H'
theorem okx_Net_init (T : Wd K mg) : FnOk P w K mg base (L2.CX P w) 5 T.f_Net_init T.d_Net_init ["self", "many", "ties"] (spx_init K T.C_NoNet) := by
  have G_check_net := okx_check_net (P := P) (w := w) (base := base) T
  have G_costs_between := ok_costs_between (P := P) (w := w) (base := base) T
  refine T.F_Net_init.okX sc_Net_init (fun vs H Q E h => ?_) (fun cdv A outer s H vs Q E hr h => ?_)
  · obtain ⟨x, v, w', rfl, _⟩ := h
    rfl
  · obtain ⟨x, v, w', rfl, hb, k⟩ := h
    refine ⟨_, (pss_cons (ps_expr (pe_call G_check_net (hr.mono (by decide)) (by rfl) T.m_check_net T.F_check_net.kp T.b_check_net .nil (passes_call (takes_of rfl rfl rfl rfl) (fun _ _ _ _ h => h)) (pa_cons (pv 1) (pa_cons (pv 2) pa_nil)))) (pss_cons (ps_fld (pv 0) (pv 1) rfl) (pss_cons (ps_fld (pv 0) (pe_callTy call_list_of (by rfl) T.n_list (by decide +kernel) (pa_cons (pv 2) pa_nil)) rfl) (pss_one (ps_fld (pv 0) (pe_call G_costs_between (hr.mono (by decide)) (by rfl) T.m_costs_between T.F_costs_between.kp T.b_costs_between .nil pass0 (pa_cons (pv 1) (pa_cons (pv 2) pa_nil))) rfl))))), ?_⟩
    exact ⟨_, rfl, _, rfl, v, w', rfl, hb, k⟩
/-- no side -/
def BadSide (K : PySem.W.Frag) (H : Hp) (n : Nat) (w : V) : Prop := (∃ T, TyB K H w T ∧ Ty8 T ∧ T ≠ "list") ∨ (∃ (a : Addr) (xs : List V) (ds : List PyData) (i : Nat) (d : PyData), w = .ref a ∧ SqL K H a xs ∧ DpAll K H xs ds ∧ ds[i]? = some d ∧ isW d 0 ((n : Int) - 1) = false) ∨
  ∃ (a : Addr) (ns : List Int), w = .ref a ∧ SqL K H a (ns.map V.int) ∧ uniq ns < ns.length ∧ ns.length ≤ 4000
theorem BadSide.ex {H H' : Hp} {n : Nat} {w' : V} (h : BadSide K H n w') (e : Ex H H') : BadSide K H' n w' := by
  rcases h with ⟨T, a, b, c⟩ | ⟨a, xs, ds, i, d, r, s, t, u⟩ | ⟨a, ns, r, s, t⟩
  · exact .inl ⟨T, ty_ex e a, b, c⟩
  · exact .inr (.inl ⟨a, xs, ds, i, d, r, ex_l e s, dpall_ex e t, u⟩)
  · exact .inr (.inr ⟨a, ns, r, ex_l e s, t⟩)
def spx_check_side (K : PySem.W.Frag) (C : Addr) : Sp := fun vs H _ E => ∃ (n : Nat) (w' : V), vs = [.int n, w'] ∧ BadSide K H n w' ∧ ∀ H', Ex H H' → E (.ref C) none H'
theorem okx_check_side (T : Wd K mg) : FnOk P w K mg base (L2.CX P w) 3 T.f_check_side T.d_check_side ["many", "side"] (spx_check_side K T.C_NoSide) := by
  have G_is_place := okg_is_place (P := P) (w := w) (base := base) T
  refine T.F_check_side.okX sc_check_side (fun vs H Q E h => ?_) (fun cdv A outer s H vs Q E hr h => ?_)
  · obtain ⟨n, w', rfl, _⟩ := h
    rfl
  · obtain ⟨n, w', rfl, hb, k⟩ := h
    refine ⟨_, (pss_cons (ps_if (pt_cmpR G.op_neTy (pe_callTy call_type1 (by rfl) T.n_type (by decide +kernel) (pa_cons (pv 1) pa_nil)) (pe_bltn (v := .ty "list") (by rfl) T.n_list (by decide +kernel) rfl) (nomark _)) (pss_one (ps_raise rfl (takes_of rfl rfl rfl rfl) (SkE.pmk_own1 PySem.F.excBase_ValueError T.X_NoSide.x T.m_NoSide T.X_NoSide.kp (raises_own T.X_NoSide.b T.X_NoSide.t) rfl pe_str))) pss_nil) (pss_cons (ps_for (passes_of rfl) rfl (pi_list (pv 1)) (pg_name (i := 2) sc_check_side.nd rfl (Or.inl rfl)) (pss_one (ps_if (pt_not (pt_val (pe_call G_is_place (hr.mono (by decide)) (by rfl) T.m_is_place T.F_is_place.kp T.b_is_place .nil pass0 (pa_cons (pv 0) (pa_cons (pv 2) pa_nil))))) (pss_one (ps_raise rfl (takes_of rfl rfl rfl rfl) (SkE.pmk_own1 PySem.F.excBase_ValueError T.X_NoSide.x T.m_NoSide T.X_NoSide.kp (raises_own T.X_NoSide.b T.X_NoSide.t) rfl pe_str))) pss_nil))) (pss_one (ps_if (pt_cmpR op_lt (G.pe_lenSetG (by rfl) T.n_len (by rfl) T.n_set (pv 1)) (pe_callB call_len_seq (by rfl) T.n_len (by decide +kernel) (pa_cons (pv 1) pa_nil)) (nomark _)) (pss_one (ps_raise rfl (takes_of rfl rfl rfl rfl) (SkE.pmk_own1 PySem.F.excBase_ValueError T.X_NoSide.x T.m_NoSide T.X_NoSide.kp (raises_own T.X_NoSide.b T.X_NoSide.t) rfl pe_str))) pss_nil)))), ?_⟩
    rcases hb with ⟨T', ht, h8, hne⟩ | ⟨a, xs, ds, i0, d0, rfl, hs, hds, hi0, hbad⟩ | ⟨a, ns, rfl, hs, hu, hz⟩
    · exact p_when (b := true) (Ex.refl H) (et_is (et_test (ev_op (ev_type (ev_var rfl) ht) ev_c (rv_tyNe h8 t8list))) (by rw [decide_eq_false hne]; rfl)) (fun _ H1 e1 _ => k H1 e1) (fun hb => by cases hb)
    · refine p_no (Ex.refl H) (et_is (et_test (ev_op (ev_type (ev_var rfl) (.lst hs)) ev_c (rv_tyNe t8list t8list))) rfl) fun H1 e1 _ => ?_
      refine q_forLn (xs := xs) ((ev_var rfl : Ev _ _ H (.ref a)).mono e1) (ex_l e1 hs) (fun i σ' H' => Ex H H' ∧ (∀ j d, j < i → ds[j]? = some d → isW d 0 ((n : Int) - 1) = true) ∧ ∃ u, σ' = [some (.int n), some (.ref a), u]) (fun H3 e3 => ⟨e1.trans e3, (fun j d hj => absurd hj (Nat.not_lt_zero _)), _, rfl⟩) (fun i σ' H' _ p => ex_l p.1 hs) ?_ ?_
      · rintro i x σ' H' hx ⟨e, ok, u, rfl⟩
        obtain ⟨d, hd, hdp⟩ := dpall_get hds hx
        refine p_whenE (b := !isW d 0 ((n : Int) - 1)) e (et_not (et_B (ev_call (ea_cons (ev_var rfl) (ea_cons (ev_var rfl) ea_nil)) (svg_is_place hdp)))) (fun _ H3 e3 _ => k H3 e3) (fun hb H3 e3 _ => ?_)
        refine ⟨e3, fun j d' hj hj' => ?_, _, rfl⟩
        by_cases hji : j = i
        · subst hji
          have : d = d' := Option.some.inj (hd.symm.trans hj')
          subst this
          cases h : isW d 0 ((n : Int) - 1) with
          | true => rfl
          | false => rw [h] at hb; cases hb
        · exact ok j d' (by omega) hj'
      · rintro σ' H' ⟨e, ok, u, rfl⟩
        have hl := dpall_len hds
        have hi := (List.getElem?_eq_some_iff.mp hi0).1
        have := ok i0 d0 (by omega) hi0
        rw [hbad] at this
        cases this
    · refine p_no (Ex.refl H) (et_is (et_test (ev_op (ev_type (ev_var rfl) (.lst hs)) ev_c (rv_tyNe t8list t8list))) rfl) fun H1 e1 _ => ?_
      refine q_forLn (xs := ns.map V.int) ((ev_var rfl : Ev _ _ H (.ref a)).mono e1) (ex_l e1 hs) (fun i σ' H' => Ex H H' ∧ ∃ u, σ' = [some (.int n), some (.ref a), u]) (fun H3 e3 => ⟨e1.trans e3, _, rfl⟩) (fun i σ' H' _ p => ex_l p.1 hs) ?_ ?_
      · rintro i x σ' H' hx ⟨e, u, rfl⟩
        obtain ⟨d, hd, hdp⟩ := dpall_get (dp_ints (K := K) (H := H) ns) hx
        exact p_whenE (b := !isW d 0 ((n : Int) - 1)) e (et_not (et_B (ev_call (ea_cons (ev_var rfl) (ea_cons (ev_var rfl) ea_nil)) (svg_is_place hdp)))) (fun _ H3 e3 _ => k H3 e3) (fun hb H3 e3 _ => ⟨e3, _, rfl⟩)
      · rintro σ' H' ⟨e, u, rfl⟩
        exact p_whenE (b := true) e (et_is (et_test (ev_op (ev_lenSetG (ev_var rfl) hs hz) (ev_lenS (ev_var rfl) (Or.inl hs)) rv_I0)) (by rw [List.length_map]; simp; omega)) (fun _ H3 e3 _ => k H3 e3) (fun hb => by cases hb)
def spx_price (K : PySem.W.Frag) (C D : Addr) : Sp := fun vs H _ E => ∃ (x : Addr) (n : Nat) (ts : List Tie) (w' : V), vs = [.ref x, w'] ∧ NetAt K C H x n ts ∧ BadSide K H n w' ∧ ∀ H', Ex H H' → E (.ref D) none H'
theorem okx_Net_price (T : Wd K mg) : FnOk P w K mg base (L2.CX P w) 4 T.f_Net_price T.d_Net_price ["self", "side"] (spx_price K T.C_Net T.C_NoSide) := by
  have G_check_side := okx_check_side (P := P) (w := w) (base := base) T
  refine T.F_Net_price.okX sc_Net_price (fun vs H Q E h => ?_) (fun cdv A outer s H vs Q E hr h => ?_)
  · obtain ⟨x, n, ts, w', rfl, _⟩ := h
    rfl
  · obtain ⟨x, n, ts, w', rfl, N, hb, k⟩ := h
    obtain ⟨dx, l, c, hx, _⟩ := N.ob
    refine ⟨_, (pss_cons (ps_expr (pe_call G_check_side (hr.mono (by decide)) (by rfl) T.m_check_side T.F_check_side.kp T.b_check_side .nil (passes_call (takes_of rfl rfl rfl rfl) (fun _ _ _ _ h => h)) (pa_cons (pe_fld (pv 0) rfl) (pa_cons (pv 1) pa_nil)))) (pss_cons (ps_set (i := 2) sc_Net_price.nd rfl (Or.inl rfl) pe_int) (pss_cons (ps_for (passes_of rfl) rfl (pi_list (pe_fld (pv 0) rfl)) (pg_tup (by rfl) (pgs_cons (pg_name (i := 3) sc_Net_price.nd rfl (Or.inl rfl)) (pgs_cons (pg_name (i := 4) sc_Net_price.nd rfl (Or.inl rfl)) (pgs_cons (pg_name (i := 5) sc_Net_price.nd rfl (Or.inl rfl)) pgs_nil)))) (pss_one (ps_if (pt_cmpR op_ne (pe_cmpR op_in_seq (pv 3) (pv 1) (by rfl)) (pe_cmpR op_in_seq (pv 4) (pv 1) (by rfl)) (nomark _)) (pss_one (ps_aug (i := 2) sc_Net_price.nd rfl (Or.inl rfl) (pv 5) ip_add)) pss_nil))) (pss_one (ps_ret (pv 2)))))), ?_⟩
    exact ⟨_, rfl, x, T.C_Net, dx, _, _, rfl, hx, T.cl_Net, T.na_Net_many, netF_many, _, rfl, n, w', rfl, hb, k⟩
end
end Toy

namespace Toy
open PySem L2 TL Evl RZ G
section
variable {P : Program} {w : World} {K : PySem.W.Frag} {mg : Str → Option Value} {base : Heap}
/-! ### nets refused, the exception's context known -/
theorem okn_check_net (T : Wd K mg) : FnOk P w K mg base (L2N.CX P w) 4 T.f_check_net T.d_check_net ["many", "ties"] (spx_check_net K T.C_NoNet) := by
  have G_is_whole := okg_is_whole (P := P) (w := w) (base := base) T
  have G_is_tie := okg_is_tie (P := P) (w := w) (base := base) T
  refine T.F_check_net.okN sc_check_net (fun vs H Q E h => ?_) (fun cdv A outer s H vs Q E hr h => ?_)
  · obtain ⟨v, w', rfl, _⟩ := h
    rfl
  · obtain ⟨v, w', rfl, hb, k⟩ := h
    refine ⟨_, (pss_cons (ps_if (pt_not (pt_val (pe_call G_is_whole (hr.mono (by decide)) (by rfl) T.m_is_whole T.F_is_whole.kp T.b_is_whole .nil pass0 (pa_cons (pv 0) (pa_cons pe_int (pa_cons (pe_glob (v := .int 24) (by rfl) T.c_MOST_PLACES ⟨_, rfl⟩) pa_nil)))))) (pss_one (L2N.ps_raise rfl (L2N.takes_of rfl rfl rfl rfl) (G.pmkN_own1 PySem.F.excBase_ValueError T.X_NoNet.x T.m_NoNet T.X_NoNet.kp (raises_own T.X_NoNet.b T.X_NoNet.t) rfl (pe_joined (PJ.cons pe_str (PJ.cons (pe_fmt (pe_glob (v := .int 24) (by rfl) T.c_MOST_PLACES ⟨_, rfl⟩)) (PJ.cons pe_str PJ.nil))))))) pss_nil) (pss_cons (ps_if (PW.pt (pw_or (pt_cmpR G.op_neTy (pe_callTy call_type1 (by rfl) T.n_type (by decide +kernel) (pa_cons (pv 1) pa_nil)) (pe_bltn (v := .ty "list") (by rfl) T.n_list (by decide +kernel) rfl) (nomark _)) (pw_or1 (pt_cmpR op_gt (pe_callB call_len_seq (by rfl) T.n_len (by decide +kernel) (pa_cons (pv 1) pa_nil)) (pe_glob (v := .int 300) (by rfl) T.c_MOST_TIES ⟨_, rfl⟩) (nomark _))))) (pss_one (L2N.ps_raise rfl (L2N.takes_of rfl rfl rfl rfl) (G.pmkN_own1 PySem.F.excBase_ValueError T.X_NoNet.x T.m_NoNet T.X_NoNet.kp (raises_own T.X_NoNet.b T.X_NoNet.t) rfl (pe_joined (PJ.cons pe_str (PJ.cons (pe_fmt (pe_glob (v := .int 300) (by rfl) T.c_MOST_TIES ⟨_, rfl⟩)) PJ.nil)))))) pss_nil) (pss_one (ps_for (passes_of rfl) rfl (pi_list (pv 1)) (pg_name (i := 2) sc_check_net.nd rfl (Or.inl rfl)) (pss_one (ps_if (pt_not (pt_val (pe_call G_is_tie (hr.mono (by decide)) (by rfl) T.m_is_tie T.F_is_tie.kp T.b_is_tie .nil pass0 (pa_cons (pv 0) (pa_cons (pv 2) pa_nil))))) (pss_one (L2N.ps_raise rfl (L2N.takes_of rfl rfl rfl rfl) (G.pmkN_own1 PySem.F.excBase_ValueError T.X_NoNet.x T.m_NoNet T.X_NoNet.kp (raises_own T.X_NoNet.b T.X_NoNet.t) rfl pe_str))) pss_nil)))))), ?_⟩
    rcases hb with ⟨d, hd, hw⟩ | ⟨n, rfl, n1, n2, hb⟩
    · exact p_when (b := true) (Ex.refl H) (et_is (et_not (et_B (ev_call (ea_cons (ev_var rfl) (ea_cons ev_c (ea_cons ev_c ea_nil))) (svg_is_whole hd)))) (by rw [hw]; rfl)) (fun _ H1 e1 _ => ev_txt2 (a := "a net has 1 to ") (b := " places") (i := 24) (by decide +kernel) (by decide +kernel) (by decide +kernel) (by decide) H1 (Ex.refl H1) (fun _ H' => E (.ref T.C_NoNet) none H') fun H2 e2 => k H2 (e1.trans e2)) (fun hb => by cases hb)
    · refine p_no (Ex.refl H) (et_is (et_not (et_B (ev_call (ea_cons (ev_var rfl) (ea_cons ev_c (ea_cons ev_c ea_nil))) (svg_is_whole (.int (n : Int)))))) (by simp [isW]; omega)) fun H1 e1 _ => ?_
      rcases hb with ⟨T', ht, h8, hne⟩ | ⟨a, xs, rfl, hs, hb⟩
      · exact p_when (b := true) e1 (et_or (a := true) (b := true) (et_is (et_test (ev_op (ev_type (ev_var rfl) ht) ev_c (rv_tyNe h8 t8list))) (by rw [decide_eq_false hne]; rfl)) (fun z => by cases z)) (fun _ H2 e2 _ => ev_txt1 (a := "the ties are a list of at most ") (i := 300) (by decide +kernel) (by decide +kernel) (by decide) H2 (Ex.refl H2) (fun _ H' => E (.ref T.C_NoNet) none H') fun H3 e3 => k H3 (e2.trans e3)) (fun hb => by cases hb)
      · by_cases hz : 300 < xs.length
        · exact p_when (b := true) e1 (et_is (et_or (a := false) (et_is (et_test (ev_op (ev_type (ev_var rfl) (.lst hs)) ev_c (rv_tyNe t8list t8list))) rfl) (fun _ => et_test (ev_op (ev_lenS (ev_var rfl) (Or.inl hs)) ev_c rv_I0))) (by simp; omega)) (fun _ H2 e2 _ => ev_txt1 (a := "the ties are a list of at most ") (i := 300) (by decide +kernel) (by decide +kernel) (by decide) H2 (Ex.refl H2) (fun _ H' => E (.ref T.C_NoNet) none H') fun H3 e3 => k H3 (e2.trans e3)) (fun hb => by cases hb)
        · obtain ⟨ds, i0, d0, hds, hi0, hbad⟩ := hb.resolve_left hz
          refine p_no e1 (et_is (et_or (a := false) (et_is (et_test (ev_op (ev_type (ev_var rfl) (.lst hs)) ev_c (rv_tyNe t8list t8list))) rfl) (fun _ => et_test (ev_op (ev_lenS (ev_var rfl) (Or.inl hs)) ev_c rv_I0))) (by simp; omega)) fun H2 e2 _ => ?_
          refine s_forLn (xs := xs) ((ev_var rfl : Ev _ _ H (.ref a)).mono e2) (ex_l e2 hs) (fun i σ' H' => Ex H H' ∧ (∀ j d, j < i → ds[j]? = some d → isT n d = true) ∧ ∃ u, σ' = [some (.int n), some (.ref a), u]) (fun H3 e3 => ⟨e2.trans e3, (fun j d hj => absurd hj (Nat.not_lt_zero _)), _, rfl⟩) (fun i σ' H' _ p => ex_l p.1 hs) ?_ ?_
          · rintro i x σ' H' hx ⟨e, ok, u, rfl⟩
            obtain ⟨d, hd, hdp⟩ := dpall_get hds hx
            refine p_whenE (b := !isT n d) e (et_not (et_B (ev_call (ea_cons (ev_var rfl) (ea_cons (ev_var rfl) ea_nil)) (svg_is_tie hdp)))) (fun _ H3 e3 _ => k H3 e3) (fun hb H3 e3 _ => ?_)
            refine ⟨e3, fun j d' hj hj' => ?_, _, rfl⟩
            by_cases hji : j = i
            · subst hji
              have : d = d' := Option.some.inj (hd.symm.trans hj')
              subst this
              cases h : isT n d with
              | true => rfl
              | false => rw [h] at hb; cases hb
            · exact ok j d' (by omega) hj'
          · rintro σ' H' ⟨e, ok, u, rfl⟩
            have hl := dpall_len hds
            have hi := (List.getElem?_eq_some_iff.mp hi0).1
            have := ok i0 d0 (by omega) hi0
            rw [hbad] at this
            cases this
theorem okn_Net_init (T : Wd K mg) : FnOk P w K mg base (L2N.CX P w) 5 T.f_Net_init T.d_Net_init ["self", "many", "ties"] (spx_init K T.C_NoNet) := by
  have G_check_net := okn_check_net (P := P) (w := w) (base := base) T
  have G_costs_between := ok_costs_between (P := P) (w := w) (base := base) T
  refine T.F_Net_init.okN sc_Net_init (fun vs H Q E h => ?_) (fun cdv A outer s H vs Q E hr h => ?_)
  · obtain ⟨x, v, w', rfl, _⟩ := h
    rfl
  · obtain ⟨x, v, w', rfl, hb, k⟩ := h
    refine ⟨_, (pss_cons (ps_expr (pe_call G_check_net (hr.mono (by decide)) (by rfl) T.m_check_net T.F_check_net.kp T.b_check_net .nil (L2N.passes_call (L2N.takes_of rfl rfl rfl rfl) (fun _ _ _ _ h => h)) (pa_cons (pv 1) (pa_cons (pv 2) pa_nil)))) (pss_cons (ps_fld (pv 0) (pv 1) rfl) (pss_cons (ps_fld (pv 0) (pe_callTy call_list_of (by rfl) T.n_list (by decide +kernel) (pa_cons (pv 2) pa_nil)) rfl) (pss_one (ps_fld (pv 0) (pe_call G_costs_between (hr.mono (by decide)) (by rfl) T.m_costs_between T.F_costs_between.kp T.b_costs_between .nil pass0 (pa_cons (pv 1) (pa_cons (pv 2) pa_nil))) rfl))))), ?_⟩
    exact ⟨_, rfl, _, rfl, v, w', rfl, hb, k⟩
end
end Toy

namespace Toy
open PySem L2 TL Evl RZ G
section
variable {P : Program} {w : World} {K : PySem.W.Frag} {mg : Str → Option Value} {base : Heap}
/-! ### texts refused -/
/-- what writes no net -/
def BadText (K : PySem.W.Frag) (H : Hp) (v : V) : Prop := (∃ T, TyB K H v T ∧ Ty8 T ∧ T ≠ "str") ∨ ∃ x : Str, v = .str x ∧ x.length ≤ 30000 ∧ ∀ (n : Nat) (ts : List Tie), 1 ≤ n → n ≤ 24 → ts.length ≤ 300 → (∀ t ∈ ts, Good n t) → x ≠ textS n ts
theorem BadText.ex {H H' : Hp} {v : V} (h : BadText K H v) (e : Ex H H') : BadText K H' v := by
  rcases h with ⟨T, a, b, c⟩ | h
  · exact .inl ⟨T, ty_ex e a, b, c⟩
  · exact .inr h
theorem RowIs.inj {r name : Str} {ns ms : List Nat} (h : RowIs r name ns) (g : RowIs r name ms) : ns = ms := by
  have e := h.1.symm.trans g.1
  injection e with _ e
  have key : ∀ (a b : List Nat), a.map (fun (k : Nat) => nS (k : Int)) = b.map (fun (k : Nat) => nS (k : Int)) → a = b := by
    intro a
    induction a with
    | nil => intro b e; cases b with
      | nil => rfl
      | cons _ _ => cases e
    | cons x a ih => intro b e; cases b with
      | nil => cases e
      | cons y b =>
        injection e with e1 e2
        have e3 := congrArg tl e1
        rw [nS_tl, nS_tl] at e3
        rw [numL_inj e3, ih b e2]
  exact key ns ms e
theorem row_back {r name : Str} {ns : List Nat} (h : RowIs r name ns) : r = Txt.join " " (name :: ns.map fun (k : Nat) => nS (k : Int)) := by
  rw [← h.1, join_eq]
  exact (PySem.StrLaws.join_split r " ").symm
noncomputable def rowOf (name r : Str) : List Nat := @dite _ (∃ ns, RowIs r name ns) (Classical.propDecidable _) (fun h => Classical.choose h) fun _ => []
theorem rowOf_is {name r : Str} {ns : List Nat} (h : RowIs r name ns) : rowOf name r = ns := by
  unfold rowOf
  rw [dif_pos ⟨ns, h⟩]
  exact (Classical.choose_spec (⟨ns, h⟩ : ∃ ns, RowIs r name ns)).inj h
/-- the tie that a row writes -/
noncomputable def tieRow (r : Str) : Tie := ((rowOf "tie" r).getD 0 0, (rowOf "tie" r).getD 1 0, (((rowOf "tie" r).getD 2 0 : Nat) : Int))
theorem tieRow_is {r : Str} {ns : List Nat} (h : RowIs r "tie" ns) (h3 : ns.length = 3) : r = rowS (tieRow r) ∧ IL ns = tv (tieRow r) ∧ 0 ≤ (tieRow r).2.2 := by
  match ns, h3 with
  | [a, b, c], _ =>
    have e := row_back h
    unfold tieRow
    rw [rowOf_is h]
    refine ⟨?_, rfl, Int.natCast_nonneg _⟩
    exact e
theorem compAnd {R0 : Nat → Hp → V → Hp → Prop} {R : Addr → Nat → V → Hp → Prop} {Pc : Nat → Prop} (c : CompR R0 R) : CompR (fun i H v H2 => R0 i H v H2 ∧ Pc i) (fun D i v H => R D i v H ∧ Pc i) :=
  ⟨fun D i v H1 H2 acc acc' e h r => ⟨c.new D i v H1 H2 acc acc' e h r.1, r.2⟩, fun D i v H H2 acc acc' h1 h2 k r => ⟨c.keep D i v H H2 acc acc' h1 h2 k r.1, r.2⟩⟩
def tieD (t : Tie) : PyData := .tuple [.int t.1, .int t.2.1, .int t.2.2]
theorem tieV_dp {H : Hp} {v : V} {t : Tie} (h : TieV K H v t) : Dp K H v (tieD t) := by
  obtain ⟨a, rfl, h⟩ := h
  exact .tup h (.cons (.int _) (.cons (.int _) (.cons (.int _) .nil)))
theorem tiesV_dp {H : Hp} : ∀ {ts : List Tie} {vs : List V}, TiesV K H vs ts → DpAll K H vs (ts.map tieD)
  | [], [], _ => .nil
  | [], _ :: _, h => by cases h.len
  | _ :: _, [], h => by cases h.len
  | t :: ts, v :: vs, h => .cons (tieV_dp (h.at_ 0 v t rfl rfl)) (tiesV_dp (ts := ts) (vs := vs) ⟨by have := h.len; simpa using this, fun i w u a b => h.at_ (i + 1) w u (by simpa using a) (by simpa using b)⟩)
theorem isT_good {n : Nat} {t : Tie} (h : isT n (tieD t) = true) : Good n t := by
  have h : (isW (.int t.1) 0 ((n : Int) - 1) && isW (.int t.2.1) 0 ((n : Int) - 1) && !eqI (.int t.1) (.int t.2.1) && isW (.int t.2.2) 1 1000000000) = true := h
  simp only [isW, eqI, Bool.and_eq_true, Bool.not_eq_true', decide_eq_true_eq, decide_eq_false_iff_not] at h
  obtain ⟨⟨⟨a, b⟩, c⟩, d⟩ := h
  exact ⟨by omega, by omega, fun e => c (by rw [e]), d.1, d.2⟩
/-- rows that write ties make a text of a net, or the net is refused -/
theorem read_back {x r0 : Str} {rs : List Str} {m : Nat} (er : Txt.split x "\n" = r0 :: rs) (h0 : RowIs r0 "places" [m]) (hr : ∀ r ∈ rs, ∃ ns, RowIs r "tie" ns ∧ ns.length = 3) : x = textS m (rs.map tieRow) := by
  have e1 : Txt.join "\n" (r0 :: rs) = x := by rw [← er, join_eq]; exact PySem.StrLaws.join_split x "\n"
  have e2 : r0 = headS m := row_back h0
  have e3 : rs = (rs.map tieRow).map rowS := by
    rw [List.map_map]
    conv => lhs; rw [← List.map_id rs]
    refine List.map_congr_left fun r hm => ?_
    obtain ⟨ns, h, h3⟩ := hr r hm
    exact (tieRow_is h h3).1
  unfold textS
  rw [← e1, e2, ← e3]
theorem bad_net {H : Hp} {l : Addr} {vs : List V} {ts : List Tie} {m : Nat} (hl : SqL K H l vs) (tz : TiesV K H vs ts) (hb : 1 ≤ m → m ≤ 24 → ts.length ≤ 300 → (∀ t ∈ ts, Good m t) → False) : BadNet K H (.int (m : Int)) (.ref l) := by
  by_cases h1 : 1 ≤ m ∧ m ≤ 24
  · refine .inr ⟨m, rfl, h1.1, h1.2, .inr ⟨l, vs, rfl, hl, ?_⟩⟩
    by_cases h2 : 300 < vs.length
    · exact .inl h2
    · refine .inr ?_
      by_cases h3 : ∀ t ∈ ts, isT m (tieD t) = true
      · exact absurd (hb h1.1 h1.2 (by rw [← tz.len]; omega) fun t ht => isT_good (h3 t ht)) id
      · obtain ⟨t, ht, hn⟩ : ∃ t ∈ ts, isT m (tieD t) = false := Classical.byContradiction fun z => h3 fun t ht => by
          cases e : isT m (tieD t) with
          | true => rfl
          | false => exact absurd ⟨t, ht, e⟩ z
        obtain ⟨i, hi⟩ := List.getElem?_of_mem ht
        exact ⟨_, i, tieD t, tiesV_dp tz, by rw [List.getElem?_map, hi]; rfl, hn⟩
  · exact .inl ⟨.int (m : Int), .int _, decide_eq_false (by omega)⟩
def spx_read (K : PySem.W.Frag) (C : Addr) : Sp := fun vs H _ E => ∃ v : V, vs = [v] ∧ BadText K H v ∧ ∀ H', Ex H H' → E (.ref C) none H'
theorem okx_read (T : Wd K mg) : FnOk P w K mg base (L2.CX P w) 7 T.f_read T.d_read ["text"] (spx_read K T.C_NoText) := by
  have G_numbers_in := okb_numbers_in (P := P) (w := w) (base := base) T
  have G_Net_init := okn_Net_init (P := P) (w := w) (base := base) T
  refine T.F_read.okX sc_read (fun vs H Q E h => ?_) (fun cdv A outer s H vs Q E hr h => ?_)
  · obtain ⟨v, rfl, _⟩ := h
    rfl
  · obtain ⟨v, rfl, hb, k⟩ := h
    refine ⟨_, (pss_cons (ps_if (pt_cmpR G.op_neTy (pe_callTy call_type1 (by rfl) T.n_type (by decide +kernel) (pa_cons (pv 0) pa_nil)) (pe_bltn (v := .ty "str") (by rfl) T.n_str (by decide +kernel) rfl) (nomark _)) (pss_one (ps_raise rfl (takes_of rfl rfl rfl rfl) (SkE.pmk_own1 PySem.F.excBase_ValueError T.X_NoText.x T.m_NoText T.X_NoText.kp (raises_own T.X_NoText.b T.X_NoText.t) rfl pe_str))) pss_nil) (pss_cons (ps_set (i := 1) sc_read.nd rfl (Or.inl rfl) (pe_split (pv 0) pe_str)) (pss_cons (ps_set (i := 2) sc_read.nd rfl (Or.inl rfl) (pe_ix ix_list (pe_call G_numbers_in (hr.mono (by decide)) (by rfl) T.m_numbers_in T.F_numbers_in.kp T.b_numbers_in .nil (passes_call (takes_of rfl rfl rfl rfl) (fun _ _ _ _ h => h)) (pa_cons (pe_ix ix_list (pv 1) pe_int (fun _ _ => rfl)) (pa_cons pe_str (pa_cons pe_int pa_nil)))) pe_int (fun _ _ => rfl))) (pss_cons (G.ps_setLcX (i := 3) (own := [("row", 4)]) (g := (gName 4)) (tt := tYes) rfl rfl rfl (takes_of rfl rfl rfl rfl) sc_read.nd rfl rfl (sw_true rfl rfl rfl (by decide +kernel)) (pi_list (pe_slice sl_list (pv 1) (po_some pe_int) po_none)) (blkOk_by (own := [("row", 4)]) (N := ["text", "rows", "many", "ties", "row"]) (sc := defScope s_read) (by decide +kernel)) (fun _ _ _ _ _ => (pg_name (i := 4) sc_read.nd rfl (Or.inl rfl))) (fun _ _ _ _ _ => pts_nil) (fun _ _ _ _ _ => (pe_callTy (G.kn_tuple_of (K := K) rfl) (by rfl) T.n_tuple (by decide +kernel) (pa_cons (pe_call G_numbers_in (hr.mono (by decide)) (by rfl) T.m_numbers_in T.F_numbers_in.kp T.b_numbers_in .nil (G.blk_passes (fun _ _ _ h => h)) (pa_cons (pv 4) (pa_cons pe_str (pa_cons pe_int pa_nil)))) pa_nil)))) (pss_one (L2H.ps_try_onlyX rfl rfl ⟨rfl, by decide, .inl T.m_NoNet⟩ (L2H.passesAt_of rfl) (takes_of rfl rfl rfl rfl) (fun W pn xe tk _ _ => (pss_one (ps_ret (G.pe_makeS T.MK_Net G_Net_init (hr.mono (by decide)) (by rfl) T.m_Net T.b_Net_init (fun σ => L2N.passAt tk σ) (pa_cons (pv 2) (pa_cons (pv 3) pa_nil)))))) (fun a oe cls d pn _ _ tk hot => (pss_one (L2H.ps_raiseHN hot tk (G.pmk5_own1 PySem.F.excBase_ValueError T.X_NoText.x T.m_NoText T.X_NoText.kp (raises_own T.X_NoText.b T.X_NoText.t) rfl pe_str)))))))))), ?_⟩
    rcases hb with ⟨T', ht, h8, hne⟩ | ⟨x, rfl, hz, hbad⟩
    · exact p_when (b := true) (Ex.refl H) (et_is (et_test (ev_op (ev_type (ev_var rfl) ht) ev_c (rv_tyNe h8 t8str))) (by rw [decide_eq_false hne]; rfl)) (fun _ H1 e1 _ => k H1 e1) (fun hb => by cases hb)
    refine p_no (Ex.refl H) (et_is (et_test (ev_op (ev_type (ev_var rfl) (.str _)) ev_c (rv_tyNe t8str t8str))) rfl) fun H1 e1 _ => ?_
    obtain ⟨r0, rs, er⟩ := split_some x "\n"
    have rlen : ∀ y ∈ r0 :: rs, y.length ≤ 30000 := fun y hy => by
      rw [← er] at hy
      exact Nat.le_trans (PyProof.Rows.part_short hy) hz
    have rsl : rs.length ≤ 30002 := by
      have := PyProof.Rows.split_le x "\n"
      rw [er] at this
      simp at this
      omega
    refine p_asgL e1 (el_split (ev_var rfl) ev_c (by decide +kernel) (by omega) er) fun p H2 hp e2 _ h2 => ?_
    have pl : ("places" : Str).length ≤ 100 := by decide +kernel
    have tlen : ("tie" : Str).length ≤ 100 := by decide +kernel
    refine ⟨_, rfl, p, _, 0, _, rfl, rfl, sq_of h2, at_of (j := 0) rfl rfl, r0, "places", 1, rfl, rlen r0 List.mem_cons_self, pl, fun ns hns hrow q H3 hq e3 h3 => ?_, fun _ H' e' => k H' (e2.trans e')⟩
    match ns, hns with
    | [m], _ =>
    refine ⟨q, _, 0, _, rfl, rfl, sq_of h3, at_of (j := 0) rfl rfl, ?_⟩
    refine p_asgLR e3 (el_cNL (fun _ => true) (compAnd (compTie (K := K) (t := fun i => tieRow (rs.getD i Str.empty))) (Pc := fun i => ∃ ns, RowIs (rs.getD i Str.empty) "tie" ns ∧ ns.length = 3)) (el_is (el_sl (ev_var rfl) (eo_some ev_c) eo_none (sq_of h2)) cut_tail) (by rw [List.length_map]; omega) ?_) ?_
    · intro i x' hx
      refine ⟨_, ?w, fun H2 Q _ q => q, et_yes, fun _ => ?_⟩
      case w => rfl
      obtain ⟨r, hr, rfl⟩ : ∃ r, rs[i]? = some r ∧ x' = .str r := by
        rw [List.getElem?_map] at hx
        cases e : rs[i]? with
        | none => rw [e] at hx; cases hx
        | some r => rw [e] at hx; exact ⟨r, rfl, (Option.some.inj hx).symm⟩
      have et : rs.getD i Str.empty = r := by simp [List.getD, hr]
      rw [et]
      intro H4 e4 Q' q'
      refine ⟨_, rfl, r, "tie", 3, rfl, rlen r (List.mem_cons_of_mem _ (List.mem_of_getElem? hr)), tlen, fun ns hns hrow l H5 hl e5 h5 => ?_, fun _ H' e' => k H' (e2.trans (e4.trans e'))⟩
      have tr := tieRow_is hrow hns
      rw [tr.2.1] at h5
      exact ⟨l, _, rfl, .inl ⟨sq_of h5, fun u hu => q' _ _ (e5.trans (Ex.new hu)) ⟨⟨u, rfl, st_of upd_same⟩, ns, hrow, hns⟩⟩⟩
    · intro l ys H4 hl e4 _ h4 hf
      rw [filter_yes, List.length_map] at hf
      have hf1 : Fills (fun i v H => TieV K H v (tieRow (rs.getD i Str.empty))) (List.range rs.length) ys H4 := ⟨hf.1, fun k i v a b => (hf.2 k i v a b).1⟩
      have tz := hf1.ties
      rw [range_getD tieRow rs Str.empty] at tz
      have hrs : ∀ r ∈ rs, ∃ ns, RowIs r "tie" ns ∧ ns.length = 3 := fun r hm => by
        obtain ⟨i, hi⟩ := List.getElem?_of_mem hm
        have hi' := (List.getElem?_eq_some_iff.mp hi).1
        have yl : ys.length = rs.length := by rw [hf.1, List.length_range]
        have z := (hf.2 i i _ (List.getElem?_range hi') (List.getElem?_eq_getElem (by rw [yl]; exact hi'))).2
        rwa [show rs.getD i Str.empty = r by simp [List.getD, hi]] at z
      have hx := read_back er hrow hrs
      have hn : BadNet K H4 (.int (m : Int)) (.ref l) := bad_net (sq_of h4) tz fun a b c d => hbad m _ a b c d hx
      refine ⟨_, rfl, _, rfl, fun x5 dx hx5 hdx nx => ?_⟩
      have e5 : Ex H4 (upd (upd H4 dx (.own x5)) x5 (.ins T.C_Net dx [])) := (Ex.new hdx).trans (Ex.new (by rw [upd_ne nx.symm]; exact hx5))
      refine ⟨x5, _, _, rfl, hn.ex e5, fun H' e6 => ⟨true, exm_self' T.X_NoNet.b T.X_NoNet.i T.X_NoNet.t T.X_NoNet.s, fun _ a ha => ?_, fun z => by cases z⟩⟩
      exact k H' ((e2.trans e4).trans (e5.trans e6))
end
end Toy

namespace Toy
open PySem L2 TL Evl RZ G
section
variable {P : Program} {w : World} {K : PySem.W.Frag} {mg : Str → Option Value} {base : Heap}
/-! ### the law's number -/
noncomputable def lnum (w : Str) : Int := @dite _ (∃ m, Num w m) (Classical.propDecidable _) (fun h => ((Classical.choose h : Nat) : Int)) fun _ => -1
theorem lnum_num {w : Str} {m : Nat} (h : Num w m) : lnum w = (m : Int) := by
  unfold lnum
  rw [dif_pos ⟨m, h⟩]
  exact congrArg _ ((Classical.choose_spec (⟨m, h⟩ : ∃ m, Num w m)).inj h)
theorem lnum_no {w : Str} (h : ∀ m, ¬ Num w m) : lnum w = -1 := by
  unfold lnum
  exact dif_neg fun ⟨m, hm⟩ => h m hm
theorem lnum_nat {w : Str} (h : 0 ≤ lnum w) : ∃ m, Num w m ∧ lnum w = (m : Int) := Classical.byContradiction fun z => by
  have : lnum w = -1 := lnum_no fun m hm => z ⟨m, hm, lnum_num hm⟩
  omega
def sp_lnum : Sp := fun vs H Q _ => ∃ w : Str, vs = [.str w] ∧ w.length ≤ 90000 ∧ RetV (.int (lnum w)) H Q
theorem sv_lnum {w : Str} {H : Hp} (h : w.length ≤ 90000) : SpV sp_lnum [.str w] H (.int (lnum w)) := fun H1 e Q q E => ⟨w, rfl, h, q⟩
theorem ok__law_number (T : Wd K mg) : FnOk P w K mg base CX0 1 T.f__law_number T.d__law_number ["_law_word"] (sp_lnum) := by
  refine T.F__law_number.ok sc__law_number (fun vs H Q E h => ?_) (fun cdv A outer s H vs Q E hr h => ?_)
  · obtain ⟨w, rfl, _⟩ := h
    rfl
  · obtain ⟨w, rfl, hz, k⟩ := h
    refine ⟨_, (pss_cons (ps_if (PW.pt (pw_or (pt_cmpR op_eq (pv 0) pe_str (nomark _)) (pw_or (pt_cmpR op_gt (pe_callB call_len_str (by rfl) T.n_len (by decide +kernel) (pa_cons (pv 0) pa_nil)) pe_int (nomark _)) (pw_or1 (PW.pt (pw_and (pt_cmpR op_eq (pe_ix ix_str (pv 0) pe_int (fun _ _ => rfl)) pe_str (nomark _)) (pw_and1 (pt_cmpR op_ne (pv 0) pe_str (nomark _))))))))) (pss_one (ps_ret (pe_un un_neg pe_int))) pss_nil) (pss_cons (ps_for PassesOwn.never rfl (pi_str (pv 0)) (pg_name (i := 1) sc__law_number.nd rfl (Or.inl rfl)) (pss_one (ps_if (pt_cmpR op_notIn_sign (pv 1) pe_str (by rfl)) (pss_one (ps_ret (pe_un un_neg pe_int))) pss_nil))) (pss_one (ps_ret (pe_callTy call_int_str (by rfl) T.n_int (by decide +kernel) (pa_cons (pv 0) pa_nil)))))), ?_⟩
    have no : (∀ m, ¬ Num w m) → RetV (.int (-1)) H Q := fun h => lnum_no h ▸ k
    have m1 : ∀ {σ : L2.St} {H : Hp}, Ev (tUn (rU fun i => .int (-i)) (tC (.int 1))) σ H (.int (-1)) := fun {σ H} H1 e Q q => ⟨1, rfl, q H1 (Ex.refl H1)⟩
    have w0 : ("" : Str).cps.toList = [] := by decide +kernel
    cases et : tl w with
    | nil =>
      have ew : w = "" := ext_tl (by rw [et]; exact w0.symm)
      refine p_when (b := true) (Ex.refl H) (et_or (a := true) (b := true) (et_is (et_test (ev_op (ev_var rfl) ev_c (rv_eq rfl))) (by rw [ew]; exact decide_eq_true rfl)) (fun z => by cases z)) (fun _ H1 e1 _ => p_ret e1 m1 (no fun m hm => ?_)) (fun hb => by cases hb)
      have := hm.len
      rw [len_tl, et] at this
      exact absurd this.1 (by decide)
    | cons c r =>
    have hc0 : atI w.cps.toList 0 = some c := by
      rw [show w.cps.toList = c :: r from et]
      exact atI_nat (j := 0) rfl
    have hl : w.length = r.length + 1 := by rw [len_tl, et]; rfl
    have e00 : ("0" : Str).cps = #[48] := by decide +kernel
    have n0 : decide (V.str w = V.str "") = false := decide_eq_false fun q => by
      have e := congrArg tl (V.str.inj q)
      rw [et] at e
      rw [show tl ("" : Str) = [] from w0] at e
      cases e
    refine p_when (b := decide ((10 : Int) < (w.length : Int)) || (decide (c = 48) && !decide (w = "0"))) (Ex.refl H) (et_or (a := false) (et_is (et_test (ev_op (ev_var rfl) ev_c (rv_eq rfl))) n0) (fun _ => et_or (et_test (ev_op (ev_lenStr (ev_var rfl) (by omega)) ev_c rv_I0)) (fun _ => et_is (et_and (et_test (ev_op (ev_op (ev_var rfl) ev_c (rv_ixStr (by omega) hc0)) ev_c (rv_eq rfl))) (fun _ => et_test (ev_op (ev_var rfl) ev_c (rv_ne rfl)))) ?_))) (fun hb H1 e1 _ => p_ret e1 m1 (no fun m hm => ?_)) (fun hb H1 e1 _ => ?_)
    · congr 1
      · refine decide_eq_decide.mpr ⟨fun q => ?_, fun q => by rw [q]; decide +kernel⟩
        have e := congrArg (fun z : Str => z.cps) (V.str.inj q)
        rw [e00] at e
        simpa using e
      · congr 1
        exact decide_eq_decide.mpr ⟨fun z => by injection z, fun z => by rw [z]⟩
    · rcases Bool.or_eq_true_iff.mp hb with z | z
      · have z := of_decide_eq_true z
        have := hm.len
        omega
      · obtain ⟨z1, z2⟩ := Bool.and_eq_true_iff.mp z
        have z1 := of_decide_eq_true z1
        have z3 := hm.head c r et z1
        subst z1
        subst z3
        have : w = "0" := ext_tl (by rw [et]; decide +kernel)
        rw [decide_eq_true this] at z2
        cases z2
    rw [Bool.or_eq_false_iff] at hb
    have hlen : w.length ≤ 10 := by
      have := of_decide_eq_false hb.1
      omega
    refine q_forStr (ev_var rfl) (fun i σ' H' => Ex H H' ∧ (∀ (j c : Nat), j < i → (tl w)[j]? = some c → 48 ≤ c ∧ c ≤ 57) ∧ ∃ u, σ' = [some (.str w), u]) (fun H2 e2 => ⟨e1.trans e2, fun j c hj => absurd hj (Nat.not_lt_zero _), _, rfl⟩) ?_ ?_
    · rintro i c' σ' H' hc ⟨e, hd, u, rfl⟩
      have hc' : (tl w)[i]? = some c' := by rw [← hc, show tl w = w.cps.toList from rfl, Array.getElem?_toList]
      refine p_whenE (b := !decide (c' ∈ (("0123456789" : Str).cps.toList))) e (et_test (ev_op (ev_var rfl) ev_c rv_notSign)) (fun hb H2 e2 _ => p_ret e2 m1 (no fun m hm => ?_)) (fun hb H2 e2 _ => ?_)
      · have := hm.digits c' (List.mem_of_getElem? hc')
        rw [decide_eq_true ((sgn_mem c').mpr this)] at hb
        cases hb
      · have hcd : 48 ≤ c' ∧ c' ≤ 57 := (sgn_mem c').mp (by simpa using hb)
        refine ⟨e2, fun j c2 hj hj' => ?_, _, rfl⟩
        rcases Nat.lt_or_ge j i with z | z
        · exact hd j c2 z hj'
        · have : j = i := by omega
          subst this
          rw [hc'] at hj'
          cases hj'
          exact hcd
    rintro σ' H' ⟨e, hd, u, rfl⟩
    have hdig : ∀ c ∈ tl w, 48 ≤ c ∧ c ≤ 57 := fun c hc => by
      obtain ⟨j, hj⟩ := List.mem_iff_getElem?.mp hc
      exact hd j c (List.getElem?_eq_some_iff.mp hj).1 hj
    obtain ⟨m, hm⟩ := num_make (by omega) hlen hdig fun c' r' e' hc => by
      rw [et] at e'
      injection e' with e1 e3
      subst e1
      subst e3
      subst hc
      have hz := hb.2
      rw [decide_eq_true rfl, Bool.true_and] at hz
      have hz : w = "0" := by simpa using hz
      have := congrArg tl hz
      rw [et, show tl ("0" : Str) = [48] by decide +kernel] at this
      injection this
    rw [lnum_num hm] at k
    obtain ⟨hm1, hm2⟩ := id hm
    subst hm2
    exact p_ret e (ev_intS (ev_var rfl) hm1) k
end
end Toy

namespace Toy
open PySem L2 TL Evl RZ G
section
variable {P : Program} {w : World} {K : PySem.W.Frag} {mg : Str → Option Value} {base : Heap}
/-! ### what the law makes of a text -/
structure NetText (x : Str) (n : Nat) (ts : List Tie) : Prop where
  one : 1 ≤ n
  two : n ≤ 24
  len : ts.length ≤ 300
  good : ∀ t ∈ ts, Good n t
  eq : x = textS n ts
theorem lnum_nS {k : Nat} (h : k < 10000000000) : lnum (nS (k : Int)) = (k : Int) := lnum_num ⟨h, rfl⟩
theorem lnum_back {a : Str} (h : 0 ≤ lnum a) : a = nS (lnum a) := by
  obtain ⟨m, hm, e⟩ := lnum_nat h
  rw [e]
  exact hm.2
theorem head_words (n : Nat) : Txt.split (headS n) " " = (["places", nS (n : Int)] : List Str) := words_split (name := "places") (ns := [n]) (by rw [tl_places]; decide)
theorem row_words {n : Nat} {t : Tie} (g : Good n t) : Txt.split (rowS t) " " = (["tie", nS (t.1 : Int), nS (t.2.1 : Int), nS t.2.2] : List Str) := by
  rw [row_join g, words_split (by rw [tl_tie]; decide)]
  show (["tie", nS (t.1 : Int), nS (t.2.1 : Int), nS ((t.2.2.toNat : Nat) : Int)] : List Str) = _
  rw [← cost_nat g]
def GoodRow (m : Nat) (r a b c : Str) : Prop := Txt.split r " " = (["tie", a, b, c] : List Str) ∧ (0 ≤ lnum a ∧ lnum a < m) ∧ (0 ≤ lnum b ∧ lnum b < m) ∧ lnum a ≠ lnum b ∧ 1 ≤ lnum c ∧ lnum c ≤ 1000000000
theorem goodRow_to {m : Nat} {r a b c : Str} (h : GoodRow m r a b c) : ∃ t, Good m t ∧ r = rowS t ∧ tv t = [.int (lnum a), .int (lnum b), .int (lnum c)] := by
  obtain ⟨h0, ⟨a1, a2⟩, ⟨b1, b2⟩, ne, c1, c2⟩ := h
  have ea : (((lnum a).toNat : Nat) : Int) = lnum a := Int.toNat_of_nonneg a1
  have eb : (((lnum b).toNat : Nat) : Int) = lnum b := Int.toNat_of_nonneg b1
  refine ⟨((lnum a).toNat, (lnum b).toNat, lnum c), ⟨by show (lnum a).toNat < m; omega, by show (lnum b).toNat < m; omega, by show (lnum a).toNat ≠ (lnum b).toNat; omega, c1, c2⟩, ?_, ?_⟩
  · unfold rowS
    show r = Txt.join " " ["tie", nS (((lnum a).toNat : Nat) : Int), nS (((lnum b).toNat : Nat) : Int), nS (lnum c)]
    rw [ea, eb, ← lnum_back a1, ← lnum_back b1, ← lnum_back (by omega : 0 ≤ lnum c), ← h0, join_eq]
    exact (PySem.StrLaws.join_split r " ").symm
  · show [V.int (((lnum a).toNat : Nat) : Int), V.int (((lnum b).toNat : Nat) : Int), V.int (lnum c)] = _
    rw [ea, eb]
theorem goodRow_of {m : Nat} {t : Tie} (g : Good m t) (hm : m ≤ 24) : GoodRow m (rowS t) (nS (t.1 : Int)) (nS (t.2.1 : Int)) (nS t.2.2) := by
  have g1 := g.one
  have g2 := g.two
  have g3 := g.ne
  have g4 := g.lo
  have g5 := g.hi
  have e3 : lnum (nS t.2.2) = t.2.2 := by
    conv => lhs; rw [cost_nat g]
    rw [lnum_nS (by omega)]
    exact (cost_nat g).symm
  refine ⟨row_words g, ?_, ?_, ?_, ?_⟩
  · rw [lnum_nS (by omega)]; omega
  · rw [lnum_nS (by omega)]; omega
  · rw [lnum_nS (by omega), lnum_nS (by omega)]; omega
  · rw [e3]; exact ⟨g4, g5⟩
theorem NetText.rows {x : Str} {n : Nat} {ts : List Tie} (h : NetText x n ts) : Txt.split x "\n" = headS n :: ts.map rowS := by
  rw [h.eq]
  exact text_split h.good
theorem compRow {t : Nat → List V} : CompR (fun i H1 v H2 => ∃ a, v = .ref a ∧ H1 a = none ∧ H2 a = some (.lst (t i))) (fun D i v H => ∃ a, v = .ref a ∧ a ≠ D ∧ H a = some (.lst (t i))) := by
  refine ⟨fun D i v H1 H2 acc acc' e hD r => ?_, fun D i v H H2 acc acc' h1 h2 k r => ?_⟩
  · obtain ⟨a, rfl, f, h⟩ := r
    have ne : a ≠ D := (ne_of_none hD f).symm
    exact ⟨a, rfl, ne, by rw [upd_ne ne]; exact h⟩
  · obtain ⟨a, rfl, ne, h⟩ := r
    exact ⟨a, rfl, ne, k _ _ ne h⟩
def sp_due (K : PySem.W.Frag) : Sp := fun vs H Q _ => ∃ x : Str, vs = [.str x] ∧ x.length ≤ 30000 ∧
  (∀ n ts, NetText x n ts → ∀ l p xs H2, Ex H H2 → H l = none → H2 l = some (.lst [.int (n : Int), .ref p]) → H2 p = some (.lst xs) → TiesV K H2 xs ts → Q (.ref l) H2) ∧
  ((∀ n ts, ¬ NetText x n ts) → RetL [] H Q)
theorem ok__law_due (T : Wd K mg) : FnOk P w K mg base CX0 2 T.f__law_due T.d__law_due ["_law_text"] (sp_due K) := by
  have G__law_number := ok__law_number (P := P) (w := w) (base := base) T
  refine T.F__law_due.ok sc__law_due (fun vs H Q E h => ?_) (fun cdv A outer s H vs Q E hr h => ?_)
  · obtain ⟨w, rfl, _⟩ := h
    rfl
  · obtain ⟨x, rfl, hz, kg, kb⟩ := h
    refine ⟨_, (pss_cons (ps_setLc (i := 1) (own := [("_law_row", 2)]) (g := (gName 2)) (tt := tYes) rfl sc__law_due.nd rfl rfl (sw_true rfl rfl rfl (by decide +kernel)) (pi_list (pe_split (pv 0) pe_str)) (blkOk_by (own := [("_law_row", 2)]) (N := ["_law_text", "_law_rows", "_law_row", "_law_many", "_law_ties", "_law_tie"]) (sc := defScope s__law_due) (by decide +kernel)) (fun _ _ _ _ _ => (pg_name (i := 2) sc__law_due.nd rfl (Or.inl rfl))) (fun _ _ _ _ _ => pts_nil) (fun _ _ _ _ _ => (pe_split (pv 2) pe_str))) (pss_cons (ps_if (PW.pt (pw_or (pt_cmpR op_ne (pe_callB call_len_seq (by rfl) T.n_len (by decide +kernel) (pa_cons (pe_ix ix_list (pv 1) pe_int (fun _ _ => rfl)) pa_nil)) pe_int (nomark _)) (pw_or (pt_cmpR op_ne (pe_ix ix_list (pe_ix ix_list (pv 1) pe_int (fun _ _ => rfl)) pe_int (fun _ _ => rfl)) pe_str (nomark _)) (pw_or (pt_not (pt_chain op_le op_le pe_int (pe_call G__law_number (hr.mono (by decide)) (by rfl) T.m__law_number T.F__law_number.kp T.b__law_number .nil pass0 (pa_cons (pe_ix ix_list (pe_ix ix_list (pv 1) pe_int (fun _ _ => rfl)) pe_int (fun _ _ => rfl)) pa_nil)) pe_int)) (pw_or1 (pt_cmpR op_gt (pe_callB call_len_seq (by rfl) T.n_len (by decide +kernel) (pa_cons (pv 1) pa_nil)) pe_int (nomark _))))))) (pss_one (ps_ret (pe_lst pa_nil))) pss_nil) (pss_cons (ps_set (i := 3) sc__law_due.nd rfl (Or.inl rfl) (pe_call G__law_number (hr.mono (by decide)) (by rfl) T.m__law_number T.F__law_number.kp T.b__law_number .nil pass0 (pa_cons (pe_ix ix_list (pe_ix ix_list (pv 1) pe_int (fun _ _ => rfl)) pe_int (fun _ _ => rfl)) pa_nil))) (pss_cons (ps_set (i := 4) sc__law_due.nd rfl (Or.inl rfl) (pe_lst pa_nil)) (pss_cons (ps_for PassesOwn.never rfl (pi_list (pe_slice sl_list (pv 1) (po_some pe_int) po_none)) (pg_name (i := 2) sc__law_due.nd rfl (Or.inl rfl)) (pss_cons (ps_if (PW.pt (pw_or (pt_cmpR op_ne (pe_callB call_len_seq (by rfl) T.n_len (by decide +kernel) (pa_cons (pv 2) pa_nil)) pe_int (nomark _)) (pw_or1 (pt_cmpR op_ne (pe_ix ix_list (pv 2) pe_int (fun _ _ => rfl)) pe_str (nomark _))))) (pss_one (ps_ret (pe_lst pa_nil))) pss_nil) (pss_cons (ps_set (i := 5) sc__law_due.nd rfl (Or.inl rfl) (pe_tup (pa_cons (pe_call G__law_number (hr.mono (by decide)) (by rfl) T.m__law_number T.F__law_number.kp T.b__law_number .nil pass0 (pa_cons (pe_ix ix_list (pv 2) pe_int (fun _ _ => rfl)) pa_nil)) (pa_cons (pe_call G__law_number (hr.mono (by decide)) (by rfl) T.m__law_number T.F__law_number.kp T.b__law_number .nil pass0 (pa_cons (pe_ix ix_list (pv 2) pe_int (fun _ _ => rfl)) pa_nil)) (pa_cons (pe_call G__law_number (hr.mono (by decide)) (by rfl) T.m__law_number T.F__law_number.kp T.b__law_number .nil pass0 (pa_cons (pe_ix ix_list (pv 2) pe_int (fun _ _ => rfl)) pa_nil)) pa_nil))))) (pss_cons (ps_if (PW.pt (pw_or (pt_not (pt_chain op_le op_lt pe_int (pe_ix ix_tup (pv 5) pe_int (fun _ _ => rfl)) (pv 3))) (pw_or (pt_not (pt_chain op_le op_lt pe_int (pe_ix ix_tup (pv 5) pe_int (fun _ _ => rfl)) (pv 3))) (pw_or (pt_cmpR op_eq (pe_ix ix_tup (pv 5) pe_int (fun _ _ => rfl)) (pe_ix ix_tup (pv 5) pe_int (fun _ _ => rfl)) (nomark _)) (pw_or1 (pt_not (pt_chain op_le op_le pe_int (pe_ix ix_tup (pv 5) pe_int (fun _ _ => rfl)) pe_int))))))) (pss_one (ps_ret (pe_lst pa_nil))) pss_nil) (pss_one (ps_expr (pe_bm PySem.F.plainAttrs_list PySem.F.slot_list_append PySem.F.type_list_append mt_append (pv 4) (pa_cons (pv 5) pa_nil)))))))) (pss_one (ps_ret (pe_lst (pa_cons (pv 3) (pa_cons (pv 4) pa_nil)))))))))), ?_⟩
    obtain ⟨r0, rs, er⟩ := split_some x "\n"
    have rlen : ∀ y ∈ r0 :: rs, y.length ≤ 30000 := fun y hy => by
      rw [← er] at hy
      exact Nat.le_trans (PyProof.Rows.part_short hy) hz
    have rsl : rs.length ≤ 30002 := by
      have := PyProof.Rows.split_le x "\n"
      rw [er] at this
      simp at this
      omega
    refine p_asgLR (Ex.refl H) (el_cNL (fun _ => true) (compRow (t := fun i => (Txt.split ((r0 :: rs).getD i Str.empty) " ").map V.str)) (el_split (ev_var rfl) ev_c (by decide +kernel) (by omega) er) (by rw [List.length_map, List.length_cons]; omega) ?_) ?_
    · intro i x' hx
      refine ⟨_, ?w, fun H2 Q _ q => q, et_yes, fun _ => ?_⟩
      case w => rfl
      obtain ⟨r, hr', rfl⟩ : ∃ r, (r0 :: rs)[i]? = some r ∧ x' = .str r := by
        rw [List.getElem?_map] at hx
        cases e : (r0 :: rs)[i]? with
        | none => rw [e] at hx; cases hx
        | some r => rw [e] at hx; exact ⟨r, rfl, (Option.some.inj hx).symm⟩
      have et : (r0 :: rs).getD i Str.empty = r := by simp [List.getD, hr']
      rw [et]
      intro H4 e4 Q' q'
      exact el_split (ev_var rfl) ev_c (by decide +kernel) (by have := rlen r (List.mem_of_getElem? hr'); omega) rfl H4 e4 Q' fun p H5 hp e5 h5 => q' _ H5 e5 ⟨p, rfl, hp, h5⟩
    intro p vs H1 hp e1 _ h1 hf
    rw [filter_yes, List.length_map] at hf
    have row_at : ∀ (i : Nat) (r : Str), (r0 :: rs)[i]? = some r → ∃ a, vs[i]? = some (.ref a) ∧ H1 a = some (.lst ((Txt.split r " ").map V.str)) := fun i r hi => by
      have hi' := (List.getElem?_eq_some_iff.mp hi).1
      have vl : vs.length = (r0 :: rs).length := by rw [hf.1, List.length_range]
      have hv := List.getElem?_eq_getElem (l := vs) (i := i) (by rw [vl]; exact hi')
      obtain ⟨a, ha, _, h⟩ := hf.2 i i _ (List.getElem?_range hi') hv
      rw [show (r0 :: rs).getD i Str.empty = r by simp [List.getD, hi]] at h
      exact ⟨a, by rw [hv, ha], h⟩
    have vl : vs.length = rs.length + 1 := by rw [hf.1, List.length_range, List.length_cons]
    obtain ⟨a0, v0, ha0⟩ := row_at 0 r0 rfl
    have no : ∀ (σ : L2.St) (H' : Hp), Ex H H' → (∀ n ts, ¬ NetText x n ts) → tRet (tLst tNil) { nx := fun _ H' => Q .non H', rt := Q } σ H' := fun σ H' e h => p_retL (Ex.refl H') (el_lst ea_nil (Nat.zero_le _)) fun q H3 hq e3 h3 => kb h q H3 (fresh_back e hq) (e.trans e3) h3
    have noX : ∀ n ts, NetText x n ts → r0 = headS n ∧ rs = ts.map rowS := fun n ts N => by
      have := N.rows
      rw [er] at this
      injection this with z1 z2
      exact ⟨z1, z2⟩
    have h0v : H1 p = some (.lst vs) := h1
    have ix0 : ∀ {σ : L2.St} {H' : Hp}, Ex H1 H' → σ[1]? = some (some (.ref p)) → Ev (tOp (rIxL K) (tVar 1) (tC (.int 0))) σ H' (.ref a0) := fun e hs => ev_op (ev_var hs) ev_c (rv_ixL (sq_of (e _ _ h1)) (at_of (j := 0) rfl v0))
    by_cases hl : ¬ (Txt.split r0 " ").length = 2
    · exact p_when (b := true) (Ex.refl H1) (et_or (a := true) (b := true) (et_is (et_test (ev_op (ev_lenS (ix0 (Ex.refl H1) rfl) (Or.inl (sq_of ha0))) ev_c (rv_ne rfl))) (by rw [List.length_map, Bool.not_eq_true', decide_eq_false_iff_not]; exact fun z => hl (by injection z with z; omega))) (fun z => by cases z)) (fun _ H2 e2 _ => no _ H2 (e1.trans e2) fun n ts N => by
        obtain ⟨z, _⟩ := noX n ts N
        rw [z, head_words] at hl
        exact hl rfl) (fun hb => by cases hb)
    have hl := Decidable.not_not.mp hl
    obtain ⟨w0, w1, ew⟩ : ∃ w0 w1, Txt.split r0 " " = [w0, w1] := by
      match Txt.split r0 " ", hl with
      | [a, b], _ => exact ⟨a, b, rfl⟩
    rw [ew] at ha0
    have wlen : ∀ y ∈ ([w0, w1] : List Str), y.length ≤ 30000 := fun y hy => by
      rw [← ew] at hy
      exact Nat.le_trans (PyProof.Rows.part_short hy) (rlen r0 List.mem_cons_self)
    have iw0 : ∀ {σ : L2.St} {H' : Hp}, Ex H1 H' → σ[1]? = some (some (.ref p)) → Ev (tOp (rIxL K) (tOp (rIxL K) (tVar 1) (tC (.int 0))) (tC (.int 0))) σ H' (.str w0) := fun e hs => ev_op (ix0 e hs) ev_c (rv_ixL (sq_of (e _ _ ha0)) (at_of (j := 0) rfl rfl))
    have iw1 : ∀ {σ : L2.St} {H' : Hp}, Ex H1 H' → σ[1]? = some (some (.ref p)) → Ev (tOp (rIxL K) (tOp (rIxL K) (tVar 1) (tC (.int 0))) (tC (.int 1))) σ H' (.str w1) := fun e hs => ev_op (ix0 e hs) ev_c (rv_ixL (sq_of (e _ _ ha0)) (at_of (j := 1) rfl rfl))
    have w1l : w1.length ≤ 90000 := by have := wlen w1 (by simp); omega
    refine p_when (b := !decide (w0 = "places") || (!(decide (1 ≤ lnum w1) && decide (lnum w1 ≤ 24)) || decide (300 < rs.length))) (Ex.refl H1) (et_is (et_or (a := false) (et_is (et_test (ev_op (ev_lenS (ix0 (Ex.refl H1) rfl) (Or.inl (sq_of ha0))) ev_c (rv_ne rfl))) (by rfl)) (fun _ => et_or (et_test (ev_op (iw0 (Ex.refl H1) rfl) ev_c (rv_ne rfl))) (fun _ => et_or (et_not (et_test (ev_chain ev_c (ev_call (ea_cons (iw1 (Ex.refl H1) rfl) ea_nil) (sv_lnum w1l)) rv_I0 (fun _ => ev_c) (fun _ => rv_I0)))) (fun _ => et_test (ev_op (ev_lenS (ev_var rfl) (Or.inl (sq_of h1))) ev_c rv_I0))))) ?_) (fun hb H2 e2 _ => no _ H2 (e1.trans e2) fun n ts N => ?_) (fun hb H2 e2 _ => ?_)
    · rw [Bool.false_or, vl]
      congr 1
      · congr 1
        exact decide_eq_decide.mpr ⟨fun z => by injection z, fun z => by rw [z]⟩
      · congr 1
        exact decide_eq_decide.mpr (by omega)
    · obtain ⟨z1, z2⟩ := noX n ts N
      rw [z1, head_words] at ew
      injection ew with y0 y1
      injection y1 with y1 _
      have n1 := N.one
      have n2 := N.two
      have n3 := N.len
      rw [← y0, ← y1, lnum_nS (by omega), z2, List.length_map] at hb
      simp at hb
      omega
    rw [Bool.or_eq_false_iff, Bool.or_eq_false_iff] at hb
    obtain ⟨hb1, hb2, hb3⟩ := hb
    have q1 : w0 = "places" := by simpa using hb1
    have q2 : 1 ≤ lnum w1 ∧ lnum w1 ≤ 24 := by simpa using hb2
    have q3 : rs.length ≤ 300 := by simpa using hb3
    obtain ⟨m, hm, em⟩ := lnum_nat (w := w1) (by omega)
    rw [em] at q2
    have er0 : r0 = headS m := by
      unfold headS
      rw [← hm.2, ← q1, ← ew, join_eq]
      exact (PySem.StrLaws.join_split r0 " ").symm
    refine p_asg e2 (ev_is (ev_call (ea_cons (iw1 (Ex.refl H1) rfl) ea_nil) (sv_lnum w1l)) (by rw [em])) fun H3 e3 _ => ?_
    refine p_asgL e3 (el_lst ea_nil (Nat.zero_le _)) fun q H4 hq e4 _ h4 => ?_
    obtain ⟨v0', vr, ev⟩ : ∃ a b, vs = a :: b := by
      cases vs with
      | nil => simp at vl
      | cons a b => exact ⟨a, b, rfl⟩
    have vrl : vr.length = rs.length := by rw [ev] at vl; simpa using vl
    have vr_at : ∀ (i : Nat) (r : Str), rs[i]? = some r → ∃ a, vr[i]? = some (.ref a) ∧ H1 a = some (.lst ((Txt.split r " ").map V.str)) := fun i r hi => by
      obtain ⟨a, ha, h⟩ := row_at (i + 1) r hi
      rw [ev] at ha
      exact ⟨a, ha, h⟩
    rw [ev] at h1
    have hq1 : H1 q = none := fresh_back e3 hq
    refine q_forNLn (el_is (el_sl (ev_var rfl) (eo_some ev_c) eo_none (sq_of (e4 _ _ h1))) cut_tail) (fun p' i σ' H' => Ex H1 H' ∧ p' ≠ q ∧ H' p' = some (.lst vr) ∧ (∃ (ts : List Tie) (xs : List V), H' q = some (.lst xs) ∧ TiesV K H' xs ts ∧ ts.length = i ∧ (∀ t ∈ ts, Good m t) ∧ rs.take i = ts.map rowS) ∧ ∃ u v, σ' = [some (.str x), some (.ref p), u, some (.int (m : Int)), some (.ref q), v]) (fun p' H5 hp' e5 h5 => ⟨e4.trans e5, (ne_of_none h4 hp').symm, h5, ⟨[], [], e5 _ _ h4, .nil, rfl, (fun t ht => nomatch ht), rfl⟩, _, _, rfl⟩) (fun p' i σ' H' _ p => sq_of p.2.2.1) ?_ ?_
    · rintro p' i v σ' H' hv ⟨e, npq, hp', ⟨ts, xs, hxs, tz, tl', tg, tr⟩, u, v', rfl⟩
      have hi := (List.getElem?_eq_some_iff.mp hv).1
      rw [vrl] at hi
      have hr' := List.getElem?_eq_getElem hi
      generalize rs[i] = r at hr'
      obtain ⟨a, hva, ha⟩ := vr_at i r hr'
      rw [hv] at hva
      cases hva
      have ha' := e _ _ ha
      have rl := rlen r (List.mem_cons_of_mem _ (List.mem_of_getElem? hr'))
      have bad : (∀ a b c, ¬ GoodRow m r a b c) → ∀ n ts, ¬ NetText x n ts := fun h n ts N => by
        obtain ⟨z1, z2⟩ := noX n ts N
        have n1 := N.one
        have n2 := N.two
        have nm : n = m := by
          rw [z1, head_words] at ew
          injection ew with _ y1
          injection y1 with y1 _
          rw [← y1, lnum_nS (by omega)] at em
          omega
        subst nm
        rw [z2, List.getElem?_map] at hr'
        cases et : ts[i]? with
        | none => rw [et] at hr'; cases hr'
        | some t =>
          rw [et] at hr'
          have := Option.some.inj hr'
          have g := goodRow_of (N.good t (List.mem_of_getElem? et)) n2
          have g' : GoodRow n r _ _ _ := this ▸ g
          exact h _ _ _ g'
      by_cases hl4 : ¬ (Txt.split r " ").length = 4
      · exact p_when (b := true) (Ex.refl H') (et_or (a := true) (b := true) (et_is (et_test (ev_op (ev_lenS (ev_var rfl) (Or.inl (sq_of ha'))) ev_c (rv_ne rfl))) (by rw [List.length_map, Bool.not_eq_true', decide_eq_false_iff_not]; exact fun z => hl4 (by injection z with z; omega))) (fun z => by cases z)) (fun _ H2 e2 _ => no _ H2 ((e1.trans e).trans e2) (bad fun a b c g => hl4 (by rw [g.1]; rfl))) (fun hb => by cases hb)
      have hl4 := Decidable.not_not.mp hl4
      obtain ⟨wt, wa, wb, wc, ewr⟩ : ∃ wt wa wb wc, Txt.split r " " = [wt, wa, wb, wc] := by
        match Txt.split r " ", hl4 with
        | [a, b, c, d], _ => exact ⟨a, b, c, d, rfl⟩
      rw [ewr] at ha'
      have wl : ∀ y ∈ ([wt, wa, wb, wc] : List Str), y.length ≤ 90000 := fun y hy => by
        rw [← ewr] at hy
        have := Nat.le_trans (PyProof.Rows.part_short hy) rl
        omega
      refine p_when (b := !decide (wt = "tie")) (Ex.refl H') (et_is (et_or (a := false) (et_is (et_test (ev_op (ev_lenS (ev_var rfl) (Or.inl (sq_of ha'))) ev_c (rv_ne rfl))) (by rfl)) (fun _ => et_test (ev_op (ev_op (ev_var rfl) ev_c (rv_ixL (sq_of ha') (at_of (j := 0) rfl rfl))) ev_c (rv_ne rfl)))) ?_) (fun hb H2 e2 _ => no _ H2 ((e1.trans e).trans e2) (bad fun a b c g => ?_)) (fun hb H2 e2 _ => ?_)
      · rw [Bool.false_or]
        congr 1
        exact decide_eq_decide.mpr ⟨fun z => by injection z, fun z => by rw [z]⟩
      · have := g.1
        rw [ewr] at this
        injection this with z _
        rw [z] at hb
        simp at hb
      have ewt : wt = "tie" := by simpa using hb
      have num : ∀ (j : Nat) (y : Str), ([wt, wa, wb, wc] : List Str)[j]? = some y → ∀ (H3 : Hp), Ex H' H3 → ∀ (σ : L2.St), σ[2]? = some (some (.ref a)) → Ev (tCall sp_lnum [] E0 (tCons (tOp (rIxL K) (tVar 2) (tC (.int (j : Nat)))) tNil)) σ H3 (.int (lnum y)) := fun j y hy H3 e3 σ hs => ev_call (ea_cons (ev_op (ev_var hs) ev_c (rv_ixL (sq_of (e3 _ _ ha')) (at_of (j := j) rfl (by rw [List.getElem?_map, hy]; rfl)))) ea_nil) (sv_lnum (wl y (List.mem_of_getElem? hy)))
      refine q_asgU (xs := [.int (lnum wa), .int (lnum wb), .int (lnum wc)]) (eu_tup (ea_cons (num 1 wa rfl _ e2 _ rfl) (ea_cons (num 2 wb rfl _ e2 _ rfl) (ea_cons (num 3 wc rfl _ e2 _ rfl) ea_nil))) (Nat.le_of_ble_eq_true rfl)) fun tp H3 htp e3 h3 => ?_
      have st3 := st_of (K := K) h3
      refine p_when (b := !(decide (0 ≤ lnum wa) && decide (lnum wa < m)) || (!(decide (0 ≤ lnum wb) && decide (lnum wb < m)) || (decide (lnum wa = lnum wb) || !(decide (1 ≤ lnum wc) && decide (lnum wc ≤ 1000000000))))) (Ex.refl H3) (et_is (et_or (et_not (et_test (ev_chain ev_c (ev_op (ev_var rfl) ev_c (rv_ixT st3 (at_of (j := 0) rfl rfl))) rv_I0 (fun _ => ev_var rfl) (fun _ => rv_I0)))) (fun _ => et_or (et_not (et_test (ev_chain ev_c (ev_op (ev_var rfl) ev_c (rv_ixT st3 (at_of (j := 1) rfl rfl))) rv_I0 (fun _ => ev_var rfl) (fun _ => rv_I0)))) (fun _ => et_or (et_test (ev_op (ev_op (ev_var rfl) ev_c (rv_ixT st3 (at_of (j := 0) rfl rfl))) (ev_op (ev_var rfl) ev_c (rv_ixT st3 (at_of (j := 1) rfl rfl))) (rv_eq rfl))) (fun _ => et_not (et_test (ev_chain ev_c (ev_op (ev_var rfl) ev_c (rv_ixT st3 (at_of (j := 2) rfl rfl))) rv_I0 (fun _ => ev_c) (fun _ => rv_I0))))))) ?_) (fun hb H4' e4' _ => no _ H4' ((e1.trans e).trans (e2.trans (e3.trans e4'))) (bad fun a b c g => ?_)) (fun hb H4' e4' _ => ?_)
      · congr 1
        congr 1
        congr 1
        exact decide_eq_decide.mpr ⟨fun z => by injection z, fun z => by rw [z]⟩
      · obtain ⟨g0, ga, gb, gn, gc⟩ := g
        rw [ewr] at g0
        injection g0 with _ g0
        injection g0 with y1 g0
        injection g0 with y2 g0
        injection g0 with y3 _
        rw [← y1] at ga gn
        rw [← y2] at gb gn
        rw [← y3] at gc
        simp at hb
        omega
      · have gr : GoodRow m r wa wb wc := by
          rw [Bool.or_eq_false_iff, Bool.or_eq_false_iff, Bool.or_eq_false_iff] at hb
          obtain ⟨x1, x2, x3, x4⟩ := hb
          exact ⟨by rw [ewr, ewt], by simpa using x1, by simpa using x2, by simpa using x3, by simpa using x4⟩
        obtain ⟨t, gt, rt, tvt⟩ := goodRow_to gr
        rw [← tvt] at h3
        have e5 := e2.trans (e3.trans e4')
        refine s_app (v := .ref tp) (e5 _ _ hxs) (ev_var rfl) (ev_var rfl) (by have := tz.len; omega) fun H6 e6 => ?_
        have e7 := e5.trans e6
        have tzs : TiesV K H6 (xs ++ [.ref tp]) (ts ++ [t]) := (tz.ex e7).snoc ⟨tp, rfl, st_of ((e4'.trans e6) _ _ h3)⟩
        refine ⟨(e.trans e7).mut hq1, npq, by rw [upd_ne npq]; exact e7 _ _ hp', ⟨ts ++ [t], xs ++ [.ref tp], upd_same, tzs.updL (e7 _ _ hxs), by rw [List.length_append, tl']; rfl, ?_, ?_⟩, _, _, rfl⟩
        · intro u hu
          rcases List.mem_append.mp hu with z | z
          · exact tg u z
          · rw [List.mem_singleton.mp z]; exact gt
        · rw [take_snoc hr', tr, List.map_append, rt]
          rfl
    · rintro p' σ' H' ⟨e, npq, hp', ⟨ts, xs, hxs, tz, tl', tg, tr⟩, u, v', rfl⟩
      rw [vrl, List.take_length] at tr
      have N : NetText x m ts := ⟨by omega, by omega, by omega, tg, by
        have z : Txt.join "\n" (r0 :: rs) = x := by rw [← er, join_eq]; exact PySem.StrLaws.join_split x "\n"
        unfold textS
        rw [← z, er0, tr]⟩
      refine s_retL (el_lst (ea_cons (ev_var rfl) (ea_cons (ev_var rfl) ea_nil)) (Nat.le_of_ble_eq_true rfl)) fun l H5 hl e5 h5 => kg m ts N l q xs H5 ((e1.trans e).trans e5) (fresh_back (e1.trans e) hl) h5 (e5 _ _ hxs) (tz.ex e5)
end
end Toy

namespace Toy
open PySem L2 TL Evl RZ G
section
variable {P : Program} {w : World} {K : PySem.W.Frag} {mg : Str → Option Value} {base : Heap}
/-! ### texts of nets -/
def sp_shown (K : PySem.W.Frag) (C : Addr) : Sp := fun vs H Q _ => ∃ (x : Addr) (n : Nat) (ts : List Tie), vs = [.ref x] ∧ NetAt K C H x n ts ∧ RetV (.str (textS n ts)) H Q
theorem sv_shown {C x : Addr} {n : Nat} {ts : List Tie} {H : Hp} (N : NetAt K C H x n ts) : SpV (sp_shown K C) [.ref x] H (.str (textS n ts)) := fun H1 e Q q E => ⟨x, n, ts, rfl, N.ex e, q⟩
theorem text_room {n : Nat} {ts : List Tie} (hn : n ≤ 24) (hz : ts.length ≤ 300) (g : ∀ t ∈ ts, Good n t) : ((headS n :: ts.map rowS).map (·.length)).sum + (headS n :: ts.map rowS).length * ("\n" : Str).length ≤ 16777216 := by
  have h1 : ("\n" : Str).length = 1 := by decide +kernel
  have h2 : ∀ us : List Tie, (∀ t ∈ us, Good n t) → ((us.map rowS).map (·.length)).sum ≤ 40 * us.length := by
    intro us
    induction us with
    | nil => intro _; simp
    | cons u us ih =>
      intro hu
      have a := row_len (hu u (List.mem_cons_self ..)) hn
      have b := ih fun t ht => hu t (List.mem_cons_of_mem _ ht)
      simp only [List.map_cons, List.sum_cons, List.length_cons]
      omega
  have a := h2 ts g
  have b := head_len hn
  rw [h1]
  simp only [List.map_cons, List.sum_cons, List.length_cons, List.length_map]
  omega
def sp_number_in : Sp := fun vs H Q _ => ∃ m : Nat, vs = [.str (nS (m : Int))] ∧ m < 10000000000 ∧ RetV (.int (m : Int)) H Q
theorem sv_number_in {m : Nat} {H : Hp} (h : m < 10000000000) : SpV sp_number_in [.str (nS (m : Int))] H (.int (m : Int)) := fun H1 e Q q E => ⟨m, rfl, h, q⟩
theorem ok_number_in (T : Wd K mg) : FnOk P w K mg base CX0 1 T.f_number_in T.d_number_in ["word"] (sp_number_in) := by
  refine T.F_number_in.ok sc_number_in (fun vs H Q E h => ?_) (fun cdv A outer s H vs Q E hr h => ?_)
  · obtain ⟨m, rfl, _⟩ := h
    rfl
  · obtain ⟨m, rfl, hm, k⟩ := h
    have z10 := nS_len hm
    have z1 : 1 ≤ (nS (m : Int)).length := by
      rw [len_tl, nS_tl]
      have := numL_ne m
      cases e : numL m with
      | nil => exact absurd e this
      | cons a b => simp
    have hat : ∀ i c : Nat, (nS (m : Int)).cps[i]? = some c → c ∈ numL m := fun i c hc => by
      rw [← nS_tl]
      exact List.mem_of_getElem? (by rw [← hc, show tl (nS (m : Int)) = (nS (m : Int)).cps.toList from rfl, Array.getElem?_toList])
    refine ⟨_, (pss_cons (ps_if (PW.pt (pw_or (pt_cmpR op_lt (pe_callB call_len_str (by rfl) T.n_len (by decide +kernel) (pa_cons (pv 0) pa_nil)) pe_int (nomark _)) (pw_or1 (pt_cmpR op_gt (pe_callB call_len_str (by rfl) T.n_len (by decide +kernel) (pa_cons (pv 0) pa_nil)) (pe_glob (v := .int 10) (by rfl) T.c_MOST_FIGURES ⟨_, rfl⟩) (nomark _))))) (pss_one (ps_never)) pss_nil) (pss_cons (ps_for PassesOwn.never rfl (pi_str (pv 0)) (pg_name (i := 1) sc_number_in.nd rfl (Or.inl rfl)) (pss_one (ps_if (pt_cmpR op_notIn_sign (pv 1) (pe_glob (v := .str "0123456789") (by rfl) T.c_FIGURES ⟨_, rfl⟩) (by rfl)) (pss_one (ps_never)) pss_nil))) (pss_cons (ps_if (PW.pt (pw_and (pt_cmpR op_eq (pe_ix ix_str (pv 0) pe_int (fun _ _ => rfl)) pe_str (nomark _)) (pw_and1 (pt_cmpR op_gt (pe_callB call_len_str (by rfl) T.n_len (by decide +kernel) (pa_cons (pv 0) pa_nil)) pe_int (nomark _))))) (pss_one (ps_never)) pss_nil) (pss_one (ps_ret (pe_callTy call_int_str (by rfl) T.n_int (by decide +kernel) (pa_cons (pv 0) pa_nil))))))), ?_⟩
    refine p_no (Ex.refl H) (et_is (et_or (et_test (ev_op (ev_lenStr (ev_var rfl) (by omega)) ev_c rv_I0)) (fun _ => et_test (ev_op (ev_lenStr (ev_var rfl) (by omega)) ev_c rv_I0))) (by simp; omega)) fun H1 e1 _ => ?_
    refine q_forStr (ev_var rfl) (fun i σ' H' => Ex H H' ∧ ∃ u, σ' = [some (.str (nS (m : Int))), u]) (fun H2 e2 => ⟨e1.trans e2, _, rfl⟩) ?_ ?_
    · rintro i c σ' H' hc ⟨e, u, rfl⟩
      have hd := numL_digits m c (hat i c hc)
      refine p_noE e (et_is (et_test (ev_op (ev_var rfl) ev_c rv_notSign)) (by rw [decide_eq_true ((sgn_mem c).mpr hd)]; rfl)) fun H2 e2 _ => ?_
      exact ⟨e2, _, rfl⟩
    · rintro σ' H' ⟨e, u, rfl⟩
      obtain ⟨c, r, ec, hc⟩ : ∃ c r, numL m = c :: r ∧ (c = 48 → r = []) := by
        by_cases h0 : m = 0
        · subst h0
          exact ⟨48, [], numL_lt (by decide), fun _ => rfl⟩
        · obtain ⟨c, r, e, hne⟩ := numL_head m (by omega)
          exact ⟨c, r, e, fun h => absurd h hne⟩
      have hc0 : atI (nS (m : Int)).cps.toList 0 = some c := by
        have e0 : (nS (m : Int)).cps.toList = c :: r := (nS_tl m).trans ec
        rw [e0]
        exact atI_nat (j := 0) rfl
      have hl : (nS (m : Int)).length = r.length + 1 := by rw [len_tl, nS_tl, ec]; rfl
      refine p_no (Ex.refl H') (et_is (et_and (et_test (ev_op (ev_op (ev_var rfl) ev_c (rv_ixStr (by omega) hc0)) ev_c (rv_eq rfl))) (fun _ => et_test (ev_op (ev_lenStr (x := nS (m : Int)) (ev_var rfl) (by omega)) ev_c rv_I0))) ?_) fun H2 e2 _ => ?_
      · by_cases h48 : c = 48
        · have := hc h48
          subst this
          simp [hl]
        · have : ¬ (V.str ⟨#[c]⟩ = V.str "0") := fun q => by
            have e := congrArg (fun z : Str => z.cps) (V.str.inj q)
            have e2 : ("0" : Str).cps = #[48] := by decide +kernel
            rw [e2] at e
            simp at e
            exact h48 e
          rw [decide_eq_false this]
          rfl
      · exact p_ret e2 (ev_intS (ev_var rfl) hm) fun H3 e3 => k H3 (e.trans e3)
def sp_numbers_in : Sp := fun vs H Q _ => ∃ (name : Str) (ns : List Nat), vs = [.str (Txt.join " " (name :: ns.map fun (k : Nat) => nS (k : Int))), .str name, .int (ns.length : Nat)] ∧ 32 ∉ tl name ∧ (∀ k ∈ ns, k < 10000000000) ∧ ns.length ≤ 3 ∧ (Txt.join " " (name :: ns.map fun (k : Nat) => nS (k : Int))).length ≤ 1000 ∧ RetL (IL ns) H Q
theorem sl_numbers_in {name r : Str} {m : Int} {ns : List Nat} {H : Hp} (hr : r = Txt.join " " (name :: ns.map fun (k : Nat) => nS (k : Int))) (hm : m = (ns.length : Nat)) (h : 32 ∉ tl name) (hn : ∀ k ∈ ns, k < 10000000000) (h3 : ns.length ≤ 3) (hz : r.length ≤ 1000) : SpL sp_numbers_in [.str r, .str name, .int m] H (IL ns) := fun H1 e Q q E =>
  ⟨name, ns, by rw [hr, hm], h, hn, h3, by rw [← hr]; exact hz, fun p H2 hp e2 h2 => q p H2 hp e2 h2⟩
theorem ok_numbers_in (T : Wd K mg) : FnOk P w K mg base CX0 2 T.f_numbers_in T.d_numbers_in ["row", "name", "many"] (sp_numbers_in) := by
  have G_number_in := ok_number_in (P := P) (w := w) (base := base) T
  refine T.F_numbers_in.ok sc_numbers_in (fun vs H Q E h => ?_) (fun cdv A outer s H vs Q E hr h => ?_)
  · obtain ⟨name, ns, rfl, _⟩ := h
    rfl
  · obtain ⟨name, ns, rfl, hb, hk, h3, hz, k⟩ := h
    refine ⟨_, (pss_cons (ps_set (i := 3) sc_numbers_in.nd rfl (Or.inl rfl) (pe_split (pv 0) pe_str)) (pss_cons (ps_if (PW.pt (pw_or (pt_cmpR op_ne (pe_ix ix_list (pv 3) pe_int (fun _ _ => rfl)) (pv 1) (nomark _)) (pw_or1 (pt_cmpR op_ne (pe_callB call_len_seq (by rfl) T.n_len (by decide +kernel) (pa_cons (pv 3) pa_nil)) (pe_op op_add (pv 2) pe_int) (nomark _))))) (pss_one (ps_never)) pss_nil) (pss_one (ps_ret (pe_lc (own := [("word", 4)]) (g := (gName 4)) (tt := tYes) rfl sc_numbers_in.nd (pi_list (pe_slice sl_list (pv 3) (po_some pe_int) po_none)) (blkOk_by (own := [("word", 4)]) (N := ["row", "name", "many", "words", "word"]) (sc := defScope s_numbers_in) (by decide +kernel)) (fun _ _ _ _ _ => (pg_name (i := 4) sc_numbers_in.nd rfl (Or.inl rfl))) (fun _ _ _ _ _ => pts_nil) (fun _ _ _ _ _ => (pe_call G_number_in (hr.mono (by decide)) (by rfl) T.m_number_in T.F_number_in.kp T.b_number_in .nil pass0 (pa_cons (pv 4) pa_nil)))))))), ?_⟩
    refine p_asgL (Ex.refl H) (el_split (ev_var rfl) ev_c (by decide +kernel) (by omega) (words_split hb)) fun p H1 hp e1 _ h1 => ?_
    refine p_no (Ex.refl H1) (et_is (et_or (a := false) (et_is (et_test (ev_op (ev_op (ev_var rfl) ev_c (rv_ixL (sq_of h1) (at_of (j := 0) rfl rfl))) (ev_var rfl) (rv_ne rfl))) (by simp)) (fun _ => et_test (ev_op (ev_lenS (ev_var rfl) (Or.inl (sq_of h1))) (ev_op (ev_var rfl) ev_c rv_I0) (rv_ne rfl)))) (by simp)) fun H2 e2 _ => ?_
    have hc : cutV ((name :: ns.map fun (k : Nat) => nS (k : Int)).map V.str) (some 1) none = ns.map fun (k : Nat) => V.str (nS (k : Int)) := by
      unfold cutV
      rw [show (1 : Int) = ((1 : Nat) : Int) from rfl, HT.sIx_nat, HT.sIx_none]
      simp
      rw [List.take_of_length_le (by rw [List.length_map]; exact Nat.le_refl _)]
      rfl
    refine p_retL e2 (el_is (el_lcNL (fun _ => true) (fun i => .int ((ns.getD i 0 : Nat) : Int)) (el_is (el_sl (ev_var rfl) (eo_some ev_c) eo_none (sq_of h1)) hc) (by rw [List.length_map]; omega) (fun _ => rfl) (fun i x H3 e3 hx => et_yes) (fun i x H3 e3 hx _ => ?_)) (by rw [List.length_map]; exact given_IL ns)) fun q H3 hq e3 h3 => k q H3 (fresh_back e1 hq) (e1.trans e3) h3
    have hx' : ∃ m, ns[i]? = some m ∧ x = .str (nS (m : Int)) := by
      rw [List.getElem?_map] at hx
      cases e : ns[i]? with
      | none => rw [e] at hx; cases hx
      | some m =>
        rw [e] at hx
        exact ⟨m, rfl, (Option.some.inj hx).symm⟩
    obtain ⟨m, hm, rfl⟩ := hx'
    have em : ns.getD i 0 = m := by simp [List.getD, hm]
    rw [em]
    exact ev_call (ea_cons (ev_var rfl) ea_nil) (sv_number_in (hk m (List.mem_of_getElem? hm)))
def sp_read (K : PySem.W.Frag) (C : Addr) : Sp := fun vs H Q _ => ∃ (n : Nat) (ts : List Tie), vs = [.str (textS n ts)] ∧ 1 ≤ n ∧ n ≤ 24 ∧ ts.length ≤ 300 ∧ (∀ t ∈ ts, Good n t) ∧ ∀ x H2, Ex H H2 → NetAt K C H2 x n ts → Q (.ref x) H2
theorem er_read {C : Addr} {σ : L2.St} {H : Hp} {ta : TE} {E : XK} {n : Nat} {ts : List Tie} (ha : Ev ta σ H (.str (textS n ts))) (h1 : 1 ≤ n) (h2 : n ≤ 24) (hz : ts.length ≤ 300) (g : ∀ t ∈ ts, Good n t) : EvR (tCall (sp_read K C) [] E (tCons ta tNil)) σ H (fun _ v H2 => ∃ x, v = .ref x ∧ NetAt K C H2 x n ts) := fun H1 e Q q =>
  ha H1 e _ fun H2 e2 => ⟨n, ts, rfl, h1, h2, hz, g, fun x H3 e3 N => q _ H3 (e2.trans e3) ⟨x, rfl, N⟩⟩
theorem ok_read (T : Wd K mg) : FnOk P w K mg base CX0 7 T.f_read T.d_read ["text"] (sp_read K T.C_Net) := by
  have G_numbers_in := ok_numbers_in (P := P) (w := w) (base := base) T
  have G_Net_init := ok_Net_init (P := P) (w := w) (base := base) T
  refine T.F_read.ok sc_read (fun vs H Q E h => ?_) (fun cdv A outer s H vs Q E hr h => ?_)
  · obtain ⟨n, ts, rfl, _⟩ := h
    rfl
  · obtain ⟨n, ts, rfl, m1, m2, hz, g, k⟩ := h
    have tlen := text_len m2 hz g
    refine ⟨_, (pss_cons (ps_if (pt_cmpR G.op_neTy (pe_callTy call_type1 (by rfl) T.n_type (by decide +kernel) (pa_cons (pv 0) pa_nil)) (pe_bltn (v := .ty "str") (by rfl) T.n_str (by decide +kernel) rfl) (nomark _)) (pss_one (ps_never)) pss_nil) (pss_cons (ps_set (i := 1) sc_read.nd rfl (Or.inl rfl) (pe_split (pv 0) pe_str)) (pss_cons (ps_set (i := 2) sc_read.nd rfl (Or.inl rfl) (pe_ix ix_list (pe_call G_numbers_in (hr.mono (by decide)) (by rfl) T.m_numbers_in T.F_numbers_in.kp T.b_numbers_in .nil pass0 (pa_cons (pe_ix ix_list (pv 1) pe_int (fun _ _ => rfl)) (pa_cons pe_str (pa_cons pe_int pa_nil)))) pe_int (fun _ _ => rfl))) (pss_cons (ps_setLc (i := 3) (own := [("row", 4)]) (g := (gName 4)) (tt := tYes) rfl sc_read.nd rfl rfl (sw_true rfl rfl rfl (by decide +kernel)) (pi_list (pe_slice sl_list (pv 1) (po_some pe_int) po_none)) (blkOk_by (own := [("row", 4)]) (N := ["text", "rows", "many", "ties", "row"]) (sc := defScope s_read) (by decide +kernel)) (fun _ _ _ _ _ => (pg_name (i := 4) sc_read.nd rfl (Or.inl rfl))) (fun _ _ _ _ _ => pts_nil) (fun _ _ _ _ _ => (pe_callTy (G.kn_tuple_of (K := K) rfl) (by rfl) T.n_tuple (by decide +kernel) (pa_cons (pe_call G_numbers_in (hr.mono (by decide)) (by rfl) T.m_numbers_in T.F_numbers_in.kp T.b_numbers_in .nil pass0 (pa_cons (pv 4) (pa_cons pe_str (pa_cons pe_int pa_nil)))) pa_nil)))) (pss_one (ps_try_thru0 (pss_one (ps_ret (pe_make T.MK_Net G_Net_init (hr.mono (by decide)) (by rfl) T.m_Net T.b_Net_init .nil pass0 (pa_cons (pv 2) (pa_cons (pv 3) pa_nil))))))))))), ?_⟩
    refine p_no (Ex.refl H) (et_is (et_test (ev_op (ev_type (ev_var rfl) (.str _)) ev_c (rv_tyNe t8str t8str))) rfl) fun H1 e1 _ => ?_
    refine p_asgL e1 (el_split (ev_var rfl) ev_c (by decide +kernel) (by omega) (text_split g)) fun p H2 hp e2 _ h2 => ?_
    refine p_asg (Ex.refl H2) (ev_opL1 (el_call (ea_cons (ev_op (ev_var rfl) ev_c (rv_ixL (sq_of h2) (at_of (j := 0) rfl rfl))) (ea_cons ev_c (ea_cons ev_c ea_nil))) (sl_numbers_in (ns := [n]) rfl rfl (by rw [tl_places]; decide) (fun k hk => by have := List.mem_singleton.mp hk; omega) (Nat.le_of_ble_eq_true rfl) (by have := head_len m2; omega))) (fun _ _ => ev_c) (fun q H3 hq _ => rv_ixL (v := .int (n : Int)) (sq_of hq) (at_of (j := 0) rfl rfl))) fun H3 e3 _ => ?_
    have hc : cutV ((headS n :: ts.map rowS).map V.str) (some 1) none = ts.map fun t => V.str (rowS t) := by
      unfold cutV
      rw [show (1 : Int) = ((1 : Nat) : Int) from rfl, HT.sIx_nat, HT.sIx_none]
      simp
      rw [List.take_of_length_le (by rw [List.length_map]; exact Nat.le_refl _)]
      rfl
    refine p_asgLR e3 (el_cNL (R0 := fun i _ v H2 => TieV K H2 v (ts.getD i (0, 0, 0))) (fun _ => true) compTie (el_is (el_sl (ev_var rfl) (eo_some ev_c) eo_none (sq_of h2)) hc) (by rw [List.length_map]; omega) ?_) ?_
    · intro i x hx
      refine ⟨_, ?w, fun H2 Q _ q => q, et_yes, fun _ => ?_⟩
      case w => rfl
      have hx' : ∃ t, ts[i]? = some t ∧ x = .str (rowS t) := by
        rw [List.getElem?_map] at hx
        cases e : ts[i]? with
        | none => rw [e] at hx; cases hx
        | some m =>
          rw [e] at hx
          exact ⟨m, rfl, (Option.some.inj hx).symm⟩
      obtain ⟨t, ht, rfl⟩ := hx'
      have gt := g t (List.mem_of_getElem? ht)
      have et : ts.getD i (0, 0, 0) = t := by simp [List.getD, ht]
      rw [et]
      have q1 := gt.one
      have q2 := gt.two
      have q3 := gt.hi
      intro H4 e4 Q q
      refine el_call (xs := IL [t.1, t.2.1, t.2.2.toNat]) (ea_cons (ev_var rfl) (ea_cons ev_c (ea_cons ev_c ea_nil))) (sl_numbers_in (ns := [t.1, t.2.1, t.2.2.toNat]) (row_join gt) rfl (by rw [tl_tie]; decide) (fun k hk => by
        simp only [List.mem_cons, List.not_mem_nil, or_false] at hk
        omega) (Nat.le_of_ble_eq_true rfl) (by have := row_len gt m2; omega)) H4 e4 _ fun l H5 hl e5 h5 => ?_
      rw [tv_IL gt] at h5
      exact ⟨l, tv t, rfl, .inl ⟨sq_of h5, fun u hu => q _ _ (e5.trans (Ex.new hu)) ⟨u, rfl, st_of upd_same⟩⟩⟩
    · intro l ys H4 hl e4 _ h4 hf
      rw [filter_yes, List.length_map] at hf
      have tz := hf.ties
      rw [range_getD (fun t : Tie => t) ts (0, 0, 0), List.map_id'] at tz
      refine er_net (xs := ys) (ts := ts) (ea_cons (ev_var rfl) (ea_cons (ev_var rfl) ea_nil)) m1 m2 (sq_of h4) tz hz g H4 (Ex.refl H4) _ fun v H5 e5 r => ?_
      obtain ⟨x, l', c, rs, rfl, hx, N⟩ := r
      exact k x H5 ((e2.trans e4).trans e5) (N.at_ (tz.ex e5) m1 m2 hz g)
end
end Toy

namespace Toy
open PySem L2 TL Evl RZ G
section
variable {P : Program} {w : World} {K : PySem.W.Frag} {mg : Str → Option Value} {base : Heap}
def sp_trefused (K : PySem.W.Frag) : Sp := fun vs H Q _ => ∃ v : V, vs = [v] ∧ BadText K H v ∧ RetV (.bl true) H Q
theorem sv_trefused {v : V} {H : Hp} (h : BadText K H v) : SpV (sp_trefused K) [v] H (.bl true) := fun H1 e Q q E => ⟨v, rfl, h.ex e, q⟩
theorem ok__law_refused (T : Wd K mg) : FnOk P w K mg base CX0 8 T.f__law_refused T.d__law_refused ["_law_text"] (sp_trefused K) := by
  have G_read := okx_read (P := P) (w := w) (base := base) T
  refine T.F__law_refused.ok sc__law_refused (fun vs H Q E h => ?_) (fun cdv A outer s H vs Q E hr h => ?_)
  · obtain ⟨v, rfl, _⟩ := h
    rfl
  · obtain ⟨v, rfl, hb, k⟩ := h
    refine ⟨_, (pss_cons (ps_try_as (i := 1) rfl rfl sc__law_refused.nd rfl rfl ⟨rfl, by decide, .inl T.m_NoText⟩ takes0 (fun W pn xe tk _ => (pss_one (ps_expr (pe_callS G_read (hr.mono (by decide)) (by rfl) T.m_read T.F_read.kp T.b_read (fun σ => passAt tk σ) (pa_cons (pv 0) pa_nil))))) (fun a oe cls d pn hz hf => (pss_cons (ps_if (pt_val (pe_callB (G.call_isE2 T.X_NoText.ec hz hf) (by rfl) T.n_isinstance (by decide +kernel) (pa_cons (pv 1) (pa_cons (pe_tup (pa_cons (pe_glob (v := .ref T.C_NoNet) (by rfl) T.m_NoNet rfl) (pa_cons (pe_glob (v := .ref T.C_NoPlace) (by rfl) T.m_NoPlace rfl) (pa_cons (pe_glob (v := .ref T.C_NoSide) (by rfl) T.m_NoSide rfl) pa_nil)))) pa_nil)))) (pss_one (ps_ret pe_bl)) pss_nil) (pss_one (ps_ret (pe_and (pe_callB (G.call_isE1 T.X_NoText.ec hz hf) (by rfl) T.n_isinstance (by decide +kernel) (pa_cons (pv 1) (pa_cons (pe_glob (v := .ref T.C_WallError) (by rfl) T.m_WallError rfl) pa_nil))) (pe_one (pe_callB (G.call_isE1 T.X_NoText.ec hz hf) (by rfl) T.n_isinstance (by decide +kernel) (pa_cons (pv 1) (pa_cons (pe_bltn (v := .ty "ValueError") (by rfl) T.n_ValueError (by decide +kernel) rfl) pa_nil)))))))))) (pss_one (ps_ret pe_bl))), ?_⟩
    refine ⟨_, rfl, v, rfl, hb, fun H' e3 => ⟨true, exm_self' T.X_NoText.b T.X_NoText.i T.X_NoText.t T.X_NoText.s, fun _ a ha => ?_, fun z => by cases z⟩⟩
    have kP := kit_no T.X_NoText T.X_NoNet T.su_NoText_NoNet
    have kS := kit_no T.X_NoText T.X_NoPlace T.su_NoText_NoPlace
    have kT := kit_no T.X_NoText T.X_NoSide T.su_NoText_NoSide
    refine p_when (b := false) (Ex.refl H') (et_B (ev_isE2 rfl (ea_cons ev_c (ea_cons ev_c (ea_cons ev_c ea_nil))) (Nat.le_of_ble_eq_true rfl) (.cons (.own _) (.cons (.own _) (.cons (.own _) .nil))) (kit_none3 kP kS kT))) (fun hb => by cases hb) fun _ H4 e4 _ => ?_
    exact p_ret e4 (ev_andV (a := true) (b := true) (ev_isE1 rfl ev_c (.own _) (kit_yes T.X_WallError T.su_NoText_WallError)) (fun _ => ev_isE1 rfl ev_c (.ty _) (kit_ty' (by decide +kernel) T.X_NoText.v))) fun H5 e5 => k H5 (e3.trans e5)
end
end Toy

namespace G
open PySem PySem.Spec PyProof.Rows L2 TL Evl RZ
/-! ### a sieve for texts that write no net -/
def splL (s : Nat) : List Nat → List (List Nat)
  | [] => [[]]
  | c :: r => if c = s then [] :: splL s r else match splL s r with
    | [] => [[c]]
    | h :: t => (c :: h) :: t
theorem splL_free {s : Nat} : ∀ {a : List Nat}, s ∉ a → splL s a = [a]
  | [], _ => rfl
  | c :: r, h => by
    unfold splL
    rw [if_neg fun z => h (by rw [z]; exact List.mem_cons_self), splL_free fun z => h (List.mem_cons_of_mem _ z)]
theorem splL_app {s : Nat} {r : List Nat} : ∀ {a : List Nat}, s ∉ a → splL s (a ++ s :: r) = a :: splL s r
  | [], _ => by
    show splL s (s :: r) = _
    rw [splL]
    exact if_pos rfl
  | c :: a, h => by
    show splL s (c :: (a ++ s :: r)) = _
    rw [splL, if_neg fun z => h (by rw [z]; exact List.mem_cons_self), splL_app fun z => h (List.mem_cons_of_mem _ z)]
theorem splL_join {s : Nat} : ∀ {ps : List (List Nat)}, ps ≠ [] → (∀ p ∈ ps, s ∉ p) → splL s (joinL [s] ps) = ps
  | [], h, _ => absurd rfl h
  | [a], _, h => splL_free (h a (List.mem_singleton.mpr rfl))
  | a :: b :: r, _, h => by
    show splL s (a ++ ([s] ++ joinL [s] (b :: r))) = _
    rw [List.singleton_append, splL_app (h a List.mem_cons_self), splL_join (by simp) fun p hp => h p (List.mem_cons_of_mem _ hp)]
def valL (l : List Nat) : Nat := l.foldl (fun a c => 10 * a + (c - 48)) 0
theorem valL_num : ∀ m : Nat, valL (numL m) = m := by
  intro m
  induction m using Nat.strongRecOn with
  | _ m ih =>
    by_cases h : m < 10
    · rw [numL_lt h]
      unfold valL
      simp
    · rw [numL_step (by omega)]
      have := ih (m / 10) (by omega)
      unfold valL at this ⊢
      rw [List.foldl_append, this]
      simp
      omega
def canonL (l : List Nat) : Bool := l.all (fun c => decide (48 ≤ c ∧ c ≤ 57)) && (match l with
  | [] => false
  | c :: r => !decide (c = 48) || decide (r = []))
theorem canonL_num (m : Nat) : canonL (numL m) = true := by
  unfold canonL
  rw [Bool.and_eq_true_iff]
  refine ⟨List.all_eq_true.mpr fun c hc => decide_eq_true (numL_digits m c hc), ?_⟩
  by_cases h : m < 10
  · rw [numL_lt h]
    simp
  · obtain ⟨c, r, e, hne⟩ := numL_head m (by omega)
    rw [e]
    simp [hne]
def rowB (n : Nat) (r : List Nat) : Bool := match splL 32 r with
  | [w, a, b, c] => decide (w = [116, 105, 101]) && canonL a && canonL b && canonL c && decide (valL a < n) && decide (valL b < n) && !decide (valL a = valL b) && decide (1 ≤ valL c) && decide (valL c ≤ 1000000000)
  | _ => false
def netB (x : List Nat) : Bool := match splL 10 x with
  | [] => false
  | h :: rs => match splL 32 h with
    | [w, a] => decide (w = [112, 108, 97, 99, 101, 115]) && canonL a && decide (1 ≤ valL a) && decide (valL a ≤ 24) && rs.all (rowB (valL a))
    | _ => false
theorem rowB_ok {n : Nat} {t : Tie} (g : Good n t) : rowB n (tl (rowS t)) = true := by
  have e : splL 32 (tl (rowS t)) = [[116, 105, 101], numL t.1, numL t.2.1, numL t.2.2.toNat] := by
    rw [row_tl, tl_cost g]
    exact splL_join (s := 32) (ps := [[116, 105, 101], numL t.1, numL t.2.1, numL t.2.2.toNat]) (by simp) fun p hp => by
      simp only [List.mem_cons, List.not_mem_nil, or_false] at hp
      rcases hp with rfl | rfl | rfl | rfl
      · decide
      · exact numL_free (by decide)
      · exact numL_free (by decide)
      · exact numL_free (by decide)
  unfold rowB
  rw [e]
  have g1 := g.one
  have g2 := g.two
  have g3 := g.ne
  have g4 := g.lo
  have g5 := g.hi
  simp only [canonL_num, valL_num, Bool.and_eq_true, decide_eq_true_eq, Bool.not_eq_true', decide_eq_false_iff_not]
  refine ⟨⟨⟨⟨⟨⟨⟨⟨trivial, trivial⟩, trivial⟩, trivial⟩, g1⟩, g2⟩, g3⟩, ?_⟩, ?_⟩ <;> omega
theorem netB_ok {n : Nat} {ts : List Tie} (h1 : 1 ≤ n) (h2 : n ≤ 24) (g : ∀ t ∈ ts, Good n t) : netB (tl (textS n ts)) = true := by
  have e : splL 10 (tl (textS n ts)) = tl (headS n) :: (ts.map rowS).map tl := by
    unfold textS
    rw [tl_J, tl_line]
    refine splL_join (by simp) fun p hp => ?_
    rcases List.mem_cons.mp hp with rfl | hp
    · exact head_no10 n
    · obtain ⟨r, hr, rfl⟩ := List.mem_map.mp hp
      obtain ⟨t, ht, rfl⟩ := List.mem_map.mp hr
      exact row_no10 (g t ht)
  have e2 : splL 32 (tl (headS n)) = [[112, 108, 97, 99, 101, 115], numL n] := by
    rw [head_tl]
    exact splL_join (s := 32) (ps := [[112, 108, 97, 99, 101, 115], numL n]) (by simp) fun p hp => by
      simp only [List.mem_cons, List.not_mem_nil, or_false] at hp
      rcases hp with rfl | rfl
      · decide
      · exact numL_free (by decide)
  unfold netB
  rw [e]
  show (match splL 32 (tl (headS n)) with
    | [w, a] => _
    | _ => false) = true
  rw [e2]
  simp only [canonL_num, valL_num, Bool.and_eq_true, decide_eq_true_eq]
  refine ⟨⟨⟨⟨trivial, trivial⟩, h1⟩, h2⟩, List.all_eq_true.mpr fun p hp => ?_⟩
  obtain ⟨r, hr, rfl⟩ := List.mem_map.mp hp
  obtain ⟨t, ht, rfl⟩ := List.mem_map.mp hr
  exact rowB_ok (g t ht)
end G
namespace Toy
open PySem L2 TL Evl RZ G
section
variable {P : Program} {w : World} {K : PySem.W.Frag} {mg : Str → Option Value} {base : Heap}
theorem badS {H : Hp} {x : Str} (hz : x.length ≤ 30000) (h : netB (tl x) = false) : BadText K H (.str x) := .inr ⟨x, rfl, hz, fun n ts h1 h2 _ g e => by
  rw [e, netB_ok h1 h2 g] at h
  cases h⟩
end
end Toy

namespace Toy
open PySem L2 TL Evl RZ G
section
variable {P : Program} {w : World} {K : PySem.W.Frag} {mg : Str → Option Value} {base : Heap}
/-! ### signs, odd texts -/
def signsS : Str := (" 0123456789zyxwvutsrqponmlkjihgfedcbaZYXWVUTSRQPONMLKJIHGFEDCBA" : Str) ++ ("\n\t!?.,:;'\"`~|-_+*/\\=<>()[]{}#$&@^" : Str)
theorem ev_slS {σ : L2.St} {H : Hp} {te : TE} {tl' th : TO} {z : Str} {lo hi : Option Int} (h : Ev te σ H (.str z)) (h1 : EvO tl' σ H lo) (h2 : EvO th σ H hi) (hz : z.length ≤ 100000) : Ev (tSl rSlS te tl' th) σ H (.str (cutS z lo hi)) := fun H1 e _ q =>
  h H1 e _ fun H2 e2 => h1 H2 (e.trans e2) _ fun H3 e3 => h2 H3 ((e.trans e2).trans e3) _ fun H4 e4 => ⟨z, rfl, sz_of hz, q H4 ((e2.trans e3).trans e4)⟩
theorem el_catvL {σ : L2.St} {H : Hp} {ta tb : TE} {xs ys : List V} {b : Addr} (ha : Ev ta σ H (.ref b)) (hl : H b = some (.lst xs)) (hb : EvL tb σ H ys) (hz : xs.length + ys.length ≤ 100000) : EvL (tOp rCat ta tb) σ H (xs ++ ys) := fun H1 e Q q =>
  ha H1 e _ fun H2 e2 => hb H2 (e.trans e2) _ fun p H3 hp e3 h3 => ⟨b, p, xs, ys, rfl, rfl, e3 _ _ (e2 _ _ (e _ _ hl)), h3, sz_of hz, fun r hr => q r _ (fresh_back (e2.trans e3) hr) ((e2.trans e3).trans (Ex.new hr)) upd_same⟩
theorem cut_take {vs : List V} {k : Nat} : cutV vs none (some (k : Int)) = vs.take k := by
  unfold cutV
  rw [HT.sIx_nat, HT.sIx_none, List.drop_zero, Nat.sub_zero, ← List.take_take, List.take_length]
theorem cut_drop {vs : List V} {k : Nat} : cutV vs (some (k : Int)) none = vs.drop k := by
  unfold cutV
  rw [HT.sIx_nat, HT.sIx_none]
  by_cases h : k ≤ vs.length
  · rw [Nat.min_eq_left h]
    exact List.take_of_length_le (by rw [List.length_drop]; exact Nat.le_refl _)
  · rw [Nat.min_eq_right (by omega), List.drop_length, List.drop_eq_nil_of_le (by omega)]
    simp
theorem cdiv2 {c : Int} : CDiv c 2 := by unfold CDiv; omega
def wordsS : List Str := ["places", "2\ntie", "0", "1", "5"]
theorem nb_all : ∀ k ∈ [1, 2, 3, 4], ∀ c ∈ tl (cutS signsS (some 1) none), netB (tl (Txt.join " " (wordsS.take k)) ++ tl (⟨#[c]⟩ : Str) ++ tl (Txt.join " " (wordsS.drop k))) = false := by decide +kernel
theorem room_nb : ∀ k ∈ [1, 2, 3, 4], ((wordsS.take k).map (·.length)).sum + (wordsS.take k).length * (" " : Str).length ≤ 16777216 ∧ ((wordsS.drop k).map (·.length)).sum + (wordsS.drop k).length * (" " : Str).length ≤ 16777216 ∧ (Txt.join " " (wordsS.take k)).length ≤ 100 ∧ (Txt.join " " (wordsS.drop k)).length ≤ 100 := by decide +kernel
def odd1 : List Str := ["", "places", "places ", "places 0", "places 25", "places 03", "places -1", "places +2", "places two"]
def odd2 : List Str := ["Places 2", "places 2 ", " places 2", "places  2", "places 2\n", "\nplaces 2", "places 2\n\n"]
def oddr1 : List Str := ["tie 0 1", "tie 0 1 5 6", "tie 0 0 5", "tie 0 2 5", "tie 0 1 0", "tie 0 1 1000000001", "tie 0 1 05"]
def oddr2 : List Str := ["tie 0 -1 5", "tie 0 1 5 ", " tie 0 1 5", "Tie 0 1 5", "places 2", "tie 0 1 5.0"]
def odd3 : List Str := ["tie 0 1 5", "places\t2"]
def oddS : List Str := (odd1 ++ odd2) ++ odd3 ++ (oddr1 ++ oddr2).map fun r => ("places 2\n" : Str) ++ r
theorem odd_all : ∀ x ∈ oddS, x.length ≤ 30000 ∧ netB (tl x) = false := by decide +kernel
def sp_signs : Sp := fun vs H Q _ => vs = [] ∧ RetV (.str signsS) H Q
theorem ok__law_signs (T : Wd K mg) : FnOk P w K mg base CX0 1 T.f__law_signs T.d__law_signs [] (sp_signs) := by
  refine T.F__law_signs.ok sc__law_signs (fun vs H Q E h => ?_) (fun cdv A outer s H vs Q E hr h => ?_)
  · rw [h.1]; rfl
  · obtain ⟨rfl, k⟩ := h
    refine ⟨_, (pss_cons (ps_set (i := 0) sc__law_signs.nd rfl (Or.inl rfl) pe_str) (pss_one (ps_ret (pe_op op_add_str (pv 0) pe_str)))), ?_⟩
    refine p_asg (Ex.refl H) ev_c fun H1 e1 _ => ?_
    exact p_ret e1 (ev_op (ev_var rfl) ev_c (rv_addS (by decide +kernel))) k
def sp_sign_by : Sp := fun vs H Q _ => ∃ c : Int, vs = [.int c] ∧ ∀ s : Nat, RetV (.str ⟨#[s]⟩) H Q
theorem ok__law_sign_by (T : Wd K mg) : FnOk P w K mg base CX0 2 T.f__law_sign_by T.d__law_sign_by ["_law_cell"] (sp_sign_by) := by
  have G__law_signs := ok__law_signs (P := P) (w := w) (base := base) T
  refine T.F__law_sign_by.ok sc__law_sign_by (fun vs H Q E h => ?_) (fun cdv A outer s H vs Q E hr h => ?_)
  · obtain ⟨c, rfl, _⟩ := h
    rfl
  · obtain ⟨c, rfl, k⟩ := h
    refine ⟨_, (pss_cons (ps_if (pt_cmpR op_eq (pe_op op_mod (pv 0) pe_int) pe_int (nomark _)) (pss_one (ps_ret (pe_ix ix_str pe_str (pe_op op_mod (pe_op op_fdiv (pv 0) pe_int) pe_int) (fun _ _ => rfl)))) pss_nil) (pss_one (ps_ret (pe_ix ix_str (pe_call0 G__law_signs (hr.mono (by decide)) (by rfl) T.m__law_signs T.F__law_signs.kp T.b__law_signs .nil pass0) (pe_op op_mod (pe_op op_fdiv (pv 0) pe_int) pe_int) (fun _ _ => rfl))))), ?_⟩
    have h0 : 0 ≤ c / 2 % 16 := Int.emod_nonneg _ (by decide)
    have h1 : c / 2 % 16 < 16 := Int.emod_lt_of_pos _ (by decide)
    have g0 : 0 ≤ c / 2 % 96 := Int.emod_nonneg _ (by decide)
    have g1 : c / 2 % 96 < 96 := Int.emod_lt_of_pos _ (by decide)
    have l1 : (" \n\t015+_.tipes-#" : Str).cps.toList.length = 16 := by decide +kernel
    have l2 : signsS.cps.toList.length = 96 := by decide +kernel
    have a1 : atI (" \n\t015+_.tipes-#" : Str).cps.toList (c / 2 % 16) = some ((" \n\t015+_.tipes-#" : Str).cps.toList[(c / 2 % 16).toNat]'(by omega)) := by
      conv => lhs; rw [← Int.toNat_of_nonneg h0]
      exact atI_nat (List.getElem?_eq_getElem _)
    have a2 : atI signsS.cps.toList (c / 2 % 96) = some (signsS.cps.toList[(c / 2 % 96).toNat]'(by omega)) := by
      conv => lhs; rw [← Int.toNat_of_nonneg g0]
      exact atI_nat (List.getElem?_eq_getElem _)
    refine p_when (Ex.refl H) (et_test (ev_op (ev_op (ev_var rfl) ev_c (rv_I (by decide : (0 : Int) < 2))) ev_c (rv_eq rfl))) (fun _ H1 e1 _ => ?_) (fun _ H1 e1 _ => ?_)
    · exact p_ret e1 (ev_op ev_c (ev_op (ev_op (ev_var rfl) ev_c (rv_I cdiv2)) ev_c (rv_I (by decide : (0 : Int) < 16))) (rv_ixStr (by decide +kernel) a1)) (k _)
    · exact p_ret e1 (ev_op (ev_call ea_nil (fun H1 e Q q E => ⟨rfl, q⟩ : SpV sp_signs [] H (.str signsS))) (ev_op (ev_op (ev_var rfl) ev_c (rv_I cdiv2)) ev_c (rv_I (by decide : (0 : Int) < 96))) (rv_ixStr (by decide +kernel) a2)) (k _)
def sp_no_blank : Sp := fun vs H Q _ => ∃ at' : Nat, vs = [.int at'] ∧ 1 ≤ at' ∧ at' ≤ 4 ∧ RetV (.bl true) H Q
theorem ok__law_no_blank (T : Wd K mg) : FnOk P w K mg base CX0 9 T.f__law_no_blank T.d__law_no_blank ["_law_at"] (sp_no_blank) := by
  have G__law_signs := ok__law_signs (P := P) (w := w) (base := base) T
  have G__law_refused := ok__law_refused (P := P) (w := w) (base := base) T
  refine T.F__law_no_blank.ok sc__law_no_blank (fun vs H Q E h => ?_) (fun cdv A outer s H vs Q E hr h => ?_)
  · obtain ⟨c, rfl, _⟩ := h
    rfl
  · obtain ⟨c, rfl, c1, c2, k⟩ := h
    refine ⟨_, (pss_cons (ps_set (i := 1) sc__law_no_blank.nd rfl (Or.inl rfl) (pe_lst (pa_cons pe_str (pa_cons pe_str (pa_cons pe_str (pa_cons pe_str (pa_cons pe_str pa_nil))))))) (pss_cons (ps_for PassesOwn.never rfl (pi_str (pe_slice sl_str (pe_call0 G__law_signs (hr.mono (by decide)) (by rfl) T.m__law_signs T.F__law_signs.kp T.b__law_signs .nil pass0) (po_some pe_int) po_none)) (pg_name (i := 2) sc__law_no_blank.nd rfl (Or.inl rfl)) (pss_one (ps_if (pt_not (pt_val (pe_call G__law_refused (hr.mono (by decide)) (by rfl) T.m__law_refused T.F__law_refused.kp T.b__law_refused .nil pass0 (pa_cons (pe_op op_add_str (pe_op op_add_str (pe_join pe_str (pe_slice sl_list (pv 1) po_none (po_some (pv 0)))) (pv 2)) (pe_join pe_str (pe_slice sl_list (pv 1) (po_some (pv 0)) po_none))) pa_nil)))) (pss_one (ps_ret pe_bl)) pss_nil))) (pss_one (ps_ret pe_bl)))), ?_⟩
    refine p_asgL (xs := wordsS.map V.str) (Ex.refl H) (el_lst (ea_cons ev_c (ea_cons ev_c (ea_cons ev_c (ea_cons ev_c (ea_cons ev_c ea_nil))))) (Nat.le_of_ble_eq_true rfl)) fun p H1 hp e1 _ h1 => ?_
    have ck : c ∈ [1, 2, 3, 4] := by
      simp only [List.mem_cons, List.not_mem_nil, or_false]
      omega
    refine q_forStr (ev_slS (ev_call ea_nil (fun H1 e Q q E => ⟨rfl, q⟩ : SpV sp_signs [] H1 (.str signsS))) (eo_some ev_c) eo_none (by decide +kernel)) (fun i σ' H' => Ex H1 H' ∧ ∃ u, σ' = [some (.int (c : Int)), some (.ref p), u]) (fun H2 e2 => ⟨e2, _, rfl⟩) ?_ ?_
    · rintro i s σ' H' hs ⟨e, u, rfl⟩
      have hs' : s ∈ tl (cutS signsS (some 1) none) := List.mem_of_getElem? (by rw [← hs, show tl (cutS signsS (some 1) none) = (cutS signsS (some 1) none).cps.toList from rfl, Array.getElem?_toList])
      have c1' : cutV (wordsS.map V.str) none (some (c : Int)) = (wordsS.take c).map V.str := by rw [cut_take, List.map_take]
      have c2' : cutV (wordsS.map V.str) (some (c : Int)) none = (wordsS.drop c).map V.str := by rw [cut_drop, List.map_drop]
      obtain ⟨z1, z2, z3, z4⟩ := room_nb c ck
      have hbad : BadText K H' (.str (Txt.join " " (wordsS.take c) ++ ⟨#[s]⟩ ++ Txt.join " " (wordsS.drop c))) := badS (by
        rw [len_tl, tl_append, tl_append, List.length_append, List.length_append, ← len_tl, ← len_tl, ← len_tl]
        have : (⟨#[s]⟩ : Str).length = 1 := rfl
        omega) (by
        rw [tl_append, tl_append]
        exact nb_all c ck s hs')
      have l1 : (⟨#[s]⟩ : Str).length = 1 := rfl
      refine p_noE (Ex.refl H') (et_is (et_not (et_B (ev_call (ea_cons (ev_op (ev_op (ev_joinN ev_c (el_is (el_sl (ev_var rfl) eo_none (eo_some (ev_var rfl)) (sq_of (e _ _ h1))) c1') z1) (ev_var rfl) (rv_addS (by omega))) (ev_joinN ev_c (el_is (el_sl (ev_var rfl) (eo_some (ev_var rfl)) eo_none (sq_of (e _ _ h1))) c2') z2) (rv_addS (by rw [len_tl, tl_append, List.length_append, ← len_tl, ← len_tl]; omega))) ea_nil) (sv_trefused hbad)))) rfl) fun H2 e2 _ => ?_
      exact ⟨e.trans e2, _, rfl⟩
    · rintro σ' H' ⟨e, u, rfl⟩
      exact p_ret (Ex.refl H') ev_c fun H2 e2 => k H2 ((e1.trans e).trans e2)
def sp_odd : Sp := fun vs H Q _ => ∃ c : Int, vs = [.int c] ∧ ∀ x : Str, x.length ≤ 30000 → netB (tl x) = false → RetV (.str x) H Q
theorem ok__law_odd (T : Wd K mg) : FnOk P w K mg base CX0 1 T.f__law_odd T.d__law_odd ["_law_cell"] (sp_odd) := by
  refine T.F__law_odd.ok sc__law_odd (fun vs H Q E h => ?_) (fun cdv A outer s H vs Q E hr h => ?_)
  · obtain ⟨c, rfl, _⟩ := h
    rfl
  · obtain ⟨c, rfl, k⟩ := h
    refine ⟨_, (pss_cons (ps_set (i := 1) sc__law_odd.nd rfl (Or.inl rfl) (pe_lst (pa_cons pe_str (pa_cons pe_str (pa_cons pe_str (pa_cons pe_str (pa_cons pe_str (pa_cons pe_str (pa_cons pe_str (pa_cons pe_str (pa_cons pe_str pa_nil))))))))))) (pss_cons (ps_set (i := 1) sc__law_odd.nd rfl (Or.inl rfl) (pe_op op_cat (pv 1) (pe_lst (pa_cons pe_str (pa_cons pe_str (pa_cons pe_str (pa_cons pe_str (pa_cons pe_str (pa_cons pe_str (pa_cons pe_str pa_nil)))))))))) (pss_cons (ps_set (i := 2) sc__law_odd.nd rfl (Or.inl rfl) (pe_lst (pa_cons pe_str (pa_cons pe_str (pa_cons pe_str (pa_cons pe_str (pa_cons pe_str (pa_cons pe_str (pa_cons pe_str pa_nil))))))))) (pss_cons (ps_set (i := 2) sc__law_odd.nd rfl (Or.inl rfl) (pe_op op_cat (pv 2) (pe_lst (pa_cons pe_str (pa_cons pe_str (pa_cons pe_str (pa_cons pe_str (pa_cons pe_str (pa_cons pe_str pa_nil))))))))) (pss_cons (ps_set (i := 1) sc__law_odd.nd rfl (Or.inl rfl) (pe_op op_cat (pe_op op_cat (pv 1) (pe_lst (pa_cons pe_str (pa_cons pe_str pa_nil)))) (pe_lc (own := [("_law_row", 3)]) (g := (gName 3)) (tt := tYes) rfl sc__law_odd.nd (pi_list (pv 2)) (blkOk_by (own := [("_law_row", 3)]) (N := ["_law_cell", "_law_some", "_law_rows", "_law_row"]) (sc := defScope s__law_odd) (by decide +kernel)) (fun _ _ _ _ _ => (pg_name (i := 3) sc__law_odd.nd rfl (Or.inl rfl))) (fun _ _ _ _ _ => pts_nil) (fun _ _ _ _ _ => (pe_op op_add_str pe_str (pv 3)))))) (pss_one (ps_ret (pe_ix ix_list (pv 1) (pe_op op_mod (pv 0) pe_int) (fun _ _ => rfl))))))))), ?_⟩
    have h0 : 0 ≤ c % 31 := Int.emod_nonneg _ (by decide)
    have h1 : c % 31 < 31 := Int.emod_lt_of_pos _ (by decide)
    refine p_asgL (xs := odd1.map V.str) (Ex.refl H) (el_lst (ea_cons ev_c (ea_cons ev_c (ea_cons ev_c (ea_cons ev_c (ea_cons ev_c (ea_cons ev_c (ea_cons ev_c (ea_cons ev_c (ea_cons ev_c ea_nil))))))))) (Nat.le_of_ble_eq_true rfl)) fun p1 H1 hp1 e1 _ g1 => ?_
    refine p_asgL (xs := (odd1 ++ odd2).map V.str) (Ex.refl H1) (el_is (el_catvL (ev_var rfl) g1 (el_lst (vs := odd2.map V.str) (ea_cons ev_c (ea_cons ev_c (ea_cons ev_c (ea_cons ev_c (ea_cons ev_c (ea_cons ev_c (ea_cons ev_c ea_nil))))))) (Nat.le_of_ble_eq_true rfl)) (Nat.le_of_ble_eq_true rfl)) (List.map_append).symm) fun p2 H2 hp2 e2 _ g2 => ?_
    refine p_asgL (xs := oddr1.map V.str) (Ex.refl H2) (el_lst (ea_cons ev_c (ea_cons ev_c (ea_cons ev_c (ea_cons ev_c (ea_cons ev_c (ea_cons ev_c (ea_cons ev_c ea_nil))))))) (Nat.le_of_ble_eq_true rfl)) fun p3 H3 hp3 e3 _ g3 => ?_
    refine p_asgL (xs := (oddr1 ++ oddr2).map V.str) (Ex.refl H3) (el_is (el_catvL (ev_var rfl) g3 (el_lst (vs := oddr2.map V.str) (ea_cons ev_c (ea_cons ev_c (ea_cons ev_c (ea_cons ev_c (ea_cons ev_c (ea_cons ev_c ea_nil)))))) (Nat.le_of_ble_eq_true rfl)) (Nat.le_of_ble_eq_true rfl)) (List.map_append).symm) fun p4 H4 hp4 e4 _ g4 => ?_
    have g2' := e4 _ _ (e3 _ _ g2)
    refine p_asgL (xs := oddS.map V.str) (Ex.refl H4) (el_is (el_catLL (el_catvL (ev_var rfl) g2' (el_lst (vs := odd3.map V.str) (ea_cons ev_c (ea_cons ev_c ea_nil)) (Nat.le_of_ble_eq_true rfl)) (Nat.le_of_ble_eq_true rfl)) (el_lcL (fun _ => true) (fun i => .str (("places 2\n" : Str) ++ (oddr1 ++ oddr2).getD i Str.empty)) (ev_var rfl) (sq_of g4) (Nat.le_of_ble_eq_true rfl) (fun _ => rfl) (fun i x H3 e3 hx => et_yes) (fun i x H3 e3 hx _ => ?_)) ?_) ?_) fun p5 H5 hp5 e5 _ g5 => ?_
    · obtain ⟨r, hr', rfl⟩ : ∃ r, (oddr1 ++ oddr2)[i]? = some r ∧ x = .str r := by
        rw [List.getElem?_map] at hx
        cases e : (oddr1 ++ oddr2)[i]? with
        | none => rw [e] at hx; cases hx
        | some r => rw [e] at hx; exact ⟨r, rfl, (Option.some.inj hx).symm⟩
      have et : (oddr1 ++ oddr2).getD i Str.empty = r := by simp [List.getD, hr']
      rw [et]
      have rl : ∀ r ∈ oddr1 ++ oddr2, r.length ≤ 100 := by decide +kernel
      have pl : ("places 2\n" : Str).length = 9 := by decide +kernel
      have := rl r (List.mem_of_getElem? hr')
      exact ev_op ev_c (ev_var rfl) (rv_addS (by omega))
    · exact Nat.le_of_ble_eq_true rfl
    · rfl
    · have hl : oddS.length = 31 := by decide +kernel
      have hj := List.getElem?_eq_getElem (l := oddS) (i := (c % 31).toNat) (by omega)
      have hm := odd_all _ (List.mem_of_getElem? hj)
      generalize oddS[(c % 31).toNat]'(by omega) = x at hj hm
      exact p_ret (Ex.refl H5) (ev_op (ev_var rfl) (ev_op (ev_var rfl) ev_c (rv_I (by decide : (0 : Int) < 31))) (rv_ixL (v := .str x) (sq_of g5) (at_of (j := (c % 31).toNat) (by omega) (by rw [List.getElem?_map, hj]; rfl)))) fun H6 e6 => k x hm.1 hm.2 H6 (((e1.trans e2).trans (e3.trans e4)).trans (e5.trans e6))
end
end Toy

namespace Toy
open PySem L2 TL Evl RZ G
section
variable {P : Program} {w : World} {K : PySem.W.Frag} {mg : Str → Option Value} {base : Heap}
/-! ### good texts of the law -/
def sp_cell_at (K : PySem.W.Frag) : Sp := fun vs H Q _ => ∃ (a : Addr) (ns : List Int) (k : Nat), vs = [.ref a, .int k] ∧ SqL K H a (ns.map V.int) ∧ RetV (.int (cellA ns k)) H Q
theorem sv_cell {a : Addr} {ns : List Int} {k : Nat} {H : Hp} (h : SqL K H a (ns.map V.int)) : SpV (sp_cell_at K) [.ref a, .int k] H (.int (cellA ns k)) := fun H1 e Q q E => ⟨a, ns, k, rfl, ex_l e h, q⟩
theorem ok__law_cell_at (T : Wd K mg) : FnOk P w K mg base CX0 1 T.f__law_cell_at T.d__law_cell_at ["_law_script", "_law_k"] (sp_cell_at K) := by
  refine T.F__law_cell_at.ok sc__law_cell_at (fun vs H Q E h => ?_) (fun cdv A outer s H vs Q E hr h => ?_)
  · obtain ⟨a, ns, k, rfl, _⟩ := h
    rfl
  · obtain ⟨a, ns, k, rfl, hs, q⟩ := h
    refine ⟨_, (pss_cons (ps_if (pt_cmpR op_lt (pv 1) (pe_callB call_len_seq (by rfl) T.n_len (by decide +kernel) (pa_cons (pv 0) pa_nil)) (nomark _)) (pss_one (ps_ret (pe_ix ix_list (pv 0) (pv 1) (fun _ _ => rfl)))) pss_nil) (pss_one (ps_ret pe_int))), ?_⟩
    refine p_when (Ex.refl H) (et_test (ev_op (ev_var rfl) (ev_lenS (ev_var rfl) (Or.inl hs)) rv_I0)) (fun hb H1 e1 _ => ?_) (fun hb H1 e1 _ => ?_)
    · have hk : k < ns.length := by
        have := of_decide_eq_true hb
        rw [List.length_map] at this
        omega
      refine p_ret e1 (ev_op (ev_var rfl) (ev_var rfl) (rv_ixL (v := .int (cellA ns k)) hs (at_of rfl ?_))) q
      rw [List.getElem?_map, List.getElem?_eq_getElem hk]
      simp [cellA, List.getD, List.getElem?_eq_getElem hk]
    · have hk : ns.length ≤ k := by
        have := of_decide_eq_false hb
        rw [List.length_map] at this
        omega
      refine p_ret e1 (ev_is ev_c ?_) q
      simp [cellA, List.getD, List.getElem?_eq_none hk]
def spLaw (K : PySem.W.Frag) : Sp := fun vs H Q _ => ∃ (a : Addr) (ns : List Int), vs = [.ref a] ∧ SqL K H a (ns.map V.int) ∧ ns.length ≤ 63 ∧ ∀ H', Q (.bl true) H'
def topG (k : Int) : Int := if k % 2 = 0 then 9 else 1000000000
theorem topG_at (k : Int) : atI [V.int 9, V.int 1000000000] (k % 2) = some (.int (topG k)) := by
  have h0 : 0 ≤ k % 2 := Int.emod_nonneg _ (by decide)
  have h1 : k % 2 < 2 := Int.emod_lt_of_pos _ (by decide)
  unfold topG
  by_cases e0 : k % 2 = 0
  · rw [if_pos e0]
    exact at_of (j := 0) (by omega) rfl
  · rw [if_neg e0]
    exact at_of (j := 1) (by omega) rfl
theorem topG_b (k : Int) : 1 ≤ topG k ∧ topG k ≤ 1000000000 := by
  unfold topG
  split <;> omega
theorem row_plus3 (t : Tie) : ("tie " : Str) ++ nS (t.1 : Int) ++ (" " : Str) ++ nS (t.2.1 : Int) ++ (" " : Str) ++ nS t.2.2 = rowS t := by
  refine ext_tl ?_
  rw [tl_append, tl_append, tl_append, tl_append, tl_append, row_tl, tl_tieB, tl_blank]
  simp only [nS_tl, List.append_assoc]
  rfl
def sp_goodT (K : PySem.W.Frag) : Sp := fun vs H Q _ => ∃ (a : Addr) (ns : List Int) (n : Nat), vs = [.ref a, .int n] ∧ SqL K H a (ns.map V.int) ∧ 2 ≤ n ∧ n ≤ 24 ∧ ∀ ts, ts.length ≤ 8 → (∀ t ∈ ts, Good n t) → RetV (.str (textS n ts)) H Q
theorem ok__law_good (T : Wd K mg) : FnOk P w K mg base CX0 2 T.f__law_good T.d__law_good ["_law_script", "_law_many"] (sp_goodT K) := by
  have G__law_cell_at := ok__law_cell_at (P := P) (w := w) (base := base) T
  refine T.F__law_good.ok sc__law_good (fun vs H Q E h => ?_) (fun cdv A outer s H vs Q E hr h => ?_)
  · obtain ⟨a, ns, n, rfl, _⟩ := h
    rfl
  · obtain ⟨a, ns, n, rfl, hs, n2, n24, k⟩ := h
    refine ⟨_, (pss_cons (ps_set (i := 2) sc__law_good.nd rfl (Or.inl rfl) (pe_lst (pa_cons (pe_op op_add_str pe_str (pe_callTy call_str_int (by rfl) T.n_str (by decide +kernel) (pa_cons (pv 1) pa_nil))) pa_nil))) (pss_cons (ps_for PassesOwn.never rfl (pi_range1 (by rfl) T.n_range (pa_cons (pe_op op_mod (pe_call G__law_cell_at (hr.mono (by decide)) (by rfl) T.m__law_cell_at T.F__law_cell_at.kp T.b__law_cell_at .nil pass0 (pa_cons (pv 0) (pa_cons pe_int pa_nil))) pe_int) pa_nil)) (pg_name (i := 3) sc__law_good.nd rfl (Or.inl rfl)) (pss_cons (ps_set (i := 4) sc__law_good.nd rfl (Or.inl rfl) (pe_call G__law_cell_at (hr.mono (by decide)) (by rfl) T.m__law_cell_at T.F__law_cell_at.kp T.b__law_cell_at .nil pass0 (pa_cons (pv 0) (pa_cons (pe_op op_add pe_int (pv 3)) pa_nil)))) (pss_cons (ps_set (i := 5) sc__law_good.nd rfl (Or.inl rfl) (pe_op op_mod (pv 4) (pv 1))) (pss_cons (ps_set (i := 6) sc__law_good.nd rfl (Or.inl rfl) (pe_op op_mod (pe_op op_add (pe_op op_add (pv 5) pe_int) (pe_op op_mod (pe_op op_fdiv (pv 4) (pv 1)) (pe_op op_sub (pv 1) pe_int))) (pv 1))) (pss_cons (ps_set (i := 7) sc__law_good.nd rfl (Or.inl rfl) (pe_op op_add pe_int (pe_op op_mod (pe_op op_fdiv (pv 4) (pe_op op_mul (pv 1) (pv 1))) (pe_ix ix_list (pe_lst (pa_cons pe_int (pa_cons pe_int pa_nil))) (pe_op op_mod (pv 3) pe_int) (fun _ _ => rfl))))) (pss_one (ps_expr (pe_bm PySem.F.plainAttrs_list PySem.F.slot_list_append PySem.F.type_list_append mt_append (pv 2) (pa_cons (pe_op op_add_str (pe_op op_add_str (pe_op op_add_str (pe_op op_add_str (pe_op op_add_str pe_str (pe_callTy call_str_int (by rfl) T.n_str (by decide +kernel) (pa_cons (pv 5) pa_nil))) pe_str) (pe_callTy call_str_int (by rfl) T.n_str (by decide +kernel) (pa_cons (pv 6) pa_nil))) pe_str) (pe_callTy call_str_int (by rfl) T.n_str (by decide +kernel) (pa_cons (pv 7) pa_nil))) pa_nil))))))))) (pss_one (ps_ret (pe_join pe_str (pv 2)))))), ?_⟩
    have h0 : 0 ≤ cellA ns 2 % 9 := Int.emod_nonneg _ (by decide)
    have h1 : cellA ns 2 % 9 < 9 := Int.emod_lt_of_pos _ (by decide)
    have nn : ((n : Int) * (n : Int)) = ((n * n : Nat) : Int) := (Int.natCast_mul n n).symm
    have nb1 : n * n ≤ 24 * 24 := Nat.mul_le_mul n24 n24
    have nb2 : 2 * 2 ≤ n * n := Nat.mul_le_mul n2 n2
    have hnL : (nS (n : Int)).length ≤ 10 := nS_len (by omega)
    have pl : ("places " : Str).length = 7 := by decide +kernel
    refine p_asgL (xs := [.str (headS n)]) (Ex.refl H) (el_lst (ea_cons (ev_is (ev_op ev_c (ev_strI (ev_var rfl) (by omega)) (rv_addS (by omega))) (by rw [head_plus])) ea_nil) (Nat.le_of_ble_eq_true rfl)) fun r H1 hr e1 _ g1 => ?_
    refine q_forR1 (n := cellA ns 2 % 9) (ea_cons (ev_op (ev_call (ea_cons (ev_var rfl) (ea_cons ev_c ea_nil)) (sv_cell (k := 2) (ex_l e1 hs))) ev_c (rv_I (by decide : (0 : Int) < 9))) ea_nil) (by omega) (fun i σ' H' => Ex H H' ∧ (∃ ts : List Tie, ts.length = i ∧ (∀ t ∈ ts, Good n t) ∧ H' r = some (.lst ((headS n :: ts.map rowS).map V.str))) ∧ ∃ u1 u2 u3 u4 u5, σ' = [some (.ref a), some (.int n), some (.ref r), u1, u2, u3, u4, u5]) (fun H2 e2 => ⟨e1.trans e2, ⟨[], rfl, (fun t ht => nomatch ht), e2 _ _ g1⟩, _, _, _, _, _, rfl⟩) ?_ ?_
    · rintro i σ' H' hi ⟨e, ⟨ts, tl', tg, hts⟩, u1, u2, u3, u4, u5, rfl⟩
      generalize hc : cellA ns (3 + i) = c
      have a0 : 0 ≤ c % (n : Int) := Int.emod_nonneg _ (by omega)
      have a1 : c % (n : Int) < n := Int.emod_lt_of_pos _ (by omega)
      have r0 : 0 ≤ c / (n : Int) % ((n : Int) - 1) := Int.emod_nonneg _ (by omega)
      have r1 : c / (n : Int) % ((n : Int) - 1) < (n : Int) - 1 := Int.emod_lt_of_pos _ (by omega)
      obtain ⟨o1, o2, o3⟩ := otherOf a0 a1 r0 r1
      obtain ⟨t1, t2⟩ := topG_b i
      generalize htop : topG i = top at t1 t2
      have p0 : 0 ≤ c / (((n * n : Nat) : Int)) % top := Int.emod_nonneg _ (by omega)
      have p1 : c / (((n * n : Nat) : Int)) % top < top := Int.emod_lt_of_pos _ (by omega)
      refine q_asg (v := .int c) (ev_is (ev_call (ea_cons (ev_var rfl) (ea_cons (ev_is (ev_op ev_c (ev_var rfl) rv_I0) (w := .int ((3 + i : Nat) : Int)) (by congr 1)) ea_nil)) (sv_cell (k := 3 + i) (ex_l e hs))) (by rw [hc])) fun H2 e2 => ?_
      refine q_asg (ev_op (ev_var rfl) (ev_var rfl) (rv_I (by omega : (0 : Int) < (n : Int)))) fun H3 e3 => ?_
      refine q_asg (ev_op (ev_op (ev_op (ev_var rfl) ev_c rv_I0) (ev_op (ev_op (ev_var rfl) (ev_var rfl) (rv_I ⟨by omega, by omega⟩)) (ev_op (ev_var rfl) ev_c rv_I0) (rv_I (by omega : (0 : Int) < (n : Int) - 1))) rv_I0) (ev_var rfl) (rv_I (by omega : (0 : Int) < (n : Int)))) fun H4 e4 => ?_
      refine q_asg (ev_op ev_c (ev_op (ev_op (ev_var rfl) (ev_is (ev_op (ev_var rfl) (ev_var rfl) (rv_I (Or.inl (by omega)))) (w := .int ((n * n : Nat) : Int)) (by rw [nn])) (rv_I ⟨by omega, by omega⟩)) (ev_is (ev_pick (ea_cons ev_c (ea_cons ev_c ea_nil)) (Nat.le_of_ble_eq_true rfl) (ev_op (ev_var rfl) ev_c (rv_I (by decide : (0 : Int) < 2))) (topG_at i)) (by rw [htop])) (rv_I (by omega : (0 : Int) < top))) rv_I0) fun H5 e5 => ?_
      generalize hone : c % (n : Int) = one at a0 a1 o1 o2 o3 ⊢
      generalize hoth : (one + 1 + c / (n : Int) % ((n : Int) - 1)) % (n : Int) = oth at o1 o2 o3 ⊢
      generalize hpr : c / (((n * n : Nat) : Int)) % top = pr at p0 p1 ⊢
      obtain ⟨o, rfl⟩ : ∃ o : Nat, one = (o : Int) := ⟨one.toNat, by omega⟩
      obtain ⟨q, rfl⟩ : ∃ q : Nat, oth = (q : Int) := ⟨oth.toNat, by omega⟩
      have gt : Good n (o, q, 1 + pr) := ⟨by show o < n; omega, by show q < n; omega, by show o ≠ q; omega, by show 1 ≤ 1 + pr; omega, by show 1 + pr ≤ 1000000000; omega⟩
      have zz : (("tie " : Str) ++ nS (o : Int) ++ (" " : Str) ++ nS (q : Int) ++ (" " : Str) ++ nS (1 + pr)).length ≤ 40 := by
        have := row_len gt n24
        rw [← row_plus3] at this
        exact this
      have e5' := (e2.trans e3).trans (e4.trans e5)
      have sumL : ∀ a b : Str, (a ++ b).length = a.length + b.length := fun a b => by rw [len_tl, tl_append, List.length_append, ← len_tl, ← len_tl]
      have hz := zz
      simp only [sumL] at hz
      refine s_app (v := .str (rowS (o, q, 1 + pr))) (e5' _ _ hts) (ev_var rfl) (ev_is (ev_op (ev_op (ev_op (ev_op (ev_op ev_c (ev_strI (ev_var rfl) (by omega)) (rv_addS (by omega))) ev_c (rv_addS (by simp only [sumL]; omega))) (ev_strI (ev_var rfl) (by omega)) (rv_addS (by simp only [sumL]; omega))) ev_c (rv_addS (by simp only [sumL]; omega))) (ev_strI (ev_var rfl) (by omega)) (rv_addS (by simp only [sumL]; omega))) (by rw [← row_plus3])) (by simp; omega) fun H6 e6 => ?_
      refine ⟨(e.trans (e5'.trans e6)).mut (fresh_back (Ex.refl H) hr), ⟨ts ++ [(o, q, 1 + pr)], by rw [List.length_append, tl']; rfl, fun u hu => ?_, ?_⟩, _, _, _, _, _, rfl⟩
      · rcases List.mem_append.mp hu with z | z
        · exact tg u z
        · rw [List.mem_singleton.mp z]; exact gt
      · rw [upd_same]
        simp
    · rintro σ' H' ⟨e, ⟨ts, tl', tg, hts⟩, u1, u2, u3, u4, u5, rfl⟩
      exact s_ret (ev_join ev_c (ev_var rfl) (sq_of hts) (text_room n24 (by omega) tg)) fun H1 e1 => k ts (by omega) tg H1 (e.trans e1)
end
end Toy

namespace Toy
open PySem L2 TL Evl RZ G
section
variable {P : Program} {w : World} {K : PySem.W.Frag} {mg : Str → Option Value} {base : Heap}
theorem er_tiesR {C : Addr} {σ : L2.St} {H : Hp} {ta : TE} {n : Nat} {ts : List Tie} {E : XK} {R0 : Hp → V → Hp → Prop} (ha : EvR ta σ H R0) (hr : ∀ H1 v H2, R0 H1 v H2 → ∃ x, v = .ref x ∧ NetAt K C H2 x n ts) : EvR (tMeth C "ties" (sp_Net_ties K C) [] E ta tNil) σ H (fun _ v H2 => ∃ p xs, v = .ref p ∧ H2 p = some (.lst xs) ∧ TiesV K H2 xs ts) := fun H1 e Q q =>
  ha H1 e _ fun v H2 e2 r => by
    obtain ⟨x, rfl, N2⟩ := hr _ _ _ r
    obtain ⟨dx, l, c, hx, _⟩ := N2.ob
    exact ⟨x, dx, _, rfl, hx, netF_no (by decide +kernel) (by decide +kernel) (by decide +kernel), x, n, ts, rfl, N2, fun xs tz p H3 hp e3 h3 => q _ H3 (e2.trans e3) ⟨p, xs, rfl, h3, tz.ex e3⟩⟩
theorem ev_many {C : Addr} {σ : L2.St} {H : Hp} {ta : TE} {x : Addr} {n : Nat} {ts : List Tie} (ha : Ev ta σ H (.ref x)) (N : NetAt K C H x n ts) (c : Cls K C) (na : NoAttr K C "many") : Ev (tFld K ta "many") σ H (.int (n : Int)) := by
  obtain ⟨dx, l, c', hx, _⟩ := N.ob
  exact ev_fld ha hx c na netF_many
theorem mul300 : PySem.MulOk ("\ntie 0 1 7" : Str) 300 := by
  have e : ("\ntie 0 1 7" : Str).length = 10 := by decide +kernel
  unfold PySem.MulOk
  rw [e]
  decide +kernel
theorem len300b : (PySem.Txt.mul ("\ntie 0 1 7" : Str) 300).length = 3000 := by
  rw [len_tl, show (300 : Int) = ((300 : Nat) : Int) from rfl, tl_mul (by decide) (by decide +kernel), List.length_flatten, List.map_replicate, List.sum_replicate_nat, ← len_tl]
  decide +kernel
theorem bad301 {H : Hp} : BadText K H (.str (textS 2 T300 ++ ("\ntie 1 0 7" : Str))) := by
  rw [x301]
  have g : ∀ t ∈ T300 ++ [(1, 0, 7)], Good 2 t := fun t ht => by
    rcases List.mem_append.mp ht with z | z
    · exact good300 t z
    · rw [List.mem_singleton.mp z]; exact good107
  refine .inr ⟨_, rfl, ?_, fun n ts h1 h2 h3 gt e => ?_⟩
  · rw [← x301, ← x300, len_tl, tl_append, tl_append, List.length_append, List.length_append, ← len_tl, ← len_tl, ← len_tl, len300b]
    decide +kernel
  · have s1 := text_split (n := 2) g
    have s2 := text_split (n := n) gt
    rw [e, s2] at s1
    have := congrArg List.length s1
    simp [len300] at this
    omega
theorem cutS_len (z : Str) (lo hi : Option Int) : (cutS z lo hi).length ≤ z.length := by
  rw [len_tl, len_tl]
  show (((z.cps.toList.drop _).take _).toArray).toList.length ≤ z.cps.toList.length
  simp <;> omega
theorem text_pos (n : Nat) (ts : List Tie) : 1 ≤ (textS n ts).length := by
  rw [len_tl, text_flat, head_tl]
  simp <;> omega
theorem text_small {n : Nat} {ts : List Tie} (hn : n ≤ 24) (hz : ts.length ≤ 8) (g : ∀ t ∈ ts, Good n t) : (textS n ts).length ≤ 1000 := by
  have h1 : ∀ us : List Tie, (∀ t ∈ us, Good n t) → (us.map fun t => 10 :: tl (rowS t)).flatten.length ≤ 41 * us.length := by
    intro us
    induction us with
    | nil => intro _; simp
    | cons u us ih =>
      intro h
      have a := row_len (h u List.mem_cons_self) hn
      rw [len_tl] at a
      have b := ih fun t ht => h t (List.mem_cons_of_mem _ ht)
      simp only [List.map_cons, List.flatten_cons, List.length_append, List.length_cons]
      omega
  have a := head_len hn
  have b := h1 ts g
  rw [len_tl] at a
  rw [len_tl, text_flat, List.length_append]
  omega
theorem ok_law {f : Addr} {fd : FuncData} (F : Fun K "law" "law" s_law f fd) (T : Wd K mg) : FnOk P w K mg base CX0 10 f fd ["_law_script"] (spLaw K) := by
  have G__law_cell_at := ok__law_cell_at (P := P) (w := w) (base := base) T
  have G__law_good := ok__law_good (P := P) (w := w) (base := base) T
  have G__law_due := ok__law_due (P := P) (w := w) (base := base) T
  have G_read := ok_read (P := P) (w := w) (base := base) T
  have G__law_refused := ok__law_refused (P := P) (w := w) (base := base) T
  have G__law_sign_by := ok__law_sign_by (P := P) (w := w) (base := base) T
  have G__law_no_blank := ok__law_no_blank (P := P) (w := w) (base := base) T
  have G__law_odd := ok__law_odd (P := P) (w := w) (base := base) T
  have G_Net_ties := ok_Net_ties (P := P) (w := w) (base := base) T
  refine F.ok sc_law (fun vs H Q E h => ?_) (fun cdv A outer s H vs Q E hr h => ?_)
  · obtain ⟨a, ns, rfl, _⟩ := h
    rfl
  · obtain ⟨a, ns, rfl, hs, hz, k⟩ := h
    refine ⟨_, (pss_cons (ps_set (i := 1) sc_law.nd rfl (Or.inl rfl) (pe_op op_mod (pe_call G__law_cell_at (hr.mono (by decide)) (by rfl) T.m__law_cell_at T.F__law_cell_at.kp T.b__law_cell_at .nil pass0 (pa_cons (pv 0) (pa_cons pe_int pa_nil))) pe_int)) (pss_cons (ps_set (i := 2) sc_law.nd rfl (Or.inl rfl) (pe_call G__law_cell_at (hr.mono (by decide)) (by rfl) T.m__law_cell_at T.F__law_cell_at.kp T.b__law_cell_at .nil pass0 (pa_cons (pv 0) (pa_cons pe_int pa_nil)))) (pss_cons (ps_set (i := 3) sc_law.nd rfl (Or.inl rfl) (pe_op op_add pe_int (pe_op op_mod (pe_op op_fdiv (pe_call G__law_cell_at (hr.mono (by decide)) (by rfl) T.m__law_cell_at T.F__law_cell_at.kp T.b__law_cell_at .nil pass0 (pa_cons (pv 0) (pa_cons pe_int pa_nil))) pe_int) pe_int))) (pss_cons (ps_if (pt_cmpR op_eq (pv 1) pe_int (nomark _)) (pss_one (ps_ret (pe_and (pe_call G__law_refused (hr.mono (by decide)) (by rfl) T.m__law_refused T.F__law_refused.kp T.b__law_refused .nil pass0 (pa_cons (pe_ix ix_list (pe_lst (pa_cons pe_non (pa_cons pe_int (pa_cons pe_bl (pa_cons (pe_lst (pa_cons pe_str pa_nil)) (pa_cons (pe_tup (pa_cons pe_str pa_nil)) pa_nil)))))) (pe_op op_mod (pv 2) pe_int) (fun _ _ => rfl)) pa_nil)) (pe_one (pe_call G__law_no_blank (hr.mono (by decide)) (by rfl) T.m__law_no_blank T.F__law_no_blank.kp T.b__law_no_blank .nil pass0 (pa_cons (pe_op op_add pe_int (pe_op op_mod (pe_op op_fdiv (pv 2) pe_int) pe_int)) pa_nil)))))) pss_nil) (pss_cons (ps_if (pt_cmpR op_eq (pv 1) pe_int (nomark _)) (pss_cons (ps_set (i := 4) sc_law.nd rfl (Or.inl rfl) (pe_op op_add_str pe_str (pe_op G.op_repS pe_str pe_int))) (pss_one (ps_ret (pe_and (pe_call G__law_refused (hr.mono (by decide)) (by rfl) T.m__law_refused T.F__law_refused.kp T.b__law_refused .nil pass0 (pa_cons (pe_op op_add_str (pv 4) pe_str) pa_nil)) (pe_one (pe_cmpR op_eq (pe_callB call_len_seq (by rfl) T.n_len (by decide +kernel) (pa_cons (pe_meth0 (pe_call G_read (hr.mono (by decide)) (by rfl) T.m_read T.F_read.kp T.b_read .nil pass0 (pa_cons (pv 4) pa_nil)) T.cl_Net T.mt_Net_ties G_Net_ties (hr.mono (by decide)) T.b_Net_ties .nil pass0) pa_nil)) pe_int (nomark _))))))) pss_nil) (pss_cons (ps_if (pt_cmpR op_lt (pv 1) pe_int (nomark _)) (pss_one (ps_ret (pe_call G__law_refused (hr.mono (by decide)) (by rfl) T.m__law_refused T.F__law_refused.kp T.b__law_refused .nil pass0 (pa_cons (pe_call G__law_odd (hr.mono (by decide)) (by rfl) T.m__law_odd T.F__law_odd.kp T.b__law_odd .nil pass0 (pa_cons (pv 2) pa_nil)) pa_nil)))) pss_nil) (pss_cons (ps_set (i := 4) sc_law.nd rfl (Or.inl rfl) (pe_call G__law_good (hr.mono (by decide)) (by rfl) T.m__law_good T.F__law_good.kp T.b__law_good .nil pass0 (pa_cons (pv 0) (pa_cons (pv 3) pa_nil)))) (pss_cons (ps_if (pt_cmpR op_lt (pv 1) pe_int (nomark _)) (pss_cons (ps_set (i := 5) sc_law.nd rfl (Or.inl rfl) (pe_op op_mod (pe_op op_fdiv (pv 2) pe_int) (pe_callB call_len_str (by rfl) T.n_len (by decide +kernel) (pa_cons (pv 4) pa_nil)))) (pss_cons (ps_set (i := 6) sc_law.nd rfl (Or.inl rfl) (pe_call G__law_sign_by (hr.mono (by decide)) (by rfl) T.m__law_sign_by T.F__law_sign_by.kp T.b__law_sign_by .nil pass0 (pa_cons (pe_op op_mod (pe_op op_mul (pv 2) pe_int) pe_int) pa_nil))) (pss_one (ps_set (i := 4) sc_law.nd rfl (Or.inl rfl) (pe_op op_add_str (pe_op op_add_str (pe_slice sl_str (pv 4) po_none (po_some (pv 5))) (pe_ix ix_list (pe_lst (pa_cons (pv 6) (pa_cons pe_str (pa_cons (pv 6) pa_nil)))) (pe_op op_mod (pv 2) pe_int) (fun _ _ => rfl))) (pe_slice sl_str (pv 4) (po_some (pe_op op_add (pv 5) (pe_ix ix_list (pe_lst (pa_cons pe_int (pa_cons pe_int (pa_cons pe_int pa_nil)))) (pe_op op_mod (pv 2) pe_int) (fun _ _ => rfl)))) po_none)))))) pss_nil) (pss_cons (ps_set (i := 7) sc_law.nd rfl (Or.inl rfl) (pe_call G__law_due (hr.mono (by decide)) (by rfl) T.m__law_due T.F__law_due.kp T.b__law_due .nil pass0 (pa_cons (pv 4) pa_nil))) (pss_cons (ps_if (pt_cmpR (op_eqD hr.units) (pv 7) (pe_lst pa_nil) (nomark _)) (pss_one (ps_ret (pe_call G__law_refused (hr.mono (by decide)) (by rfl) T.m__law_refused T.F__law_refused.kp T.b__law_refused .nil pass0 (pa_cons (pv 4) pa_nil)))) pss_nil) (pss_cons (ps_set (i := 8) sc_law.nd rfl (Or.inl rfl) (pe_call G_read (hr.mono (by decide)) (by rfl) T.m_read T.F_read.kp T.b_read .nil pass0 (pa_cons (pv 4) pa_nil))) (pss_one (ps_ret (pe_and (pe_cmpR op_eq (pe_fld (pv 8) rfl) (pe_ix ix_list (pv 7) pe_int (fun _ _ => rfl)) (nomark _)) (pe_one (pe_cmpR (op_eqD hr.units) (pe_meth0 (pv 8) T.cl_Net T.mt_Net_ties G_Net_ties (hr.mono (by decide)) T.b_Net_ties .nil pass0) (pe_ix ix_list (pv 7) pe_int (fun _ _ => rfl)) (nomark _))))))))))))))))), ?_⟩
    obtain ⟨n, hn⟩ : ∃ n : Nat, 2 + cellA ns 0 / 8 % 23 = (n : Int) := ⟨(2 + cellA ns 0 / 8 % 23).toNat, by omega⟩
    have n2 : 2 ≤ n := by omega
    have n24 : n ≤ 24 := by omega
    refine p_asg (Ex.refl H) (ev_op (ev_call (ea_cons (ev_var rfl) (ea_cons ev_c ea_nil)) (sv_cell (k := 0) hs)) ev_c (rv_I (by decide : (0 : Int) < 8))) fun H1 e1 _ => ?_
    refine p_asg e1 (ev_call (ea_cons (ev_var rfl) (ea_cons ev_c ea_nil)) (sv_cell (k := 1) hs)) fun H2 e2 _ => ?_
    refine p_asg e2 (ev_is (ev_op ev_c (ev_op (ev_op (ev_call (ea_cons (ev_var rfl) (ea_cons ev_c ea_nil)) (sv_cell (k := 0) hs)) ev_c (rv_I ⟨by decide, by decide⟩)) ev_c (rv_I (by decide : (0 : Int) < 23))) rv_I0) (by rw [hn])) fun H3 e3 _ => ?_
    generalize cellA ns 0 % 8 = way
    generalize cellA ns 1 = cell
    refine p_when (Ex.refl H3) (et_test (ev_op (ev_var rfl) ev_c (rv_eq rfl))) (fun _ H4 e4 _ => ?_) (fun _ H4 e4 _ => ?_)
    · obtain ⟨j, hj⟩ : ∃ j : Nat, 1 + cell / 5 % 4 = (j : Int) := ⟨(1 + cell / 5 % 4).toNat, by omega⟩
      obtain ⟨i, hi⟩ : ∃ i : Nat, cell % 5 = (i : Int) := ⟨(cell % 5).toNat, by omega⟩
      have i5 : i < 5 := by omega
      refine s_ret (ev_andV (a := true) (b := true) (fun H5 e5 Q' q' => ⟨sz_of (Nat.le_of_ble_eq_true rfl), fun p hp => ⟨sz_of (Nat.le_of_ble_eq_true rfl), fun q hq => ⟨sz_of (Nat.le_of_ble_eq_true rfl), fun l hl => ?_⟩⟩⟩) (fun _ => ev_call (ea_cons (ev_is (ev_op ev_c (ev_op (ev_op (ev_var rfl) ev_c (rv_I ⟨by decide, by decide⟩)) ev_c (rv_I (by decide : (0 : Int) < 4))) rv_I0) (by rw [hj])) ea_nil) (fun H6 e6 Q6 q6 E6 => ⟨j, rfl, by omega, by omega, q6⟩ : SpV sp_no_blank [.int (j : Int)] _ (.bl true)))) fun H5 _ => k H5
      have eT : Ex H5 (upd (upd (upd H5 p (.lst [.str "places 2"])) q (.tup [.str "tie"])) l (.lst [.non, .int 7, .bl true, .ref p, .ref q])) := ((Ex.new hp).trans (Ex.new hq)).trans (Ex.new hl)
      have g1 : upd (upd (upd H5 p (.lst [.str "places 2"])) q (.tup [.str "tie"])) l (.lst [.non, .int 7, .bl true, .ref p, .ref q]) p = some (.lst [.str "places 2"]) := Ex.new hl _ _ (Ex.new hq _ _ upd_same)
      have g2 : upd (upd (upd H5 p (.lst [.str "places 2"])) q (.tup [.str "tie"])) l (.lst [.non, .int 7, .bl true, .ref p, .ref q]) q = some (.tup [.str "tie"]) := Ex.new hl _ _ upd_same
      have g3 : upd (upd (upd H5 p (.lst [.str "places 2"])) q (.tup [.str "tie"])) l (.lst [.non, .int 7, .bl true, .ref p, .ref q]) l = some (.lst [.non, .int 7, .bl true, .ref p, .ref q]) := upd_same
      generalize upd (upd (upd H5 p (.lst [.str "places 2"])) q (.tup [.str "tie"])) l (.lst [.non, .int 7, .bl true, .ref p, .ref q]) = H6 at eT g1 g2 g3 ⊢
      obtain ⟨v, hv, hbad⟩ : ∃ v, [V.non, .int 7, .bl true, .ref p, .ref q][i]? = some v ∧ BadText K H6 v := by
        match i, i5 with
        | 0, _ => exact ⟨_, rfl, .inl ⟨"NoneType", .non, .inl rfl, by decide⟩⟩
        | 1, _ => exact ⟨_, rfl, .inl ⟨"int", .int _, t8int, by decide⟩⟩
        | 2, _ => exact ⟨_, rfl, .inl ⟨"bool", .bl _, .inr (.inl rfl), by decide⟩⟩
        | 3, _ => exact ⟨_, rfl, .inl ⟨"list", .lst (sq_of g1), t8list, by decide⟩⟩
        | 4, _ => exact ⟨_, rfl, .inl ⟨"tuple", .tup (st_of g2), t8tuple, by decide⟩⟩
      exact ⟨_, rfl, cell, 5, rfl, rfl, (by show (0 : Int) < 5; decide), l, _, _, v, rfl, rfl, sq_of g3, at_of hi hv, v, rfl, hbad, fun H7 e7 => q' H7 (eT.trans e7)⟩
    refine p_when (Ex.refl H4) (et_test (ev_op (ev_var rfl) ev_c (rv_eq rfl))) (fun _ H5 e5 _ => ?_) (fun _ H5 e5 _ => ?_)
    · have pl : ("places 2" : Str).length = 8 := by decide +kernel
      have ql : ("\ntie 1 0 7" : Str).length = 10 := by decide +kernel
      have tl300 : (textS 2 T300).length = 3008 := by
        rw [← x300, len_tl, tl_append, List.length_append, ← len_tl, ← len_tl, len300b, pl]
      refine p_asg (Ex.refl H5) (ev_is (ev_op ev_c (ev_repS ev_c ev_c mul300) (rv_addS (by rw [len300b, pl]; decide))) (by rw [x300])) fun H6 e6 _ => ?_
      refine s_ret (ev_andV (a := true) (b := true) (ev_call (ea_cons (ev_op (ev_var rfl) ev_c (rv_addS (by rw [tl300, ql]; decide))) ea_nil) (sv_trefused bad301)) (fun _ => ev_is (ev_op (ev_lenR (n := 300) (er_tiesR (n := 2) (ts := T300) (er_read (ev_var rfl) (by decide) (by decide) (by rw [len300]; decide) good300) (fun H1 v H2 r => r)) (fun H1 v H2 r => ?_)) ev_c (rv_eq rfl)) rfl)) fun H7 _ => k H7
      obtain ⟨p, xs, rfl, hp, tz⟩ := r
      exact ⟨p, xs, rfl, sq_of hp, by rw [tz.len, len300]⟩
    refine p_when (Ex.refl H5) (et_test (ev_op (ev_var rfl) ev_c rv_I0)) (fun _ H6 e6 _ => ?_) (fun _ H6 e6 _ => ?_)
    · refine s_ret (fun H7 e7 Q' q' => ⟨_, rfl, cell, rfl, fun x hx hb H8 e8 => ⟨.str x, rfl, badS hx hb, fun H9 e9 => q' H9 (e8.trans e9)⟩⟩ : Ev _ _ _ (.bl true)) fun H7 _ => k H7
    refine ⟨_, rfl, _, rfl, a, ns, n, rfl, ex_l ((e3.trans e4).trans (e5.trans e6)) hs, n2, n24, fun ts hts g H7 e7 => ?_⟩
    have tpos := text_pos n ts
    have tsm := text_small n24 hts g
    generalize textS n ts = x0 at tpos tsm
    refine p_whenK (fun σ' H' => ∃ x u5 u6, x.length ≤ 30000 ∧ σ' = [some (.ref a), some (.int way), some (.int cell), some (.int (n : Int)), some (.str x), u5, u6, none, none]) (Ex.refl H7) (et_test (ev_op (ev_var rfl) ev_c rv_I0)) (fun _ H8 e8 _ kk => ?_) (fun _ H8 e8 _ => ⟨x0, none, none, by omega, rfl⟩) ?_
    · refine p_asg (Ex.refl H8) (ev_op (ev_op (ev_var rfl) ev_c (rv_I ⟨by decide, by decide⟩)) (ev_lenStr (ev_var rfl) (by omega)) (rv_I (by omega : (0 : Int) < (x0.length : Int)))) fun H9 e9 _ => ?_
      generalize cell / 3 % (x0.length : Int) = at'
      refine ⟨_, rfl, cell, 48271, rfl, rfl, Or.inr ⟨by decide, by decide⟩, _, 1000003, rfl, rfl, (by show (0 : Int) < 1000003; decide), _, rfl, fun s H10 e10 => ?_⟩
      have r3 : ∀ {H : Hp}, RV (rI (fun _ j => 0 < j) fun i j => V.int (i % j)) (.int cell) (.int 3) H (.int (cell % 3)) := rv_I (by show (0 : Int) < 3; decide)
      have c0 : 0 ≤ cell % 3 := Int.emod_nonneg _ (by decide)
      have c1 : cell % 3 < 3 := Int.emod_lt_of_pos _ (by decide)
      obtain ⟨i, hi⟩ : ∃ i : Nat, cell % 3 = (i : Int) := ⟨(cell % 3).toNat, by omega⟩
      have i3 : i < 3 := by omega
      obtain ⟨y, d, hy, hd, yl⟩ : ∃ (y : Str) (d : Int), atI [V.str ⟨#[s]⟩, .str "", .str ⟨#[s]⟩] (cell % 3) = some (.str y) ∧ atI [V.int 0, .int 1, .int 1] (cell % 3) = some (.int d) ∧ y.length ≤ 1 := by
        match i, i3 with
        | 0, _ => exact ⟨_, _, at_of hi rfl, at_of hi rfl, Nat.le_refl _⟩
        | 1, _ => exact ⟨_, _, at_of hi rfl, at_of hi rfl, by decide +kernel⟩
        | 2, _ => exact ⟨_, _, at_of hi rfl, at_of hi rfl, Nat.le_refl _⟩
      have sumL : ∀ a b : Str, (a ++ b).length = a.length + b.length := fun a b => by rw [len_tl, tl_append, List.length_append, ← len_tl, ← len_tl]
      have l1 := cutS_len x0 none (some at')
      have l2 := cutS_len x0 (some (at' + d)) none
      refine s_asg (ev_op (ev_op (ev_slS (ev_var rfl) eo_none (eo_some (ev_var rfl)) (by omega)) (ev_pick (ea_cons (ev_var rfl) (ea_cons ev_c (ea_cons (ev_var rfl) ea_nil))) (Nat.le_of_ble_eq_true rfl) (ev_op (ev_var rfl) ev_c r3) hy) (rv_addS (by omega))) (ev_slS (ev_var rfl) (eo_some (ev_op (ev_var rfl) (ev_pick (ea_cons ev_c (ea_cons ev_c (ea_cons ev_c ea_nil))) (Nat.le_of_ble_eq_true rfl) (ev_op (ev_var rfl) ev_c r3) hd) rv_I0)) eo_none (by omega)) (rv_addS (by rw [sumL]; omega))) fun H11 e11 => ?_
      exact kk _ _ ⟨_, _, _, by rw [sumL, sumL]; omega, rfl⟩
    · rintro σ' H8 ⟨x, u5, u6, hx, rfl⟩
      refine ⟨_, rfl, x, rfl, hx, fun m us N l p xs H9 e9 hl hl9 hp9 tz => ?_, fun hbad l H9 hl e9 hl9 => ?_⟩
      · refine p_no (Ex.refl H9) (et_is (et_test (ev_opL (ev_var rfl) (el_lst ea_nil (Nat.zero_le _)) (fun q H10 hq e10 => rv_eqD (d := .list [.int (m : Int), .list (pdt us)]) (e := .list []) (dp_ex e10 _ _ (.lst (sq_of hl9) (.cons (.int _) (.cons (.lst (sq_of hp9) (dp_ties tz)) .nil)))) (.lst (sq_of hq) .nil) ?_ rfl))) rfl) fun H10 e10 _ => ?_
        · show (true && (PyData.canLayAll0 (pdt us) && true) && decide (max 0 (max (PyData.depthAll (pdt us) + 1) 0) + 1 ≤ 64)) = true
          rw [pdt_lay, Bool.and_true, Bool.and_true, Bool.true_and]
          exact decide_eq_true (by have := pdt_depth us; omega)
        obtain ⟨h1, h2, h3, hg, rfl⟩ := N
        refine p_asgR (Ex.refl H10) (er_read (C := T.C_Net) (ev_var rfl) h1 h2 h3 hg) fun v H11 e11 _ r => ?_
        obtain ⟨net, rfl, N⟩ := r
        have tz11 := tz.ex (e10.trans e11)
        have hl11 := (e10.trans e11) _ _ hl9
        have hp11 := (e10.trans e11) _ _ hp9
        refine s_ret (ev_andV (a := true) (b := true) (ev_is (ev_op (ev_many (ev_var rfl) N T.cl_Net T.na_Net_many) (ev_op (ev_var rfl) ev_c (rv_ixL (sq_of hl11) (at_of (j := 0) rfl rfl))) (rv_eq rfl)) (by rw [decide_eq_true rfl])) (fun _ => ev_is (ev_opR (z := .bl (PyData.eqv (.list (pdt us)) (.list (pdt us)))) (er_tiesR (C := T.C_Net) (n := m) (ts := us) (fun H12 e12 Q q => ⟨_, rfl, q _ H12 (Ex.refl H12) ⟨net, rfl, N.ex e12⟩⟩ : EvR (tVar 8) _ _ (fun _ v H2 => ∃ x, v = .ref x ∧ NetAt K T.C_Net H2 x m us)) (fun H1 v H2 r => r)) (ev_op (ev_var rfl) ev_c (rv_ixL (sq_of hl11) (at_of (j := 1) rfl rfl))) (fun H0 v H1 H2 a b c r => ?_)) (by rw [eqv_tiesL]; simp))) fun H12 _ => k H12
        obtain ⟨q1, y0, rfl, hq1, y1⟩ := r
        exact rv_eqD (.lst (sq_of (c _ _ hq1)) (dp_ties (y1.ex c))) (.lst (sq_of (c _ _ (b _ _ (a _ _ hp11)))) (dp_ties (tz11.ex (a.trans (b.trans c))))) (sh_ties _) (sh_ties _)
      · have hb : BadText K H9 (.str x) := .inr ⟨x, rfl, hx, fun n ts a b c g e => hbad n ts ⟨a, b, c, g, e⟩⟩
        exact p_when (b := true) (Ex.refl H9) (et_is (et_test (ev_opL (ev_var rfl) (el_lst ea_nil (Nat.zero_le _)) (fun q H10 hq e10 => rv_eqD (d := .list []) (e := .list []) (dp_ex e10 _ _ (.lst (sq_of hl9) .nil)) (.lst (sq_of hq) .nil) rfl rfl))) rfl) (fun _ H10 e10 _ => s_ret (ev_call (ea_cons (ev_var rfl) ea_nil) (sv_trefused (hb.ex e10))) fun H11 _ => k H11) (fun hb => by cases hb)
end
end Toy

namespace Toy
open PySem L2 Evl RZ G
theorem all_mk {l : PySem.W.OpenLaw} {w : World} {K : PySem.W.Frag} {h : Heap} {mg : Str → Option Value} (X : K.In h) (G : h.Ns mainGlobals mg) {fa : Addr} (hfa : mg "law" = some (.ref fa))
    {f_is_whole : Addr} {od_is_whole an_is_whole : Option Addr} {sl_is_whole : Array (Option Value)} {oc_is_whole kV_is_whole dc_is_whole pm_is_whole cd_is_whole ct_is_whole : Value}
    {f_is_place : Addr} {od_is_place an_is_place : Option Addr} {sl_is_place : Array (Option Value)} {oc_is_place kV_is_place dc_is_place pm_is_place cd_is_place ct_is_place : Value}
    {f_is_tie : Addr} {od_is_tie an_is_tie : Option Addr} {sl_is_tie : Array (Option Value)} {oc_is_tie kV_is_tie dc_is_tie pm_is_tie cd_is_tie ct_is_tie : Value}
    {f_check_net : Addr} {od_check_net an_check_net : Option Addr} {sl_check_net : Array (Option Value)} {oc_check_net kV_check_net dc_check_net pm_check_net cd_check_net ct_check_net : Value}
    {f_check_place : Addr} {od_check_place an_check_place : Option Addr} {sl_check_place : Array (Option Value)} {oc_check_place kV_check_place dc_check_place pm_check_place cd_check_place ct_check_place : Value}
    {f_check_two : Addr} {od_check_two an_check_two : Option Addr} {sl_check_two : Array (Option Value)} {oc_check_two kV_check_two dc_check_two pm_check_two cd_check_two ct_check_two : Value}
    {f_check_side : Addr} {od_check_side an_check_side : Option Addr} {sl_check_side : Array (Option Value)} {oc_check_side kV_check_side dc_check_side pm_check_side cd_check_side ct_check_side : Value}
    {f_costs_between : Addr} {od_costs_between an_costs_between : Option Addr} {sl_costs_between : Array (Option Value)} {oc_costs_between kV_costs_between dc_costs_between pm_costs_between cd_costs_between ct_costs_between : Value}
    {f_Net_init : Addr} {od_Net_init an_Net_init : Option Addr} {sl_Net_init : Array (Option Value)} {oc_Net_init kV_Net_init dc_Net_init pm_Net_init cd_Net_init ct_Net_init : Value}
    {f_Net_ties : Addr} {od_Net_ties an_Net_ties : Option Addr} {sl_Net_ties : Array (Option Value)} {oc_Net_ties kV_Net_ties dc_Net_ties pm_Net_ties cd_Net_ties ct_Net_ties : Value}
    {f_Net_between : Addr} {od_Net_between an_Net_between : Option Addr} {sl_Net_between : Array (Option Value)} {oc_Net_between kV_Net_between dc_Net_between pm_Net_between cd_Net_between ct_Net_between : Value}
    {f_Net_price : Addr} {od_Net_price an_Net_price : Option Addr} {sl_Net_price : Array (Option Value)} {oc_Net_price kV_Net_price dc_Net_price pm_Net_price cd_Net_price ct_Net_price : Value}
    {f_number_in : Addr} {od_number_in an_number_in : Option Addr} {sl_number_in : Array (Option Value)} {oc_number_in kV_number_in dc_number_in pm_number_in cd_number_in ct_number_in : Value}
    {f_numbers_in : Addr} {od_numbers_in an_numbers_in : Option Addr} {sl_numbers_in : Array (Option Value)} {oc_numbers_in kV_numbers_in dc_numbers_in pm_numbers_in cd_numbers_in ct_numbers_in : Value}
    {f_read : Addr} {od_read an_read : Option Addr} {sl_read : Array (Option Value)} {oc_read kV_read dc_read pm_read cd_read ct_read : Value}
    {f__law_cell_at : Addr} {od__law_cell_at an__law_cell_at : Option Addr} {sl__law_cell_at : Array (Option Value)} {oc__law_cell_at kV__law_cell_at dc__law_cell_at pm__law_cell_at cd__law_cell_at ct__law_cell_at : Value}
    {f__law_number : Addr} {od__law_number an__law_number : Option Addr} {sl__law_number : Array (Option Value)} {oc__law_number kV__law_number dc__law_number pm__law_number cd__law_number ct__law_number : Value}
    {f__law_due : Addr} {od__law_due an__law_due : Option Addr} {sl__law_due : Array (Option Value)} {oc__law_due kV__law_due dc__law_due pm__law_due cd__law_due ct__law_due : Value}
    {f__law_refused : Addr} {od__law_refused an__law_refused : Option Addr} {sl__law_refused : Array (Option Value)} {oc__law_refused kV__law_refused dc__law_refused pm__law_refused cd__law_refused ct__law_refused : Value}
    {f__law_odd : Addr} {od__law_odd an__law_odd : Option Addr} {sl__law_odd : Array (Option Value)} {oc__law_odd kV__law_odd dc__law_odd pm__law_odd cd__law_odd ct__law_odd : Value}
    {f__law_signs : Addr} {od__law_signs an__law_signs : Option Addr} {sl__law_signs : Array (Option Value)} {oc__law_signs kV__law_signs dc__law_signs pm__law_signs cd__law_signs ct__law_signs : Value}
    {f__law_sign_by : Addr} {od__law_sign_by an__law_sign_by : Option Addr} {sl__law_sign_by : Array (Option Value)} {oc__law_sign_by kV__law_sign_by dc__law_sign_by pm__law_sign_by cd__law_sign_by ct__law_sign_by : Value}
    {f__law_no_blank : Addr} {od__law_no_blank an__law_no_blank : Option Addr} {sl__law_no_blank : Array (Option Value)} {oc__law_no_blank kV__law_no_blank dc__law_no_blank pm__law_no_blank cd__law_no_blank ct__law_no_blank : Value}
    {f__law_good : Addr} {od__law_good an__law_good : Option Addr} {sl__law_good : Array (Option Value)} {oc__law_good kV__law_good dc__law_good pm__law_good cd__law_good ct__law_good : Value}
    {f_law : Addr} {od_law an_law : Option Addr} {sl_law : Array (Option Value)} {oc_law kV_law dc_law pm_law cd_law ct_law : Value}
    {C_Net : Addr}
    {C_WallError : Addr}
    {C_NoNet : Addr}
    {C_NoPlace : Addr}
    {C_NoSide : Addr}
    {C_NoText : Addr}
    {t_MOST_PLACES : Tok}
    {t_MOST_TIES : Tok}
    {t_TOP_PRICE : Tok}
    {t_FIGURES : Tok}
    {t_MOST_FIGURES : Tok}
    (aC_Net : PySem.W.nsIn K mainGlobals "Net" = some (some (.ref C_Net)))
    (pg_Net : PySem.W.plainGet K C_Net Str.empty = true)
    (hd_Net : PySem.W.hasDictIn K C_Net = true)
    (po_Net : PySem.W.plainOver K C_Net = true)
    (sa_Net : PySem.W.findIn K (.ref C_Net) "__setattr__" = some (some (.builtin "object.__setattr__")))
    (mk_Net : PySem.W.makesIn K C_Net = true)
    (kc_Net : PySem.W.keepIn K (.ref C_Net) = true)
    (na_Net__costs : PySem.W.findIn K (.ref C_Net) "_costs" = some none)
    (na_Net__ties : PySem.W.findIn K (.ref C_Net) "_ties" = some none)
    (na_Net_many : PySem.W.findIn K (.ref C_Net) "many" = some none)
    (aC_WallError : PySem.W.nsIn K mainGlobals "WallError" = some (some (.ref C_WallError)))
    (kp_WallError : PySem.W.keepIn K (.ref C_WallError) = true)
    (xx_WallError : PySem.W.excIn K C_WallError [.type "ValueError", .type "Exception", .type "BaseException", .type "object"] "ValueError.__new__" = true)
    (xb_WallError : PySem.W.subIn K (.ref C_WallError) (.type "BaseException") = some true)
    (xt_WallError : PySem.W.typeIn K (.ref C_WallError) = some (.type "type"))
    (xi_WallError : PySem.W.isClsIn K C_WallError = true)
    (xs_WallError : PySem.W.subIn K (.ref C_WallError) (.ref C_WallError) = some true)
    (xv_WallError : PySem.W.subIn K (.ref C_WallError) (.type "ValueError") = some true)
    (e1_WallError : PySem.W.findIn K (.ref C_WallError) "__getattribute__" = some (some (.builtin "BaseException.__getattribute__")))
    (e2_WallError : PySem.W.findIn K (.ref C_WallError) "__getattr__" = some none)
    (e4_WallError : PySem.W.hasDictIn K C_WallError = true)
    (e5_WallError : PySem.W.findIn K (.ref C_WallError) "__class__" = some (some (.builtin "object.__class__")))
    (e6_WallError : PySem.W.specialIn K (.builtin "object.__class__") "__get__" = some (some (.builtin "getset_descriptor.__get__")))
    (e7_WallError : PySem.W.takesIn K (.builtin "object.__class__") = some true)
    (e8_WallError : PySem.W.mroIn K C_WallError (.type "object") = some true)
    (aC_NoNet : PySem.W.nsIn K mainGlobals "NoNet" = some (some (.ref C_NoNet)))
    (kp_NoNet : PySem.W.keepIn K (.ref C_NoNet) = true)
    (xx_NoNet : PySem.W.excIn K C_NoNet [.type "ValueError", .type "Exception", .type "BaseException", .type "object"] "ValueError.__new__" = true)
    (xb_NoNet : PySem.W.subIn K (.ref C_NoNet) (.type "BaseException") = some true)
    (xt_NoNet : PySem.W.typeIn K (.ref C_NoNet) = some (.type "type"))
    (xi_NoNet : PySem.W.isClsIn K C_NoNet = true)
    (xs_NoNet : PySem.W.subIn K (.ref C_NoNet) (.ref C_NoNet) = some true)
    (xv_NoNet : PySem.W.subIn K (.ref C_NoNet) (.type "ValueError") = some true)
    (e1_NoNet : PySem.W.findIn K (.ref C_NoNet) "__getattribute__" = some (some (.builtin "BaseException.__getattribute__")))
    (e2_NoNet : PySem.W.findIn K (.ref C_NoNet) "__getattr__" = some none)
    (e4_NoNet : PySem.W.hasDictIn K C_NoNet = true)
    (e5_NoNet : PySem.W.findIn K (.ref C_NoNet) "__class__" = some (some (.builtin "object.__class__")))
    (e6_NoNet : PySem.W.specialIn K (.builtin "object.__class__") "__get__" = some (some (.builtin "getset_descriptor.__get__")))
    (e7_NoNet : PySem.W.takesIn K (.builtin "object.__class__") = some true)
    (e8_NoNet : PySem.W.mroIn K C_NoNet (.type "object") = some true)
    (aC_NoPlace : PySem.W.nsIn K mainGlobals "NoPlace" = some (some (.ref C_NoPlace)))
    (kp_NoPlace : PySem.W.keepIn K (.ref C_NoPlace) = true)
    (xx_NoPlace : PySem.W.excIn K C_NoPlace [.type "ValueError", .type "Exception", .type "BaseException", .type "object"] "ValueError.__new__" = true)
    (xb_NoPlace : PySem.W.subIn K (.ref C_NoPlace) (.type "BaseException") = some true)
    (xt_NoPlace : PySem.W.typeIn K (.ref C_NoPlace) = some (.type "type"))
    (xi_NoPlace : PySem.W.isClsIn K C_NoPlace = true)
    (xs_NoPlace : PySem.W.subIn K (.ref C_NoPlace) (.ref C_NoPlace) = some true)
    (xv_NoPlace : PySem.W.subIn K (.ref C_NoPlace) (.type "ValueError") = some true)
    (e1_NoPlace : PySem.W.findIn K (.ref C_NoPlace) "__getattribute__" = some (some (.builtin "BaseException.__getattribute__")))
    (e2_NoPlace : PySem.W.findIn K (.ref C_NoPlace) "__getattr__" = some none)
    (e4_NoPlace : PySem.W.hasDictIn K C_NoPlace = true)
    (e5_NoPlace : PySem.W.findIn K (.ref C_NoPlace) "__class__" = some (some (.builtin "object.__class__")))
    (e6_NoPlace : PySem.W.specialIn K (.builtin "object.__class__") "__get__" = some (some (.builtin "getset_descriptor.__get__")))
    (e7_NoPlace : PySem.W.takesIn K (.builtin "object.__class__") = some true)
    (e8_NoPlace : PySem.W.mroIn K C_NoPlace (.type "object") = some true)
    (aC_NoSide : PySem.W.nsIn K mainGlobals "NoSide" = some (some (.ref C_NoSide)))
    (kp_NoSide : PySem.W.keepIn K (.ref C_NoSide) = true)
    (xx_NoSide : PySem.W.excIn K C_NoSide [.type "ValueError", .type "Exception", .type "BaseException", .type "object"] "ValueError.__new__" = true)
    (xb_NoSide : PySem.W.subIn K (.ref C_NoSide) (.type "BaseException") = some true)
    (xt_NoSide : PySem.W.typeIn K (.ref C_NoSide) = some (.type "type"))
    (xi_NoSide : PySem.W.isClsIn K C_NoSide = true)
    (xs_NoSide : PySem.W.subIn K (.ref C_NoSide) (.ref C_NoSide) = some true)
    (xv_NoSide : PySem.W.subIn K (.ref C_NoSide) (.type "ValueError") = some true)
    (e1_NoSide : PySem.W.findIn K (.ref C_NoSide) "__getattribute__" = some (some (.builtin "BaseException.__getattribute__")))
    (e2_NoSide : PySem.W.findIn K (.ref C_NoSide) "__getattr__" = some none)
    (e4_NoSide : PySem.W.hasDictIn K C_NoSide = true)
    (e5_NoSide : PySem.W.findIn K (.ref C_NoSide) "__class__" = some (some (.builtin "object.__class__")))
    (e6_NoSide : PySem.W.specialIn K (.builtin "object.__class__") "__get__" = some (some (.builtin "getset_descriptor.__get__")))
    (e7_NoSide : PySem.W.takesIn K (.builtin "object.__class__") = some true)
    (e8_NoSide : PySem.W.mroIn K C_NoSide (.type "object") = some true)
    (aC_NoText : PySem.W.nsIn K mainGlobals "NoText" = some (some (.ref C_NoText)))
    (kp_NoText : PySem.W.keepIn K (.ref C_NoText) = true)
    (xx_NoText : PySem.W.excIn K C_NoText [.type "ValueError", .type "Exception", .type "BaseException", .type "object"] "ValueError.__new__" = true)
    (xb_NoText : PySem.W.subIn K (.ref C_NoText) (.type "BaseException") = some true)
    (xt_NoText : PySem.W.typeIn K (.ref C_NoText) = some (.type "type"))
    (xi_NoText : PySem.W.isClsIn K C_NoText = true)
    (xs_NoText : PySem.W.subIn K (.ref C_NoText) (.ref C_NoText) = some true)
    (xv_NoText : PySem.W.subIn K (.ref C_NoText) (.type "ValueError") = some true)
    (e1_NoText : PySem.W.findIn K (.ref C_NoText) "__getattribute__" = some (some (.builtin "BaseException.__getattribute__")))
    (e2_NoText : PySem.W.findIn K (.ref C_NoText) "__getattr__" = some none)
    (e4_NoText : PySem.W.hasDictIn K C_NoText = true)
    (e5_NoText : PySem.W.findIn K (.ref C_NoText) "__class__" = some (some (.builtin "object.__class__")))
    (e6_NoText : PySem.W.specialIn K (.builtin "object.__class__") "__get__" = some (some (.builtin "getset_descriptor.__get__")))
    (e7_NoText : PySem.W.takesIn K (.builtin "object.__class__") = some true)
    (e8_NoText : PySem.W.mroIn K C_NoText (.type "object") = some true)
    (su_NoNet_WallError : PySem.W.subIn K (.ref C_NoNet) (.ref C_WallError) = some true)
    (su_NoNet_NoPlace : PySem.W.subIn K (.ref C_NoNet) (.ref C_NoPlace) = some false)
    (su_NoNet_NoSide : PySem.W.subIn K (.ref C_NoNet) (.ref C_NoSide) = some false)
    (su_NoNet_NoText : PySem.W.subIn K (.ref C_NoNet) (.ref C_NoText) = some false)
    (su_NoPlace_WallError : PySem.W.subIn K (.ref C_NoPlace) (.ref C_WallError) = some true)
    (su_NoPlace_NoNet : PySem.W.subIn K (.ref C_NoPlace) (.ref C_NoNet) = some false)
    (su_NoPlace_NoSide : PySem.W.subIn K (.ref C_NoPlace) (.ref C_NoSide) = some false)
    (su_NoPlace_NoText : PySem.W.subIn K (.ref C_NoPlace) (.ref C_NoText) = some false)
    (su_NoSide_WallError : PySem.W.subIn K (.ref C_NoSide) (.ref C_WallError) = some true)
    (su_NoSide_NoNet : PySem.W.subIn K (.ref C_NoSide) (.ref C_NoNet) = some false)
    (su_NoSide_NoPlace : PySem.W.subIn K (.ref C_NoSide) (.ref C_NoPlace) = some false)
    (su_NoSide_NoText : PySem.W.subIn K (.ref C_NoSide) (.ref C_NoText) = some false)
    (su_NoText_WallError : PySem.W.subIn K (.ref C_NoText) (.ref C_WallError) = some true)
    (su_NoText_NoNet : PySem.W.subIn K (.ref C_NoText) (.ref C_NoNet) = some false)
    (su_NoText_NoPlace : PySem.W.subIn K (.ref C_NoText) (.ref C_NoPlace) = some false)
    (su_NoText_NoSide : PySem.W.subIn K (.ref C_NoText) (.ref C_NoSide) = some false)
    (a_is_whole : PySem.W.nsIn K mainGlobals "is_whole" = some (some (.ref f_is_whole)))
    (l_is_whole : K.lookup f_is_whole = some ⟨oc_is_whole, od_is_whole, .func (PySem.W.fnOf "is_whole" "is_whole" (defArgs s_is_whole) (defBody s_is_whole) (defScope s_is_whole) .none kV_is_whole dc_is_whole pm_is_whole an_is_whole cd_is_whole ct_is_whole), sl_is_whole⟩)
    (c_is_whole : PySem.W.codeIn K cd_is_whole "is_whole" = true)
    (k_is_whole : PySem.W.keepIn K (.ref f_is_whole) = true)
    (a_is_place : PySem.W.nsIn K mainGlobals "is_place" = some (some (.ref f_is_place)))
    (l_is_place : K.lookup f_is_place = some ⟨oc_is_place, od_is_place, .func (PySem.W.fnOf "is_place" "is_place" (defArgs s_is_place) (defBody s_is_place) (defScope s_is_place) .none kV_is_place dc_is_place pm_is_place an_is_place cd_is_place ct_is_place), sl_is_place⟩)
    (c_is_place : PySem.W.codeIn K cd_is_place "is_place" = true)
    (k_is_place : PySem.W.keepIn K (.ref f_is_place) = true)
    (a_is_tie : PySem.W.nsIn K mainGlobals "is_tie" = some (some (.ref f_is_tie)))
    (l_is_tie : K.lookup f_is_tie = some ⟨oc_is_tie, od_is_tie, .func (PySem.W.fnOf "is_tie" "is_tie" (defArgs s_is_tie) (defBody s_is_tie) (defScope s_is_tie) .none kV_is_tie dc_is_tie pm_is_tie an_is_tie cd_is_tie ct_is_tie), sl_is_tie⟩)
    (c_is_tie : PySem.W.codeIn K cd_is_tie "is_tie" = true)
    (k_is_tie : PySem.W.keepIn K (.ref f_is_tie) = true)
    (a_check_net : PySem.W.nsIn K mainGlobals "check_net" = some (some (.ref f_check_net)))
    (l_check_net : K.lookup f_check_net = some ⟨oc_check_net, od_check_net, .func (PySem.W.fnOf "check_net" "check_net" (defArgs s_check_net) (defBody s_check_net) (defScope s_check_net) .none kV_check_net dc_check_net pm_check_net an_check_net cd_check_net ct_check_net), sl_check_net⟩)
    (c_check_net : PySem.W.codeIn K cd_check_net "check_net" = true)
    (k_check_net : PySem.W.keepIn K (.ref f_check_net) = true)
    (a_check_place : PySem.W.nsIn K mainGlobals "check_place" = some (some (.ref f_check_place)))
    (l_check_place : K.lookup f_check_place = some ⟨oc_check_place, od_check_place, .func (PySem.W.fnOf "check_place" "check_place" (defArgs s_check_place) (defBody s_check_place) (defScope s_check_place) .none kV_check_place dc_check_place pm_check_place an_check_place cd_check_place ct_check_place), sl_check_place⟩)
    (c_check_place : PySem.W.codeIn K cd_check_place "check_place" = true)
    (k_check_place : PySem.W.keepIn K (.ref f_check_place) = true)
    (a_check_two : PySem.W.nsIn K mainGlobals "check_two" = some (some (.ref f_check_two)))
    (l_check_two : K.lookup f_check_two = some ⟨oc_check_two, od_check_two, .func (PySem.W.fnOf "check_two" "check_two" (defArgs s_check_two) (defBody s_check_two) (defScope s_check_two) .none kV_check_two dc_check_two pm_check_two an_check_two cd_check_two ct_check_two), sl_check_two⟩)
    (c_check_two : PySem.W.codeIn K cd_check_two "check_two" = true)
    (k_check_two : PySem.W.keepIn K (.ref f_check_two) = true)
    (a_check_side : PySem.W.nsIn K mainGlobals "check_side" = some (some (.ref f_check_side)))
    (l_check_side : K.lookup f_check_side = some ⟨oc_check_side, od_check_side, .func (PySem.W.fnOf "check_side" "check_side" (defArgs s_check_side) (defBody s_check_side) (defScope s_check_side) .none kV_check_side dc_check_side pm_check_side an_check_side cd_check_side ct_check_side), sl_check_side⟩)
    (c_check_side : PySem.W.codeIn K cd_check_side "check_side" = true)
    (k_check_side : PySem.W.keepIn K (.ref f_check_side) = true)
    (a_costs_between : PySem.W.nsIn K mainGlobals "costs_between" = some (some (.ref f_costs_between)))
    (l_costs_between : K.lookup f_costs_between = some ⟨oc_costs_between, od_costs_between, .func (PySem.W.fnOf "costs_between" "costs_between" (defArgs s_costs_between) (defBody s_costs_between) (defScope s_costs_between) .none kV_costs_between dc_costs_between pm_costs_between an_costs_between cd_costs_between ct_costs_between), sl_costs_between⟩)
    (c_costs_between : PySem.W.codeIn K cd_costs_between "costs_between" = true)
    (k_costs_between : PySem.W.keepIn K (.ref f_costs_between) = true)
    (a_Net_init : PySem.W.findIn K (.ref C_Net) "__init__" = some (some (.ref f_Net_init)))
    (i_Net_init : PySem.W.isFn K (.ref f_Net_init) = true)
    (l_Net_init : K.lookup f_Net_init = some ⟨oc_Net_init, od_Net_init, .func (PySem.W.fnOf "__init__" "Net.__init__" (defArgs s_Net_init) (defBody s_Net_init) (defScope s_Net_init) .none kV_Net_init dc_Net_init pm_Net_init an_Net_init cd_Net_init ct_Net_init), sl_Net_init⟩)
    (c_Net_init : PySem.W.codeIn K cd_Net_init "Net.__init__" = true)
    (k_Net_init : PySem.W.keepIn K (.ref f_Net_init) = true)
    (a_Net_ties : PySem.W.findIn K (.ref C_Net) "ties" = some (some (.ref f_Net_ties)))
    (i_Net_ties : PySem.W.isFn K (.ref f_Net_ties) = true)
    (l_Net_ties : K.lookup f_Net_ties = some ⟨oc_Net_ties, od_Net_ties, .func (PySem.W.fnOf "ties" "Net.ties" (defArgs s_Net_ties) (defBody s_Net_ties) (defScope s_Net_ties) .none kV_Net_ties dc_Net_ties pm_Net_ties an_Net_ties cd_Net_ties ct_Net_ties), sl_Net_ties⟩)
    (c_Net_ties : PySem.W.codeIn K cd_Net_ties "Net.ties" = true)
    (k_Net_ties : PySem.W.keepIn K (.ref f_Net_ties) = true)
    (a_Net_between : PySem.W.findIn K (.ref C_Net) "between" = some (some (.ref f_Net_between)))
    (i_Net_between : PySem.W.isFn K (.ref f_Net_between) = true)
    (l_Net_between : K.lookup f_Net_between = some ⟨oc_Net_between, od_Net_between, .func (PySem.W.fnOf "between" "Net.between" (defArgs s_Net_between) (defBody s_Net_between) (defScope s_Net_between) .none kV_Net_between dc_Net_between pm_Net_between an_Net_between cd_Net_between ct_Net_between), sl_Net_between⟩)
    (c_Net_between : PySem.W.codeIn K cd_Net_between "Net.between" = true)
    (k_Net_between : PySem.W.keepIn K (.ref f_Net_between) = true)
    (a_Net_price : PySem.W.findIn K (.ref C_Net) "price" = some (some (.ref f_Net_price)))
    (i_Net_price : PySem.W.isFn K (.ref f_Net_price) = true)
    (l_Net_price : K.lookup f_Net_price = some ⟨oc_Net_price, od_Net_price, .func (PySem.W.fnOf "price" "Net.price" (defArgs s_Net_price) (defBody s_Net_price) (defScope s_Net_price) .none kV_Net_price dc_Net_price pm_Net_price an_Net_price cd_Net_price ct_Net_price), sl_Net_price⟩)
    (c_Net_price : PySem.W.codeIn K cd_Net_price "Net.price" = true)
    (k_Net_price : PySem.W.keepIn K (.ref f_Net_price) = true)
    (a_number_in : PySem.W.nsIn K mainGlobals "number_in" = some (some (.ref f_number_in)))
    (l_number_in : K.lookup f_number_in = some ⟨oc_number_in, od_number_in, .func (PySem.W.fnOf "number_in" "number_in" (defArgs s_number_in) (defBody s_number_in) (defScope s_number_in) .none kV_number_in dc_number_in pm_number_in an_number_in cd_number_in ct_number_in), sl_number_in⟩)
    (c_number_in : PySem.W.codeIn K cd_number_in "number_in" = true)
    (k_number_in : PySem.W.keepIn K (.ref f_number_in) = true)
    (a_numbers_in : PySem.W.nsIn K mainGlobals "numbers_in" = some (some (.ref f_numbers_in)))
    (l_numbers_in : K.lookup f_numbers_in = some ⟨oc_numbers_in, od_numbers_in, .func (PySem.W.fnOf "numbers_in" "numbers_in" (defArgs s_numbers_in) (defBody s_numbers_in) (defScope s_numbers_in) .none kV_numbers_in dc_numbers_in pm_numbers_in an_numbers_in cd_numbers_in ct_numbers_in), sl_numbers_in⟩)
    (c_numbers_in : PySem.W.codeIn K cd_numbers_in "numbers_in" = true)
    (k_numbers_in : PySem.W.keepIn K (.ref f_numbers_in) = true)
    (a_read : PySem.W.nsIn K mainGlobals "read" = some (some (.ref f_read)))
    (l_read : K.lookup f_read = some ⟨oc_read, od_read, .func (PySem.W.fnOf "read" "read" (defArgs s_read) (defBody s_read) (defScope s_read) .none kV_read dc_read pm_read an_read cd_read ct_read), sl_read⟩)
    (c_read : PySem.W.codeIn K cd_read "read" = true)
    (k_read : PySem.W.keepIn K (.ref f_read) = true)
    (a__law_cell_at : PySem.W.nsIn K mainGlobals "_law_cell_at" = some (some (.ref f__law_cell_at)))
    (l__law_cell_at : K.lookup f__law_cell_at = some ⟨oc__law_cell_at, od__law_cell_at, .func (PySem.W.fnOf "_law_cell_at" "_law_cell_at" (defArgs s__law_cell_at) (defBody s__law_cell_at) (defScope s__law_cell_at) .none kV__law_cell_at dc__law_cell_at pm__law_cell_at an__law_cell_at cd__law_cell_at ct__law_cell_at), sl__law_cell_at⟩)
    (c__law_cell_at : PySem.W.codeIn K cd__law_cell_at "_law_cell_at" = true)
    (k__law_cell_at : PySem.W.keepIn K (.ref f__law_cell_at) = true)
    (a__law_number : PySem.W.nsIn K mainGlobals "_law_number" = some (some (.ref f__law_number)))
    (l__law_number : K.lookup f__law_number = some ⟨oc__law_number, od__law_number, .func (PySem.W.fnOf "_law_number" "_law_number" (defArgs s__law_number) (defBody s__law_number) (defScope s__law_number) .none kV__law_number dc__law_number pm__law_number an__law_number cd__law_number ct__law_number), sl__law_number⟩)
    (c__law_number : PySem.W.codeIn K cd__law_number "_law_number" = true)
    (k__law_number : PySem.W.keepIn K (.ref f__law_number) = true)
    (a__law_due : PySem.W.nsIn K mainGlobals "_law_due" = some (some (.ref f__law_due)))
    (l__law_due : K.lookup f__law_due = some ⟨oc__law_due, od__law_due, .func (PySem.W.fnOf "_law_due" "_law_due" (defArgs s__law_due) (defBody s__law_due) (defScope s__law_due) .none kV__law_due dc__law_due pm__law_due an__law_due cd__law_due ct__law_due), sl__law_due⟩)
    (c__law_due : PySem.W.codeIn K cd__law_due "_law_due" = true)
    (k__law_due : PySem.W.keepIn K (.ref f__law_due) = true)
    (a__law_refused : PySem.W.nsIn K mainGlobals "_law_refused" = some (some (.ref f__law_refused)))
    (l__law_refused : K.lookup f__law_refused = some ⟨oc__law_refused, od__law_refused, .func (PySem.W.fnOf "_law_refused" "_law_refused" (defArgs s__law_refused) (defBody s__law_refused) (defScope s__law_refused) .none kV__law_refused dc__law_refused pm__law_refused an__law_refused cd__law_refused ct__law_refused), sl__law_refused⟩)
    (c__law_refused : PySem.W.codeIn K cd__law_refused "_law_refused" = true)
    (k__law_refused : PySem.W.keepIn K (.ref f__law_refused) = true)
    (a__law_odd : PySem.W.nsIn K mainGlobals "_law_odd" = some (some (.ref f__law_odd)))
    (l__law_odd : K.lookup f__law_odd = some ⟨oc__law_odd, od__law_odd, .func (PySem.W.fnOf "_law_odd" "_law_odd" (defArgs s__law_odd) (defBody s__law_odd) (defScope s__law_odd) .none kV__law_odd dc__law_odd pm__law_odd an__law_odd cd__law_odd ct__law_odd), sl__law_odd⟩)
    (c__law_odd : PySem.W.codeIn K cd__law_odd "_law_odd" = true)
    (k__law_odd : PySem.W.keepIn K (.ref f__law_odd) = true)
    (a__law_signs : PySem.W.nsIn K mainGlobals "_law_signs" = some (some (.ref f__law_signs)))
    (l__law_signs : K.lookup f__law_signs = some ⟨oc__law_signs, od__law_signs, .func (PySem.W.fnOf "_law_signs" "_law_signs" (defArgs s__law_signs) (defBody s__law_signs) (defScope s__law_signs) .none kV__law_signs dc__law_signs pm__law_signs an__law_signs cd__law_signs ct__law_signs), sl__law_signs⟩)
    (c__law_signs : PySem.W.codeIn K cd__law_signs "_law_signs" = true)
    (k__law_signs : PySem.W.keepIn K (.ref f__law_signs) = true)
    (a__law_sign_by : PySem.W.nsIn K mainGlobals "_law_sign_by" = some (some (.ref f__law_sign_by)))
    (l__law_sign_by : K.lookup f__law_sign_by = some ⟨oc__law_sign_by, od__law_sign_by, .func (PySem.W.fnOf "_law_sign_by" "_law_sign_by" (defArgs s__law_sign_by) (defBody s__law_sign_by) (defScope s__law_sign_by) .none kV__law_sign_by dc__law_sign_by pm__law_sign_by an__law_sign_by cd__law_sign_by ct__law_sign_by), sl__law_sign_by⟩)
    (c__law_sign_by : PySem.W.codeIn K cd__law_sign_by "_law_sign_by" = true)
    (k__law_sign_by : PySem.W.keepIn K (.ref f__law_sign_by) = true)
    (a__law_no_blank : PySem.W.nsIn K mainGlobals "_law_no_blank" = some (some (.ref f__law_no_blank)))
    (l__law_no_blank : K.lookup f__law_no_blank = some ⟨oc__law_no_blank, od__law_no_blank, .func (PySem.W.fnOf "_law_no_blank" "_law_no_blank" (defArgs s__law_no_blank) (defBody s__law_no_blank) (defScope s__law_no_blank) .none kV__law_no_blank dc__law_no_blank pm__law_no_blank an__law_no_blank cd__law_no_blank ct__law_no_blank), sl__law_no_blank⟩)
    (c__law_no_blank : PySem.W.codeIn K cd__law_no_blank "_law_no_blank" = true)
    (k__law_no_blank : PySem.W.keepIn K (.ref f__law_no_blank) = true)
    (a__law_good : PySem.W.nsIn K mainGlobals "_law_good" = some (some (.ref f__law_good)))
    (l__law_good : K.lookup f__law_good = some ⟨oc__law_good, od__law_good, .func (PySem.W.fnOf "_law_good" "_law_good" (defArgs s__law_good) (defBody s__law_good) (defScope s__law_good) .none kV__law_good dc__law_good pm__law_good an__law_good cd__law_good ct__law_good), sl__law_good⟩)
    (c__law_good : PySem.W.codeIn K cd__law_good "_law_good" = true)
    (k__law_good : PySem.W.keepIn K (.ref f__law_good) = true)
    (a_law : PySem.W.nsIn K mainGlobals "law" = some (some (.ref f_law)))
    (l_law : K.lookup f_law = some ⟨oc_law, od_law, .func (PySem.W.fnOf "law" "law" (defArgs s_law) (defBody s_law) (defScope s_law) .none kV_law dc_law pm_law an_law cd_law ct_law), sl_law⟩)
    (c_law : PySem.W.codeIn K cd_law "law" = true)
    (k_law : PySem.W.keepIn K (.ref f_law) = true)
    (g_MOST_PLACES : PySem.W.nsIn K mainGlobals "MOST_PLACES" = some (some (.int 24 t_MOST_PLACES)))
    (g_MOST_TIES : PySem.W.nsIn K mainGlobals "MOST_TIES" = some (some (.int 300 t_MOST_TIES)))
    (g_TOP_PRICE : PySem.W.nsIn K mainGlobals "TOP_PRICE" = some (some (.int 1000000000 t_TOP_PRICE)))
    (g_FIGURES : PySem.W.nsIn K mainGlobals "FIGURES" = some (some (.str "0123456789" t_FIGURES)))
    (g_MOST_FIGURES : PySem.W.nsIn K mainGlobals "MOST_FIGURES" = some (some (.int 10 t_MOST_FIGURES)))
    (nb_ValueError : PySem.W.nsIn K mainGlobals "ValueError" = some none)
    (nb_int : PySem.W.nsIn K mainGlobals "int" = some none)
    (nb_isinstance : PySem.W.nsIn K mainGlobals "isinstance" = some none)
    (nb_len : PySem.W.nsIn K mainGlobals "len" = some none)
    (nb_list : PySem.W.nsIn K mainGlobals "list" = some none)
    (nb_range : PySem.W.nsIn K mainGlobals "range" = some none)
    (nb_set : PySem.W.nsIn K mainGlobals "set" = some none)
    (nb_str : PySem.W.nsIn K mainGlobals "str" = some none)
    (nb_tuple : PySem.W.nsIn K mainGlobals "tuple" = some none)
    (nb_type : PySem.W.nsIn K mainGlobals "type" = some none)
    : ∃ fd : FuncData, (∀ (s : Shared) (v : Value), BindsTo s fd ⟨[v], []⟩ [("_law_script", v)]) ∧ ∀ base : Heap, K.In base → base.Ns mainGlobals mg → FnOk l.prog w K mg base CX0 10 fa fd ["_law_script"] (spLaw K) := by
  have e := hfa.symm.trans (PySem.W.mg_of X G a_law)
  cases e
  exact ⟨_, fun s v => .of_eq rfl, fun base _ _ => ok_law (fun_mk (st := s_law) l_law c_law k_law) { f_is_whole := f_is_whole, d_is_whole := _, F_is_whole := fun_mk (st := s_is_whole) l_is_whole c_is_whole k_is_whole, b_is_whole := ((fun_mk (st := s_is_whole) l_is_whole c_is_whole k_is_whole).binds (ps := ["number", "low", "high"]) fun _ _ _ _ _ _ us hl => match us, hl with | [_, _, _], _ => rfl), m_is_whole := PySem.W.mg_of X G a_is_whole, f_is_place := f_is_place, d_is_place := _, F_is_place := fun_mk (st := s_is_place) l_is_place c_is_place k_is_place, b_is_place := ((fun_mk (st := s_is_place) l_is_place c_is_place k_is_place).binds (ps := ["many", "place"]) fun _ _ _ _ _ _ us hl => match us, hl with | [_, _], _ => rfl), m_is_place := PySem.W.mg_of X G a_is_place, f_is_tie := f_is_tie, d_is_tie := _, F_is_tie := fun_mk (st := s_is_tie) l_is_tie c_is_tie k_is_tie, b_is_tie := ((fun_mk (st := s_is_tie) l_is_tie c_is_tie k_is_tie).binds (ps := ["many", "tie"]) fun _ _ _ _ _ _ us hl => match us, hl with | [_, _], _ => rfl), m_is_tie := PySem.W.mg_of X G a_is_tie, f_check_net := f_check_net, d_check_net := _, F_check_net := fun_mk (st := s_check_net) l_check_net c_check_net k_check_net, b_check_net := ((fun_mk (st := s_check_net) l_check_net c_check_net k_check_net).binds (ps := ["many", "ties"]) fun _ _ _ _ _ _ us hl => match us, hl with | [_, _], _ => rfl), m_check_net := PySem.W.mg_of X G a_check_net, f_check_place := f_check_place, d_check_place := _, F_check_place := fun_mk (st := s_check_place) l_check_place c_check_place k_check_place, b_check_place := ((fun_mk (st := s_check_place) l_check_place c_check_place k_check_place).binds (ps := ["many", "place"]) fun _ _ _ _ _ _ us hl => match us, hl with | [_, _], _ => rfl), m_check_place := PySem.W.mg_of X G a_check_place, f_check_two := f_check_two, d_check_two := _, F_check_two := fun_mk (st := s_check_two) l_check_two c_check_two k_check_two, b_check_two := ((fun_mk (st := s_check_two) l_check_two c_check_two k_check_two).binds (ps := ["many", "one", "other"]) fun _ _ _ _ _ _ us hl => match us, hl with | [_, _, _], _ => rfl), m_check_two := PySem.W.mg_of X G a_check_two, f_check_side := f_check_side, d_check_side := _, F_check_side := fun_mk (st := s_check_side) l_check_side c_check_side k_check_side, b_check_side := ((fun_mk (st := s_check_side) l_check_side c_check_side k_check_side).binds (ps := ["many", "side"]) fun _ _ _ _ _ _ us hl => match us, hl with | [_, _], _ => rfl), m_check_side := PySem.W.mg_of X G a_check_side, f_costs_between := f_costs_between, d_costs_between := _, F_costs_between := fun_mk (st := s_costs_between) l_costs_between c_costs_between k_costs_between, b_costs_between := ((fun_mk (st := s_costs_between) l_costs_between c_costs_between k_costs_between).binds (ps := ["many", "ties"]) fun _ _ _ _ _ _ us hl => match us, hl with | [_, _], _ => rfl), m_costs_between := PySem.W.mg_of X G a_costs_between, f_Net_init := f_Net_init, d_Net_init := _, F_Net_init := fun_mk (st := s_Net_init) l_Net_init c_Net_init k_Net_init, b_Net_init := ((fun_mk (st := s_Net_init) l_Net_init c_Net_init k_Net_init).binds (ps := ["self", "many", "ties"]) fun _ _ _ _ _ _ us hl => match us, hl with | [_, _, _], _ => rfl), f_Net_ties := f_Net_ties, d_Net_ties := _, F_Net_ties := fun_mk (st := s_Net_ties) l_Net_ties c_Net_ties k_Net_ties, b_Net_ties := ((fun_mk (st := s_Net_ties) l_Net_ties c_Net_ties k_Net_ties).binds (ps := ["self"]) fun _ _ _ _ _ _ us hl => match us, hl with | [_], _ => rfl), f_Net_between := f_Net_between, d_Net_between := _, F_Net_between := fun_mk (st := s_Net_between) l_Net_between c_Net_between k_Net_between, b_Net_between := ((fun_mk (st := s_Net_between) l_Net_between c_Net_between k_Net_between).binds (ps := ["self", "one", "other"]) fun _ _ _ _ _ _ us hl => match us, hl with | [_, _, _], _ => rfl), f_Net_price := f_Net_price, d_Net_price := _, F_Net_price := fun_mk (st := s_Net_price) l_Net_price c_Net_price k_Net_price, b_Net_price := ((fun_mk (st := s_Net_price) l_Net_price c_Net_price k_Net_price).binds (ps := ["self", "side"]) fun _ _ _ _ _ _ us hl => match us, hl with | [_, _], _ => rfl), f_number_in := f_number_in, d_number_in := _, F_number_in := fun_mk (st := s_number_in) l_number_in c_number_in k_number_in, b_number_in := ((fun_mk (st := s_number_in) l_number_in c_number_in k_number_in).binds (ps := ["word"]) fun _ _ _ _ _ _ us hl => match us, hl with | [_], _ => rfl), m_number_in := PySem.W.mg_of X G a_number_in, f_numbers_in := f_numbers_in, d_numbers_in := _, F_numbers_in := fun_mk (st := s_numbers_in) l_numbers_in c_numbers_in k_numbers_in, b_numbers_in := ((fun_mk (st := s_numbers_in) l_numbers_in c_numbers_in k_numbers_in).binds (ps := ["row", "name", "many"]) fun _ _ _ _ _ _ us hl => match us, hl with | [_, _, _], _ => rfl), m_numbers_in := PySem.W.mg_of X G a_numbers_in, f_read := f_read, d_read := _, F_read := fun_mk (st := s_read) l_read c_read k_read, b_read := ((fun_mk (st := s_read) l_read c_read k_read).binds (ps := ["text"]) fun _ _ _ _ _ _ us hl => match us, hl with | [_], _ => rfl), m_read := PySem.W.mg_of X G a_read, f__law_cell_at := f__law_cell_at, d__law_cell_at := _, F__law_cell_at := fun_mk (st := s__law_cell_at) l__law_cell_at c__law_cell_at k__law_cell_at, b__law_cell_at := ((fun_mk (st := s__law_cell_at) l__law_cell_at c__law_cell_at k__law_cell_at).binds (ps := ["_law_script", "_law_k"]) fun _ _ _ _ _ _ us hl => match us, hl with | [_, _], _ => rfl), m__law_cell_at := PySem.W.mg_of X G a__law_cell_at, f__law_number := f__law_number, d__law_number := _, F__law_number := fun_mk (st := s__law_number) l__law_number c__law_number k__law_number, b__law_number := ((fun_mk (st := s__law_number) l__law_number c__law_number k__law_number).binds (ps := ["_law_word"]) fun _ _ _ _ _ _ us hl => match us, hl with | [_], _ => rfl), m__law_number := PySem.W.mg_of X G a__law_number, f__law_due := f__law_due, d__law_due := _, F__law_due := fun_mk (st := s__law_due) l__law_due c__law_due k__law_due, b__law_due := ((fun_mk (st := s__law_due) l__law_due c__law_due k__law_due).binds (ps := ["_law_text"]) fun _ _ _ _ _ _ us hl => match us, hl with | [_], _ => rfl), m__law_due := PySem.W.mg_of X G a__law_due, f__law_refused := f__law_refused, d__law_refused := _, F__law_refused := fun_mk (st := s__law_refused) l__law_refused c__law_refused k__law_refused, b__law_refused := ((fun_mk (st := s__law_refused) l__law_refused c__law_refused k__law_refused).binds (ps := ["_law_text"]) fun _ _ _ _ _ _ us hl => match us, hl with | [_], _ => rfl), m__law_refused := PySem.W.mg_of X G a__law_refused, f__law_odd := f__law_odd, d__law_odd := _, F__law_odd := fun_mk (st := s__law_odd) l__law_odd c__law_odd k__law_odd, b__law_odd := ((fun_mk (st := s__law_odd) l__law_odd c__law_odd k__law_odd).binds (ps := ["_law_cell"]) fun _ _ _ _ _ _ us hl => match us, hl with | [_], _ => rfl), m__law_odd := PySem.W.mg_of X G a__law_odd, f__law_signs := f__law_signs, d__law_signs := _, F__law_signs := fun_mk (st := s__law_signs) l__law_signs c__law_signs k__law_signs, b__law_signs := ((fun_mk (st := s__law_signs) l__law_signs c__law_signs k__law_signs).binds (ps := []) fun _ _ _ _ _ _ us hl => match us, hl with | [], _ => rfl), m__law_signs := PySem.W.mg_of X G a__law_signs, f__law_sign_by := f__law_sign_by, d__law_sign_by := _, F__law_sign_by := fun_mk (st := s__law_sign_by) l__law_sign_by c__law_sign_by k__law_sign_by, b__law_sign_by := ((fun_mk (st := s__law_sign_by) l__law_sign_by c__law_sign_by k__law_sign_by).binds (ps := ["_law_cell"]) fun _ _ _ _ _ _ us hl => match us, hl with | [_], _ => rfl), m__law_sign_by := PySem.W.mg_of X G a__law_sign_by, f__law_no_blank := f__law_no_blank, d__law_no_blank := _, F__law_no_blank := fun_mk (st := s__law_no_blank) l__law_no_blank c__law_no_blank k__law_no_blank, b__law_no_blank := ((fun_mk (st := s__law_no_blank) l__law_no_blank c__law_no_blank k__law_no_blank).binds (ps := ["_law_at"]) fun _ _ _ _ _ _ us hl => match us, hl with | [_], _ => rfl), m__law_no_blank := PySem.W.mg_of X G a__law_no_blank, f__law_good := f__law_good, d__law_good := _, F__law_good := fun_mk (st := s__law_good) l__law_good c__law_good k__law_good, b__law_good := ((fun_mk (st := s__law_good) l__law_good c__law_good k__law_good).binds (ps := ["_law_script", "_law_many"]) fun _ _ _ _ _ _ us hl => match us, hl with | [_, _], _ => rfl), m__law_good := PySem.W.mg_of X G a__law_good, C_Net := C_Net, cl_Net := ⟨pg_Net, hd_Net, po_Net, sa_Net⟩, m_Net := PySem.W.mg_of X G aC_Net, kc_Net := kc_Net, ci_Net := mk_Net, na_Net__costs := na_Net__costs, na_Net__ties := na_Net__ties, na_Net_many := na_Net_many, MK_Net := ⟨mk_Net, a_Net_init, i_Net_init, kc_Net⟩, mt_Net_ties := ⟨a_Net_ties, i_Net_ties, k_Net_ties⟩, mt_Net_between := ⟨a_Net_between, i_Net_between, k_Net_between⟩, mt_Net_price := ⟨a_Net_price, i_Net_price, k_Net_price⟩, C_WallError := C_WallError, m_WallError := PySem.W.mg_of X G aC_WallError, X_WallError := ⟨kp_WallError, xx_WallError, xb_WallError, xt_WallError, xi_WallError, xs_WallError, xv_WallError, ⟨e1_WallError, e2_WallError, xb_WallError, e4_WallError, e5_WallError, e6_WallError, e7_WallError, e8_WallError⟩⟩, C_NoNet := C_NoNet, m_NoNet := PySem.W.mg_of X G aC_NoNet, X_NoNet := ⟨kp_NoNet, xx_NoNet, xb_NoNet, xt_NoNet, xi_NoNet, xs_NoNet, xv_NoNet, ⟨e1_NoNet, e2_NoNet, xb_NoNet, e4_NoNet, e5_NoNet, e6_NoNet, e7_NoNet, e8_NoNet⟩⟩, C_NoPlace := C_NoPlace, m_NoPlace := PySem.W.mg_of X G aC_NoPlace, X_NoPlace := ⟨kp_NoPlace, xx_NoPlace, xb_NoPlace, xt_NoPlace, xi_NoPlace, xs_NoPlace, xv_NoPlace, ⟨e1_NoPlace, e2_NoPlace, xb_NoPlace, e4_NoPlace, e5_NoPlace, e6_NoPlace, e7_NoPlace, e8_NoPlace⟩⟩, C_NoSide := C_NoSide, m_NoSide := PySem.W.mg_of X G aC_NoSide, X_NoSide := ⟨kp_NoSide, xx_NoSide, xb_NoSide, xt_NoSide, xi_NoSide, xs_NoSide, xv_NoSide, ⟨e1_NoSide, e2_NoSide, xb_NoSide, e4_NoSide, e5_NoSide, e6_NoSide, e7_NoSide, e8_NoSide⟩⟩, C_NoText := C_NoText, m_NoText := PySem.W.mg_of X G aC_NoText, X_NoText := ⟨kp_NoText, xx_NoText, xb_NoText, xt_NoText, xi_NoText, xs_NoText, xv_NoText, ⟨e1_NoText, e2_NoText, xb_NoText, e4_NoText, e5_NoText, e6_NoText, e7_NoText, e8_NoText⟩⟩, su_NoNet_WallError := su_NoNet_WallError, su_NoNet_NoPlace := su_NoNet_NoPlace, su_NoNet_NoSide := su_NoNet_NoSide, su_NoNet_NoText := su_NoNet_NoText, su_NoPlace_WallError := su_NoPlace_WallError, su_NoPlace_NoNet := su_NoPlace_NoNet, su_NoPlace_NoSide := su_NoPlace_NoSide, su_NoPlace_NoText := su_NoPlace_NoText, su_NoSide_WallError := su_NoSide_WallError, su_NoSide_NoNet := su_NoSide_NoNet, su_NoSide_NoPlace := su_NoSide_NoPlace, su_NoSide_NoText := su_NoSide_NoText, su_NoText_WallError := su_NoText_WallError, su_NoText_NoNet := su_NoText_NoNet, su_NoText_NoPlace := su_NoText_NoPlace, su_NoText_NoSide := su_NoText_NoSide, t_MOST_PLACES := t_MOST_PLACES, c_MOST_PLACES := PySem.W.mg_of X G g_MOST_PLACES, t_MOST_TIES := t_MOST_TIES, c_MOST_TIES := PySem.W.mg_of X G g_MOST_TIES, t_TOP_PRICE := t_TOP_PRICE, c_TOP_PRICE := PySem.W.mg_of X G g_TOP_PRICE, t_FIGURES := t_FIGURES, c_FIGURES := PySem.W.mg_of X G g_FIGURES, t_MOST_FIGURES := t_MOST_FIGURES, c_MOST_FIGURES := PySem.W.mg_of X G g_MOST_FIGURES, n_ValueError := PySem.W.mg_none_of X G nb_ValueError, n_int := PySem.W.mg_none_of X G nb_int, n_isinstance := PySem.W.mg_none_of X G nb_isinstance, n_len := PySem.W.mg_none_of X G nb_len, n_list := PySem.W.mg_none_of X G nb_list, n_range := PySem.W.mg_none_of X G nb_range, n_set := PySem.W.mg_none_of X G nb_set, n_str := PySem.W.mg_none_of X G nb_str, n_tuple := PySem.W.mg_none_of X G nb_tuple, n_type := PySem.W.mg_none_of X G nb_type }⟩
theorem walk {l : PySem.W.OpenLaw} {q : Program} {loose : List Str} {XP : (Str → Option Value) → Heap → Prop} {YP : World → Heap → Prop} {d : DefRec} {K : Params → PySem.W.Frag} (hn : l.most = some 63) (hdf : d.params.defaults = [])
    (hY : ∀ (w : World) (h : Heap), YP w h → (K w.params).In h)
    (F : ∀ (w : World) (mg : Str → Option Value) (fa : Addr) (h : Heap), (K w.params).In h → h.Ns mainGlobals mg → mg d.name = some (.ref fa) →
      ∃ fd : FuncData, (∀ (s : Shared) (u : Value), BindsTo s fd ⟨[u], []⟩ [("_law_script", u)]) ∧ ∀ base : Heap, (K w.params).In base → base.Ns mainGlobals mg → FnOk l.prog w (K w.params) mg base CX0 10 fa fd ["_law_script"] (spLaw (K w.params))) :
    PySem.W.WalkO q loose XP YP l.row.toRowW d [] (fun f vs => PySem.call f vs) :=
  L2.walk_of (n := 63) (k := 10) (x := "_law_script") (CX := fun _ => CX0) (sp := fun w => spLaw (K w.params)) hn (by decide) hdf ⟨rfl, by decide, by decide⟩ hY F (fun _ _ a ns hl _ hS => ⟨a, ns, rfl, hS, hl, fun _ => rfl⟩) fun _ _ _ _ _ z => z
end Toy
open PySem PySem.W PyProof.Rows
set_option maxRecDepth 100000 in
set_option maxHeartbeats 0 in
theorem PySem.Challenge.cw_onewalls_k11_texts_refused_holds : PySem.Challenge.rw_onewalls_k11_texts_refused.Holds := by
  w_on; o_law; k_head; (case hw => w_witness2)
  k_fill
  refine Toy.walk (l := PySem.Challenge.rw_onewalls_k11_texts_refused) rfl rfl (fun w h Y => PySem.W.kIn_of Y) ?F
  case F =>
    intro w mg fa h KX G hmg
    refine' Toy.all_mk KX G hmg ?aC_Net ?pg_Net ?hd_Net ?po_Net ?sa_Net ?mk_Net ?kc_Net ?na_Net__costs ?na_Net__ties ?na_Net_many ?aC_WallError ?kp_WallError ?xx_WallError ?xb_WallError ?xt_WallError ?xi_WallError ?xs_WallError ?xv_WallError ?e1_WallError ?e2_WallError ?e4_WallError ?e5_WallError ?e6_WallError ?e7_WallError ?e8_WallError ?aC_NoNet ?kp_NoNet ?xx_NoNet ?xb_NoNet ?xt_NoNet ?xi_NoNet ?xs_NoNet ?xv_NoNet ?e1_NoNet ?e2_NoNet ?e4_NoNet ?e5_NoNet ?e6_NoNet ?e7_NoNet ?e8_NoNet ?aC_NoPlace ?kp_NoPlace ?xx_NoPlace ?xb_NoPlace ?xt_NoPlace ?xi_NoPlace ?xs_NoPlace ?xv_NoPlace ?e1_NoPlace ?e2_NoPlace ?e4_NoPlace ?e5_NoPlace ?e6_NoPlace ?e7_NoPlace ?e8_NoPlace ?aC_NoSide ?kp_NoSide ?xx_NoSide ?xb_NoSide ?xt_NoSide ?xi_NoSide ?xs_NoSide ?xv_NoSide ?e1_NoSide ?e2_NoSide ?e4_NoSide ?e5_NoSide ?e6_NoSide ?e7_NoSide ?e8_NoSide ?aC_NoText ?kp_NoText ?xx_NoText ?xb_NoText ?xt_NoText ?xi_NoText ?xs_NoText ?xv_NoText ?e1_NoText ?e2_NoText ?e4_NoText ?e5_NoText ?e6_NoText ?e7_NoText ?e8_NoText ?su_NoNet_WallError ?su_NoNet_NoPlace ?su_NoNet_NoSide ?su_NoNet_NoText ?su_NoPlace_WallError ?su_NoPlace_NoNet ?su_NoPlace_NoSide ?su_NoPlace_NoText ?su_NoSide_WallError ?su_NoSide_NoNet ?su_NoSide_NoPlace ?su_NoSide_NoText ?su_NoText_WallError ?su_NoText_NoNet ?su_NoText_NoPlace ?su_NoText_NoSide ?a_is_whole ?l_is_whole ?c_is_whole ?k_is_whole ?a_is_place ?l_is_place ?c_is_place ?k_is_place ?a_is_tie ?l_is_tie ?c_is_tie ?k_is_tie ?a_check_net ?l_check_net ?c_check_net ?k_check_net ?a_check_place ?l_check_place ?c_check_place ?k_check_place ?a_check_two ?l_check_two ?c_check_two ?k_check_two ?a_check_side ?l_check_side ?c_check_side ?k_check_side ?a_costs_between ?l_costs_between ?c_costs_between ?k_costs_between ?a_Net_init ?i_Net_init ?l_Net_init ?c_Net_init ?k_Net_init ?a_Net_ties ?i_Net_ties ?l_Net_ties ?c_Net_ties ?k_Net_ties ?a_Net_between ?i_Net_between ?l_Net_between ?c_Net_between ?k_Net_between ?a_Net_price ?i_Net_price ?l_Net_price ?c_Net_price ?k_Net_price ?a_number_in ?l_number_in ?c_number_in ?k_number_in ?a_numbers_in ?l_numbers_in ?c_numbers_in ?k_numbers_in ?a_read ?l_read ?c_read ?k_read ?a__law_cell_at ?l__law_cell_at ?c__law_cell_at ?k__law_cell_at ?a__law_number ?l__law_number ?c__law_number ?k__law_number ?a__law_due ?l__law_due ?c__law_due ?k__law_due ?a__law_refused ?l__law_refused ?c__law_refused ?k__law_refused ?a__law_odd ?l__law_odd ?c__law_odd ?k__law_odd ?a__law_signs ?l__law_signs ?c__law_signs ?k__law_signs ?a__law_sign_by ?l__law_sign_by ?c__law_sign_by ?k__law_sign_by ?a__law_no_blank ?l__law_no_blank ?c__law_no_blank ?k__law_no_blank ?a__law_good ?l__law_good ?c__law_good ?k__law_good ?a_law ?l_law ?c_law ?k_law ?g_MOST_PLACES ?g_MOST_TIES ?g_TOP_PRICE ?g_FIGURES ?g_MOST_FIGURES ?nb_ValueError ?nb_int ?nb_isinstance ?nb_len ?nb_list ?nb_range ?nb_set ?nb_str ?nb_tuple ?nb_type
    (case aC_Net => k_is)
    (case pg_Net => k_is)
    (case hd_Net => k_is)
    (case po_Net => k_is)
    (case sa_Net => k_is)
    (case mk_Net => k_is)
    (case kc_Net => k_is)
    (case na_Net__costs => k_is)
    (case na_Net__ties => k_is)
    (case na_Net_many => k_is)
    (case aC_WallError => k_is)
    (case kp_WallError => k_is)
    (case xx_WallError => k_exc)
    (case xb_WallError => k_is)
    (case xt_WallError => k_is)
    (case xi_WallError => k_is)
    (case xs_WallError => first | rfl | k_is)
    (case xv_WallError => k_is)
    (case e1_WallError => k_is)
    (case e2_WallError => k_is)
    (case e4_WallError => k_is)
    (case e5_WallError => k_is)
    (case e6_WallError => k_is)
    (case e7_WallError => k_is)
    (case e8_WallError => k_is)
    (case aC_NoNet => k_is)
    (case kp_NoNet => k_is)
    (case xx_NoNet => k_exc)
    (case xb_NoNet => k_is)
    (case xt_NoNet => k_is)
    (case xi_NoNet => k_is)
    (case xs_NoNet => first | rfl | k_is)
    (case xv_NoNet => k_is)
    (case e1_NoNet => k_is)
    (case e2_NoNet => k_is)
    (case e4_NoNet => k_is)
    (case e5_NoNet => k_is)
    (case e6_NoNet => k_is)
    (case e7_NoNet => k_is)
    (case e8_NoNet => k_is)
    (case aC_NoPlace => k_is)
    (case kp_NoPlace => k_is)
    (case xx_NoPlace => k_exc)
    (case xb_NoPlace => k_is)
    (case xt_NoPlace => k_is)
    (case xi_NoPlace => k_is)
    (case xs_NoPlace => first | rfl | k_is)
    (case xv_NoPlace => k_is)
    (case e1_NoPlace => k_is)
    (case e2_NoPlace => k_is)
    (case e4_NoPlace => k_is)
    (case e5_NoPlace => k_is)
    (case e6_NoPlace => k_is)
    (case e7_NoPlace => k_is)
    (case e8_NoPlace => k_is)
    (case aC_NoSide => k_is)
    (case kp_NoSide => k_is)
    (case xx_NoSide => k_exc)
    (case xb_NoSide => k_is)
    (case xt_NoSide => k_is)
    (case xi_NoSide => k_is)
    (case xs_NoSide => first | rfl | k_is)
    (case xv_NoSide => k_is)
    (case e1_NoSide => k_is)
    (case e2_NoSide => k_is)
    (case e4_NoSide => k_is)
    (case e5_NoSide => k_is)
    (case e6_NoSide => k_is)
    (case e7_NoSide => k_is)
    (case e8_NoSide => k_is)
    (case aC_NoText => k_is)
    (case kp_NoText => k_is)
    (case xx_NoText => k_exc)
    (case xb_NoText => k_is)
    (case xt_NoText => k_is)
    (case xi_NoText => k_is)
    (case xs_NoText => first | rfl | k_is)
    (case xv_NoText => k_is)
    (case e1_NoText => k_is)
    (case e2_NoText => k_is)
    (case e4_NoText => k_is)
    (case e5_NoText => k_is)
    (case e6_NoText => k_is)
    (case e7_NoText => k_is)
    (case e8_NoText => k_is)
    (case su_NoNet_WallError => k_is)
    (case su_NoNet_NoPlace => k_is)
    (case su_NoNet_NoSide => k_is)
    (case su_NoNet_NoText => k_is)
    (case su_NoPlace_WallError => k_is)
    (case su_NoPlace_NoNet => k_is)
    (case su_NoPlace_NoSide => k_is)
    (case su_NoPlace_NoText => k_is)
    (case su_NoSide_WallError => k_is)
    (case su_NoSide_NoNet => k_is)
    (case su_NoSide_NoPlace => k_is)
    (case su_NoSide_NoText => k_is)
    (case su_NoText_WallError => k_is)
    (case su_NoText_NoNet => k_is)
    (case su_NoText_NoPlace => k_is)
    (case su_NoText_NoSide => k_is)
    (case a_is_whole => k_is)
    (case l_is_whole => k_is)
    (case c_is_whole => k_is)
    (case k_is_whole => k_is)
    (case a_is_place => k_is)
    (case l_is_place => k_is)
    (case c_is_place => k_is)
    (case k_is_place => k_is)
    (case a_is_tie => k_is)
    (case l_is_tie => k_is)
    (case c_is_tie => k_is)
    (case k_is_tie => k_is)
    (case a_check_net => k_is)
    (case l_check_net => k_is)
    (case c_check_net => k_is)
    (case k_check_net => k_is)
    (case a_check_place => k_is)
    (case l_check_place => k_is)
    (case c_check_place => k_is)
    (case k_check_place => k_is)
    (case a_check_two => k_is)
    (case l_check_two => k_is)
    (case c_check_two => k_is)
    (case k_check_two => k_is)
    (case a_check_side => k_is)
    (case l_check_side => k_is)
    (case c_check_side => k_is)
    (case k_check_side => k_is)
    (case a_costs_between => k_is)
    (case l_costs_between => k_is)
    (case c_costs_between => k_is)
    (case k_costs_between => k_is)
    (case a_Net_init => k_is)
    (case i_Net_init => k_is)
    (case l_Net_init => k_is)
    (case c_Net_init => k_is)
    (case k_Net_init => k_is)
    (case a_Net_ties => k_is)
    (case i_Net_ties => k_is)
    (case l_Net_ties => k_is)
    (case c_Net_ties => k_is)
    (case k_Net_ties => k_is)
    (case a_Net_between => k_is)
    (case i_Net_between => k_is)
    (case l_Net_between => k_is)
    (case c_Net_between => k_is)
    (case k_Net_between => k_is)
    (case a_Net_price => k_is)
    (case i_Net_price => k_is)
    (case l_Net_price => k_is)
    (case c_Net_price => k_is)
    (case k_Net_price => k_is)
    (case a_number_in => k_is)
    (case l_number_in => k_is)
    (case c_number_in => k_is)
    (case k_number_in => k_is)
    (case a_numbers_in => k_is)
    (case l_numbers_in => k_is)
    (case c_numbers_in => k_is)
    (case k_numbers_in => k_is)
    (case a_read => k_is)
    (case l_read => k_is)
    (case c_read => k_is)
    (case k_read => k_is)
    (case a__law_cell_at => k_is)
    (case l__law_cell_at => k_is)
    (case c__law_cell_at => k_is)
    (case k__law_cell_at => k_is)
    (case a__law_number => k_is)
    (case l__law_number => k_is)
    (case c__law_number => k_is)
    (case k__law_number => k_is)
    (case a__law_due => k_is)
    (case l__law_due => k_is)
    (case c__law_due => k_is)
    (case k__law_due => k_is)
    (case a__law_refused => k_is)
    (case l__law_refused => k_is)
    (case c__law_refused => k_is)
    (case k__law_refused => k_is)
    (case a__law_odd => k_is)
    (case l__law_odd => k_is)
    (case c__law_odd => k_is)
    (case k__law_odd => k_is)
    (case a__law_signs => k_is)
    (case l__law_signs => k_is)
    (case c__law_signs => k_is)
    (case k__law_signs => k_is)
    (case a__law_sign_by => k_is)
    (case l__law_sign_by => k_is)
    (case c__law_sign_by => k_is)
    (case k__law_sign_by => k_is)
    (case a__law_no_blank => k_is)
    (case l__law_no_blank => k_is)
    (case c__law_no_blank => k_is)
    (case k__law_no_blank => k_is)
    (case a__law_good => k_is)
    (case l__law_good => k_is)
    (case c__law_good => k_is)
    (case k__law_good => k_is)
    (case a_law => k_is)
    (case l_law => k_is)
    (case c_law => k_is)
    (case k_law => k_is)
    (case g_MOST_PLACES => k_is)
    (case g_MOST_TIES => k_is)
    (case g_TOP_PRICE => k_is)
    (case g_FIGURES => k_is)
    (case g_MOST_FIGURES => k_is)
    (case nb_ValueError => k_is)
    (case nb_int => k_is)
    (case nb_isinstance => k_is)
    (case nb_len => k_is)
    (case nb_list => k_is)
    (case nb_range => k_is)
    (case nb_set => k_is)
    (case nb_str => k_is)
    (case nb_tuple => k_is)
    (case nb_type => k_is)
