import PyProof.Rows.All
import Wide.All
import OpenK.AllK
import Wide.FinOn
import HandS.Base
import HandS.Call
import HandS.List
import HandS.More
import HandS.Evl
import HandS.Comp
import HandS.Ends
import HandS.Words
import HandS.WordsList
import HandS.WordsDict
import HandS.WordsExc
import HandS.Dict
import HandS.Iter
import HandS.Text
import HandS.IsInst
import HandS.Zip
import HandS.SortInts
import HandS.Conv
import PySem.Challenge.RW_onewalls_k01_ties_and_prices
set_option Elab.async false
set_option linter.all false
set_option maxRecDepth 100000
set_option maxHeartbeats 4000000
namespace G
open PySem PySem.Spec PyProof.Rows L2
theorem slot_type_ne : Slot "type" (cmpInfo .NotEq).2.1 "object.__ne__" :=
  .of (owner := "object") (n := "__ne__") (by rw [typeLookup_type, builtinLookup_eq_fast]; kernel_rfl) (by decide +kernel) (by decide +kernel) (by decide +kernel)
    (by first | exact .inl (by decide +kernel) | exact .inr (by decide +kernel)) (by rw [isSubtype_type]; kernel_rfl)
theorem slot_type_ne_refl : Slot "type" (cmpInfo .NotEq).2.2 "object.__ne__" :=
  .of (owner := "object") (n := "__ne__") (by rw [typeLookup_type, builtinLookup_eq_fast]; kernel_rfl) (by decide +kernel) (by decide +kernel) (by decide +kernel)
    (by first | exact .inl (by decide +kernel) | exact .inr (by decide +kernel)) (by rw [isSubtype_type]; kernel_rfl)
section
variable {prog : Program} {w : World} {A : Around} {E : Value → Shared → Prop} {s : Shared}
theorem special_eq_type_same {X : String} (hX : ∀ s' : Shared, s'.TypeIs (.type X) "type") {Q : Option Value → Shared → Prop} (h : Q (some (.bool true)) s) : wpAny (model prog w) A (callSpecialIfBound? (.type X) "__eq__" [.type X]) Q E s :=
  wpAny_callSpecialIfBound?_slot (hX s) TypeEq.slot_type_eq (call_gives TypeEq.slot_type_eq (hX s) F.entry_object_eq (F.args_object_eq_2 _ _) (TypeEq.object_eq_same rfl (by simp)) h)
theorem special_eq_type_other {X Y : String} (hX : ∀ s' : Shared, s'.TypeIs (.type X) "type") (hne : (Value.type X == Value.type Y) = false) {Q : Option Value → Shared → Prop} (h : Q (some .notImplemented) s) : wpAny (model prog w) A (callSpecialIfBound? (.type X) "__eq__" [.type Y]) Q E s :=
  wpAny_callSpecialIfBound?_slot (hX s) TypeEq.slot_type_eq (call_gives TypeEq.slot_type_eq (hX s) F.entry_object_eq (F.args_object_eq_2 _ _) (TypeEq.object_eq_other rfl hne) h)
theorem call_ne_same {X : String} (hX : ∀ s' : Shared, s'.TypeIs (.type X) "type") {Q : Value → Shared → Prop} (h : Q (.bool false) s) : wpAny (model prog w) A (call (.builtin "object.__ne__") [.type X, .type X]) Q E s := by
  refine wpAny_call_entry slot_type_ne (hX s) F.cmpEntry_ne ?_ (F.cmpArgs_ne _ _)
  unfold Builtin.«object.__ne__»
  repeat (first | with_reducible refine wpAny_cRoomFor_or (.inl rfl) ?_ | with_reducible refine special_eq_type_same hX ?_ | wp_step)
  exact ⟨_, rfl, h⟩
theorem call_ne_other {X Y : String} (hX : ∀ s' : Shared, s'.TypeIs (.type X) "type") (hne : (Value.type X == Value.type Y) = false) {Q : Value → Shared → Prop} (h : Q .notImplemented s) : wpAny (model prog w) A (call (.builtin "object.__ne__") [.type X, .type Y]) Q E s := by
  refine wpAny_call_entry slot_type_ne (hX s) F.cmpEntry_ne ?_ (F.cmpArgs_ne _ _)
  unfold Builtin.«object.__ne__»
  repeat (first | with_reducible refine wpAny_cRoomFor_or (.inl rfl) ?_ | with_reducible refine special_eq_type_other hX hne ?_ | wp_step)
  exact ⟨_, rfl, h⟩
theorem ne_type_same {X : String} (hX : ∀ s' : Shared, s'.TypeIs (.type X) "type") {Q : Value → Shared → Prop} (h : Q (.bool false) s) : wpAny (model prog w) A (compareOp .NotEq (.type X) (.type X)) Q E s := by
  show wpAny _ A (richCompare .NotEq _ _) Q E s
  exact wpAny_richCompare_same (T := "type") (hX s) (hX s) slot_type_ne (call_ne_same hX ⟨(by intro e; cases e), h⟩)
theorem richCompare_ne_same_decline {M : Model} {a b : Value} {T id : String} {k : Bool} {Q : Value → Shared → Prop} (ha : ∀ s' : Shared, s'.TypeIs a T) (hb : ∀ s' : Shared, s'.TypeIs b T)
    (h1 : Slot T (cmpInfo .NotEq).2.1 id) (h2 : Slot T (cmpInfo .NotEq).2.2 id) (hv : [a, b].any Value.onHeap = false) (hk : isSame a b = pure k)
    (hc : wpAny M A (call (.builtin id) [a, b]) (fun v s₁ => v = .notImplemented ∧ wpAny M A (call (.builtin id) [b, a]) (fun v s₂ => v = .notImplemented ∧ Q (.bool !k) s₂) E s₁) E s) :
    wpAny M A (richCompare .NotEq a b) Q E s := by
  rcases hi : cmpInfo CmpOp.NotEq with ⟨sym, f, r⟩
  rw [hi] at h1 h2
  simp only [richCompare, hi, (ha s).oneThing_none]
  try with_reducible refine wpAny_holding ?_
  refine wpAny_bind (wpAny_cRoomFor_or (.inl hv) ?_)
  refine wpAny_bind (wpAny_typeOf (ha s) (wpAny_bind (wpAny_typeOf (hb s) ?_)))
  simp only [bne_self_eq_false, Bool.false_eq_true, if_false, pure_bind, Bool.not_false, if_true]
  refine wpAny_bind (m := tryCompare a _ b) (wpAny_tryCompare_declines (ha s) h1 (wpAny_mono hc (fun v s₁ h₁ => ⟨h₁.1, ?_⟩) fun _ _ x => x))
  refine wpAny_bind (m := tryCompare b _ a) (wpAny_tryCompare_declines (hb s₁) h2 (wpAny_mono h₁.2 (fun v s₂ h₂ => ⟨h₂.1, ?_⟩) fun _ _ x => x))
  refine wpAny_bind (wpAny_rule (wpAny_bind (wpAny_of_eq hk (wpAny_pure h₂.2))))
theorem ne_type_other {X Y : String} (hX : ∀ s' : Shared, s'.TypeIs (.type X) "type") (hY : ∀ s' : Shared, s'.TypeIs (.type Y) "type") (hne : (Value.type X == Value.type Y) = false) {Q : Value → Shared → Prop} (h : Q (.bool true) s) : wpAny (model prog w) A (compareOp .NotEq (.type X) (.type Y)) Q E s := by
  have hne' : (Value.type Y == Value.type X) = false := by
    rw [Bool.eq_false_iff] at hne ⊢
    intro e
    exact hne (by rw [beq_iff_eq] at e ⊢; exact e.symm)
  show wpAny _ A (richCompare .NotEq _ _) Q E s
  exact richCompare_ne_same_decline (T := "type") (k := false) hX hY slot_type_ne slot_type_ne_refl rfl (by rw [isSame_plain rfl, hne])
    (call_ne_other hX hne ⟨rfl, call_ne_other hY hne' ⟨rfl, h⟩⟩)
/-- types whose own type is type -/
def Ty8 (a : String) : Prop := a = "NoneType" ∨ a = "bool" ∨ a = "int" ∨ a = "str" ∨ a = "list" ∨ a = "tuple" ∨ a = "dict"
theorem Ty8.meta {a : String} (h : Ty8 a) : ∀ s' : Shared, s'.TypeIs (.type a) "type" := by
  rcases h with rfl | rfl | rfl | rfl | rfl | rfl | rfl
  · exact TypeEq.meta_NoneType
  · exact TypeEq.meta_bool
  · exact TypeEq.meta_int
  · exact TypeEq.meta_str
  · exact TypeEq.meta_list
  · exact TypeEq.meta_tuple
  · exact TypeEq.meta_dict
end
section
variable {X : Cx}
def rTyEq : R2 := fun x y H Q => ∃ a b, x = .ty a ∧ y = .ty b ∧ Ty8 a ∧ Ty8 b ∧ Q (.bl (decide (a = b))) H
def rTyNe : R2 := fun x y H Q => ∃ a b, x = .ty a ∧ y = .ty b ∧ Ty8 a ∧ Ty8 b ∧ Q (.bl (!decide (a = b))) H
theorem op_eqTy : OpR X (compareOp .Eq) rTyEq := by
  intro pins s σ H x y v u Q I rx ry h
  obtain ⟨a, b, rfl, rfl, ha, hb, q⟩ := h
  cases (show v = Value.type a from rx)
  cases (show u = Value.type b from ry)
  by_cases e : a = b
  · subst e
    rw [decide_eq_true rfl] at q
    exact TypeEq.eq_type_same ha.meta ⟨.bl true, H, I, rfl, q⟩
  · rw [decide_eq_false e] at q
    exact TypeEq.eq_type_other ha.meta hb.meta ((ty_beq a b).trans (decide_eq_false e)) ⟨.bl false, H, I, rfl, q⟩
theorem op_neTy : OpR X (compareOp .NotEq) rTyNe := by
  intro pins s σ H x y v u Q I rx ry h
  obtain ⟨a, b, rfl, rfl, ha, hb, q⟩ := h
  cases (show v = Value.type a from rx)
  cases (show u = Value.type b from ry)
  by_cases e : a = b
  · subst e
    rw [decide_eq_true rfl] at q
    exact ne_type_same ha.meta ⟨.bl false, H, I, rfl, q⟩
  · rw [decide_eq_false e] at q
    exact ne_type_other ha.meta hb.meta ((ty_beq a b).trans (decide_eq_false e)) ⟨.bl true, H, I, rfl, q⟩
/-- xs[i], by values -/
theorem pg_list : PGet X (rIxL X.K) := by
  intro pins s σ H x y v u Q I rx ry h
  obtain ⟨p, xs, i, z, rfl, rfl, hq, he, q⟩ := h
  cases rx
  obtain ⟨t, rfl⟩ := ry
  obtain ⟨its, r, pl, hz⟩ := I.list hq
  obtain ⟨j, h1, h2, h3, h4, h5⟩ := atI_get he
  obtain ⟨w, ew, rw'⟩ := r.get h2
  have hl := r.length
  have hn := line63
  have fin : EP X pins σ Q w s := ⟨z, H, I, rw', q⟩
  by_cases h0 : 0 ≤ i
  · have hj : i.toNat = j := by
      rw [seqIndex_of h0 h5] at h1
      exact Option.some.inj h1
    exact wpAny_getItem_list pl.isList h0 (by omega) (by rw [hj]; simpa using ew) fin
  · have hj : (i + (its.toArray.size : Int)).toNat = j := by
      rw [seqIndex_neg (by omega) h4] at h1
      rw [List.size_toArray, ← hl]
      exact Option.some.inj h1
    exact wpAny_getItem_list_neg pl.isList (by omega) (by rw [List.size_toArray] <;> omega) (by omega) (by rw [hj]; simpa using ew) fin
end
end G

namespace G
open PySem PySem.Spec PyProof.Rows L2 Evl RZ
/-! ### evaluation, further -/
section
variable {K : PySem.W.Frag} {σ : L2.St} {H H' : Hp} {ta tb tc te : TE} {t u : TT} {x y z v : V} {r r' : R2}
theorem ev_chain {a b : Bool} (ha : Ev ta σ H x) (hb : Ev tb σ H y) (hr : RV r x y H (.bl a)) (hc : a = true → Ev tc σ H z) (hr' : a = true → RV r' y z H (.bl b)) : Ev (tChain r r' ta tb tc) σ H (.bl (a && b)) := fun H1 e Q q =>
  ha H1 e _ fun H2 e2 => hb H2 (e.trans e2) _ fun H3 e3 => hr H3 ((e.trans e2).trans e3) _ fun H4 e4 => ⟨a, rfl, by
    cases a with
    | true =>
      refine iteT ?_
      exact hc rfl H4 (((e.trans e2).trans e3).trans e4) _ fun H5 e5 => hr' rfl H5 ((((e.trans e2).trans e3).trans e4).trans e5) Q fun H6 e6 => q H6 ((((e2.trans e3).trans e4).trans e5).trans e6)
    | false => exact iteF (q H4 ((e2.trans e3).trans e4))⟩
theorem rv_tyEq {a b : String} (ha : Ty8 a) (hb : Ty8 b) : RV rTyEq (.ty a) (.ty b) H (.bl (decide (a = b))) := fun H1 _ _ q => ⟨a, b, rfl, rfl, ha, hb, q H1 (Ex.refl H1)⟩
theorem rv_tyNe {a b : String} (ha : Ty8 a) (hb : Ty8 b) : RV rTyNe (.ty a) (.ty b) H (.bl (!decide (a = b))) := fun H1 _ _ q => ⟨a, b, rfl, rfl, ha, hb, q H1 (Ex.refl H1)⟩
theorem ty_ex {T : String} (e : Ex H H') (h : TyB K H x T) : TyB K H' x T := by
  cases h with
  | non => exact .non
  | bl b => exact .bl b
  | int i => exact .int i
  | str x => exact .str x
  | byt b => exact .byt b
  | lst h => exact .lst (ex_l e h)
  | tup h => exact .tup (ex_t e h)
  | dK h => exact .dK (e _ _ h)
theorem rc_type {T : String} (h : TyB K H x T) : RC (rTyp K) [x] H (.ty T) := fun H1 e _ q => ⟨x, T, rfl, ty_ex e h, q H1 (Ex.refl H1)⟩
/-- type(x) -/
theorem ev_type {T : String} (ha : Ev ta σ H x) (h : TyB K H x T) : Ev (tCB (rTyp K) (tCons ta tNil)) σ H (.ty T) := ev_cb (ea_cons ha ea_nil) (rc_type h)
theorem t8int : Ty8 "int" := .inr (.inr (.inl rfl))
theorem t8str : Ty8 "str" := .inr (.inr (.inr (.inl rfl)))
theorem t8list : Ty8 "list" := .inr (.inr (.inr (.inr (.inl rfl))))
theorem t8tuple : Ty8 "tuple" := .inr (.inr (.inr (.inr (.inr (.inl rfl)))))
theorem ev_fld {a C dx : Addr} {fs : List (Str × V)} {f : Str} (ha : Ev ta σ H (.ref a)) (h : H a = some (.ins C dx fs)) (c : Cls K C) (n : NoAttr K C f) (l : fs.lookup f = some v) : Ev (tFld K ta f) σ H v := fun H1 e _ q =>
  ha H1 e _ fun H2 e2 => ⟨a, C, dx, fs, v, rfl, e2 _ _ (e _ _ h), c, n, l, q H2 e2⟩
theorem ev_lenS {p : Addr} {xs : List V} (ha : Ev ta σ H (.ref p)) (h : SqL K H p xs ∨ SqT K H p xs) : Ev (tCB (fun xs H Q => ∃ p ys, xs = [.ref p] ∧ (SqL K H p ys ∨ SqT K H p ys) ∧ Q (.int ys.length) H) (tCons ta tNil)) σ H (.int (xs.length : Int)) := fun H1 e Q q =>
  ha H1 e _ fun H2 e2 => ⟨p, xs, rfl, h.elim (fun h => .inl (ex_l (e.trans e2) h)) (fun h => .inr (ex_t (e.trans e2) h)), q H2 e2⟩
theorem ev_meth {a C dx : Addr} {fs : List (Str × V)} {m : Str} {sp : Sp} {dvs vs : List V} {E : XK} {tr : TA} (ha : Ev ta σ H (.ref a)) (h : H a = some (.ins C dx fs)) (l : fs.lookup m = none) (hv : EvA tr σ H vs) (hs : SpV sp (.ref a :: (vs ++ dvs)) H z) :
    Ev (tMeth C m sp dvs E ta tr) σ H z := fun H1 e Q q =>
  ha H1 e _ fun H2 e2 => ⟨a, dx, fs, rfl, e2 _ _ (e _ _ h), l, hv H2 (e.trans e2) _ fun H3 e3 => hs H3 ((e.trans e2).trans e3) Q (fun H4 e4 => q H4 ((e2.trans e3).trans e4)) E⟩
theorem el_meth {a C dx : Addr} {fs : List (Str × V)} {m : Str} {sp : Sp} {dvs vs xs : List V} {E : XK} {tr : TA} (ha : Ev ta σ H (.ref a)) (h : H a = some (.ins C dx fs)) (l : fs.lookup m = none) (hv : EvA tr σ H vs) (hs : SpL sp (.ref a :: (vs ++ dvs)) H xs) :
    EvL (tMeth C m sp dvs E ta tr) σ H xs := fun H1 e Q q =>
  ha H1 e _ fun H2 e2 => ⟨a, dx, fs, rfl, e2 _ _ (e _ _ h), l, hv H2 (e.trans e2) _ fun H3 e3 => hs H3 ((e.trans e2).trans e3) Q (fun p H4 hp e4 h4 => q p H4 (fresh_back e2 (fresh_back e3 hp)) ((e2.trans e3).trans e4) h4) E⟩
end
/-! ### statements from a base: H0 (what is known), H (where we are) -/
section
variable {K : PySem.W.Frag} {σ : L2.St} {H0 H : Hp} {ta tb te : TE} {t : TT} {x y v : V} {D : Ends} {tu tw tz : TS}
theorem p_asg {i : Nat} (e : Ex H0 H) (h : Ev te σ H0 v) (k : ∀ H1, Ex H0 H1 → Ex H H1 → tz D (σ.set i (some v)) H1) : tSeq (tAsg te (gName i)) tz D σ H := q_asg (h.mono e) fun H1 e1 => k H1 (e.trans e1) e1
theorem p_asgL {i : Nat} {xs : List V} (e : Ex H0 H) (h : EvL te σ H0 xs) (k : ∀ p H1, H p = none → Ex H0 H1 → Ex H H1 → H1 p = some (.lst xs) → tz D (σ.set i (some (.ref p))) H1) : tSeq (tAsg te (gName i)) tz D σ H := q_asgL (h.mono e) fun p H1 hp e1 h1 => k p H1 hp (e.trans e1) e1 h1
theorem p_drop (e : Ex H0 H) (h : Ev te σ H0 v) (k : ∀ H1, Ex H0 H1 → Ex H H1 → tz D σ H1) : tSeq (tDrop te) tz D σ H := q_drop (h.mono e) fun H1 e1 => k H1 (e.trans e1) e1
theorem p_dropE (e : Ex H0 H) (h : Ev te σ H0 v) (k : ∀ H1, Ex H0 H1 → Ex H H1 → D.nx σ H1) : tDrop te D σ H := s_drop (h.mono e) fun H1 e1 => k H1 (e.trans e1) e1
theorem p_ret (e : Ex H0 H) (h : Ev te σ H0 v) (k : ∀ H1, Ex H0 H1 → D.rt v H1) : tRet te D σ H := s_ret (h.mono e) fun H1 e1 => k H1 (e.trans e1)
theorem p_retL {xs : List V} (e : Ex H0 H) (h : EvL te σ H0 xs) (k : ∀ p H1, H0 p = none → Ex H0 H1 → H1 p = some (.lst xs) → D.rt (.ref p) H1) : tRet te D σ H := s_retL (h.mono e) fun p H1 hp e1 h1 => k p H1 (fresh_back e hp) (e.trans e1) h1
theorem p_retU {xs : List V} (e : Ex H0 H) (h : EvU te σ H0 xs) (k : ∀ p H1, H0 p = none → Ex H0 H1 → H1 p = some (.tup xs) → D.rt (.ref p) H1) : tRet te D σ H := s_retU (fun H1 e1 => h H1 (e.trans e1)) fun p H1 hp e1 h1 => k p H1 (fresh_back e hp) (e.trans e1) h1
theorem p_if {b : Bool} (e : Ex H0 H) (h : EvT t σ H0 b) (h1 : b = true → ∀ H1, Ex H0 H1 → Ex H H1 → tu { D with nx := tz D } σ H1) (h2 : b = false → ∀ H1, Ex H0 H1 → Ex H H1 → tw { D with nx := tz D } σ H1) : tSeq (tIfS t tu tw) tz D σ H :=
  q_if (h.mono e) (fun hb H1 e1 => h1 hb H1 (e.trans e1) e1) (fun hb H1 e1 => h2 hb H1 (e.trans e1) e1)
theorem p_when {b : Bool} (e : Ex H0 H) (h : EvT t σ H0 b) (h1 : b = true → ∀ H1, Ex H0 H1 → Ex H H1 → tu { D with nx := tz D } σ H1) (h2 : b = false → ∀ H1, Ex H0 H1 → Ex H H1 → tz D σ H1) : tSeq (tIfS t tu tNext) tz D σ H :=
  q_when (h.mono e) (fun hb H1 e1 => h1 hb H1 (e.trans e1) e1) (fun hb H1 e1 => h2 hb H1 (e.trans e1) e1)
theorem p_whenE {b : Bool} (e : Ex H0 H) (h : EvT t σ H0 b) (h1 : b = true → ∀ H1, Ex H0 H1 → Ex H H1 → tu D σ H1) (h2 : b = false → ∀ H1, Ex H0 H1 → Ex H H1 → D.nx σ H1) : tIfS t tu tNext D σ H :=
  s_when (h.mono e) (fun hb H1 e1 => h1 hb H1 (e.trans e1) e1) (fun hb H1 e1 => h2 hb H1 (e.trans e1) e1)
theorem p_ifE {b : Bool} (e : Ex H0 H) (h : EvT t σ H0 b) (h1 : b = true → ∀ H1, Ex H0 H1 → Ex H H1 → tu D σ H1) (h2 : b = false → ∀ H1, Ex H0 H1 → Ex H H1 → tw D σ H1) : tIfS t tu tw D σ H :=
  s_if (h.mono e) (fun hb H1 e1 => h1 hb H1 (e.trans e1) e1) (fun hb H1 e1 => h2 hb H1 (e.trans e1) e1)
/-- a test that is known to be false: what it guards is never reached -/
theorem p_no (e : Ex H0 H) (h : EvT t σ H0 false) (k : ∀ H1, Ex H0 H1 → Ex H H1 → tz D σ H1) : tSeq (tIfS t tu tNext) tz D σ H := p_when e h (fun z => by cases z) fun _ => k
theorem p_noE (e : Ex H0 H) (h : EvT t σ H0 false) (k : ∀ H1, Ex H0 H1 → Ex H H1 → D.nx σ H1) : tIfS t tu tNext D σ H := p_whenE e h (fun z => by cases z) fun _ => k
end
/-! ### data: ties -/
abbrev Tie := Nat × Nat × Int
def tv (t : Tie) : List V := [.int t.1, .int t.2.1, .int t.2.2]
def TieV (K : PySem.W.Frag) (H : Hp) (v : V) (t : Tie) : Prop := ∃ a, v = .ref a ∧ SqT K H a (tv t)
structure TiesV (K : PySem.W.Frag) (H : Hp) (vs : List V) (ts : List Tie) : Prop where
  len : vs.length = ts.length
  at_ : ∀ (i : Nat) (v : V) (t : Tie), vs[i]? = some v → ts[i]? = some t → TieV K H v t
def TiesL (K : PySem.W.Frag) (H : Hp) (l : Addr) (ts : List Tie) : Prop := ∃ vs, SqL K H l vs ∧ TiesV K H vs ts
structure Good (n : Nat) (t : Tie) : Prop where
  one : t.1 < n
  two : t.2.1 < n
  ne : t.1 ≠ t.2.1
  lo : 1 ≤ t.2.2
  hi : t.2.2 ≤ 1000000000
section
variable {K : PySem.W.Frag} {H H' : Hp}
theorem TieV.ex {v : V} {t : Tie} (h : TieV K H v t) (e : Ex H H') : TieV K H' v t := by
  obtain ⟨a, rfl, h⟩ := h
  exact ⟨a, rfl, ex_t e h⟩
theorem TiesV.ex {vs : List V} {ts : List Tie} (h : TiesV K H vs ts) (e : Ex H H') : TiesV K H' vs ts := ⟨h.len, fun i v t a b => (h.at_ i v t a b).ex e⟩
theorem TiesL.ex {l : Addr} {ts : List Tie} (h : TiesL K H l ts) (e : Ex H H') : TiesL K H' l ts := by
  obtain ⟨vs, a, b⟩ := h
  exact ⟨vs, ex_l e a, b.ex e⟩
theorem TiesV.get {vs : List V} {ts : List Tie} (h : TiesV K H vs ts) {i : Nat} {v : V} (hv : vs[i]? = some v) : ∃ t a, ts[i]? = some t ∧ v = .ref a ∧ SqT K H a (tv t) := by
  have hi := (List.getElem?_eq_some_iff.mp hv).1
  have hi' : i < ts.length := by rw [← h.len]; exact hi
  obtain ⟨a, e, q⟩ := h.at_ i v ts[i] hv (List.getElem?_eq_getElem hi')
  exact ⟨ts[i], a, List.getElem?_eq_getElem hi', e, q⟩
theorem TiesV.nil : TiesV K H [] [] := ⟨rfl, fun i v t a _ => by simp at a⟩
theorem TiesV.snoc {vs : List V} {ts : List Tie} {v : V} {t : Tie} (h : TiesV K H vs ts) (hv : TieV K H v t) : TiesV K H (vs ++ [v]) (ts ++ [t]) := by
  refine ⟨by simp [h.len], fun i x y a b => ?_⟩
  by_cases hi : i < vs.length
  · rw [List.getElem?_append_left hi] at a
    rw [List.getElem?_append_left (by rw [← h.len]; exact hi)] at b
    exact h.at_ i x y a b
  · have hl := h.len
    rw [List.getElem?_append_right (by omega)] at a b
    by_cases h0 : i - vs.length = 0
    · rw [h0] at a
      rw [← hl, h0] at b
      simp at a b
      subst a b
      exact hv
    · obtain ⟨m, hm⟩ : ∃ m, i - vs.length = m + 1 := ⟨i - vs.length - 1, by omega⟩
      rw [hm] at a
      simp at a
theorem sum_map_append {α : Type} (f : α → Int) (xs ys : List α) : ((xs ++ ys).map f).sum = (xs.map f).sum + (ys.map f).sum := by
  rw [List.map_append, List.sum_append]
end
/-! ### data: n values by a function -/
def lstOf (n : Nat) (f : Nat → V) : List V := (List.range n).map f
theorem lstOf_len (n : Nat) (f : Nat → V) : (lstOf n f).length = n := by unfold lstOf; rw [List.length_map, List.length_range]
theorem lstOf_get {n i : Nat} {f : Nat → V} (h : i < n) : (lstOf n f)[i]? = some (f i) := by
  unfold lstOf
  rw [List.getElem?_map, List.getElem?_range h]
  rfl
theorem lstOf_at {n i : Nat} {f : Nat → V} (h : i < n) : atI (lstOf n f) (i : Int) = some (f i) := at_of rfl (lstOf_get h)
theorem lstOf_congr {n : Nat} {f g : Nat → V} (h : ∀ i, i < n → f i = g i) : lstOf n f = lstOf n g := by
  unfold lstOf
  refine List.map_congr_left fun i hi => h i (List.mem_range.mp hi)
theorem lstOf_set {n i : Nat} {f : Nat → V} {v : V} : (lstOf n f).set i v = lstOf n (fun k => if k = i then v else f k) := by
  apply List.ext_getElem?
  intro k
  by_cases hk : k < n
  · rw [lstOf_get hk]
    by_cases e : i = k
    · subst e
      rw [List.getElem?_set_self (by rw [lstOf_len]; exact hk), if_pos rfl]
    · rw [List.getElem?_set_ne e, lstOf_get hk, if_neg (fun q => e q.symm)]
  · rw [List.getElem?_eq_none (by rw [List.length_set, lstOf_len]; omega), List.getElem?_eq_none (by rw [lstOf_len]; omega)]
theorem lstOf_succ {n : Nat} {f : Nat → V} : lstOf (n + 1) f = lstOf n f ++ [f n] := by
  unfold lstOf
  rw [List.range_succ, List.map_append]
  rfl
theorem lstOf_rep {n : Nat} {v : V} : lstOf n (fun _ => v) = List.replicate n v := by
  apply List.ext_getElem?
  intro k
  by_cases hk : k < n
  · rw [lstOf_get hk, List.getElem?_replicate, if_pos hk]
  · rw [List.getElem?_eq_none (by rw [lstOf_len]; omega), List.getElem?_eq_none (by rw [List.length_replicate]; omega)]
/-! ### data: a square of numbers, rows of its own -/
structure MatR (H : Hp) (p : Addr) (n : Nat) (rs : Nat → Addr) (M : Nat → Nat → Int) : Prop where
  top : H p = some (.lst (lstOf n fun i => .ref (rs i)))
  row : ∀ i, i < n → H (rs i) = some (.lst (lstOf n fun j => .int (M i j)))
  inj : ∀ i j, i < n → j < n → rs i = rs j → i = j
def MatAt (H : Hp) (p : Addr) (n : Nat) (M : Nat → Nat → Int) : Prop := ∃ rs, MatR H p n rs M
/-- .. made anew: nothing of it stood in H0 -/
def MatN (H0 H : Hp) (p : Addr) (n : Nat) (M : Nat → Nat → Int) : Prop := H0 p = none ∧ ∃ rs, MatR H p n rs M ∧ ∀ i, i < n → H0 (rs i) = none
section
variable {K : PySem.W.Frag} {H0 H H' : Hp} {p : Addr} {n : Nat} {M : Nat → Nat → Int} {rs : Nat → Addr}
theorem MatR.ex (h : MatR H p n rs M) (e : Ex H H') : MatR H' p n rs M := ⟨e _ _ h.top, fun i hi => e _ _ (h.row i hi), h.inj⟩
theorem MatAt.ex (h : MatAt H p n M) (e : Ex H H') : MatAt H' p n M := by
  obtain ⟨rs, h⟩ := h
  exact ⟨rs, h.ex e⟩
theorem MatN.ex (h : MatN H0 H p n M) (e : Ex H H') : MatN H0 H' p n M := by
  obtain ⟨a, rs, h, f⟩ := h
  exact ⟨a, rs, h.ex e, f⟩
theorem MatN.at_ (h : MatN H0 H p n M) : MatAt H p n M := by
  obtain ⟨a, rs, h, f⟩ := h
  exact ⟨rs, h⟩
theorem MatR.npr (h : MatR H p n rs M) {i : Nat} (hi : i < n) : p ≠ rs i := by
  refine ne_of h.top (h.row i hi) ?_
  intro q
  have e := HO.lst.inj q
  have h1 : (lstOf n fun i => V.ref (rs i))[i]? = (lstOf n fun j => V.int (M i j))[i]? := by rw [e]
  rw [lstOf_get hi, lstOf_get hi] at h1
  cases h1
def put2 (M : Nat → Nat → Int) (i j : Nat) (z : Int) : Nat → Nat → Int := fun a b => if a = i ∧ b = j then z else M a b
theorem MatR.set (h : MatR H p n rs M) {i j : Nat} {z : Int} (hi : i < n) (hj : j < n) : MatR (upd H (rs i) (.lst ((lstOf n fun j => .int (M i j)).set j (.int z)))) p n rs (put2 M i j z) := by
  refine ⟨by rw [upd_ne (h.npr hi)]; exact h.top, fun k hk => ?_, h.inj⟩
  by_cases e : k = i
  · subst e
    rw [upd_same, lstOf_set]
    congr 2
    refine lstOf_congr fun b hb => ?_
    unfold put2
    by_cases q : b = j
    · rw [if_pos q, if_pos ⟨rfl, q⟩]
    · rw [if_neg q, if_neg (fun x => q x.2)]
  · rw [upd_ne (fun q => e (h.inj k i hk hi q)), h.row k hk]
    congr 2
    refine lstOf_congr fun b hb => ?_
    unfold put2
    rw [if_neg (fun x => e x.1)]
/-- c[i][j] is read -/
theorem MatR.get (h : MatR H p n rs M) {i j : Nat} (hi : i < n) (hj : j < n) : SqL K H p (lstOf n fun i => .ref (rs i)) ∧ atI (lstOf n fun i => V.ref (rs i)) (i : Int) = some (.ref (rs i)) ∧ SqL K H (rs i) (lstOf n fun j => .int (M i j)) ∧ atI (lstOf n fun j => V.int (M i j)) (j : Int) = some (.int (M i j)) :=
  ⟨sq_of h.top, lstOf_at hi, sq_of (h.row i hi), lstOf_at hj⟩
end
def costM (ts : List Tie) (i j : Nat) : Int := (ts.map fun t => if (t.1 = i ∧ t.2.1 = j) ∨ (t.1 = j ∧ t.2.1 = i) then t.2.2 else 0).sum
theorem costM_snoc (ts : List Tie) (t : Tie) (i j : Nat) : costM (ts ++ [t]) i j = costM ts i j + if (t.1 = i ∧ t.2.1 = j) ∨ (t.1 = j ∧ t.2.1 = i) then t.2.2 else 0 := by
  unfold costM
  rw [sum_map_append]
  simp
theorem costM_put {ts : List Tie} {t : Tie} (h : t.1 ≠ t.2.1) : ∀ i j, put2 (put2 (costM ts) t.1 t.2.1 (costM ts t.1 t.2.1 + t.2.2)) t.2.1 t.1 (put2 (costM ts) t.1 t.2.1 (costM ts t.1 t.2.1 + t.2.2) t.2.1 t.1 + t.2.2) i j = costM (ts ++ [t]) i j := by
  intro i j
  rw [costM_snoc]
  unfold put2
  by_cases a : i = t.2.1 ∧ j = t.1
  · obtain ⟨rfl, rfl⟩ := a
    rw [if_pos ⟨rfl, rfl⟩, if_neg (fun x => h x.1.symm), if_pos (Or.inr ⟨rfl, rfl⟩)]
  · rw [if_neg a]
    by_cases b : i = t.1 ∧ j = t.2.1
    · obtain ⟨rfl, rfl⟩ := b
      rw [if_pos ⟨rfl, rfl⟩, if_pos (Or.inl ⟨rfl, rfl⟩)]
    · rw [if_neg b, if_neg, Int.add_zero]
      rintro (⟨x, y⟩ | ⟨x, y⟩)
      · exact b ⟨x.symm, y.symm⟩
      · exact a ⟨y.symm, x.symm⟩
/-! ### a net -/
def netF (n l c : V) : List (Str × V) := putF "_costs" c (putF "_ties" l (putF "many" n []))
theorem nm1 : ¬ (("many" : Str) = "_ties") := by decide +kernel
theorem nm2 : ¬ (("many" : Str) = "_costs") := by decide +kernel
theorem nm3 : ¬ (("_ties" : Str) = "_costs") := by decide +kernel
theorem netF_many {n l c : V} : (netF n l c).lookup ("many" : Str) = some n := by
  unfold netF
  rw [lookup_putF, if_neg nm2, lookup_putF, if_neg nm1, lookup_putF, if_pos rfl]
theorem netF_ties {n l c : V} : (netF n l c).lookup ("_ties" : Str) = some l := by
  unfold netF
  rw [lookup_putF, if_neg nm3, lookup_putF, if_pos rfl]
theorem netF_costs {n l c : V} : (netF n l c).lookup ("_costs" : Str) = some c := by
  unfold netF
  rw [lookup_putF, if_pos rfl]
theorem netF_no {n l c : V} {m : Str} (h1 : ¬ m = "_costs") (h2 : ¬ m = "_ties") (h3 : ¬ m = "many") : (netF n l c).lookup m = none := by
  unfold netF
  rw [lookup_putF, if_neg h1, lookup_putF, if_neg h2, lookup_putF, if_neg h3]
  rfl
/-- a net of n places and of the ties ts stands at x -/
structure NetAt (K : PySem.W.Frag) (C : Addr) (H : Hp) (x : Addr) (n : Nat) (ts : List Tie) : Prop where
  ob : ∃ dx l c, H x = some (.ins C dx (netF (.int n) (.ref l) (.ref c))) ∧ (∃ vs, H l = some (.lst vs) ∧ TiesV K H vs ts) ∧ MatAt H c n (costM ts)
  lo : 1 ≤ n
  hi : n ≤ 24
  len : ts.length ≤ 300
  good : ∀ t ∈ ts, Good n t
theorem NetAt.ex {K : PySem.W.Frag} {C : Addr} {H H' : Hp} {x : Addr} {n : Nat} {ts : List Tie} (h : NetAt K C H x n ts) (e : Ex H H') : NetAt K C H' x n ts := by
  obtain ⟨dx, l, c, h1, ⟨vs, h2, h3⟩, h4⟩ := h.ob
  exact ⟨⟨dx, l, c, e _ _ h1, ⟨vs, e _ _ h2, h3.ex e⟩, h4.ex e⟩, h.lo, h.hi, h.len, h.good⟩

/-! ### lists of places -/
def IL (ns : List Nat) : List V := ns.map fun (k : Nat) => V.int (k : Int)
theorem IL_len (ns : List Nat) : (IL ns).length = ns.length := by unfold IL; rw [List.length_map]
theorem IL_get {ns : List Nat} {i : Nat} {x : V} (h : (IL ns)[i]? = some x) : ∃ p, ns[i]? = some p ∧ x = .int (p : Int) := by
  unfold IL at h
  rw [List.getElem?_map] at h
  cases e : ns[i]? with
  | none => rw [e] at h; cases h
  | some p => rw [e] at h; exact ⟨p, rfl, (Option.some.inj h).symm⟩
theorem IL_eq (ns : List Nat) : IL ns = (ns.map fun (k : Nat) => (k : Int)).map V.int := by unfold IL; rw [List.map_map]; rfl
theorem nodup_cast {ns : List Nat} (h : ns.Nodup) : (ns.map fun (k : Nat) => (k : Int)).Nodup := by
  unfold List.Nodup at h ⊢
  rw [List.pairwise_map]
  exact h.imp fun hab e => hab (by exact Int.ofNat.inj e)
theorem ev_lenSet {K : PySem.W.Frag} {σ : L2.St} {H : Hp} {ta : TE} {a : Addr} {ns : List Nat} (ha : Ev ta σ H (.ref a)) (h : SqL K H a (IL ns)) (nd : ns.Nodup) (hz : ns.length ≤ 4000) : Ev (tLenSetI K ta) σ H (.int (ns.length : Int)) := fun H1 e Q q =>
  ha H1 e _ fun H2 e2 => ⟨a, ns.map fun (k : Nat) => (k : Int), rfl, by rw [← IL_eq]; exact ex_l (e.trans e2) h, nodup_cast nd, by rw [List.length_map]; exact hz, by rw [List.length_map]; exact q H2 e2⟩
theorem take_snoc {α : Type} {xs : List α} {i : Nat} {x : α} (h : xs[i]? = some x) : xs.take (i + 1) = xs.take i ++ [x] := by
  rw [List.take_succ, h]
  rfl
/-- what H0 knows is kept where only a thing changes that H0 does not know -/
theorem _root_.Evl.Ex.but {H0 H H' : Hp} {p : Addr} (e : Ex H0 H) (h : H0 p = none) (k : ∀ b o, b ≠ p → H b = some o → H' b = some o) : Ex H0 H' := fun a o ha => k a o (ne_of_none ha h) (e a o ha)
theorem MatR.congr {H : Hp} {p : Addr} {n : Nat} {rs : Nat → Addr} {M M' : Nat → Nat → Int} (h : MatR H p n rs M) (e : ∀ i j, M i j = M' i j) : MatR H p n rs M' := by
  have : M = M' := funext fun i => funext fun j => e i j
  rw [← this]
  exact h
theorem yes_go {te : TE} {σ : L2.St} {H : Hp} {A : VK} {B : Hp → Prop} (h : te σ H A) : tYes σ H (fun b H3 => if b = true then te σ H3 A else B H3) := by
  show (if true = true then te σ H A else B H)
  rw [if_pos rfl]
  exact h
/-- c[i][j] += z -/
theorem mat_aug {K : PySem.W.Frag} {σ : L2.St} {H : Hp} {D : Ends} {pi ii ji zi : Nat} {p : Addr} {n i j : Nat} {z : Int} {rs : Nat → Addr} {M : Nat → Nat → Int} {f : Int → Int → Int}
    (hp : σ[pi]? = some (some (.ref p))) (hi : σ[ii]? = some (some (.int (i : Int)))) (hj : σ[ji]? = some (some (.int (j : Int)))) (hz : σ[zi]? = some (some (.int z))) (R : MatR H p n rs M) (li : i < n) (lj : j < n)
    (k : ∀ H', MatR H' p n rs (put2 M i j (f (M i j) z)) → (∀ b o, b ≠ rs i → H b = some o → H' b = some o) → D.nx σ H') :
    tAugS (tOp (rIxL K) (tVar pi) (tVar ii)) (tVar ji) (tVar zi) (rIxL K) (ipI f) rSetL D σ H := by
  obtain ⟨h1, h2, h3, h4⟩ := R.get (K := K) li lj
  refine ⟨_, hp, _, hi, p, _, _, _, rfl, rfl, h1, h2, _, hj, rs i, _, _, _, rfl, rfl, h3, h4, _, hz, _, _, rfl, rfl, rs i, _, _, j, rfl, rfl, R.row i li, ixN_nat (by rw [lstOf_len]; exact lj), ?_⟩
  exact k _ (R.set li lj) fun b o hb e => by rw [upd_ne hb]; exact e

section
variable {K : PySem.W.Frag} {σ : L2.St} {H H' : Hp} {ta tb te : TE}
theorem el_is {xs ys : List V} (h : EvL te σ H xs) (e : xs = ys) : EvL te σ H ys := by
  rw [← e]
  exact h
theorem inV_IL {ns : List Nat} {p : Nat} : inV (.int (p : Int)) (IL ns) = decide (p ∈ ns) := by
  unfold inV IL
  rw [List.any_map]
  by_cases h : p ∈ ns
  · rw [decide_eq_true h, List.any_eq_true]
    exact ⟨p, h, by simp [eqV]⟩
  · rw [decide_eq_false h, List.any_eq_false]
    intro q hq
    simp only [Function.comp, eqV, beq_iff_eq]
    intro e
    exact h (by rw [← Int.ofNat.inj e]; exact hq)
theorem flat_IL {ns : List Nat} : (IL ns).all flatV = true := by
  unfold IL
  rw [List.all_map, List.all_eq_true]
  intro q hq
  rfl
/-- p in a list of places -/
theorem ev_inIL {p : Nat} {a : Addr} {ns : List Nat} (ha : Ev ta σ H (.int (p : Int))) (hb : Ev tb σ H (.ref a)) (h : SqL K H a (IL ns)) : Ev (tOp (rIn K false) ta tb) σ H (.bl (decide (p ∈ ns))) :=
  ev_is (ev_op ha hb (rv_isL h rfl flat_IL)) (by rw [inV_IL])
theorem ev_ninIL {p : Nat} {a : Addr} {ns : List Nat} (ha : Ev ta σ H (.int (p : Int))) (hb : Ev tb σ H (.ref a)) (h : SqL K H a (IL ns)) : Ev (tOp (rIn K true) ta tb) σ H (.bl (!decide (p ∈ ns))) :=
  ev_is (ev_op ha hb (rv_niL h rfl flat_IL)) (by rw [inV_IL])
end

theorem bl_ne {a b : Bool} : (!decide (V.bl a = V.bl b)) = (a != b) := by cases a <;> cases b <;> decide
theorem bl_eq {a b : Bool} : (decide (V.bl a = V.bl b)) = (a == b) := by cases a <;> cases b <;> decide
theorem netF2_len {n l : V} : (putF "_ties" l (putF "many" n [])).length < 1000 := by
  show (if ("many" : Str) = "_ties" then [(("many" : Str), l)] else (("many" : Str), n) :: putF "_ties" l []).length < 1000
  rw [if_neg nm1]
  show 2 < 1000
  decide

/-! ### comprehensions whose items are related, not known -/
/-- a value that is R0 of the heap before and the heap behind -/
def EvR (te : TE) (σ : L2.St) (H : Hp) (R0 : Hp → V → Hp → Prop) : Prop := ∀ H1, Ex H H1 → ∀ Q : VK, (∀ v H2, Ex H1 H2 → R0 H1 v H2 → Q v H2) → te σ H1 Q
/-- a new list at p whose items vs are P p -/
def EvLR (te : TE) (σ : L2.St) (H : Hp) (P : Addr → List V → Hp → Prop) : Prop := ∀ H1, Ex H H1 → ∀ Q : VK, (∀ p vs H2, H1 p = none → Ex H1 H2 → H2 p = some (.lst vs) → P p vs H2 → Q (.ref p) H2) → te σ H1 Q
def Fills (R : Nat → V → Hp → Prop) (is : List Nat) (vs : List V) (H : Hp) : Prop := vs.length = is.length ∧ ∀ (k i : Nat) (v : V), is[k]? = some i → vs[k]? = some v → R i v H
structure CompR (R0 : Nat → Hp → V → Hp → Prop) (R : Addr → Nat → V → Hp → Prop) : Prop where
  new : ∀ D i v H1 H2 acc acc', Ex H1 H2 → H1 D = some (.lst acc) → R0 i H1 v H2 → R D i v (upd H2 D (.lst acc'))
  keep : ∀ D i v H H2 acc acc', H D = some (.lst acc) → H2 D = some (.lst acc') → (∀ a o, a ≠ D → H a = some o → H2 a = some o) → R D i v H → R D i v H2
def CwR (H : Hp) (R : Addr → Nat → V → Hp → Prop) (f : Nat → Bool) (D : Addr) (i : Nat) (H' : Hp) : Prop := H D = none ∧ Ex H H' ∧ ∃ vs, H' D = some (.lst vs) ∧ Fills (R D) ((List.range i).filter f) vs H'
section
variable {K : PySem.W.Frag} {σ : L2.St} {H : Hp} {te : TE} {t : TT} {g : TG} {R0 : Nat → Hp → V → Hp → Prop} {R : Addr → Nat → V → Hp → Prop}
theorem et_yes : EvT tYes σ H true := fun H1 _ _ q => q H1 (Ex.refl H1)
theorem evr_of {v : V} {R1 : Hp → V → Hp → Prop} (h : Ev te σ H v) (r : ∀ H1 H2, Ex H H1 → Ex H1 H2 → R1 H1 v H2) : EvR te σ H R1 := fun H1 e Q q => h H1 e Q fun H2 e2 => q v H2 e2 (r H1 H2 e e2)
theorem cwR_turn {H H' : Hp} {f : Nat → Bool} {D : Addr} {i : Nat} {σ2 : L2.St} (c : CompR R0 R) (p : CwR H R f D i H') (hi : i < 50000) (ht : EvT t σ2 H (f i)) (he : f i = true → EvR te σ2 H (R0 i)) :
    t σ2 H' fun b H3 => if b = true then te σ2 H3 fun y H4 => ∃ acc, H4 D = some (.lst acc) ∧ acc.length < sizeLine ∧ CwR H R f D (i + 1) (upd H4 D (.lst (acc ++ [y]))) else CwR H R f D (i + 1) H3 := by
  obtain ⟨p1, p2, vs, p3, p4, p5⟩ := p
  have hlen : ((List.range i).filter f).length ≤ i := by
    have h := List.length_filter_le f (List.range i)
    rw [List.length_range] at h
    exact h
  refine ht H' p2 _ fun H3 e3 => ?_
  cases hf : f i with
  | true =>
    show te σ2 H3 fun y H4 => ∃ acc, H4 D = some (.lst acc) ∧ acc.length < sizeLine ∧ CwR H R f D (i + 1) (upd H4 D (.lst (acc ++ [y])))
    refine he hf H3 (p2.trans e3) _ fun y H4 e4 r => ⟨vs, e4 D _ (e3 D _ p3), sz_lt (by omega), p1, Ex.mut ((p2.trans e3).trans e4) p1, vs ++ [y], upd_same, ?_⟩
    have er : (List.range (i + 1)).filter f = (List.range i).filter f ++ [i] := by
      rw [List.range_succ, List.filter_append, List.filter_cons, if_pos hf]
      rfl
    rw [er]
    refine ⟨by simp [p4], fun k j v h1 h2 => ?_⟩
    by_cases hk : k < vs.length
    · rw [List.getElem?_append_left (by omega)] at h1
      rw [List.getElem?_append_left hk] at h2
      exact c.keep D j v H' _ vs _ p3 upd_same (fun a o ha h => by rw [upd_ne ha]; exact e4 _ _ (e3 _ _ h)) (p5 k j v h1 h2)
    · have h0 : k = vs.length := by
        have := (List.getElem?_eq_some_iff.mp h2).1
        simp at this
        omega
      subst h0
      rw [List.getElem?_append_right (by omega), p4, Nat.sub_self] at h1
      rw [List.getElem?_append_right (by omega), Nat.sub_self] at h2
      have e1 : i = j := Option.some.inj h1
      have e2 : y = v := Option.some.inj h2
      subst e1 e2
      exact c.new D i y H3 H4 vs _ e4 (e3 D _ p3) r
  | false =>
    show CwR H R f D (i + 1) H3
    have er : (List.range (i + 1)).filter f = (List.range i).filter f := by
      rw [List.range_succ, List.filter_append, List.filter_cons, if_neg (by rw [hf]; decide)]
      show _ ++ [] = _
      rw [List.append_nil]
    refine ⟨p1, p2.trans e3, vs, e3 D _ p3, ?_⟩
    rw [er]
    exact ⟨p4, fun k j v h1 h2 => c.keep D j v H' _ vs _ p3 (e3 _ _ p3) (fun a o _ h => e3 _ _ h) (p5 k j v h1 h2)⟩
theorem cwR_end {H1 H' : Hp} {f : Nat → Bool} {D : Addr} {n : Nat} (p : CwR H1 R f D n H') : H1 D = none ∧ Ex H1 H' ∧ ∃ vs, H' D = some (.lst vs) ∧ Fills (R D) ((List.range n).filter f) vs H' := p
/-- over a list that stands, or a new one -/
theorem el_cL {a : Addr} {xs : List V} {tl : TE} {vs : List Nat} (f : Nat → Bool) (c : CompR R0 R) (h : Ev tl σ H (.ref a)) (hx : SqL K H a xs) (hz : xs.length ≤ 40000)
    (hg : ∀ i x, xs[i]? = some x → ∃ σ2, wipe σ2 vs = wipe σ vs ∧ (∀ H2 Q, Ex H H2 → Q σ2 H2 → g x (wipe σ vs) H2 Q) ∧ EvT t σ2 H (f i) ∧ (f i = true → EvR te σ2 H (R0 i))) :
    EvLR (tLc (iList K tl) g t te vs) σ H (fun D ys H2 => Fills (R D) ((List.range xs.length).filter f) ys H2) := fun H0 e Q q => h H0 e _ fun H1 e1 => ⟨a, rfl, ⟨xs, ex_l (e.trans e1) hx⟩, fun Dl hD =>
  lc_list (xs := xs) (CwR H1 R f Dl) ⟨hD, Ex.new hD, [], upd_same, by simp [Fills]⟩ (fun i H' _ p => ex_l ((e.trans e1).trans p.2.1) hx) (fun i x H' hi p => by
    obtain ⟨σ2, w1, w2, w3, w4⟩ := hg i x hi
    exact w2 H' _ ((e.trans e1).trans p.2.1) ⟨w1, cwR_turn c p (by have := (List.getElem?_eq_some_iff.mp hi).1; omega) (w3.mono (e.trans e1)) (fun hf H3 e3 => w4 hf H3 ((e.trans e1).trans e3))⟩)
    (fun H' p => by
      obtain ⟨p1, p2, ys, p3, p4⟩ := p
      exact q Dl ys H' (fresh_back e1 p1) (e1.trans p2) p3 p4)⟩
theorem el_cNL {xs : List V} {tl : TE} {vs : List Nat} (f : Nat → Bool) (c : CompR R0 R) (h : EvL tl σ H xs) (hz : xs.length ≤ 40000)
    (hg : ∀ i x, xs[i]? = some x → ∃ σ2, wipe σ2 vs = wipe σ vs ∧ (∀ H2 Q, Ex H H2 → Q σ2 H2 → g x (wipe σ vs) H2 Q) ∧ EvT t σ2 H (f i) ∧ (f i = true → EvR te σ2 H (R0 i))) :
    EvLR (tLc (iList K tl) g t te vs) σ H (fun D ys H2 => Fills (R D) ((List.range xs.length).filter f) ys H2) := fun H0 e Q q => h H0 e _ fun a H1 ha e1 hx => ⟨a, rfl, ⟨xs, sq_of hx⟩, fun Dl hD =>
  lc_list (xs := xs) (CwR H1 R f Dl) ⟨hD, Ex.new hD, [], upd_same, by simp [Fills]⟩ (fun i H' _ p => sq_of (p.2.1 a _ hx)) (fun i x H' hi p => by
    obtain ⟨σ2, w1, w2, w3, w4⟩ := hg i x hi
    exact w2 H' _ ((e.trans e1).trans p.2.1) ⟨w1, cwR_turn c p (by have := (List.getElem?_eq_some_iff.mp hi).1; omega) (w3.mono (e.trans e1)) (fun hf H3 e3 => w4 hf H3 ((e.trans e1).trans e3))⟩)
    (fun H' p => by
      obtain ⟨p1, p2, ys, p3, p4⟩ := p
      exact q Dl ys H' (fresh_back e1 p1) (e1.trans p2) p3 p4)⟩
theorem el_cR1 {ta : TA} {vs : List Nat} {n : Nat} (f : Nat → Bool) (c : CompR R0 R) (h : EvA ta σ H [.int (n : Int)]) (hn : n ≤ 40000)
    (hg : ∀ i, i < n → ∃ σ2, wipe σ2 vs = wipe σ vs ∧ (∀ H2 Q, Ex H H2 → Q σ2 H2 → g (.int (i : Int)) (wipe σ vs) H2 Q) ∧ EvT t σ2 H (f i) ∧ (f i = true → EvR te σ2 H (R0 i))) :
    EvLR (tLc (iRng1 ta) g t te vs) σ H (fun D ys H2 => Fills (R D) ((List.range n).filter f) ys H2) := fun H0 e Q q => h H0 e _ fun H1 e1 => ⟨(n : Int), rfl, by omega, by omega, fun Dl hD =>
  lc_range (lo := 0) (n := n) (CwR H1 R f Dl) ⟨hD, Ex.new hD, [], upd_same, by simp [Fills]⟩ (fun i H' hi p => by
    obtain ⟨σ2, w1, w2, w3, w4⟩ := hg i hi
    rw [Int.zero_add]
    exact w2 H' _ ((e.trans e1).trans p.2.1) ⟨w1, cwR_turn c p (by omega) (w3.mono (e.trans e1)) (fun hf H3 e3 => w4 hf H3 ((e.trans e1).trans e3))⟩)
    (fun H' p => by
      obtain ⟨p1, p2, ys, p3, p4⟩ := p
      exact q Dl ys H' (fresh_back e1 p1) (e1.trans p2) p3 p4)⟩
theorem el_cR2 {ta : TA} {vs : List Nat} {lo n : Nat} (f : Nat → Bool) (c : CompR R0 R) (h : EvA ta σ H [.int (lo : Int), .int (n : Int)]) (hn : n ≤ 40000) (hlo : lo ≤ 40000)
    (hg : ∀ i, i < n - lo → ∃ σ2, wipe σ2 vs = wipe σ vs ∧ (∀ H2 Q, Ex H H2 → Q σ2 H2 → g (.int ((lo + i : Nat) : Int)) (wipe σ vs) H2 Q) ∧ EvT t σ2 H (f i) ∧ (f i = true → EvR te σ2 H (R0 i))) :
    EvLR (tLc (iRng2 ta) g t te vs) σ H (fun D ys H2 => Fills (R D) ((List.range (n - lo)).filter f) ys H2) := fun H0 e Q q => h H0 e _ fun H1 e1 => ⟨(lo : Int), (n : Int), rfl, by omega, fun Dl hD => by
  have en : ((n : Int) - (lo : Int)).toNat = n - lo := by omega
  rw [en]
  exact lc_range (lo := (lo : Int)) (n := n - lo) (CwR H1 R f Dl) ⟨hD, Ex.new hD, [], upd_same, by simp [Fills]⟩ (fun i H' hi p => by
    obtain ⟨σ2, w1, w2, w3, w4⟩ := hg i hi
    have ei : (lo : Int) + (i : Int) = ((lo + i : Nat) : Int) := by omega
    rw [ei]
    exact w2 H' _ ((e.trans e1).trans p.2.1) ⟨w1, cwR_turn c p (by omega) (w3.mono (e.trans e1)) (fun hf H3 e3 => w4 hf H3 ((e.trans e1).trans e3))⟩)
    (fun H' p => by
      obtain ⟨p1, p2, ys, p3, p4⟩ := p
      exact q Dl ys H' (fresh_back e1 p1) (e1.trans p2) p3 p4)⟩
/-- x = [..] -/
theorem p_asgLR {H0 : Hp} {D : Ends} {tz : TS} {i : Nat} {P : Addr → List V → Hp → Prop} (e : Ex H0 H) (h : EvLR te σ H0 P) (k : ∀ p vs H1, H p = none → Ex H0 H1 → Ex H H1 → H1 p = some (.lst vs) → P p vs H1 → tz D (σ.set i (some (.ref p))) H1) : tSeq (tAsg te (gName i)) tz D σ H :=
  h H e _ fun p vs H1 hp e1 h1 r => k p vs H1 hp (e.trans e1) e1 h1 r
theorem p_retLR {H0 : Hp} {D : Ends} {P : Addr → List V → Hp → Prop} (e : Ex H0 H) (h : EvLR te σ H0 P) (k : ∀ p vs H1, H0 p = none → Ex H0 H1 → H1 p = some (.lst vs) → P p vs H1 → D.rt (.ref p) H1) : tRet te D σ H :=
  h H e _ fun p vs H1 hp e1 h1 r => k p vs H1 (fresh_back e hp) (e.trans e1) h1 r
end
theorem filter_yes (n : Nat) : (List.range n).filter (fun _ => true) = List.range n := List.filter_eq_self.mpr fun _ _ => rfl
/-- ties made one by one -/
theorem compTie {K : PySem.W.Frag} {t : Nat → Tie} : CompR (fun i _ v H2 => TieV K H2 v (t i)) (fun _ i v H => TieV K H v (t i)) := by
  refine ⟨fun D i v H1 H2 acc acc' e hD r => ?_, fun D i v H H2 acc acc' h1 h2 k r => ?_⟩
  · obtain ⟨a, rfl, r⟩ := r
    refine ⟨a, rfl, ?_⟩
    have hD2 := e _ _ hD
    rcases r with (r | ⟨o, r⟩) | r
    · exact .inl (.inl (by rw [upd_ne (ne_of r hD2 (by intro q; cases q))]; exact r))
    · exact .inl (.inr ⟨o, by rw [upd_ne (ne_of r hD2 (by intro q; cases q))]; exact r⟩)
    · exact .inr r
  · obtain ⟨a, rfl, r⟩ := r
    refine ⟨a, rfl, ?_⟩
    rcases r with (r | ⟨o, r⟩) | r
    · exact .inl (.inl (k _ _ (ne_of r h1 (by intro q; cases q)) r))
    · exact .inl (.inr ⟨o, k _ _ (ne_of r h1 (by intro q; cases q)) r⟩)
    · exact .inr r
theorem Fills.ties {K : PySem.W.Frag} {t : Nat → Tie} {is : List Nat} {vs : List V} {H : Hp} (h : Fills (fun i v H => TieV K H v (t i)) is vs H) : TiesV K H vs (is.map t) := by
  refine ⟨by rw [h.1, List.length_map], fun k v y h1 h2 => ?_⟩
  rw [List.getElem?_map] at h2
  cases e : is[k]? with
  | none => rw [e] at h2; cases h2
  | some i =>
    rw [e] at h2
    have e2 : t i = y := Option.some.inj h2
    rw [← e2]
    exact h.2 k i v e h1
theorem range_getD {α β : Type} (f : α → β) (xs : List α) (d : α) : (List.range xs.length).map (fun i => f (xs.getD i d)) = xs.map f := by
  apply List.ext_getElem?
  intro i
  by_cases h : i < xs.length
  · rw [List.getElem?_map, List.getElem?_range h, List.getElem?_map, List.getElem?_eq_getElem h]
    simp [List.getD, List.getElem?_eq_getElem h]
  · rw [List.getElem?_eq_none (by simp; omega), List.getElem?_eq_none (by simp; omega)]
/-- a cut of a list -/
def cutG {α : Type} (xs : List α) (lo hi : Option Int) : List α := (xs.drop (HT.sIx xs.length 0 lo)).take (HT.sIx xs.length xs.length hi - HT.sIx xs.length 0 lo)
theorem cutV_map {α : Type} (f : α → V) (xs : List α) (lo hi : Option Int) : cutV (xs.map f) lo hi = (cutG xs lo hi).map f := by
  unfold cutV cutG
  rw [List.length_map, List.map_take, List.map_drop]
/-! ### isinstance -/
theorem tyx_l {K : PySem.W.Frag} {H : Hp} {a : Addr} {xs : List V} (h : SqL K H a xs) : TyX K H (.ref a) (.type "list") := by
  rcases h with (h | ⟨o, h⟩) | ⟨o, its, n, h, c, _⟩
  · exact .base (.lst h)
  · exact .base (.frz h)
  · exact .kList h c
theorem tyx_t {K : PySem.W.Frag} {H : Hp} {a : Addr} {xs : List V} (h : SqT K H a xs) : TyX K H (.ref a) (.type "tuple") := by
  rcases h with (h | ⟨o, h⟩) | ⟨o, its, n, h, c, _⟩
  · exact .base (.tup h)
  · exact .fTuple h
  · exact .kTuple h c
theorem rc_isi {K : PySem.W.Frag} {H : Hp} {x c : V} {t u : Value} {b : Bool} (hc : ClsV c u) (ht : ∀ H1, Ex H H1 → TyX K H1 x t) (hk : PySem.W.kitOne K t u = some b) : RC (rIsi K) [x, c] H (.bl b) := fun H1 e _ q => ⟨x, c, t, u, b, rfl, hc, ht H1 e, hk, q H1 (Ex.refl H1)⟩
section
variable {K : PySem.W.Frag} {σ : L2.St} {H : Hp} {ta tb : TE}
theorem ev_isiI {i : Int} {T : String} {b : Bool} (ha : Ev ta σ H (.int i)) (hk : kitB "int" T = some b) : Ev (tCB (rIsi K) (tCons ta (tCons (tC (.ty T)) tNil))) σ H (.bl b) :=
  ev_cb (ea_cons ha (ea_cons ev_c ea_nil)) (rc_isi (.ty T) (fun _ _ => .base (.int i)) (kit_ty hk))
theorem ev_isiS {x : Str} {T : String} {b : Bool} (ha : Ev ta σ H (.str x)) (hk : kitB "str" T = some b) : Ev (tCB (rIsi K) (tCons ta (tCons (tC (.ty T)) tNil))) σ H (.bl b) :=
  ev_cb (ea_cons ha (ea_cons ev_c ea_nil)) (rc_isi (.ty T) (fun _ _ => .base (.str x)) (kit_ty hk))
theorem ev_isiL {a : Addr} {xs : List V} {T : String} {b : Bool} (ha : Ev ta σ H (.ref a)) (h : SqL K H a xs) (hk : kitB "list" T = some b) : Ev (tCB (rIsi K) (tCons ta (tCons (tC (.ty T)) tNil))) σ H (.bl b) :=
  ev_cb (ea_cons ha (ea_cons ev_c ea_nil)) (rc_isi (.ty T) (fun _ e => tyx_l (ex_l e h)) (kit_ty hk))
theorem ev_isiT {a : Addr} {xs : List V} {T : String} {b : Bool} (ha : Ev ta σ H (.ref a)) (h : SqT K H a xs) (hk : kitB "tuple" T = some b) : Ev (tCB (rIsi K) (tCons ta (tCons (tC (.ty T)) tNil))) σ H (.bl b) :=
  ev_cb (ea_cons ha (ea_cons ev_c ea_nil)) (rc_isi (.ty T) (fun _ e => tyx_t (ex_t e h)) (kit_ty hk))
end

/-! ### == of data -/
def pds (ns : List Int) : List PyData := ns.map PyData.int
def tvI (t : Tie) : List Int := [(t.1 : Int), (t.2.1 : Int), t.2.2]
def pdt (ts : List Tie) : List PyData := ts.map fun t => PyData.tuple (pds (tvI t))
mutual
theorem dp_ex {K : PySem.W.Frag} {H H' : Hp} (e : Ex H H') : ∀ (d : PyData) (v : V), Dp K H v d → Dp K H' v d
  | .none, _, h => by cases h; exact .non
  | .bool b, _, h => by cases h; exact .bl b
  | .int i, _, h => by cases h; exact .int i
  | .str x, _, h => by cases h; exact .str x
  | .list ds, _, h => by
    cases h with
    | lst hs ha => exact .lst (ex_l e hs) (dp_exA e ds _ ha)
  | .tuple ds, _, h => by
    cases h with
    | tup hs ha => exact .tup (ex_t e hs) (dp_exA e ds _ ha)
  | .dict _, _, h => by cases h
theorem dp_exA {K : PySem.W.Frag} {H H' : Hp} (e : Ex H H') : ∀ (ds : List PyData) (vs : List V), DpAll K H vs ds → DpAll K H' vs ds
  | [], _, h => by cases h; exact .nil
  | d :: ds, _, h => by
    cases h with
    | cons h1 h2 => exact .cons (dp_ex e d _ h1) (dp_exA e ds _ h2)
end
theorem dp_ints {K : PySem.W.Frag} {H : Hp} : ∀ ns : List Int, DpAll K H (ns.map V.int) (pds ns)
  | [] => .nil
  | n :: ns => .cons (.int n) (dp_ints ns)
theorem pds_lay : ∀ ns : List Int, PyData.canLayAll0 (pds ns) = true
  | [] => rfl
  | n :: ns => by
    show (PyData.canLay0 (.int n) && PyData.canLayAll0 (pds ns)) = true
    rw [pds_lay ns]
    rfl
theorem pds_depth : ∀ ns : List Int, PyData.depthAll (pds ns) = 0
  | [] => rfl
  | n :: ns => by
    show max (PyData.depth (.int n)) (PyData.depthAll (pds ns)) = 0
    rw [pds_depth ns]
    rfl
theorem sh_ints (ns : List Int) : SeqAt.shaped (.list (pds ns)) = true := by
  unfold SeqAt.shaped PyData.canLay0 PyData.depth
  rw [pds_lay, pds_depth]
  rfl
theorem sh_intsT (ns : List Int) : SeqAt.shaped (.tuple (pds ns)) = true := by
  unfold SeqAt.shaped PyData.canLay0 PyData.depth
  rw [pds_lay, pds_depth]
  rfl
theorem eqv_pds : ∀ ns ms : List Int, PyData.eqvAll (pds ns) (pds ms) = decide (ns = ms)
  | [], [] => rfl
  | [], m :: ms => rfl
  | n :: ns, [] => rfl
  | n :: ns, m :: ms => by
    show (PyData.eqv (.int n) (.int m) && PyData.eqvAll (pds ns) (pds ms)) = _
    rw [eqv_pds ns ms]
    show ((n == m) && decide (ns = ms)) = decide (n :: ns = m :: ms)
    by_cases h : n = m
    · subst h
      by_cases h2 : ns = ms
      · subst h2; simp
      · simp [h2]
    · simp [h]
theorem pdt_lay : ∀ ts : List Tie, PyData.canLayAll0 (pdt ts) = true
  | [] => rfl
  | t :: ts => by
    show (PyData.canLayAll0 (pds (tvI t)) && PyData.canLayAll0 (pdt ts)) = true
    rw [pdt_lay ts, pds_lay]
    rfl
theorem pdt_depth : ∀ ts : List Tie, PyData.depthAll (pdt ts) ≤ 1
  | [] => Nat.zero_le _
  | t :: ts => by
    show max (PyData.depthAll (pds (tvI t)) + 1) (PyData.depthAll (pdt ts)) ≤ 1
    rw [pds_depth]
    exact Nat.max_le.mpr ⟨Nat.le_refl _, pdt_depth ts⟩
theorem sh_ties (ts : List Tie) : SeqAt.shaped (.list (pdt ts)) = true := by
  unfold SeqAt.shaped PyData.canLay0 PyData.depth
  rw [pdt_lay, Bool.true_and]
  exact decide_eq_true (by have := pdt_depth ts; omega)
theorem tvI_inj {t u : Tie} (h : tvI t = tvI u) : t = u := by
  obtain ⟨a, b, c⟩ := t
  obtain ⟨x, y, z⟩ := u
  unfold tvI at h
  simp only [List.cons.injEq, and_true] at h
  obtain ⟨h1, h2, h3⟩ := h
  have e1 : a = x := Int.ofNat.inj h1
  have e2 : b = y := Int.ofNat.inj h2
  subst e1 e2 h3
  rfl
theorem eqv_pdt : ∀ ts us : List Tie, PyData.eqvAll (pdt ts) (pdt us) = decide (ts = us)
  | [], [] => rfl
  | [], m :: ms => rfl
  | n :: ns, [] => rfl
  | n :: ns, m :: ms => by
    show (PyData.eqvAll (pds (tvI n)) (pds (tvI m)) && PyData.eqvAll (pdt ns) (pdt ms)) = _
    rw [eqv_pdt ns ms, eqv_pds]
    by_cases h : n = m
    · subst h
      by_cases h2 : ns = ms
      · subst h2; simp
      · simp [h2]
    · rw [decide_eq_false (fun q => h (tvI_inj q)), decide_eq_false (fun q => h (List.cons.inj q).1)]
      rfl
theorem dp_tie {K : PySem.W.Frag} {H : Hp} {v : V} {t : Tie} (h : TieV K H v t) : Dp K H v (.tuple (pds (tvI t))) := by
  obtain ⟨a, rfl, h⟩ := h
  exact .tup h (dp_ints (tvI t))
theorem dp_ties {K : PySem.W.Frag} {H : Hp} : ∀ {vs : List V} {ts : List Tie}, TiesV K H vs ts → DpAll K H vs (pdt ts)
  | [], [], _ => .nil
  | [], t :: ts, h => by have := h.len; simp at this
  | v :: vs, [], h => by have := h.len; simp at this
  | v :: vs, t :: ts, h => .cons (dp_tie (h.at_ 0 v t rfl rfl)) (dp_ties ⟨by have := h.len; simpa using this, fun i x y h1 h2 => h.at_ (i + 1) x y h1 h2⟩)
section
variable {K : PySem.W.Frag} {σ : L2.St} {H : Hp} {ta tb : TE} {x y : V} {d e : PyData}
theorem rv_eqD (hd : Dp K H x d) (he : Dp K H y e) (sd : SeqAt.shaped d = true) (se : SeqAt.shaped e = true) : RV (rEqD K) x y H (.bl (PyData.eqv d e)) := fun H1 ex _ q => ⟨d, e, dp_ex ex d x hd, dp_ex ex e y he, sd, se, q H1 (Ex.refl H1)⟩
theorem rv_neD (hd : Dp K H x d) (he : Dp K H y e) (sd : SeqAt.shaped d = true) (se : SeqAt.shaped e = true) : RV (rNeD K) x y H (.bl (!PyData.eqv d e)) := fun H1 ex _ q => ⟨d, e, dp_ex ex d x hd, dp_ex ex e y he, sd, se, q H1 (Ex.refl H1)⟩
theorem eqv_intsL (ns ms : List Int) : PyData.eqv (.list (pds ns)) (.list (pds ms)) = decide (ns = ms) := eqv_pds ns ms
theorem eqv_intsT (ns ms : List Int) : PyData.eqv (.tuple (pds ns)) (.tuple (pds ms)) = decide (ns = ms) := eqv_pds ns ms
theorem eqv_tiesL (ts us : List Tie) : PyData.eqv (.list (pdt ts)) (.list (pdt us)) = decide (ts = us) := eqv_pdt ts us
/-- an item of a tie -/
theorem tv0 {t : Tie} : atI (tv t) 0 = some (.int (t.1 : Int)) := at_of (j := 0) rfl rfl
theorem tv1 {t : Tie} : atI (tv t) 1 = some (.int (t.2.1 : Int)) := at_of (j := 1) rfl rfl
theorem tv2 {t : Tie} : atI (tv t) 2 = some (.int t.2.2) := at_of (j := 2) rfl rfl
theorem ev_t0 {a : Addr} {t : Tie} (ha : Ev ta σ H (.ref a)) (h : SqT K H a (tv t)) : Ev (tOp (rIxT K) ta (tC (.int 0))) σ H (.int (t.1 : Int)) := ev_op ha ev_c (rv_ixT h tv0)
theorem ev_t1 {a : Addr} {t : Tie} (ha : Ev ta σ H (.ref a)) (h : SqT K H a (tv t)) : Ev (tOp (rIxT K) ta (tC (.int 1))) σ H (.int (t.2.1 : Int)) := ev_op ha ev_c (rv_ixT h tv1)
theorem ev_t2 {a : Addr} {t : Tie} (ha : Ev ta σ H (.ref a)) (h : SqT K H a (tv t)) : Ev (tOp (rIxT K) ta (tC (.int 2))) σ H (.int t.2.2) := ev_op ha ev_c (rv_ixT h tv2)
end
theorem mulN {n : Nat} (h1 : 2 ≤ n) (h2 : n ≤ 24) : (0 : Int) < (n : Int) * ((n : Int) - 1) ∧ (n : Int) * ((n : Int) - 1) < 1000 := by
  have e : (n : Int) * ((n : Int) - 1) = ((n * (n - 1) : Nat) : Int) := by
    rw [Int.natCast_mul]
    congr 1
    omega
  have a : 0 < n * (n - 1) := Nat.mul_pos (by omega) (by omega)
  have b : n * (n - 1) ≤ 24 * 23 := Nat.mul_le_mul h2 (by omega)
  rw [e]
  omega
/-- a tie by a cell -/
def tieOf (n : Nat) (top c : Int) : Tie := ((c % (n : Int)).toNat, ((c % (n : Int) + 1 + c / (n : Int) % ((n : Int) - 1)) % (n : Int)).toNat, 1 + c / ((n : Int) * ((n : Int) - 1)) % top)
theorem otherOf {n a r : Int} (h0 : 0 ≤ a) (h1 : a < n) (r0 : 0 ≤ r) (r1 : r < n - 1) : (a + 1 + r) % n ≠ a ∧ 0 ≤ (a + 1 + r) % n ∧ (a + 1 + r) % n < n := by
  have hn : 0 < n := by omega
  refine ⟨?_, Int.emod_nonneg _ (by omega), Int.emod_lt_of_pos _ hn⟩
  by_cases h : a + 1 + r < n
  · rw [Int.emod_eq_of_lt (by omega) h]
    omega
  · have e : (a + 1 + r) % n = a + 1 + r - n := by
      have e1 : a + 1 + r = (a + 1 + r - n) + n := by omega
      rw [e1, Int.add_emod_right, Int.emod_eq_of_lt (by omega) (by omega)]
      omega
    rw [e]
    omega
theorem tieOf_good {n : Nat} {top c : Int} (h : 2 ≤ n) (h1 : 1 ≤ top) (h2 : top ≤ 1000000000) : Good n (tieOf n top c) := by
  have a0 : 0 ≤ c % (n : Int) := Int.emod_nonneg _ (by omega)
  have a1 : c % (n : Int) < n := Int.emod_lt_of_pos _ (by omega)
  have r0 : 0 ≤ c / (n : Int) % ((n : Int) - 1) := Int.emod_nonneg _ (by omega)
  have r1 : c / (n : Int) % ((n : Int) - 1) < (n : Int) - 1 := Int.emod_lt_of_pos _ (by omega)
  obtain ⟨o1, o2, o3⟩ := otherOf a0 a1 r0 r1
  have p0 : 0 ≤ c / ((n : Int) * ((n : Int) - 1)) % top := Int.emod_nonneg _ (by omega)
  have p1 : c / ((n : Int) * ((n : Int) - 1)) % top < top := Int.emod_lt_of_pos _ (by omega)
  refine ⟨?_, ?_, ?_, ?_, ?_⟩
  · show (c % (n : Int)).toNat < n
    omega
  · show ((c % (n : Int) + 1 + c / (n : Int) % ((n : Int) - 1)) % (n : Int)).toNat < n
    omega
  · show (c % (n : Int)).toNat ≠ ((c % (n : Int) + 1 + c / (n : Int) % ((n : Int) - 1)) % (n : Int)).toNat
    omega
  · show 1 ≤ 1 + c / ((n : Int) * ((n : Int) - 1)) % top
    omega
  · show 1 + c / ((n : Int) * ((n : Int) - 1)) % top ≤ 1000000000
    omega
theorem eu_is {te : TE} {σ : L2.St} {H : Hp} {xs ys : List V} (h : EvU te σ H xs) (e : xs = ys) : EvU te σ H ys := by
  rw [← e]
  exact h
def cellA (ns : List Int) (k : Nat) : Int := ns.getD k 0

/-! ### what stands while a list changes -/
theorem sqt_updL {K : PySem.W.Frag} {H : Hp} {a l : Addr} {xs ys zs : List V} (h : SqT K H a ys) (hl : H l = some (.lst xs)) : SqT K (upd H l (.lst zs)) a ys := by
  rcases h with (h | ⟨o, h⟩) | h
  · exact .inl (.inl (by rw [upd_ne (ne_of h hl (by intro q; cases q))]; exact h))
  · exact .inl (.inr ⟨o, by rw [upd_ne (ne_of h hl (by intro q; cases q))]; exact h⟩)
  · exact .inr h
theorem TieV.updL {K : PySem.W.Frag} {H : Hp} {l : Addr} {xs zs : List V} {v : V} {t : Tie} (h : TieV K H v t) (hl : H l = some (.lst xs)) : TieV K (upd H l (.lst zs)) v t := by
  obtain ⟨a, rfl, h⟩ := h
  exact ⟨a, rfl, sqt_updL h hl⟩
theorem TiesV.updL {K : PySem.W.Frag} {H : Hp} {l : Addr} {xs zs vs : List V} {ts : List Tie} (h : TiesV K H vs ts) (hl : H l = some (.lst xs)) : TiesV K (upd H l (.lst zs)) vs ts := ⟨h.len, fun i v t a b => (h.at_ i v t a b).updL hl⟩
def tri : Nat → Nat
  | 0 => 0
  | i + 1 => tri i + i
theorem tri24 : ∀ n, n < 25 → tri n ≤ 276 := by decide
theorem tri20 : ∀ n, n < 21 → tri n ≤ 190 := by decide
def topOf (c : Int) : Int := if c % 3 = 0 then 3 else if c % 3 = 1 then 20 else 1000000000
theorem topOf_at (c : Int) : atI [V.int 3, V.int 20, V.int 1000000000] (c % 3) = some (.int (topOf c)) := by
  have h0 : 0 ≤ c % 3 := Int.emod_nonneg _ (by decide)
  have h1 : c % 3 < 3 := Int.emod_lt_of_pos _ (by decide)
  unfold topOf
  by_cases e0 : c % 3 = 0
  · rw [if_pos e0]
    exact at_of (j := 0) (by omega) rfl
  · rw [if_neg e0]
    by_cases e1 : c % 3 = 1
    · rw [if_pos e1]
      exact at_of (j := 1) (by omega) rfl
    · rw [if_neg e1]
      exact at_of (j := 2) (by omega) rfl
theorem topOf_b (c : Int) : 1 ≤ topOf c ∧ topOf c ≤ 1000000000 := by
  unfold topOf
  split
  · omega
  · split <;> omega
/-- an item of a display -/
theorem ev_pick {K : PySem.W.Frag} {σ : L2.St} {H : Hp} {ta : TA} {tb : TE} {vs : List V} {i : Int} {v : V} (ha : EvA ta σ H vs) (hl : vs.length ≤ 100000) (hb : Ev tb σ H (.int i)) (h : atI vs i = some v) : Ev (tOp (rIxL K) (tLst ta) tb) σ H v :=
  ev_opL1 (el_lst ha hl) (fun H1 e => hb.mono e) (fun p H1 h1 _ => rv_ixL (sq_of h1) h)
theorem cutV_len (xs : List V) (lo hi : Nat) : (cutV xs (some (lo : Int)) (some (hi : Int))).length ≤ hi - lo := by
  unfold cutV
  rw [HT.sIx_nat, HT.sIx_nat, List.length_take, List.length_drop]
  omega
theorem cutV_lenN (xs : List V) (hi : Nat) : (cutV xs none (some (hi : Int))).length ≤ hi := by
  unfold cutV
  rw [HT.sIx_nat, HT.sIx_none, List.length_take, List.length_drop]
  omega
/-- the first ties of a list of ties -/
theorem TiesV.cut {K : PySem.W.Frag} {H : Hp} {vs : List V} {ts : List Tie} (h : TiesV K H vs ts) (hi : Nat) : TiesV K H (cutV vs none (some (hi : Int))) (ts.take hi) := by
  have e : cutV vs none (some (hi : Int)) = vs.take hi := by
    unfold cutV
    rw [HT.sIx_nat, HT.sIx_none, List.drop_zero, Nat.sub_zero, ← List.take_take, List.take_length]
  rw [e]
  refine ⟨by rw [List.length_take, List.length_take, h.len], fun i v t a b => ?_⟩
  rw [List.getElem?_take] at a b
  split at a
  · rename_i hlt
    rw [if_pos hlt] at b
    exact h.at_ i v t a b
  · cases a

section
variable {K : PySem.W.Frag} {σ : L2.St} {H H0 : Hp} {ta tb te : TE} {D : Ends} {tz : TS}
/-- f(..).append(e): the list is new, and gone -/
theorem q_appNew {xs : List V} {v : V} (h : EvL te σ H xs) (hv : Ev ta σ H v) (hz : xs.length < 100000) (k : ∀ H1, Ex H H1 → tz D σ H1) : tSeq (tDrop (tBM K "list" rAppend te (tCons ta tNil))) tz D σ H := h H (Ex.refl H) _ fun p H1 hp e1 h1 =>
  ⟨Or.inl ⟨rfl, xs, sq_of h1⟩, hv H1 e1 _ fun H2 e2 => ⟨p, xs, v, rfl, rfl, e2 _ _ h1, sz_lt hz, k _ ((e1.trans e2).mut hp)⟩⟩
theorem ints_at {ns : List Int} {i : Nat} {x : V} (h : (ns.map V.int)[i]? = some x) : ∃ n, ns[i]? = some n ∧ x = .int n := by
  rw [List.getElem?_map] at h
  cases e : ns[i]? with
  | none => rw [e] at h; cases h
  | some c =>
    rw [e] at h
    exact ⟨c, rfl, (Option.some.inj h).symm⟩
theorem dp_IL {K : PySem.W.Frag} {H : Hp} {a : Addr} {ns : List Nat} (h : SqL K H a (IL ns)) : Dp K H (.ref a) (.list (pds (ns.map fun (k : Nat) => (k : Int)))) := .lst h (by rw [IL_eq]; exact dp_ints _)
/-- what a side costs -/
def cutP (ts : List Tie) (ns : List Nat) : Int := (ts.map fun t => if (decide (t.1 ∈ ns) != decide (t.2.1 ∈ ns)) = true then t.2.2 else 0).sum
theorem cutP_mem {ts : List Tie} {ns ms : List Nat} (h : ∀ t ∈ ts, (t.1 ∈ ns ↔ t.1 ∈ ms) ∧ (t.2.1 ∈ ns ↔ t.2.1 ∈ ms)) : cutP ts ns = cutP ts ms := by
  unfold cutP
  congr 1
  refine List.map_congr_left fun t ht => ?_
  obtain ⟨a, b⟩ := h t ht
  rw [decide_eq_decide.mpr a, decide_eq_decide.mpr b]
end
theorem sum_filter {α : Type} (d : α) (p : α → Bool) (g : α → Int) (xs : List α) : (((List.range xs.length).filter fun i => p (xs.getD i d)).map fun i => g (xs.getD i d)).sum = (xs.map fun x => if p x = true then g x else 0).sum := by
  have e : ((List.range xs.length).filter fun i => p (xs.getD i d)).map (fun i => g (xs.getD i d)) = (xs.filter p).map g := by
    have e1 : xs = (List.range xs.length).map fun i => xs.getD i d := by
      have := range_getD (fun x : α => x) xs d
      rw [List.map_id'] at this
      exact this.symm
    conv => rhs; rw [e1]
    rw [List.filter_map, List.map_map]
    rfl
  rw [e]
  induction xs with
  | nil => rfl
  | cons x xs ih =>
    have e1 : (((List.range xs.length).filter fun i => p (xs.getD i d)).map fun i => g (xs.getD i d)) = (xs.filter p).map g := by
      have e1 : xs = (List.range xs.length).map fun i => xs.getD i d := by
        have := range_getD (fun x : α => x) xs d
        rw [List.map_id'] at this
        exact this.symm
      conv => rhs; rw [e1]
      rw [List.filter_map, List.map_map]
      rfl
    have ih := ih e1
    by_cases h : p x = true
    · rw [List.filter_cons, if_pos h, List.map_cons, List.map_cons, List.sum_cons, List.sum_cons, if_pos h, ih]
    · rw [List.filter_cons, if_neg h, List.map_cons, List.sum_cons, if_neg h, ih, Int.zero_add]
theorem given_ints {n : Nat} {f : Nat → Bool} {w : Nat → Int} : given n f (fun i => .int (w i)) = ((((List.range n).filter f).map w).map V.int) := by
  unfold given
  rw [List.map_map]
  rfl

theorem p_asgR {te : TE} {σ : L2.St} {H0 H : Hp} {D : Ends} {tz : TS} {i : Nat} {R0 : Hp → V → Hp → Prop} (e : Ex H0 H) (h : EvR te σ H0 R0) (k : ∀ v H1, Ex H0 H1 → Ex H H1 → R0 H v H1 → tz D (σ.set i (some v)) H1) : tSeq (tAsg te (gName i)) tz D σ H := h H e _ fun v H1 e1 r => k v H1 (e.trans e1) e1 r
theorem p_dropR {te : TE} {σ : L2.St} {H0 H : Hp} {D : Ends} {tz : TS} {R0 : Hp → V → Hp → Prop} (e : Ex H0 H) (h : EvR te σ H0 R0) (k : ∀ v H1, Ex H0 H1 → Ex H H1 → R0 H v H1 → tz D σ H1) : tSeq (tDrop te) tz D σ H := h H e _ fun v H1 e1 r => k v H1 (e.trans e1) e1 r
/-- x.append(e), x any value that is known by a relation to be a new list -/
theorem q_appR {K : PySem.W.Frag} {σ : L2.St} {H : Hp} {ta te : TE} {D : Ends} {tz : TS} {v : V} {R0 : Hp → V → Hp → Prop} (h : EvR te σ H R0) (hr : ∀ H1 x H2, R0 H1 x H2 → ∃ p xs, x = .ref p ∧ H1 p = none ∧ H2 p = some (.lst xs) ∧ xs.length < 100000) (hv : Ev ta σ H v) (k : ∀ H1, Ex H H1 → tz D σ H1) :
    tSeq (tDrop (tBM K "list" rAppend te (tCons ta tNil))) tz D σ H := h H (Ex.refl H) _ fun x H1 e1 r => by
  obtain ⟨p, xs, rfl, hp, h1, hz⟩ := hr _ _ _ r
  exact ⟨Or.inl ⟨rfl, xs, sq_of h1⟩, hv H1 e1 _ fun H2 e2 => ⟨p, xs, v, rfl, rfl, e2 _ _ h1, sz_lt hz, k _ ((e1.trans e2).mut hp)⟩⟩
/-- x.reverse() -/
theorem q_rev {K : PySem.W.Frag} {σ : L2.St} {H : Hp} {ta : TE} {D : Ends} {l : Addr} {xs : List V} (hl : H l = some (.lst xs)) (ha : Ev ta σ H (.ref l)) (k : ∀ H1, Ex H H1 → D.nx σ (upd H1 l (.lst xs.reverse))) :
    tDrop (tBM0 K "list" rReverse ta) D σ H := ha H (Ex.refl H) _ fun H1 e1 => ⟨Or.inl ⟨rfl, xs, sq_of (e1 _ _ hl)⟩, l, xs, rfl, rfl, e1 _ _ hl, k H1 e1⟩

/-- an if whose ways meet in Fin -/
theorem p_whenK {σ : L2.St} {H0 H : Hp} {t : TT} {D : Ends} {tu tz : TS} {b : Bool} (Fin : L2.St → Hp → Prop) (e : Ex H0 H) (h : EvT t σ H0 b) (h1 : b = true → ∀ H1, Ex H0 H1 → Ex H H1 → (∀ σ' H', Fin σ' H' → tz D σ' H') → tu { D with nx := tz D } σ H1) (h2 : b = false → ∀ H1, Ex H0 H1 → Ex H H1 → Fin σ H1) (k : ∀ σ' H', Fin σ' H' → tz D σ' H') : tSeq (tIfS t tu tNext) tz D σ H :=
  p_when e h (fun hb H1 a b => h1 hb H1 a b k) fun hb H1 a b => k _ _ (h2 hb H1 a b)

section
variable {K : PySem.W.Frag} {σ : L2.St} {H : Hp} {te : TE}
theorem ev_sumL {ns : List Int} (h : EvL te σ H (ns.map V.int)) : Ev (tCB (rSum K) (tCons te tNil)) σ H (.int ns.sum) := fun H1 e Q q => h H1 e _ fun p H2 hp e2 h2 => ⟨p, ns, rfl, sq_of h2, q H2 e2⟩
theorem nodup_rev {ns : List Nat} (h : ns.Nodup) : ns.reverse.Nodup := by
  unfold List.Nodup at h ⊢
  rw [List.pairwise_reverse]
  exact h.imp Ne.symm
/-- sum([t[2] for t in ties if (t[0] in side) != (t[1] in side)]) -/
theorem ev_cut {p j s : Nat} {l sd : Addr} {xs : List V} {ts : List Tie} {ns : List Nat} (hp : σ[p]? = some (some (.ref l))) (hl : SqL K H l xs) (tz : TiesV K H xs ts) (hsd : SqL K H sd (IL ns)) (hz : ts.length ≤ 40000)
    (hj : ∀ x, ((wipe σ [j]).set j (some x))[j]? = some (some x)) (hs : ∀ x, ((wipe σ [j]).set j (some x))[s]? = some (some (.ref sd))) (hw : ∀ x, wipe ((wipe σ [j]).set j (some x)) [j] = wipe σ [j]) :
    Ev (tCB (rSum K) (tCons (tLc (iList K (tVar p)) (gName j) (tTest (tOp rNe (tOp (rIn K false) (tOp (rIxT K) (tVar j) (tC (.int 0))) (tVar s)) (tOp (rIn K false) (tOp (rIxT K) (tVar j) (tC (.int 1))) (tVar s)))) (tOp (rIxT K) (tVar j) (tC (.int 2))) [j]) tNil)) σ H (.int (cutP ts ns)) := by
  have key := sum_filter ((0, 0, 0) : Tie) (fun t => decide (t.1 ∈ ns) != decide (t.2.1 ∈ ns)) (fun t => t.2.2) ts
  have e0 : cutP ts ns = (((List.range ts.length).filter fun i => decide ((ts.getD i (0, 0, 0)).1 ∈ ns) != decide ((ts.getD i (0, 0, 0)).2.1 ∈ ns)).map fun i => (ts.getD i (0, 0, 0)).2.2).sum := key.symm
  rw [e0]
  refine ev_sumL ?_
  rw [← given_ints, ← tz.len]
  refine el_lcL (f := fun i => decide ((ts.getD i (0, 0, 0)).1 ∈ ns) != decide ((ts.getD i (0, 0, 0)).2.1 ∈ ns)) (v := fun i => .int (ts.getD i (0, 0, 0)).2.2) (ev_var hp) hl (by rw [tz.len]; exact hz) hw (fun i x H1 e hx => ?_) (fun i x H1 e hx _ => ?_)
  · obtain ⟨t, a, ht, rfl, ha⟩ := tz.get hx
    have et : ts.getD i (0, 0, 0) = t := by simp [List.getD, ht]
    rw [et]
    have ha1 := ex_t e ha
    exact et_is (et_test (ev_op (ev_inIL (ev_t0 (ev_var (hj _)) ha1) (ev_var (hs _)) (ex_l e hsd)) (ev_inIL (ev_t1 (ev_var (hj _)) ha1) (ev_var (hs _)) (ex_l e hsd)) (rv_ne rfl))) bl_ne
  · obtain ⟨t, a, ht, rfl, ha⟩ := tz.get hx
    have et : ts.getD i (0, 0, 0) = t := by simp [List.getD, ht]
    rw [et]
    exact ev_t2 (ev_var (hj _)) (ex_t e ha)
theorem sh_two (a b : List Int) : SeqAt.shaped (.list [.list (pds a), .list (pds b)]) = true := by
  unfold SeqAt.shaped
  have h1 : PyData.canLay0 (.list [.list (pds a), .list (pds b)]) = true := by
    show (PyData.canLayAll0 (pds a) && (PyData.canLayAll0 (pds b) && true)) = true
    rw [pds_lay, pds_lay]
    rfl
  have h2 : PyData.depth (.list [.list (pds a), .list (pds b)]) = 2 := by
    show max (PyData.depthAll (pds a) + 1) (max (PyData.depthAll (pds b) + 1) 0) + 1 = 2
    rw [pds_depth, pds_depth]
    rfl
  rw [h1, h2]
  rfl
end
end G

namespace Toy
open PySem L2 Evl RZ G
def top (i : Nat) : Stmt := PySem.Challenge.pw_onewalls_k01_ties_and_prices.main.body.getD i (.Pass ⟨0, 0, 0, 0⟩)
abbrev s_is_whole : Stmt := top 9
abbrev s_is_place : Stmt := top 10
abbrev s_is_tie : Stmt := top 11
abbrev s_check_net : Stmt := top 12
abbrev s_check_place : Stmt := top 13
abbrev s_check_two : Stmt := top 14
abbrev s_check_side : Stmt := top 15
abbrev s_costs_between : Stmt := top 16
abbrev s_Net_init : Stmt := inClass (top 17) 0
abbrev s_Net_ties : Stmt := inClass (top 17) 1
abbrev s_Net_between : Stmt := inClass (top 17) 2
abbrev s_Net_beside : Stmt := inClass (top 17) 3
abbrev s_Net_price : Stmt := inClass (top 17) 4
abbrev s__law_cell_at : Stmt := top 19
abbrev s__law_whole : Stmt := top 20
abbrev s__law_many : Stmt := top 21
abbrev s__law_tie : Stmt := top 22
abbrev s__law_ties : Stmt := top 23
abbrev s__law_due : Stmt := top 24
abbrev s__law_same_ties : Stmt := top 25
abbrev s__law_around_right : Stmt := top 26
abbrev s_law : Stmt := top 27
theorem sc_is_whole : FnScope ["number", "low", "high"] ["number", "low", "high"] (defScope s_is_whole) := ⟨rfl, rfl, rfl, by decide +kernel, rfl, by decide +kernel, by decide +kernel⟩
theorem sc_is_place : FnScope ["many", "place"] ["many", "place"] (defScope s_is_place) := ⟨rfl, rfl, rfl, by decide +kernel, rfl, by decide +kernel, by decide +kernel⟩
theorem sc_is_tie : FnScope ["many", "tie", "one", "other", "cost"] ["many", "tie"] (defScope s_is_tie) := ⟨rfl, rfl, rfl, by decide +kernel, rfl, by decide +kernel, by decide +kernel⟩
theorem sc_check_net : FnScope ["many", "ties", "tie"] ["many", "ties"] (defScope s_check_net) := ⟨rfl, rfl, rfl, by decide +kernel, rfl, by decide +kernel, by decide +kernel⟩
theorem sc_check_place : FnScope ["many", "place"] ["many", "place"] (defScope s_check_place) := ⟨rfl, rfl, rfl, by decide +kernel, rfl, by decide +kernel, by decide +kernel⟩
theorem sc_check_two : FnScope ["many", "one", "other"] ["many", "one", "other"] (defScope s_check_two) := ⟨rfl, rfl, rfl, by decide +kernel, rfl, by decide +kernel, by decide +kernel⟩
theorem sc_check_side : FnScope ["many", "side", "place"] ["many", "side"] (defScope s_check_side) := ⟨rfl, rfl, rfl, by decide +kernel, rfl, by decide +kernel, by decide +kernel⟩
theorem sc_costs_between : FnScope ["many", "ties", "costs", "place", "one", "other", "cost"] ["many", "ties"] (defScope s_costs_between) := ⟨rfl, rfl, rfl, by decide +kernel, rfl, by decide +kernel, by decide +kernel⟩
theorem sc_Net_init : FnScope ["self", "many", "ties"] ["self", "many", "ties"] (defScope s_Net_init) := ⟨rfl, rfl, rfl, by decide +kernel, rfl, by decide +kernel, by decide +kernel⟩
theorem sc_Net_ties : FnScope ["self"] ["self"] (defScope s_Net_ties) := ⟨rfl, rfl, rfl, by decide +kernel, rfl, by decide +kernel, by decide +kernel⟩
theorem sc_Net_between : FnScope ["self", "one", "other"] ["self", "one", "other"] (defScope s_Net_between) := ⟨rfl, rfl, rfl, by decide +kernel, rfl, by decide +kernel, by decide +kernel⟩
theorem sc_Net_beside : FnScope ["self", "place", "costs", "other"] ["self", "place"] (defScope s_Net_beside) := ⟨rfl, rfl, rfl, by decide +kernel, rfl, by decide +kernel, by decide +kernel⟩
theorem sc_Net_price : FnScope ["self", "side", "total", "one", "other", "cost"] ["self", "side"] (defScope s_Net_price) := ⟨rfl, rfl, rfl, by decide +kernel, rfl, by decide +kernel, by decide +kernel⟩
theorem sc__law_cell_at : FnScope ["_law_script", "_law_k"] ["_law_script", "_law_k"] (defScope s__law_cell_at) := ⟨rfl, rfl, rfl, by decide +kernel, rfl, by decide +kernel, by decide +kernel⟩
theorem sc__law_whole : FnScope ["_law_found"] ["_law_found"] (defScope s__law_whole) := ⟨rfl, rfl, rfl, by decide +kernel, rfl, by decide +kernel, by decide +kernel⟩
theorem sc__law_many : FnScope ["_law_script", "_law_first"] ["_law_script"] (defScope s__law_many) := ⟨rfl, rfl, rfl, by decide +kernel, rfl, by decide +kernel, by decide +kernel⟩
theorem sc__law_tie : FnScope ["_law_cell", "_law_many_here", "_law_top", "_law_one", "_law_other"] ["_law_cell", "_law_many_here", "_law_top"] (defScope s__law_tie) := ⟨rfl, rfl, rfl, by decide +kernel, rfl, by decide +kernel, by decide +kernel⟩
theorem sc__law_ties : FnScope ["_law_script", "_law_many_here", "_law_top", "_law_ties_here", "_law_cell", "_law_one", "_law_other"] ["_law_script", "_law_many_here"] (defScope s__law_ties) := ⟨rfl, rfl, rfl, by decide +kernel, rfl, by decide +kernel, by decide +kernel⟩
theorem sc__law_due : FnScope ["_law_ties_here", "_law_one", "_law_other", "_law_total", "_law_tie_here"] ["_law_ties_here", "_law_one", "_law_other"] (defScope s__law_due) := ⟨rfl, rfl, rfl, by decide +kernel, rfl, by decide +kernel, by decide +kernel⟩
theorem sc__law_same_ties : FnScope ["_law_found", "_law_ties_here", "_law_one", "_law_tie_here"] ["_law_found", "_law_ties_here"] (defScope s__law_same_ties) := ⟨rfl, rfl, rfl, by decide +kernel, rfl, by decide +kernel, by decide +kernel⟩
theorem sc__law_around_right : FnScope ["_law_net", "_law_ties_here", "_law_many_here", "_law_place", "_law_due_here", "_law_other", "_law_price", "_law_found"] ["_law_net", "_law_ties_here", "_law_many_here", "_law_place"] (defScope s__law_around_right) := ⟨rfl, rfl, rfl, by decide +kernel, rfl, by decide +kernel, by decide +kernel⟩
theorem sc_law : FnScope ["_law_script", "_law_many_here", "_law_ties_here", "_law_handed", "_law_net", "_law_given", "_law_place", "_law_mark", "_law_side", "_law_rest", "_law_due_here", "_law_tie_here", "_law_kept", "_law_found", "_law_price"] ["_law_script"] (defScope s_law) := ⟨rfl, rfl, rfl, by decide +kernel, rfl, by decide +kernel, by decide +kernel⟩
structure Wd (K : PySem.W.Frag) (mg : Str → Option Value) where
  f_is_whole : Addr
  d_is_whole : FuncData
  F_is_whole : Fun K "is_whole" "is_whole" s_is_whole f_is_whole d_is_whole
  b_is_whole : Binds K d_is_whole ["number", "low", "high"] []
  m_is_whole : mg "is_whole" = some (.ref f_is_whole)
  f_is_place : Addr
  d_is_place : FuncData
  F_is_place : Fun K "is_place" "is_place" s_is_place f_is_place d_is_place
  b_is_place : Binds K d_is_place ["many", "place"] []
  m_is_place : mg "is_place" = some (.ref f_is_place)
  f_is_tie : Addr
  d_is_tie : FuncData
  F_is_tie : Fun K "is_tie" "is_tie" s_is_tie f_is_tie d_is_tie
  b_is_tie : Binds K d_is_tie ["many", "tie"] []
  m_is_tie : mg "is_tie" = some (.ref f_is_tie)
  f_check_net : Addr
  d_check_net : FuncData
  F_check_net : Fun K "check_net" "check_net" s_check_net f_check_net d_check_net
  b_check_net : Binds K d_check_net ["many", "ties"] []
  m_check_net : mg "check_net" = some (.ref f_check_net)
  f_check_place : Addr
  d_check_place : FuncData
  F_check_place : Fun K "check_place" "check_place" s_check_place f_check_place d_check_place
  b_check_place : Binds K d_check_place ["many", "place"] []
  m_check_place : mg "check_place" = some (.ref f_check_place)
  f_check_two : Addr
  d_check_two : FuncData
  F_check_two : Fun K "check_two" "check_two" s_check_two f_check_two d_check_two
  b_check_two : Binds K d_check_two ["many", "one", "other"] []
  m_check_two : mg "check_two" = some (.ref f_check_two)
  f_check_side : Addr
  d_check_side : FuncData
  F_check_side : Fun K "check_side" "check_side" s_check_side f_check_side d_check_side
  b_check_side : Binds K d_check_side ["many", "side"] []
  m_check_side : mg "check_side" = some (.ref f_check_side)
  f_costs_between : Addr
  d_costs_between : FuncData
  F_costs_between : Fun K "costs_between" "costs_between" s_costs_between f_costs_between d_costs_between
  b_costs_between : Binds K d_costs_between ["many", "ties"] []
  m_costs_between : mg "costs_between" = some (.ref f_costs_between)
  f_Net_init : Addr
  d_Net_init : FuncData
  F_Net_init : Fun K "__init__" "Net.__init__" s_Net_init f_Net_init d_Net_init
  b_Net_init : Binds K d_Net_init ["self", "many", "ties"] []
  f_Net_ties : Addr
  d_Net_ties : FuncData
  F_Net_ties : Fun K "ties" "Net.ties" s_Net_ties f_Net_ties d_Net_ties
  b_Net_ties : Binds K d_Net_ties ["self"] []
  f_Net_between : Addr
  d_Net_between : FuncData
  F_Net_between : Fun K "between" "Net.between" s_Net_between f_Net_between d_Net_between
  b_Net_between : Binds K d_Net_between ["self", "one", "other"] []
  f_Net_beside : Addr
  d_Net_beside : FuncData
  F_Net_beside : Fun K "beside" "Net.beside" s_Net_beside f_Net_beside d_Net_beside
  b_Net_beside : Binds K d_Net_beside ["self", "place"] []
  f_Net_price : Addr
  d_Net_price : FuncData
  F_Net_price : Fun K "price" "Net.price" s_Net_price f_Net_price d_Net_price
  b_Net_price : Binds K d_Net_price ["self", "side"] []
  f__law_cell_at : Addr
  d__law_cell_at : FuncData
  F__law_cell_at : Fun K "_law_cell_at" "_law_cell_at" s__law_cell_at f__law_cell_at d__law_cell_at
  b__law_cell_at : Binds K d__law_cell_at ["_law_script", "_law_k"] []
  m__law_cell_at : mg "_law_cell_at" = some (.ref f__law_cell_at)
  f__law_whole : Addr
  d__law_whole : FuncData
  F__law_whole : Fun K "_law_whole" "_law_whole" s__law_whole f__law_whole d__law_whole
  b__law_whole : Binds K d__law_whole ["_law_found"] []
  m__law_whole : mg "_law_whole" = some (.ref f__law_whole)
  f__law_many : Addr
  d__law_many : FuncData
  F__law_many : Fun K "_law_many" "_law_many" s__law_many f__law_many d__law_many
  b__law_many : Binds K d__law_many ["_law_script"] []
  m__law_many : mg "_law_many" = some (.ref f__law_many)
  f__law_tie : Addr
  d__law_tie : FuncData
  F__law_tie : Fun K "_law_tie" "_law_tie" s__law_tie f__law_tie d__law_tie
  b__law_tie : Binds K d__law_tie ["_law_cell", "_law_many_here", "_law_top"] []
  m__law_tie : mg "_law_tie" = some (.ref f__law_tie)
  f__law_ties : Addr
  d__law_ties : FuncData
  F__law_ties : Fun K "_law_ties" "_law_ties" s__law_ties f__law_ties d__law_ties
  b__law_ties : Binds K d__law_ties ["_law_script", "_law_many_here"] []
  m__law_ties : mg "_law_ties" = some (.ref f__law_ties)
  f__law_due : Addr
  d__law_due : FuncData
  F__law_due : Fun K "_law_due" "_law_due" s__law_due f__law_due d__law_due
  b__law_due : Binds K d__law_due ["_law_ties_here", "_law_one", "_law_other"] []
  m__law_due : mg "_law_due" = some (.ref f__law_due)
  f__law_same_ties : Addr
  d__law_same_ties : FuncData
  F__law_same_ties : Fun K "_law_same_ties" "_law_same_ties" s__law_same_ties f__law_same_ties d__law_same_ties
  b__law_same_ties : Binds K d__law_same_ties ["_law_found", "_law_ties_here"] []
  m__law_same_ties : mg "_law_same_ties" = some (.ref f__law_same_ties)
  f__law_around_right : Addr
  d__law_around_right : FuncData
  F__law_around_right : Fun K "_law_around_right" "_law_around_right" s__law_around_right f__law_around_right d__law_around_right
  b__law_around_right : Binds K d__law_around_right ["_law_net", "_law_ties_here", "_law_many_here", "_law_place"] []
  m__law_around_right : mg "_law_around_right" = some (.ref f__law_around_right)
  C_Net : Addr
  cl_Net : Cls K C_Net
  m_Net : mg "Net" = some (.ref C_Net)
  kc_Net : PySem.W.keepIn K (.ref C_Net) = true
  ci_Net : PySem.W.makesIn K C_Net = true
  na_Net__costs : NoAttr K C_Net "_costs"
  na_Net__ties : NoAttr K C_Net "_ties"
  na_Net_many : NoAttr K C_Net "many"
  MK_Net : Mk K C_Net f_Net_init
  mt_Net_ties : Meth K C_Net "ties" f_Net_ties
  mt_Net_between : Meth K C_Net "between" f_Net_between
  mt_Net_beside : Meth K C_Net "beside" f_Net_beside
  mt_Net_price : Meth K C_Net "price" f_Net_price
  t_MOST_PLACES : Tok
  c_MOST_PLACES : mg "MOST_PLACES" = some (.int 24 t_MOST_PLACES)
  t_MOST_TIES : Tok
  c_MOST_TIES : mg "MOST_TIES" = some (.int 300 t_MOST_TIES)
  t_TOP_PRICE : Tok
  c_TOP_PRICE : mg "TOP_PRICE" = some (.int 1000000000 t_TOP_PRICE)
  n_bool : mg "bool" = none
  n_int : mg "int" = none
  n_isinstance : mg "isinstance" = none
  n_len : mg "len" = none
  n_list : mg "list" = none
  n_range : mg "range" = none
  n_set : mg "set" = none
  n_sum : mg "sum" = none
  n_tuple : mg "tuple" = none
  n_type : mg "type" = none
  n_zip : mg "zip" = none
section
variable {P : Program} {w : World} {K : PySem.W.Frag} {mg : Str → Option Value} {base : Heap}
/-! ### the program's defs -/
def sp_is_whole : Sp := fun vs H Q _ => ∃ n lo hi : Int, vs = [.int n, .int lo, .int hi] ∧ RetV (.bl (decide (lo ≤ n ∧ n ≤ hi))) H Q
theorem sv_is_whole {n lo hi : Int} {H : Hp} : SpV sp_is_whole [.int n, .int lo, .int hi] H (.bl (decide (lo ≤ n ∧ n ≤ hi))) := fun H1 _ Q q E => ⟨n, lo, hi, rfl, q⟩
theorem ok_is_whole (T : Wd K mg) : FnOk P w K mg base CX0 1 T.f_is_whole T.d_is_whole ["number", "low", "high"] (sp_is_whole) := by
  refine T.F_is_whole.ok sc_is_whole (fun vs H Q E h => ?_) (fun cdv A outer s H vs Q E hr h => ?_)
  · obtain ⟨n, lo, hi, rfl, _⟩ := h
    rfl
  · obtain ⟨n, lo, hi, rfl, k⟩ := h
    refine ⟨_, (pss_one (ps_ret (pe_and (pe_cmpR G.op_eqTy (pe_callTy call_type1 (by rfl) T.n_type (by decide +kernel) (pa_cons (pv 0) pa_nil)) (pe_bltn (v := .ty "int") (by rfl) T.n_int (by decide +kernel) rfl) (nomark _)) (pe_one (pe_chain op_le op_le (pv 1) (pv 0) (pv 2)))))), ?_⟩
    refine p_ret (Ex.refl H) (ev_is (ev_andV (a := true) (ev_op (ev_type (ev_var rfl) (.int n)) ev_c (rv_tyEq t8int t8int)) (fun _ => ev_chain (ev_var rfl) (ev_var rfl) rv_I0 (fun _ => ev_var rfl) (fun _ => rv_I0))) ?_) k
    simp [Bool.decide_and]
def sp_is_place : Sp := fun vs H Q _ => ∃ n p : Int, vs = [.int n, .int p] ∧ RetV (.bl (decide (0 ≤ p ∧ p < n))) H Q
theorem sv_is_place {n p : Int} {H : Hp} : SpV sp_is_place [.int n, .int p] H (.bl (decide (0 ≤ p ∧ p < n))) := fun H1 _ Q q E => ⟨n, p, rfl, q⟩
theorem ok_is_place (T : Wd K mg) : FnOk P w K mg base CX0 2 T.f_is_place T.d_is_place ["many", "place"] (sp_is_place) := by
  have G_is_whole := ok_is_whole (P := P) (w := w) (base := base) T
  refine T.F_is_place.ok sc_is_place (fun vs H Q E h => ?_) (fun cdv A outer s H vs Q E hr h => ?_)
  · obtain ⟨n, p, rfl, _⟩ := h
    rfl
  · obtain ⟨n, p, rfl, k⟩ := h
    refine ⟨_, (pss_one (ps_ret (pe_call G_is_whole (hr.mono (by decide)) (by rfl) T.m_is_whole T.F_is_whole.kp T.b_is_whole .nil pass0 (pa_cons (pv 1) (pa_cons pe_int (pa_cons (pe_op op_sub (pv 0) pe_int) pa_nil)))))), ?_⟩
    refine p_ret (Ex.refl H) (ev_is (ev_call (ea_cons (ev_var rfl) (ea_cons ev_c (ea_cons (ev_op (ev_var rfl) ev_c rv_I0) ea_nil))) sv_is_whole) ?_) k
    congr 2
    exact propext ⟨fun ⟨a, b⟩ => ⟨a, by omega⟩, fun ⟨a, b⟩ => ⟨a, by omega⟩⟩
def sp_is_tie (K : PySem.W.Frag) : Sp := fun vs H Q _ => ∃ (n : Nat) (a : Addr) (t : Tie), vs = [.int n, .ref a] ∧ SqT K H a (tv t) ∧ Good n t ∧ RetV (.bl true) H Q
theorem sv_is_tie {n : Nat} {a : Addr} {t : Tie} {H : Hp} (ht : SqT K H a (tv t)) (g : Good n t) : SpV (sp_is_tie K) [.int n, .ref a] H (.bl true) := fun H1 e Q q E => ⟨n, a, t, rfl, ex_t e ht, g, q⟩
theorem ok_is_tie (T : Wd K mg) : FnOk P w K mg base CX0 3 T.f_is_tie T.d_is_tie ["many", "tie"] (sp_is_tie K) := by
  have G_is_whole := ok_is_whole (P := P) (w := w) (base := base) T
  have G_is_place := ok_is_place (P := P) (w := w) (base := base) T
  refine T.F_is_tie.ok sc_is_tie (fun vs H Q E h => ?_) (fun cdv A outer s H vs Q E hr h => ?_)
  · obtain ⟨n, a, t, rfl, _⟩ := h
    rfl
  · obtain ⟨n, a, t, rfl, ht, g, k⟩ := h
    have g1 := g.one
    have g2 := g.two
    have g3 := g.ne
    have g4 := g.lo
    have g5 := g.hi
    refine ⟨_, (pss_cons (ps_if (PW.pt (pw_or (pt_cmpR G.op_neTy (pe_callTy call_type1 (by rfl) T.n_type (by decide +kernel) (pa_cons (pv 1) pa_nil)) (pe_bltn (v := .ty "tuple") (by rfl) T.n_tuple (by decide +kernel) rfl) (nomark _)) (pw_or1 (pt_cmpR op_ne (pe_callB call_len_seq (by rfl) T.n_len (by decide +kernel) (pa_cons (pv 1) pa_nil)) pe_int (nomark _))))) (pss_one (ps_ret pe_bl)) pss_nil) (pss_cons (ps_asg (pv 1) (pg_tup (by rfl) (pgs_cons (pg_name (i := 2) sc_is_tie.nd rfl (Or.inl rfl)) (pgs_cons (pg_name (i := 3) sc_is_tie.nd rfl (Or.inl rfl)) (pgs_cons (pg_name (i := 4) sc_is_tie.nd rfl (Or.inl rfl)) pgs_nil))))) (pss_cons (ps_if (PW.pt (pw_or (pt_not (pt_val (pe_call G_is_place (hr.mono (by decide)) (by rfl) T.m_is_place T.F_is_place.kp T.b_is_place .nil pass0 (pa_cons (pv 0) (pa_cons (pv 2) pa_nil))))) (pw_or1 (pt_not (pt_val (pe_call G_is_place (hr.mono (by decide)) (by rfl) T.m_is_place T.F_is_place.kp T.b_is_place .nil pass0 (pa_cons (pv 0) (pa_cons (pv 3) pa_nil)))))))) (pss_one (ps_ret pe_bl)) pss_nil) (pss_one (ps_ret (pe_and (pe_cmpR op_ne (pv 2) (pv 3) (nomark _)) (pe_one (pe_call G_is_whole (hr.mono (by decide)) (by rfl) T.m_is_whole T.F_is_whole.kp T.b_is_whole .nil pass0 (pa_cons (pv 4) (pa_cons pe_int (pa_cons (pe_glob (v := .int 1000000000) (by rfl) T.c_TOP_PRICE ⟨_, rfl⟩) pa_nil))))))))))), ?_⟩
    refine p_no (Ex.refl H) (et_is (et_or (a := false) (et_test (ev_is (ev_op (ev_type (ev_var rfl) (.tup ht)) ev_c (rv_tyNe t8tuple t8tuple)) rfl)) (fun _ => et_test (ev_op (ev_lenS (ev_var rfl) (Or.inr ht)) ev_c (rv_ne rfl)))) rfl) fun H1 e1 _ => ?_
    refine ⟨_, rfl, a, _, rfl, ex_t e1 ht, rfl, _, _, rfl, _, _, rfl, _, _, rfl, rfl, ?_⟩
    refine p_no e1 (et_is (et_or (a := false) (et_is (et_not (et_B (ev_call (ea_cons (ev_var rfl) (ea_cons (ev_var rfl) ea_nil)) sv_is_place))) (by simp; omega)) (fun _ => et_not (et_B (ev_call (ea_cons (ev_var rfl) (ea_cons (ev_var rfl) ea_nil)) sv_is_place)))) (by simp; omega)) fun H2 e2 _ => ?_
    refine p_ret e2 (ev_is (ev_andV (ev_op (ev_var rfl) (ev_var rfl) (rv_ne rfl)) (fun _ => ev_call (ea_cons (ev_var rfl) (ea_cons ev_c (ea_cons ev_c ea_nil))) sv_is_whole)) ?_) k
    simp
    omega

def sp_check_net (K : PySem.W.Frag) : Sp := fun vs H Q _ => ∃ (n : Nat) (l : Addr) (ts : List Tie), vs = [.int n, .ref l] ∧ 1 ≤ n ∧ n ≤ 24 ∧ TiesL K H l ts ∧ ts.length ≤ 300 ∧ (∀ t ∈ ts, Good n t) ∧ RetV .non H Q
theorem sv_check_net {n : Nat} {l : Addr} {ts : List Tie} {H : Hp} (h1 : 1 ≤ n) (h2 : n ≤ 24) (hl : TiesL K H l ts) (hn : ts.length ≤ 300) (g : ∀ t ∈ ts, Good n t) : SpV (sp_check_net K) [.int n, .ref l] H .non := fun H1 e Q q E => ⟨n, l, ts, rfl, h1, h2, hl.ex e, hn, g, q⟩
theorem ok_check_net (T : Wd K mg) : FnOk P w K mg base CX0 4 T.f_check_net T.d_check_net ["many", "ties"] (sp_check_net K) := by
  have G_is_whole := ok_is_whole (P := P) (w := w) (base := base) T
  have G_is_tie := ok_is_tie (P := P) (w := w) (base := base) T
  refine T.F_check_net.ok sc_check_net (fun vs H Q E h => ?_) (fun cdv A outer s H vs Q E hr h => ?_)
  · obtain ⟨n, l, ts, rfl, _⟩ := h
    rfl
  · obtain ⟨n, l, ts, rfl, h1, h2, ⟨xs, hl, tz⟩, hn, g, k⟩ := h
    have hlen := tz.len
    refine ⟨_, (pss_cons (ps_if (pt_not (pt_val (pe_call G_is_whole (hr.mono (by decide)) (by rfl) T.m_is_whole T.F_is_whole.kp T.b_is_whole .nil pass0 (pa_cons (pv 0) (pa_cons pe_int (pa_cons (pe_glob (v := .int 24) (by rfl) T.c_MOST_PLACES ⟨_, rfl⟩) pa_nil)))))) (pss_one (ps_never)) pss_nil) (pss_cons (ps_if (PW.pt (pw_or (pt_cmpR G.op_neTy (pe_callTy call_type1 (by rfl) T.n_type (by decide +kernel) (pa_cons (pv 1) pa_nil)) (pe_bltn (v := .ty "list") (by rfl) T.n_list (by decide +kernel) rfl) (nomark _)) (pw_or1 (pt_cmpR op_gt (pe_callB call_len_seq (by rfl) T.n_len (by decide +kernel) (pa_cons (pv 1) pa_nil)) (pe_glob (v := .int 300) (by rfl) T.c_MOST_TIES ⟨_, rfl⟩) (nomark _))))) (pss_one (ps_never)) pss_nil) (pss_one (ps_for PassesOwn.never rfl (pi_list (pv 1)) (pg_name (i := 2) sc_check_net.nd rfl (Or.inl rfl)) (pss_one (ps_if (pt_not (pt_val (pe_call G_is_tie (hr.mono (by decide)) (by rfl) T.m_is_tie T.F_is_tie.kp T.b_is_tie .nil pass0 (pa_cons (pv 0) (pa_cons (pv 2) pa_nil))))) (pss_one (ps_never)) pss_nil)))))), ?_⟩
    refine p_no (Ex.refl H) (et_is (et_not (et_B (ev_call (ea_cons (ev_var rfl) (ea_cons ev_c (ea_cons ev_c ea_nil))) sv_is_whole))) (by simp; omega)) fun H1 e1 _ => ?_
    refine p_no e1 (et_is (et_or (a := false) (et_test (ev_is (ev_op (ev_type (ev_var rfl) (.lst hl)) ev_c (rv_tyNe t8list t8list)) rfl)) (fun _ => et_test (ev_op (ev_lenS (ev_var rfl) (Or.inl hl)) ev_c rv_I0))) (by simp; omega)) fun H2 e2 _ => ?_
    refine s_forLn (xs := xs) ((ev_var rfl : Ev _ _ H (.ref l)).mono e2) (ex_l e2 hl) (fun i σ' H' => Ex H H' ∧ ∃ v2, σ' = [some (.int n), some (.ref l), v2]) (fun H1 e => ⟨e2.trans e, _, rfl⟩) (fun i σ' H' _ p => ex_l p.1 hl) ?_ (fun σ' H' p => k H' p.1)
    rintro i x σ' H' hx ⟨e, v2, rfl⟩
    obtain ⟨t, a, ht, rfl, hta⟩ := tz.get hx
    refine p_noE e (et_is (et_not (et_B (ev_call (ea_cons (ev_var rfl) (ea_cons (ev_var rfl) ea_nil)) (sv_is_tie hta (g t (List.mem_of_getElem? ht)))))) rfl) fun H3 e3 _ => ?_
    exact ⟨e3, _, rfl⟩
def sp_check_place : Sp := fun vs H Q _ => ∃ (n p : Nat), vs = [.int n, .int p] ∧ p < n ∧ RetV .non H Q
theorem sv_check_place {n p : Nat} {H : Hp} (h : p < n) : SpV sp_check_place [.int n, .int p] H .non := fun H1 e Q q E => ⟨n, p, rfl, h, q⟩
theorem ok_check_place (T : Wd K mg) : FnOk P w K mg base CX0 3 T.f_check_place T.d_check_place ["many", "place"] (sp_check_place) := by
  have G_is_place := ok_is_place (P := P) (w := w) (base := base) T
  refine T.F_check_place.ok sc_check_place (fun vs H Q E h => ?_) (fun cdv A outer s H vs Q E hr h => ?_)
  · obtain ⟨n, p, rfl, _⟩ := h
    rfl
  · obtain ⟨n, p, rfl, hp, k⟩ := h
    refine ⟨_, (pss_one (ps_if (pt_not (pt_val (pe_call G_is_place (hr.mono (by decide)) (by rfl) T.m_is_place T.F_is_place.kp T.b_is_place .nil pass0 (pa_cons (pv 0) (pa_cons (pv 1) pa_nil))))) (pss_one (ps_never)) pss_nil)), ?_⟩
    exact p_noE (Ex.refl H) (et_is (et_not (et_B (ev_call (ea_cons (ev_var rfl) (ea_cons (ev_var rfl) ea_nil)) sv_is_place))) (by simp; omega)) fun H1 e1 _ => k H1 e1
def sp_check_two : Sp := fun vs H Q _ => ∃ (n i j : Nat), vs = [.int n, .int i, .int j] ∧ i < n ∧ j < n ∧ i ≠ j ∧ RetV .non H Q
theorem sv_check_two {n i j : Nat} {H : Hp} (hi : i < n) (hj : j < n) (hn : i ≠ j) : SpV sp_check_two [.int n, .int i, .int j] H .non := fun H1 e Q q E => ⟨n, i, j, rfl, hi, hj, hn, q⟩
theorem ok_check_two (T : Wd K mg) : FnOk P w K mg base CX0 4 T.f_check_two T.d_check_two ["many", "one", "other"] (sp_check_two) := by
  have G_check_place := ok_check_place (P := P) (w := w) (base := base) T
  refine T.F_check_two.ok sc_check_two (fun vs H Q E h => ?_) (fun cdv A outer s H vs Q E hr h => ?_)
  · obtain ⟨n, i, j, rfl, _⟩ := h
    rfl
  · obtain ⟨n, i, j, rfl, hi, hj, hn, k⟩ := h
    refine ⟨_, (pss_cons (ps_expr (pe_call G_check_place (hr.mono (by decide)) (by rfl) T.m_check_place T.F_check_place.kp T.b_check_place .nil pass0 (pa_cons (pv 0) (pa_cons (pv 1) pa_nil)))) (pss_cons (ps_expr (pe_call G_check_place (hr.mono (by decide)) (by rfl) T.m_check_place T.F_check_place.kp T.b_check_place .nil pass0 (pa_cons (pv 0) (pa_cons (pv 2) pa_nil)))) (pss_one (ps_if (pt_cmpR op_eq (pv 1) (pv 2) (nomark _)) (pss_one (ps_never)) pss_nil)))), ?_⟩
    refine p_drop (Ex.refl H) (ev_call (ea_cons (ev_var rfl) (ea_cons (ev_var rfl) ea_nil)) (sv_check_place hi)) fun H1 e1 _ => ?_
    refine p_drop e1 (ev_call (ea_cons (ev_var rfl) (ea_cons (ev_var rfl) ea_nil)) (sv_check_place hj)) fun H2 e2 _ => ?_
    exact p_noE e2 (et_is (et_test (ev_op (ev_var rfl) (ev_var rfl) (rv_eq rfl))) (by simp; omega)) fun H3 e3 _ => k H3 e3
def sp_check_side (K : PySem.W.Frag) : Sp := fun vs H Q _ => ∃ (n : Nat) (a : Addr) (ns : List Nat), vs = [.int n, .ref a] ∧ SqL K H a (IL ns) ∧ (∀ p ∈ ns, p < n) ∧ ns.Nodup ∧ ns.length ≤ 4000 ∧ RetV .non H Q
theorem sv_check_side {n : Nat} {a : Addr} {ns : List Nat} {H : Hp} (h : SqL K H a (IL ns)) (hp : ∀ p ∈ ns, p < n) (nd : ns.Nodup) (hz : ns.length ≤ 4000) : SpV (sp_check_side K) [.int n, .ref a] H .non := fun H1 e Q q E => ⟨n, a, ns, rfl, ex_l e h, hp, nd, hz, q⟩
theorem ok_check_side (T : Wd K mg) : FnOk P w K mg base CX0 3 T.f_check_side T.d_check_side ["many", "side"] (sp_check_side K) := by
  have G_is_place := ok_is_place (P := P) (w := w) (base := base) T
  refine T.F_check_side.ok sc_check_side (fun vs H Q E h => ?_) (fun cdv A outer s H vs Q E hr h => ?_)
  · obtain ⟨n, a, ns, rfl, _⟩ := h
    rfl
  · obtain ⟨n, a, ns, rfl, hl, hp, nd, hz, k⟩ := h
    refine ⟨_, (pss_cons (ps_if (pt_cmpR G.op_neTy (pe_callTy call_type1 (by rfl) T.n_type (by decide +kernel) (pa_cons (pv 1) pa_nil)) (pe_bltn (v := .ty "list") (by rfl) T.n_list (by decide +kernel) rfl) (nomark _)) (pss_one (ps_never)) pss_nil) (pss_cons (ps_for PassesOwn.never rfl (pi_list (pv 1)) (pg_name (i := 2) sc_check_side.nd rfl (Or.inl rfl)) (pss_one (ps_if (pt_not (pt_val (pe_call G_is_place (hr.mono (by decide)) (by rfl) T.m_is_place T.F_is_place.kp T.b_is_place .nil pass0 (pa_cons (pv 0) (pa_cons (pv 2) pa_nil))))) (pss_one (ps_never)) pss_nil))) (pss_one (ps_if (pt_cmpR op_lt (pe_lenSetI (by rfl) T.n_len (by rfl) T.n_set (pv 1)) (pe_callB call_len_seq (by rfl) T.n_len (by decide +kernel) (pa_cons (pv 1) pa_nil)) (nomark _)) (pss_one (ps_never)) pss_nil)))), ?_⟩
    refine p_no (Ex.refl H) (et_is (et_test (ev_op (ev_type (ev_var rfl) (.lst hl)) ev_c (rv_tyNe t8list t8list))) rfl) fun H1 e1 _ => ?_
    refine q_forLn (xs := IL ns) ((ev_var rfl : Ev _ _ H (.ref a)).mono e1) (ex_l e1 hl) (fun i σ' H' => Ex H H' ∧ ∃ v2, σ' = [some (.int n), some (.ref a), v2]) (fun H1 e => ⟨e1.trans e, _, rfl⟩) (fun i σ' H' _ p => ex_l p.1 hl) ?_ ?_
    · rintro i x σ' H' hx ⟨e, v2, rfl⟩
      obtain ⟨p, hm, rfl⟩ := IL_get hx
      refine p_noE e (et_is (et_not (et_B (ev_call (ea_cons (ev_var rfl) (ea_cons (ev_var rfl) ea_nil)) sv_is_place))) (by have := hp p (List.mem_of_getElem? hm); simp; omega)) fun H3 e3 _ => ?_
      exact ⟨e3, _, rfl⟩
    · rintro σ' H' ⟨e, v2, rfl⟩
      refine p_noE e (et_is (et_test (ev_op (ev_lenSet (ev_var rfl) hl nd hz) (ev_lenS (ev_var rfl) (Or.inl hl)) rv_I0)) (by rw [IL_len]; simp)) fun H3 e3 _ => k H3 e3
def sp_costs_between (K : PySem.W.Frag) : Sp := fun vs H Q _ => ∃ (n : Nat) (l : Addr) (ts : List Tie), vs = [.int n, .ref l] ∧ n ≤ 24 ∧ TiesL K H l ts ∧ (∀ t ∈ ts, Good n t) ∧ ∀ p H2, Ex H H2 → MatN H H2 p n (costM ts) → Q (.ref p) H2
theorem ok_costs_between (T : Wd K mg) : FnOk P w K mg base CX0 1 T.f_costs_between T.d_costs_between ["many", "ties"] (sp_costs_between K) := by
  refine T.F_costs_between.ok sc_costs_between (fun vs H Q E h => ?_) (fun cdv A outer s H vs Q E hr h => ?_)
  · obtain ⟨n, l, ts, rfl, _⟩ := h
    rfl
  · obtain ⟨n, l, ts, rfl, hn, ⟨xs, hl, tz⟩, g, k⟩ := h
    refine ⟨_, (pss_cons (ps_setLc (i := 2) (own := [("place", 3)]) (g := (gName 3)) (tt := tYes) rfl sc_costs_between.nd rfl rfl (sw_true rfl rfl rfl (by decide +kernel)) (pi_range1 (by rfl) T.n_range (pa_cons (pv 0) pa_nil)) (blkOk_by (own := [("place", 3)]) (N := ["many", "ties", "costs", "place", "one", "other", "cost"]) (sc := defScope s_costs_between) (by decide +kernel)) (fun _ _ _ _ _ => (pg_name (i := 3) sc_costs_between.nd rfl (Or.inl rfl))) (fun _ _ _ _ _ => pts_nil) (fun _ _ _ _ _ => (pe_op op_rep (pe_lst (pa_cons pe_int pa_nil)) (pv 0)))) (pss_cons (ps_for PassesOwn.never rfl (pi_list (pv 1)) (pg_tup (by rfl) (pgs_cons (pg_name (i := 4) sc_costs_between.nd rfl (Or.inl rfl)) (pgs_cons (pg_name (i := 5) sc_costs_between.nd rfl (Or.inl rfl)) (pgs_cons (pg_name (i := 6) sc_costs_between.nd rfl (Or.inl rfl)) pgs_nil)))) (pss_cons (ps_augS (pe_ix ix_list (pv 2) (pv 4) (fun _ _ => rfl)) (pv 5) G.pg_list (pv 6) ip_add set_list) (pss_one (ps_augS (pe_ix ix_list (pv 2) (pv 5) (fun _ _ => rfl)) (pv 4) G.pg_list (pv 6) ip_add set_list)))) (pss_one (ps_ret (pv 2))))), ?_⟩
    refine ⟨_, rfl, (n : Int), rfl, by omega, by omega, fun D hD => lc_range (lo := 0) (n := n) (fun i H' => Ex H H' ∧ ∃ rs : Nat → Addr, H' D = some (.lst (lstOf i fun k => .ref (rs k))) ∧ (∀ k, k < i → H' (rs k) = some (.lst (lstOf n fun _ => .int 0)) ∧ H (rs k) = none ∧ rs k ≠ D) ∧ ∀ a b, a < i → b < i → rs a = rs b → a = b) ?_ ?_ ?_⟩
    · exact ⟨Ex.new hD, fun _ => 0, upd_same, fun k hk => absurd hk (by omega), fun a b ha => absurd ha (by omega)⟩
    · rintro i H' hi ⟨e, rs, hDl, hrow, hinj⟩
      refine ⟨rfl, yes_go ⟨by show 1 ≤ sizeLine; decide, fun q hq => ⟨_, rfl, q, n, _, rfl, rfl, upd_same, by omega, by omega, ?_, fun p hp => ?_⟩⟩⟩
      · show 1 * n ≤ sizeLine
        exact sz_of (by omega)
      · have nqD : q ≠ D := (ne_of_none hDl hq).symm
        have npq : p ≠ q := fun z => by rw [z, upd_same] at hp; cases hp
        have hp' : H' p = none := by rw [upd_ne npq] at hp; exact hp
        have npD : p ≠ D := (ne_of_none hDl hp').symm
        refine ⟨lstOf i fun k => .ref (rs k), ?_, ?_, ?_, fun k => if k = i then p else rs k, ?_, fun k hk => ?_, fun a b ha hb hab => ?_⟩
        · rw [upd_ne npD.symm, upd_ne nqD.symm]
          exact hDl
        · rw [lstOf_len]
          exact sz_lt (by omega)
        · exact Ex.mut (((e.trans (Ex.new hq))).trans (Ex.new hp)) hD
        · have e2 : lstOf (i + 1) (fun k => V.ref (if k = i then p else rs k)) = lstOf i (fun k => .ref (rs k)) ++ [.ref p] := by
            rw [lstOf_succ, if_pos rfl]
            congr 1
            exact lstOf_congr fun k hk => by rw [if_neg (by omega)]
          exact upd_same.trans (congrArg (fun z => some (HO.lst z)) e2.symm)
        · show upd _ D _ (if k = i then p else rs k) = _ ∧ H (if k = i then p else rs k) = none ∧ (if k = i then p else rs k) ≠ D
          by_cases hki : k = i
          · rw [if_pos hki, upd_ne npD, upd_same]
            refine ⟨?_, fresh_back e hp', npD⟩
            have e1 : ((n : Int)).toNat = n := rfl
            rw [e1, List.flatten_replicate_singleton, lstOf_rep]
          · rw [if_neg hki]
            obtain ⟨r1, r2, r3⟩ := hrow k (by omega)
            exact ⟨by rw [upd_ne r3, upd_ne (ne_of_none r1 hp'), upd_ne (ne_of_none r1 hq)]; exact r1, r2, r3⟩
        · have hab : (if a = i then p else rs a) = (if b = i then p else rs b) := hab
          by_cases ha' : a = i
          · by_cases hb' : b = i
            · omega
            · rw [if_pos ha', if_neg hb'] at hab
              exact absurd hab.symm (ne_of_none (hrow b (by omega)).1 hp')
          · by_cases hb' : b = i
            · rw [if_neg ha', if_pos hb'] at hab
              exact absurd hab (ne_of_none (hrow a (by omega)).1 hp')
            · rw [if_neg ha', if_neg hb'] at hab
              exact hinj a b (by omega) (by omega) hab
    · rintro H' ⟨e, rs, hDl, hrow, hinj⟩
      have m0 : MatN H H' D n (costM []) := ⟨hD, rs, ⟨hDl, fun i hi => (hrow i hi).1, hinj⟩, fun i hi => (hrow i hi).2.1⟩
      refine q_forL (xs := xs) ((ev_var rfl : Ev _ _ H (.ref l)).mono e) (ex_l e hl) (fun i σ' H' => Ex H H' ∧ MatN H H' D n (costM (ts.take i)) ∧ ∃ a b c, σ' = [some (.int n), some (.ref l), some (.ref D), none, a, b, c]) (fun H1 e1 => ⟨e.trans e1, m0.ex e1, _, _, _, rfl⟩) (fun i σ' H' _ p => ex_l p.1 hl) ?_ ?_
      · rintro i x σ' H' hx ⟨e, ⟨f1, rs, R, f2⟩, a, b, c, rfl⟩
        obtain ⟨t, q, ht, rfl, hq⟩ := tz.get hx
        have g := g t (List.mem_of_getElem? ht)
        refine ⟨q, _, rfl, ex_t e hq, rfl, _, _, rfl, _, _, rfl, _, _, rfl, rfl, ?_⟩
        refine mat_aug (pi := 2) (ii := 4) (ji := 5) (zi := 6) rfl rfl rfl rfl R g.one g.two fun H1 R1 k1 => ?_
        refine mat_aug (pi := 2) (ii := 5) (ji := 4) (zi := 6) rfl rfl rfl rfl R1 g.two g.one fun H2 R2 k2 => ?_
        have e1 := e.but (f2 _ g.one) k1
        have e2 := e1.but (f2 _ g.two) k2
        refine ⟨e2, ⟨f1, rs, ?_, f2⟩, _, _, _, rfl⟩
        have et : ts.take (i + 1) = ts.take i ++ [t] := take_snoc ht
        rw [et]
        refine R2.congr fun a b => ?_
        exact costM_put g.ne a b
      · rintro σ' H' ⟨e, m, a, b, c, rfl⟩
        refine p_ret (Ex.refl H') (ev_var rfl) fun H1 e1 => k D H1 (e.trans e1) ?_
        rw [tz.len, List.take_length] at m
        exact m.ex e1

/-- a net that was made anew: what of it H does not know -/
structure NetNew (K : PySem.W.Frag) (C : Addr) (H H2 : Hp) (x : Addr) (n : Nat) (vs : List V) (ts : List Tie) (l c : Addr) (rs : Nat → Addr) : Prop where
  ob : ∃ dx, H2 x = some (.ins C dx (netF (.int n) (.ref l) (.ref c)))
  ls : H2 l = some (.lst vs)
  mat : MatR H2 c n rs (costM ts)
  fl : H l = none
  fc : H c = none
  fr : ∀ i, i < n → H (rs i) = none
def sp_Net_init (K : PySem.W.Frag) (C : Addr) : Sp := fun vs H Q _ => ∃ (x dx : Addr) (n : Nat) (l : Addr) (xs : List V) (ts : List Tie), vs = [.ref x, .int n, .ref l] ∧ H x = some (.ins C dx []) ∧ 1 ≤ n ∧ n ≤ 24 ∧ SqL K H l xs ∧ TiesV K H xs ts ∧ ts.length ≤ 300 ∧ (∀ t ∈ ts, Good n t) ∧
  ∀ H2 l' c rs, (∀ b o, b ≠ x → H b = some o → H2 b = some o) → NetNew K C H H2 x n xs ts l' c rs → Q .non H2
theorem ok_Net_init (T : Wd K mg) : FnOk P w K mg base CX0 5 T.f_Net_init T.d_Net_init ["self", "many", "ties"] (sp_Net_init K T.C_Net) := by
  have G_check_net := ok_check_net (P := P) (w := w) (base := base) T
  have G_costs_between := ok_costs_between (P := P) (w := w) (base := base) T
  refine T.F_Net_init.ok sc_Net_init (fun vs H Q E h => ?_) (fun cdv A outer s H vs Q E hr h => ?_)
  · obtain ⟨x, dx, n, l, xs, ts, rfl, _⟩ := h
    rfl
  · obtain ⟨x, dx, n, l, xs, ts, rfl, hx, h1, h2, hl, tz, hn, g, k⟩ := h
    refine ⟨_, (pss_cons (ps_expr (pe_call G_check_net (hr.mono (by decide)) (by rfl) T.m_check_net T.F_check_net.kp T.b_check_net .nil pass0 (pa_cons (pv 1) (pa_cons (pv 2) pa_nil)))) (pss_cons (ps_fld (pv 0) (pv 1) rfl) (pss_cons (ps_fld (pv 0) (pe_callTy call_list_of (by rfl) T.n_list (by decide +kernel) (pa_cons (pv 2) pa_nil)) rfl) (pss_one (ps_fld (pv 0) (pe_call G_costs_between (hr.mono (by decide)) (by rfl) T.m_costs_between T.F_costs_between.kp T.b_costs_between .nil pass0 (pa_cons (pv 1) (pa_cons (pv 2) pa_nil))) rfl))))), ?_⟩
    refine p_drop (Ex.refl H) (ev_call (ea_cons (ev_var rfl) (ea_cons (ev_var rfl) ea_nil)) (sv_check_net h1 h2 ⟨xs, hl, tz⟩ hn g)) fun H1 e1 _ => ?_
    have hx1 := e1 _ _ hx
    have hlx : ∀ {H' : Hp}, (∀ b o, b ≠ x → H b = some o → H' b = some o) → SqL K H' l xs := fun {H'} kk => by
      rcases hl with (hl | ⟨o, hl⟩) | hl
      · exact .inl (.inl (kk _ _ (ne_of hl hx (by intro q; cases q)) hl))
      · exact .inl (.inr ⟨o, kk _ _ (ne_of hl hx (by intro q; cases q)) hl⟩)
      · exact .inr hl
    have tzx : ∀ {H' : Hp}, (∀ b o, b ≠ x → H b = some o → H' b = some o) → TiesV K H' xs ts := fun {H'} kk => ⟨tz.len, fun i v t h1 h2 => by
      obtain ⟨a, rfl, ht⟩ := tz.at_ i v t h1 h2
      refine ⟨a, rfl, ?_⟩
      rcases ht with (ht | ⟨o, ht⟩) | ht
      · exact .inl (.inl (kk _ _ (ne_of ht hx (by intro q; cases q)) ht))
      · exact .inl (.inr ⟨o, kk _ _ (ne_of ht hx (by intro q; cases q)) ht⟩)
      · exact .inr ht⟩
    refine ⟨_, rfl, _, rfl, x, T.C_Net, dx, [], rfl, hx1, T.cl_Net, T.na_Net_many, (by show 0 < 1000; decide), ?_⟩
    have k2 : ∀ b o, b ≠ x → H b = some o → upd H1 x (.ins T.C_Net dx (putF "many" (.int n) [])) b = some o := fun b o hb e => by rw [upd_ne hb]; exact e1 _ _ e
    refine ⟨_, rfl, l, xs, rfl, .inl (hlx k2), fun l' hl' => ⟨_, rfl, x, T.C_Net, dx, putF "many" (.int n) [], rfl, ?_, T.cl_Net, T.na_Net__ties, (by show 1 < 1000; decide), ?_⟩⟩
    · have : x ≠ l' := fun z => by rw [← z, upd_same] at hl'; cases hl'
      rw [upd_ne this, upd_same]
    · have nlx : l' ≠ x := fun z => by rw [z, upd_same] at hl'; cases hl'
      have fl' : H1 l' = none := by rw [upd_ne nlx] at hl'; exact hl'
      have k3 : ∀ b o, b ≠ x → H b = some o → upd (upd (upd H1 x (.ins T.C_Net dx (putF "many" (.int n) []))) l' (.lst xs)) x (.ins T.C_Net dx (putF "_ties" (.ref l') (putF "many" (.int n) []))) b = some o := fun b o hb e => by
        rw [upd_ne hb, upd_ne (ne_of_none (e1 _ _ e) fl')]
        exact k2 b o hb e
      refine ⟨_, rfl, _, rfl, n, l, ts, rfl, h2, ⟨xs, hlx k3, tzx k3⟩, g, fun c H2 e2 m => ⟨_, rfl, x, T.C_Net, dx, putF "_ties" (.ref l') (putF "many" (.int n) []), rfl, e2 _ _ upd_same, T.cl_Net, T.na_Net__costs, netF2_len, ?_⟩⟩
      obtain ⟨fc, rs, R, fr⟩ := m
      have fre : ∀ {q : Addr}, upd (upd (upd H1 x (.ins T.C_Net dx (putF "many" (.int n) []))) l' (.lst xs)) x (.ins T.C_Net dx (putF "_ties" (.ref l') (putF "many" (.int n) []))) q = none → H q = none ∧ q ≠ x := fun {q} hq => by
        have nq : q ≠ x := fun z => by rw [z, upd_same] at hq; cases hq
        rw [upd_ne nq] at hq
        have nql : q ≠ l' := fun z => by rw [z, upd_same] at hq; cases hq
        rw [upd_ne nql, upd_ne nq] at hq
        exact ⟨fresh_back e1 hq, nq⟩
      refine k _ l' c rs (fun b o hb e => ?_) ⟨⟨dx, upd_same⟩, ?_, ⟨?_, fun i hi => ?_, R.inj⟩, fresh_back e1 fl', (fre fc).1, fun i hi => (fre (fr i hi)).1⟩
      · rw [upd_ne hb]
        exact e2 _ _ (k3 b o hb e)
      · rw [upd_ne nlx]
        exact e2 _ _ (by rw [upd_ne nlx, upd_same])
      · rw [upd_ne (fre fc).2]
        exact R.top
      · rw [upd_ne (fre (fr i hi)).2]
        exact R.row i hi
/-- Net(many, ties) as an expression -/
theorem make_net {C : Addr} {σ : L2.St} {H : Hp} {ta : TA} {Q : VK} {E : XK} {n : Nat} {l : Addr} {xs : List V} {ts : List Tie} (ha : EvA ta σ H [.int n, .ref l]) (h1 : 1 ≤ n) (h2 : n ≤ 24) (hl : SqL K H l xs) (tz : TiesV K H xs ts) (hn : ts.length ≤ 300) (g : ∀ t ∈ ts, Good n t)
    (k : ∀ x l' c rs H2, H x = none → Ex H H2 → NetNew K C H H2 x n xs ts l' c rs → Q (.ref x) H2) : tMake C (sp_Net_init K C) [] E ta σ H Q := by
  refine ha H (Ex.refl H) _ fun H1 e1 => ?_
  intro x dx hx hdx nx
  have e2 : Ex H1 (upd (upd H1 dx (.own x)) x (.ins C dx [])) := (Ex.new hdx).trans (Ex.new (by rw [upd_ne nx.symm]; exact hx))
  refine ⟨x, dx, n, l, xs, ts, rfl, upd_same, h1, h2, ex_l (e1.trans e2) hl, tz.ex (e1.trans e2), hn, g, fun H2 l' c rs kk N => ⟨rfl, ?_⟩⟩
  have e3 : Ex H H2 := fun a o h => by
    have h' := e1 _ _ h
    refine kk a o (ne_of_none h' hx) ?_
    rw [upd_ne (ne_of_none h' hx), upd_ne (ne_of_none h' hdx)]
    exact h'
  exact k x l' c rs H2 (fresh_back e1 hx) e3 ⟨N.ob, N.ls, N.mat, fresh_back (e1.trans e2) N.fl, fresh_back (e1.trans e2) N.fc, fun i hi => fresh_back (e1.trans e2) (N.fr i hi)⟩
theorem NetNew.at_ {C : Addr} {H H2 : Hp} {x : Addr} {n : Nat} {vs : List V} {ts : List Tie} {l c : Addr} {rs : Nat → Addr} (N : NetNew K C H H2 x n vs ts l c rs) (tz : TiesV K H2 vs ts) (h1 : 1 ≤ n) (h2 : n ≤ 24) (hn : ts.length ≤ 300) (g : ∀ t ∈ ts, Good n t) : NetAt K C H2 x n ts := by
  obtain ⟨dx, ob⟩ := N.ob
  exact ⟨⟨dx, l, c, ob, ⟨vs, N.ls, tz⟩, ⟨rs, N.mat⟩⟩, h1, h2, hn, g⟩
theorem NetNew.past {C : Addr} {H H2 H3 : Hp} {x h : Addr} {n : Nat} {vs : List V} {ts : List Tie} {l c : Addr} {rs : Nat → Addr} {o : HO} (N : NetNew K C H H2 x n vs ts l c rs) (hh : H h = some o) (hx : H x = none) (k : ∀ b o, b ≠ h → H2 b = some o → H3 b = some o) : NetNew K C H H3 x n vs ts l c rs := by
  obtain ⟨dx, ob⟩ := N.ob
  exact ⟨⟨dx, k _ _ (ne_of_none hh hx).symm ob⟩, k _ _ (ne_of_none hh N.fl).symm N.ls, ⟨k _ _ (ne_of_none hh N.fc).symm N.mat.top, fun i hi => k _ _ (ne_of_none hh (N.fr i hi)).symm (N.mat.row i hi), N.mat.inj⟩, N.fl, N.fc, N.fr⟩
def sp_Net_ties (K : PySem.W.Frag) (C : Addr) : Sp := fun vs H Q _ => ∃ (x : Addr) (n : Nat) (ts : List Tie), vs = [.ref x] ∧ NetAt K C H x n ts ∧ ∀ xs, TiesV K H xs ts → RetL xs H Q
theorem tie_ties {C : Addr} {n : Nat} {ts : List Tie} {x : Addr} {H : Hp} {Q : VK} (N : NetAt K C H x n ts) (k : ∀ xs, TiesV K H xs ts → RetL xs H Q) {E : XK} : sp_Net_ties K C [.ref x] H Q E := ⟨x, n, ts, rfl, N, k⟩
theorem ok_Net_ties (T : Wd K mg) : FnOk P w K mg base CX0 1 T.f_Net_ties T.d_Net_ties ["self"] (sp_Net_ties K T.C_Net) := by
  refine T.F_Net_ties.ok sc_Net_ties (fun vs H Q E h => ?_) (fun cdv A outer s H vs Q E hr h => ?_)
  · obtain ⟨x, n, ts, rfl, _⟩ := h
    rfl
  · obtain ⟨x, n, ts, rfl, N, k⟩ := h
    obtain ⟨dx, l, c, hx, ⟨xs, hl, tz⟩, hm⟩ := N.ob
    refine ⟨_, (pss_one (ps_ret (pe_callTy call_list_of (by rfl) T.n_list (by decide +kernel) (pa_cons (pe_fld (pv 0) rfl) pa_nil)))), ?_⟩
    refine p_retL (Ex.refl H) (el_list (ev_fld (ev_var rfl) hx T.cl_Net T.na_Net__ties netF_ties) (sq_of hl)) (k xs tz)
def sp_Net_between (K : PySem.W.Frag) (C : Addr) : Sp := fun vs H Q _ => ∃ (x : Addr) (n : Nat) (ts : List Tie) (i j : Nat), vs = [.ref x, .int i, .int j] ∧ NetAt K C H x n ts ∧ i < n ∧ j < n ∧ i ≠ j ∧ RetV (.int (costM ts i j)) H Q
theorem sv_between {C : Addr} {n : Nat} {ts : List Tie} {x : Addr} {H : Hp} {i j : Nat} (N : NetAt K C H x n ts) (hi : i < n) (hj : j < n) (hn : i ≠ j) : SpV (sp_Net_between K C) [.ref x, .int i, .int j] H (.int (costM ts i j)) := fun H1 e Q q E => ⟨x, n, ts, i, j, rfl, N.ex e, hi, hj, hn, q⟩
theorem ok_Net_between (T : Wd K mg) : FnOk P w K mg base CX0 5 T.f_Net_between T.d_Net_between ["self", "one", "other"] (sp_Net_between K T.C_Net) := by
  have G_check_two := ok_check_two (P := P) (w := w) (base := base) T
  refine T.F_Net_between.ok sc_Net_between (fun vs H Q E h => ?_) (fun cdv A outer s H vs Q E hr h => ?_)
  · obtain ⟨x, n, ts, i, j, rfl, _⟩ := h
    rfl
  · obtain ⟨x, n, ts, i, j, rfl, N, hi, hj, hn, k⟩ := h
    obtain ⟨dx, l, c, hx, ⟨xs, hl, tz⟩, rs, hm⟩ := N.ob
    obtain ⟨g1, g2, g3, g4⟩ := hm.get (K := K) hi hj
    refine ⟨_, (pss_cons (ps_expr (pe_call G_check_two (hr.mono (by decide)) (by rfl) T.m_check_two T.F_check_two.kp T.b_check_two .nil pass0 (pa_cons (pe_fld (pv 0) rfl) (pa_cons (pv 1) (pa_cons (pv 2) pa_nil))))) (pss_one (ps_ret (pe_ix ix_list (pe_ix ix_list (pe_fld (pv 0) rfl) (pv 1) (fun _ _ => rfl)) (pv 2) (fun _ _ => rfl))))), ?_⟩
    refine p_drop (Ex.refl H) (ev_call (ea_cons (ev_fld (ev_var rfl) hx T.cl_Net T.na_Net_many netF_many) (ea_cons (ev_var rfl) (ea_cons (ev_var rfl) ea_nil))) (sv_check_two hi hj hn)) fun H1 e1 _ => ?_
    exact p_ret e1 (ev_op (ev_op (ev_fld (ev_var rfl) hx T.cl_Net T.na_Net__costs netF_costs) (ev_var rfl) (rv_ixL g1 g2)) (ev_var rfl) (rv_ixL g3 g4)) k
/-- the places to which a tie leads -/
def besideOf (n : Nat) (ts : List Tie) (i : Nat) : List Nat := (List.range n).filter fun j => decide (costM ts i j > 0)
def sp_Net_beside (K : PySem.W.Frag) (C : Addr) : Sp := fun vs H Q _ => ∃ (x : Addr) (n : Nat) (ts : List Tie) (i : Nat), vs = [.ref x, .int i] ∧ NetAt K C H x n ts ∧ i < n ∧ RetL (IL (besideOf n ts i)) H Q
theorem sl_beside {C : Addr} {n : Nat} {ts : List Tie} {x : Addr} {H : Hp} {i : Nat} (N : NetAt K C H x n ts) (hi : i < n) : SpL (sp_Net_beside K C) [.ref x, .int i] H (IL (besideOf n ts i)) := fun H1 e Q q E => ⟨x, n, ts, i, rfl, N.ex e, hi, fun p H2 hp e2 h2 => q p H2 hp e2 h2⟩
theorem ok_Net_beside (T : Wd K mg) : FnOk P w K mg base CX0 4 T.f_Net_beside T.d_Net_beside ["self", "place"] (sp_Net_beside K T.C_Net) := by
  have G_check_place := ok_check_place (P := P) (w := w) (base := base) T
  refine T.F_Net_beside.ok sc_Net_beside (fun vs H Q E h => ?_) (fun cdv A outer s H vs Q E hr h => ?_)
  · obtain ⟨x, n, ts, i, rfl, _⟩ := h
    rfl
  · obtain ⟨x, n, ts, i, rfl, N, hi, k⟩ := h
    obtain ⟨dx, l, c, hx, ⟨xs, hl, tz⟩, rs, hm⟩ := N.ob
    have hhi := N.hi
    refine ⟨_, (pss_cons (ps_expr (pe_call G_check_place (hr.mono (by decide)) (by rfl) T.m_check_place T.F_check_place.kp T.b_check_place .nil pass0 (pa_cons (pe_fld (pv 0) rfl) (pa_cons (pv 1) pa_nil)))) (pss_cons (ps_set (i := 2) sc_Net_beside.nd rfl (Or.inr rfl) (pe_ix ix_list (pe_fld (pv 0) rfl) (pv 1) (fun _ _ => rfl))) (pss_one (ps_ret (pe_lc (own := [("other", 3)]) (g := (gName 3)) rfl sc_Net_beside.nd (pi_range1 (by rfl) T.n_range (pa_cons (pe_fld (pv 0) rfl) pa_nil)) (blkOk_by (own := [("other", 3)]) (N := ["self", "place", "costs", "other"]) (sc := defScope s_Net_beside) (by decide +kernel)) (fun _ _ _ _ _ => (pg_name (i := 3) sc_Net_beside.nd rfl (Or.inl rfl))) (fun _ _ _ _ _ => (pts_one (pt_cmpR op_gt (pe_ix (show IxR _ (rIxL K) from ix_list) (pv 2) (pv 3) (fun _ _ => rfl)) pe_int (nomark _)))) (fun _ _ _ _ _ => (pv 3))))))), ?_⟩
    refine p_drop (Ex.refl H) (ev_call (ea_cons (ev_fld (ev_var rfl) hx T.cl_Net T.na_Net_many netF_many) (ea_cons (ev_var rfl) ea_nil)) (sv_check_place hi)) fun H1 e1 _ => ?_
    refine p_asg e1 (ev_op (ev_fld (ev_var rfl) hx T.cl_Net T.na_Net__costs netF_costs) (ev_var rfl) (rv_ixL (sq_of hm.top) (lstOf_at hi))) fun H2 e2 _ => ?_
    have hrow := hm.row i hi
    refine p_retL e2 (el_is (el_lcR1 (n := (n : Int)) (fun j => decide (costM ts i j > 0)) (fun j => .int (j : Int)) (ea_cons (ev_fld (ev_var rfl) hx T.cl_Net T.na_Net_many netF_many) ea_nil) (by omega) (fun _ => rfl) (fun j H3 e3 hj => et_test (ev_op (ev_op (ev_var rfl) (ev_var rfl) (rv_ixL (ex_l e3 (sq_of hrow)) (lstOf_at (by omega)))) ev_c rv_I0)) (fun j H3 e3 hj _ => ev_var rfl)) ?_) k
    rfl
def sp_Net_price (K : PySem.W.Frag) (C : Addr) : Sp := fun vs H Q _ => ∃ (x : Addr) (n : Nat) (ts : List Tie) (a : Addr) (ns : List Nat), vs = [.ref x, .ref a] ∧ NetAt K C H x n ts ∧ SqL K H a (IL ns) ∧ (∀ p ∈ ns, p < n) ∧ ns.Nodup ∧ ns.length ≤ 4000 ∧ RetV (.int (cutP ts ns)) H Q
theorem sv_price {C : Addr} {n : Nat} {ts : List Tie} {x a : Addr} {H : Hp} {ns : List Nat} (N : NetAt K C H x n ts) (hl : SqL K H a (IL ns)) (hp : ∀ p ∈ ns, p < n) (nd : ns.Nodup) (hz : ns.length ≤ 4000) : SpV (sp_Net_price K C) [.ref x, .ref a] H (.int (cutP ts ns)) := fun H1 e Q q E => ⟨x, n, ts, a, ns, rfl, N.ex e, ex_l e hl, hp, nd, hz, q⟩
theorem ok_Net_price (T : Wd K mg) : FnOk P w K mg base CX0 4 T.f_Net_price T.d_Net_price ["self", "side"] (sp_Net_price K T.C_Net) := by
  have G_check_side := ok_check_side (P := P) (w := w) (base := base) T
  refine T.F_Net_price.ok sc_Net_price (fun vs H Q E h => ?_) (fun cdv A outer s H vs Q E hr h => ?_)
  · obtain ⟨x, n, ts, a, ns, rfl, _⟩ := h
    rfl
  · obtain ⟨x, n, ts, a, ns, rfl, N, hs, hp, nd, hz, k⟩ := h
    obtain ⟨dx, l, c, hx, ⟨xs, hl, tz⟩, rs, hm⟩ := N.ob
    refine ⟨_, (pss_cons (ps_expr (pe_call G_check_side (hr.mono (by decide)) (by rfl) T.m_check_side T.F_check_side.kp T.b_check_side .nil pass0 (pa_cons (pe_fld (pv 0) rfl) (pa_cons (pv 1) pa_nil)))) (pss_cons (ps_set (i := 2) sc_Net_price.nd rfl (Or.inl rfl) pe_int) (pss_cons (ps_for PassesOwn.never rfl (pi_list (pe_fld (pv 0) rfl)) (pg_tup (by rfl) (pgs_cons (pg_name (i := 3) sc_Net_price.nd rfl (Or.inl rfl)) (pgs_cons (pg_name (i := 4) sc_Net_price.nd rfl (Or.inl rfl)) (pgs_cons (pg_name (i := 5) sc_Net_price.nd rfl (Or.inl rfl)) pgs_nil)))) (pss_one (ps_if (pt_cmpR op_ne (pe_cmpR op_in_seq (pv 3) (pv 1) (by rfl)) (pe_cmpR op_in_seq (pv 4) (pv 1) (by rfl)) (nomark _)) (pss_one (ps_aug (i := 2) sc_Net_price.nd rfl (Or.inl rfl) (pv 5) ip_add)) pss_nil))) (pss_one (ps_ret (pv 2)))))), ?_⟩
    refine p_drop (Ex.refl H) (ev_call (ea_cons (ev_fld (ev_var rfl) hx T.cl_Net T.na_Net_many netF_many) (ea_cons (ev_var rfl) ea_nil)) (sv_check_side hs hp nd hz)) fun H1 e1 _ => ?_
    refine p_asg e1 ev_c fun H2 e2 _ => ?_
    refine q_forL (xs := xs) ((ev_fld (ev_var rfl) hx T.cl_Net T.na_Net__ties netF_ties : Ev _ _ H (.ref l)).mono e2) (ex_l e2 (sq_of hl)) (fun i σ' H' => Ex H H' ∧ ∃ u v z, σ' = [some (.ref x), some (.ref a), some (.int (cutP (ts.take i) ns)), u, v, z]) (fun H1 e1 => ⟨e2.trans e1, _, _, _, rfl⟩) (fun i σ' H' _ p => ex_l p.1 (sq_of hl)) ?_ ?_
    · rintro i y σ' H' hy ⟨e, u, v, z, rfl⟩
      obtain ⟨t, q, ht, rfl, hq⟩ := tz.get hy
      refine ⟨q, _, rfl, ex_t e hq, rfl, _, _, rfl, _, _, rfl, _, _, rfl, rfl, ?_⟩
      have et : cutP (ts.take (i + 1)) ns = cutP (ts.take i) ns + if (decide (t.1 ∈ ns) != decide (t.2.1 ∈ ns)) = true then t.2.2 else 0 := by
        unfold cutP
        rw [take_snoc ht, sum_map_append]
        simp
      refine p_whenE (b := decide (t.1 ∈ ns) != decide (t.2.1 ∈ ns)) e (et_is (et_test (ev_op (ev_inIL (ev_var rfl) (ev_var rfl) hs) (ev_inIL (ev_var rfl) (ev_var rfl) hs) (rv_ne rfl))) bl_ne) (fun hb H3 e3 _ => ?_) (fun hb H3 e3 _ => ?_)
      · refine s_aug rfl (ev_var rfl) fun H4 e4 => ?_
        refine ⟨e3.trans e4, some (.int t.1), some (.int t.2.1), some (.int t.2.2), ?_⟩
        rw [et, if_pos hb]
        rfl
      · refine ⟨e3, some (.int t.1), some (.int t.2.1), some (.int t.2.2), ?_⟩
        rw [et, if_neg (by rw [hb]; decide), Int.add_zero]
        rfl
    · rintro σ' H' ⟨e, u, v, z, rfl⟩
      refine p_ret e (ev_var rfl) fun H1 e1 => ?_
      rw [tz.len, List.take_length]
      exact k H1 e1
theorem er_ties {C : Addr} {σ : L2.St} {H : Hp} {ta : TE} {x : Addr} {n : Nat} {ts : List Tie} {E : XK} (ha : Ev ta σ H (.ref x)) (N : NetAt K C H x n ts) : EvR (tMeth C "ties" (sp_Net_ties K C) [] E ta tNil) σ H (fun H1 v H2 => ∃ p xs, v = .ref p ∧ H1 p = none ∧ H2 p = some (.lst xs) ∧ TiesV K H2 xs ts) := fun H1 e Q q =>
  ha H1 e _ fun H2 e2 => by
    have N2 := N.ex (e.trans e2)
    obtain ⟨dx, l, c, hx, _⟩ := N2.ob
    exact ⟨x, dx, _, rfl, hx, netF_no (by decide +kernel) (by decide +kernel) (by decide +kernel), x, n, ts, rfl, N2, fun xs tz p H3 hp e3 h3 => q _ H3 (e2.trans e3) ⟨p, xs, rfl, fresh_back e2 hp, h3, tz.ex e3⟩⟩
theorem ev_between {C : Addr} {σ : L2.St} {H : Hp} {ta tb tc : TE} {x : Addr} {n : Nat} {ts : List Tie} {i j : Nat} {E : XK} (ha : Ev ta σ H (.ref x)) (hb : Ev tb σ H (.int (i : Int))) (hc : Ev tc σ H (.int (j : Int))) (N : NetAt K C H x n ts) (hi : i < n) (hj : j < n) (hn : i ≠ j) : Ev (tMeth C "between" (sp_Net_between K C) [] E ta (tCons tb (tCons tc tNil))) σ H (.int (costM ts i j)) := by
  obtain ⟨dx, l, c, hx, _⟩ := N.ob
  exact ev_meth ha hx (netF_no (by decide +kernel) (by decide +kernel) (by decide +kernel)) (ea_cons hb (ea_cons hc ea_nil)) (sv_between N hi hj hn)
theorem el_beside {C : Addr} {σ : L2.St} {H : Hp} {ta tb : TE} {x : Addr} {n : Nat} {ts : List Tie} {i : Nat} {E : XK} (ha : Ev ta σ H (.ref x)) (hb : Ev tb σ H (.int (i : Int))) (N : NetAt K C H x n ts) (hi : i < n) : EvL (tMeth C "beside" (sp_Net_beside K C) [] E ta (tCons tb tNil)) σ H (IL (besideOf n ts i)) := by
  obtain ⟨dx, l, c, hx, _⟩ := N.ob
  exact el_meth ha hx (netF_no (by decide +kernel) (by decide +kernel) (by decide +kernel)) (ea_cons hb ea_nil) (sl_beside N hi)
theorem ev_price {C : Addr} {σ : L2.St} {H : Hp} {ta tb : TE} {x a : Addr} {n : Nat} {ts : List Tie} {ns : List Nat} {E : XK} (ha : Ev ta σ H (.ref x)) (hb : Ev tb σ H (.ref a)) (N : NetAt K C H x n ts) (hl : SqL K H a (IL ns)) (hp : ∀ p ∈ ns, p < n) (nd : ns.Nodup) (hz : ns.length ≤ 4000) : Ev (tMeth C "price" (sp_Net_price K C) [] E ta (tCons tb tNil)) σ H (.int (cutP ts ns)) := by
  obtain ⟨dx, l, c, hx, _⟩ := N.ob
  exact ev_meth ha hx (netF_no (by decide +kernel) (by decide +kernel) (by decide +kernel)) (ea_cons hb ea_nil) (sv_price N hl hp nd hz)
theorem ev_priceN {C : Addr} {σ : L2.St} {H : Hp} {ta tb : TE} {x : Addr} {n : Nat} {ts : List Tie} {ns : List Nat} {E : XK} (ha : Ev ta σ H (.ref x)) (hb : EvL tb σ H (IL ns)) (N : NetAt K C H x n ts) (hp : ∀ p ∈ ns, p < n) (nd : ns.Nodup) (hz : ns.length ≤ 4000) : Ev (tMeth C "price" (sp_Net_price K C) [] E ta (tCons tb tNil)) σ H (.int (cutP ts ns)) := fun H1 e Q q =>
  ha H1 e _ fun H2 e2 => by
    obtain ⟨dx, l, c, hx, _⟩ := (N.ex (e.trans e2)).ob
    refine ⟨x, dx, _, rfl, hx, netF_no (by decide +kernel) (by decide +kernel) (by decide +kernel), ?_⟩
    exact hb H2 (e.trans e2) _ fun p H3 hp3 e3 h3 => ⟨x, n, ts, p, ns, rfl, N.ex ((e.trans e2).trans e3), sq_of h3, hp, nd, hz, fun H4 e4 => q H4 ((e2.trans e3).trans e4)⟩
theorem er_net {C : Addr} {σ : L2.St} {H : Hp} {ta : TA} {E : XK} {n : Nat} {l : Addr} {xs : List V} {ts : List Tie} (ha : EvA ta σ H [.int n, .ref l]) (h1 : 1 ≤ n) (h2 : n ≤ 24) (hl : SqL K H l xs) (tz : TiesV K H xs ts) (hn : ts.length ≤ 300) (g : ∀ t ∈ ts, Good n t) :
    EvR (tMake C (sp_Net_init K C) [] E ta) σ H (fun H1 v H2 => ∃ x l' c rs, v = .ref x ∧ H1 x = none ∧ NetNew K C H1 H2 x n xs ts l' c rs) := fun H1 e Q q =>
  make_net (fun H2 e2 Q q => ha H2 (e.trans e2) Q q) h1 h2 (ex_l e hl) (tz.ex e) hn g fun x l' c rs H2 hx e2 N => q _ H2 e2 ⟨x, l', c, rs, rfl, hx, N⟩
end
end Toy

namespace Toy
open PySem L2 Evl RZ G
section
variable {P : Program} {w : World} {K : PySem.W.Frag} {mg : Str → Option Value} {base : Heap}
/-! ### the law's helpers -/
def sp_cell_at (K : PySem.W.Frag) : Sp := fun vs H Q _ => ∃ (a : Addr) (ns : List Int) (k : Nat), vs = [.ref a, .int k] ∧ SqL K H a (ns.map V.int) ∧ RetV (.int (cellA ns k)) H Q
theorem sv_cell {a : Addr} {ns : List Int} {k : Nat} {H : Hp} (h : SqL K H a (ns.map V.int)) : SpV (sp_cell_at K) [.ref a, .int k] H (.int (cellA ns k)) := fun H1 e Q q E => ⟨a, ns, k, rfl, ex_l e h, q⟩
theorem ok__law_cell_at (T : Wd K mg) : FnOk P w K mg base CX0 1 T.f__law_cell_at T.d__law_cell_at ["_law_script", "_law_k"] (sp_cell_at K) := by
  refine T.F__law_cell_at.ok sc__law_cell_at (fun vs H Q E h => ?_) (fun cdv A outer s H vs Q E hr h => ?_)
  · obtain ⟨a, ns, k, rfl, _⟩ := h
    rfl
  · obtain ⟨a, ns, k, rfl, hs, q⟩ := h
    refine ⟨_, (pss_cons (ps_if (pt_cmpR op_lt (pv 1) (pe_callB call_len_seq (by rfl) T.n_len (by decide +kernel) (pa_cons (pv 0) pa_nil)) (nomark _)) (pss_one (ps_ret (pe_ix ix_list (pv 0) (pv 1) (fun _ _ => rfl)))) pss_nil) (pss_one (ps_ret pe_int))), ?_⟩
    refine p_when (Ex.refl H) (et_test (ev_op (ev_var rfl) (ev_lenS (ev_var rfl) (Or.inl hs)) rv_I0)) (fun hb H1 e1 _ => ?_) (fun hb H1 e1 _ => ?_)
    · have hk : k < ns.length := by
        have := of_decide_eq_true hb
        rw [List.length_map] at this
        omega
      refine p_ret e1 (ev_op (ev_var rfl) (ev_var rfl) (rv_ixL (v := .int (cellA ns k)) hs (at_of rfl ?_))) q
      rw [List.getElem?_map, List.getElem?_eq_getElem hk]
      simp [cellA, List.getD, List.getElem?_eq_getElem hk]
    · have hk : ns.length ≤ k := by
        have := of_decide_eq_false hb
        rw [List.length_map] at this
        omega
      refine p_ret e1 (ev_is ev_c ?_) q
      simp [cellA, List.getD, List.getElem?_eq_none hk]
def sp_whole : Sp := fun vs H Q _ => ∃ i : Int, vs = [.int i] ∧ RetV (.bl true) H Q
theorem sv_whole {i : Int} {H : Hp} : SpV sp_whole [.int i] H (.bl true) := fun H1 e Q q E => ⟨i, rfl, q⟩
theorem ok__law_whole (T : Wd K mg) : FnOk P w K mg base CX0 1 T.f__law_whole T.d__law_whole ["_law_found"] (sp_whole) := by
  refine T.F__law_whole.ok sc__law_whole (fun vs H Q E h => ?_) (fun cdv A outer s H vs Q E hr h => ?_)
  · obtain ⟨i, rfl, _⟩ := h
    rfl
  · obtain ⟨i, rfl, q⟩ := h
    refine ⟨_, (pss_one (ps_ret (pe_and (pe_callB call_isi (by rfl) T.n_isinstance (by decide +kernel) (pa_cons (pv 0) (pa_cons (pe_bltn (v := .ty "int") (by rfl) T.n_int (by decide +kernel) rfl) pa_nil))) (pe_one (pe_not (pe_callB call_isi (by rfl) T.n_isinstance (by decide +kernel) (pa_cons (pv 0) (pa_cons (pe_bltn (v := .ty "bool") (by rfl) T.n_bool (by decide +kernel) rfl) pa_nil)))))))), ?_⟩
    exact p_ret (Ex.refl H) (ev_andV (a := true) (b := true) (ev_isiI (ev_var rfl) (by decide +kernel)) (fun _ => ev_notV (a := false) (ev_isiI (ev_var rfl) (by decide +kernel)))) q
def sp_tie : Sp := fun vs H Q _ => ∃ (c top : Int) (n : Nat), vs = [.int c, .int n, .int top] ∧ 2 ≤ n ∧ n ≤ 24 ∧ 1 ≤ top ∧ ∀ p H2, H p = none → Ex H H2 → H2 p = some (.tup (tv (tieOf n top c))) → Q (.ref p) H2
theorem ok__law_tie (T : Wd K mg) : FnOk P w K mg base CX0 1 T.f__law_tie T.d__law_tie ["_law_cell", "_law_many_here", "_law_top"] (sp_tie) := by
  refine T.F__law_tie.ok sc__law_tie (fun vs H Q E h => ?_) (fun cdv A outer s H vs Q E hr h => ?_)
  · obtain ⟨c, top, n, rfl, _⟩ := h
    rfl
  · obtain ⟨c, top, n, rfl, h1, h2, h3, q⟩ := h
    obtain ⟨m1, m2⟩ := mulN h1 h2
    refine ⟨_, (pss_cons (ps_set (i := 3) sc__law_tie.nd rfl (Or.inl rfl) (pe_op op_mod (pv 0) (pv 1))) (pss_cons (ps_set (i := 4) sc__law_tie.nd rfl (Or.inl rfl) (pe_op op_mod (pe_op op_add (pe_op op_add (pv 3) pe_int) (pe_op op_mod (pe_op op_fdiv (pv 0) (pv 1)) (pe_op op_sub (pv 1) pe_int))) (pv 1))) (pss_one (ps_ret (pe_tup (pa_cons (pv 3) (pa_cons (pv 4) (pa_cons (pe_op op_add pe_int (pe_op op_mod (pe_op op_fdiv (pv 0) (pe_op op_mul (pv 1) (pe_op op_sub (pv 1) pe_int))) (pv 2))) pa_nil)))))))), ?_⟩
    refine p_asg (Ex.refl H) (ev_op (ev_var rfl) (ev_var rfl) (rv_I (by omega : (0 : Int) < (n : Int)))) fun H1 e1 _ => ?_
    refine p_asg e1 (ev_op (ev_op (ev_op (ev_var rfl) ev_c rv_I0) (ev_op (ev_op (ev_var rfl) (ev_var rfl) (rv_I ⟨by omega, by omega⟩)) (ev_op (ev_var rfl) ev_c rv_I0) (rv_I (by omega : (0 : Int) < (n : Int) - 1))) rv_I0) (ev_var rfl) (rv_I (by omega : (0 : Int) < (n : Int)))) fun H2 e2 _ => ?_
    have a0 : 0 ≤ c % (n : Int) := Int.emod_nonneg _ (by omega)
    have a1 : c % (n : Int) < n := Int.emod_lt_of_pos _ (by omega)
    have r0 : 0 ≤ c / (n : Int) % ((n : Int) - 1) := Int.emod_nonneg _ (by omega)
    have r1 : c / (n : Int) % ((n : Int) - 1) < (n : Int) - 1 := Int.emod_lt_of_pos _ (by omega)
    obtain ⟨o1, o2, o3⟩ := otherOf a0 a1 r0 r1
    refine p_retU e2 (eu_is (eu_tup (ea_cons (ev_var rfl) (ea_cons (ev_var rfl) (ea_cons (ev_op ev_c (ev_op (ev_op (ev_var rfl) (ev_op (ev_var rfl) (ev_op (ev_var rfl) ev_c rv_I0) (rv_I (Or.inl (by omega)))) (rv_I ⟨m1, by omega⟩)) (ev_var rfl) (rv_I (by omega : (0 : Int) < top))) rv_I0) ea_nil))) (Nat.le_of_ble_eq_true rfl)) ?_) q
    unfold tv tieOf
    simp only [Int.toNat_of_nonneg a0, Int.toNat_of_nonneg o2]
theorem er_tie {n : Nat} {c top : Int} {H : Hp} {ta : TA} {σ : L2.St} {E : XK} (ha : EvA ta σ H [.int c, .int n, .int top]) (h1 : 2 ≤ n) (h2 : n ≤ 24) (h3 : 1 ≤ top) : EvR (tCall sp_tie [] E ta) σ H (fun _ v H2 => TieV K H2 v (tieOf n top c)) := fun H1 e Q q =>
  ha H1 e _ fun H2 e2 => ⟨c, top, n, rfl, h1, h2, h3, fun p H3 hp e3 h => q _ H3 (e2.trans e3) ⟨p, rfl, st_of h⟩⟩
def sp_due (K : PySem.W.Frag) : Sp := fun vs H Q _ => ∃ (l : Addr) (ts : List Tie) (i j : Nat), vs = [.ref l, .int i, .int j] ∧ TiesL K H l ts ∧ RetV (.int (costM ts i j)) H Q
theorem sv_due {l : Addr} {ts : List Tie} {i j : Nat} {H : Hp} (h : TiesL K H l ts) : SpV (sp_due K) [.ref l, .int i, .int j] H (.int (costM ts i j)) := fun H1 e Q q E => ⟨l, ts, i, j, rfl, h.ex e, q⟩
theorem ok__law_due (T : Wd K mg) : FnOk P w K mg base CX0 1 T.f__law_due T.d__law_due ["_law_ties_here", "_law_one", "_law_other"] (sp_due K) := by
  refine T.F__law_due.ok sc__law_due (fun vs H Q E h => ?_) (fun cdv A outer s H vs Q E hr h => ?_)
  · obtain ⟨l, ts, i, j, rfl, _⟩ := h
    rfl
  · obtain ⟨l, ts, i, j, rfl, ⟨xs, hl, tz⟩, k⟩ := h
    refine ⟨_, (pss_cons (ps_set (i := 3) sc__law_due.nd rfl (Or.inl rfl) pe_int) (pss_cons (ps_for PassesOwn.never rfl (pi_list (pv 0)) (pg_name (i := 4) sc__law_due.nd rfl (Or.inl rfl)) (pss_one (ps_if (PW.pt (pw_or (PW.pt (pw_and (pt_cmpR op_eq (pe_ix ix_tup (pv 4) pe_int (fun _ _ => rfl)) (pv 1) (nomark _)) (pw_and1 (pt_cmpR op_eq (pe_ix ix_tup (pv 4) pe_int (fun _ _ => rfl)) (pv 2) (nomark _))))) (pw_or1 (PW.pt (pw_and (pt_cmpR op_eq (pe_ix ix_tup (pv 4) pe_int (fun _ _ => rfl)) (pv 2) (nomark _)) (pw_and1 (pt_cmpR op_eq (pe_ix ix_tup (pv 4) pe_int (fun _ _ => rfl)) (pv 1) (nomark _)))))))) (pss_one (ps_set (i := 3) sc__law_due.nd rfl (Or.inl rfl) (pe_op op_add (pv 3) (pe_ix ix_tup (pv 4) pe_int (fun _ _ => rfl))))) pss_nil))) (pss_one (ps_ret (pv 3))))), ?_⟩
    refine p_asg (Ex.refl H) ev_c fun H2 e2 _ => ?_
    refine q_forLn (xs := xs) ((ev_var rfl : Ev _ _ H (.ref l)).mono e2) (ex_l e2 hl) (fun m σ' H' => Ex H H' ∧ ∃ u, σ' = [some (.ref l), some (.int i), some (.int j), some (.int (costM (ts.take m) i j)), u]) (fun H1 e1 => ⟨e2.trans e1, _, rfl⟩) (fun i σ' H' _ p => ex_l p.1 hl) ?_ ?_
    · rintro m y σ' H' hy ⟨e, u, rfl⟩
      obtain ⟨t, q, ht, rfl, hq⟩ := tz.get hy
      have et : costM (ts.take (m + 1)) i j = costM (ts.take m) i j + if (t.1 = i ∧ t.2.1 = j) ∨ (t.1 = j ∧ t.2.1 = i) then t.2.2 else 0 := by
        rw [take_snoc ht, costM_snoc]
      refine p_whenE (b := decide ((t.1 = i ∧ t.2.1 = j) ∨ (t.1 = j ∧ t.2.1 = i))) e (et_is (et_or (et_and (et_test (ev_op (ev_t0 (ev_var rfl) hq) (ev_var rfl) (rv_eq rfl))) (fun _ => et_test (ev_op (ev_t1 (ev_var rfl) hq) (ev_var rfl) (rv_eq rfl)))) (fun _ => et_and (et_test (ev_op (ev_t0 (ev_var rfl) hq) (ev_var rfl) (rv_eq rfl))) (fun _ => et_test (ev_op (ev_t1 (ev_var rfl) hq) (ev_var rfl) (rv_eq rfl))))) ?_) (fun hb H3 e3 _ => ?_) (fun hb H3 e3 _ => ?_)
      · simp only [V.int.injEq, Int.natCast_inj, Bool.decide_or, Bool.decide_and]
      · refine s_asg ((ev_op (ev_var rfl) (ev_t2 (ev_var rfl) hq) rv_I0 : Ev _ _ H _).mono e3) fun H4 e4 => ?_
        refine ⟨e3.trans e4, some (.ref q), ?_⟩
        rw [et, if_pos (of_decide_eq_true hb)]
        rfl
      · refine ⟨e3, some (.ref q), ?_⟩
        rw [et, if_neg (of_decide_eq_false hb), Int.add_zero]
        rfl
    · rintro σ' H' ⟨e, u, rfl⟩
      refine p_ret e (ev_var rfl) fun H1 e1 => ?_
      rw [tz.len, List.take_length]
      exact k H1 e1
end
end Toy

namespace Toy
open PySem L2 Evl RZ G
section
variable {P : Program} {w : World} {K : PySem.W.Frag} {mg : Str → Option Value} {base : Heap}
def manyOf (f : Int) : Nat := if f / 7 % 8 = 1 then (8 + f / 56 % 17).toNat else (1 + f % 7).toNat
theorem manyOf_b (f : Int) : 1 ≤ manyOf f ∧ manyOf f ≤ 24 := by
  unfold manyOf
  split <;> omega
def sp_many (K : PySem.W.Frag) : Sp := fun vs H Q _ => ∃ (a : Addr) (ns : List Int), vs = [.ref a] ∧ SqL K H a (ns.map V.int) ∧ RetV (.int (manyOf (cellA ns 0))) H Q
theorem sv_many {a : Addr} {ns : List Int} {H : Hp} (h : SqL K H a (ns.map V.int)) : SpV (sp_many K) [.ref a] H (.int (manyOf (cellA ns 0))) := fun H1 e Q q E => ⟨a, ns, rfl, ex_l e h, q⟩
theorem ok__law_many (T : Wd K mg) : FnOk P w K mg base CX0 2 T.f__law_many T.d__law_many ["_law_script"] (sp_many K) := by
  have G__law_cell_at := ok__law_cell_at (P := P) (w := w) (base := base) T
  refine T.F__law_many.ok sc__law_many (fun vs H Q E h => ?_) (fun cdv A outer s H vs Q E hr h => ?_)
  · obtain ⟨a, ns, rfl, _⟩ := h
    rfl
  · obtain ⟨a, ns, rfl, hs, q⟩ := h
    refine ⟨_, (pss_cons (ps_set (i := 1) sc__law_many.nd rfl (Or.inl rfl) (pe_call G__law_cell_at (hr.mono (by decide)) (by rfl) T.m__law_cell_at T.F__law_cell_at.kp T.b__law_cell_at .nil pass0 (pa_cons (pv 0) (pa_cons pe_int pa_nil)))) (pss_cons (ps_if (pt_cmpR op_eq (pe_op op_mod (pe_op op_fdiv (pv 1) pe_int) pe_int) pe_int (nomark _)) (pss_one (ps_ret (pe_op op_add pe_int (pe_op op_mod (pe_op op_fdiv (pv 1) pe_int) pe_int)))) pss_nil) (pss_one (ps_ret (pe_op op_add pe_int (pe_op op_mod (pv 1) pe_int)))))), ?_⟩
    refine p_asg (Ex.refl H) (ev_call (ea_cons (ev_var rfl) (ea_cons ev_c ea_nil)) (sv_cell (k := 0) hs)) fun H1 e1 _ => ?_
    refine p_when (b := decide (cellA ns 0 / 7 % 8 = 1)) e1 (et_is (et_test (ev_op (ev_op (ev_op (ev_var rfl) ev_c (rv_I ⟨by decide, by decide⟩)) ev_c (rv_I (by decide : (0 : Int) < 8))) ev_c (rv_eq rfl))) (by simp)) (fun hb H2 e2 _ => ?_) (fun hb H2 e2 _ => ?_)
    · refine p_ret e2 (ev_is (ev_op ev_c (ev_op (ev_op (ev_var rfl) ev_c (rv_I ⟨by decide, by decide⟩)) ev_c (rv_I (by decide : (0 : Int) < 17))) rv_I0) ?_) q
      unfold manyOf
      rw [if_pos (of_decide_eq_true hb)]
      congr 1
      omega
    · refine p_ret e2 (ev_is (ev_op ev_c (ev_op (ev_var rfl) ev_c (rv_I (by decide : (0 : Int) < 7))) rv_I0) ?_) q
      unfold manyOf
      rw [if_neg (of_decide_eq_false hb)]
      congr 1
      omega
/-- a list of good ties that was made anew -/
structure TiesNew (K : PySem.W.Frag) (H0 H : Hp) (p : Addr) (n m : Nat) (ts : List Tie) : Prop where
  fr : H0 p = none
  ls : ∃ xs, H p = some (.lst xs) ∧ TiesV K H xs ts
  good : ∀ t ∈ ts, Good n t
  len : ts.length ≤ m
theorem TiesNew.ex {H0 H H' : Hp} {p : Addr} {n m : Nat} {ts : List Tie} (h : TiesNew K H0 H p n m ts) (e : Ex H H') : TiesNew K H0 H' p n m ts := by
  obtain ⟨xs, a, b⟩ := h.ls
  exact ⟨h.fr, ⟨xs, e _ _ a, b.ex e⟩, h.good, h.len⟩
def sp_ties (K : PySem.W.Frag) : Sp := fun vs H Q _ => ∃ (a : Addr) (ns : List Int) (n : Nat), vs = [.ref a, .int n] ∧ SqL K H a (ns.map V.int) ∧ 1 ≤ n ∧ n ≤ 24 ∧ ∀ p ts H2, Ex H H2 → TiesNew K H H2 p n 300 ts → Q (.ref p) H2
theorem ok__law_ties (T : Wd K mg) : FnOk P w K mg base CX0 2 T.f__law_ties T.d__law_ties ["_law_script", "_law_many_here"] (sp_ties K) := by
  have G__law_tie := ok__law_tie (P := P) (w := w) (base := base) T
  have G__law_cell_at := ok__law_cell_at (P := P) (w := w) (base := base) T
  refine T.F__law_ties.ok sc__law_ties (fun vs H Q E h => ?_) (fun cdv A outer s H vs Q E hr h => ?_)
  · obtain ⟨a, ns, n, rfl, _⟩ := h
    rfl
  · obtain ⟨a, ns, n, rfl, hs, h1, h24, k⟩ := h
    refine ⟨_, (pss_cons (ps_if (pt_cmpR op_eq (pv 1) pe_int (nomark _)) (pss_one (ps_ret (pe_lst pa_nil))) pss_nil) (pss_cons (ps_set (i := 2) sc__law_ties.nd rfl (Or.inr rfl) (pe_ix ix_list (pe_lst (pa_cons pe_int (pa_cons pe_int (pa_cons pe_int pa_nil)))) (pe_op op_mod (pe_call G__law_cell_at (hr.mono (by decide)) (by rfl) T.m__law_cell_at T.F__law_cell_at.kp T.b__law_cell_at .nil pass0 (pa_cons (pv 0) (pa_cons pe_int pa_nil))) pe_int) (fun _ _ => rfl))) (pss_cons (ps_setLc (i := 3) (own := [("_law_cell", 4)]) (g := (gName 4)) (tt := tYes) rfl sc__law_ties.nd rfl rfl (sw_true rfl rfl rfl (by decide +kernel)) (pi_list (pe_slice sl_list (pv 0) (po_some pe_int) (po_some pe_int))) (blkOk_by (own := [("_law_cell", 4)]) (N := ["_law_script", "_law_many_here", "_law_top", "_law_ties_here", "_law_cell", "_law_one", "_law_other"]) (sc := defScope s__law_ties) (by decide +kernel)) (fun _ _ _ _ _ => (pg_name (i := 4) sc__law_ties.nd rfl (Or.inl rfl))) (fun _ _ _ _ _ => pts_nil) (fun _ _ _ _ _ => (pe_call G__law_tie (hr.mono (by decide)) (by rfl) T.m__law_tie T.F__law_tie.kp T.b__law_tie .nil pass0 (pa_cons (pv 4) (pa_cons (pv 1) (pa_cons (pv 2) pa_nil)))))) (pss_cons (ps_if (pt_cmpR op_eq (pe_op op_mod (pe_op op_fdiv (pe_call G__law_cell_at (hr.mono (by decide)) (by rfl) T.m__law_cell_at T.F__law_cell_at.kp T.b__law_cell_at .nil pass0 (pa_cons (pv 0) (pa_cons pe_int pa_nil))) pe_int) pe_int) pe_int (nomark _)) (pss_cons (ps_if (pt_cmpR op_gt (pv 1) pe_int (nomark _)) (pss_one (ps_set (i := 3) sc__law_ties.nd rfl (Or.inl rfl) (pe_slice sl_list (pv 3) po_none (po_some pe_int)))) pss_nil) (pss_one (ps_for PassesOwn.never rfl (pi_range1 (by rfl) T.n_range (pa_cons (pv 1) pa_nil)) (pg_name (i := 5) sc__law_ties.nd rfl (Or.inl rfl)) (pss_one (ps_for PassesOwn.never rfl (pi_range1 (by rfl) T.n_range (pa_cons (pv 5) pa_nil)) (pg_name (i := 6) sc__law_ties.nd rfl (Or.inl rfl)) (pss_one (ps_expr (pe_bm PySem.F.plainAttrs_list PySem.F.slot_list_append PySem.F.type_list_append mt_append (pv 3) (pa_cons (pe_tup (pa_cons (pv 6) (pa_cons (pv 5) (pa_cons (pe_op op_add pe_int (pe_op op_mod (pe_op op_add (pe_call G__law_cell_at (hr.mono (by decide)) (by rfl) T.m__law_cell_at T.F__law_cell_at.kp T.b__law_cell_at .nil pass0 (pa_cons (pv 0) (pa_cons pe_int pa_nil))) (pe_op op_mul (pv 5) (pv 6))) (pv 2))) pa_nil)))) pa_nil))))))))) pss_nil) (pss_one (ps_ret (pv 3))))))), ?_⟩
    refine p_when (b := decide (n = 1)) (Ex.refl H) (et_is (et_test (ev_op (ev_var rfl) ev_c (rv_eq rfl))) (by simp; omega)) (fun hb H1 e1 _ => ?_) (fun hb H1 e1 _ => ?_)
    · exact p_retL e1 (el_lst ea_nil (Nat.zero_le _)) fun p H2 hp e2 h2 => k p [] H2 e2 ⟨hp, ⟨[], h2, .nil⟩, (fun t ht => nomatch ht), Nat.zero_le _⟩
    · have h2 : 2 ≤ n := by have := of_decide_eq_false hb; omega
      obtain ⟨tb1, tb2⟩ := topOf_b (cellA ns 1)
      refine p_asg e1 (ev_pick (ea_cons ev_c (ea_cons ev_c (ea_cons ev_c ea_nil))) (Nat.le_of_ble_eq_true rfl) (ev_op (ev_call (ea_cons (ev_var rfl) (ea_cons ev_c ea_nil)) (sv_cell (k := 1) hs)) ev_c (rv_I (by decide : (0 : Int) < 3))) (topOf_at _)) fun H2 e2 _ => ?_
      generalize topOf (cellA ns 1) = top at tb1 tb2 ⊢
      generalize hcs : cutG ns (some ((4 : Nat) : Int)) (some ((54 : Nat) : Int)) = cs
      have hcs' : cutV (ns.map V.int) (some 4) (some 54) = cs.map V.int := by rw [← hcs]; exact cutV_map V.int ns _ _
      have hcl : cs.length ≤ 50 := by
        have := cutV_len (ns.map V.int) 4 54
        rw [show ((4 : Nat) : Int) = 4 from rfl, show ((54 : Nat) : Int) = 54 from rfl, hcs', List.length_map] at this
        omega
      refine p_asgLR (P := fun D ys H2 => Fills (fun i v H => TieV K H v (tieOf n top (cs.getD i 0))) ((List.range (cs.map V.int).length).filter fun _ => true) ys H2) e2 (el_cNL (fun _ => true) compTie (el_is (el_sl (ev_var rfl) (eo_some ev_c) (eo_some ev_c) hs) hcs') (by rw [List.length_map]; omega) ?_) ?_
      · intro i x hx
        refine ⟨_, ?w, fun H2 Q _ q => q, et_yes, fun _ => ?_⟩
        case w => rfl
        have hx' : x = .int (cs.getD i 0) := by
          rw [List.getElem?_map] at hx
          cases ec : cs[i]? with
          | none => rw [ec] at hx; cases hx
          | some c =>
            rw [ec] at hx
            have := Option.some.inj hx
            rw [← this]
            simp [List.getD, ec]
        subst hx'
        exact er_tie (ea_cons (ev_var rfl) (ea_cons (ev_var rfl) (ea_cons (ev_var rfl) ea_nil))) h2 h24 tb1
      · intro p ys H3 hp e3 _ hl hf
        rw [filter_yes, List.length_map] at hf
        have tz0 := hf.ties
        rw [range_getD (tieOf n top) cs 0] at tz0
        have fin : ∀ (p : Addr) (σ' : L2.St) (H' : Hp), σ'[3]? = some (some (.ref p)) → Ex H H' → (∃ ts, TiesNew K H H' p n 300 ts) → tRet (tVar 3) { nx := fun _ H' => Q .non H', rt := Q } σ' H' := fun p σ' H' hσ e ⟨ts, t⟩ =>
          p_ret (Ex.refl H') (ev_var hσ) fun H4 e4 => k p ts H4 (e.trans e4) (t.ex e4)
        have t0 : TiesNew K H H3 p n 50 (cs.map (tieOf n top)) := ⟨fresh_back e2 hp, ⟨ys, hl, tz0⟩, fun t ht => by
          obtain ⟨c, _, rfl⟩ := List.mem_map.mp ht
          exact tieOf_good h2 tb1 tb2, by rw [List.length_map]; exact hcl⟩
        generalize cs.map (tieOf n top) = ts0 at t0
        refine p_when (b := decide (cellA ns 1 / 3 % 4 = 0)) e3 (et_is (et_test (ev_op (ev_op (ev_op (ev_call (ea_cons (ev_var rfl) (ea_cons ev_c ea_nil)) (sv_cell (k := 1) hs)) ev_c (rv_I ⟨by decide, by decide⟩)) ev_c (rv_I (by decide : (0 : Int) < 4))) ev_c (rv_eq rfl))) (by simp)) (fun hb H4 e4 e34 => ?_) (fun hb H4 e4 e34 => fin p _ H4 rfl e4 ⟨ts0, (t0.ex e34).fr, (t0.ex e34).ls, t0.good, Nat.le_trans t0.len (by decide)⟩)
        have t4 := t0.ex e34
        have loop : ∀ (p : Addr) (H5 : Hp) (m : Nat) (ts : List Tie), Ex H H5 → TiesNew K H H5 p n m ts → m + tri n ≤ 300 → ∀ u v x, tFor (iRng1 (tCons (tVar 1) tNil)) (gName 5) (tFor (iRng1 (tCons (tVar 5) tNil)) (gName 6) (tDrop (tBM K "list" rAppend (tVar 3) (tCons (tTup (tCons (tVar 6) (tCons (tVar 5) (tCons (tOp (rI0 fun i j => .int (i + j)) (tC (.int 1)) (tOp (rI (fun _ j => 0 < j) fun i j => .int (i % j)) (tOp (rI0 fun i j => .int (i + j)) (tCall (sp_cell_at K) [] E0 (tCons (tVar 0) (tCons (tC (.int 2)) tNil))) (tOp (rI CMul fun i j => .int (i * j)) (tVar 5) (tVar 6))) (tVar 2))) tNil)))) tNil))))
            { nx := tRet (tVar 3) { nx := fun _ H' => Q .non H', rt := Q }, rt := Q } [some (.ref a), some (.int n), some (.int top), some (.ref p), u, v, x] H5 := by
          intro p H5 m ts e5 t5 hm u v x
          refine s_forR1 (n := (n : Int)) (ea_cons (ev_var rfl) ea_nil) (by omega) (fun i σ' H' => ∃ ts v x, σ' = [some (.ref a), some (.int n), some (.int top), some (.ref p), u, v, x] ∧ Ex H H' ∧ TiesNew K H H' p n (m + tri i) ts) (fun H6 e6 => ⟨ts, v, x, rfl, e5.trans e6, t5.ex e6⟩) ?_ ?_
          · rintro i σ' H' hi ⟨ts, v, x, rfl, e6, t6⟩
            have hin : i < n := by omega
            refine s_forR1 (n := (i : Int)) (ea_cons (ev_var rfl) ea_nil) (by omega) (fun j σ' H' => ∃ ts x, σ' = [some (.ref a), some (.int n), some (.int top), some (.ref p), u, some (.int i), x] ∧ Ex H H' ∧ TiesNew K H H' p n (m + tri i + j) ts) (fun H6 e7 => ⟨ts, x, rfl, e6.trans e7, t6.ex e7⟩) ?_ ?_
            · rintro j σ' H' hj ⟨ts, x, rfl, e7, t7⟩
              obtain ⟨xs, hl, tz⟩ := t7.ls
              have hlen : xs.length < 100000 := by
                rw [tz.len]
                have := t7.len
                have := tri24 i (by omega)
                omega
              refine s_appU hl (ev_var rfl) (eu_tup (ea_cons (ev_var rfl) (ea_cons (ev_var rfl) (ea_cons (ev_op ev_c (ev_op (ev_op (ev_call (ea_cons (ev_var rfl) (ea_cons ev_c ea_nil)) (sv_cell (k := 2) (ex_l e7 hs))) (ev_op (ev_var rfl) (ev_var rfl) (rv_I (Or.inl (by omega)))) rv_I0) (ev_var rfl) (rv_I (by omega : (0 : Int) < top))) rv_I0) ea_nil))) (Nat.le_of_ble_eq_true rfl)) hlen fun q H8 hq e8 hq8 => ?_
              have hl8 := e8 _ _ hl
              have r0 : 0 ≤ (cellA ns 2 + (i : Int) * (j : Int)) % top := Int.emod_nonneg _ (by omega)
              have r1 : (cellA ns 2 + (i : Int) * (j : Int)) % top < top := Int.emod_lt_of_pos _ (by omega)
              refine ⟨ts ++ [(j, i, 1 + (cellA ns 2 + (i : Int) * (j : Int)) % top)], some (.int j), rfl, (e7.trans e8).mut t7.fr, t7.fr, ⟨_, upd_same, ((tz.ex e8).snoc (t := (j, i, 1 + (cellA ns 2 + (i : Int) * (j : Int)) % top)) ⟨q, rfl, st_of hq8⟩).updL hl8⟩, fun t ht => ?_, ?_⟩
              · rcases List.mem_append.mp ht with ht | ht
                · exact t7.good t ht
                · have e := List.mem_singleton.mp ht
                  subst e
                  refine ⟨?_, ?_, ?_, ?_, ?_⟩
                  · show j < n
                    omega
                  · show i < n
                    omega
                  · show j ≠ i
                    omega
                  · show 1 ≤ 1 + (cellA ns 2 + (i : Int) * (j : Int)) % top
                    omega
                  · show 1 + (cellA ns 2 + (i : Int) * (j : Int)) % top ≤ 1000000000
                    omega
              · have := t7.len
                rw [List.length_append]
                show ts.length + 1 ≤ _
                omega
            · rintro σ' H' ⟨ts, x, rfl, e7, t7⟩
              refine ⟨ts, some (.int i), x, rfl, e7, t7.fr, t7.ls, t7.good, ?_⟩
              have := t7.len
              have e : tri (i + 1) = tri i + i := rfl
              have e2 : (i : Int).toNat = i := rfl
              rw [e]
              rw [e2] at this
              omega
          · rintro σ' H' ⟨ts, v, x, rfl, e6, t6⟩
            refine fin p _ H' rfl e6 ⟨ts, t6.fr, t6.ls, t6.good, ?_⟩
            have := t6.len
            have e2 : (n : Int).toNat = n := rfl
            rw [e2] at this
            omega
        refine p_when (b := decide (20 < n)) e4 (et_is (et_test (ev_op (ev_var rfl) ev_c rv_I0)) (by simp; omega)) (fun hb H5 e5 e45 => ?_) (fun hb H5 e5 e45 => ?_)
        · obtain ⟨xs, hl5, tz5⟩ := (t4.ex e45).ls
          refine s_asgL (el_sl (ev_var rfl) eo_none (eo_some ev_c) (sq_of hl5)) fun p' H6 hp' e6 hl6 => ?_
          refine loop p' H6 24 (ts0.take 24) (e5.trans e6) ⟨fresh_back e5 hp', ⟨_, hl6, (tz5.cut 24).ex e6⟩, fun t ht => t0.good t (List.mem_of_mem_take ht), by rw [List.length_take]; omega⟩ ?_ _ _ _
          have := tri24 n (by omega)
          omega
        · refine loop p H5 50 ts0 e5 (t4.ex e45) ?_ _ _ _
          have := of_decide_eq_false hb
          have := tri20 n (by omega)
          omega

def sp_same_ties (K : PySem.W.Frag) : Sp := fun vs H Q _ => ∃ (a b : Addr) (ts : List Tie), vs = [.ref a, .ref b] ∧ TiesL K H a ts ∧ TiesL K H b ts ∧ RetV (.bl true) H Q
theorem sv_same_ties {a b : Addr} {ts : List Tie} {H : Hp} (ha : TiesL K H a ts) (hb : TiesL K H b ts) : SpV (sp_same_ties K) [.ref a, .ref b] H (.bl true) := fun H1 e Q q E => ⟨a, b, ts, rfl, ha.ex e, hb.ex e, q⟩
theorem ok__law_same_ties (T : Wd K mg) : FnOk P w K mg base CX0 2 T.f__law_same_ties T.d__law_same_ties ["_law_found", "_law_ties_here"] (sp_same_ties K) := by
  have G__law_whole := ok__law_whole (P := P) (w := w) (base := base) T
  refine T.F__law_same_ties.ok sc__law_same_ties (fun vs H Q E h => ?_) (fun cdv A outer s H vs Q E hr h => ?_)
  · obtain ⟨a, b, ts, rfl, _⟩ := h
    rfl
  · obtain ⟨a, b, ts, rfl, ⟨xs, ha, tx⟩, ⟨ys, hb, ty⟩, k⟩ := h
    have hxy : xs.length = ys.length := tx.len.trans ty.len.symm
    refine ⟨_, (pss_cons (ps_if (PW.pt (pw_or (pt_not (pt_val (pe_callB call_isi (by rfl) T.n_isinstance (by decide +kernel) (pa_cons (pv 0) (pa_cons (pe_bltn (v := .ty "list") (by rfl) T.n_list (by decide +kernel) rfl) pa_nil))))) (pw_or1 (pt_cmpR op_ne (pe_callB call_len_seq (by rfl) T.n_len (by decide +kernel) (pa_cons (pv 0) pa_nil)) (pe_callB call_len_seq (by rfl) T.n_len (by decide +kernel) (pa_cons (pv 1) pa_nil)) (nomark _))))) (pss_one (ps_ret pe_bl)) pss_nil) (pss_cons (ps_for PassesOwn.never rfl (pi_zip (by rfl) T.n_zip (pa_cons (pv 0) (pa_cons (pv 1) pa_nil))) (pg_tup (by rfl) (pgs_cons (pg_name (i := 2) sc__law_same_ties.nd rfl (Or.inl rfl)) (pgs_cons (pg_name (i := 3) sc__law_same_ties.nd rfl (Or.inl rfl)) pgs_nil))) (pss_cons (ps_if (PW.pt (pw_or (pt_not (pt_val (pe_callB call_isi (by rfl) T.n_isinstance (by decide +kernel) (pa_cons (pv 2) (pa_cons (pe_bltn (v := .ty "tuple") (by rfl) T.n_tuple (by decide +kernel) rfl) pa_nil))))) (pw_or (pt_cmpR op_ne (pe_callB call_len_seq (by rfl) T.n_len (by decide +kernel) (pa_cons (pv 2) pa_nil)) pe_int (nomark _)) (pw_or1 (pt_cmpR (op_neD hr.units) (pv 2) (pv 3) (nomark _)))))) (pss_one (ps_ret pe_bl)) pss_nil) (pss_one (ps_if (PW.pt (pw_or (pt_not (pt_val (pe_call G__law_whole (hr.mono (by decide)) (by rfl) T.m__law_whole T.F__law_whole.kp T.b__law_whole .nil pass0 (pa_cons (pe_ix ix_tup (pv 2) pe_int (fun _ _ => rfl)) pa_nil)))) (pw_or (pt_not (pt_val (pe_call G__law_whole (hr.mono (by decide)) (by rfl) T.m__law_whole T.F__law_whole.kp T.b__law_whole .nil pass0 (pa_cons (pe_ix ix_tup (pv 2) pe_int (fun _ _ => rfl)) pa_nil)))) (pw_or1 (pt_not (pt_val (pe_call G__law_whole (hr.mono (by decide)) (by rfl) T.m__law_whole T.F__law_whole.kp T.b__law_whole .nil pass0 (pa_cons (pe_ix ix_tup (pv 2) pe_int (fun _ _ => rfl)) pa_nil)))))))) (pss_one (ps_ret pe_bl)) pss_nil)))) (pss_one (ps_ret pe_bl)))), ?_⟩
    refine p_no (Ex.refl H) (et_is (et_or (a := false) (et_is (et_not (et_B (ev_isiL (b := true) (ev_var rfl) ha (by decide +kernel)))) rfl) (fun _ => et_test (ev_op (ev_lenS (ev_var rfl) (Or.inl ha)) (ev_lenS (ev_var rfl) (Or.inl hb)) (rv_ne rfl)))) (by simp [hxy])) fun H1 e1 _ => ?_
    refine ⟨_, rfl, _, rfl, a, b, xs, ys, rfl, ex_l e1 ha, ex_l e1 hb, for_zipL hxy (fun i σ' H' => Ex H H' ∧ ∃ u v, σ' = [some (.ref a), some (.ref b), u, v]) ⟨e1, _, _, rfl⟩ (fun i σ' H' p => ⟨ex_l p.1 ha, ex_l p.1 hb⟩) ?_ ?_⟩
    · rintro i x y T σ' H' hx hy ⟨e, u, v, rfl⟩ hT
      obtain ⟨t, q, ht, rfl, hq⟩ := tx.get hx
      obtain ⟨t', q', ht', rfl, hq'⟩ := ty.get hy
      have et : t = t' := Option.some.inj (ht.symm.trans ht')
      subst et
      refine ⟨T, _, rfl, st_of upd_same, rfl, _, _, rfl, _, _, rfl, rfl, ?_⟩
      have e1 := e.trans (Ex.new (o := .tup [.ref q, .ref q']) hT)
      refine p_no e1 (et_is (et_or (a := false) (et_is (et_not (et_B (ev_isiT (b := true) (ev_var rfl) hq (by decide +kernel)))) rfl) (fun _ => et_or (a := false) (et_is (et_test (ev_op (ev_lenS (ev_var rfl) (Or.inr hq)) ev_c (rv_ne rfl))) rfl) (fun _ => et_test (ev_is (ev_op (ev_var rfl) (ev_var rfl) (rv_neD (dp_tie ⟨q, rfl, hq⟩) (dp_tie ⟨q', rfl, hq'⟩) (sh_intsT _) (sh_intsT _))) (by rw [eqv_intsT]))))) (by simp)) fun H2 e2 _ => ?_
      refine p_noE e2 (et_is (et_or (a := false) (et_is (et_not (et_B (ev_call (ea_cons (ev_t0 (ev_var rfl) hq) ea_nil) sv_whole))) rfl) (fun _ => et_or (a := false) (et_is (et_not (et_B (ev_call (ea_cons (ev_t1 (ev_var rfl) hq) ea_nil) sv_whole))) rfl) (fun _ => et_not (et_B (ev_call (ea_cons (ev_t2 (ev_var rfl) hq) ea_nil) sv_whole))))) rfl) fun H3 e3 _ => ?_
      exact ⟨e3, _, _, rfl⟩
    · rintro σ' H' ⟨e, u, v, rfl⟩
      show tRet (tC (.bl true)) { nx := fun _ H' => Q .non H', rt := Q } [some (.ref a), some (.ref b), u, v] H'
      exact p_ret e ev_c k
theorem costM_self {n : Nat} {ts : List Tie} (g : ∀ t ∈ ts, Good n t) (i : Nat) : costM ts i i = 0 := by
  unfold costM
  rw [List.map_congr_left (g := fun _ => (0 : Int)) (fun t ht => if_neg (fun h => by
    have := (g t ht).ne
    rcases h with ⟨a, b⟩ | ⟨a, b⟩ <;> omega))]
  induction ts with
  | nil => rfl
  | cons t ts ih => rw [List.map_cons, List.sum_cons, ih (fun t ht => g t (List.mem_cons_of_mem _ ht))]; rfl
theorem beside_succ (n : Nat) (ts : List Tie) (i : Nat) : besideOf (n + 1) ts i = besideOf n ts i ++ if decide (costM ts i n > 0) = true then [n] else [] := by
  unfold besideOf
  rw [List.range_succ, List.filter_append, List.filter_cons]
  rfl
def sp_around (K : PySem.W.Frag) (C : Addr) : Sp := fun vs H Q _ => ∃ (x l : Addr) (ts : List Tie) (n i : Nat), vs = [.ref x, .ref l, .int n, .int i] ∧ NetAt K C H x n ts ∧ TiesL K H l ts ∧ i < n ∧ RetV (.bl true) H Q
theorem sv_around {C x l : Addr} {ts : List Tie} {n i : Nat} {H : Hp} (N : NetAt K C H x n ts) (hl : TiesL K H l ts) (hi : i < n) : SpV (sp_around K C) [.ref x, .ref l, .int n, .int i] H (.bl true) := fun H1 e Q q E => ⟨x, l, ts, n, i, rfl, N.ex e, hl.ex e, hi, q⟩
theorem ok__law_around_right (T : Wd K mg) : FnOk P w K mg base CX0 6 T.f__law_around_right T.d__law_around_right ["_law_net", "_law_ties_here", "_law_many_here", "_law_place"] (sp_around K T.C_Net) := by
  have G_Net_beside := ok_Net_beside (P := P) (w := w) (base := base) T
  have G__law_due := ok__law_due (P := P) (w := w) (base := base) T
  have G_Net_between := ok_Net_between (P := P) (w := w) (base := base) T
  have G__law_whole := ok__law_whole (P := P) (w := w) (base := base) T
  refine T.F__law_around_right.ok sc__law_around_right (fun vs H Q E h => ?_) (fun cdv A outer s H vs Q E hr h => ?_)
  · obtain ⟨x, l, ts, n, i, rfl, _⟩ := h
    rfl
  · obtain ⟨x, l, ts, n, i, rfl, N, hl, hi, k⟩ := h
    have hn := N.hi
    refine ⟨_, (pss_cons (ps_set (i := 4) sc__law_around_right.nd rfl (Or.inl rfl) (pe_lst pa_nil)) (pss_cons (ps_for PassesOwn.never rfl (pi_range1 (by rfl) T.n_range (pa_cons (pv 2) pa_nil)) (pg_name (i := 5) sc__law_around_right.nd rfl (Or.inl rfl)) (pss_one (ps_if (pt_cmpR op_ne (pv 5) (pv 3) (nomark _)) (pss_cons (ps_set (i := 6) sc__law_around_right.nd rfl (Or.inl rfl) (pe_call G__law_due (hr.mono (by decide)) (by rfl) T.m__law_due T.F__law_due.kp T.b__law_due .nil pass0 (pa_cons (pv 1) (pa_cons (pv 3) (pa_cons (pv 5) pa_nil))))) (pss_cons (ps_set (i := 7) sc__law_around_right.nd rfl (Or.inl rfl) (pe_meth (pv 0) T.cl_Net T.mt_Net_between G_Net_between (hr.mono (by decide)) T.b_Net_between .nil pass0 (pa_cons (pv 3) (pa_cons (pv 5) pa_nil)))) (pss_cons (ps_if (PW.pt (pw_or (pt_not (pt_val (pe_call G__law_whole (hr.mono (by decide)) (by rfl) T.m__law_whole T.F__law_whole.kp T.b__law_whole .nil pass0 (pa_cons (pv 7) pa_nil)))) (pw_or1 (pt_cmpR op_ne (pv 7) (pv 6) (nomark _))))) (pss_one (ps_ret pe_bl)) pss_nil) (pss_one (ps_if (pt_cmpR op_gt (pv 6) pe_int (nomark _)) (pss_one (ps_expr (pe_bm PySem.F.plainAttrs_list PySem.F.slot_list_append PySem.F.type_list_append mt_append (pv 4) (pa_cons (pv 5) pa_nil)))) pss_nil))))) pss_nil))) (pss_cons (ps_set (i := 7) sc__law_around_right.nd rfl (Or.inl rfl) (pe_meth (pv 0) T.cl_Net T.mt_Net_beside G_Net_beside (hr.mono (by decide)) T.b_Net_beside .nil pass0 (pa_cons (pv 3) pa_nil))) (pss_cons (ps_expr (pe_bm PySem.F.plainAttrs_list PySem.F.slot_list_append PySem.F.type_list_append mt_append (pe_meth (pv 0) T.cl_Net T.mt_Net_beside G_Net_beside (hr.mono (by decide)) T.b_Net_beside .nil pass0 (pa_cons (pe_op op_mod (pe_op op_add (pv 3) pe_int) (pv 2)) pa_nil)) (pa_cons (pe_op op_sub pe_int (pv 2)) pa_nil))) (pss_cons (ps_if (PW.pt (pw_or (pt_not (pt_val (pe_callB call_isi (by rfl) T.n_isinstance (by decide +kernel) (pa_cons (pv 7) (pa_cons (pe_bltn (v := .ty "list") (by rfl) T.n_list (by decide +kernel) rfl) pa_nil))))) (pw_or1 (pt_cmpR (op_neD hr.units) (pv 7) (pv 4) (nomark _))))) (pss_one (ps_ret pe_bl)) pss_nil) (pss_cons (ps_for PassesOwn.never rfl (pi_list (pv 7)) (pg_name (i := 5) sc__law_around_right.nd rfl (Or.inl rfl)) (pss_one (ps_if (pt_not (pt_val (pe_call G__law_whole (hr.mono (by decide)) (by rfl) T.m__law_whole T.F__law_whole.kp T.b__law_whole .nil pass0 (pa_cons (pv 5) pa_nil)))) (pss_one (ps_ret pe_bl)) pss_nil))) (pss_cons (ps_expr (pe_bm PySem.F.plainAttrs_list PySem.F.slot_list_append PySem.F.type_list_append mt_append (pv 7) (pa_cons (pv 2) pa_nil))) (pss_one (ps_ret (pe_cmpR (op_eqD hr.units) (pe_meth (pv 0) T.cl_Net T.mt_Net_beside G_Net_beside (hr.mono (by decide)) T.b_Net_beside .nil pass0 (pa_cons (pv 3) pa_nil)) (pv 4) (nomark _))))))))))), ?_⟩
    refine p_asgL (Ex.refl H) (el_lst ea_nil (Nat.zero_le _)) fun d H1 hd e1 _ h1 => ?_
    refine q_forR1 (n := (n : Int)) (ea_cons (ev_var rfl) ea_nil) (by omega) (fun j σ' H' => Ex H H' ∧ H' d = some (.lst (IL (besideOf j ts i))) ∧ ∃ u v z, σ' = [some (.ref x), some (.ref l), some (.int n), some (.int i), some (.ref d), u, v, z]) (fun H2 e2 => ⟨e1.trans e2, e2 _ _ h1, _, _, _, rfl⟩) ?_ ?_
    · rintro j σ' H' hj ⟨e, hd', u, v, z, rfl⟩
      have hj' : j < n := by omega
      refine p_whenE (b := decide (j ≠ i)) e (et_is (et_test (ev_op (ev_var rfl) (ev_var rfl) (rv_ne rfl))) (by simp; omega)) (fun hb H2 e2 e2' => ?_) (fun hb H2 e2 e2' => ?_)
      · have hne : i ≠ j := (of_decide_eq_true hb).symm
        refine p_asg e2 (ev_call (ea_cons (ev_var rfl) (ea_cons (ev_var rfl) (ea_cons (ev_var rfl) ea_nil))) (sv_due hl)) fun H3 e3 e3' => ?_
        refine p_asg e3 (ev_between (ev_var rfl) (ev_var rfl) (ev_var rfl) N hi hj' hne) fun H4 e4 e4' => ?_
        refine p_no e4 (et_is (et_or (a := false) (et_is (et_not (et_B (ev_call (ea_cons (ev_var rfl) ea_nil) sv_whole))) rfl) (fun _ => et_test (ev_op (ev_var rfl) (ev_var rfl) (rv_ne rfl)))) (by simp)) fun H5 e5 e5' => ?_
        have hd5 := e5' _ _ (e4' _ _ (e3' _ _ (e2' _ _ hd')))
        refine p_whenE (b := decide (costM ts i j > 0)) e5 (et_is (et_test (ev_op (ev_var rfl) ev_c rv_I0)) rfl) (fun hb' H6 e6 e6' => ?_) (fun hb' H6 e6 e6' => ?_)
        · refine s_app (e6' _ _ hd5) (ev_var rfl) (ev_var rfl) ?_ fun H7 e7 => ?_
          · rw [IL_len]
            have : (besideOf j ts i).length ≤ j := by
              have h := List.length_filter_le (fun k => decide (costM ts i k > 0)) (List.range j)
              rw [List.length_range] at h
              exact h
            omega
          · refine ⟨(e6.trans e7).mut hd, ?_, some (.int j), some (.int (costM ts i j)), some (.int (costM ts i j)), rfl⟩
            rw [upd_same, beside_succ, if_pos hb']
            unfold IL
            rw [List.map_append]
            rfl
        · refine ⟨e6, ?_, some (.int j), some (.int (costM ts i j)), some (.int (costM ts i j)), rfl⟩
          rw [beside_succ, if_neg (by rw [hb']; decide), List.append_nil]
          exact e6' _ _ hd5
      · have hne : j = i := by have := of_decide_eq_false hb; omega
        subst hne
        refine ⟨e2, ?_, some (.int j), v, z, rfl⟩
        rw [beside_succ, costM_self N.good, if_neg (by decide), List.append_nil]
        exact e2' _ _ hd'
    · rintro σ' H' ⟨e, hd', u, v, z, rfl⟩
      have en : (n : Int).toNat = n := rfl
      rw [en] at hd'
      have N' := N.ex e
      refine q_asgL (el_beside (ev_var rfl) (ev_var rfl) N' hi) fun f H2 hf e2 h2 => ?_
      refine q_appNew (el_beside (i := (i + 1) % n) (ev_var rfl) (ev_is (ev_op (ev_op (ev_var rfl) ev_c rv_I0) (ev_var rfl) (rv_I (by omega : (0 : Int) < (n : Int)))) (by push_cast; rfl)) (N'.ex e2) (Nat.mod_lt _ (by omega))) (ev_op ev_c (ev_var rfl) rv_I0) ?_ fun H3 e3 => ?_
      · rw [IL_len]
        have h := List.length_filter_le (fun k => decide (costM ts ((i + 1) % n) k > 0)) (List.range n)
        rw [List.length_range] at h
        have : (besideOf n ts ((i + 1) % n)).length ≤ n := h
        omega
      · have hf3 := e3 _ _ h2
        have hd3 := e3 _ _ (e2 _ _ hd')
        refine p_no (Ex.refl H3) (et_is (et_or (a := false) (et_is (et_not (et_B (ev_isiL (b := true) (ev_var rfl) (sq_of hf3) (by decide +kernel)))) rfl) (fun _ => et_test (ev_is (ev_op (ev_var rfl) (ev_var rfl) (rv_neD (dp_IL (sq_of hf3)) (dp_IL (sq_of hd3)) (sh_ints _) (sh_ints _))) (by rw [eqv_intsL])))) (by simp)) fun H4 e4 _ => ?_
        have hf4 := e4 _ _ hf3
        refine q_forLn (xs := IL (besideOf n ts i)) (ev_var rfl) (sq_of hf4) (fun m σ' H' => Ex H4 H' ∧ ∃ u v, σ' = [some (.ref x), some (.ref l), some (.int n), some (.int i), some (.ref d), u, v, some (.ref f)]) (fun H1 e1 => ⟨e1, _, _, rfl⟩) (fun m σ' H' _ p => ex_l p.1 (sq_of hf4)) ?_ ?_
        · rintro m y σ' H' hy ⟨e5, u, v, rfl⟩
          obtain ⟨q, hq, rfl⟩ := IL_get hy
          refine p_noE e5 (et_is (et_not (et_B (ev_call (ea_cons (ev_var rfl) ea_nil) sv_whole))) rfl) fun H6 e6 _ => ?_
          exact ⟨e6, _, _, rfl⟩
        · rintro σ' H' ⟨e5, u, v, rfl⟩
          refine q_app (e5 _ _ hf4) (ev_var rfl) (ev_var rfl) ?_ fun H6 e6 => ?_
          · rw [IL_len]
            have h := List.length_filter_le (fun k => decide (costM ts i k > 0)) (List.range n)
            rw [List.length_range] at h
            have : (besideOf n ts i).length ≤ n := h
            omega
          · have eh : Ex H' (upd H6 f (.lst (IL (besideOf n ts i) ++ [.int (n : Int)]))) ∨ True := Or.inr trivial
            have e0 : Ex H (upd H6 f (.lst (IL (besideOf n ts i) ++ [.int (n : Int)]))) := ((((e.trans e2).trans e3).trans e4).trans (e5.trans e6)).mut (fresh_back e hf)
            have hd6 : upd H6 f (.lst (IL (besideOf n ts i) ++ [.int (n : Int)])) d = some (.lst (IL (besideOf n ts i))) := by
              rw [upd_ne (ne_of_none hd' hf)]
              exact e6 _ _ (e5 _ _ (e4 _ _ hd3))
            refine s_ret (ev_is (ev_opL1 (el_beside (ev_var rfl) (ev_var rfl) (N.ex e0) hi) (fun H1 e => ev_var rfl) (fun p H1 hp eh => rv_eqD (dp_IL (sq_of hp)) (dp_IL (sq_of (eh _ _ hd6))) (sh_ints _) (sh_ints _))) (by rw [eqv_intsL]; simp)) fun H7 e7 => k H7 (e0.trans e7)

theorem er_lties {σ : L2.St} {H : Hp} {ta : TA} {E : XK} {a : Addr} {ns : List Int} {n : Nat} (ha : EvA ta σ H [.ref a, .int n]) (hs : SqL K H a (ns.map V.int)) (h1 : 1 ≤ n) (h2 : n ≤ 24) : EvR (tCall (sp_ties K) [] E ta) σ H (fun H1 v H2 => ∃ p ts, v = .ref p ∧ TiesNew K H1 H2 p n 300 ts) := fun H1 e Q q =>
  ha H1 e _ fun H2 e2 => ⟨a, ns, n, rfl, ex_l (e.trans e2) hs, h1, h2, fun p ts H3 e3 t => q _ H3 (e2.trans e3) ⟨p, ts, rfl, fresh_back e2 t.fr, t.ls, t.good, t.len⟩⟩
end
end Toy

namespace Toy
open PySem L2 Evl RZ G
section
variable {P : Program} {w : World} {K : PySem.W.Frag} {mg : Str → Option Value} {base : Heap}
def spLaw (K : PySem.W.Frag) : Sp := fun vs H Q _ => ∃ (a : Addr) (ns : List Int), vs = [.ref a] ∧ SqL K H a (ns.map V.int) ∧ ns.length ≤ 63 ∧ ∀ H', Q (.bl true) H'
theorem cutP_nil (ts : List Tie) : cutP ts [] = 0 := by
  unfold cutP
  rw [List.map_congr_left (g := fun _ => (0 : Int)) (fun t _ => by simp)]
  induction ts with
  | nil => rfl
  | cons t ts ih => rw [List.map_cons, List.sum_cons, ih]; rfl
theorem cutP_all {n : Nat} {ts : List Tie} (g : ∀ t ∈ ts, Good n t) : cutP ts (List.range n) = 0 := by
  unfold cutP
  rw [List.map_congr_left (g := fun _ => (0 : Int)) (fun t ht => by simp [(g t ht).one, (g t ht).two])]
  clear g
  induction ts with
  | nil => rfl
  | cons t ts ih => rw [List.map_cons, List.sum_cons, ih]; rfl
theorem cutP_other {n : Nat} {ts : List Tie} {ms rs : List Nat} (g : ∀ t ∈ ts, Good n t) (h : ∀ k, k < n → (k ∈ ms ↔ ¬ k ∈ rs)) : cutP ts rs = cutP ts ms := by
  unfold cutP
  congr 1
  refine List.map_congr_left fun t ht => ?_
  have a := h t.1 (g t ht).one
  have b := h t.2.1 (g t ht).two
  by_cases x : t.1 ∈ rs <;> by_cases y : t.2.1 ∈ rs <;> simp [a, b, x, y]
theorem rgV_IL (n : Nat) : rgV 0 (n : Int) = IL (List.range n) := by
  unfold rgV IL
  have e : ((n : Int) - 0).toNat = n := by omega
  rw [e]
  refine List.map_congr_left fun i _ => ?_
  rw [Int.zero_add]
theorem el_listRg {σ : L2.St} {H : Hp} {ta : TE} {n : Nat} (ha : Ev ta σ H (.int (n : Int))) (hn : n ≤ 1000) : EvL (tLstRg (tRg1 ta)) σ H (IL (List.range n)) := fun H1 e Q q =>
  ha H1 e _ fun H2 e2 => ⟨(n : Int), rfl, RgOk.of_le (by omega) (by omega) (by omega) (by omega), fun p hp => q p _ (fresh_back e2 hp) (e2.trans (Ex.new hp)) (by rw [upd_same, rgV_IL])⟩
/-- what stands of the two sides after k places -/
structure Halves (k : Nat) (ms rs : List Nat) : Prop where
  lm : ∀ p ∈ ms, p < k
  lr : ∀ p ∈ rs, p < k
  nm : ms.Nodup
  nr : rs.Nodup
  ex : ∀ p, p < k → (p ∈ ms ↔ ¬ p ∈ rs)
  zm : ms.length ≤ k
  zr : rs.length ≤ k
theorem nodup_snoc {ms : List Nat} {k : Nat} (h : ms.Nodup) (l : ∀ p ∈ ms, p < k) : (ms ++ [k]).Nodup := by
  rw [List.nodup_append]
  refine ⟨h, by simp, fun a ha b hb => ?_⟩
  have := l a ha
  have e : b = k := List.mem_singleton.mp hb
  omega
theorem Halves.left {k : Nat} {ms rs : List Nat} (h : Halves k ms rs) : Halves (k + 1) (ms ++ [k]) rs := by
  refine ⟨fun p hp => ?_, fun p hp => Nat.lt_succ_of_lt (h.lr p hp), nodup_snoc h.nm h.lm, h.nr, fun p hp => ?_, by have := h.zm; simp; omega, Nat.le_succ_of_le h.zr⟩
  · rcases List.mem_append.mp hp with q | q
    · exact Nat.lt_succ_of_lt (h.lm p q)
    · have e : p = k := List.mem_singleton.mp q
      omega
  · by_cases e : p = k
    · subst e
      refine ⟨fun _ q => absurd (h.lr _ q) (Nat.lt_irrefl _), fun _ => List.mem_append.mpr (.inr (List.mem_singleton.mpr rfl))⟩
    · rw [List.mem_append, List.mem_singleton, h.ex p (by omega)]
      exact ⟨fun q => q.elim id (fun q => absurd q e), .inl⟩
theorem Halves.right {k : Nat} {ms rs : List Nat} (h : Halves k ms rs) : Halves (k + 1) ms (rs ++ [k]) := by
  refine ⟨fun p hp => Nat.lt_succ_of_lt (h.lm p hp), fun p hp => ?_, h.nm, nodup_snoc h.nr h.lr, fun p hp => ?_, Nat.le_succ_of_le h.zm, by have := h.zr; simp; omega⟩
  · rcases List.mem_append.mp hp with q | q
    · exact Nat.lt_succ_of_lt (h.lr p q)
    · have e : p = k := List.mem_singleton.mp q
      omega
  · by_cases e : p = k
    · subst e
      refine ⟨fun q => absurd (h.lm _ q) (Nat.lt_irrefl _), fun q => absurd (List.mem_append.mpr (.inr (List.mem_singleton.mpr rfl))) q⟩
    · rw [List.mem_append, List.mem_singleton, h.ex p (by omega)]
      exact ⟨fun q z => z.elim q e, fun q z => q (.inl z)⟩
theorem IL_snoc (ms : List Nat) (k : Nat) : IL ms ++ [.int (k : Int)] = IL (ms ++ [k]) := by
  unfold IL
  rw [List.map_append]
  rfl
theorem IL_rev (ms : List Nat) : (IL ms).reverse = IL ms.reverse := by
  unfold IL
  rw [List.map_reverse]
theorem ok_law {f : Addr} {fd : FuncData} (F : Fun K "law" "law" s_law f fd) (T : Wd K mg) : FnOk P w K mg base CX0 7 f fd ["_law_script"] (spLaw K) := by
  have G__law_many := ok__law_many (P := P) (w := w) (base := base) T
  have G__law_ties := ok__law_ties (P := P) (w := w) (base := base) T
  have G_Net_init := ok_Net_init (P := P) (w := w) (base := base) T
  have G_Net_ties := ok_Net_ties (P := P) (w := w) (base := base) T
  have G__law_cell_at := ok__law_cell_at (P := P) (w := w) (base := base) T
  have G_Net_price := ok_Net_price (P := P) (w := w) (base := base) T
  have G__law_same_ties := ok__law_same_ties (P := P) (w := w) (base := base) T
  have G__law_whole := ok__law_whole (P := P) (w := w) (base := base) T
  have G__law_around_right := ok__law_around_right (P := P) (w := w) (base := base) T
  refine F.ok sc_law (fun vs H Q E h => ?_) (fun cdv A outer s H vs Q E hr h => ?_)
  · obtain ⟨a, ns, rfl, _⟩ := h
    rfl
  · obtain ⟨a, ns, rfl, hs, hz, k⟩ := h
    obtain ⟨m1, m2⟩ := manyOf_b (cellA ns 0)
    refine ⟨_, (pss_cons (ps_set (i := 1) sc_law.nd rfl (Or.inl rfl) (pe_call G__law_many (hr.mono (by decide)) (by rfl) T.m__law_many T.F__law_many.kp T.b__law_many .nil pass0 (pa_cons (pv 0) pa_nil))) (pss_cons (ps_set (i := 2) sc_law.nd rfl (Or.inl rfl) (pe_call G__law_ties (hr.mono (by decide)) (by rfl) T.m__law_ties T.F__law_ties.kp T.b__law_ties .nil pass0 (pa_cons (pv 0) (pa_cons (pv 1) pa_nil)))) (pss_cons (ps_set (i := 3) sc_law.nd rfl (Or.inl rfl) (pe_callTy call_list_of (by rfl) T.n_list (by decide +kernel) (pa_cons (pv 2) pa_nil))) (pss_cons (ps_set (i := 4) sc_law.nd rfl (Or.inl rfl) (pe_make T.MK_Net G_Net_init (hr.mono (by decide)) (by rfl) T.m_Net T.b_Net_init .nil pass0 (pa_cons (pv 1) (pa_cons (pv 3) pa_nil)))) (pss_cons (ps_if (pt_cmpR (op_neD hr.units) (pv 3) (pv 2) (nomark _)) (pss_one (ps_ret pe_bl)) pss_nil) (pss_cons (ps_expr (pe_bm PySem.F.plainAttrs_list PySem.F.slot_list_append PySem.F.type_list_append mt_append (pv 3) (pa_cons (pv 3) pa_nil))) (pss_cons (ps_set (i := 5) sc_law.nd rfl (Or.inl rfl) (pe_meth0 (pv 4) T.cl_Net T.mt_Net_ties G_Net_ties (hr.mono (by decide)) T.b_Net_ties .nil pass0)) (pss_cons (ps_expr (pe_bm PySem.F.plainAttrs_list PySem.F.slot_list_append PySem.F.type_list_append mt_append (pe_meth0 (pv 4) T.cl_Net T.mt_Net_ties G_Net_ties (hr.mono (by decide)) T.b_Net_ties .nil pass0) (pa_cons pe_int pa_nil))) (pss_cons (ps_if (PW.pt (pw_or (pt_not (pt_val (pe_call G__law_same_ties (hr.mono (by decide)) (by rfl) T.m__law_same_ties T.F__law_same_ties.kp T.b__law_same_ties .nil pass0 (pa_cons (pv 5) (pa_cons (pv 2) pa_nil))))) (pw_or (pt_not (pt_val (pe_call G__law_whole (hr.mono (by decide)) (by rfl) T.m__law_whole T.F__law_whole.kp T.b__law_whole .nil pass0 (pa_cons (pe_fld (pv 4) rfl) pa_nil)))) (pw_or1 (pt_cmpR op_ne (pe_fld (pv 4) rfl) (pv 1) (nomark _)))))) (pss_one (ps_ret pe_bl)) pss_nil) (pss_cons (ps_expr (pe_bm PySem.F.plainAttrs_list PySem.F.slot_list_append PySem.F.type_list_append mt_append (pv 5) (pa_cons pe_int pa_nil))) (pss_cons (ps_for PassesOwn.never rfl (pi_list (pe_lst (pa_cons pe_int (pa_cons (pe_op op_fdiv (pv 1) pe_int) (pa_cons (pe_op op_mod (pe_call G__law_cell_at (hr.mono (by decide)) (by rfl) T.m__law_cell_at T.F__law_cell_at.kp T.b__law_cell_at .nil pass0 (pa_cons (pv 0) (pa_cons pe_int pa_nil))) (pv 1)) pa_nil))))) (pg_name (i := 6) sc_law.nd rfl (Or.inl rfl)) (pss_one (ps_if (pt_not (pt_val (pe_call G__law_around_right (hr.mono (by decide)) (by rfl) T.m__law_around_right T.F__law_around_right.kp T.b__law_around_right .nil pass0 (pa_cons (pv 4) (pa_cons (pv 2) (pa_cons (pv 1) (pa_cons (pv 6) pa_nil))))))) (pss_one (ps_ret pe_bl)) pss_nil))) (pss_cons (ps_set (i := 7) sc_law.nd rfl (Or.inl rfl) (pe_call G__law_cell_at (hr.mono (by decide)) (by rfl) T.m__law_cell_at T.F__law_cell_at.kp T.b__law_cell_at .nil pass0 (pa_cons (pv 0) (pa_cons pe_int pa_nil)))) (pss_cons (ps_set (i := 8) sc_law.nd rfl (Or.inr rfl) (pe_lst pa_nil)) (pss_cons (ps_set (i := 9) sc_law.nd rfl (Or.inl rfl) (pe_lst pa_nil)) (pss_cons (ps_for PassesOwn.never rfl (pi_range1 (by rfl) T.n_range (pa_cons (pv 1) pa_nil)) (pg_name (i := 6) sc_law.nd rfl (Or.inl rfl)) (pss_cons (ps_if (pt_cmpR op_eq (pe_op op_mod (pv 7) pe_int) pe_int (nomark _)) (pss_one (ps_expr (pe_bm PySem.F.plainAttrs_list PySem.F.slot_list_append PySem.F.type_list_append mt_append (pv 8) (pa_cons (pv 6) pa_nil)))) (pss_one (ps_expr (pe_bm PySem.F.plainAttrs_list PySem.F.slot_list_append PySem.F.type_list_append mt_append (pv 9) (pa_cons (pv 6) pa_nil))))) (pss_one (ps_set (i := 7) sc_law.nd rfl (Or.inl rfl) (pe_op op_fdiv (pv 7) pe_int))))) (pss_cons (ps_if (pt_cmpR op_eq (pe_op op_mod (pe_call G__law_cell_at (hr.mono (by decide)) (by rfl) T.m__law_cell_at T.F__law_cell_at.kp T.b__law_cell_at .nil pass0 (pa_cons (pv 0) (pa_cons pe_int pa_nil))) pe_int) pe_int (nomark _)) (pss_one (ps_expr (pe_bm0 PySem.F.plainAttrs_list PySem.F.slot_list_reverse PySem.F.type_list_reverse mt_reverse (pv 8)))) pss_nil) (pss_cons (ps_set (i := 10) sc_law.nd rfl (Or.inl rfl) (pe_callB (cr_sum rfl) (by rfl) T.n_sum (by decide +kernel) (pa_cons (pe_lc (own := [("_law_tie_here", 11)]) (g := (gName 11)) rfl sc_law.nd (pi_list (pv 2)) (blkOk_by (own := [("_law_tie_here", 11)]) (N := ["_law_script", "_law_many_here", "_law_ties_here", "_law_handed", "_law_net", "_law_given", "_law_place", "_law_mark", "_law_side", "_law_rest", "_law_due_here", "_law_tie_here", "_law_kept", "_law_found", "_law_price"]) (sc := defScope s_law) (by decide +kernel)) (fun _ _ _ _ _ => (pg_name (i := 11) sc_law.nd rfl (Or.inl rfl))) (fun _ _ _ _ _ => (pts_one (pt_cmpR op_ne (pe_cmpR (show OpR _ _ (rIn K false) from op_in_seq) (pe_ix (show IxR _ (rIxT K) from ix_tup) (pv 11) pe_int (fun _ _ => rfl)) (pv 8) (by rfl)) (pe_cmpR (show OpR _ _ (rIn K false) from op_in_seq) (pe_ix (show IxR _ (rIxT K) from ix_tup) (pv 11) pe_int (fun _ _ => rfl)) (pv 8) (by rfl)) (nomark _)))) (fun _ _ _ _ _ => (pe_ix (show IxR _ (rIxT K) from ix_tup) (pv 11) pe_int (fun _ _ => rfl)))) pa_nil))) (pss_cons (ps_set (i := 12) sc_law.nd rfl (Or.inl rfl) (pe_lst (pa_cons (pe_callTy call_list_of (by rfl) T.n_list (by decide +kernel) (pa_cons (pv 8) pa_nil)) (pa_cons (pe_callTy call_list_of (by rfl) T.n_list (by decide +kernel) (pa_cons (pv 9) pa_nil)) pa_nil)))) (pss_cons (ps_set (i := 13) sc_law.nd rfl (Or.inl rfl) (pe_lst (pa_cons (pe_meth (pv 4) T.cl_Net T.mt_Net_price G_Net_price (hr.mono (by decide)) T.b_Net_price .nil pass0 (pa_cons (pv 8) pa_nil)) (pa_cons (pe_meth (pv 4) T.cl_Net T.mt_Net_price G_Net_price (hr.mono (by decide)) T.b_Net_price .nil pass0 (pa_cons (pv 9) pa_nil)) (pa_cons (pe_meth (pv 4) T.cl_Net T.mt_Net_price G_Net_price (hr.mono (by decide)) T.b_Net_price .nil pass0 (pa_cons (pe_lst pa_nil) pa_nil)) (pa_cons (pe_meth (pv 4) T.cl_Net T.mt_Net_price G_Net_price (hr.mono (by decide)) T.b_Net_price .nil pass0 (pa_cons (pe_listRg rfl (by rfl) T.n_list (prg_1 (by rfl) T.n_range (pv 1))) pa_nil)) pa_nil)))))) (pss_cons (ps_if (pt_cmpR (op_neD hr.units) (pe_lst (pa_cons (pv 8) (pa_cons (pv 9) pa_nil))) (pv 12) (nomark _)) (pss_one (ps_ret pe_bl)) pss_nil) (pss_cons (ps_for PassesOwn.never rfl (pi_list (pv 13)) (pg_name (i := 14) sc_law.nd rfl (Or.inl rfl)) (pss_one (ps_if (pt_not (pt_val (pe_call G__law_whole (hr.mono (by decide)) (by rfl) T.m__law_whole T.F__law_whole.kp T.b__law_whole .nil pass0 (pa_cons (pv 14) pa_nil)))) (pss_one (ps_ret pe_bl)) pss_nil))) (pss_one (ps_ret (pe_and (pe_cmpR (op_eqD hr.units) (pv 13) (pe_lst (pa_cons (pv 10) (pa_cons (pv 10) (pa_cons pe_int (pa_cons pe_int pa_nil))))) (nomark _)) (pe_one (pe_call G__law_same_ties (hr.mono (by decide)) (by rfl) T.m__law_same_ties T.F__law_same_ties.kp T.b__law_same_ties .nil pass0 (pa_cons (pe_meth0 (pv 4) T.cl_Net T.mt_Net_ties G_Net_ties (hr.mono (by decide)) T.b_Net_ties .nil pass0) (pa_cons (pv 2) pa_nil)))))))))))))))))))))))))))), ?_⟩
    refine p_asg (Ex.refl H) (ev_call (ea_cons (ev_var rfl) ea_nil) (sv_many hs)) fun H1 e1 _ => ?_
    generalize manyOf (cellA ns 0) = n at m1 m2 ⊢
    refine p_asgR e1 (er_lties (ea_cons (ev_var rfl) (ea_cons (ev_var rfl) ea_nil)) hs m1 m2) fun v H2 e02 e2 r => ?_
    obtain ⟨l, ts, rfl, t⟩ := r
    obtain ⟨xs, hl, tz⟩ := t.ls
    have good := t.good
    have tlen := t.len
    have hs2 := ex_l (e1.trans e2) hs
    refine q_asgL (el_list (ev_var rfl) (sq_of hl)) fun h H3 hh e3 h3 => ?_
    refine p_asgR (Ex.refl H3) (er_net (xs := xs) (ts := ts) (ea_cons (ev_var rfl) (ea_cons (ev_var rfl) ea_nil)) m1 m2 (sq_of h3) (tz.ex e3) tlen good) fun v H4 e4 _ r => ?_
    obtain ⟨x, l', c, rs, rfl, hx, N⟩ := r
    have hl4 := e4 _ _ (e3 _ _ hl)
    have hh4 := e4 _ _ h3
    have tz4 := tz.ex (e3.trans e4)
    refine p_no (Ex.refl H4) (et_is (et_test (ev_is (ev_op (ev_var rfl) (ev_var rfl) (rv_neD (.lst (sq_of hh4) (dp_ties tz4)) (.lst (sq_of hl4) (dp_ties tz4)) (sh_ties _) (sh_ties _))) (by rw [eqv_tiesL]))) (by simp)) fun H5 e5 _ => ?_
    refine q_app (e5 _ _ hh4) (ev_var rfl) (ev_var rfl) (by rw [tz.len]; omega) fun H6 e6 => ?_
    -- the base from here on
    have eB : Ex H2 (upd H6 h (.lst (xs ++ [.ref h]))) := ((((e3.trans e4).trans e5).trans e6)).mut hh
    have N6 : NetNew K T.C_Net H3 (upd H6 h (.lst (xs ++ [.ref h]))) x n xs ts l' c rs := N.past h3 hx fun b o hb q => by
      rw [upd_ne hb]
      exact e6 _ _ (e5 _ _ q)
    generalize upd H6 h (.lst (xs ++ [.ref h])) = B at eB N6 ⊢
    have tzB := tz.ex eB
    have N := N6.at_ tzB m1 m2 tlen good
    have hlB := eB _ _ hl
    have hsB := ex_l eB hs2
    have TL : TiesL K B l ts := ⟨xs, sq_of hlB, tzB⟩
    -- given
    refine p_asgR (Ex.refl B) (er_ties (ev_var rfl) N) fun v H7 e7 _ r7 => ?_
    obtain ⟨g, ys, rfl, hg, hg7, tg⟩ := r7
    refine q_appR (er_ties (ev_var rfl) (N.ex e7)) (fun H1 x H2 r => by
      obtain ⟨p, xs, r1, r2, r3, r4⟩ := r
      exact ⟨p, xs, r1, r2, r3, by rw [r4.len]; omega⟩) ev_c fun H9 e9 => ?_
    have hg9 := e9 _ _ hg7
    have TG : TiesL K H9 g ts := ⟨ys, sq_of hg9, tg.ex e9⟩
    obtain ⟨dx, l0, c0, hx0, _⟩ := (N.ex (e7.trans e9)).ob
    refine p_no (Ex.refl H9) (et_is (et_or (a := false) (et_is (et_not (et_B (ev_call (ea_cons (ev_var rfl) (ea_cons (ev_var rfl) ea_nil)) (sv_same_ties TG (TL.ex (e7.trans e9)))))) rfl) (fun _ => et_or (a := false) (et_is (et_not (et_B (ev_call (ea_cons (ev_fld (ev_var rfl) hx0 T.cl_Net T.na_Net_many netF_many) ea_nil) sv_whole))) rfl) (fun _ => et_test (ev_op (ev_fld (ev_var rfl) hx0 T.cl_Net T.na_Net_many netF_many) (ev_var rfl) (rv_ne rfl))))) (by simp)) fun H10 e10 _ => ?_
    refine q_app (e10 _ _ hg9) (ev_var rfl) ev_c (by rw [tg.len]; omega) fun H11 e11 => ?_
    have e12 : Ex B (upd H11 g (.lst (ys ++ [.int 7]))) := (((e7.trans e9).trans e10).trans e11).mut hg
    generalize upd H11 g (.lst (ys ++ [.int 7])) = H12 at e12 ⊢
    -- around
    have hp2 : n / 2 < n := by omega
    have hpc : (cellA ns 2 % (n : Int)).toNat < n := by
      have := Int.emod_lt_of_pos (cellA ns 2) (by omega : (0 : Int) < n)
      omega
    have hpc0 : 0 ≤ cellA ns 2 % (n : Int) := Int.emod_nonneg _ (by omega)
    refine q_forNLn (xs := IL [0, n / 2, (cellA ns 2 % (n : Int)).toNat]) (el_is (el_lst (ea_cons ev_c (ea_cons (ev_op (ev_var rfl) ev_c (rv_I ⟨by decide, by decide⟩)) (ea_cons (ev_op (ev_call (ea_cons (ev_var rfl) (ea_cons ev_c ea_nil)) (sv_cell (k := 2) (ex_l e12 hsB))) (ev_var rfl) (rv_I (by omega : (0 : Int) < (n : Int)))) ea_nil))) (Nat.le_of_ble_eq_true rfl)) ?_)
      (fun p i σ' H' => Ex B H' ∧ H' p = some (.lst (IL [0, n / 2, (cellA ns 2 % (n : Int)).toNat])) ∧ ∃ u, σ' = [some (.ref a), some (.int n), some (.ref l), some (.ref h), some (.ref x), some (.ref g), u, none, none, none, none, none, none, none, none]) (fun p H1 hp e h1 => ⟨e12.trans e, h1, _, rfl⟩) (fun p i σ' H' _ q => sq_of q.2.1) ?_ ?_
    · unfold IL
      simp only [List.map_cons, List.map_nil, Int.toNat_of_nonneg hpc0]
      rfl
    · rintro p i y σ' H' hy ⟨e, hp, u, rfl⟩
      obtain ⟨q, hq, rfl⟩ := IL_get hy
      have hqn : q < n := by
        have hm := List.mem_of_getElem? hq
        simp at hm
        rcases hm with rfl | rfl | rfl
        · omega
        · exact hp2
        · exact hpc
      refine p_noE e (et_is (et_not (et_B (ev_call (ea_cons (ev_var rfl) (ea_cons (ev_var rfl) (ea_cons (ev_var rfl) (ea_cons (ev_var rfl) ea_nil)))) (sv_around N TL hqn)))) rfl) fun H13 e13 e13' => ?_
      exact ⟨e13, e13' _ _ hp, _, rfl⟩
    · rintro p σ' H' ⟨e, hp, u, rfl⟩
      refine p_asg e (ev_call (ea_cons (ev_var rfl) (ea_cons ev_c ea_nil)) (sv_cell (k := 3) hsB)) fun H13 e13 _ => ?_
      refine p_asgL e13 (el_lst ea_nil (Nat.zero_le _)) fun sd H14 hsd e14 _ hsd14 => ?_
      refine p_asgL e14 (el_lst ea_nil (Nat.zero_le _)) fun sr H15 hsr e15 e15' hsr15 => ?_
      have hsd15 := e15' _ _ hsd14
      have nsr : sd ≠ sr := ne_of_none hsd14 hsr
      refine q_forR1 (n := (n : Int)) (ea_cons (ev_var rfl) ea_nil) (by omega) (fun j σ' H' => Ex B H' ∧ ∃ ms rs mk u, Halves j ms rs ∧ H' sd = some (.lst (IL ms)) ∧ H' sr = some (.lst (IL rs)) ∧ σ' = [some (.ref a), some (.int n), some (.ref l), some (.ref h), some (.ref x), some (.ref g), u, some (.int mk), some (.ref sd), some (.ref sr), none, none, none, none, none])
        (fun H1 e1 => ⟨e15.trans e1, [], [], _, _, ⟨(fun p hp => nomatch hp), (fun p hp => nomatch hp), List.nodup_nil, List.nodup_nil, (fun p hp => absurd hp (Nat.not_lt_zero _)), Nat.le_refl _, Nat.le_refl _⟩, e1 _ _ hsd15, e1 _ _ hsr15, rfl⟩) ?_ ?_
      · rintro j σ' H' hj ⟨e, ms, rs, mk, u, hv, h1, h2, rfl⟩
        have zm := hv.zm
        have zr := hv.zr
        refine p_if (b := decide (mk % 3 = 1)) e (et_is (et_test (ev_op (ev_op (ev_var rfl) ev_c (rv_I (by decide : (0 : Int) < 3))) ev_c (rv_eq rfl))) (by simp)) (fun hb H1 e1 e1' => ?_) (fun hb H1 e1 e1' => ?_)
        · refine s_app (e1' _ _ h1) (ev_var rfl) (ev_var rfl) (by rw [IL_len]; omega) fun H2 e2 => ?_
          refine s_asg (ev_op (ev_var rfl) ev_c (rv_I ⟨by decide, by decide⟩)) fun H3 e3 => ?_
          refine ⟨((e1.trans e2).mut (fresh_back e13 hsd)).trans e3, ms ++ [j], rs, _, _, hv.left, ?_, ?_, rfl⟩
          · refine e3 _ _ ?_
            rw [upd_same, IL_snoc]
          · refine e3 _ _ ?_
            rw [upd_ne nsr.symm]
            exact e2 _ _ (e1' _ _ h2)
        · refine s_app (e1' _ _ h2) (ev_var rfl) (ev_var rfl) (by rw [IL_len]; omega) fun H2 e2 => ?_
          refine s_asg (ev_op (ev_var rfl) ev_c (rv_I ⟨by decide, by decide⟩)) fun H3 e3 => ?_
          refine ⟨((e1.trans e2).mut (fresh_back e14 hsr)).trans e3, ms, rs ++ [j], _, _, hv.right, ?_, ?_, rfl⟩
          · refine e3 _ _ ?_
            rw [upd_ne nsr]
            exact e2 _ _ (e1' _ _ h1)
          · refine e3 _ _ ?_
            rw [upd_same, IL_snoc]
      · rintro σ' H' ⟨e, ms, rs, mk, u, hv, h1, h2, rfl⟩
        have en : (n : Int).toNat = n := rfl
        rw [en] at hv
        refine p_whenK (b := decide (cellA ns 3 % 2 = 1)) (fun σ' H' => ∃ ms', σ' = [some (.ref a), some (.int n), some (.ref l), some (.ref h), some (.ref x), some (.ref g), u, some (.int mk), some (.ref sd), some (.ref sr), none, none, none, none, none] ∧ Ex B H' ∧ H' sd = some (.lst (IL ms')) ∧ H' sr = some (.lst (IL rs)) ∧ (∀ p, p ∈ ms' ↔ p ∈ ms) ∧ ms'.Nodup ∧ ms'.length ≤ n)
          e (et_is (et_test (ev_op (ev_op (ev_call (ea_cons (ev_var rfl) (ea_cons ev_c ea_nil)) (sv_cell (k := 3) hsB)) ev_c (rv_I (by decide : (0 : Int) < 2))) ev_c (rv_eq rfl))) (by simp)) (fun hb H16 e16 e16' kk => ?_) (fun hb H16 e16 e16' => ⟨ms, rfl, e16, e16' _ _ h1, e16' _ _ h2, (fun _ => Iff.rfl), hv.nm, hv.zm⟩) ?_
        · have h1' := e16' _ _ h1
          refine q_rev h1' (ev_var rfl) fun H17 e17 => ?_
          exact kk _ _ ⟨ms.reverse, rfl, (e16.trans e17).mut (fresh_back e13 hsd), (by rw [upd_same, IL_rev]), (by rw [upd_ne nsr.symm]; exact e17 _ _ (e16' _ _ h2)), (fun _ => List.mem_reverse), nodup_rev hv.nm, by rw [List.length_reverse]; exact hv.zm⟩
        · rintro σ' H' ⟨ms', rfl, e, h1, h2, hmm, nd, zz⟩
          have lm' : ∀ p ∈ ms', p < n := fun p hp => hv.lm p ((hmm p).mp hp)
          have cm : cutP ts ms' = cutP ts ms := cutP_mem fun t _ => ⟨hmm _, hmm _⟩
          have cr : cutP ts rs = cutP ts ms' := by rw [cm]; exact cutP_other good hv.ex
          -- what is due
          have hlN : SqL K H' l xs := ex_l e (sq_of hlB)
          refine p_asg (Ex.refl H') (ev_cut rfl hlN (tzB.ex e) (sq_of h1) (by omega) (fun _ => rfl) (fun _ => rfl) (fun _ => rfl)) fun H18 e18 _ => ?_
          have h1' := e18 _ _ h1
          have h2' := e18 _ _ h2
          refine ⟨_, rfl, sd, _, rfl, .inl (sq_of h1'), fun q1 hq1 => ⟨_, rfl, sr, _, rfl, .inl (sq_of (Ex.new hq1 _ _ h2')), fun q2 hq2 => ⟨Nat.le_of_ble_eq_true rfl, fun kp hkp => ?_⟩⟩⟩
          have c1 : Ex H18 (upd H18 q1 (.lst (IL ms'))) := Ex.new hq1
          have c2 : Ex (upd H18 q1 (.lst (IL ms'))) (upd (upd H18 q1 (.lst (IL ms'))) q2 (.lst (IL rs))) := Ex.new hq2
          have c3 : Ex (upd (upd H18 q1 (.lst (IL ms'))) q2 (.lst (IL rs))) (upd (upd (upd H18 q1 (.lst (IL ms'))) q2 (.lst (IL rs))) kp (.lst [.ref q1, .ref q2])) := Ex.new hkp
          have g1 := c3 _ _ (c2 _ _ (upd_same (H := H18) (a := q1) (o := .lst (IL ms'))))
          have g2 := c3 _ _ (upd_same (H := upd H18 q1 (.lst (IL ms'))) (a := q2) (o := .lst (IL rs)))
          have g3 := upd_same (H := upd (upd H18 q1 (.lst (IL ms'))) q2 (.lst (IL rs))) (a := kp) (o := .lst [.ref q1, .ref q2])
          have eC := (c1.trans c2).trans c3
          generalize upd (upd (upd H18 q1 (.lst (IL ms'))) q2 (.lst (IL rs))) kp (.lst [.ref q1, .ref q2]) = C at g1 g2 g3 eC ⊢
          have eBC := (e.trans e18).trans eC
          have NC := N.ex eBC
          have s1 := eC _ _ h1'
          have s2 := eC _ _ h2'
          refine q_asgL (xs := [.int (cutP ts ms'), .int (cutP ts ms'), .int 0, .int 0]) (el_is (el_lst (ea_cons (ev_price (ev_var rfl) (ev_var rfl) NC (sq_of s1) lm' nd (by omega)) (ea_cons (ev_price (ev_var rfl) (ev_var rfl) NC (sq_of s2) hv.lr hv.nr (by have := hv.zr; omega)) (ea_cons (ev_priceN (ns := []) (ev_var rfl) (el_lst ea_nil (Nat.zero_le _)) NC (fun _ hp => nomatch hp) List.nodup_nil (Nat.zero_le _)) (ea_cons (ev_priceN (ev_var rfl) (el_listRg (ev_var rfl) (by omega)) NC (fun p hp => List.mem_range.mp hp) List.nodup_range (by rw [List.length_range]; omega)) ea_nil)))) (Nat.le_of_ble_eq_true rfl)) (by rw [cr, cutP_nil, cutP_all good])) fun fd H19 hfd e19 h19 => ?_
          refine p_no (Ex.refl H19) (et_is (et_test (ev_opL1 (el_lst (ea_cons (ev_var rfl) (ea_cons (ev_var rfl) ea_nil)) (Nat.le_of_ble_eq_true rfl)) (fun H1 e => ev_var rfl) (fun p H1 hp eh => rv_neD (.lst (sq_of hp) (.cons (dp_IL (sq_of (eh _ _ (e19 _ _ s1)))) (.cons (dp_IL (sq_of (eh _ _ (e19 _ _ s2)))) .nil))) (.lst (sq_of (eh _ _ (e19 _ _ g3))) (.cons (dp_IL (sq_of (eh _ _ (e19 _ _ g1)))) (.cons (dp_IL (sq_of (eh _ _ (e19 _ _ g2)))) .nil))) (sh_two _ _) (sh_two _ _)))) (by
              rw [PySem.SeqAt.eqv_refl _ (PySem.SeqAt.canLay_of_shaped (sh_two _ _))]
              rfl)) fun H20 e20 _ => ?_
          have h20 := e20 _ _ h19
          refine q_forLn (xs := [.int (cutP ts ms'), .int (cutP ts ms'), .int 0, .int 0]) (ev_var rfl) (sq_of h20) (fun m σ' H' => Ex H20 H' ∧ ∃ u2, σ' = [some (.ref a), some (.int n), some (.ref l), some (.ref h), some (.ref x), some (.ref g), u, some (.int mk), some (.ref sd), some (.ref sr), some (.int (cutP ts ms')), none, some (.ref kp), some (.ref fd), u2]) (fun H1 e1 => ⟨e1, _, rfl⟩) (fun m σ' H' _ p => ex_l p.1 (sq_of h20)) ?_ ?_
          · rintro m y σ' H' hy ⟨e5, u2, rfl⟩
            obtain ⟨q, hq, rfl⟩ := ints_at (ns := [cutP ts ms', cutP ts ms', 0, 0]) hy
            refine p_noE e5 (et_is (et_not (et_B (ev_call (ea_cons (ev_var rfl) ea_nil) sv_whole))) rfl) fun H6 e6 _ => ?_
            exact ⟨e6, _, rfl⟩
          · rintro σ' H' ⟨e21, u2, rfl⟩
            have hf := e21 _ _ h20
            have eBN : Ex B H' := eBC.trans (e19.trans (e20.trans e21))
            refine s_ret (ev_andV (a := true) (b := true) (ev_is (ev_opL (ev_var rfl) (el_lst (ea_cons (ev_var rfl) (ea_cons (ev_var rfl) (ea_cons ev_c (ea_cons ev_c ea_nil)))) (Nat.le_of_ble_eq_true rfl)) (fun p H1 hp eh => rv_eqD (.lst (sq_of (eh _ _ hf)) (dp_ints [cutP ts ms', cutP ts ms', 0, 0])) (.lst (sq_of hp) (dp_ints [cutP ts ms', cutP ts ms', 0, 0])) (sh_ints _) (sh_ints _))) (by rw [eqv_intsL]; simp)) (fun _ => ?_)) fun H1 e1 => k H1
            intro H1 e1 Q1 q1
            refine er_ties (ev_var rfl) (N.ex eBN) H1 e1 _ fun v H2 e2 r => ?_
            obtain ⟨p, ys, rfl, hp, hp2, ty⟩ := r
            exact ⟨_, rfl, p, l, ts, rfl, ⟨ys, sq_of hp2, ty⟩, TL.ex (eBN.trans (e1.trans e2)), fun H3 e3 => q1 H3 (e2.trans e3)⟩
end
end Toy

namespace Toy
open PySem L2 Evl RZ G
theorem all_mk {l : PySem.W.OpenLaw} {w : World} {K : PySem.W.Frag} {h : Heap} {mg : Str → Option Value} (X : K.In h) (G : h.Ns mainGlobals mg) {fa : Addr} (hfa : mg "law" = some (.ref fa))
    {f_is_whole : Addr} {od_is_whole an_is_whole : Option Addr} {sl_is_whole : Array (Option Value)} {oc_is_whole kV_is_whole dc_is_whole pm_is_whole cd_is_whole ct_is_whole : Value}
    {f_is_place : Addr} {od_is_place an_is_place : Option Addr} {sl_is_place : Array (Option Value)} {oc_is_place kV_is_place dc_is_place pm_is_place cd_is_place ct_is_place : Value}
    {f_is_tie : Addr} {od_is_tie an_is_tie : Option Addr} {sl_is_tie : Array (Option Value)} {oc_is_tie kV_is_tie dc_is_tie pm_is_tie cd_is_tie ct_is_tie : Value}
    {f_check_net : Addr} {od_check_net an_check_net : Option Addr} {sl_check_net : Array (Option Value)} {oc_check_net kV_check_net dc_check_net pm_check_net cd_check_net ct_check_net : Value}
    {f_check_place : Addr} {od_check_place an_check_place : Option Addr} {sl_check_place : Array (Option Value)} {oc_check_place kV_check_place dc_check_place pm_check_place cd_check_place ct_check_place : Value}
    {f_check_two : Addr} {od_check_two an_check_two : Option Addr} {sl_check_two : Array (Option Value)} {oc_check_two kV_check_two dc_check_two pm_check_two cd_check_two ct_check_two : Value}
    {f_check_side : Addr} {od_check_side an_check_side : Option Addr} {sl_check_side : Array (Option Value)} {oc_check_side kV_check_side dc_check_side pm_check_side cd_check_side ct_check_side : Value}
    {f_costs_between : Addr} {od_costs_between an_costs_between : Option Addr} {sl_costs_between : Array (Option Value)} {oc_costs_between kV_costs_between dc_costs_between pm_costs_between cd_costs_between ct_costs_between : Value}
    {f_Net_init : Addr} {od_Net_init an_Net_init : Option Addr} {sl_Net_init : Array (Option Value)} {oc_Net_init kV_Net_init dc_Net_init pm_Net_init cd_Net_init ct_Net_init : Value}
    {f_Net_ties : Addr} {od_Net_ties an_Net_ties : Option Addr} {sl_Net_ties : Array (Option Value)} {oc_Net_ties kV_Net_ties dc_Net_ties pm_Net_ties cd_Net_ties ct_Net_ties : Value}
    {f_Net_between : Addr} {od_Net_between an_Net_between : Option Addr} {sl_Net_between : Array (Option Value)} {oc_Net_between kV_Net_between dc_Net_between pm_Net_between cd_Net_between ct_Net_between : Value}
    {f_Net_beside : Addr} {od_Net_beside an_Net_beside : Option Addr} {sl_Net_beside : Array (Option Value)} {oc_Net_beside kV_Net_beside dc_Net_beside pm_Net_beside cd_Net_beside ct_Net_beside : Value}
    {f_Net_price : Addr} {od_Net_price an_Net_price : Option Addr} {sl_Net_price : Array (Option Value)} {oc_Net_price kV_Net_price dc_Net_price pm_Net_price cd_Net_price ct_Net_price : Value}
    {f__law_cell_at : Addr} {od__law_cell_at an__law_cell_at : Option Addr} {sl__law_cell_at : Array (Option Value)} {oc__law_cell_at kV__law_cell_at dc__law_cell_at pm__law_cell_at cd__law_cell_at ct__law_cell_at : Value}
    {f__law_whole : Addr} {od__law_whole an__law_whole : Option Addr} {sl__law_whole : Array (Option Value)} {oc__law_whole kV__law_whole dc__law_whole pm__law_whole cd__law_whole ct__law_whole : Value}
    {f__law_many : Addr} {od__law_many an__law_many : Option Addr} {sl__law_many : Array (Option Value)} {oc__law_many kV__law_many dc__law_many pm__law_many cd__law_many ct__law_many : Value}
    {f__law_tie : Addr} {od__law_tie an__law_tie : Option Addr} {sl__law_tie : Array (Option Value)} {oc__law_tie kV__law_tie dc__law_tie pm__law_tie cd__law_tie ct__law_tie : Value}
    {f__law_ties : Addr} {od__law_ties an__law_ties : Option Addr} {sl__law_ties : Array (Option Value)} {oc__law_ties kV__law_ties dc__law_ties pm__law_ties cd__law_ties ct__law_ties : Value}
    {f__law_due : Addr} {od__law_due an__law_due : Option Addr} {sl__law_due : Array (Option Value)} {oc__law_due kV__law_due dc__law_due pm__law_due cd__law_due ct__law_due : Value}
    {f__law_same_ties : Addr} {od__law_same_ties an__law_same_ties : Option Addr} {sl__law_same_ties : Array (Option Value)} {oc__law_same_ties kV__law_same_ties dc__law_same_ties pm__law_same_ties cd__law_same_ties ct__law_same_ties : Value}
    {f__law_around_right : Addr} {od__law_around_right an__law_around_right : Option Addr} {sl__law_around_right : Array (Option Value)} {oc__law_around_right kV__law_around_right dc__law_around_right pm__law_around_right cd__law_around_right ct__law_around_right : Value}
    {f_law : Addr} {od_law an_law : Option Addr} {sl_law : Array (Option Value)} {oc_law kV_law dc_law pm_law cd_law ct_law : Value}
    {C_Net : Addr}
    {t_MOST_PLACES : Tok}
    {t_MOST_TIES : Tok}
    {t_TOP_PRICE : Tok}
    (aC_Net : PySem.W.nsIn K mainGlobals "Net" = some (some (.ref C_Net)))
    (pg_Net : PySem.W.plainGet K C_Net Str.empty = true)
    (hd_Net : PySem.W.hasDictIn K C_Net = true)
    (po_Net : PySem.W.plainOver K C_Net = true)
    (sa_Net : PySem.W.findIn K (.ref C_Net) "__setattr__" = some (some (.builtin "object.__setattr__")))
    (mk_Net : PySem.W.makesIn K C_Net = true)
    (kc_Net : PySem.W.keepIn K (.ref C_Net) = true)
    (na_Net__costs : PySem.W.findIn K (.ref C_Net) "_costs" = some none)
    (na_Net__ties : PySem.W.findIn K (.ref C_Net) "_ties" = some none)
    (na_Net_many : PySem.W.findIn K (.ref C_Net) "many" = some none)
    (a_is_whole : PySem.W.nsIn K mainGlobals "is_whole" = some (some (.ref f_is_whole)))
    (l_is_whole : K.lookup f_is_whole = some ⟨oc_is_whole, od_is_whole, .func (PySem.W.fnOf "is_whole" "is_whole" (defArgs s_is_whole) (defBody s_is_whole) (defScope s_is_whole) .none kV_is_whole dc_is_whole pm_is_whole an_is_whole cd_is_whole ct_is_whole), sl_is_whole⟩)
    (c_is_whole : PySem.W.codeIn K cd_is_whole "is_whole" = true)
    (k_is_whole : PySem.W.keepIn K (.ref f_is_whole) = true)
    (a_is_place : PySem.W.nsIn K mainGlobals "is_place" = some (some (.ref f_is_place)))
    (l_is_place : K.lookup f_is_place = some ⟨oc_is_place, od_is_place, .func (PySem.W.fnOf "is_place" "is_place" (defArgs s_is_place) (defBody s_is_place) (defScope s_is_place) .none kV_is_place dc_is_place pm_is_place an_is_place cd_is_place ct_is_place), sl_is_place⟩)
    (c_is_place : PySem.W.codeIn K cd_is_place "is_place" = true)
    (k_is_place : PySem.W.keepIn K (.ref f_is_place) = true)
    (a_is_tie : PySem.W.nsIn K mainGlobals "is_tie" = some (some (.ref f_is_tie)))
    (l_is_tie : K.lookup f_is_tie = some ⟨oc_is_tie, od_is_tie, .func (PySem.W.fnOf "is_tie" "is_tie" (defArgs s_is_tie) (defBody s_is_tie) (defScope s_is_tie) .none kV_is_tie dc_is_tie pm_is_tie an_is_tie cd_is_tie ct_is_tie), sl_is_tie⟩)
    (c_is_tie : PySem.W.codeIn K cd_is_tie "is_tie" = true)
    (k_is_tie : PySem.W.keepIn K (.ref f_is_tie) = true)
    (a_check_net : PySem.W.nsIn K mainGlobals "check_net" = some (some (.ref f_check_net)))
    (l_check_net : K.lookup f_check_net = some ⟨oc_check_net, od_check_net, .func (PySem.W.fnOf "check_net" "check_net" (defArgs s_check_net) (defBody s_check_net) (defScope s_check_net) .none kV_check_net dc_check_net pm_check_net an_check_net cd_check_net ct_check_net), sl_check_net⟩)
    (c_check_net : PySem.W.codeIn K cd_check_net "check_net" = true)
    (k_check_net : PySem.W.keepIn K (.ref f_check_net) = true)
    (a_check_place : PySem.W.nsIn K mainGlobals "check_place" = some (some (.ref f_check_place)))
    (l_check_place : K.lookup f_check_place = some ⟨oc_check_place, od_check_place, .func (PySem.W.fnOf "check_place" "check_place" (defArgs s_check_place) (defBody s_check_place) (defScope s_check_place) .none kV_check_place dc_check_place pm_check_place an_check_place cd_check_place ct_check_place), sl_check_place⟩)
    (c_check_place : PySem.W.codeIn K cd_check_place "check_place" = true)
    (k_check_place : PySem.W.keepIn K (.ref f_check_place) = true)
    (a_check_two : PySem.W.nsIn K mainGlobals "check_two" = some (some (.ref f_check_two)))
    (l_check_two : K.lookup f_check_two = some ⟨oc_check_two, od_check_two, .func (PySem.W.fnOf "check_two" "check_two" (defArgs s_check_two) (defBody s_check_two) (defScope s_check_two) .none kV_check_two dc_check_two pm_check_two an_check_two cd_check_two ct_check_two), sl_check_two⟩)
    (c_check_two : PySem.W.codeIn K cd_check_two "check_two" = true)
    (k_check_two : PySem.W.keepIn K (.ref f_check_two) = true)
    (a_check_side : PySem.W.nsIn K mainGlobals "check_side" = some (some (.ref f_check_side)))
    (l_check_side : K.lookup f_check_side = some ⟨oc_check_side, od_check_side, .func (PySem.W.fnOf "check_side" "check_side" (defArgs s_check_side) (defBody s_check_side) (defScope s_check_side) .none kV_check_side dc_check_side pm_check_side an_check_side cd_check_side ct_check_side), sl_check_side⟩)
    (c_check_side : PySem.W.codeIn K cd_check_side "check_side" = true)
    (k_check_side : PySem.W.keepIn K (.ref f_check_side) = true)
    (a_costs_between : PySem.W.nsIn K mainGlobals "costs_between" = some (some (.ref f_costs_between)))
    (l_costs_between : K.lookup f_costs_between = some ⟨oc_costs_between, od_costs_between, .func (PySem.W.fnOf "costs_between" "costs_between" (defArgs s_costs_between) (defBody s_costs_between) (defScope s_costs_between) .none kV_costs_between dc_costs_between pm_costs_between an_costs_between cd_costs_between ct_costs_between), sl_costs_between⟩)
    (c_costs_between : PySem.W.codeIn K cd_costs_between "costs_between" = true)
    (k_costs_between : PySem.W.keepIn K (.ref f_costs_between) = true)
    (a_Net_init : PySem.W.findIn K (.ref C_Net) "__init__" = some (some (.ref f_Net_init)))
    (i_Net_init : PySem.W.isFn K (.ref f_Net_init) = true)
    (l_Net_init : K.lookup f_Net_init = some ⟨oc_Net_init, od_Net_init, .func (PySem.W.fnOf "__init__" "Net.__init__" (defArgs s_Net_init) (defBody s_Net_init) (defScope s_Net_init) .none kV_Net_init dc_Net_init pm_Net_init an_Net_init cd_Net_init ct_Net_init), sl_Net_init⟩)
    (c_Net_init : PySem.W.codeIn K cd_Net_init "Net.__init__" = true)
    (k_Net_init : PySem.W.keepIn K (.ref f_Net_init) = true)
    (a_Net_ties : PySem.W.findIn K (.ref C_Net) "ties" = some (some (.ref f_Net_ties)))
    (i_Net_ties : PySem.W.isFn K (.ref f_Net_ties) = true)
    (l_Net_ties : K.lookup f_Net_ties = some ⟨oc_Net_ties, od_Net_ties, .func (PySem.W.fnOf "ties" "Net.ties" (defArgs s_Net_ties) (defBody s_Net_ties) (defScope s_Net_ties) .none kV_Net_ties dc_Net_ties pm_Net_ties an_Net_ties cd_Net_ties ct_Net_ties), sl_Net_ties⟩)
    (c_Net_ties : PySem.W.codeIn K cd_Net_ties "Net.ties" = true)
    (k_Net_ties : PySem.W.keepIn K (.ref f_Net_ties) = true)
    (a_Net_between : PySem.W.findIn K (.ref C_Net) "between" = some (some (.ref f_Net_between)))
    (i_Net_between : PySem.W.isFn K (.ref f_Net_between) = true)
    (l_Net_between : K.lookup f_Net_between = some ⟨oc_Net_between, od_Net_between, .func (PySem.W.fnOf "between" "Net.between" (defArgs s_Net_between) (defBody s_Net_between) (defScope s_Net_between) .none kV_Net_between dc_Net_between pm_Net_between an_Net_between cd_Net_between ct_Net_between), sl_Net_between⟩)
    (c_Net_between : PySem.W.codeIn K cd_Net_between "Net.between" = true)
    (k_Net_between : PySem.W.keepIn K (.ref f_Net_between) = true)
    (a_Net_beside : PySem.W.findIn K (.ref C_Net) "beside" = some (some (.ref f_Net_beside)))
    (i_Net_beside : PySem.W.isFn K (.ref f_Net_beside) = true)
    (l_Net_beside : K.lookup f_Net_beside = some ⟨oc_Net_beside, od_Net_beside, .func (PySem.W.fnOf "beside" "Net.beside" (defArgs s_Net_beside) (defBody s_Net_beside) (defScope s_Net_beside) .none kV_Net_beside dc_Net_beside pm_Net_beside an_Net_beside cd_Net_beside ct_Net_beside), sl_Net_beside⟩)
    (c_Net_beside : PySem.W.codeIn K cd_Net_beside "Net.beside" = true)
    (k_Net_beside : PySem.W.keepIn K (.ref f_Net_beside) = true)
    (a_Net_price : PySem.W.findIn K (.ref C_Net) "price" = some (some (.ref f_Net_price)))
    (i_Net_price : PySem.W.isFn K (.ref f_Net_price) = true)
    (l_Net_price : K.lookup f_Net_price = some ⟨oc_Net_price, od_Net_price, .func (PySem.W.fnOf "price" "Net.price" (defArgs s_Net_price) (defBody s_Net_price) (defScope s_Net_price) .none kV_Net_price dc_Net_price pm_Net_price an_Net_price cd_Net_price ct_Net_price), sl_Net_price⟩)
    (c_Net_price : PySem.W.codeIn K cd_Net_price "Net.price" = true)
    (k_Net_price : PySem.W.keepIn K (.ref f_Net_price) = true)
    (a__law_cell_at : PySem.W.nsIn K mainGlobals "_law_cell_at" = some (some (.ref f__law_cell_at)))
    (l__law_cell_at : K.lookup f__law_cell_at = some ⟨oc__law_cell_at, od__law_cell_at, .func (PySem.W.fnOf "_law_cell_at" "_law_cell_at" (defArgs s__law_cell_at) (defBody s__law_cell_at) (defScope s__law_cell_at) .none kV__law_cell_at dc__law_cell_at pm__law_cell_at an__law_cell_at cd__law_cell_at ct__law_cell_at), sl__law_cell_at⟩)
    (c__law_cell_at : PySem.W.codeIn K cd__law_cell_at "_law_cell_at" = true)
    (k__law_cell_at : PySem.W.keepIn K (.ref f__law_cell_at) = true)
    (a__law_whole : PySem.W.nsIn K mainGlobals "_law_whole" = some (some (.ref f__law_whole)))
    (l__law_whole : K.lookup f__law_whole = some ⟨oc__law_whole, od__law_whole, .func (PySem.W.fnOf "_law_whole" "_law_whole" (defArgs s__law_whole) (defBody s__law_whole) (defScope s__law_whole) .none kV__law_whole dc__law_whole pm__law_whole an__law_whole cd__law_whole ct__law_whole), sl__law_whole⟩)
    (c__law_whole : PySem.W.codeIn K cd__law_whole "_law_whole" = true)
    (k__law_whole : PySem.W.keepIn K (.ref f__law_whole) = true)
    (a__law_many : PySem.W.nsIn K mainGlobals "_law_many" = some (some (.ref f__law_many)))
    (l__law_many : K.lookup f__law_many = some ⟨oc__law_many, od__law_many, .func (PySem.W.fnOf "_law_many" "_law_many" (defArgs s__law_many) (defBody s__law_many) (defScope s__law_many) .none kV__law_many dc__law_many pm__law_many an__law_many cd__law_many ct__law_many), sl__law_many⟩)
    (c__law_many : PySem.W.codeIn K cd__law_many "_law_many" = true)
    (k__law_many : PySem.W.keepIn K (.ref f__law_many) = true)
    (a__law_tie : PySem.W.nsIn K mainGlobals "_law_tie" = some (some (.ref f__law_tie)))
    (l__law_tie : K.lookup f__law_tie = some ⟨oc__law_tie, od__law_tie, .func (PySem.W.fnOf "_law_tie" "_law_tie" (defArgs s__law_tie) (defBody s__law_tie) (defScope s__law_tie) .none kV__law_tie dc__law_tie pm__law_tie an__law_tie cd__law_tie ct__law_tie), sl__law_tie⟩)
    (c__law_tie : PySem.W.codeIn K cd__law_tie "_law_tie" = true)
    (k__law_tie : PySem.W.keepIn K (.ref f__law_tie) = true)
    (a__law_ties : PySem.W.nsIn K mainGlobals "_law_ties" = some (some (.ref f__law_ties)))
    (l__law_ties : K.lookup f__law_ties = some ⟨oc__law_ties, od__law_ties, .func (PySem.W.fnOf "_law_ties" "_law_ties" (defArgs s__law_ties) (defBody s__law_ties) (defScope s__law_ties) .none kV__law_ties dc__law_ties pm__law_ties an__law_ties cd__law_ties ct__law_ties), sl__law_ties⟩)
    (c__law_ties : PySem.W.codeIn K cd__law_ties "_law_ties" = true)
    (k__law_ties : PySem.W.keepIn K (.ref f__law_ties) = true)
    (a__law_due : PySem.W.nsIn K mainGlobals "_law_due" = some (some (.ref f__law_due)))
    (l__law_due : K.lookup f__law_due = some ⟨oc__law_due, od__law_due, .func (PySem.W.fnOf "_law_due" "_law_due" (defArgs s__law_due) (defBody s__law_due) (defScope s__law_due) .none kV__law_due dc__law_due pm__law_due an__law_due cd__law_due ct__law_due), sl__law_due⟩)
    (c__law_due : PySem.W.codeIn K cd__law_due "_law_due" = true)
    (k__law_due : PySem.W.keepIn K (.ref f__law_due) = true)
    (a__law_same_ties : PySem.W.nsIn K mainGlobals "_law_same_ties" = some (some (.ref f__law_same_ties)))
    (l__law_same_ties : K.lookup f__law_same_ties = some ⟨oc__law_same_ties, od__law_same_ties, .func (PySem.W.fnOf "_law_same_ties" "_law_same_ties" (defArgs s__law_same_ties) (defBody s__law_same_ties) (defScope s__law_same_ties) .none kV__law_same_ties dc__law_same_ties pm__law_same_ties an__law_same_ties cd__law_same_ties ct__law_same_ties), sl__law_same_ties⟩)
    (c__law_same_ties : PySem.W.codeIn K cd__law_same_ties "_law_same_ties" = true)
    (k__law_same_ties : PySem.W.keepIn K (.ref f__law_same_ties) = true)
    (a__law_around_right : PySem.W.nsIn K mainGlobals "_law_around_right" = some (some (.ref f__law_around_right)))
    (l__law_around_right : K.lookup f__law_around_right = some ⟨oc__law_around_right, od__law_around_right, .func (PySem.W.fnOf "_law_around_right" "_law_around_right" (defArgs s__law_around_right) (defBody s__law_around_right) (defScope s__law_around_right) .none kV__law_around_right dc__law_around_right pm__law_around_right an__law_around_right cd__law_around_right ct__law_around_right), sl__law_around_right⟩)
    (c__law_around_right : PySem.W.codeIn K cd__law_around_right "_law_around_right" = true)
    (k__law_around_right : PySem.W.keepIn K (.ref f__law_around_right) = true)
    (a_law : PySem.W.nsIn K mainGlobals "law" = some (some (.ref f_law)))
    (l_law : K.lookup f_law = some ⟨oc_law, od_law, .func (PySem.W.fnOf "law" "law" (defArgs s_law) (defBody s_law) (defScope s_law) .none kV_law dc_law pm_law an_law cd_law ct_law), sl_law⟩)
    (c_law : PySem.W.codeIn K cd_law "law" = true)
    (k_law : PySem.W.keepIn K (.ref f_law) = true)
    (g_MOST_PLACES : PySem.W.nsIn K mainGlobals "MOST_PLACES" = some (some (.int 24 t_MOST_PLACES)))
    (g_MOST_TIES : PySem.W.nsIn K mainGlobals "MOST_TIES" = some (some (.int 300 t_MOST_TIES)))
    (g_TOP_PRICE : PySem.W.nsIn K mainGlobals "TOP_PRICE" = some (some (.int 1000000000 t_TOP_PRICE)))
    (nb_bool : PySem.W.nsIn K mainGlobals "bool" = some none)
    (nb_int : PySem.W.nsIn K mainGlobals "int" = some none)
    (nb_isinstance : PySem.W.nsIn K mainGlobals "isinstance" = some none)
    (nb_len : PySem.W.nsIn K mainGlobals "len" = some none)
    (nb_list : PySem.W.nsIn K mainGlobals "list" = some none)
    (nb_range : PySem.W.nsIn K mainGlobals "range" = some none)
    (nb_set : PySem.W.nsIn K mainGlobals "set" = some none)
    (nb_sum : PySem.W.nsIn K mainGlobals "sum" = some none)
    (nb_tuple : PySem.W.nsIn K mainGlobals "tuple" = some none)
    (nb_type : PySem.W.nsIn K mainGlobals "type" = some none)
    (nb_zip : PySem.W.nsIn K mainGlobals "zip" = some none)
    : ∃ fd : FuncData, (∀ (s : Shared) (v : Value), BindsTo s fd ⟨[v], []⟩ [("_law_script", v)]) ∧ ∀ base : Heap, K.In base → base.Ns mainGlobals mg → FnOk l.prog w K mg base CX0 7 fa fd ["_law_script"] (spLaw K) := by
  have e := hfa.symm.trans (PySem.W.mg_of X G a_law)
  cases e
  exact ⟨_, fun s v => .of_eq rfl, fun base _ _ => ok_law (fun_mk (st := s_law) l_law c_law k_law) { f_is_whole := f_is_whole, d_is_whole := _, F_is_whole := fun_mk (st := s_is_whole) l_is_whole c_is_whole k_is_whole, b_is_whole := ((fun_mk (st := s_is_whole) l_is_whole c_is_whole k_is_whole).binds (ps := ["number", "low", "high"]) fun _ _ _ _ _ _ us hl => match us, hl with | [_, _, _], _ => rfl), m_is_whole := PySem.W.mg_of X G a_is_whole, f_is_place := f_is_place, d_is_place := _, F_is_place := fun_mk (st := s_is_place) l_is_place c_is_place k_is_place, b_is_place := ((fun_mk (st := s_is_place) l_is_place c_is_place k_is_place).binds (ps := ["many", "place"]) fun _ _ _ _ _ _ us hl => match us, hl with | [_, _], _ => rfl), m_is_place := PySem.W.mg_of X G a_is_place, f_is_tie := f_is_tie, d_is_tie := _, F_is_tie := fun_mk (st := s_is_tie) l_is_tie c_is_tie k_is_tie, b_is_tie := ((fun_mk (st := s_is_tie) l_is_tie c_is_tie k_is_tie).binds (ps := ["many", "tie"]) fun _ _ _ _ _ _ us hl => match us, hl with | [_, _], _ => rfl), m_is_tie := PySem.W.mg_of X G a_is_tie, f_check_net := f_check_net, d_check_net := _, F_check_net := fun_mk (st := s_check_net) l_check_net c_check_net k_check_net, b_check_net := ((fun_mk (st := s_check_net) l_check_net c_check_net k_check_net).binds (ps := ["many", "ties"]) fun _ _ _ _ _ _ us hl => match us, hl with | [_, _], _ => rfl), m_check_net := PySem.W.mg_of X G a_check_net, f_check_place := f_check_place, d_check_place := _, F_check_place := fun_mk (st := s_check_place) l_check_place c_check_place k_check_place, b_check_place := ((fun_mk (st := s_check_place) l_check_place c_check_place k_check_place).binds (ps := ["many", "place"]) fun _ _ _ _ _ _ us hl => match us, hl with | [_, _], _ => rfl), m_check_place := PySem.W.mg_of X G a_check_place, f_check_two := f_check_two, d_check_two := _, F_check_two := fun_mk (st := s_check_two) l_check_two c_check_two k_check_two, b_check_two := ((fun_mk (st := s_check_two) l_check_two c_check_two k_check_two).binds (ps := ["many", "one", "other"]) fun _ _ _ _ _ _ us hl => match us, hl with | [_, _, _], _ => rfl), m_check_two := PySem.W.mg_of X G a_check_two, f_check_side := f_check_side, d_check_side := _, F_check_side := fun_mk (st := s_check_side) l_check_side c_check_side k_check_side, b_check_side := ((fun_mk (st := s_check_side) l_check_side c_check_side k_check_side).binds (ps := ["many", "side"]) fun _ _ _ _ _ _ us hl => match us, hl with | [_, _], _ => rfl), m_check_side := PySem.W.mg_of X G a_check_side, f_costs_between := f_costs_between, d_costs_between := _, F_costs_between := fun_mk (st := s_costs_between) l_costs_between c_costs_between k_costs_between, b_costs_between := ((fun_mk (st := s_costs_between) l_costs_between c_costs_between k_costs_between).binds (ps := ["many", "ties"]) fun _ _ _ _ _ _ us hl => match us, hl with | [_, _], _ => rfl), m_costs_between := PySem.W.mg_of X G a_costs_between, f_Net_init := f_Net_init, d_Net_init := _, F_Net_init := fun_mk (st := s_Net_init) l_Net_init c_Net_init k_Net_init, b_Net_init := ((fun_mk (st := s_Net_init) l_Net_init c_Net_init k_Net_init).binds (ps := ["self", "many", "ties"]) fun _ _ _ _ _ _ us hl => match us, hl with | [_, _, _], _ => rfl), f_Net_ties := f_Net_ties, d_Net_ties := _, F_Net_ties := fun_mk (st := s_Net_ties) l_Net_ties c_Net_ties k_Net_ties, b_Net_ties := ((fun_mk (st := s_Net_ties) l_Net_ties c_Net_ties k_Net_ties).binds (ps := ["self"]) fun _ _ _ _ _ _ us hl => match us, hl with | [_], _ => rfl), f_Net_between := f_Net_between, d_Net_between := _, F_Net_between := fun_mk (st := s_Net_between) l_Net_between c_Net_between k_Net_between, b_Net_between := ((fun_mk (st := s_Net_between) l_Net_between c_Net_between k_Net_between).binds (ps := ["self", "one", "other"]) fun _ _ _ _ _ _ us hl => match us, hl with | [_, _, _], _ => rfl), f_Net_beside := f_Net_beside, d_Net_beside := _, F_Net_beside := fun_mk (st := s_Net_beside) l_Net_beside c_Net_beside k_Net_beside, b_Net_beside := ((fun_mk (st := s_Net_beside) l_Net_beside c_Net_beside k_Net_beside).binds (ps := ["self", "place"]) fun _ _ _ _ _ _ us hl => match us, hl with | [_, _], _ => rfl), f_Net_price := f_Net_price, d_Net_price := _, F_Net_price := fun_mk (st := s_Net_price) l_Net_price c_Net_price k_Net_price, b_Net_price := ((fun_mk (st := s_Net_price) l_Net_price c_Net_price k_Net_price).binds (ps := ["self", "side"]) fun _ _ _ _ _ _ us hl => match us, hl with | [_, _], _ => rfl), f__law_cell_at := f__law_cell_at, d__law_cell_at := _, F__law_cell_at := fun_mk (st := s__law_cell_at) l__law_cell_at c__law_cell_at k__law_cell_at, b__law_cell_at := ((fun_mk (st := s__law_cell_at) l__law_cell_at c__law_cell_at k__law_cell_at).binds (ps := ["_law_script", "_law_k"]) fun _ _ _ _ _ _ us hl => match us, hl with | [_, _], _ => rfl), m__law_cell_at := PySem.W.mg_of X G a__law_cell_at, f__law_whole := f__law_whole, d__law_whole := _, F__law_whole := fun_mk (st := s__law_whole) l__law_whole c__law_whole k__law_whole, b__law_whole := ((fun_mk (st := s__law_whole) l__law_whole c__law_whole k__law_whole).binds (ps := ["_law_found"]) fun _ _ _ _ _ _ us hl => match us, hl with | [_], _ => rfl), m__law_whole := PySem.W.mg_of X G a__law_whole, f__law_many := f__law_many, d__law_many := _, F__law_many := fun_mk (st := s__law_many) l__law_many c__law_many k__law_many, b__law_many := ((fun_mk (st := s__law_many) l__law_many c__law_many k__law_many).binds (ps := ["_law_script"]) fun _ _ _ _ _ _ us hl => match us, hl with | [_], _ => rfl), m__law_many := PySem.W.mg_of X G a__law_many, f__law_tie := f__law_tie, d__law_tie := _, F__law_tie := fun_mk (st := s__law_tie) l__law_tie c__law_tie k__law_tie, b__law_tie := ((fun_mk (st := s__law_tie) l__law_tie c__law_tie k__law_tie).binds (ps := ["_law_cell", "_law_many_here", "_law_top"]) fun _ _ _ _ _ _ us hl => match us, hl with | [_, _, _], _ => rfl), m__law_tie := PySem.W.mg_of X G a__law_tie, f__law_ties := f__law_ties, d__law_ties := _, F__law_ties := fun_mk (st := s__law_ties) l__law_ties c__law_ties k__law_ties, b__law_ties := ((fun_mk (st := s__law_ties) l__law_ties c__law_ties k__law_ties).binds (ps := ["_law_script", "_law_many_here"]) fun _ _ _ _ _ _ us hl => match us, hl with | [_, _], _ => rfl), m__law_ties := PySem.W.mg_of X G a__law_ties, f__law_due := f__law_due, d__law_due := _, F__law_due := fun_mk (st := s__law_due) l__law_due c__law_due k__law_due, b__law_due := ((fun_mk (st := s__law_due) l__law_due c__law_due k__law_due).binds (ps := ["_law_ties_here", "_law_one", "_law_other"]) fun _ _ _ _ _ _ us hl => match us, hl with | [_, _, _], _ => rfl), m__law_due := PySem.W.mg_of X G a__law_due, f__law_same_ties := f__law_same_ties, d__law_same_ties := _, F__law_same_ties := fun_mk (st := s__law_same_ties) l__law_same_ties c__law_same_ties k__law_same_ties, b__law_same_ties := ((fun_mk (st := s__law_same_ties) l__law_same_ties c__law_same_ties k__law_same_ties).binds (ps := ["_law_found", "_law_ties_here"]) fun _ _ _ _ _ _ us hl => match us, hl with | [_, _], _ => rfl), m__law_same_ties := PySem.W.mg_of X G a__law_same_ties, f__law_around_right := f__law_around_right, d__law_around_right := _, F__law_around_right := fun_mk (st := s__law_around_right) l__law_around_right c__law_around_right k__law_around_right, b__law_around_right := ((fun_mk (st := s__law_around_right) l__law_around_right c__law_around_right k__law_around_right).binds (ps := ["_law_net", "_law_ties_here", "_law_many_here", "_law_place"]) fun _ _ _ _ _ _ us hl => match us, hl with | [_, _, _, _], _ => rfl), m__law_around_right := PySem.W.mg_of X G a__law_around_right, C_Net := C_Net, cl_Net := ⟨pg_Net, hd_Net, po_Net, sa_Net⟩, m_Net := PySem.W.mg_of X G aC_Net, kc_Net := kc_Net, ci_Net := mk_Net, na_Net__costs := na_Net__costs, na_Net__ties := na_Net__ties, na_Net_many := na_Net_many, MK_Net := ⟨mk_Net, a_Net_init, i_Net_init, kc_Net⟩, mt_Net_ties := ⟨a_Net_ties, i_Net_ties, k_Net_ties⟩, mt_Net_between := ⟨a_Net_between, i_Net_between, k_Net_between⟩, mt_Net_beside := ⟨a_Net_beside, i_Net_beside, k_Net_beside⟩, mt_Net_price := ⟨a_Net_price, i_Net_price, k_Net_price⟩, t_MOST_PLACES := t_MOST_PLACES, c_MOST_PLACES := PySem.W.mg_of X G g_MOST_PLACES, t_MOST_TIES := t_MOST_TIES, c_MOST_TIES := PySem.W.mg_of X G g_MOST_TIES, t_TOP_PRICE := t_TOP_PRICE, c_TOP_PRICE := PySem.W.mg_of X G g_TOP_PRICE, n_bool := PySem.W.mg_none_of X G nb_bool, n_int := PySem.W.mg_none_of X G nb_int, n_isinstance := PySem.W.mg_none_of X G nb_isinstance, n_len := PySem.W.mg_none_of X G nb_len, n_list := PySem.W.mg_none_of X G nb_list, n_range := PySem.W.mg_none_of X G nb_range, n_set := PySem.W.mg_none_of X G nb_set, n_sum := PySem.W.mg_none_of X G nb_sum, n_tuple := PySem.W.mg_none_of X G nb_tuple, n_type := PySem.W.mg_none_of X G nb_type, n_zip := PySem.W.mg_none_of X G nb_zip }⟩
theorem walk {l : PySem.W.OpenLaw} {q : Program} {loose : List Str} {XP : (Str → Option Value) → Heap → Prop} {YP : World → Heap → Prop} {d : DefRec} {K : Params → PySem.W.Frag} (hn : l.most = some 63) (hdf : d.params.defaults = [])
    (hY : ∀ (w : World) (h : Heap), YP w h → (K w.params).In h)
    (F : ∀ (w : World) (mg : Str → Option Value) (fa : Addr) (h : Heap), (K w.params).In h → h.Ns mainGlobals mg → mg d.name = some (.ref fa) →
      ∃ fd : FuncData, (∀ (s : Shared) (u : Value), BindsTo s fd ⟨[u], []⟩ [("_law_script", u)]) ∧ ∀ base : Heap, (K w.params).In base → base.Ns mainGlobals mg → FnOk l.prog w (K w.params) mg base CX0 7 fa fd ["_law_script"] (spLaw (K w.params))) :
    PySem.W.WalkO q loose XP YP l.row.toRowW d [] (fun f vs => PySem.call f vs) :=
  L2.walk_of (n := 63) (k := 7) (x := "_law_script") (CX := fun _ => CX0) (sp := fun w => spLaw (K w.params)) hn (by decide) hdf ⟨rfl, by decide, by decide⟩ hY F (fun _ _ a ns hl _ hS => ⟨a, ns, rfl, hS, hl, fun _ => rfl⟩) fun _ _ _ _ _ z => z
end Toy
open PySem PySem.W PyProof.Rows
set_option maxRecDepth 100000 in
set_option maxHeartbeats 0 in
theorem PySem.Challenge.cw_onewalls_k01_ties_and_prices_holds : PySem.Challenge.rw_onewalls_k01_ties_and_prices.Holds := by
  w_on; o_law; k_head; (case hw => w_witness2)
  k_fill
  refine Toy.walk (l := PySem.Challenge.rw_onewalls_k01_ties_and_prices) rfl rfl (fun w h Y => PySem.W.kIn_of Y) ?F
  case F =>
    intro w mg fa h KX G hmg
    refine' Toy.all_mk KX G hmg ?aC_Net ?pg_Net ?hd_Net ?po_Net ?sa_Net ?mk_Net ?kc_Net ?na_Net__costs ?na_Net__ties ?na_Net_many ?a_is_whole ?l_is_whole ?c_is_whole ?k_is_whole ?a_is_place ?l_is_place ?c_is_place ?k_is_place ?a_is_tie ?l_is_tie ?c_is_tie ?k_is_tie ?a_check_net ?l_check_net ?c_check_net ?k_check_net ?a_check_place ?l_check_place ?c_check_place ?k_check_place ?a_check_two ?l_check_two ?c_check_two ?k_check_two ?a_check_side ?l_check_side ?c_check_side ?k_check_side ?a_costs_between ?l_costs_between ?c_costs_between ?k_costs_between ?a_Net_init ?i_Net_init ?l_Net_init ?c_Net_init ?k_Net_init ?a_Net_ties ?i_Net_ties ?l_Net_ties ?c_Net_ties ?k_Net_ties ?a_Net_between ?i_Net_between ?l_Net_between ?c_Net_between ?k_Net_between ?a_Net_beside ?i_Net_beside ?l_Net_beside ?c_Net_beside ?k_Net_beside ?a_Net_price ?i_Net_price ?l_Net_price ?c_Net_price ?k_Net_price ?a__law_cell_at ?l__law_cell_at ?c__law_cell_at ?k__law_cell_at ?a__law_whole ?l__law_whole ?c__law_whole ?k__law_whole ?a__law_many ?l__law_many ?c__law_many ?k__law_many ?a__law_tie ?l__law_tie ?c__law_tie ?k__law_tie ?a__law_ties ?l__law_ties ?c__law_ties ?k__law_ties ?a__law_due ?l__law_due ?c__law_due ?k__law_due ?a__law_same_ties ?l__law_same_ties ?c__law_same_ties ?k__law_same_ties ?a__law_around_right ?l__law_around_right ?c__law_around_right ?k__law_around_right ?a_law ?l_law ?c_law ?k_law ?g_MOST_PLACES ?g_MOST_TIES ?g_TOP_PRICE ?nb_bool ?nb_int ?nb_isinstance ?nb_len ?nb_list ?nb_range ?nb_set ?nb_sum ?nb_tuple ?nb_type ?nb_zip
    (case aC_Net => k_is)
    (case pg_Net => k_is)
    (case hd_Net => k_is)
    (case po_Net => k_is)
    (case sa_Net => k_is)
    (case mk_Net => k_is)
    (case kc_Net => k_is)
    (case na_Net__costs => k_is)
    (case na_Net__ties => k_is)
    (case na_Net_many => k_is)
    (case a_is_whole => k_is)
    (case l_is_whole => k_is)
    (case c_is_whole => k_is)
    (case k_is_whole => k_is)
    (case a_is_place => k_is)
    (case l_is_place => k_is)
    (case c_is_place => k_is)
    (case k_is_place => k_is)
    (case a_is_tie => k_is)
    (case l_is_tie => k_is)
    (case c_is_tie => k_is)
    (case k_is_tie => k_is)
    (case a_check_net => k_is)
    (case l_check_net => k_is)
    (case c_check_net => k_is)
    (case k_check_net => k_is)
    (case a_check_place => k_is)
    (case l_check_place => k_is)
    (case c_check_place => k_is)
    (case k_check_place => k_is)
    (case a_check_two => k_is)
    (case l_check_two => k_is)
    (case c_check_two => k_is)
    (case k_check_two => k_is)
    (case a_check_side => k_is)
    (case l_check_side => k_is)
    (case c_check_side => k_is)
    (case k_check_side => k_is)
    (case a_costs_between => k_is)
    (case l_costs_between => k_is)
    (case c_costs_between => k_is)
    (case k_costs_between => k_is)
    (case a_Net_init => k_is)
    (case i_Net_init => k_is)
    (case l_Net_init => k_is)
    (case c_Net_init => k_is)
    (case k_Net_init => k_is)
    (case a_Net_ties => k_is)
    (case i_Net_ties => k_is)
    (case l_Net_ties => k_is)
    (case c_Net_ties => k_is)
    (case k_Net_ties => k_is)
    (case a_Net_between => k_is)
    (case i_Net_between => k_is)
    (case l_Net_between => k_is)
    (case c_Net_between => k_is)
    (case k_Net_between => k_is)
    (case a_Net_beside => k_is)
    (case i_Net_beside => k_is)
    (case l_Net_beside => k_is)
    (case c_Net_beside => k_is)
    (case k_Net_beside => k_is)
    (case a_Net_price => k_is)
    (case i_Net_price => k_is)
    (case l_Net_price => k_is)
    (case c_Net_price => k_is)
    (case k_Net_price => k_is)
    (case a__law_cell_at => k_is)
    (case l__law_cell_at => k_is)
    (case c__law_cell_at => k_is)
    (case k__law_cell_at => k_is)
    (case a__law_whole => k_is)
    (case l__law_whole => k_is)
    (case c__law_whole => k_is)
    (case k__law_whole => k_is)
    (case a__law_many => k_is)
    (case l__law_many => k_is)
    (case c__law_many => k_is)
    (case k__law_many => k_is)
    (case a__law_tie => k_is)
    (case l__law_tie => k_is)
    (case c__law_tie => k_is)
    (case k__law_tie => k_is)
    (case a__law_ties => k_is)
    (case l__law_ties => k_is)
    (case c__law_ties => k_is)
    (case k__law_ties => k_is)
    (case a__law_due => k_is)
    (case l__law_due => k_is)
    (case c__law_due => k_is)
    (case k__law_due => k_is)
    (case a__law_same_ties => k_is)
    (case l__law_same_ties => k_is)
    (case c__law_same_ties => k_is)
    (case k__law_same_ties => k_is)
    (case a__law_around_right => k_is)
    (case l__law_around_right => k_is)
    (case c__law_around_right => k_is)
    (case k__law_around_right => k_is)
    (case a_law => k_is)
    (case l_law => k_is)
    (case c_law => k_is)
    (case k_law => k_is)
    (case g_MOST_PLACES => k_is)
    (case g_MOST_TIES => k_is)
    (case g_TOP_PRICE => k_is)
    (case nb_bool => k_is)
    (case nb_int => k_is)
    (case nb_isinstance => k_is)
    (case nb_len => k_is)
    (case nb_list => k_is)
    (case nb_range => k_is)
    (case nb_set => k_is)
    (case nb_sum => k_is)
    (case nb_tuple => k_is)
    (case nb_type => k_is)
    (case nb_zip => k_is)
