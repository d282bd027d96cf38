/- What the walk meets of floats: the tests' words, whole numbers there and back, the bits of what is no number. Conditions: none. -/
import Derived.Test.YtffojilbhpefbaaFpB
namespace Go.Proofs.Ytffojilbhpefbaa.Fp
open Ieee

/-- What is no number. -/
def IsN (b : Nat) : Prop := ∃ s t, double.read b = .nan s t
def nanB (b : Nat) : Bool := FloatKind.f64.format.order b b != some Ordering.eq
def signB (b : Nat) : Bool := decide (9223372036854775808 ≤ b)

theorem order_nan_l {a : Nat} (h : IsN a) (b : Nat) : FloatKind.f64.format.order a b = none := by
  obtain ⟨s, t, h⟩ := h
  show Datum.order (double.read a) (double.read b) = none
  rw [h]
  cases double.read b <;> rfl
theorem order_nan_r {b : Nat} (h : IsN b) (a : Nat) : FloatKind.f64.format.order a b = none := by
  obtain ⟨s, t, h⟩ := h
  show Datum.order (double.read a) (double.read b) = none
  rw [h]
  cases double.read a <;> rfl
theorem nan_eq_l {a : Nat} (h : IsN a) (b : Nat) : (FloatKind.f64.format.order a b == some Ordering.eq) = false := by rw [order_nan_l h]; rfl
theorem nan_ne_l {a : Nat} (h : IsN a) (b : Nat) : (FloatKind.f64.format.order a b != some Ordering.eq) = true := by rw [order_nan_l h]; rfl
theorem nan_eq_r {b : Nat} (h : IsN b) (a : Nat) : (FloatKind.f64.format.order a b == some Ordering.eq) = false := by rw [order_nan_r h]; rfl
theorem nan_ne_r {b : Nat} (h : IsN b) (a : Nat) : (FloatKind.f64.format.order a b != some Ordering.eq) = true := by rw [order_nan_r h]; rfl
theorem nanB_nan {b : Nat} (h : IsN b) : nanB b = true := nan_ne_l h b

theorem cmp_eq (x y : Int) : (some (compare x y) == some Ordering.eq) = decide (x = y) := by
  show (some (compareOfLessAndEq x y) == some Ordering.eq) = _
  unfold compareOfLessAndEq
  by_cases h1 : x < y
  · rw [if_pos h1, decide_eq_false (by omega)]; rfl
  · rw [if_neg h1]
    by_cases h2 : x = y
    · rw [if_pos h2, decide_eq_true h2]; rfl
    · rw [if_neg h2, decide_eq_false h2]; rfl
theorem cmp_lt (x y : Int) : (some (compare x y) == some Ordering.lt) = decide (x < y) := by
  show (some (compareOfLessAndEq x y) == some Ordering.lt) = _
  unfold compareOfLessAndEq
  by_cases h1 : x < y
  · rw [if_pos h1, decide_eq_true h1]; rfl
  · rw [if_neg h1, decide_eq_false h1]
    by_cases h2 : x = y
    · rw [if_pos h2]; rfl
    · rw [if_neg h2]; rfl
theorem cmp_gt (x y : Int) : (some (compare x y) == some Ordering.gt) = decide (y < x) := by
  show (some (compareOfLessAndEq x y) == some Ordering.gt) = _
  unfold compareOfLessAndEq
  by_cases h1 : x < y
  · rw [if_pos h1, decide_eq_false (by omega)]; rfl
  · rw [if_neg h1]
    by_cases h2 : x = y
    · rw [if_pos h2, decide_eq_false (by omega)]; rfl
    · rw [if_neg h2, decide_eq_true (by omega)]; rfl

section
variable {s t : Bool} {v w : Nat}
theorem order_f (hv : Ex v) (hw : Ex w) : FloatKind.f64.format.order (fl s v) (fl t w) = some (compare (sg s v) (sg t w)) := order_fl s t hv hw
theorem eq_fl (hv : Ex v) (hw : Ex w) : (FloatKind.f64.format.order (fl s v) (fl t w) == some Ordering.eq) = decide (sg s v = sg t w) := by rw [order_f hv hw, cmp_eq]
theorem ne_fl (hv : Ex v) (hw : Ex w) : (FloatKind.f64.format.order (fl s v) (fl t w) != some Ordering.eq) = !decide (sg s v = sg t w) := by rw [← eq_fl hv hw]; rfl
theorem lt_fl (hv : Ex v) (hw : Ex w) : (FloatKind.f64.format.order (fl s v) (fl t w) == some Ordering.lt) = decide (sg s v < sg t w) := by rw [order_f hv hw, cmp_lt]
theorem gt_fl (hv : Ex v) (hw : Ex w) : (FloatKind.f64.format.order (fl s v) (fl t w) == some Ordering.gt) = decide (sg t w < sg s v) := by rw [order_f hv hw, cmp_gt]
theorem le_fl (hv : Ex v) (hw : Ex w) : (FloatKind.f64.format.order (fl s v) (fl t w) == some Ordering.lt || FloatKind.f64.format.order (fl s v) (fl t w) == some Ordering.eq) = decide (sg s v ≤ sg t w) := by
  rw [eq_fl hv hw, lt_fl hv hw, Bool.eq_iff_iff]
  simp only [Bool.or_eq_true, decide_eq_true_eq]
  omega
theorem ge_fl (hv : Ex v) (hw : Ex w) : (FloatKind.f64.format.order (fl s v) (fl t w) == some Ordering.gt || FloatKind.f64.format.order (fl s v) (fl t w) == some Ordering.eq) = decide (sg t w ≤ sg s v) := by
  rw [eq_fl hv hw, gt_fl hv hw, Bool.eq_iff_iff]
  simp only [Bool.or_eq_true, decide_eq_true_eq]
  omega
theorem nanB_fl (hv : Ex v) : nanB (fl s v) = false := by unfold nanB; rw [ne_fl hv hv, decide_eq_true rfl]; rfl
theorem signB_fl (hv : Ex v) : signB (fl s v) = s := by
  have := rg_le hv.2
  unfold signB fl
  cases s
  · rw [if_neg (by decide), decide_eq_false (by omega)]
  · rw [if_pos rfl, decide_eq_true (by omega)]
theorem sg_eq : sg s v = sg t w ↔ (s = t ∧ v = w) ∨ (v = 0 ∧ w = 0) := by
  unfold sg
  cases s <;> cases t <;> simp only [if_true, if_false, Bool.false_eq_true, true_and, false_and, false_or, reduceCtorEq] <;> omega
end
theorem kinds {b : Nat} (hb : b < 18446744073709551616) : (IsN b ∧ nanB b = true) ∨ (nanB b = false ∧ ∃ s v, Ex v ∧ b = fl s v) := by
  rcases cases_fl hb with h | ⟨s, v, hv, rfl⟩
  · exact .inl ⟨h, nanB_nan h⟩
  · exact .inr ⟨nanB_fl hv, s, v, hv, rfl⟩

/-- The same floats? -/
def sameB (a b : Nat) : Bool := if nanB a || nanB b then nanB a && nanB b else (FloatKind.f64.format.order a b == some Ordering.eq) && (signB a == signB b)
theorem sameB_fl {s t : Bool} {v w : Nat} (hv : Ex v) (hw : Ex w) : sameB (fl s v) (fl t w) = decide (fl s v = fl t w) := by
  unfold sameB
  rw [nanB_fl hv, nanB_fl hw, if_neg (by decide), eq_fl hv hw, signB_fl hv, signB_fl hw, Bool.eq_iff_iff]
  simp only [Bool.and_eq_true, decide_eq_true_eq, beq_iff_eq, sg_eq]
  constructor
  · rintro ⟨⟨rfl, rfl⟩ | ⟨rfl, rfl⟩, h2⟩
    · rfl
    · rw [h2]
  · intro h
    obtain ⟨rfl, rfl⟩ := fl_inj hv hw h
    exact ⟨.inl ⟨rfl, rfl⟩, rfl⟩
theorem sameB_nan {a b : Nat} (ha : nanB a = true) (hb : nanB b = true) : sameB a b = true := by unfold sameB; rw [ha, hb]; rfl
theorem sameB_mixed {a b : Nat} (h : nanB a ≠ nanB b) : sameB a b = false := by
  unfold sameB
  cases ha : nanB a <;> cases hb : nanB b <;> simp_all
theorem sameB_self {b : Nat} (hb : b < 18446744073709551616) : sameB b b = true := by
  rcases kinds hb with ⟨_, h⟩ | ⟨_, s, v, hv, rfl⟩
  · exact sameB_nan h h
  · rw [sameB_fl hv hv, decide_eq_true rfl]
theorem sameB_comm {a b : Nat} (ha : a < 18446744073709551616) (hb : b < 18446744073709551616) : sameB a b = sameB b a := by
  rcases kinds ha with ⟨_, h⟩ | ⟨h, s, v, hv, rfl⟩ <;> rcases kinds hb with ⟨_, k⟩ | ⟨k, t, w, hw, rfl⟩
  · rw [sameB_nan h k, sameB_nan k h]
  · rw [sameB_mixed (by rw [h, k]; decide), sameB_mixed (by rw [h, k]; decide)]
  · rw [sameB_mixed (by rw [h, k]; decide), sameB_mixed (by rw [h, k]; decide)]
  · rw [sameB_fl hv hw, sameB_fl hw hv]; exact decide_eq_decide.2 eq_comm

theorem isN_big {r : Nat} (h : 9218868437227405312 < r % 9223372036854775808) : IsN r := by
  refine ⟨r / 9223372036854775808 % 2 == 1, r % 9223372036854775808 - 9218868437227405312, ?_⟩
  unfold Format.read
  dsimp only
  rw [dW, dB, dI, dL, if_neg (by omega), if_neg (by omega), if_neg (by omega)]
theorem big_isN {r : Nat} (h : nanB r = true) : 9218868437227405312 < r % 9223372036854775808 := by
  rcases Nat.lt_or_ge 9218868437227405312 (r % 9223372036854775808) with h1 | h1
  · exact h1
  · exfalso
    have hr : double.read r = double.read (r % 18446744073709551616) := by
      unfold Format.read
      dsimp only
      rw [dW, show r % 18446744073709551616 / 9223372036854775808 % 2 = r / 9223372036854775808 % 2 by omega, show r % 18446744073709551616 % 9223372036854775808 = r % 9223372036854775808 by omega]
    rcases kinds (b := r % 18446744073709551616) (by omega) with ⟨h2, _⟩ | ⟨h2, _⟩
    · obtain ⟨s, t, h2⟩ := h2
      unfold Format.read at h2
      dsimp only at h2
      rw [dW, dB, dI, dL] at h2
      have e : r % 18446744073709551616 % 9223372036854775808 = r % 9223372036854775808 := by omega
      rw [e] at h2
      split at h2
      · cases h2
      · split at h2
        · cases h2
        · rw [if_pos (by omega)] at h2; cases h2
    · have : nanB r = nanB (r % 18446744073709551616) := by
        unfold nanB
        show (Datum.order (double.read r) (double.read r) != some Ordering.eq) = (Datum.order (double.read (r % 18446744073709551616)) (double.read (r % 18446744073709551616)) != some Ordering.eq)
        rw [hr]
      rw [this, h2] at h
      cases h
theorem isN_cut (x y t : Nat) : IsN (Question.cut (.nanBits .f64 x y) t) ∧ Question.cut (.nanBits .f64 x y) t < 18446744073709551616 := by
  show IsN ((t % 2) * 2 ^ 63 + 0x7ff0000000000000 + 1 + (t / 2) % (2 ^ 52 - 1)) ∧ (t % 2) * 2 ^ 63 + 0x7ff0000000000000 + 1 + (t / 2) % (2 ^ 52 - 1) < 18446744073709551616
  have h1 : (t / 2) % (2 ^ 52 - 1) < 2 ^ 52 - 1 := Nat.mod_lt _ (by decide)
  have e1 : (2 : Nat) ^ 52 = 4503599627370496 := by decide
  have e2 : (2 : Nat) ^ 63 = 9223372036854775808 := by decide
  rw [e1] at h1 ⊢
  rw [e2]
  generalize (t / 2) % (4503599627370496 - 1) = d at h1 ⊢
  rcases Nat.mod_two_eq_zero_or_one t with h2 | h2
  · rw [h2]
    exact ⟨isN_big (by omega), by omega⟩
  · rw [h2]
    exact ⟨isN_big (by omega), by omega⟩

/-- The size of 1 in the smallest floats' number. -/
def eU : Nat := slow 1074
theorem eU_eq : eU = 1074 := slow_eq _
def un : Nat := 2 ^ eU
theorem un_pos : 0 < un := pos2 _
theorem un_lt {n : Nat} (h : n ≤ 9007199254740992) : n * un < top := by
  refine Nat.lt_of_le_of_lt (Nat.mul_le_mul_right un h) ?_
  unfold un top
  rw [← b53, ← Nat.pow_add]
  exact Nat.pow_lt_pow_right (by decide) (by rw [eT_eq, eU_eq]; omega)
theorem ex_un {n : Nat} (h : n ≤ 9007199254740992) : Ex (n * un) := ex_mul (e := eU) h (Nat.le_of_lt (un_lt h))
theorem fint {n : Nat} (h : n ≤ 9007199254740992) : floatOfInt .f64 (n : Int) = fl false (n * un) := by
  show double.nearest (decide ((n : Int) < 0)) (n : Int).natAbs 0 = _
  rw [decide_eq_false (by omega), Int.natAbs_natCast]
  exact nearest_of false (a := eU) (b := 0) (by rw [eU_eq]; omega) (by rw [Nat.pow_zero, Nat.mul_one, un]) (ex_un h) (un_lt h)
theorem integral_fl (s : Bool) {v : Nat} (h : Ex v) (ht : v < top) : (double.read (fl s v)).integral .zero = .number s (v / un) 0 := by
  obtain ⟨m, a, hr, hm, _⟩ := read_fl s h ht
  rw [hr]
  show Datum.number s (Toward.zero.cut s (m <<< ((a : Int) - 1074).toNat) (-((a : Int) - 1074)).toNat) 0 = _
  rw [cut_zero, Nat.shiftLeft_eq, show ((a : Int) - 1074).toNat = a - eU by rw [eU_eq]; omega, show (-((a : Int) - 1074)).toNat = eU - a by rw [eU_eq]; omega, ← hm]
  refine congrArg (fun z => Datum.number s z 0) ?_
  unfold un
  rcases Nat.le_total a eU with h1 | h1
  · rw [Nat.sub_eq_zero_of_le h1, Nat.pow_zero, Nat.mul_one]
    have e : 2 ^ eU = 2 ^ (eU - a) * 2 ^ a := by rw [← Nat.pow_add, Nat.sub_add_cancel h1]
    rw [e, Nat.mul_div_mul_right _ _ (pos2 a)]
  · rw [Nat.sub_eq_zero_of_le h1, Nat.pow_zero, Nat.div_one]
    have e : 2 ^ a = 2 ^ (a - eU) * 2 ^ eU := by rw [← Nat.pow_add, Nat.sub_add_cancel h1]
    rw [e, ← Nat.mul_assoc, Nat.mul_div_cancel _ (pos2 eU)]
theorem to_int_of {b k : Nat} (hi : (double.read b).integral .zero = .number false k 0) (hk : k ≤ 9007199254740992) : floatToIntVal .f64 b .i64 = some (k : Int) := by
  have e : (FloatKind.f64.decode b).toInt .zero = some (k : Int) := by
    show Datum.toInt .zero (double.read b) = _
    unfold Datum.toInt
    rw [hi]
    show some (signed false k 0) = _
    unfold signed
    rw [if_neg (by decide), Nat.shiftLeft_zero]
  have h1 : IntKind.i64.min ≤ (k : Int) ∧ (k : Int) ≤ IntKind.i64.max := by
    show (-9223372036854775808 : Int) ≤ (k : Int) ∧ (k : Int) ≤ 9223372036854775807
    omega
  unfold floatToIntVal
  rw [e]
  exact if_pos h1
theorem to_int {v : Nat} (h : Ex v) (hv : v ≤ 9007199254740992 * un) : floatToIntVal .f64 (fl false v) .i64 = some ((v / un : Nat) : Int) := by
  have ht : v < top := Nat.lt_of_le_of_lt hv (un_lt (Nat.le_refl _))
  refine to_int_of (integral_fl false h ht) ?_
  have := Nat.div_le_div_right (c := un) hv
  rwa [Nat.mul_div_cancel _ un_pos] at this
theorem ex_trunc {v : Nat} (h : Ex v) : Ex (v / un * un) := by
  by_cases h1 : q v < eU
  · have h2 : v / un < 9007199254740992 := by
      rw [Nat.div_lt_iff_lt_mul un_pos]
      have h3 := head_lt v
      rw [Nat.div_lt_iff_lt_mul (pos2 _)] at h3
      refine Nat.lt_of_lt_of_le h3 (Nat.mul_le_mul_left _ ?_)
      exact Nat.pow_le_pow_right (by decide) (by omega)
    exact ex_un (Nat.le_of_lt h2)
  · have : un ∣ v := Nat.dvd_trans (Nat.pow_dvd_pow 2 (by omega)) h.1
    rw [Nat.div_mul_cancel this]
    exact h
theorem trunc_fl (s : Bool) {v : Nat} (h : Ex v) (ht : v < top) : FloatKind.f64.encode ((FloatKind.f64.decode (fl s v)).integral .zero) = fl s (v / un * un) := by
  show double.write ((double.read (fl s v)).integral .zero) = _
  rw [integral_fl s h ht]
  exact nearest_of s (a := eU) (b := 0) (by rw [eU_eq]; omega) (by rw [Nat.pow_zero, Nat.mul_one, un]) (ex_trunc h) (Nat.lt_of_le_of_lt (Nat.div_mul_le_self _ _) ht)
theorem trunc_top (s : Bool) : FloatKind.f64.encode ((FloatKind.f64.decode (fl s top)).integral .zero) = fl s top := by
  show double.write ((double.read (fl s top)).integral .zero) = _
  rw [read_top]
  show double.word s double.infRung = _
  rw [dI, ← rg_top]
  exact word_fl s top

theorem xor_top {x : Nat} (h : x < 9223372036854775808) : x ^^^ 9223372036854775808 = 9223372036854775808 + x := by
  rw [show (9223372036854775808 : Nat) = 2 ^ 63 by decide] at h ⊢
  refine Nat.eq_of_testBit_eq fun i => ?_
  rw [Nat.testBit_xor, Nat.testBit_two_pow]
  rcases Nat.lt_trichotomy i 63 with h1 | h1 | h1
  · rw [Nat.testBit_two_pow_add_gt h1, decide_eq_false (by omega), Bool.xor_false]
  · subst h1
    rw [Nat.testBit_two_pow_add_eq, decide_eq_true rfl, Bool.xor_true]
  · have e1 : x.testBit i = false := Nat.testBit_lt_two_pow (Nat.lt_of_lt_of_le h (Nat.pow_le_pow_right (by decide) (by omega)))
    have e2 : (2 ^ 63 + x).testBit i = false := Nat.testBit_lt_two_pow (Nat.lt_of_lt_of_le (m := 2 ^ 64) (by omega) (Nat.pow_le_pow_right (by decide) (by omega)))
    rw [e1, e2, decide_eq_false (by omega)]; rfl
theorem neg_fl (s : Bool) {v : Nat} (h : Ex v) : Op.negFloat .f64 (fl s v) = fl (!s) v := by
  have hr := rg_le h.2
  show fl s v ^^^ 9223372036854775808 = _
  unfold fl
  cases s
  · simp only [Bool.false_eq_true, Bool.not_false, if_true, if_false]
    exact xor_top (by omega)
  · simp only [Bool.false_eq_true, Bool.not_true, if_true, if_false]
    rw [← xor_top (by omega), Nat.xor_assoc, Nat.xor_self, Nat.xor_zero]

section
variable {s : Bool} {v : Nat}
theorem lt0 (hv : Ex v) : (FloatKind.f64.format.order (fl s v) 0 == some Ordering.lt) = (s && decide (v ≠ 0)) := by
  have h := lt_fl (s := s) (t := false) hv ex_zero
  rw [fl_zero] at h
  rw [h]
  unfold sg
  cases s <;> simp only [Bool.false_eq_true, if_true, if_false, Bool.false_and, Bool.true_and]
  · exact decide_eq_false (by omega)
  · exact decide_eq_decide.2 (by omega)
theorem gt0 (hv : Ex v) : (FloatKind.f64.format.order (fl s v) 0 == some Ordering.gt) = (!s && decide (v ≠ 0)) := by
  have h := gt_fl (s := s) (t := false) hv ex_zero
  rw [fl_zero] at h
  rw [h]
  unfold sg
  cases s <;> simp only [Bool.false_eq_true, if_true, if_false, Bool.not_false, Bool.not_true, Bool.false_and, Bool.true_and]
  · exact decide_eq_decide.2 (by omega)
  · exact decide_eq_false (by omega)
theorem eq0 (hv : Ex v) : (FloatKind.f64.format.order (fl s v) 0 == some Ordering.eq) = decide (v = 0) := by
  have h := eq_fl (s := s) (t := false) hv ex_zero
  rw [fl_zero] at h
  rw [h]
  unfold sg
  cases s <;> simp only [Bool.false_eq_true, if_true, if_false] <;> exact decide_eq_decide.2 (by omega)
theorem ne0 (hv : Ex v) : (FloatKind.f64.format.order (fl s v) 0 != some Ordering.eq) = decide (v ≠ 0) := by
  have h := eq0 (s := s) hv
  show (!(FloatKind.f64.format.order (fl s v) 0 == some Ordering.eq)) = _
  rw [h]
  by_cases h0 : v = 0 <;> simp [h0]
end
theorem ex_up {v n : Nat} (h : Ex v) (ht : v * 2 ^ n ≤ top) : Ex (v * 2 ^ n) := by
  induction n with
  | zero => rw [Nat.pow_zero, Nat.mul_one]; exact h
  | succ n ih =>
    have e : v * 2 ^ (n + 1) = 2 * (v * 2 ^ n) := by rw [Nat.pow_succ, ← Nat.mul_assoc, Nat.mul_comm]
    rw [e] at ht ⊢
    exact ex_double (ih (by omega)) ht
theorem ex_down {v n : Nat} (h : Ex (v * 2 ^ n)) : Ex v := by
  induction n with
  | zero => rw [Nat.pow_zero, Nat.mul_one] at h; exact h
  | succ n ih =>
    have e : v * 2 ^ (n + 1) = 2 * (v * 2 ^ n) := by rw [Nat.pow_succ, ← Nat.mul_assoc, Nat.mul_comm]
    rw [e] at h
    exact ih (ex_half h)
theorem rg_mul {k : Nat} (e : Nat) (h1 : 4503599627370496 ≤ k) (h2 : k < 9007199254740992) : rg (k * 2 ^ e) = e * 4503599627370496 + k := by
  have hl : k.log2 = 52 := log2_is (by rw [b52]; exact h1) (by rw [show (2 : Nat) ^ (52 + 1) = 9007199254740992 by decide]; exact h2)
  have hq : q (k * 2 ^ e) = e := by unfold q; rw [log2_mul (by omega), hl]; omega
  unfold rg
  rw [hq, Nat.mul_div_cancel _ (pos2 e)]
/-- 2^52 and 2^53, as floats. -/
def t52 : Nat := 4503599627370496 * un
def t53 : Nat := 9007199254740992 * un
theorem t53_two : t53 = 2 * t52 := by unfold t53 t52; rw [← Nat.mul_assoc]
theorem c52 : fl false t52 = 4841369599423283200 := by
  unfold fl t52 un
  rw [if_neg (by decide), rg_mul eU (by decide) (by decide), eU_eq]
theorem c53 : fl false t53 = 4845873199050653696 := by
  have e : t53 = 4503599627370496 * 2 ^ (1 + eU) := by
    unfold t53 un
    rw [← b53, ← b52, ← Nat.pow_add, ← Nat.pow_add, ← Nat.add_assoc]
  unfold fl
  rw [if_neg (by decide), e, rg_mul (1 + eU) (by decide) (by decide), eU_eq]
theorem ex_t52 : Ex t52 := ex_un (by omega)
theorem ex_t53 : Ex t53 := ex_un (by omega)
theorem t52_pos : 0 < t52 := Nat.mul_pos (by decide) un_pos
theorem t53_top : t53 < top := un_lt (Nat.le_refl _)
theorem t52_log {x : Nat} (h1 : t52 ≤ x) (h2 : x < t53) : x.log2 = 1126 := by
  have h := log2_is (k := 52 + eU) (Nat.le_trans (Nat.le_of_eq (by unfold t52 un; rw [← b52, ← Nat.pow_add])) h1) (Nat.lt_of_lt_of_le h2 (Nat.le_of_eq (by unfold t53 un; rw [← b53, ← Nat.pow_add, show 53 + eU = 52 + eU + 1 by omega])))
  rw [h, eU_eq]
theorem lt52 {v : Nat} (hv : Ex v) : (FloatKind.f64.format.order (fl false v) 4841369599423283200 == some Ordering.lt) = decide (v < t52) := by
  have h := lt_fl (s := false) (t := false) hv ex_t52
  rw [c52] at h
  rw [h]
  exact decide_eq_decide.2 (by unfold sg; simp only [Bool.false_eq_true, if_false]; omega)
theorem ge53 {v : Nat} (hv : Ex v) : (FloatKind.f64.format.order (fl false v) 4845873199050653696 == some Ordering.gt || FloatKind.f64.format.order (fl false v) 4845873199050653696 == some Ordering.eq) = decide (t53 ≤ v) := by
  have h := ge_fl (s := false) (t := false) hv ex_t53
  rw [c53] at h
  rw [h]
  exact decide_eq_decide.2 (by unfold sg; simp only [Bool.false_eq_true, if_false]; omega)
theorem gt53 {v : Nat} (hv : Ex v) : (FloatKind.f64.format.order (fl false v) 4845873199050653696 == some Ordering.gt) = decide (t53 < v) := by
  have h := gt_fl (s := false) (t := false) hv ex_t53
  rw [c53] at h
  rw [h]
  exact decide_eq_decide.2 (by unfold sg; simp only [Bool.false_eq_true, if_false]; omega)
/-- What the reference's two loops find. -/
theorem norm_rg {v x e : Nat} (hv : Ex v) (h : x * 2 ^ e = v * 2 ^ (1 + eU)) (he : 1 ≤ e) (hx : x < t53) (hc : x = 0 ∨ t52 ≤ x ∨ e = 1) :
    x / un < 9007199254740992 ∧ (x / un < 4503599627370496 → rg v = x / un) ∧ (4503599627370496 ≤ x / un → rg v = e * 4503599627370496 + (x / un - 4503599627370496)) := by
  have h1 : x / un < 9007199254740992 := by rw [Nat.div_lt_iff_lt_mul un_pos]; exact hx
  refine ⟨h1, ?_⟩
  have hU := eU_eq
  by_cases he1 : e = 1
  · subst he1
    have h2 : x = v * un := by
      refine Nat.eq_of_mul_eq_mul_right (pos2 1) ?_
      rw [h, un, Nat.mul_assoc, ← Nat.pow_add, Nat.add_comm]
    rw [h2, Nat.mul_div_cancel _ un_pos] at h1 ⊢
    have := rg_small h1
    omega
  · by_cases hx0 : x = 0
    · subst hx0
      have hv0 : v = 0 := by
        rcases Nat.eq_zero_or_pos v with h2 | h2
        · exact h2
        · have := Nat.mul_pos h2 (pos2 (1 + eU)); omega
      subst hv0
      have : rg 0 = 0 := rg_small (by omega)
      rw [Nat.zero_div]
      omega
    · have hx1 : t52 ≤ x := by omega
      have hl := t52_log hx1 hx
      have hv0 : v ≠ 0 := by
        intro h2
        subst h2
        have := Nat.mul_pos (Nat.pos_of_ne_zero hx0) (pos2 e); omega
      have hlv : v.log2 + (1 + eU) = 1126 + e := by rw [← log2_mul hv0, ← h, log2_mul hx0, hl]
      have hq : q v = e - 1 := by unfold q; omega
      have hdv := Nat.div_mul_cancel hv.1
      have hxc : x = v / 2 ^ q v * un := by
        refine Nat.eq_of_mul_eq_mul_right (pos2 e) ?_
        rw [h]
        conv => lhs; rw [← hdv]
        rw [un, Nat.mul_assoc, Nat.mul_assoc, ← Nat.pow_add, ← Nat.pow_add]
        congr 2
        omega
      have hN : x / un = v / 2 ^ q v := by conv => lhs; rw [hxc, Nat.mul_div_cancel _ un_pos]
      have hge : 4503599627370496 ≤ x / un := by
        rw [Nat.le_div_iff_mul_le un_pos]
        exact hx1
      have hrg : rg v = q v * 4503599627370496 + v / 2 ^ q v := rfl
      rw [← hN, hq] at hrg
      omega
theorem big_even {x : Nat} (hx : Ex x) (h : t53 ≤ x) : x % 2 = 0 := by
  rcases Nat.mod_two_eq_zero_or_one x with h1 | h1
  · exact h1
  · have h2 := odd_small hx h1
    have : 9007199254740992 ≤ t53 := by unfold t53; exact Nat.le_mul_of_pos_right _ un_pos
    omega
theorem norm_bound {v x e : Nat} (hv : v < top) (h : x * 2 ^ e = v * 2 ^ (1 + eU)) (hx : t53 ≤ x) : e < 2046 := by
  rcases Nat.lt_or_ge e 2046 with h1 | h1
  · exact h1
  · exfalso
    obtain ⟨d, hd⟩ : ∃ d, d = 2046 := ⟨_, rfl⟩
    rw [← hd] at h1
    have h2 : top * 2 ^ (1 + eU) ≤ x * 2 ^ e := by
      refine Nat.le_trans (Nat.le_of_eq ?_) (Nat.mul_le_mul hx (Nat.pow_le_pow_right (by decide) h1))
      have hT := eT_eq
      unfold t53 un top
      rw [← b53, ← Nat.pow_add, ← Nat.pow_add, ← Nat.pow_add, show eT + (1 + eU) = 53 + eU + d by omega]
    rw [h] at h2
    have := Nat.mul_lt_mul_of_pos_right hv (pos2 (1 + eU))
    omega
theorem val_small {r : Nat} (h : r < 4503599627370496) : val r = r := by unfold val; rw [if_pos h]
theorem val_big {e f : Nat} (h : f < 4503599627370496) : val ((e + 1) * 4503599627370496 + f) = (4503599627370496 + f) * 2 ^ e := by
  unfold val
  rw [if_neg (by omega), show ((e + 1) * 4503599627370496 + f) / 4503599627370496 - 1 = e by omega, show ((e + 1) * 4503599627370496 + f) % 4503599627370496 = f by omega]
theorem val_lt {r : Nat} (h : r < 9218868437227405312) : val r < top := by
  rcases Nat.lt_or_ge (val r) top with h1 | h1
  · exact h1
  · have h2 := ex_val (Nat.le_of_lt h)
    have h3 := Nat.le_antisymm h2.1.2 h1
    rw [h3, rg_top] at h2
    omega
theorem neg_run (s : Bool) {v : Nat} (h : Ex v) : Op.unary .neg (.float .f64 (fl s v)) = pure (.float .f64 (fl (!s) v)) := by
  show pure (Value.float .f64 (Op.negFloat .f64 (fl s v))) = _
  rw [neg_fl s h]
/-- The float that bits are. -/
theorem fl_of {b : Nat} (hb : b < 18446744073709551616) (h : b % 9223372036854775808 ≤ 9218868437227405312) : fl (signB b) (val (b % 9223372036854775808)) = b := by
  unfold fl signB
  rw [(ex_val h).2]
  by_cases h1 : 9223372036854775808 ≤ b
  · rw [decide_eq_true h1, if_pos rfl]; omega
  · rw [decide_eq_false h1, if_neg (by decide)]; omega
end Go.Proofs.Ytffojilbhpefbaa.Fp
