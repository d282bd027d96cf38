/- What doubling, halving, one over nothing, comparing, turning the sign, making whole give of a float that is a sign and a value. Conditions: none. -/
import Derived.Test.YtffojilbhpefbaaFpA
namespace Go.Proofs.Ytffojilbhpefbaa.Fp
open Ieee

theorem two_read : double.read 4611686018427387904 = .number false 4503599627370496 (-51) := by decide
theorem b52 : (2 : Nat) ^ 52 = 4503599627370496 := by decide
theorem b53 : (2 : Nat) ^ 53 = 9007199254740992 := by decide

theorem ex_double {v : Nat} (h : Ex v) (ht : 2 * v ≤ top) : Ex (2 * v) := by
  refine ⟨?_, ht⟩
  by_cases h0 : v = 0
  · subst h0; exact Nat.dvd_zero _
  · have hl : (2 * v).log2 = v.log2 + 1 := by rw [Nat.mul_comm]; exact log2_mul h0 1
    have hq : q (2 * v) ≤ q v + 1 := by unfold q; omega
    refine Nat.dvd_trans (Nat.pow_dvd_pow 2 hq) ?_
    rw [Nat.pow_succ, Nat.mul_comm]
    exact Nat.mul_dvd_mul_left 2 h.1
theorem ex_half {w : Nat} (h : Ex (2 * w)) : Ex w := by
  refine ⟨?_, by have := h.2; omega⟩
  by_cases h0 : w = 0
  · subst h0; exact Nat.dvd_zero _
  · have hl : (2 * w).log2 = w.log2 + 1 := by rw [Nat.mul_comm]; exact log2_mul h0 1
    by_cases h1 : w.log2 < 52
    · rw [show q w = 0 by unfold q; omega, Nat.pow_zero]; exact Nat.one_dvd _
    · have h2 := h.1
      rw [show q (2 * w) = q w + 1 by unfold q; omega, Nat.pow_succ, Nat.mul_comm] at h2
      exact Nat.dvd_of_mul_dvd_mul_left (by decide) h2
theorem odd_small {v : Nat} (h : Ex v) (ho : v % 2 = 1) : v < 9007199254740992 := by
  have h1 := head_lt v
  by_cases hq : q v = 0
  · rw [hq, Nat.pow_zero, Nat.div_one] at h1; exact h1
  · have h2 := h.1
    have : 2 ∣ v := Nat.dvd_trans (by rw [show q v = (q v - 1) + 1 by omega, Nat.pow_succ]; exact Nat.dvd_mul_left _ _) h2
    omega

theorem mul2 (s : Bool) {v : Nat} (h : Ex v) (ht : 2 * v < top) : double.mul (fl s v) 4611686018427387904 = some (fl s (2 * v)) := by
  obtain ⟨m, a, hr, hm, _⟩ := read_fl s h (by omega)
  unfold Format.mul
  rw [hr, two_read]
  show some (double.nearest (s ^^ false) (m * 4503599627370496) ((a : Int) - 1074 + -51)) = _
  rw [Bool.xor_false]
  congr 1
  refine nearest_of s (a := a) (b := 51) (by omega) ?_ (ex_double h (Nat.le_of_lt ht)) ht
  rw [← hm, ← b52, show (2 : Nat) ^ 52 = 2 * 2 ^ 51 by decide, Nat.mul_assoc, Nat.mul_comm (2 * 2 ^ 51), ← Nat.mul_assoc, Nat.mul_comm 2 (2 ^ 51), ← Nat.mul_assoc, Nat.mul_comm _ 2, ← Nat.mul_assoc]

theorem div_two (s : Bool) {v : Nat} (h : Ex v) (ht : v < top) : ∃ m a k : Nat, m * 2 ^ a = v ∧ double.div (fl s v) 4611686018427387904 = some (double.nearest s (m * 2 ^ (k + 1)) ((a : Int) - (k + 2 : Nat) - 1074)) := by
  obtain ⟨m, a, hr, hm, hlt⟩ := read_fl s h ht
  have hl : m.log2 ≤ 52 := by
    by_cases h0 : m = 0
    · subst h0; decide
    · have : m.log2 < 53 := (Nat.log2_lt h0).2 (by rw [b53]; exact hlt)
      omega
  refine ⟨m, a, 54 - m.log2, hm, ?_⟩
  unfold Format.div
  rw [hr, two_read]
  have hn : Nat.log2 4503599627370496 = 52 := log2_is (by decide) (by decide)
  have hd : m <<< (52 + 2 + Nat.log2 4503599627370496 - m.log2) = m * 2 ^ (54 - m.log2) * 4503599627370496 := by
    rw [hn, Nat.shiftLeft_eq, ← b52, Nat.mul_assoc, ← Nat.pow_add, show 52 + 2 + 52 - m.log2 = 54 - m.log2 + 52 by omega]
  show Option.map double.write (if (4503599627370496 : Nat) = 0 then (if m = 0 then none else some (Datum.infinity (s ^^ false))) else some (Datum.number (s ^^ false) (2 * (m <<< (52 + 2 + Nat.log2 4503599627370496 - m.log2) / 4503599627370496) + (m <<< (52 + 2 + Nat.log2 4503599627370496 - m.log2) % 4503599627370496 != 0).toNat) ((a : Int) - 1074 - -51 - (52 + 2 + Nat.log2 4503599627370496 - m.log2 : Nat) - 1))) = _
  rw [if_neg (by decide), hd, Nat.mul_div_cancel _ (by decide), Nat.mul_mod_left, Bool.xor_false]
  show some (double.nearest s (2 * (m * 2 ^ (54 - m.log2)) + 0) _) = _
  congr 2
  · rw [Nat.add_zero, Nat.pow_succ, Nat.mul_comm 2, Nat.mul_assoc]
  · rw [hn]; omega

theorem half_even (s : Bool) {w : Nat} (h : Ex (2 * w)) (ht : 2 * w < top) : double.div (fl s (2 * w)) 4611686018427387904 = some (fl s w) := by
  obtain ⟨m, a, k, hm, he⟩ := div_two s h ht
  rw [he]
  congr 1
  refine nearest_of s (a := a) (b := k + 2) (by omega) ?_ (ex_half h) (by omega)
  rw [Nat.mul_assoc, Nat.mul_comm (2 ^ (k + 1)), ← Nat.mul_assoc, hm, Nat.mul_comm 2 w, Nat.mul_assoc, ← Nat.pow_succ']

theorem half_odd (s : Bool) {v : Nat} (h : Ex v) (ht : v < top) (ho : v % 2 = 1) : double.div (fl s v) 4611686018427387904 = some (fl s (v / 2 + v / 2 % 2)) := by
  obtain ⟨m, a, k, hm, he⟩ := div_two s h ht
  have hs := odd_small h ho
  have ha : a = 0 := by
    rcases Nat.eq_zero_or_pos a with h0 | h0
    · exact h0
    · have : 2 ∣ v := by rw [← hm, show a = (a - 1) + 1 by omega, Nat.pow_succ, ← Nat.mul_assoc]; exact Nat.dvd_mul_left _ _
      omega
  subst ha
  rw [Nat.pow_zero, Nat.mul_one] at hm
  subst hm
  rw [he]
  congr 1
  have hm0 : m ≠ 0 := by omega
  have hl : m.log2 < 53 := (Nat.log2_lt hm0).2 (by rw [b53]; exact hs)
  have hlog : (m * 2 ^ (k + 1)).log2 = m.log2 + (k + 1) := log2_mul hm0 _
  have hpos := pos2 (k + 1)
  have hmag : m * 2 ^ (k + 1) ≠ 0 := Nat.mul_ne_zero hm0 (by omega)
  unfold Format.nearest
  rw [if_neg hmag]
  dsimp only
  rw [dF, dL, dB, dI, hlog]
  have hlast : max (((0 : Nat) : Int) - (k + 2 : Nat) - 1074 + (m.log2 + (k + 1) : Nat) - ((52 : Nat) : Int)) (-1074) = -1074 := by omega
  rw [hlast, show (((0 : Nat) : Int) - (k + 2 : Nat) - 1074 - -1074).toNat = 0 by omega, show ((-1074 : Int) - (((0 : Nat) : Int) - (k + 2 : Nat) - 1074)).toNat = k + 2 by omega]
  have hcut : Toward.even.cut s (m * 2 ^ (k + 1)) (k + 2) = m / 2 + m / 2 % 2 := by
    unfold Toward.cut
    dsimp only
    rw [hlog, Nat.min_eq_left (by omega), Nat.one_shiftLeft, show 2 ^ (k + 2) = 2 * 2 ^ (k + 1) by rw [Nat.pow_succ' (n := k + 1)]]
    have h1 : m * 2 ^ (k + 1) / (2 * 2 ^ (k + 1)) = m / 2 := Nat.mul_div_mul_right _ _ hpos
    have h2 : m * 2 ^ (k + 1) % (2 * 2 ^ (k + 1)) = 2 ^ (k + 1) := by rw [Nat.mul_mod_mul_right, ho, Nat.one_mul]
    rw [h1, h2]
    have e1 : decide (2 * 2 ^ (k + 1) < 2 * 2 ^ (k + 1)) = false := by simp
    rw [e1, beq_self_eq_true]
    rcases Nat.mod_two_eq_zero_or_one (m / 2) with h3 | h3 <;> rw [h3] <;> rfl
  rw [Nat.shiftLeft_zero, hcut, show ((-1074 : Int) - -1074).toNat = 0 by decide, Nat.zero_mul, Nat.zero_add, Nat.min_eq_left (by omega)]
  rw [← rg_small (v := m / 2 + m / 2 % 2) (by omega)]
  rw [word_fl, rg_small (v := m / 2 + m / 2 % 2) (by omega)]

/-- Half of a value that is no nought, and not beyond all, is another one. -/
theorem half_any (s : Bool) {v : Nat} (h : Ex v) (ht : v < top) : ∃ w, double.div (fl s v) 4611686018427387904 = some (fl s w) ∧ Ex w ∧ (v ≠ 0 → w ≠ v) ∧ w ≤ v := by
  rcases Nat.mod_two_eq_zero_or_one v with h2 | h2
  · obtain ⟨w, rfl⟩ : ∃ w, v = 2 * w := ⟨v / 2, by omega⟩
    exact ⟨w, half_even s h ht, ex_half h, by omega, by omega⟩
  · have := odd_small h h2
    exact ⟨_, half_odd s h ht h2, ex_small (by omega), by omega, by omega⟩
theorem half_top (s : Bool) : double.div (fl s top) 4611686018427387904 = some (fl s top) := by
  unfold fl; rw [rg_top]; cases s <;> decide
theorem fl_zero : fl false 0 = 0 := by decide
theorem one_over (s : Bool) : double.div 4607182418800017408 (fl s 0) = some (fl s top) := by
  unfold fl; rw [rg_top]; cases s <;> decide
theorem nought_over : double.div 0 0 = none := by decide

theorem signed_sg (s : Bool) (m a b : Nat) (h : b ≤ a) : signed s m (a - b) * (2 ^ b : Nat) = sg s (m * 2 ^ a) := by
  have e : m <<< (a - b) * 2 ^ b = m * 2 ^ a := by rw [Nat.shiftLeft_eq, Nat.mul_assoc, ← Nat.pow_add, Nat.sub_add_cancel h]
  unfold signed sg
  cases s
  · simp only [Bool.false_eq_true, if_false]; rw [← e]; exact (Int.natCast_mul _ _).symm
  · simp only [if_true]; rw [← e, Int.neg_mul]; congr 1
theorem compare_scale (x y : Int) (k : Nat) (h : 0 < k) : compare x y = compare (x * k) (y * k) := by
  have hk : (0 : Int) < k := by omega
  show compareOfLessAndEq x y = compareOfLessAndEq (x * k) (y * k)
  unfold compareOfLessAndEq
  have e1 : (x < y) = (x * k < y * k) := propext ⟨fun h => Int.mul_lt_mul_of_pos_right h hk, fun h => Int.lt_of_mul_lt_mul_right h (Int.le_of_lt hk)⟩
  have e2 : (x = y) = (x * k = y * k) := propext ⟨fun h => by rw [h], fun h => Int.eq_of_mul_eq_mul_right (by omega) h⟩
  simp only [← e1, ← e2]
theorem sg_lt {s : Bool} {v t : Nat} (h : v < t) : -(t : Int) < sg s v ∧ sg s v < t := by unfold sg; cases s <;> simp only [Bool.false_eq_true, if_true, if_false] <;> omega
theorem order_fl (s t : Bool) {v w : Nat} (hv : Ex v) (hw : Ex w) : double.order (fl s v) (fl t w) = some (compare (sg s v) (sg t w)) := by
  unfold Format.order
  rcases Nat.lt_or_ge v top with h1 | h1
  · obtain ⟨m, a, hr, hm, _⟩ := read_fl s hv h1
    rw [hr]
    rcases Nat.lt_or_ge w top with h2 | h2
    · obtain ⟨n, c, hr2, hn, _⟩ := read_fl t hw h2
      rw [hr2]
      show some (compare (signed s m ((a : Int) - 1074 - min ((a : Int) - 1074) ((c : Int) - 1074)).toNat) (signed t n ((c : Int) - 1074 - min ((a : Int) - 1074) ((c : Int) - 1074)).toNat)) = _
      rw [show ((a : Int) - 1074 - min ((a : Int) - 1074) ((c : Int) - 1074)).toNat = a - min a c by omega, show ((c : Int) - 1074 - min ((a : Int) - 1074) ((c : Int) - 1074)).toNat = c - min a c by omega]
      rw [compare_scale _ _ _ (pos2 (min a c)), signed_sg s m a _ (Nat.min_le_left _ _), signed_sg t n c _ (Nat.min_le_right _ _), hm, hn]
    · have e := Nat.le_antisymm hw.2 h2
      rw [e, read_top]
      have := sg_lt (s := s) h1
      cases t
      · show some Ordering.lt = some (compareOfLessAndEq _ _)
        unfold compareOfLessAndEq
        rw [if_pos (show sg s v < sg false top from this.2)]
      · show some Ordering.gt = some (compareOfLessAndEq _ _)
        unfold compareOfLessAndEq
        have h3 : sg true top = -(top : Int) := rfl
        rw [if_neg (by omega), if_neg (by omega)]
  · have e := Nat.le_antisymm hv.2 h1
    rw [e, read_top]
    rcases Nat.lt_or_ge w top with h2 | h2
    · obtain ⟨n, c, hr2, hn, _⟩ := read_fl t hw h2
      rw [hr2]
      have := sg_lt (s := t) h2
      cases s
      · show some Ordering.gt = some (compareOfLessAndEq _ _)
        unfold compareOfLessAndEq
        have h3 : sg false top = (top : Int) := rfl
        rw [if_neg (by omega), if_neg (by omega)]
      · show some Ordering.lt = some (compareOfLessAndEq _ _)
        unfold compareOfLessAndEq
        have h3 : sg true top = -(top : Int) := rfl
        rw [if_pos (by omega)]
    · have e := Nat.le_antisymm hw.2 h2
      rw [e, read_top]
      have h3 : sg true top = -(top : Int) := rfl
      have h4 : sg false top = (top : Int) := rfl
      have := top_pos
      cases s <;> cases t
      · show some Ordering.eq = some (compareOfLessAndEq _ _)
        unfold compareOfLessAndEq
        rw [if_neg (Int.lt_irrefl (sg false top)), if_pos rfl]
      · show some Ordering.gt = some (compareOfLessAndEq _ _)
        unfold compareOfLessAndEq
        rw [h3, h4, if_neg (show ¬((top : Int) < -(top : Int)) by omega), if_neg (show ¬((top : Int) = -(top : Int)) by omega)]
      · show some Ordering.lt = some (compareOfLessAndEq _ _)
        unfold compareOfLessAndEq
        rw [h3, h4, if_pos (show (-(top : Int) < (top : Int)) by omega)]
      · show some Ordering.eq = some (compareOfLessAndEq _ _)
        unfold compareOfLessAndEq
        rw [if_neg (Int.lt_irrefl (sg true top)), if_pos rfl]
end Go.Proofs.Ytffojilbhpefbaa.Fp
