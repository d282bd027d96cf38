/- Floats of 64 bits in plain words: each one that is a number, or an infinity, is a sign and a whole number of the smallest float's size; what the operations give is said of these. Conditions: none. -/
import Derived.Laws.FloatArith
import Derived.Test.YtffojilbhpefbaaLib
namespace Go.Proofs.Ytffojilbhpefbaa.Fp
open Ieee

/-- How many digits below are left out. -/
def q (v : Nat) : Nat := v.log2 - 52
/-- A value's bits, but for the sign. -/
def rg (v : Nat) : Nat := q v * 4503599627370496 + v / 2 ^ q v
/-- A number's own value, by a way that is not reckoned out while a text is read. -/
def slow (n : Nat) : Nat := if h : n = 0 then 0 else slow (n / 2) + (n - n / 2)
theorem slow_eq : ∀ n, slow n = n := by
  intro n
  induction n using Nat.strongRecOn with
  | _ n ih =>
    rw [slow]
    by_cases h : n = 0
    · rw [dif_pos h]; exact h.symm
    · rw [dif_neg h, ih (n / 2) (by omega)]; omega
def eT : Nat := slow 2098
theorem eT_eq : eT = 2098 := slow_eq _
/-- The value that stands for infinity. -/
def top : Nat := 2 ^ eT
/-- There is a float of this value. -/
def Ex (v : Nat) : Prop := 2 ^ q v ∣ v ∧ v ≤ top
/-- The float of a sign and a value. -/
def fl (s : Bool) (v : Nat) : Nat := if s then 9223372036854775808 + rg v else rg v
/-- The value of bits, but for the sign. -/
def val (r : Nat) : Nat := if r < 4503599627370496 then r else (4503599627370496 + r % 4503599627370496) * 2 ^ (r / 4503599627370496 - 1)
def sg (s : Bool) (v : Nat) : Int := if s then -(v : Int) else v

theorem pos2 (k : Nat) : 0 < 2 ^ k := Nat.two_pow_pos k
theorem top_pos : 0 < top := pos2 _
theorem log2_is {v k : Nat} (h1 : 2 ^ k ≤ v) (h2 : v < 2 ^ (k + 1)) : v.log2 = k := by
  have hv : v ≠ 0 := by have := pos2 k; omega
  exact (Nat.log2_eq_iff hv).2 ⟨h1, h2⟩
theorem log2_mul {v : Nat} (hv : v ≠ 0) (a : Nat) : (v * 2 ^ a).log2 = v.log2 + a := by
  have h1 := Nat.log2_self_le hv
  have h2 : v < 2 ^ (v.log2 + 1) := Nat.lt_log2_self
  refine log2_is ?_ ?_
  · rw [Nat.pow_add]; exact Nat.mul_le_mul_right _ h1
  · rw [show v.log2 + a + 1 = (v.log2 + 1) + a by omega, Nat.pow_add]
    exact Nat.mul_lt_mul_of_pos_right h2 (pos2 a)
theorem log2_top : top.log2 = 2098 := (log2_is (k := eT) (Nat.le_refl _) (Nat.pow_lt_pow_right (by decide) (Nat.lt_succ_self _))).trans eT_eq
theorem log2_mono {v w : Nat} (h : v ≤ w) : v.log2 ≤ w.log2 := by
  by_cases hv : v = 0
  · subst hv; simp
  · have hw : w ≠ 0 := by omega
    exact (Nat.le_log2 hw).2 (Nat.le_trans (Nat.log2_self_le hv) h)
theorem log2_lt_top {v : Nat} (h : v < top) : v.log2 < 2098 := by
  by_cases hv : v = 0
  · subst hv; simp
  · have := (Nat.log2_lt (k := eT) hv).2 h
    rw [eT_eq] at this
    exact this
/-- A value's first digits, at most 53. -/
theorem head_lt (v : Nat) : v / 2 ^ q v < 9007199254740992 := by
  have h2 : v < 2 ^ (v.log2 + 1) := Nat.lt_log2_self
  rw [Nat.div_lt_iff_lt_mul (pos2 _)]
  refine Nat.lt_of_lt_of_le h2 ?_
  rw [show (9007199254740992 : Nat) = 2 ^ 53 by decide, ← Nat.pow_add]
  exact Nat.pow_le_pow_right (by decide) (by unfold q; omega)
theorem head_ge (v : Nat) (h : q v ≠ 0) : 4503599627370496 ≤ v / 2 ^ q v := by
  have hv : v ≠ 0 := by intro h0; subst h0; exact h (by decide)
  have h1 := Nat.log2_self_le hv
  rw [Nat.le_div_iff_mul_le (pos2 _), show (4503599627370496 : Nat) = 2 ^ 52 by decide, ← Nat.pow_add]
  refine Nat.le_trans (Nat.le_of_eq ?_) h1
  congr 1
  unfold q at *; omega
theorem q_zero {v : Nat} (h : v < 9007199254740992) : q v = 0 := by
  unfold q
  by_cases hv : v = 0
  · subst hv; decide
  · have : v.log2 < 53 := (Nat.log2_lt hv).2 h
    omega
theorem rg_small {v : Nat} (h : v < 9007199254740992) : rg v = v := by
  unfold rg; rw [q_zero h]; simp
theorem rg_lt {v : Nat} (h : v < top) : rg v < 9218868437227405312 := by
  have h1 := head_lt v
  have h2 := log2_lt_top h
  unfold rg
  have : q v ≤ 2045 := by unfold q; omega
  omega
theorem q_top : q top = 2046 := by unfold q; rw [log2_top]
theorem rg_top : rg top = 9218868437227405312 := by
  unfold rg
  rw [q_top]
  have : ∀ d, 52 + d = eT → top / 2 ^ d = 4503599627370496 := by
    intro d h
    unfold top
    rw [← h, Nat.pow_add, Nat.mul_div_cancel _ (pos2 _)]
  rw [this 2046 (by rw [eT_eq])]
theorem rg_le {v : Nat} (h : v ≤ top) : rg v ≤ 9218868437227405312 := by
  rcases Nat.lt_or_ge v top with h1 | h1
  · exact Nat.le_of_lt (rg_lt h1)
  · rw [Nat.le_antisymm h h1, rg_top]; exact Nat.le_refl _
theorem val_rg {v : Nat} (h : Ex v) : val (rg v) = v := by
  have h1 := head_lt v
  have h2 : v / 2 ^ q v * 2 ^ q v = v := Nat.div_mul_cancel h.1
  unfold val rg
  by_cases h3 : q v = 0
  · rw [h3] at h1 h2 ⊢
    simp only [Nat.zero_mul, Nat.zero_add, Nat.pow_zero, Nat.div_one] at h1 ⊢
    by_cases h4 : v < 4503599627370496
    · rw [if_pos h4]
    · rw [if_neg h4, show v / 4503599627370496 - 1 = 0 by omega, Nat.pow_zero, Nat.mul_one]; omega
  · have h4 := head_ge v h3
    rw [if_neg (by omega)]
    rw [show (q v * 4503599627370496 + v / 2 ^ q v) / 4503599627370496 - 1 = q v by omega, show 4503599627370496 + (q v * 4503599627370496 + v / 2 ^ q v) % 4503599627370496 = v / 2 ^ q v by omega]
    exact h2
theorem rg_inj {v w : Nat} (hv : Ex v) (hw : Ex w) (h : rg v = rg w) : v = w := by rw [← val_rg hv, ← val_rg hw, h]
theorem ex_zero : Ex 0 := ⟨Nat.dvd_zero _, Nat.zero_le _⟩
theorem ex_top : Ex top := by
  refine ⟨?_, Nat.le_refl _⟩
  have h : q top ≤ eT := by rw [q_top, eT_eq]; omega
  exact Nat.pow_dvd_pow 2 h
theorem ex_mul {k e : Nat} (hk : k ≤ 9007199254740992) (ht : k * 2 ^ e ≤ top) : Ex (k * 2 ^ e) := by
  refine ⟨?_, ht⟩
  by_cases h0 : k = 0
  · subst h0; rw [Nat.zero_mul]; exact Nat.dvd_zero _
  · unfold q
    rw [log2_mul h0]
    by_cases h1 : k = 9007199254740992
    · subst h1
      rw [show Nat.log2 9007199254740992 = 53 from log2_is (by decide) (by decide)]
      rw [show (9007199254740992 : Nat) = 2 ^ 53 by decide, ← Nat.pow_add]
      exact Nat.pow_dvd_pow 2 (by omega)
    · have : k.log2 < 53 := (Nat.log2_lt h0).2 (show k < 2 ^ 53 by rw [show (2 : Nat) ^ 53 = 9007199254740992 by decide]; omega)
      exact Nat.dvd_trans (Nat.pow_dvd_pow 2 (by omega)) (Nat.dvd_mul_left _ _)
theorem ex_small {v : Nat} (h : v ≤ 9007199254740992) : Ex v := by
  have h' : v ≤ top := Nat.le_trans h (by unfold top; rw [show (9007199254740992 : Nat) = 2 ^ 53 by decide]; exact Nat.pow_le_pow_right (by decide) (by rw [eT_eq]; omega))
  have := ex_mul (k := v) (e := 0) h (by rw [Nat.pow_zero, Nat.mul_one]; exact h')
  rwa [Nat.pow_zero, Nat.mul_one] at this
theorem ex_val {r : Nat} (h : r ≤ 9218868437227405312) : Ex (val r) ∧ rg (val r) = r := by
  unfold val
  by_cases h1 : r < 4503599627370496
  · rw [if_pos h1]
    exact ⟨ex_small (by omega), rg_small (by omega)⟩
  · rw [if_neg h1]
    have hm : r % 4503599627370496 < 4503599627370496 := Nat.mod_lt _ (by decide)
    generalize hk : 4503599627370496 + r % 4503599627370496 = k
    generalize he : r / 4503599627370496 - 1 = e
    have hk1 : 4503599627370496 ≤ k := by omega
    have hk2 : k < 9007199254740992 := by omega
    have hk0 : k ≠ 0 := by omega
    have hl : k.log2 = 52 := log2_is (by rw [show (2 : Nat) ^ 52 = 4503599627370496 by decide]; exact hk1) (by rw [show (2 : Nat) ^ (52 + 1) = 9007199254740992 by decide]; exact hk2)
    have hq : q (k * 2 ^ e) = e := by unfold q; rw [log2_mul hk0, hl]; omega
    refine ⟨ex_mul (by omega) ?_, ?_⟩
    · have hT := eT_eq
      by_cases he2 : e ≤ 2045
      · have ht : top = 2 ^ 53 * 2 ^ (eT - 53) := by unfold top; rw [← Nat.pow_add, show 53 + (eT - 53) = eT by omega]
        rw [ht]
        exact Nat.mul_le_mul (by rw [show (2 : Nat) ^ 53 = 9007199254740992 by decide]; omega) (Nat.pow_le_pow_right (by decide) (by omega))
      · have : e = 2046 ∧ k = 4503599627370496 := by omega
        rw [this.2, show (4503599627370496 : Nat) = 2 ^ 52 by decide, ← Nat.pow_add]
        exact Nat.pow_le_pow_right (by decide) (by omega)
    · unfold rg
      rw [hq, Nat.mul_div_cancel _ (pos2 _)]
      omega
theorem fl_lt (s : Bool) {v : Nat} (h : v ≤ top) : fl s v < 18446744073709551616 := by
  have := rg_le h
  unfold fl; split <;> omega
theorem fl_inj {s t : Bool} {v w : Nat} (hv : Ex v) (hw : Ex w) (h : fl s v = fl t w) : s = t ∧ v = w := by
  have h1 := rg_le hv.2
  have h2 := rg_le hw.2
  unfold fl at h
  cases s <;> cases t <;> simp only [if_true, if_false, Bool.false_eq_true] at h
  · exact ⟨rfl, rg_inj hv hw h⟩
  · omega
  · omega
  · exact ⟨rfl, rg_inj hv hw (by omega)⟩

-- the words of the format
theorem dB : double.binade = 4503599627370496 := by decide
theorem dI : double.infRung = 9218868437227405312 := by decide
theorem dW : double.signWeight = 9223372036854775808 := by decide
theorem dL : double.leastPlace = -1074 := by decide
theorem dF : double.fractionBits = 52 := rfl
theorem word_fl (s : Bool) (v : Nat) : double.word s (rg v) = fl s v := by
  unfold Format.word fl; rw [dW]

theorem read_fl (s : Bool) {v : Nat} (h : Ex v) (hlt : v < top) :
    ∃ m a : Nat, double.read (fl s v) = .number s m ((a : Int) - 1074) ∧ m * 2 ^ a = v ∧ m < 9007199254740992 := by
  have h1 := rg_lt hlt
  have h2 := val_rg h
  have e1 : (fl s v / 9223372036854775808 % 2 == 1) = s := by
    unfold fl
    cases s
    · rw [if_neg (by decide), show rg v / 9223372036854775808 = 0 by omega]; rfl
    · rw [if_pos rfl, show (9223372036854775808 + rg v) / 9223372036854775808 = 1 by omega]; rfl
  have e2 : fl s v % 9223372036854775808 = rg v := by unfold fl; cases s <;> simp only [if_true, if_false, Bool.false_eq_true] <;> omega
  unfold Format.read
  dsimp only
  rw [dW, dB, dI, dL, e1, e2]
  unfold val at h2
  by_cases h3 : rg v < 4503599627370496
  · rw [if_pos h3] at h2
    rw [if_pos h3]
    exact ⟨rg v, 0, by simp, by rw [Nat.pow_zero, Nat.mul_one]; exact h2, by omega⟩
  · rw [if_neg h3] at h2
    rw [if_neg h3, if_pos h1]
    refine ⟨_, _, ?_, h2, by omega⟩
    rw [Int.add_comm]
    rfl
theorem read_top (s : Bool) : double.read (fl s top) = .infinity s := by
  unfold fl
  rw [rg_top]
  cases s <;> decide
/-- Each float is no number, or has a sign and a value. -/
theorem cases_fl {b : Nat} (hb : b < 18446744073709551616) : (∃ s t, double.read b = .nan s t) ∨ ∃ s v, Ex v ∧ b = fl s v := by
  by_cases h : b % 9223372036854775808 ≤ 9218868437227405312
  · refine .inr ⟨decide (9223372036854775808 ≤ b), val (b % 9223372036854775808), (ex_val h).1, ?_⟩
    unfold fl
    rw [(ex_val h).2]
    by_cases h1 : 9223372036854775808 ≤ b
    · rw [if_pos (by simpa using h1)]; omega
    · rw [if_neg (by simpa using h1)]; omega
  · refine .inl ⟨b / 9223372036854775808 % 2 == 1, b % 9223372036854775808 - 9218868437227405312, ?_⟩
    unfold Format.read
    dsimp only
    rw [dW, dB, dI, dL, if_neg (by omega), if_neg (by omega), if_neg (by omega)]

theorem cut_even (s : Bool) {c : Nat} (d : Nat) (hc : c ≠ 0) : Toward.even.cut s (c * 2 ^ d) d = c := by
  have hl : d ≤ (c * 2 ^ d).log2 + 2 := by rw [log2_mul hc]; omega
  unfold Toward.cut
  dsimp only
  rw [Nat.min_eq_left hl, Nat.one_shiftLeft, Nat.mul_div_cancel _ (pos2 _), Nat.mul_mod_left]
  have := pos2 d
  have e1 : decide (2 ^ d < 2 * 0) = false := by simp
  have e2 : (2 ^ d == 2 * 0) = false := by simp
  rw [e1, e2]
  rfl
theorem cut_zero (s : Bool) (n d : Nat) : Toward.zero.cut s n d = n / 2 ^ d := by
  unfold Toward.cut
  dsimp only
  rw [Nat.one_shiftLeft]
  show n / _ + 0 = _
  rw [Nat.add_zero]
  by_cases hd : d ≤ n.log2 + 2
  · rw [Nat.min_eq_left hd]
  · rw [Nat.min_eq_right (by omega)]
    have h2 : n < 2 ^ (n.log2 + 1) := Nat.lt_log2_self
    rw [Nat.div_eq_of_lt (Nat.lt_of_lt_of_le h2 (Nat.pow_le_pow_right (by decide) (by omega))), Nat.div_eq_of_lt (Nat.lt_of_lt_of_le h2 (Nat.pow_le_pow_right (by decide) (by omega)))]

theorem shift_eq {m a c b : Nat} (h : m * 2 ^ a = c * 2 ^ b) : m * 2 ^ (a - b) = c * 2 ^ (b - a) := by
  rcases Nat.le_total a b with h1 | h1
  · rw [Nat.sub_eq_zero_of_le h1, Nat.pow_zero, Nat.mul_one]
    refine Nat.eq_of_mul_eq_mul_right (pos2 a) ?_
    rw [h, Nat.mul_assoc, ← Nat.pow_add, Nat.sub_add_cancel h1]
  · rw [Nat.sub_eq_zero_of_le h1, Nat.pow_zero, Nat.mul_one]
    refine Nat.eq_of_mul_eq_mul_right (pos2 b) ?_
    rw [← h, Nat.mul_assoc, ← Nat.pow_add, Nat.sub_add_cancel h1]

theorem nearest_of (s : Bool) {m a b v : Nat} {p : Int} (hp : p = (a : Int) - b - 1074) (he : m * 2 ^ a = v * 2 ^ b) (hx : Ex v) (ht : v < top) : double.nearest s m p = fl s v := by
  subst hp
  unfold Format.nearest
  by_cases hm : m = 0
  · subst hm
    have hv : v = 0 := by
      rcases Nat.eq_zero_or_pos v with h | h
      · exact h
      · have := Nat.mul_pos h (pos2 b); omega
    subst hv
    rw [if_pos rfl]
    exact word_fl s 0
  · have hv : v ≠ 0 := by
      intro h; subst h
      have := Nat.mul_pos (Nat.pos_of_ne_zero hm) (pos2 a); omega
    have hl : m.log2 + a = v.log2 + b := by rw [← log2_mul hm, ← log2_mul hv, he]
    have hlast : max ((a : Int) - b - 1074 + m.log2 - 52) (-1074) = (q v : Int) - 1074 := by unfold q; omega
    rw [if_neg hm]
    dsimp only
    rw [dF, dL, dB, dI]
    rw [show ((52 : Nat) : Int) = 52 from rfl, hlast]
    have hc0 : v / 2 ^ q v ≠ 0 := by
      intro h0
      have := Nat.div_mul_cancel hx.1
      rw [h0, Nat.zero_mul] at this
      exact hv this.symm
    have hk : m * 2 ^ (a - (q v + b)) = v / 2 ^ q v * 2 ^ ((q v + b) - a) := by
      refine shift_eq ?_
      rw [he, Nat.pow_add, ← Nat.mul_assoc, Nat.div_mul_cancel hx.1]
    rw [show ((a : Int) - b - 1074 - ((q v : Int) - 1074)).toNat = a - (q v + b) by omega, show ((q v : Int) - 1074 - ((a : Int) - b - 1074)).toNat = (q v + b) - a by omega, Nat.shiftLeft_eq, hk, cut_even s _ hc0, show ((q v : Int) - 1074 - -1074).toNat = q v by omega]
    rw [show q v * 4503599627370496 + v / 2 ^ q v = rg v from rfl, Nat.min_eq_left (Nat.le_of_lt (rg_lt ht))]
    exact word_fl s v
end Go.Proofs.Ytffojilbhpefbaa.Fp
