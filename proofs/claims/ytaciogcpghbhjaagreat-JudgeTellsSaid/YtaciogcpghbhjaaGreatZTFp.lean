/- Of these texts: Fp, ReA. Conditions: as each part says. -/
import Derived.Laws.FloatArith
import Derived.Test.YtaciogcpghbhjaaGreatZTLib
import Derived.Laws.Bits64b
/- Several texts in one: FpA, FpB, FpC. Conditions: as each part says. -/
namespace Go.Proofs.YtaciogcpghbhjaaGreat.Fp
open Ieee
def q (v : Nat) : Nat := v.log2 - 52
def rg (v : Nat) : Nat := q v * 4503599627370496 + v / 2 ^ q v
def slow (n : Nat) : Nat := if h : n = 0 then 0 else slow (n / 2) + (n - n / 2)
theorem slow_eq : ∀ n, slow n = n := by
 intro n
 induction n using Nat.strongRecOn with
 | _ n ih =>
   rw [slow]
   by_cases h : n = 0
   ·rw [dif_pos h]; exact h.symm
   ·rw [dif_neg h, ih (n / 2) (by omega)]; omega
def eT : Nat := slow 2098
theorem eT_eq : eT = 2098 := slow_eq _
def top : Nat := 2 ^ eT
def Ex (v : Nat) : Prop := 2 ^ q v ∣ v ∧ v <= top
def fl (s : Bool) (v : Nat) : Nat := if s then 9223372036854775808 + rg v else rg v
def val (r : Nat) : Nat := if r < 4503599627370496 then r else (4503599627370496 + r % 4503599627370496) * 2 ^ (r / 4503599627370496 - 1)
def sg (s : Bool) (v : Nat) : Int := if s then -(v : Int) else v
theorem pos2 (k : Nat) : 0 < 2 ^ k := Nat.two_pow_pos k
theorem top_pos : 0 < top := pos2 _
theorem log2_is {v k : Nat} (h1 : 2 ^ k <= v) (h2 : v < 2 ^ (k + 1)) : v.log2 = k := by
 have hv : v ≠ 0 := by have := pos2 k; omega
 exact (Nat.log2_eq_iff hv).2 ⟨h1, h2⟩
theorem log2_mul {v : Nat} (hv : v ≠ 0) (a : Nat) : (v * 2 ^ a).log2 = v.log2 + a := by
 have h1 := Nat.log2_self_le hv
 have h2 : v < 2 ^ (v.log2 + 1) := Nat.lt_log2_self
 refine log2_is ?_ ?_
 ·rw [Nat.pow_add]; exact Nat.mul_le_mul_right _ h1
 ·rw [show v.log2 + a + 1 = (v.log2 + 1) + a by omega, Nat.pow_add]
  exact Nat.mul_lt_mul_of_pos_right h2 (pos2 a)
theorem log2_top : top.log2 = 2098 := (log2_is (k := eT) (Nat.le_refl _) (Nat.pow_lt_pow_right (by decide) (Nat.lt_succ_self _))).trans eT_eq
theorem log2_lt_top {v : Nat} (h : v < top) : v.log2 < 2098 := by
 by_cases hv : v = 0
 ·subst hv; simp
 ·have := (Nat.log2_lt (k := eT) hv).2 h
  rw [eT_eq] at this
  exact this
theorem head_lt (v : Nat) : v / 2 ^ q v < 9007199254740992 := by
 have h2 : v < 2 ^ (v.log2 + 1) := Nat.lt_log2_self
 rw [Nat.div_lt_iff_lt_mul (pos2 _)]
 refine Nat.lt_of_lt_of_le h2 ?_
 rw [show (9007199254740992 : Nat) = 2 ^ 53 by decide, <- Nat.pow_add]
 exact Nat.pow_le_pow_right (by decide) (by unfold q; omega)
theorem head_ge (v : Nat) (h : q v ≠ 0) : 4503599627370496 <= v / 2 ^ q v := by
 have hv : v ≠ 0 := by intro h0; subst h0; exact h (by decide)
 have h1 := Nat.log2_self_le hv
 rw [Nat.le_div_iff_mul_le (pos2 _), show (4503599627370496 : Nat) = 2 ^ 52 by decide, <- Nat.pow_add]
 refine Nat.le_trans (Nat.le_of_eq ?_) h1
 congr 1
 unfold q at *; omega
theorem q_zero {v : Nat} (h : v < 9007199254740992) : q v = 0 := by
 unfold q
 by_cases hv : v = 0
 ·subst hv; decide
 ·have : v.log2 < 53 := (Nat.log2_lt hv).2 h
  omega
theorem rg_small {v : Nat} (h : v < 9007199254740992) : rg v = v := by
 unfold rg; rw [q_zero h]; simp
theorem rg_lt {v : Nat} (h : v < top) : rg v < 9218868437227405312 := by
 have h1 := head_lt v
 have h2 := log2_lt_top h
 unfold rg
 have : q v <= 2045 := by unfold q; omega
 omega
theorem q_top : q top = 2046 := by unfold q; rw [log2_top]
theorem rg_top : rg top = 9218868437227405312 := by
 unfold rg
 rw [q_top]
 have : ∀ d, 52 + d = eT -> top / 2 ^ d = 4503599627370496 := by
  intro d h
  unfold top
  rw [<- h, Nat.pow_add, Nat.mul_div_cancel _ (pos2 _)]
 rw [this 2046 (by rw [eT_eq])]
theorem rg_le {v : Nat} (h : v <= top) : rg v <= 9218868437227405312 := by
 rcases Nat.lt_or_ge v top with h1 | h1
 ·exact Nat.le_of_lt (rg_lt h1)
 ·rw [Nat.le_antisymm h h1, rg_top]; exact Nat.le_refl _
theorem val_rg {v : Nat} (h : Ex v) : val (rg v) = v := by
 have h1 := head_lt v
 have h2 : v / 2 ^ q v * 2 ^ q v = v := Nat.div_mul_cancel h.1
 unfold val rg
 by_cases h3 : q v = 0
 ·rw [h3] at h1 h2 ⊢
  simp only [Nat.zero_mul, Nat.zero_add, Nat.pow_zero, Nat.div_one] at h1 ⊢
  by_cases h4 : v < 4503599627370496
  ·rw [if_pos h4]
  ·rw [if_neg h4, show v / 4503599627370496 - 1 = 0 by omega, Nat.pow_zero, Nat.mul_one]; omega
 ·have h4 := head_ge v h3
  rw [if_neg (by omega)]
  rw [show (q v * 4503599627370496 + v / 2 ^ q v) / 4503599627370496 - 1 = q v by omega, show 4503599627370496 + (q v * 4503599627370496 + v / 2 ^ q v) % 4503599627370496 = v / 2 ^ q v by omega]
  exact h2
theorem ex_zero : Ex 0 := ⟨Nat.dvd_zero _, Nat.zero_le _⟩
theorem ex_top : Ex top := by
 refine ⟨?_, Nat.le_refl _⟩
 have h : q top <= eT := by rw [q_top, eT_eq]; omega
 exact Nat.pow_dvd_pow 2 h
theorem ex_mul {k e : Nat} (hk : k <= 9007199254740992) (ht : k * 2 ^ e <= top) : Ex (k * 2 ^ e) := by
 refine ⟨?_, ht⟩
 by_cases h0 : k = 0
 ·subst h0; rw [Nat.zero_mul]; exact Nat.dvd_zero _
 ·unfold q
  rw [log2_mul h0]
  by_cases h1 : k = 9007199254740992
  ·subst h1
   rw [show Nat.log2 9007199254740992 = 53 from log2_is (by decide) (by decide)]
   rw [show (9007199254740992 : Nat) = 2 ^ 53 by decide, <- Nat.pow_add]
   exact Nat.pow_dvd_pow 2 (by omega)
  ·have : k.log2 < 53 := (Nat.log2_lt h0).2 (show k < 2 ^ 53 by rw [show (2 : Nat) ^ 53 = 9007199254740992 by decide]; omega)
   exact Nat.dvd_trans (Nat.pow_dvd_pow 2 (by omega)) (Nat.dvd_mul_left _ _)
theorem ex_small {v : Nat} (h : v <= 9007199254740992) : Ex v := by
 have h' : v <= top := Nat.le_trans h (by unfold top; rw [show (9007199254740992 : Nat) = 2 ^ 53 by decide]; exact Nat.pow_le_pow_right (by decide) (by rw [eT_eq]; omega))
 have := ex_mul (k := v) (e := 0) h (by rw [Nat.pow_zero, Nat.mul_one]; exact h')
 rwa [Nat.pow_zero, Nat.mul_one] at this
theorem ex_val {r : Nat} (h : r <= 9218868437227405312) : Ex (val r) ∧ rg (val r) = r := by
 unfold val
 by_cases h1 : r < 4503599627370496
 ·rw [if_pos h1]
  exact ⟨ex_small (by omega), rg_small (by omega)⟩
 ·rw [if_neg h1]
  have hm : r % 4503599627370496 < 4503599627370496 := Nat.mod_lt _ (by decide)
  generalize hk : 4503599627370496 + r % 4503599627370496 = k
  generalize he : r / 4503599627370496 - 1 = e
  have hk1 : 4503599627370496 <= k := by omega
  have hk2 : k < 9007199254740992 := by omega
  have hk0 : k ≠ 0 := by omega
  have hl : k.log2 = 52 := log2_is (by rw [show (2 : Nat) ^ 52 = 4503599627370496 by decide]; exact hk1) (by rw [show (2 : Nat) ^ (52 + 1) = 9007199254740992 by decide]; exact hk2)
  have hq : q (k * 2 ^ e) = e := by unfold q; rw [log2_mul hk0, hl]; omega
  refine ⟨ex_mul (by omega) ?_, ?_⟩
  ·have hT := eT_eq
   by_cases he2 : e <= 2045
   ·have ht : top = 2 ^ 53 * 2 ^ (eT - 53) := by unfold top; rw [<- Nat.pow_add, show 53 + (eT - 53) = eT by omega]
    rw [ht]
    exact Nat.mul_le_mul (by rw [show (2 : Nat) ^ 53 = 9007199254740992 by decide]; omega) (Nat.pow_le_pow_right (by decide) (by omega))
   ·have : e = 2046 ∧ k = 4503599627370496 := by omega
    rw [this.2, show (4503599627370496 : Nat) = 2 ^ 52 by decide, <- Nat.pow_add]
    exact Nat.pow_le_pow_right (by decide) (by omega)
  ·unfold rg
   rw [hq, Nat.mul_div_cancel _ (pos2 _)]
   omega
theorem fl_lt (s : Bool) {v : Nat} (h : v <= top) : fl s v < 18446744073709551616 := by
 have := rg_le h
 unfold fl; split <;> omega
-- the words of the format
theorem dB : double.binade = 4503599627370496 := by decide
theorem dI : double.infRung = 9218868437227405312 := by decide
theorem dW : double.signWeight = 9223372036854775808 := by decide
theorem dL : double.leastPlace = -1074 := by decide
theorem dF : double.fractionBits = 52 := rfl
theorem word_fl (s : Bool) (v : Nat) : double.word s (rg v) = fl s v := by
 unfold Format.word fl; rw [dW]
theorem read_fl (s : Bool) {v : Nat} (h : Ex v) (hlt : v < top) :
  ∃ m a : Nat, double.read (fl s v) = .number s m ((a : Int) - 1074) ∧ m * 2 ^ a = v ∧ m < 9007199254740992 := by
 have h1 := rg_lt hlt
 have h2 := val_rg h
 have e1 : (fl s v / 9223372036854775808 % 2 == 1) = s := by
  unfold fl
  cases s
  ·rw [if_neg (by decide), show rg v / 9223372036854775808 = 0 by omega]; rfl
  ·rw [if_pos rfl, show (9223372036854775808 + rg v) / 9223372036854775808 = 1 by omega]; rfl
 have e2 : fl s v % 9223372036854775808 = rg v := by unfold fl; cases s <;> simp only [if_true, if_false, Bool.false_eq_true] <;> omega
 unfold Format.read
 dsimp only
 rw [dW, dB, dI, dL, e1, e2]
 unfold val at h2
 by_cases h3 : rg v < 4503599627370496
 ·rw [if_pos h3] at h2
  rw [if_pos h3]
  exact ⟨rg v, 0, by simp, by rw [Nat.pow_zero, Nat.mul_one]; exact h2, by omega⟩
 ·rw [if_neg h3] at h2
  rw [if_neg h3, if_pos h1]
  refine ⟨_, _, ?_, h2, by omega⟩
  rw [Int.add_comm]
  rfl
theorem read_top (s : Bool) : double.read (fl s top) = .infinity s := by
 unfold fl
 rw [rg_top]
 cases s <;> decide
theorem cases_fl {b : Nat} (hb : b < 18446744073709551616) : (∃ s t, double.read b = .nan s t) ∨ ∃ s v, Ex v ∧ b = fl s v := by
 by_cases h : b % 9223372036854775808 <= 9218868437227405312
 ·refine .inr ⟨decide (9223372036854775808 <= b), val (b % 9223372036854775808), (ex_val h).1, ?_⟩
  unfold fl
  rw [(ex_val h).2]
  by_cases h1 : 9223372036854775808 <= b
  ·rw [if_pos (by simpa using h1)]; omega
  ·rw [if_neg (by simpa using h1)]; omega
 ·refine .inl ⟨b / 9223372036854775808 % 2 == 1, b % 9223372036854775808 - 9218868437227405312, ?_⟩
  unfold Format.read
  dsimp only
  rw [dW, dB, dI, dL, if_neg (by omega), if_neg (by omega), if_neg (by omega)]
theorem cut_even (s : Bool) {c : Nat} (d : Nat) (hc : c ≠ 0) : Toward.even.cut s (c * 2 ^ d) d = c := by
 have hl : d <= (c * 2 ^ d).log2 + 2 := by rw [log2_mul hc]; omega
 unfold Toward.cut
 dsimp only
 rw [Nat.min_eq_left hl, Nat.one_shiftLeft, Nat.mul_div_cancel _ (pos2 _), Nat.mul_mod_left]
 have := pos2 d
 have e1 : decide (2 ^ d < 2 * 0) = false := by simp
 have e2 : (2 ^ d == 2 * 0) = false := by simp
 rw [e1, e2]
 rfl
theorem cut_zero (s : Bool) (n d : Nat) : Toward.zero.cut s n d = n / 2 ^ d := by
 unfold Toward.cut
 dsimp only
 rw [Nat.one_shiftLeft]
 show n / _ + 0 = _
 rw [Nat.add_zero]
 by_cases hd : d <= n.log2 + 2
 ·rw [Nat.min_eq_left hd]
 ·rw [Nat.min_eq_right (by omega)]
  have h2 : n < 2 ^ (n.log2 + 1) := Nat.lt_log2_self
  rw [Nat.div_eq_of_lt (Nat.lt_of_lt_of_le h2 (Nat.pow_le_pow_right (by decide) (by omega))), Nat.div_eq_of_lt (Nat.lt_of_lt_of_le h2 (Nat.pow_le_pow_right (by decide) (by omega)))]
theorem shift_eq {m a c b : Nat} (h : m * 2 ^ a = c * 2 ^ b) : m * 2 ^ (a - b) = c * 2 ^ (b - a) := by
 rcases Nat.le_total a b with h1 | h1
 ·rw [Nat.sub_eq_zero_of_le h1, Nat.pow_zero, Nat.mul_one]
  refine Nat.eq_of_mul_eq_mul_right (pos2 a) ?_
  rw [h, Nat.mul_assoc, <- Nat.pow_add, Nat.sub_add_cancel h1]
 ·rw [Nat.sub_eq_zero_of_le h1, Nat.pow_zero, Nat.mul_one]
  refine Nat.eq_of_mul_eq_mul_right (pos2 b) ?_
  rw [<- h, Nat.mul_assoc, <- Nat.pow_add, Nat.sub_add_cancel h1]
theorem nearest_of (s : Bool) {m a b v : Nat} {p : Int} (hp : p = (a : Int) - b - 1074) (he : m * 2 ^ a = v * 2 ^ b) (hx : Ex v) (ht : v < top) : double.nearest s m p = fl s v := by
 subst hp
 unfold Format.nearest
 by_cases hm : m = 0
 ·subst hm
  have hv : v = 0 := by
   rcases Nat.eq_zero_or_pos v with h | h
   ·exact h
   ·have := Nat.mul_pos h (pos2 b); omega
  subst hv
  rw [if_pos rfl]
  exact word_fl s 0
 ·have hv : v ≠ 0 := by
   intro h; subst h
   have := Nat.mul_pos (Nat.pos_of_ne_zero hm) (pos2 a); omega
  have hl : m.log2 + a = v.log2 + b := by rw [<- log2_mul hm, <- log2_mul hv, he]
  have hlast : max ((a : Int) - b - 1074 + m.log2 - 52) (-1074) = (q v : Int) - 1074 := by unfold q; omega
  rw [if_neg hm]
  dsimp only
  rw [dF, dL, dB, dI]
  rw [show ((52 : Nat) : Int) = 52 from rfl, hlast]
  have hc0 : v / 2 ^ q v ≠ 0 := by
   intro h0
   have := Nat.div_mul_cancel hx.1
   rw [h0, Nat.zero_mul] at this
   exact hv this.symm
  have hk : m * 2 ^ (a - (q v + b)) = v / 2 ^ q v * 2 ^ ((q v + b) - a) := by
   refine shift_eq ?_
   rw [he, Nat.pow_add, <- Nat.mul_assoc, Nat.div_mul_cancel hx.1]
  rw [show ((a : Int) - b - 1074 - ((q v : Int) - 1074)).toNat = a - (q v + b) by omega, show ((q v : Int) - 1074 - ((a : Int) - b - 1074)).toNat = (q v + b) - a by omega, Nat.shiftLeft_eq, hk, cut_even s _ hc0, show ((q v : Int) - 1074 - -1074).toNat = q v by omega]
  rw [show q v * 4503599627370496 + v / 2 ^ q v = rg v from rfl, Nat.min_eq_left (Nat.le_of_lt (rg_lt ht))]
  exact word_fl s v
end Go.Proofs.YtaciogcpghbhjaaGreat.Fp
namespace Go.Proofs.YtaciogcpghbhjaaGreat.Fp
open Ieee
theorem two_read : double.read 4611686018427387904 = .number false 4503599627370496 (-51) := by decide
theorem b52 : (2 : Nat) ^ 52 = 4503599627370496 := by decide
theorem b53 : (2 : Nat) ^ 53 = 9007199254740992 := by decide
theorem ex_double {v : Nat} (h : Ex v) (ht : 2 * v <= top) : Ex (2 * v) := by
 refine ⟨?_, ht⟩
 by_cases h0 : v = 0
 ·subst h0; exact Nat.dvd_zero _
 ·have hl : (2 * v).log2 = v.log2 + 1 := by rw [Nat.mul_comm]; exact log2_mul h0 1
  have hq : q (2 * v) <= q v + 1 := by unfold q; omega
  refine Nat.dvd_trans (Nat.pow_dvd_pow 2 hq) ?_
  rw [Nat.pow_succ, Nat.mul_comm]
  exact Nat.mul_dvd_mul_left 2 h.1
theorem ex_half {w : Nat} (h : Ex (2 * w)) : Ex w := by
 refine ⟨?_, by have := h.2; omega⟩
 by_cases h0 : w = 0
 ·subst h0; exact Nat.dvd_zero _
 ·have hl : (2 * w).log2 = w.log2 + 1 := by rw [Nat.mul_comm]; exact log2_mul h0 1
  by_cases h1 : w.log2 < 52
  ·rw [show q w = 0 by unfold q; omega, Nat.pow_zero]; exact Nat.one_dvd _
  ·have h2 := h.1
   rw [show q (2 * w) = q w + 1 by unfold q; omega, Nat.pow_succ, Nat.mul_comm] at h2
   exact Nat.dvd_of_mul_dvd_mul_left (by decide) h2
theorem odd_small {v : Nat} (h : Ex v) (ho : v % 2 = 1) : v < 9007199254740992 := by
 have h1 := head_lt v
 by_cases hq : q v = 0
 ·rw [hq, Nat.pow_zero, Nat.div_one] at h1; exact h1
 ·have h2 := h.1
  have : 2 ∣ v := Nat.dvd_trans (by rw [show q v = (q v - 1) + 1 by omega, Nat.pow_succ]; exact Nat.dvd_mul_left _ _) h2
  omega
theorem mul2 (s : Bool) {v : Nat} (h : Ex v) (ht : 2 * v < top) : double.mul (fl s v) 4611686018427387904 = some (fl s (2 * v)) := by
 obtain ⟨m, a, hr, hm, _⟩ := read_fl s h (by omega)
 unfold Format.mul
 rw [hr, two_read]
 show some (double.nearest (s ^^ false) (m * 4503599627370496) ((a : Int) - 1074 + -51)) = _
 rw [Bool.xor_false]
 congr 1
 refine nearest_of s (a := a) (b := 51) (by omega) ?_ (ex_double h (Nat.le_of_lt ht)) ht
 rw [<- hm, <- b52, show (2 : Nat) ^ 52 = 2 * 2 ^ 51 by decide, Nat.mul_assoc, Nat.mul_comm (2 * 2 ^ 51), <- Nat.mul_assoc, Nat.mul_comm 2 (2 ^ 51), <- Nat.mul_assoc, Nat.mul_comm _ 2, <- Nat.mul_assoc]
theorem div_two (s : Bool) {v : Nat} (h : Ex v) (ht : v < top) : ∃ m a k : Nat, m * 2 ^ a = v ∧ double.div (fl s v) 4611686018427387904 = some (double.nearest s (m * 2 ^ (k + 1)) ((a : Int) - (k + 2 : Nat) - 1074)) := by
 obtain ⟨m, a, hr, hm, hlt⟩ := read_fl s h ht
 have hl : m.log2 <= 52 := by
  by_cases h0 : m = 0
  ·subst h0; decide
  ·have : m.log2 < 53 := (Nat.log2_lt h0).2 (by rw [b53]; exact hlt)
   omega
 refine ⟨m, a, 54 - m.log2, hm, ?_⟩
 unfold Format.div
 rw [hr, two_read]
 have hn : Nat.log2 4503599627370496 = 52 := log2_is (by decide) (by decide)
 have hd : m <<< (52 + 2 + Nat.log2 4503599627370496 - m.log2) = m * 2 ^ (54 - m.log2) * 4503599627370496 := by
  rw [hn, Nat.shiftLeft_eq, <- b52, Nat.mul_assoc, <- Nat.pow_add, show 52 + 2 + 52 - m.log2 = 54 - m.log2 + 52 by omega]
 show Option.map double.write (if (4503599627370496 : Nat) = 0 then (if m = 0 then none else some (Datum.infinity (s ^^ false))) else some (Datum.number (s ^^ false) (2 * (m <<< (52 + 2 + Nat.log2 4503599627370496 - m.log2) / 4503599627370496) + (m <<< (52 + 2 + Nat.log2 4503599627370496 - m.log2) % 4503599627370496 != 0).toNat) ((a : Int) - 1074 - -51 - (52 + 2 + Nat.log2 4503599627370496 - m.log2 : Nat) - 1))) = _
 rw [if_neg (by decide), hd, Nat.mul_div_cancel _ (by decide), Nat.mul_mod_left, Bool.xor_false]
 show some (double.nearest s (2 * (m * 2 ^ (54 - m.log2)) + 0) _) = _
 congr 2
 ·rw [Nat.add_zero, Nat.pow_succ, Nat.mul_comm 2, Nat.mul_assoc]
 ·rw [hn]; omega
theorem half_even (s : Bool) {w : Nat} (h : Ex (2 * w)) (ht : 2 * w < top) : double.div (fl s (2 * w)) 4611686018427387904 = some (fl s w) := by
 obtain ⟨m, a, k, hm, he⟩ := div_two s h ht
 rw [he]
 congr 1
 refine nearest_of s (a := a) (b := k + 2) (by omega) ?_ (ex_half h) (by omega)
 rw [Nat.mul_assoc, Nat.mul_comm (2 ^ (k + 1)), <- Nat.mul_assoc, hm, Nat.mul_comm 2 w, Nat.mul_assoc, <- Nat.pow_succ']
theorem half_odd (s : Bool) {v : Nat} (h : Ex v) (ht : v < top) (ho : v % 2 = 1) : double.div (fl s v) 4611686018427387904 = some (fl s (v / 2 + v / 2 % 2)) := by
 obtain ⟨m, a, k, hm, he⟩ := div_two s h ht
 have hs := odd_small h ho
 have ha : a = 0 := by
  rcases Nat.eq_zero_or_pos a with h0 | h0
  ·exact h0
  ·have : 2 ∣ v := by rw [<- hm, show a = (a - 1) + 1 by omega, Nat.pow_succ, <- Nat.mul_assoc]; exact Nat.dvd_mul_left _ _
   omega
 subst ha
 rw [Nat.pow_zero, Nat.mul_one] at hm
 subst hm
 rw [he]
 congr 1
 have hm0 : m ≠ 0 := by omega
 have hl : m.log2 < 53 := (Nat.log2_lt hm0).2 (by rw [b53]; exact hs)
 have hlog : (m * 2 ^ (k + 1)).log2 = m.log2 + (k + 1) := log2_mul hm0 _
 have hpos := pos2 (k + 1)
 have hmag : m * 2 ^ (k + 1) ≠ 0 := Nat.mul_ne_zero hm0 (by omega)
 unfold Format.nearest
 rw [if_neg hmag]
 dsimp only
 rw [dF, dL, dB, dI, hlog]
 have hlast : max (((0 : Nat) : Int) - (k + 2 : Nat) - 1074 + (m.log2 + (k + 1) : Nat) - ((52 : Nat) : Int)) (-1074) = -1074 := by omega
 rw [hlast, show (((0 : Nat) : Int) - (k + 2 : Nat) - 1074 - -1074).toNat = 0 by omega, show ((-1074 : Int) - (((0 : Nat) : Int) - (k + 2 : Nat) - 1074)).toNat = k + 2 by omega]
 have hcut : Toward.even.cut s (m * 2 ^ (k + 1)) (k + 2) = m / 2 + m / 2 % 2 := by
  unfold Toward.cut
  dsimp only
  rw [hlog, Nat.min_eq_left (by omega), Nat.one_shiftLeft, show 2 ^ (k + 2) = 2 * 2 ^ (k + 1) by rw [Nat.pow_succ' (n := k + 1)]]
  have h1 : m * 2 ^ (k + 1) / (2 * 2 ^ (k + 1)) = m / 2 := Nat.mul_div_mul_right _ _ hpos
  have h2 : m * 2 ^ (k + 1) % (2 * 2 ^ (k + 1)) = 2 ^ (k + 1) := by rw [Nat.mul_mod_mul_right, ho, Nat.one_mul]
  rw [h1, h2]
  have e1 : decide (2 * 2 ^ (k + 1) < 2 * 2 ^ (k + 1)) = false := by simp
  rw [e1, beq_self_eq_true]
  rcases Nat.mod_two_eq_zero_or_one (m / 2) with h3 | h3 <;> rw [h3] <;> rfl
 rw [Nat.shiftLeft_zero, hcut, show ((-1074 : Int) - -1074).toNat = 0 by decide, Nat.zero_mul, Nat.zero_add, Nat.min_eq_left (by omega)]
 rw [<- rg_small (v := m / 2 + m / 2 % 2) (by omega)]
 rw [word_fl, rg_small (v := m / 2 + m / 2 % 2) (by omega)]
theorem half_any (s : Bool) {v : Nat} (h : Ex v) (ht : v < top) : ∃ w, double.div (fl s v) 4611686018427387904 = some (fl s w) ∧ Ex w ∧ (v ≠ 0 -> w ≠ v) ∧ w <= v := by
 rcases Nat.mod_two_eq_zero_or_one v with h2 | h2
 ·obtain ⟨w, rfl⟩ : ∃ w, v = 2 * w := ⟨v / 2, by omega⟩
  exact ⟨w, half_even s h ht, ex_half h, by omega, by omega⟩
 ·have := odd_small h h2
  exact ⟨_, half_odd s h ht h2, ex_small (by omega), by omega, by omega⟩
theorem half_top (s : Bool) : double.div (fl s top) 4611686018427387904 = some (fl s top) := by
 unfold fl; rw [rg_top]; cases s <;> decide
theorem fl_zero : fl false 0 = 0 := by decide
theorem one_over (s : Bool) : double.div 4607182418800017408 (fl s 0) = some (fl s top) := by
 unfold fl; rw [rg_top]; cases s <;> decide
theorem nought_over : double.div 0 0 = none := by decide
theorem signed_sg (s : Bool) (m a b : Nat) (h : b <= a) : signed s m (a - b) * (2 ^ b : Nat) = sg s (m * 2 ^ a) := by
 have e : m <<< (a - b) * 2 ^ b = m * 2 ^ a := by rw [Nat.shiftLeft_eq, Nat.mul_assoc, <- Nat.pow_add, Nat.sub_add_cancel h]
 unfold signed sg
 cases s
 ·simp only [Bool.false_eq_true, if_false]; rw [<- e]; exact (Int.natCast_mul _ _).symm
 ·simp only [if_true]; rw [<- e, Int.neg_mul]; congr 1
theorem compare_scale (x y : Int) (k : Nat) (h : 0 < k) : compare x y = compare (x * k) (y * k) := by
 have hk : (0 : Int) < k := by omega
 show compareOfLessAndEq x y = compareOfLessAndEq (x * k) (y * k)
 unfold compareOfLessAndEq
 have e1 : (x < y) = (x * k < y * k) := propext ⟨fun h => Int.mul_lt_mul_of_pos_right h hk, fun h => Int.lt_of_mul_lt_mul_right h (Int.le_of_lt hk)⟩
 have e2 : (x = y) = (x * k = y * k) := propext ⟨fun h => by rw [h], fun h => Int.eq_of_mul_eq_mul_right (by omega) h⟩
 simp only [<- e1, <- e2]
theorem sg_lt {s : Bool} {v t : Nat} (h : v < t) : -(t : Int) < sg s v ∧ sg s v < t := by unfold sg; cases s <;> simp only [Bool.false_eq_true, if_true, if_false] <;> omega
theorem order_fl (s t : Bool) {v w : Nat} (hv : Ex v) (hw : Ex w) : double.order (fl s v) (fl t w) = some (compare (sg s v) (sg t w)) := by
 unfold Format.order
 rcases Nat.lt_or_ge v top with h1 | h1
 ·obtain ⟨m, a, hr, hm, _⟩ := read_fl s hv h1
  rw [hr]
  rcases Nat.lt_or_ge w top with h2 | h2
  ·obtain ⟨n, c, hr2, hn, _⟩ := read_fl t hw h2
   rw [hr2]
   show some (compare (signed s m ((a : Int) - 1074 - min ((a : Int) - 1074) ((c : Int) - 1074)).toNat) (signed t n ((c : Int) - 1074 - min ((a : Int) - 1074) ((c : Int) - 1074)).toNat)) = _
   rw [show ((a : Int) - 1074 - min ((a : Int) - 1074) ((c : Int) - 1074)).toNat = a - min a c by omega, show ((c : Int) - 1074 - min ((a : Int) - 1074) ((c : Int) - 1074)).toNat = c - min a c by omega]
   rw [compare_scale _ _ _ (pos2 (min a c)), signed_sg s m a _ (Nat.min_le_left _ _), signed_sg t n c _ (Nat.min_le_right _ _), hm, hn]
  ·have e := Nat.le_antisymm hw.2 h2
   rw [e, read_top]
   have := sg_lt (s := s) h1
   cases t
   ·show some Ordering.lt = some (compareOfLessAndEq _ _)
    unfold compareOfLessAndEq
    rw [if_pos (show sg s v < sg false top from this.2)]
   ·show some Ordering.gt = some (compareOfLessAndEq _ _)
    unfold compareOfLessAndEq
    have h3 : sg true top = -(top : Int) := rfl
    rw [if_neg (by omega), if_neg (by omega)]
 ·have e := Nat.le_antisymm hv.2 h1
  rw [e, read_top]
  rcases Nat.lt_or_ge w top with h2 | h2
  ·obtain ⟨n, c, hr2, hn, _⟩ := read_fl t hw h2
   rw [hr2]
   have := sg_lt (s := t) h2
   cases s
   ·show some Ordering.gt = some (compareOfLessAndEq _ _)
    unfold compareOfLessAndEq
    have h3 : sg false top = (top : Int) := rfl
    rw [if_neg (by omega), if_neg (by omega)]
   ·show some Ordering.lt = some (compareOfLessAndEq _ _)
    unfold compareOfLessAndEq
    have h3 : sg true top = -(top : Int) := rfl
    rw [if_pos (by omega)]
  ·have e := Nat.le_antisymm hw.2 h2
   rw [e, read_top]
   have h3 : sg true top = -(top : Int) := rfl
   have h4 : sg false top = (top : Int) := rfl
   have := top_pos
   cases s <;> cases t
   ·show some Ordering.eq = some (compareOfLessAndEq _ _)
    unfold compareOfLessAndEq
    rw [if_neg (Int.lt_irrefl (sg false top)), if_pos rfl]
   ·show some Ordering.gt = some (compareOfLessAndEq _ _)
    unfold compareOfLessAndEq
    rw [h3, h4, if_neg (show ¬((top : Int) < -(top : Int)) by omega), if_neg (show ¬((top : Int) = -(top : Int)) by omega)]
   ·show some Ordering.lt = some (compareOfLessAndEq _ _)
    unfold compareOfLessAndEq
    rw [h3, h4, if_pos (show (-(top : Int) < (top : Int)) by omega)]
   ·show some Ordering.eq = some (compareOfLessAndEq _ _)
    unfold compareOfLessAndEq
    rw [if_neg (Int.lt_irrefl (sg true top)), if_pos rfl]
end Go.Proofs.YtaciogcpghbhjaaGreat.Fp
namespace Go.Proofs.YtaciogcpghbhjaaGreat.Fp
open Ieee
def IsN (b : Nat) : Prop := ∃ s t, double.read b = .nan s t
def nanB (b : Nat) : Bool := FloatKind.f64.format.order b b != some Ordering.eq
def signB (b : Nat) : Bool := decide (9223372036854775808 <= b)
theorem order_nan_l {a : Nat} (h : IsN a) (b : Nat) : FloatKind.f64.format.order a b = none := by
 obtain ⟨s, t, h⟩ := h
 show Datum.order (double.read a) (double.read b) = none
 rw [h]
 cases double.read b <;> rfl
theorem order_nan_r {b : Nat} (h : IsN b) (a : Nat) : FloatKind.f64.format.order a b = none := by
 obtain ⟨s, t, h⟩ := h
 show Datum.order (double.read a) (double.read b) = none
 rw [h]
 cases double.read a <;> rfl
theorem nan_ne_l {a : Nat} (h : IsN a) (b : Nat) : (FloatKind.f64.format.order a b != some Ordering.eq) = true := by rw [order_nan_l h]; rfl
theorem nanB_nan {b : Nat} (h : IsN b) : nanB b = true := nan_ne_l h b
theorem cmp_eq (x y : Int) : (some (compare x y) == some Ordering.eq) = decide (x = y) := by
 show (some (compareOfLessAndEq x y) == some Ordering.eq) = _
 unfold compareOfLessAndEq
 by_cases h1 : x < y
 ·rw [if_pos h1, decide_eq_false (by omega)]; rfl
 ·rw [if_neg h1]
  by_cases h2 : x = y
  ·rw [if_pos h2, decide_eq_true h2]; rfl
  ·rw [if_neg h2, decide_eq_false h2]; rfl
theorem cmp_lt (x y : Int) : (some (compare x y) == some Ordering.lt) = decide (x < y) := by
 show (some (compareOfLessAndEq x y) == some Ordering.lt) = _
 unfold compareOfLessAndEq
 by_cases h1 : x < y
 ·rw [if_pos h1, decide_eq_true h1]; rfl
 ·rw [if_neg h1, decide_eq_false h1]
  by_cases h2 : x = y
  ·rw [if_pos h2]; rfl
  ·rw [if_neg h2]; rfl
theorem cmp_gt (x y : Int) : (some (compare x y) == some Ordering.gt) = decide (y < x) := by
 show (some (compareOfLessAndEq x y) == some Ordering.gt) = _
 unfold compareOfLessAndEq
 by_cases h1 : x < y
 ·rw [if_pos h1, decide_eq_false (by omega)]; rfl
 ·rw [if_neg h1]
  by_cases h2 : x = y
  ·rw [if_pos h2, decide_eq_false (by omega)]; rfl
  ·rw [if_neg h2, decide_eq_true (by omega)]; rfl
section
variable {s t : Bool} {v w : Nat}
theorem order_f (hv : Ex v) (hw : Ex w) : FloatKind.f64.format.order (fl s v) (fl t w) = some (compare (sg s v) (sg t w)) := order_fl s t hv hw
theorem eq_fl (hv : Ex v) (hw : Ex w) : (FloatKind.f64.format.order (fl s v) (fl t w) == some Ordering.eq) = decide (sg s v = sg t w) := by rw [order_f hv hw, cmp_eq]
theorem ne_fl (hv : Ex v) (hw : Ex w) : (FloatKind.f64.format.order (fl s v) (fl t w) != some Ordering.eq) = !decide (sg s v = sg t w) := by rw [<- eq_fl hv hw]; rfl
theorem lt_fl (hv : Ex v) (hw : Ex w) : (FloatKind.f64.format.order (fl s v) (fl t w) == some Ordering.lt) = decide (sg s v < sg t w) := by rw [order_f hv hw, cmp_lt]
theorem gt_fl (hv : Ex v) (hw : Ex w) : (FloatKind.f64.format.order (fl s v) (fl t w) == some Ordering.gt) = decide (sg t w < sg s v) := by rw [order_f hv hw, cmp_gt]
theorem nanB_fl (hv : Ex v) : nanB (fl s v) = false := by unfold nanB; rw [ne_fl hv hv, decide_eq_true rfl]; rfl
theorem signB_fl (hv : Ex v) : signB (fl s v) = s := by
 have := rg_le hv.2
 unfold signB fl
 cases s
 ·rw [if_neg (by decide), decide_eq_false (by omega)]
 ·rw [if_pos rfl, decide_eq_true (by omega)]
end
theorem kinds {b : Nat} (hb : b < 18446744073709551616) : (IsN b ∧ nanB b = true) ∨ (nanB b = false ∧ ∃ s v, Ex v ∧ b = fl s v) := by
 rcases cases_fl hb with h | ⟨s, v, hv, rfl⟩
 ·exact .inl ⟨h, nanB_nan h⟩
 ·exact .inr ⟨nanB_fl hv, s, v, hv, rfl⟩
def sameB (a b : Nat) : Bool := if nanB a || nanB b then nanB a && nanB b else (FloatKind.f64.format.order a b == some Ordering.eq) && (signB a == signB b)
theorem isN_big {r : Nat} (h : 9218868437227405312 < r % 9223372036854775808) : IsN r := by
 refine ⟨r / 9223372036854775808 % 2 == 1, r % 9223372036854775808 - 9218868437227405312, ?_⟩
 unfold Format.read
 dsimp only
 rw [dW, dB, dI, dL, if_neg (by omega), if_neg (by omega), if_neg (by omega)]
theorem isN_cut (x y t : Nat) : IsN (Question.cut (.nanBits .f64 x y) t) ∧ Question.cut (.nanBits .f64 x y) t < 18446744073709551616 := by
 show IsN ((t % 2) * 2 ^ 63 + 0x7ff0000000000000 + 1 + (t / 2) % (2 ^ 52 - 1)) ∧ (t % 2) * 2 ^ 63 + 0x7ff0000000000000 + 1 + (t / 2) % (2 ^ 52 - 1) < 18446744073709551616
 have h1 : (t / 2) % (2 ^ 52 - 1) < 2 ^ 52 - 1 := Nat.mod_lt _ (by decide)
 have e1 : (2 : Nat) ^ 52 = 4503599627370496 := by decide
 have e2 : (2 : Nat) ^ 63 = 9223372036854775808 := by decide
 rw [e1] at h1 ⊢
 rw [e2]
 generalize (t / 2) % (4503599627370496 - 1) = d at h1 ⊢
 rcases Nat.mod_two_eq_zero_or_one t with h2 | h2
 ·rw [h2]
  exact ⟨isN_big (by omega), by omega⟩
 ·rw [h2]
  exact ⟨isN_big (by omega), by omega⟩
def eU : Nat := slow 1074
theorem eU_eq : eU = 1074 := slow_eq _
def un : Nat := 2 ^ eU
theorem un_pos : 0 < un := pos2 _
theorem un_lt {n : Nat} (h : n <= 9007199254740992) : n * un < top := by
 refine Nat.lt_of_le_of_lt (Nat.mul_le_mul_right un h) ?_
 unfold un top
 rw [<- b53, <- Nat.pow_add]
 exact Nat.pow_lt_pow_right (by decide) (by rw [eT_eq, eU_eq]; omega)
theorem ex_un {n : Nat} (h : n <= 9007199254740992) : Ex (n * un) := ex_mul (e := eU) h (Nat.le_of_lt (un_lt h))
theorem fint {n : Nat} (h : n <= 9007199254740992) : floatOfInt .f64 (n : Int) = fl false (n * un) := by
 show double.nearest (decide ((n : Int) < 0)) (n : Int).natAbs 0 = _
 rw [decide_eq_false (by omega), Int.natAbs_natCast]
 exact nearest_of false (a := eU) (b := 0) (by rw [eU_eq]; omega) (by rw [Nat.pow_zero, Nat.mul_one, un]) (ex_un h) (un_lt h)
theorem integral_fl (s : Bool) {v : Nat} (h : Ex v) (ht : v < top) : (double.read (fl s v)).integral .zero = .number s (v / un) 0 := by
 obtain ⟨m, a, hr, hm, _⟩ := read_fl s h ht
 rw [hr]
 show Datum.number s (Toward.zero.cut s (m <<< ((a : Int) - 1074).toNat) (-((a : Int) - 1074)).toNat) 0 = _
 rw [cut_zero, Nat.shiftLeft_eq, show ((a : Int) - 1074).toNat = a - eU by rw [eU_eq]; omega, show (-((a : Int) - 1074)).toNat = eU - a by rw [eU_eq]; omega, <- hm]
 refine congrArg (fun z => Datum.number s z 0) ?_
 unfold un
 rcases Nat.le_total a eU with h1 | h1
 ·rw [Nat.sub_eq_zero_of_le h1, Nat.pow_zero, Nat.mul_one]
  have e : 2 ^ eU = 2 ^ (eU - a) * 2 ^ a := by rw [<- Nat.pow_add, Nat.sub_add_cancel h1]
  rw [e, Nat.mul_div_mul_right _ _ (pos2 a)]
 ·rw [Nat.sub_eq_zero_of_le h1, Nat.pow_zero, Nat.div_one]
  have e : 2 ^ a = 2 ^ (a - eU) * 2 ^ eU := by rw [<- Nat.pow_add, Nat.sub_add_cancel h1]
  rw [e, <- Nat.mul_assoc, Nat.mul_div_cancel _ (pos2 eU)]
theorem to_int_of {b k : Nat} (hi : (double.read b).integral .zero = .number false k 0) (hk : k <= 9007199254740992) : floatToIntVal .f64 b .i64 = some (k : Int) := by
 have e : (FloatKind.f64.decode b).toInt .zero = some (k : Int) := by
  show Datum.toInt .zero (double.read b) = _
  unfold Datum.toInt
  rw [hi]
  show some (signed false k 0) = _
  unfold signed
  rw [if_neg (by decide), Nat.shiftLeft_zero]
 have h1 : IntKind.i64.min <= (k : Int) ∧ (k : Int) <= IntKind.i64.max := by
  show (-9223372036854775808 : Int) <= (k : Int) ∧ (k : Int) <= 9223372036854775807
  omega
 unfold floatToIntVal
 rw [e]
 exact if_pos h1
theorem to_int {v : Nat} (h : Ex v) (hv : v <= 9007199254740992 * un) : floatToIntVal .f64 (fl false v) .i64 = some ((v / un : Nat) : Int) := by
 have ht : v < top := Nat.lt_of_le_of_lt hv (un_lt (Nat.le_refl _))
 refine to_int_of (integral_fl false h ht) ?_
 have := Nat.div_le_div_right (c := un) hv
 rwa [Nat.mul_div_cancel _ un_pos] at this
theorem xor_top {x : Nat} (h : x < 9223372036854775808) : x ^^^ 9223372036854775808 = 9223372036854775808 + x := by
 rw [show (9223372036854775808 : Nat) = 2 ^ 63 by decide] at h ⊢
 refine Nat.eq_of_testBit_eq fun i => ?_
 rw [Nat.testBit_xor, Nat.testBit_two_pow]
 rcases Nat.lt_trichotomy i 63 with h1 | h1 | h1
 ·rw [Nat.testBit_two_pow_add_gt h1, decide_eq_false (by omega), Bool.xor_false]
 ·subst h1
  rw [Nat.testBit_two_pow_add_eq, decide_eq_true rfl, Bool.xor_true]
 ·have e1 : x.testBit i = false := Nat.testBit_lt_two_pow (Nat.lt_of_lt_of_le h (Nat.pow_le_pow_right (by decide) (by omega)))
  have e2 : (2 ^ 63 + x).testBit i = false := Nat.testBit_lt_two_pow (Nat.lt_of_lt_of_le (m := 2 ^ 64) (by omega) (Nat.pow_le_pow_right (by decide) (by omega)))
  rw [e1, e2, decide_eq_false (by omega)]; rfl
theorem neg_fl (s : Bool) {v : Nat} (h : Ex v) : Op.negFloat .f64 (fl s v) = fl (!s) v := by
 have hr := rg_le h.2
 show fl s v ^^^ 9223372036854775808 = _
 unfold fl
 cases s
 ·simp only [Bool.false_eq_true, Bool.not_false, if_true, if_false]
  exact xor_top (by omega)
 ·simp only [Bool.false_eq_true, Bool.not_true, if_true, if_false]
  rw [<- xor_top (by omega), Nat.xor_assoc, Nat.xor_self, Nat.xor_zero]
section
variable {s : Bool} {v : Nat}
theorem lt0 (hv : Ex v) : (FloatKind.f64.format.order (fl s v) 0 == some Ordering.lt) = (s && decide (v ≠ 0)) := by
 have h := lt_fl (s := s) (t := false) hv ex_zero
 rw [fl_zero] at h
 rw [h]
 unfold sg
 cases s <;> simp only [Bool.false_eq_true, if_true, if_false, Bool.false_and, Bool.true_and]
 ·exact decide_eq_false (by omega)
 ·exact decide_eq_decide.2 (by omega)
theorem gt0 (hv : Ex v) : (FloatKind.f64.format.order (fl s v) 0 == some Ordering.gt) = (!s && decide (v ≠ 0)) := by
 have h := gt_fl (s := s) (t := false) hv ex_zero
 rw [fl_zero] at h
 rw [h]
 unfold sg
 cases s <;> simp only [Bool.false_eq_true, if_true, if_false, Bool.not_false, Bool.not_true, Bool.false_and, Bool.true_and]
 ·exact decide_eq_decide.2 (by omega)
 ·exact decide_eq_false (by omega)
theorem eq0 (hv : Ex v) : (FloatKind.f64.format.order (fl s v) 0 == some Ordering.eq) = decide (v = 0) := by
 have h := eq_fl (s := s) (t := false) hv ex_zero
 rw [fl_zero] at h
 rw [h]
 unfold sg
 cases s <;> simp only [Bool.false_eq_true, if_true, if_false] <;> exact decide_eq_decide.2 (by omega)
end
theorem ex_up {v n : Nat} (h : Ex v) (ht : v * 2 ^ n <= top) : Ex (v * 2 ^ n) := by
 induction n with
 | zero => rw [Nat.pow_zero, Nat.mul_one]; exact h
 | succ n ih =>
   have e : v * 2 ^ (n + 1) = 2 * (v * 2 ^ n) := by rw [Nat.pow_succ, <- Nat.mul_assoc, Nat.mul_comm]
   rw [e] at ht ⊢
   exact ex_double (ih (by omega)) ht
theorem ex_down {v n : Nat} (h : Ex (v * 2 ^ n)) : Ex v := by
 induction n with
 | zero => rw [Nat.pow_zero, Nat.mul_one] at h; exact h
 | succ n ih =>
   have e : v * 2 ^ (n + 1) = 2 * (v * 2 ^ n) := by rw [Nat.pow_succ, <- Nat.mul_assoc, Nat.mul_comm]
   rw [e] at h
   exact ih (ex_half h)
theorem rg_mul {k : Nat} (e : Nat) (h1 : 4503599627370496 <= k) (h2 : k < 9007199254740992) : rg (k * 2 ^ e) = e * 4503599627370496 + k := by
 have hl : k.log2 = 52 := log2_is (by rw [b52]; exact h1) (by rw [show (2 : Nat) ^ (52 + 1) = 9007199254740992 by decide]; exact h2)
 have hq : q (k * 2 ^ e) = e := by unfold q; rw [log2_mul (by omega), hl]; omega
 unfold rg
 rw [hq, Nat.mul_div_cancel _ (pos2 e)]
def t53 : Nat := 9007199254740992 * un
theorem c53 : fl false t53 = 4845873199050653696 := by
 have e : t53 = 4503599627370496 * 2 ^ (1 + eU) := by
  unfold t53 un
  rw [<- b53, <- b52, <- Nat.pow_add, <- Nat.pow_add, <- Nat.add_assoc]
 unfold fl
 rw [if_neg (by decide), e, rg_mul (1 + eU) (by decide) (by decide), eU_eq]
theorem ex_t53 : Ex t53 := ex_un (by omega)
theorem gt53 {v : Nat} (hv : Ex v) : (FloatKind.f64.format.order (fl false v) 4845873199050653696 == some Ordering.gt) = decide (t53 < v) := by
 have h := gt_fl (s := false) (t := false) hv ex_t53
 rw [c53] at h
 rw [h]
 exact decide_eq_decide.2 (by unfold sg; simp only [Bool.false_eq_true, if_false]; omega)
theorem val_small {r : Nat} (h : r < 4503599627370496) : val r = r := by unfold val; rw [if_pos h]
theorem val_big {e f : Nat} (h : f < 4503599627370496) : val ((e + 1) * 4503599627370496 + f) = (4503599627370496 + f) * 2 ^ e := by
 unfold val
 rw [if_neg (by omega), show ((e + 1) * 4503599627370496 + f) / 4503599627370496 - 1 = e by omega, show ((e + 1) * 4503599627370496 + f) % 4503599627370496 = f by omega]
theorem val_lt {r : Nat} (h : r < 9218868437227405312) : val r < top := by
 rcases Nat.lt_or_ge (val r) top with h1 | h1
 ·exact h1
 ·have h2 := ex_val (Nat.le_of_lt h)
  have h3 := Nat.le_antisymm h2.1.2 h1
  rw [h3, rg_top] at h2
  omega
theorem neg_run (s : Bool) {v : Nat} (h : Ex v) : Op.unary .neg (.float .f64 (fl s v)) = pure (.float .f64 (fl (!s) v)) := by
 show pure (Value.float .f64 (Op.negFloat .f64 (fl s v))) = _
 rw [neg_fl s h]
theorem fl_of {b : Nat} (hb : b < 18446744073709551616) (h : b % 9223372036854775808 <= 9218868437227405312) : fl (signB b) (val (b % 9223372036854775808)) = b := by
 unfold fl signB
 rw [(ex_val h).2]
 by_cases h1 : 9223372036854775808 <= b
 ·rw [decide_eq_true h1, if_pos rfl]; omega
 ·rw [decide_eq_false h1, if_neg (by decide)]; omega
end Go.Proofs.YtaciogcpghbhjaaGreat.Fp
/- Layer 3 in plain words: the bits of four numbers, the four numbers of bits; there and back. Conditions: none. -/
namespace Go.Proofs.YtaciogcpghbhjaaGreat.Re
open Go.Proofs.YtaciogcpghbhjaaGreat.Fp Go.RowKit
def bitsL (l : List Int) : Nat := l.foldl (fun a z => a * 65536 + z.toNat) 0
def okL (l : List Int) : Bool := decide (l.length = 4) && Tw.allIn l
def ofB (l : List Int) : Nat := if okL l then bitsL l else 0
theorem bitsL_snoc (l : List Int) (z : Int) : bitsL (l ++ [z]) = bitsL l * 65536 + z.toNat := by simp [bitsL]
theorem fold_lt (l : List Int) : ∀ a m : Nat, a < 65536 ^ m -> Tw.allIn l = true -> l.foldl (fun a z => a * 65536 + z.toNat) a < 65536 ^ (m + l.length) := by
 induction l with
 | nil => intro a m h _; exact h
 | cons z l ih =>
   intro a m h hl
   have hz : Tw.inR z = true ∧ Tw.allIn l = true := by simpa [Tw.allIn] using hl
   have h2 : z <= 65535 := by have := hz.1; simp [Tw.inR] at this; exact this.2
   rw [List.foldl_cons, List.length_cons, show m + (l.length + 1) = m + 1 + l.length by omega]
   refine ih _ (m + 1) ?_ hz.2
   rw [Nat.pow_succ]
   omega
theorem bitsL_lt (l : List Int) (h : Tw.allIn l = true) : bitsL l < 65536 ^ l.length := by
 have := fold_lt l 0 0 (by decide) h
 rwa [Nat.zero_add] at this
theorem ofB_lt (l : List Int) : ofB l < 18446744073709551616 := by
 unfold ofB
 split
 ·rename_i h
  unfold okL at h
  rw [Bool.and_eq_true, decide_eq_true_eq] at h
  have := bitsL_lt l h.2
  rw [h.1] at this
  exact this
 ·decide
def regN (n : Nat) (i : Nat) : Int := ((n / 65536 ^ (3 - i) % 65536 : Nat) : Int)
def regsN (n : Nat) : List Int := [regN n 0, regN n 1, regN n 2, regN n 3]
def part (n k : Nat) : List Int := (regsN n).take k ++ List.replicate (4 - k) 0
theorem u64_or (a b : Nat) (ha : a < 281474976710656) (hb : b < 65536) : bits .or .u64 ((a : Int) * 65536) (b : Int) = ((a * 65536 + b : Nat) : Int) := by
 have h := bits_or_u64_nat (a * 65536) b (by omega) (by omega)
 have e : (a * 65536) ||| b = a * 65536 + b := by
  have := Nat.two_pow_add_eq_or_of_lt (i := 16) (b := b) (by omega) a
  rw [Nat.mul_comm a 65536]
  simpa using this.symm
 rw [e] at h
 rw [<- h]
 congr 1
theorem bits_regs (l : List Int) (h : okL l = true) : regsN (bitsL l) = l := by
 unfold okL at h
 rw [Bool.and_eq_true, decide_eq_true_eq] at h
 obtain ⟨h1, h2⟩ := h
 match l, h1 with
 | [a, b, c, d], _ =>
   simp [Tw.allIn, Tw.inR] at h2
   simp only [bitsL, regsN, List.foldl_cons, List.foldl_nil, regN]
   congr 1
   ·omega
   ·congr 1
    ·omega
    ·congr 1
     ·omega
     ·congr 1
      omega
theorem parts_of {l : List Int} (h : okL l = true) : ∃ a m : Nat, a < 65536 ∧ m < 281474976710656 ∧ l.getD 0 0 = (a : Int) ∧ bitsL (l.drop 1) = m ∧ bitsL l = a * 281474976710656 + m := by
 unfold okL at h
 rw [Bool.and_eq_true, decide_eq_true_eq] at h
 obtain ⟨h1, h2⟩ := h
 match l, h1 with
 | [a, b, c, d], _ =>
   simp [Tw.allIn, Tw.inR] at h2
   refine ⟨a.toNat, bitsL [b, c, d], by omega, ?_, ?_, rfl, ?_⟩
   ·simp only [bitsL, List.foldl_cons, List.foldl_nil]; omega
   ·show a = _
    omega
   ·simp only [bitsL, List.foldl_cons, List.foldl_nil]; omega
end Go.Proofs.YtaciogcpghbhjaaGreat.Re
