/- Layer 3 in plain words: the bits of four numbers, the four numbers of bits; there and back. Conditions: none. -/
import Derived.Test.YtdkeibgfehblaaaGreatDoorFp
import Derived.Test.YtdkeibgfehblaaaGreatDoorTwA
import Derived.Laws.Bits64b
namespace Go.Proofs.YtdkeibgfehblaaaGreatDoor.Re
open Go.Proofs.YtdkeibgfehblaaaGreatDoor.Fp Go.RowKit

/-- The bits that numbers of two bytes make, the highest first. -/
def bitsL (l : List Int) : Nat := l.foldl (fun a z => a * 65536 + z.toNat) 0
def okL (l : List Int) : Bool := decide (l.length = 4) && Tw.allIn l
def ofB (l : List Int) : Nat := if okL l then bitsL l else 0
theorem bitsL_snoc (l : List Int) (z : Int) : bitsL (l ++ [z]) = bitsL l * 65536 + z.toNat := by simp [bitsL]
theorem fold_lt (l : List Int) : ∀ a m : Nat, a < 65536 ^ m → Tw.allIn l = true → l.foldl (fun a z => a * 65536 + z.toNat) a < 65536 ^ (m + l.length) := by
  induction l with
  | nil => intro a m h _; exact h
  | cons z l ih =>
    intro a m h hl
    have hz : Tw.inR z = true ∧ Tw.allIn l = true := by simpa [Tw.allIn] using hl
    have h2 : z ≤ 65535 := by have := hz.1; simp [Tw.inR] at this; exact this.2
    rw [List.foldl_cons, List.length_cons, show m + (l.length + 1) = m + 1 + l.length by omega]
    refine ih _ (m + 1) ?_ hz.2
    rw [Nat.pow_succ]
    omega
theorem bitsL_lt (l : List Int) (h : Tw.allIn l = true) : bitsL l < 65536 ^ l.length := by
  have := fold_lt l 0 0 (by decide) h
  rwa [Nat.zero_add] at this
theorem ofB_lt (l : List Int) : ofB l < 18446744073709551616 := by
  unfold ofB
  split
  · rename_i h
    unfold okL at h
    rw [Bool.and_eq_true, decide_eq_true_eq] at h
    have := bitsL_lt l h.2
    rw [h.1] at this
    exact this
  · decide

/-- The number at a place of bits, in two bytes. -/
def regN (n : Nat) (i : Nat) : Int := ((n / 65536 ^ (3 - i) % 65536 : Nat) : Int)
def regsN (n : Nat) : List Int := [regN n 0, regN n 1, regN n 2, regN n 3]
/-- Bits, but of whatever is no number the same ones. -/
def canon (b : Nat) : Nat := if nanB b then 9221120237041090560 else b
/-- The first k numbers of bits, then nought. -/
def part (n k : Nat) : List Int := (regsN n).take k ++ List.replicate (4 - k) 0

theorem u64_or (a b : Nat) (ha : a < 281474976710656) (hb : b < 65536) : bits .or .u64 ((a : Int) * 65536) (b : Int) = ((a * 65536 + b : Nat) : Int) := by
  have h := bits_or_u64_nat (a * 65536) b (by omega) (by omega)
  have e : (a * 65536) ||| b = a * 65536 + b := by
    have := Nat.two_pow_add_eq_or_of_lt (i := 16) (b := b) (by omega) a
    rw [Nat.mul_comm a 65536]
    simpa using this.symm
  rw [e] at h
  rw [← h]
  congr 1
theorem u64_and (a : Nat) (ha : a < 18446744073709551616) : bits .and .u64 (a : Int) 65535 = ((a % 65536 : Nat) : Int) := by
  have h := bits_and_u64_nat a 65535 ha (by omega)
  have e : a &&& 65535 = a % 65536 := Nat.and_two_pow_sub_one_eq_mod a 16
  rw [e] at h
  exact h
/-- The sign's bit, left out. -/
theorem u64_abs (a : Nat) (ha : a < 18446744073709551616) : bits .andNot .u64 (a : Int) 9223372036854775808 = ((a % 9223372036854775808 : Nat) : Int) := by
  have h : (bits .andNot .u64 (a : Int) 9223372036854775808) = IntKind.u64.wrap (((BitVec.ofInt 64 (a : Int) &&& ~~~(BitVec.ofInt 64 9223372036854775808)).toNat : Nat) : Int) := rfl
  have e : ~~~(BitVec.ofInt 64 9223372036854775808) = BitVec.ofNat 64 9223372036854775807 := by decide
  rw [h, e, BitVec.toNat_and, BitVec.ofInt_natCast, BitVec.toNat_ofNat, BitVec.toNat_ofNat, IntKind.wrap_u64]
  have e2 : a % 2 ^ 64 &&& 9223372036854775807 % 2 ^ 64 = a % 9223372036854775808 := by
    rw [Nat.mod_eq_of_lt (show a < 2 ^ 64 from ha), Nat.mod_eq_of_lt (by decide)]
    exact Nat.and_two_pow_sub_one_eq_mod a 63
  rw [e2]
  omega
theorem wrap_sign (b : Nat) (hb : b < 18446744073709551616) : decide (wrap64 (b : Int) < 0) = signB b := by
  unfold wrap64 signB
  exact decide_eq_decide.2 ⟨fun h => by omega, fun h => by omega⟩

/-- The numbers of bits make the bits. -/
theorem regs_ok (n : Nat) : okL (regsN n) = true := by
  have h : ∀ m : Nat, Tw.inR ((m % 65536 : Nat) : Int) = true := fun m => Tw.inR_of (by omega) (by omega)
  simp only [okL, regsN, Tw.allIn, List.all_cons, List.all_nil, Bool.and_true, List.length_cons, List.length_nil, regN, h]
  decide
theorem regs_bits (n : Nat) (h : n < 18446744073709551616) : bitsL (regsN n) = n := by
  simp only [bitsL, regsN, List.foldl_cons, List.foldl_nil, regN, Int.toNat_natCast]
  omega
theorem ofB_regs (n : Nat) (h : n < 18446744073709551616) : ofB (regsN n) = n := by
  unfold ofB
  rw [if_pos (regs_ok n), regs_bits n h]
theorem bits_regs (l : List Int) (h : okL l = true) : regsN (bitsL l) = l := by
  unfold okL at h
  rw [Bool.and_eq_true, decide_eq_true_eq] at h
  obtain ⟨h1, h2⟩ := h
  match l, h1 with
  | [a, b, c, d], _ =>
    simp [Tw.allIn, Tw.inR] at h2
    simp only [bitsL, regsN, List.foldl_cons, List.foldl_nil, regN]
    congr 1
    · omega
    · congr 1
      · omega
      · congr 1
        · omega
        · congr 1
          omega
theorem canon_lt {b : Nat} (h : b < 18446744073709551616) : canon b < 18446744073709551616 := by unfold canon; split <;> omega
theorem reg_cell (m k : Nat) (hm : m < 18446744073709551616) (hk : k < 4) : wrap64 (bits .and .u64 ((m : Int) / 2 ^ (16 * (3 - k))) 65535) = regN m k := by
  have e : ((m : Int) / 2 ^ (16 * (3 - k))) = ((m / 65536 ^ (3 - k) : Nat) : Int) := by
    rcases (by omega : k = 0 ∨ k = 1 ∨ k = 2 ∨ k = 3) with rfl | rfl | rfl | rfl <;> rfl
  rw [e, u64_and _ (Nat.lt_of_le_of_lt (Nat.div_le_self _ _) hm)]
  unfold regN wrap64
  omega
theorem part_set (m k : Nat) (hk : k < 4) : (part m k).set k (regN m k) = part m (k + 1) := by
  rcases (by omega : k = 0 ∨ k = 1 ∨ k = 2 ∨ k = 3) with rfl | rfl | rfl | rfl <;> rfl
theorem part_four (m : Nat) : part m 4 = regsN m := rfl
/-- The first number and the rest of four. -/
theorem parts_of {l : List Int} (h : okL l = true) : ∃ a m : Nat, a < 65536 ∧ m < 281474976710656 ∧ l.getD 0 0 = (a : Int) ∧ bitsL (l.drop 1) = m ∧ bitsL l = a * 281474976710656 + m := by
  unfold okL at h
  rw [Bool.and_eq_true, decide_eq_true_eq] at h
  obtain ⟨h1, h2⟩ := h
  match l, h1 with
  | [a, b, c, d], _ =>
    simp [Tw.allIn, Tw.inR] at h2
    refine ⟨a.toNat, bitsL [b, c, d], by omega, ?_, ?_, rfl, ?_⟩
    · simp only [bitsL, List.foldl_cons, List.foldl_nil]; omega
    · show a = _
      omega
    · simp only [bitsL, List.foldl_cons, List.foldl_nil]; omega
end Go.Proofs.YtdkeibgfehblaaaGreatDoor.Re
