/- Layer 3's texts: package math's few functions, the cut of a sign ahead. Conditions: none. -/
import Derived.Test.YtfdadlalnffdoaaReL
import Derived.Test.YtfdadlalnffdoaaReU
import Derived.Test.YtfdadlalnffdoaaGuAll
namespace Go.Proofs.Ytfdadlalnffdoaa.Re
set_option maxRecDepth 8000
open Go.Proofs.Ytfdadlalnffdoaa.Fp Go.ChangeShapes Go.WideShapes Go.ChangeAt Go.RowKit

theorem nan_mod {b : Nat} (h : nanB b = true) : IsN (b % 9223372036854775808) := isN_big (by have := big_isN h; omega)
theorem u64_set (a : Nat) (ha : a < 9223372036854775808) : bits .or .u64 (a : Int) 9223372036854775808 = ((9223372036854775808 + a : Nat) : Int) := by
  have h := bits_or_u64_nat a 9223372036854775808 (by omega) (by omega)
  have e : a ||| 9223372036854775808 = 9223372036854775808 + a := by
    have := Nat.two_pow_add_eq_or_of_lt (i := 63) (b := a) ha 1
    rw [Nat.or_comm]
    simpa using this.symm
  rw [e] at h
  exact h

theorem call_from_int (n : Int) (w : World) : (callFunc 86 #[.int .u64 n]).run Try.prog w = .ok (.value (.float .f64 n.toNat)) w := by
  rw [run_callFunc_extern (e := Extern.MathFloatBits.float64frombits) Try.func86 (by kernel_rfl) (by kernel_rfl) (by kernel_rfl) (by kernel_rfl)]
  rfl
theorem bl_extract (s : ByteArray) (i j : Nat) : bl (s.extract i j) = ((bl s).drop i).take (j - i) := by
  unfold bl
  rw [ByteArray.data_extract, Array.toList_extract, List.extract_eq_take_drop]
theorem head_neg (s : ByteArray) (h : 1 ≤ s.size) : ((s.extract 0 1).toList == [45]) = negL (bl s) := by
  rw [toList_eq, bl_extract]
  rw [← bl_length] at h
  match bl s, h with
  | a :: l, _ =>
    show ([a] == [45]) = (some a == some 45)
    rw [Bool.eq_iff_iff]
    simp
theorem negL_nil (s : ByteArray) (h : s.size = 0) : negL (bl s) = false := by
  rw [List.eq_nil_of_length_eq_zero (show (bl s).length = 0 by rw [bl_length]; exact h)]; rfl
theorem negL_pos (s : ByteArray) (h : negL (bl s) = true) : 1 ≤ s.size := by
  rcases Nat.eq_zero_or_pos s.size with h1 | h1
  · rw [negL_nil s h1] at h; cases h
  · exact h1
theorem rest_tail (s : ByteArray) (h : negL (bl s) = true) : s.extract 1 s.size = st (restL (bl s)) := by
  rw [← st_bl (s.extract 1 s.size), bl_extract]
  unfold restL
  rw [if_pos h, List.take_of_length_le (by rw [List.length_drop, bl_length]; exact Nat.le_refl _), List.drop_one]
theorem rest_same (s : ByteArray) (h : negL (bl s) = false) : s = st (restL (bl s)) := by
  unfold restL
  rw [h, if_neg (by decide), st_bl]
end Go.Proofs.Ytfdadlalnffdoaa.Re
