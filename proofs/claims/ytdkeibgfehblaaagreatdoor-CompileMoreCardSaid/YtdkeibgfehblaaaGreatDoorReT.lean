/- Layer 3's texts: package math's few functions, the cut of a sign ahead. Conditions: none. -/
import Derived.Test.YtdkeibgfehblaaaGreatDoorReL
import Derived.Test.YtdkeibgfehblaaaGreatDoorReU
import Derived.Test.YtdkeibgfehblaaaGreatDoorGuAll
namespace Go.Proofs.YtdkeibgfehblaaaGreatDoor.Re
set_option maxRecDepth 8000
open Go.Proofs.YtdkeibgfehblaaaGreatDoor.Fp Go.ChangeShapes Go.WideShapes Go.ChangeAt Go.RowKit

theorem nan_mod {b : Nat} (h : nanB b = true) : IsN (b % 9223372036854775808) := isN_big (by have := big_isN h; omega)
theorem u64_set (a : Nat) (ha : a < 9223372036854775808) : bits .or .u64 (a : Int) 9223372036854775808 = ((9223372036854775808 + a : Nat) : Int) := by
  have h := bits_or_u64_nat a 9223372036854775808 (by omega) (by omega)
  have e : a ||| 9223372036854775808 = 9223372036854775808 + a := by
    have := Nat.two_pow_add_eq_or_of_lt (i := 63) (b := a) ha 1
    rw [Nat.or_comm]
    simpa using this.symm
  rw [e] at h
  exact h

theorem call_from_int (n : Int) (w : World) : (callFunc 103 #[.int .u64 n]).run Tryz.prog w = .ok (.value (.float .f64 n.toNat)) w := by
  rw [run_callFunc_extern (e := Extern.MathFloatBits.float64frombits) Tryz.func103 (by kernel_rfl) (by kernel_rfl) (by kernel_rfl) (by kernel_rfl)]
  rfl
theorem abs_any (b : Nat) (hb : b < 18446744073709551616) (w : World) : Calls Tryz.prog 93 #[.float .f64 b] w fun e w' => e = .returned (.float .f64 (b % 9223372036854775808)) ∧ w = w' := by
  have hc := call_bits b
  have hf := call_from_int ((b : Int) % 9223372036854775808)
  rw [show ((b : Int) % 9223372036854775808).toNat = b % 9223372036854775808 by omega] at hf
  have ha := u64_abs b hb
  go_enter Tryz.func93, Tryz.ntmps93
  go_wp2
  go_ret
  exact ⟨rfl, rfl⟩
theorem neg_any (b : Nat) (hb : b < 18446744073709551616) (w : World) : Calls Tryz.prog 109 #[.float .f64 b, .float .f64 13830554455654793216] w fun e w' => e = .returned (.float .f64 (9223372036854775808 + b % 9223372036854775808)) ∧ w = w' := by
  have hc := call_bits b
  have hc2 := call_bits 13830554455654793216
  have hf := call_from_int (9223372036854775808 + (b : Int) % 9223372036854775808)
  rw [show (9223372036854775808 + (b : Int) % 9223372036854775808).toNat = 9223372036854775808 + b % 9223372036854775808 by omega] at hf
  have ha := u64_abs b hb
  have hm : bits .and .u64 13830554455654793216 9223372036854775808 = 9223372036854775808 := by decide
  have ho : bits .or .u64 ((b : Int) % 9223372036854775808) 9223372036854775808 = 9223372036854775808 + (b : Int) % 9223372036854775808 := by
    have := u64_set (b % 9223372036854775808) (Nat.mod_lt _ (by decide))
    simpa using this
  go_enter Tryz.func109, Tryz.ntmps109
  go_wp2
  go_ret
  exact ⟨rfl, rfl⟩
theorem isInf_any (b : Nat) (w : World) : Calls Tryz.prog 101 #[.float .f64 b, .int .i64 1] w fun e w' => e = .returned (.bool (FloatKind.f64.format.order b 9218868437227405311 == some Ordering.gt)) ∧ w = w' := by
  go_enter Tryz.func101, Tryz.ntmps101
  go_wp2
  go_ret
  exact ⟨rfl, rfl⟩
theorem bl_extract (s : ByteArray) (i j : Nat) : bl (s.extract i j) = ((bl s).drop i).take (j - i) := by
  unfold bl
  rw [ByteArray.data_extract, Array.toList_extract, List.extract_eq_take_drop]
theorem head_neg (s : ByteArray) (h : 1 ≤ s.size) : ((s.extract 0 1).toList == [45]) = negL (bl s) := by
  rw [toList_eq, bl_extract]
  rw [← bl_length] at h
  match bl s, h with
  | a :: l, _ =>
    show ([a] == [45]) = (some a == some 45)
    rw [Bool.eq_iff_iff]
    simp
theorem negL_nil (s : ByteArray) (h : s.size = 0) : negL (bl s) = false := by
  rw [List.eq_nil_of_length_eq_zero (show (bl s).length = 0 by rw [bl_length]; exact h)]; rfl
theorem negL_pos (s : ByteArray) (h : negL (bl s) = true) : 1 ≤ s.size := by
  rcases Nat.eq_zero_or_pos s.size with h1 | h1
  · rw [negL_nil s h1] at h; cases h
  · exact h1
theorem rest_tail (s : ByteArray) (h : negL (bl s) = true) : s.extract 1 s.size = st (restL (bl s)) := by
  rw [← st_bl (s.extract 1 s.size), bl_extract]
  unfold restL
  rw [if_pos h, List.take_of_length_le (by rw [List.length_drop, bl_length]; exact Nat.le_refl _), List.drop_one]
theorem rest_same (s : ByteArray) (h : negL (bl s) = false) : s = st (restL (bl s)) := by
  unfold restL
  rw [h, if_neg (by decide), st_bl]
theorem call_trunc (b : Nat) (w : World) : (callFunc 106 #[.float .f64 b]).run Tryz.prog w = ((Extern.MathFloor.toIntegral "math.archTrunc" .zero #[.float .f64 b]).run Tryz.prog w).andThen fun v w' => .ok (.value v) w' := by
  rw [run_callFunc_extern (e := Extern.MathFloor.toIntegral "math.archTrunc" .zero) Tryz.func106 (by kernel_rfl) (by kernel_rfl) (by kernel_rfl) (by kernel_rfl)]
theorem entry_num (b : Nat) (s : Bool) (m : Nat) (a : Int) (hd : FloatKind.f64.decode b = .number s m a) : Extern.MathFloor.toIntegral "math.archTrunc" .zero #[.float .f64 b] = pure (.float .f64 (FloatKind.f64.encode ((Ieee.Datum.number s m a).integral .zero))) := by
  have e : ∃ n : Bool → Nat → Sem Value, Extern.MathFloor.toIntegral "math.archTrunc" .zero #[.float .f64 b] = (match FloatKind.f64.decode b with | .nan s t => n s t | d => pure (.float .f64 (FloatKind.f64.encode (d.integral .zero)))) := ⟨_, rfl⟩
  obtain ⟨n, e⟩ := e
  rw [e, hd]
theorem call_trunc_fl (s : Bool) {v : Nat} (h : Ex v) (ht : v < top) (w : World) : (callFunc 106 #[.float .f64 (fl s v)]).run Tryz.prog w = .ok (.value (.float .f64 (fl s (v / un * un)))) w := by
  rw [call_trunc]
  obtain ⟨m, a, hr, _⟩ := read_fl s h ht
  have hd : FloatKind.f64.decode (fl s v) = .number s m ((a : Int) - 1074) := hr
  have ht := trunc_fl s h ht
  rw [hd] at ht
  rw [entry_num _ _ _ _ hd, ht]
  rfl
theorem trunc_fl_any (s : Bool) {v : Nat} (h : Ex v) (ht : v < top) (w : World) : Calls Tryz.prog 102 #[.float .f64 (fl s v)] w fun e w' => e = .returned (.float .f64 (fl s (v / un * un))) ∧ w = w' := by
  have hc := call_trunc_fl s h ht
  generalize fl s (v / un * un) = r at *
  generalize fl s v = b at *
  go_enter Tryz.func102, Tryz.ntmps102
  go_wp2
  go_ret
  exact ⟨rfl, rfl⟩
/-- What is no number is asked for, and told as some float. -/
theorem entry_nan (b : Nat) (s : Bool) (t : Nat) (hd : FloatKind.f64.decode b = .nan s t) (w : World) : ∃ r k, (Extern.MathFloor.toIntegral "math.archTrunc" .zero #[.float .f64 b]).run Tryz.prog w = .ok (.float .f64 r) (w.drewN k) := by
  have e : ∃ (q : Bool → Nat → Question) (f : Bool → Nat → Nat → Nat), Extern.MathFloor.toIntegral "math.archTrunc" .zero #[.float .f64 b] = (match FloatKind.f64.decode b with | .nan s t => if FloatKind.f64.format.quiet t = t then pure (.float .f64 b) else (do let x ← choose (q s t); pure (.float .f64 (f s t x))) | d => pure (.float .f64 (FloatKind.f64.encode (d.integral .zero)))) := ⟨_, _, rfl⟩
  obtain ⟨q, f, e⟩ := e
  rw [e, hd]
  dsimp only
  split
  · exact ⟨b, 0, rfl⟩
  · simp only [Sem.run_bind, run_choose]
    split
    · exact ⟨_, 0, rfl⟩
    · exact ⟨_, 1, rfl⟩
set_option maxHeartbeats 4000000 in
theorem trunc_nan_any (b : Nat) (h : IsN b) (w : World) : Calls Tryz.prog 102 #[.float .f64 b] w fun e w' => (∃ r, e = .returned (.float .f64 r)) ∧ Quiet w w' := by
  obtain ⟨s, t, hd⟩ := h
  obtain ⟨r, k, hr⟩ := entry_nan b s t hd w
  have hc : (callFunc 106 #[.float .f64 b]).run Tryz.prog w = .ok (.value (.float .f64 r)) (w.drewN k) := by
    rw [call_trunc, hr]
    rfl
  have HD := Lib.hid hd
  clear hd hr
  go_enter Tryz.func102, Tryz.ntmps102
  go_wp2
  go_ret
  exact ⟨⟨_, rfl⟩, _, rfl⟩
end Go.Proofs.YtdkeibgfehblaaaGreatDoor.Re
