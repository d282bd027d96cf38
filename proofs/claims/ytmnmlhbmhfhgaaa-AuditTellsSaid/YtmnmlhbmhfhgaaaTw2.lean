/- Layer 1's reference: each function answers what the plain words of TwA say. Conditions: lengths at most a million. -/
import Derived.Test.YtmnmlhbmhfhgaaaRows
import Derived.Test.YtmnmlhbmhfhgaaaTwA
namespace Go.Proofs.Ytmnmlhbmhfhgaaa.Ref1
open Go.ChangeShapes Go.WideShapes Go.ChangeAt Go.RowKit

theorem info_int : (Try.prog.info? 3).map (fun i => (i.zero, i.size, i.bytes)) = some (some (.int .i64 0), 1, 8) := by kernel_rfl

set_option maxHeartbeats 400000 in
theorem put_any (n : Int) (w : World) :
    Calls Try.prog 26 #[.int .i64 n] w fun e w' => e = .returned (.tuple #[.string (st (Tw.put [n])), .bool (Tw.inR n)]) ∧ Below w.heap.size w w' := by
  by_cases h0 : n < 0
  · have e := Tw.not_inR (.inl h0)
    go_enter Try.func26, Try.ntmps26
    go_wp2
    go_ret2
    simp [Tw.put, Tw.allIn, e, st, Below.refl]
  · by_cases h1 : 65535 < n
    · have e := Tw.not_inR (.inr h1)
      go_enter Try.func26, Try.ntmps26
      go_wp2
      go_ret2
      simp [Tw.put, Tw.allIn, e, st, Below.refl]
    · have e := Tw.inR_of (z := n) (by omega) (by omega)
      have HE := Lib.hid e
      clear e
      have hcv : ∀ w : World, (convert 36 9 (.slice (some ⟨w.heap.size, 0, none⟩) 2 2)).run Try.prog (w.alloc (.cells #[.int .u8 (n / 256), .int .u8 (n % 256)] 5)) = .ok (.string (st (Tw.two n))) (w.alloc (.cells #[.int .u8 (n / 256), .int .u8 (n % 256)] 5)) :=
        fun w => conv_new Try.underlying36 Try.underlying5 Try.underlying9 _ 2 (Tw.two n) (Tw.two_cells (by omega) (by omega)).symm rfl
      go_enter Try.func26, Try.ntmps26
      go_wp2
      go_ret2
      refine ⟨?_, (Below.refl _ _).alloc (Nat.le_refl _) _⟩
      have e : Tw.put [n] = Tw.two n := by simp [Tw.put, Tw.allIn, HE.out, Tw.bytes]
      rw [e, HE.out]
      rfl

set_option maxHeartbeats 400000 in
theorem of_any (n : Int) (w : World) :
    Calls Try.prog 18 #[.int .i64 n] w fun e w' => e = .returned (.string (st (Tw.put [n]))) ∧ Below w.heap.size w w' := by
  go_enter Try.func18, Try.ntmps18
  go_wp2_with fail
  refine (put_any n _).mono ?_
  rintro e w1 ⟨rfl, hb⟩
  go_wp2
  go_ret
  exact ⟨rfl, hb⟩


set_option maxHeartbeats 400000 in
theorem get_any (s : ByteArray) (i : Int) (w : World) (hs : s.size ≤ maxLen) :
    Calls Try.prog 30 #[.string s, .int .i64 i] w fun e w' => e = .returned (.tuple #[.int .i64 (Tw.get s i), .bool (Tw.getOk s i)]) ∧ Quiet w w' := by
  unfold maxLen at hs
  by_cases h0 : i < 0
  · have e : Tw.getOk s i = false := by simp [Tw.getOk]; omega
    go_enter Try.func30, Try.ntmps30
    go_wp2
    go_ret2
    rw [Tw.get, e]
    exact ⟨rfl, Quiet.refl _⟩
  · by_cases h1 : (s.size : Int) ≤ i
    · have e : Tw.getOk s i = false := by simp [Tw.getOk]; omega
      go_enter Try.func30, Try.ntmps30
      go_wp2
      go_ret2
      rw [Tw.get, e]
      exact ⟨rfl, Quiet.refl _⟩
    · by_cases h2 : (s.size : Int) - i < 2
      · have e : Tw.getOk s i = false := by simp [Tw.getOk]; omega
        go_enter Try.func30, Try.ntmps30
        go_wp2
        go_ret2
        rw [Tw.get, e]
        exact ⟨rfl, Quiet.refl _⟩
      · have e : Tw.getOk s i = true := by simp [Tw.getOk]; omega
        have HE := Lib.hid e
        clear e
        have hx1 := idx (P := Try.prog) (k := .i64) s i Try.underlying9 (by omega) (by omega)
        have hx2 := idx (P := Try.prog) (k := .i64) s (i+1) Try.underlying9 (by omega) (by omega)
        have hr1 := byteAt_range s i
        have hr2 := byteAt_range s (i+1)
        go_enter Try.func30, Try.ntmps30
        go_wp2
        go_quiet (fail)
        go_wp2
        go_ret2
        rw [Tw.get, HE.out, Tw.num, Int.mul_comm (byteAt s i)]
        exact ⟨rfl, _, rfl⟩

set_option maxHeartbeats 400000 in
theorem at_any (s : ByteArray) (i : Int) (w : World) (hs : s.size ≤ maxLen) :
    Calls Try.prog 22 #[.string s, .int .i64 i] w fun e w' => e = .returned (.int .i64 (Tw.get s i)) ∧ Quiet w w' := by
  go_enter Try.func22, Try.ntmps22
  go_wp2_with fail
  refine (get_any s i _ hs).mono ?_
  rintro e w' ⟨rfl, hq⟩
  go_wp2
  go_ret
  exact ⟨rfl, hq⟩



end Go.Proofs.Ytmnmlhbmhfhgaaa.Ref1
