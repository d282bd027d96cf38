/- Layer 1's reference: each function answers what the plain words of TwA say. Conditions: lengths at most a million. -/
import Derived.Test.YtdgnmoebahaaeaaRows
import Derived.Test.YtdgnmoebahaaeaaTwA
namespace Go.Proofs.Ytdgnmoebahaaeaa.Ref1
open Go.ChangeShapes Go.WideShapes Go.ChangeAt Go.RowKit

theorem info_int : (Try.prog.info? 3).map (fun i => (i.zero, i.size, i.bytes)) = some (some (.int .i64 0), 1, 8) := by kernel_rfl




set_option maxHeartbeats 400000 in
theorem get_any (s : ByteArray) (i : Int) (w : World) (hs : s.size ≤ maxLen) :
    Calls Try.prog 31 #[.string s, .int .i64 i] w fun e w' => e = .returned (.tuple #[.int .i64 (Tw.get s i), .bool (Tw.getOk s i)]) ∧ Quiet w w' := by
  unfold maxLen at hs
  by_cases h0 : i < 0
  · have e : Tw.getOk s i = false := by simp [Tw.getOk]; omega
    go_enter Try.func31, Try.ntmps31
    go_wp2
    go_ret2
    rw [Tw.get, e]
    exact ⟨rfl, Quiet.refl _⟩
  · by_cases h1 : (s.size : Int) ≤ i
    · have e : Tw.getOk s i = false := by simp [Tw.getOk]; omega
      go_enter Try.func31, Try.ntmps31
      go_wp2
      go_ret2
      rw [Tw.get, e]
      exact ⟨rfl, Quiet.refl _⟩
    · by_cases h2 : (s.size : Int) - i < 2
      · have e : Tw.getOk s i = false := by simp [Tw.getOk]; omega
        go_enter Try.func31, Try.ntmps31
        go_wp2
        go_ret2
        rw [Tw.get, e]
        exact ⟨rfl, Quiet.refl _⟩
      · have e : Tw.getOk s i = true := by simp [Tw.getOk]; omega
        have HE := Lib.hid e
        clear e
        have hx1 := idx (P := Try.prog) (k := .i64) s i Try.underlying9 (by omega) (by omega)
        have hx2 := idx (P := Try.prog) (k := .i64) s (i+1) Try.underlying9 (by omega) (by omega)
        have hr1 := byteAt_range s i
        have hr2 := byteAt_range s (i+1)
        go_enter Try.func31, Try.ntmps31
        go_wp2
        go_quiet (fail)
        go_wp2
        go_ret2
        rw [Tw.get, HE.out, Tw.num, Int.mul_comm (byteAt s i)]
        exact ⟨rfl, _, rfl⟩

set_option maxHeartbeats 400000 in
theorem at_any (s : ByteArray) (i : Int) (w : World) (hs : s.size ≤ maxLen) :
    Calls Try.prog 29 #[.string s, .int .i64 i] w fun e w' => e = .returned (.int .i64 (Tw.get s i)) ∧ Quiet w w' := by
  go_enter Try.func29, Try.ntmps29
  go_wp2_with fail
  refine (get_any s i _ hs).mono ?_
  rintro e w' ⟨rfl, hq⟩
  go_wp2
  go_ret
  exact ⟨rfl, hq⟩



end Go.Proofs.Ytdgnmoebahaaeaa.Ref1
