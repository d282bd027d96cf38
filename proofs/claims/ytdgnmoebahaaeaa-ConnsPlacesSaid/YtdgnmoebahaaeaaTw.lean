import Derived.Test.YtdgnmoebahaaeaaRows
import Derived.Test.YtdgnmoebahaaeaaTwA
namespace Go.Proofs.Ytdgnmoebahaaeaa.Twin
set_option maxRecDepth 100000
open Go.ChangeShapes Go.WideShapes Go.ChangeAt Go.RowKit

theorem info_uint8 : (Try.prog.info? 5).map (fun i => (i.zero, i.size, i.bytes)) = some (some (.int .u8 0), 1, 1) := by kernel_rfl
theorem info_int : (Try.prog.info? 3).map (fun i => (i.zero, i.size, i.bytes)) = some (some (.int .i64 0), 1, 8) := by kernel_rfl


set_option maxHeartbeats 400000 in
theorem number_any (s : ByteArray) (i : Int) (w : World) (hs : s.size ≤ maxLen) (h0 : 0 ≤ i) (h1 : i + 1 < s.size) :
    Calls Try.prog 32 #[.string s, .int .i64 i] w fun e w' => e = .returned (.int .i64 (Tw.num s i)) ∧ Quiet w w' := by
  unfold maxLen at hs
  have hx1 := idx (P := Try.prog) (k := .i64) s i Try.underlying9 h0 (by omega)
  have hx2 := idx (P := Try.prog) (k := .i64) s (i+1) Try.underlying9 (by omega) h1
  have hr1 := byteAt_range s i
  have hr2 := byteAt_range s (i+1)
  go_enter Try.func32, Try.ntmps32
  go_wp2
  go_quiet (fail)
  go_wp2
  go_ret
  rw [Tw.or_num _ _ hr1 hr2]
  exact ⟨rfl, _, rfl⟩

set_option maxHeartbeats 400000 in
theorem get_any (s : ByteArray) (i : Int) (w : World) (hs : s.size ≤ maxLen) :
    Calls Try.prog 30 #[.string s, .int .i64 i] w fun e w' => e = .returned (.tuple #[.int .i64 (Tw.get s i), .bool (Tw.getOk s i)]) ∧ Quiet w w' := by
  have hs' := hs
  unfold maxLen at hs'
  by_cases h0 : i < 0
  · have e : Tw.getOk s i = false := by simp [Tw.getOk]; omega
    go_enter Try.func30, Try.ntmps30
    go_wp2
    go_ret2
    rw [Tw.get, e]
    exact ⟨rfl, Quiet.refl _⟩
  · by_cases h1 : (s.size : Int) - 2 < i
    · have e : Tw.getOk s i = false := by simp [Tw.getOk]; omega
      go_enter Try.func30, Try.ntmps30
      go_wp2
      go_ret2
      rw [Tw.get, e]
      exact ⟨rfl, Quiet.refl _⟩
    · have e : Tw.getOk s i = true := by simp [Tw.getOk]; omega
      have HE := Lib.hid e
      clear e
      go_enter Try.func30, Try.ntmps30
      go_wp2_with fail
      refine (number_any s i _ hs (by omega) (by omega)).mono ?_
      rintro e w' ⟨rfl, hq⟩
      go_wp2
      go_ret2
      rw [Tw.get, HE.out]
      exact ⟨rfl, hq⟩



end Go.Proofs.Ytdgnmoebahaaeaa.Twin
