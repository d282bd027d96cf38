/- Layer 18, the code's own contracts. Conditions: a rate that is right, a level from 0 to full. -/
import Derived.Test.YtlndmlgncljghaaBuR
namespace Go.Proofs.Ytlndmlgncljghaa
set_option linter.unusedVariables false
open Go.ChangeShapes Go.WideShapes Go.ChangeAt Go.RowKit
namespace Bucket
open Bu
set_option maxHeartbeats 400000 in
theorem full_any (r : RateB) (w : World) (hr : right r = true) :
    Calls Try.prog 11 #[.agg #[.int .i64 r.num, .int .i64 r.per, .int .i64 r.burst]] w fun e w' => e = .returned (.int .i64 (full r)) ∧ Keep w w' := by
  obtain ⟨h1, h2⟩ := full_range hr
  obtain ⟨_, _, h3, _⟩ := (right_iff r).1 hr
  have hw : wrap64 (r.burst * r.per) = r.burst * r.per := by unfold full at h1 h2; unfold wrap64; omega
  have HW := Lib.hid hw
  unfold full
  clear hr hw
  go_enter Try.func11, Try.ntmps11
  go_wp2
  go_ret
  exact ⟨ret_int HW.out, (Keep.refl w).alloc _⟩
set_option maxHeartbeats 400000 in
theorem take_any (l : Int) (r : RateB) (w : World) (hr : right r = true) (h0 : 0 ≤ l) (h1 : l ≤ full r) :
    Calls Try.prog 9 #[.int .i64 l, .agg #[.int .i64 r.num, .int .i64 r.per, .int .i64 r.burst]] w fun e w' => e = .returned (if l < r.per then .tuple #[.int .i64 l, .bool false] else .tuple #[.int .i64 (l - r.per), .bool true]) ∧ Keep w w' := by
  obtain ⟨_, h2⟩ := full_range hr
  obtain ⟨_, _, h3, h4, _⟩ := (right_iff r).1 hr
  clear hr
  by_cases hl : l < r.per
  · have dl : decide (l < r.per) = true := by simp [hl]
    rw [if_pos hl]
    clear hl
    go_enter Try.func9, Try.ntmps9
    go_wp2
    go_ret2
    exact ⟨rfl, (Keep.refl w).alloc _⟩
  · have dl : decide (l < r.per) = false := by simp [hl]
    rw [if_neg hl]
    go_enter Try.func9, Try.ntmps9
    go_wp2
    go_ret2
    exact ⟨rfl, (Keep.refl w).alloc _⟩
set_option maxHeartbeats 400000 in
theorem tick_any (l : Int) (r : RateB) (w : World) (hr : right r = true) (h0 : 0 ≤ l) (h1 : l ≤ full r) :
    Calls Try.prog 12 #[.int .i64 l, .agg #[.int .i64 r.num, .int .i64 r.per, .int .i64 r.burst]] w fun e w' => e = .returned (.int .i64 (tick l r)) ∧ Keep w w' := by
  obtain ⟨_, h2⟩ := full_range hr
  obtain ⟨h3, h4, _⟩ := (right_iff r).1 hr
  obtain ⟨X, hX⟩ : ∃ X, X = w.alloc (.cells #[.int .i64 r.num, .int .i64 r.per, .int .i64 r.burst] 23) := ⟨_, rfl⟩
  have k0 : Keep w X := by rw [hX]; exact (Keep.refl w).alloc _
  have B0 : Bx w.heap.size r X := by rw [hX]; exact Bx.new w r _
  have hc : ∀ p : KeptOf X, Bx w.heap.size r p.w := fun p => B0.kept p.h
  have hc0 := fun p => (hc p).1.1
  have hc1 := fun p => (hc p).1.2.1
  have hc2 := fun p => (hc p).1.2.2
  have hR : ∀ p : KeptOf X, Calls Try.prog 11 #[.agg #[.int .i64 r.num, .int .i64 r.per, .int .i64 r.burst]] p.w fun e w' => e = .returned (.int .i64 (full r)) ∧ Keep p.w w' := fun p => full_any r p.w hr
  have HT := Lib.hid (show tick l r = if l + r.num ≤ full r then l + r.num else full r from rfl)
  clear hr hc B0
  go_enter Try.func12, Try.ntmps12
  go_wp2_with fail
  rw [← hX]
  refine wp_region_kept (by kernel_rfl) (by kernel_rfl) ?_
  repeat (go_big_quiet_step (first | with_reducible exact KeptOf.of (hR _)))
  refine Go.wpQuiet_nil ?_
  intro _ hw'
  obtain ⟨⟨W, hw⟩, hw''⟩ := hw'
  subst hw''
  go_wp2
  all_goals (
    go_ret
    exact ⟨ret_int (by rw [HT.out]; split <;> omega), k0.trans hw⟩)
end Bucket
end Go.Proofs.Ytlndmlgncljghaa
