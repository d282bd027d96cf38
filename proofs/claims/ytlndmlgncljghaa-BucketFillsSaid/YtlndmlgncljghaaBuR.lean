/- Layer 18: plain words of a rate and its level, and the reference's contracts. Conditions: a rate that is right, a level from 0 to full, where said. -/
import Derived.Test.YtlndmlgncljghaaRows
import Derived.Test.YtlndmlgncljghaaKept
import Derived.Test.YtlndmlgncljghaaOpen
namespace Go.Proofs.Ytlndmlgncljghaa
set_option linter.unusedVariables false
open Go.ChangeShapes Go.WideShapes Go.ChangeAt Go.RowKit

/-- A rate. -/
structure RateB where
  num : Int
  per : Int
  burst : Int
namespace Bu
def right (r : RateB) : Bool := decide (1 ≤ r.num) && decide (r.num ≤ 1048576) && decide (1 ≤ r.per) && decide (r.per ≤ 1048576) && decide (1 ≤ r.burst) && decide (r.burst ≤ 1048576)
def full (r : RateB) : Int := r.burst * r.per
def tick (l : Int) (r : RateB) : Int := if l + r.num ≤ full r then l + r.num else full r
theorem right_iff (r : RateB) : right r = true ↔ 1 ≤ r.num ∧ r.num ≤ 1048576 ∧ 1 ≤ r.per ∧ r.per ≤ 1048576 ∧ 1 ≤ r.burst ∧ r.burst ≤ 1048576 := by
  unfold right; simp [Bool.and_eq_true, and_assoc]
theorem full_range {r : RateB} (h : right r = true) : r.per ≤ full r ∧ full r ≤ 1099511627776 := by
  obtain ⟨_, _, h1, h2, h3, h4⟩ := (right_iff r).1 h
  unfold full
  constructor
  · calc r.per = 1 * r.per := (Int.one_mul _).symm
      _ ≤ r.burst * r.per := Int.mul_le_mul_of_nonneg_right h3 (by omega)
  · calc r.burst * r.per ≤ 1048576 * r.per := Int.mul_le_mul_of_nonneg_right h4 (by omega)
      _ ≤ 1048576 * 1048576 := Int.mul_le_mul_of_nonneg_left h2 (by omega)
theorem tick_range {l : Int} {r : RateB} (h : right r = true) (h0 : 0 ≤ l) (h1 : l ≤ full r) : l ≤ tick l r ∧ tick l r ≤ full r := by
  obtain ⟨_, _, _⟩ := (right_iff r).1 h
  unfold tick; split <;> omega
/-- The three cells of a rate in a box that is there. -/
def Bx (p : Nat) (r : RateB) (w : World) : Prop := (w.cell? ⟨p, 0, none⟩ = some (.int .i64 r.num) ∧ w.cell? ⟨p, 1, none⟩ = some (.int .i64 r.per) ∧ w.cell? ⟨p, 2, none⟩ = some (.int .i64 r.burst)) ∧ p < w.heap.size
theorem Bx.new (w : World) (r : RateB) (e : TypeId) : Bx w.heap.size r (w.alloc (.cells #[.int .i64 r.num, .int .i64 r.per, .int .i64 r.burst] e)) := by
  have hc : ∀ j v, (#[Value.int .i64 r.num, .int .i64 r.per, .int .i64 r.burst] : Array Value)[j]? = some v → (w.alloc (.cells #[.int .i64 r.num, .int .i64 r.per, .int .i64 r.burst] e)).cell? ⟨w.heap.size, j, none⟩ = some v := fun j v hj => by
    rw [World.cell?_alloc_at (hn := rfl), hj]
  exact ⟨⟨hc 0 _ rfl, hc 1 _ rfl, hc 2 _ rfl⟩, by simp⟩
theorem Bx.kept {p : Nat} {r : RateB} {w w' : World} (h : Bx p r w) (hk : Keep w w') : Bx p r w' := by
  obtain ⟨⟨h0, h1, h2⟩, hp⟩ := h
  refine ⟨⟨?_, ?_, ?_⟩, Nat.lt_of_lt_of_le hp hk.size⟩ <;> (rw [Below.cell hk hp]; assumption)
theorem ret_bool {b c : Bool} (h : b = c) : Ending.returned (.bool b) = Ending.returned (.bool c) := by rw [h]
theorem ret_int {a b : Int} (h : a = b) : Ending.returned (.int .i64 a) = Ending.returned (.int .i64 b) := by rw [h]
end Bu
namespace Ref18
open Bu
set_option maxHeartbeats 400000 in
theorem right_any (r : RateB) (w : World) :
    Calls Try.prog 6 #[.agg #[.int .i64 r.num, .int .i64 r.per, .int .i64 r.burst]] w fun e w' => e = .returned (.bool (right r)) ∧ Keep w w' := by
  obtain ⟨a, b, c⟩ := r
  simp only
  go_enter Try.func6, Try.ntmps6
  go_wp2
  all_goals (go_ret; refine ⟨ret_bool ?_, (Keep.refl w).alloc _⟩; rw [Bool.eq_iff_iff, right_iff]; simp <;> omega)
set_option maxHeartbeats 400000 in
theorem full_any (r : RateB) (w : World) (hr : right r = true) :
    Calls Try.prog 7 #[.agg #[.int .i64 r.num, .int .i64 r.per, .int .i64 r.burst]] w fun e w' => e = .returned (.int .i64 (full r)) ∧ Keep w w' := by
  obtain ⟨h1, h2⟩ := full_range hr
  obtain ⟨_, _, h3, _⟩ := (right_iff r).1 hr
  have hw : wrap64 (r.burst * r.per) = r.burst * r.per := by unfold full at h1 h2; unfold wrap64; omega
  have HW := Lib.hid hw
  unfold full
  clear hr hw
  go_enter Try.func7, Try.ntmps7
  go_wp2
  go_ret
  exact ⟨ret_int HW.out, (Keep.refl w).alloc _⟩
set_option maxHeartbeats 400000 in
theorem take_any (l : Int) (r : RateB) (w : World) (hr : right r = true) (h0 : 0 ≤ l) (h1 : l ≤ full r) :
    Calls Try.prog 10 #[.int .i64 l, .agg #[.int .i64 r.num, .int .i64 r.per, .int .i64 r.burst]] w fun e w' => e = .returned (if l < r.per then .tuple #[.int .i64 l, .bool false] else .tuple #[.int .i64 (l - r.per), .bool true]) ∧ Keep w w' := by
  obtain ⟨_, h2⟩ := full_range hr
  obtain ⟨_, _, h3, h4, _⟩ := (right_iff r).1 hr
  clear hr
  by_cases hl : l < r.per
  · have dl : decide (l < r.per) = true := by simp [hl]
    rw [if_pos hl]
    clear hl
    go_enter Try.func10, Try.ntmps10
    go_wp2
    go_ret2
    exact ⟨rfl, (Keep.refl w).alloc _⟩
  · have dl : decide (l < r.per) = false := by simp [hl]
    rw [if_neg hl]
    go_enter Try.func10, Try.ntmps10
    go_wp2
    go_ret2
    exact ⟨rfl, (Keep.refl w).alloc _⟩
set_option maxHeartbeats 400000 in
theorem tick_any (l : Int) (r : RateB) (w : World) (hr : right r = true) (h0 : 0 ≤ l) (h1 : l ≤ full r) :
    Calls Try.prog 13 #[.int .i64 l, .agg #[.int .i64 r.num, .int .i64 r.per, .int .i64 r.burst]] w fun e w' => e = .returned (.int .i64 (tick l r)) ∧ Keep w w' := by
  obtain ⟨_, h2⟩ := full_range hr
  obtain ⟨h3, h4, _⟩ := (right_iff r).1 hr
  obtain ⟨X, hX⟩ : ∃ X, X = w.alloc (.cells #[.int .i64 r.num, .int .i64 r.per, .int .i64 r.burst] 23) := ⟨_, rfl⟩
  have k0 : Keep w X := by rw [hX]; exact (Keep.refl w).alloc _
  have B0 : Bx w.heap.size r X := by rw [hX]; exact Bx.new w r _
  have hc : ∀ p : KeptOf X, Bx w.heap.size r p.w := fun p => B0.kept p.h
  have hc0 := fun p => (hc p).1.1
  have hc1 := fun p => (hc p).1.2.1
  have hc2 := fun p => (hc p).1.2.2
  have hR : ∀ p : KeptOf X, Calls Try.prog 7 #[.agg #[.int .i64 r.num, .int .i64 r.per, .int .i64 r.burst]] p.w fun e w' => e = .returned (.int .i64 (full r)) ∧ Keep p.w w' := fun p => full_any r p.w hr
  have HT := Lib.hid (show tick l r = if l + r.num ≤ full r then l + r.num else full r from rfl)
  clear hr hc B0
  go_enter Try.func13, Try.ntmps13
  go_wp2_with fail
  rw [← hX]
  refine wp_region_kept (by kernel_rfl) (by kernel_rfl) ?_
  repeat (go_big_quiet_step (first | with_reducible exact KeptOf.of (hR _)))
  refine Go.wpQuiet_nil ?_
  intro _ hw'
  obtain ⟨⟨W, hw⟩, hw''⟩ := hw'
  subst hw''
  go_wp2
  all_goals (
    go_ret
    exact ⟨ret_int (by rw [HT.out]; split <;> omega), k0.trans hw⟩)
end Ref18
end Go.Proofs.Ytlndmlgncljghaa
