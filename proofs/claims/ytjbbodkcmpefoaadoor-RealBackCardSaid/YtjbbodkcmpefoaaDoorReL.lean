/- Layer 3's laws: each answers true. Conditions: none. -/
import Derived.Test.YtjbbodkcmpefoaaDoorReR3
import Derived.Test.YtjbbodkcmpefoaaDoorTw2
import Derived.Test.YtjbbodkcmpefoaaDoorOpen
namespace Go.Proofs.YtjbbodkcmpefoaaDoor.Real
set_option linter.unusedVariables false
open Go.Proofs.YtjbbodkcmpefoaaDoor.Fp Go.Proofs.YtjbbodkcmpefoaaDoor.Re Go.ChangeShapes Go.WideShapes Go.ChangeAt Go.RowKit

theorem ofB_one : ofB [16368, 0, 0, 0] = 4607182418800017408 := by decide
theorem ofB_neg : ofB [32768, 0, 0, 0] = 9223372036854775808 := by decide
theorem ofB_nan : ofB [32760, 0, 0, 0] = 9221120237041090560 := by decide
set_option maxHeartbeats 1000000 in
theorem awake_any (w : World) : Calls Tryd.prog 5 #[] w fun e w' => e = .returned (.bool true) ∧ Keep w w' := by
  have h1 : (FloatKind.f64.format.order 4607182418800017408 4607182418800017408 == some Ordering.eq) = true := by decide
  have h2 : (FloatKind.f64.format.order 9223372036854775808 0 == some Ordering.eq) = true := by decide
  have h3 : (FloatKind.f64.format.order 18442240474082181120 0 == some Ordering.lt) = true := by decide
  have h4 : (FloatKind.f64.format.order 9221120237041090560 9221120237041090560 != some Ordering.eq) = true := by decide
  have h5 : withB 9221120237041090560 9221120237041090560 9221120237041090560 = false := by decide
  have h6 : withB 9223372036854775808 0 0 = true := by decide
  have h7 : sameB 9223372036854775808 0 = false := by decide
  have hq : ∀ t w, (binOp .quo t (.float .f64 4607182418800017408) (.float .f64 9223372036854775808)).run Tryd.prog w = .ok (.float .f64 18442240474082181120) w := fun t w => run_float_arith w .quo t .f64 _ _ _ (by decide)
  go_enter Tryd.func5, Tryd.ntmps5
  go_wp2_with fail
  refine (Re.of_any _ 4 4 [16368, 0, 0, 0] _ (by simpa using Ints.new .i64 w 3 [16368, 0, 0, 0] #[.int .i64 16368, .int .i64 0, .int .i64 0, .int .i64 0] rfl)).mono ?_
  rintro e w1 ⟨rfl, rfl⟩
  rw [ofB_one, show okL [16368, 0, 0, 0] = true from by decide]
  obtain ⟨w0, hw0⟩ : ∃ w0, w0 = w.alloc (.cells #[.int .i64 16368, .int .i64 0, .int .i64 0, .int .i64 0] 3) := ⟨_, rfl⟩
  rw [← hw0]
  have hK0 : Keep w w0 := by rw [hw0]; exact (Keep.refl w).alloc _
  clear hw0
  go_wp2_with fail
  refine (Re.of_any _ 4 4 [32768, 0, 0, 0] _ (by simpa using Ints.new .i64 w0 3 [32768, 0, 0, 0] #[.int .i64 32768, .int .i64 0, .int .i64 0, .int .i64 0] rfl)).mono ?_
  rintro e w1 ⟨rfl, rfl⟩
  rw [ofB_neg, show okL [32768, 0, 0, 0] = true from by decide]
  obtain ⟨w2, hw2⟩ : ∃ w2, w2 = w0.alloc (.cells #[.int .i64 32768, .int .i64 0, .int .i64 0, .int .i64 0] 3) := ⟨_, rfl⟩
  rw [← hw2]
  have hK2 : Keep w w2 := by rw [hw2]; exact hK0.alloc _
  clear hw2 hK0
  go_wp2_with fail
  refine (Re.of_any _ 4 4 [32760, 0, 0, 0] _ (by simpa using Ints.new .i64 w2 3 [32760, 0, 0, 0] #[.int .i64 32760, .int .i64 0, .int .i64 0, .int .i64 0] rfl)).mono ?_
  rintro e w1 ⟨rfl, rfl⟩
  rw [ofB_nan, show okL [32760, 0, 0, 0] = true from by decide]
  obtain ⟨w3, hw3⟩ : ∃ w3, w3 = w2.alloc (.cells #[.int .i64 32760, .int .i64 0, .int .i64 0, .int .i64 0] 3) := ⟨_, rfl⟩
  rw [← hw3]
  have hK3 : Keep w w3 := by rw [hw3]; exact hK2.alloc _
  clear hw3 hK2
  go_wp2_with fail
  refine (Re.within_any _ _ _ _).mono ?_
  rintro e w1 ⟨rfl, rfl⟩
  go_wp2_with fail
  refine (Re.within_any _ _ _ _).mono ?_
  rintro e w1 ⟨rfl, rfl⟩
  go_wp2_with fail
  refine (Re.same_any _ _ (by decide) (by decide) _).mono ?_
  rintro e w1 ⟨rfl, rfl⟩
  go_wp2
  go_ret
  exact ⟨rfl, hK3⟩

theorem leB_fl {s t : Bool} {v w : Nat} (hv : Ex v) (hw : Ex w) : leB (fl s v) (fl t w) = decide (sg s v ≤ sg t w) := le_fl hv hw
theorem leB_l {a b : Nat} (h : IsN a) : leB a b = false := by unfold leB; rw [order_nan_l h]; rfl
theorem leB_r {a b : Nat} (h : IsN b) : leB a b = false := by unfold leB; rw [order_nan_r h]; rfl

end Go.Proofs.YtjbbodkcmpefoaaDoor.Real
