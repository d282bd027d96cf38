/- Layer 3's laws: each answers true. Conditions: none. -/
import Derived.Test.YtdkeibgfehblaaaGreatDoorReR3
import Derived.Test.YtdkeibgfehblaaaGreatDoorTw2
import Derived.Test.YtdkeibgfehblaaaGreatDoorOpen
namespace Go.Proofs.YtdkeibgfehblaaaGreatDoor.Real
set_option linter.unusedVariables false
open Go.Proofs.YtdkeibgfehblaaaGreatDoor.Fp Go.Proofs.YtdkeibgfehblaaaGreatDoor.Re Go.ChangeShapes Go.WideShapes Go.ChangeAt Go.RowKit

theorem ofB_one : ofB [16368, 0, 0, 0] = 4607182418800017408 := by decide
theorem ofB_neg : ofB [32768, 0, 0, 0] = 9223372036854775808 := by decide
theorem ofB_nan : ofB [32760, 0, 0, 0] = 9221120237041090560 := by decide

theorem leB_fl {s t : Bool} {v w : Nat} (hv : Ex v) (hw : Ex w) : leB (fl s v) (fl t w) = decide (sg s v ≤ sg t w) := le_fl hv hw
theorem leB_l {a b : Nat} (h : IsN a) : leB a b = false := by unfold leB; rw [order_nan_l h]; rfl
theorem leB_r {a b : Nat} (h : IsN b) : leB a b = false := by unfold leB; rw [order_nan_r h]; rfl

end Go.Proofs.YtdkeibgfehblaaaGreatDoor.Real
