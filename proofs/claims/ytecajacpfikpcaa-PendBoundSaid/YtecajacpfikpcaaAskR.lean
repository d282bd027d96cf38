/- Layer 6's reference: each function answers what the plain words of AskA say. Conditions: lengths at most a million. -/
import Derived.Test.YtecajacpfikpcaaRows
import Derived.Test.YtecajacpfikpcaaAskA
import Derived.Test.YtecajacpfikpcaaTw2
import Derived.Test.YtecajacpfikpcaaCoR
namespace Go.Proofs.Ytecajacpfikpcaa.Ref6
set_option linter.unusedVariables false
open Go.ChangeShapes Go.WideShapes Go.ChangeAt Go.RowKit

theorem ret_bool {b c : Bool} (h : b = c) : Ending.returned (.bool b) = Ending.returned (.bool c) := by rw [h]
theorem ret_int {b c : Int} (h : b = c) : Ending.returned (.int .i64 b) = Ending.returned (.int .i64 c) := by rw [h]
theorem ret_ints3 {a b c d e f : Int} (h1 : a = d) (h2 : b = e) (h3 : c = f) : Ending.returned (.tuple #[.int .i64 a, .int .i64 b, .int .i64 c]) = Ending.returned (.tuple #[.int .i64 d, .int .i64 e, .int .i64 f]) := by rw [h1, h2, h3]



end Go.Proofs.Ytecajacpfikpcaa.Ref6
