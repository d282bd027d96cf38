/- slices.Equal and slices.Clone of integers. Conditions: at most a million of them. -/
import Derived.Test.YtijnajlijdnbcaaRows
import Derived.Test.YtijnajlijdnbcaaTwA
import Derived.Test.YtijnajlijdnbcaaRow2
import Derived.Deep.AppendLies
import Derived.Lib.SliceRun
namespace Go.Proofs.Ytijnajlijdnbcaa.EqI
set_option linter.unusedVariables false
open Go.ChangeShapes Go.WideShapes Go.ChangeAt Go.RowKit
theorem info_int : (Try.prog.info? 3).map (fun i => (i.zero, i.size, i.bytes)) = some (some (.int .i64 0), 1, 8) := by kernel_rfl
end Go.Proofs.Ytijnajlijdnbcaa.EqI
