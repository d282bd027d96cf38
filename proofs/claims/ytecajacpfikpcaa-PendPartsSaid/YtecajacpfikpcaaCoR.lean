/- Layer 5's reference: each function answers what the plain words of CoA say. Conditions: lengths at most a million. -/
import Derived.Test.YtecajacpfikpcaaRows
import Derived.Test.YtecajacpfikpcaaCoA
import Derived.RegionTactic
import Derived.BigRegion
namespace Go.Proofs.Ytecajacpfikpcaa.Ref5
set_option maxRecDepth 100000
open Go.ChangeShapes Go.WideShapes Go.ChangeAt Go.RowKit

theorem info_uint8 : (Try.prog.info? 5).map (fun i => (i.zero, i.size, i.bytes)) = some (some (.int .u8 0), 1, 1) := by kernel_rfl
theorem info_int : (Try.prog.info? 3).map (fun i => (i.zero, i.size, i.bytes)) = some (some (.int .i64 0), 1, 8) := by kernel_rfl



end Go.Proofs.Ytecajacpfikpcaa.Ref5
