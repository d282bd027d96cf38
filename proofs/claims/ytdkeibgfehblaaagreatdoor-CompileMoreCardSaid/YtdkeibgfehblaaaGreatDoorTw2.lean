/- Layer 1's reference: each function answers what the plain words of TwA say. Conditions: lengths at most a million. -/
import Derived.Test.YtdkeibgfehblaaaGreatDoorRows
import Derived.Test.YtdkeibgfehblaaaGreatDoorTwA
namespace Go.Proofs.YtdkeibgfehblaaaGreatDoor.Ref1
open Go.ChangeShapes Go.WideShapes Go.ChangeAt Go.RowKit

theorem info_int : (Tryz.prog.info? 3).map (fun i => (i.zero, i.size, i.bytes)) = some (some (.int .i64 0), 1, 8) := by kernel_rfl








end Go.Proofs.YtdkeibgfehblaaaGreatDoor.Ref1
