/- Layer 4 (span): the small functions answer what the plain words of SpA say. Conditions: ends fit 64 bits. -/
import Derived.Test.YtffojilbhpefbaaRows
import Derived.Test.YtffojilbhpefbaaRow
import Derived.Test.YtffojilbhpefbaaSpA
import Derived.IntWalk
namespace Go.Proofs.Ytffojilbhpefbaa.Span
open Go.ChangeShapes Go.WideShapes Go.ChangeAt Go.RowKit

/-- A range whose ends fit. -/
def Fit (r : Int × Int) : Prop := (-9223372036854775808 ≤ r.1 ∧ r.1 ≤ 9223372036854775807) ∧ (-9223372036854775808 ≤ r.2 ∧ r.2 ≤ 9223372036854775807)



end Go.Proofs.Ytffojilbhpefbaa.Span
