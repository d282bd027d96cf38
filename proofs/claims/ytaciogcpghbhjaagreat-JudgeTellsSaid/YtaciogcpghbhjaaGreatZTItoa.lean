/- Of these texts: Itoa. Conditions: as each part says. -/
import Derived.Test.YtaciogcpghbhjaaGreatRows
import Derived.Test.YtaciogcpghbhjaaGreatZTGuA
import Derived.Shelf.Strconv.Itoa3
import Derived.Lib.LaidTab
/- strconv.Itoa at this program: the shelf's contract at the program's own numbers: a number's decimal digits. Conditions: the library's table of powers of ten reads as its initialiser lays it. -/
namespace Go.Proofs.YtaciogcpghbhjaaGreat
open Go.Shelf Go.RowKit
end Go.Proofs.YtaciogcpghbhjaaGreat
