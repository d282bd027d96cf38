/- Of these texts: ReL. Conditions: as each part says. -/
import Derived.Test.YtaciogcpghbhjaaGreatZTReM
import Derived.Test.YtaciogcpghbhjaaGreatZTTw2
import Derived.Test.YtaciogcpghbhjaaGreatZTOpen
/- Layer 3's laws: each answers true. Conditions: none. -/
namespace Go.Proofs.YtaciogcpghbhjaaGreat.Real
set_option linter.unusedVariables false
open Go.Proofs.YtaciogcpghbhjaaGreat.Fp Go.Proofs.YtaciogcpghbhjaaGreat.Re Go.ChangeShapes Go.WideShapes Go.ChangeAt Go.RowKit
end Go.Proofs.YtaciogcpghbhjaaGreat.Real
