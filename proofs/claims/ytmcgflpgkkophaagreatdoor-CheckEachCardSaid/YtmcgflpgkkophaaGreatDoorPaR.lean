/- What a parser answers, in memory. Conditions: none. -/
import Derived.Test.YtmcgflpgkkophaaGreatDoorPaI
import Derived.Test.YtmcgflpgkkophaaGreatDoorTrRu
namespace Go.Proofs.YtmcgflpgkkophaaGreatDoor.Pa
set_option linter.unusedVariables false
open Go.ChangeShapes Go.WideShapes Go.ChangeAt Go.RowKit
open Tr (Rus)
/-- Rules, a line and an error's number. -/
def RetRules (x : List RuleP × Int × Int) (w : World) (e : Ending) (w' : World) : Prop :=
  ∃ A c, e = .returned (.tuple #[.slice A x.1.length c, .int .i64 x.2.1, .int .i64 x.2.2]) ∧ Rus w' A x.1 ∧ Keep w w'
end Go.Proofs.YtmcgflpgkkophaaGreatDoor.Pa
