/- Layer 3's texts: each function answers what the plain words of ReU say. Conditions: the library's table of powers of ten lies as its initialiser lays it. -/
import Derived.Test.YtfdadlalnffdoaaReT
namespace Go.Proofs.Ytfdadlalnffdoaa.Re
set_option linter.unusedVariables false
open Go.Proofs.Ytfdadlalnffdoaa.Fp Go.ChangeShapes Go.WideShapes Go.ChangeAt Go.RowKit

theorem inf_string : st infL = ⟨#[105, 110, 102]⟩ := rfl
theorem nan_string : st [] = ⟨#[]⟩ := rfl


end Go.Proofs.Ytfdadlalnffdoaa.Re
