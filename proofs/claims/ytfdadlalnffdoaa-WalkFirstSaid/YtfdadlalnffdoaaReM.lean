/- Package math's few functions that the seat calls: each answers what the plain words of FpC say. Conditions: none. -/
import Derived.Test.YtfdadlalnffdoaaChecked
import Derived.Test.YtfdadlalnffdoaaReA
import Derived.Tactics
import Derived.Tactics2
import Derived.StillTactics
import Derived.WalkLawsBesides
import Derived.Laws.Externs
import Derived.KernelRfl
namespace Go.Proofs.Ytfdadlalnffdoaa.Re
open Go.Proofs.Ytfdadlalnffdoaa.Fp Go.ChangeShapes Go.WideShapes Go.ChangeAt Go.RowKit

theorem call_from (b : Nat) (w : World) : (callFunc 86 #[.int .u64 (b : Int)]).run Try.prog w = .ok (.value (.float .f64 b)) w := by
  rw [run_callFunc_extern (e := Extern.MathFloatBits.float64frombits) Try.func86 (by kernel_rfl) (by kernel_rfl) (by kernel_rfl) (by kernel_rfl)]
  rfl
end Go.Proofs.Ytfdadlalnffdoaa.Re
