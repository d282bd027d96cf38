/- Package math's few functions that the seat calls: each answers what the plain words of FpC say. Conditions: none. -/
import Derived.Test.YtffojilbhpefbaaChecked
import Derived.Test.YtffojilbhpefbaaReA
import Derived.Tactics
import Derived.Tactics2
import Derived.StillTactics
import Derived.WalkLawsBesides
import Derived.Laws.Externs
import Derived.KernelRfl
namespace Go.Proofs.Ytffojilbhpefbaa.Re
open Go.Proofs.Ytffojilbhpefbaa.Fp Go.ChangeShapes Go.WideShapes Go.ChangeAt Go.RowKit

theorem call_bits (b : Nat) (w : World) : (callFunc 93 #[.float .f64 b]).run Try.prog w = .ok (.value (.int .u64 b)) w := by
  rw [run_callFunc_extern (e := Extern.MathFloatBits.float64bits) Try.func93 (by kernel_rfl) (by kernel_rfl) (by kernel_rfl) (by kernel_rfl)]
  rfl
theorem call_from (b : Nat) (w : World) : (callFunc 92 #[.int .u64 (b : Int)]).run Try.prog w = .ok (.value (.float .f64 b)) w := by
  rw [run_callFunc_extern (e := Extern.MathFloatBits.float64frombits) Try.func92 (by kernel_rfl) (by kernel_rfl) (by kernel_rfl) (by kernel_rfl)]
  rfl
end Go.Proofs.Ytffojilbhpefbaa.Re
