/- Package math's few functions that the seat calls: each answers what the plain words of FpC say. Conditions: none. -/
import Derived.Test.YtjbbodkcmpefoaaDoorChecked
import Derived.Test.YtjbbodkcmpefoaaDoorReA
import Derived.Tactics
import Derived.Tactics2
import Derived.StillTactics
import Derived.WalkLawsBesides
import Derived.Laws.Externs
import Derived.KernelRfl
namespace Go.Proofs.YtjbbodkcmpefoaaDoor.Re
open Go.Proofs.YtjbbodkcmpefoaaDoor.Fp Go.ChangeShapes Go.WideShapes Go.ChangeAt Go.RowKit

theorem call_bits (b : Nat) (w : World) : (callFunc 32 #[.float .f64 b]).run Tryd.prog w = .ok (.value (.int .u64 b)) w := by
  rw [run_callFunc_extern (e := Extern.MathFloatBits.float64bits) Tryd.func32 (by kernel_rfl) (by kernel_rfl) (by kernel_rfl) (by kernel_rfl)]
  rfl
theorem call_from (b : Nat) (w : World) : (callFunc 26 #[.int .u64 (b : Int)]).run Tryd.prog w = .ok (.value (.float .f64 b)) w := by
  rw [run_callFunc_extern (e := Extern.MathFloatBits.float64frombits) Tryd.func26 (by kernel_rfl) (by kernel_rfl) (by kernel_rfl) (by kernel_rfl)]
  rfl
theorem isNaN_any (b : Nat) (w : World) : Calls Tryd.prog 28 #[.float .f64 b] w fun e w' => e = .returned (.bool (nanB b)) ∧ w = w' := by
  have e : (FloatKind.f64.format.order b b != some Ordering.eq) = nanB b := rfl
  go_enter Tryd.func28, Tryd.ntmps28
  go_wp2
  go_ret
  exact ⟨rfl, rfl⟩
theorem signbit_any (b : Nat) (hb : b < 18446744073709551616) (w : World) : Calls Tryd.prog 18 #[.float .f64 b] w fun e w' => e = .returned (.bool (signB b)) ∧ w = w' := by
  have hc := call_bits b
  have hs := wrap_sign b hb
  go_enter Tryd.func18, Tryd.ntmps18
  go_wp2
  go_ret
  exact ⟨by rw [← hs]; rfl, rfl⟩
end Go.Proofs.YtjbbodkcmpefoaaDoor.Re
