/- Package math's few functions that the seat calls: each answers what the plain words of FpC say. Conditions: none. -/
import Derived.Test.YtmcgflpgkkophaaGreatDoorChecked
import Derived.Test.YtmcgflpgkkophaaGreatDoorReA
import Derived.Tactics
import Derived.Tactics2
import Derived.StillTactics
import Derived.WalkLawsBesides
import Derived.Laws.Externs
import Derived.KernelRfl
namespace Go.Proofs.YtmcgflpgkkophaaGreatDoor.Re
open Go.Proofs.YtmcgflpgkkophaaGreatDoor.Fp Go.ChangeShapes Go.WideShapes Go.ChangeAt Go.RowKit

theorem call_bits (b : Nat) (w : World) : (callFunc 127 #[.float .f64 b]).run Tryz.prog w = .ok (.value (.int .u64 b)) w := by
  rw [run_callFunc_extern (e := Extern.MathFloatBits.float64bits) Tryz.func127 (by kernel_rfl) (by kernel_rfl) (by kernel_rfl) (by kernel_rfl)]
  rfl
theorem call_from (b : Nat) (w : World) : (callFunc 130 #[.int .u64 (b : Int)]).run Tryz.prog w = .ok (.value (.float .f64 b)) w := by
  rw [run_callFunc_extern (e := Extern.MathFloatBits.float64frombits) Tryz.func130 (by kernel_rfl) (by kernel_rfl) (by kernel_rfl) (by kernel_rfl)]
  rfl
theorem isNaN_any (b : Nat) (w : World) : Calls Tryz.prog 118 #[.float .f64 b] w fun e w' => e = .returned (.bool (nanB b)) ∧ w = w' := by
  have e : (FloatKind.f64.format.order b b != some Ordering.eq) = nanB b := rfl
  go_enter Tryz.func118, Tryz.ntmps118
  go_wp2
  go_ret
  exact ⟨rfl, rfl⟩
theorem signbit_any (b : Nat) (hb : b < 18446744073709551616) (w : World) : Calls Tryz.prog 119 #[.float .f64 b] w fun e w' => e = .returned (.bool (signB b)) ∧ w = w' := by
  have hc := call_bits b
  have hs := wrap_sign b hb
  go_enter Tryz.func119, Tryz.ntmps119
  go_wp2
  go_ret
  exact ⟨by rw [← hs]; rfl, rfl⟩
end Go.Proofs.YtmcgflpgkkophaaGreatDoor.Re
