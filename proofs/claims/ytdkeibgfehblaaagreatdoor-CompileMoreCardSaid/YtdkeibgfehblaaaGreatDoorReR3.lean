/- Layer 3's reference: the four numbers of a float. Conditions: none. -/
import Derived.Test.YtdkeibgfehblaaaGreatDoorReR
namespace Go.Proofs.YtdkeibgfehblaaaGreatDoor.Ref3
open Go.Proofs.YtdkeibgfehblaaaGreatDoor.Fp Go.Proofs.YtdkeibgfehblaaaGreatDoor.Re Go.ChangeShapes Go.WideShapes Go.ChangeAt Go.RowKit

def Reg1Rel (v : Nat) (w : World) (x i : Value) (wr : World) : Prop :=
  ∃ X e : Nat, x = .float .f64 (fl false X) ∧ i = .int .i64 (e : Int) ∧ wr = w ∧ 1 ≤ e ∧ e ≤ 1075 ∧ Ex X ∧ X < top ∧ X * 2 ^ e = v * 2 ^ (1 + eU) ∧ (e = 1075 ∨ X < t53)
def Reg2Rel (v : Nat) (w : World) (x i : Value) (wr : World) : Prop :=
  ∃ X e : Nat, x = .float .f64 (fl false X) ∧ i = .int .i64 (e : Int) ∧ wr = w ∧ 1 ≤ e ∧ e ≤ 2100 ∧ Ex X ∧ X < top ∧ X * 2 ^ e = v * 2 ^ (1 + eU) ∧ (X = 0 ∨ t52 ≤ X ∨ e = 1)
end Go.Proofs.YtdkeibgfehblaaaGreatDoor.Ref3
