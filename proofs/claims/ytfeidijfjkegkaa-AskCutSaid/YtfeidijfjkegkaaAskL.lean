/- Layer 6's laws: each answers true. Conditions: none beyond the laws' own. -/
import Derived.Test.YtfeidijfjkegkaaAsk
import Derived.Test.YtfeidijfjkegkaaAskV
import Derived.Test.YtfeidijfjkegkaaOpen
namespace Go.Proofs.Ytfeidijfjkegkaa.Ask
set_option linter.unusedVariables false
open Go.ChangeShapes Go.WideShapes Go.ChangeAt Go.RowKit

set_option maxHeartbeats 1000000 in
theorem awake_any (w : World) : Calls Try.prog 7 #[] w fun e w' => e = .returned (.bool true) ∧ Keep w w' := by
  have e1 : Ak.err ⟨#[3, 0, 100, 0, 2]⟩ = 0 := by decide
  have e2 : Ak.get ⟨#[3, 0, 100, 0, 2]⟩ = ⟨3, 100, 2, 0, 0, []⟩ := (Ak.same_iff _ _).1 (by decide)
  have e3 : Ak.err ⟨#[7]⟩ = 2 := by decide
  have e4 : Ak.right ⟨3, 100, 2, 0, 0, []⟩ = true := by decide
  have e5 : st (Ak.put ⟨3, 100, 2, 0, 0, []⟩) = ⟨#[3, 0, 100, 0, 2]⟩ := by rw [show Ak.put ⟨3, 100, 2, 0, 0, []⟩ = [3, 0, 100, 0, 2] from by decide]; rfl
  have g1 := fun W => get_any ⟨#[3, 0, 100, 0, 2]⟩ W (by decide)
  have g2 := fun W => get_any ⟨#[7]⟩ W (by decide)
  rw [e1, e2] at g1
  rw [e3] at g2
  have G1 := Lib.hid g1
  have G2 := Lib.hid g2
  clear g1 g2 e1 e2 e3
  have hp : ∀ A W c, Calls Try.prog 8 #[.agg #[.int .i64 3, .int .i64 100, .int .i64 2, .int .i64 0, .int .i64 0, .slice A 0 c]] W fun e w' => e = .returned (.tuple #[.string ⟨#[3, 0, 100, 0, 2]⟩, .bool true]) ∧ Keep W w' := fun A W c => by
    have h := put_any A 0 c ⟨3, 100, 2, 0, 0, []⟩ W (Nat.zero_le _) (Ints.none_ _ _ _ _)
    rw [e4, e5] at h
    exact h
  have hr : ∀ A W c, Calls Try.prog 14 #[.agg #[.int .i64 3, .int .i64 100, .int .i64 2, .int .i64 0, .int .i64 0, .slice A 0 c]] W fun e w' => e = .returned (.bool true) ∧ Keep W w' := fun A W c => by
    have h := right_any A 0 c ⟨3, 100, 2, 0, 0, []⟩ W (Nat.zero_le _) (Ints.none_ _ _ _ _)
    rw [e4] at h
    exact h
  have HP := Lib.hid hp
  have HR := Lib.hid hr
  clear hp hr e4 e5
  go_enter Try.func7, Try.ntmps7
  go_wp2_with fail
  refine (G1.out _).mono ?_
  rintro e w1 ⟨A, n, c, rfl, hI, hb1, _⟩
  obtain rfl : 0 = n := hI.1
  have hK1 : Keep w w1 := hb1
  clear hb1 hI
  simp only
  go_wp2_with fail
  refine (HP.out A _ c).mono ?_
  rintro e w2 ⟨rfl, hb2⟩
  have bx := (Ref6.Boxed.new w1 ⟨3, 100, 2, 0, 0, []⟩ A 0 c 24).below hb2 (by simp)
  have hlt : w1.heap.size < w2.heap.size := by have := hb2.size; simp at this; omega
  have hK2 := (hK1.alloc (.cells #[.int .i64 3, .int .i64 100, .int .i64 2, .int .i64 0, .int .i64 0, .slice A 0 c] 24)).trans hb2
  clear hb2 hK1
  go_wp2_with fail
  refine (G2.out _).mono ?_
  rintro e w3 ⟨A3, n3, c3, rfl, hI3, hb3, _⟩
  have bx := bx.below hb3 hlt
  have hlt3 : w1.heap.size < w3.heap.size := by have := hb3.size; omega
  have hK3 := hK2.trans hb3
  clear hb3 hK2 hI3
  generalize Ak.get ⟨#[7]⟩ = z at *
  obtain ⟨z0, z1, z2, z3, z4, z5⟩ := z
  simp only
  obtain ⟨c0, c1, c2, c3', c4, c5⟩ := bx
  simp only at c0 c1 c2 c3' c4 c5
  go_wp2_with fail
  refine (HR.out A _ c).mono ?_
  rintro e w4 ⟨rfl, hb4⟩
  have hK4 := (hK3.alloc (.cells #[.int .i64 z0, .int .i64 z1, .int .i64 z2, .int .i64 z3, .int .i64 z4, .slice A3 n3 c3] 24)).trans hb4
  go_wp2_with fail
  refine (known_any 23 _).mono ?_
  rintro e w5 ⟨rfl, hb5⟩
  rw [show Ak.known 23 = true from rfl]
  have hK5 := hK4.trans hb5
  clear hb4 hb5 hK3 hK4
  go_wp2
  go_ret
  exact ⟨rfl, hK5⟩
end Go.Proofs.Ytfeidijfjkegkaa.Ask
