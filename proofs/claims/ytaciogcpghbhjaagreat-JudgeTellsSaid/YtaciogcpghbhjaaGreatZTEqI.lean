/- Of these texts: EqI. Conditions: as each part says. -/
import Derived.Test.YtaciogcpghbhjaaGreatRows
import Derived.Test.YtaciogcpghbhjaaGreatZTLib
import Derived.Test.YtaciogcpghbhjaaGreatZTRow2
import Derived.Deep.AppendLies
import Derived.Lib.SliceRun
/- slices.Equal and slices.Clone of integers. Conditions: at most a million of them. -/
namespace Go.Proofs.YtaciogcpghbhjaaGreat.EqI
set_option linter.unusedVariables false
open Go.ChangeShapes Go.WideShapes Go.ChangeAt Go.RowKit
theorem info_int : (Tryz.prog.info? 3).map (fun i => (i.zero, i.size, i.bytes)) = some (some (.int .i64 0), 1, 8) := by kernel_rfl
set_option maxHeartbeats 400000 in
theorem clone_any (A : Option Addr) (n c : Nat) (zs : List Int) (w : World) (hn : n <= 1000000) (hA : Ints .i64 w w.heap.size A n zs) :
  Calls Tryz.prog 32 #[.slice A n c] w fun e w' => ∃ B d, e = .returned (.slice B n d) ∧ w'.ownsRow w.heap.size 3 1 (.slice B n d) n (zs.map (Value.int .i64)) ∧ Keep w w' := by
 rcases A with _ | ad
 ·have h0 : n = 0 := by
   rcases Nat.eq_zero_or_pos n with h | h
   ·exact h
   ·obtain ⟨_, _, e, _⟩ := hA.2 h
    cases e
  subst h0
  have hz : zs = [] := List.eq_nil_of_length_eq_zero hA.1
  subst hz
  clear hA
  have heq : ∀ (w : World) (a : Option Addr) (n c n' c' : Nat), (binOp .eql 33 (.slice a n c) (.slice none n' c')).run Tryz.prog w = .ok (.bool a.isNone) w := fun w a n c n' c' => Lib.run_eql_slice_nil w _ _ a n c n' c' Tryz.underlying33
  go_enter Tryz.func32, Tryz.ntmps32
  go_wp2
  go_ret
  exact ⟨none, 0, rfl, World.ownsRow_nil _ _ _ _, Keep.refl _⟩
 ·have heq : ∀ (w : World) (a : Option Addr) (n c n' c' : Nat), (binOp .eql 33 (.slice a n c) (.slice none n' c')).run Tryz.prog w = .ok (.bool a.isNone) w := fun w a n c n' c' => Lib.run_eql_slice_nil w _ _ a n c n' c' Tryz.underlying33
  go_enter Tryz.func32, Tryz.ntmps32
  go_wp2_with (at_builtin; refine append_ints rfl _ _ 33 rfl w.heap.size 3 .i64 8 Tryz.underlying33 info_int _ 0 [] rfl (World.ownsRow_lit w #[] 0 (Nat.le_refl _) (Nat.zero_le _) rfl) (by simp) w.heap.size (some ad) n c zs rfl (hA.keep fun p hp => by simp [World.cell?_alloc_lt, hp]) (by unfold maxLen; omega) (by omega) ?_)
  intro v' w1 hown hb
  obtain ⟨A1, c1, rfl⟩ := own_slice hown
  go_wp2
  go_ret
  exact ⟨A1, c1, rfl, hown, ((Below.refl w.heap.size w).alloc (Nat.le_refl _) _).trans hb⟩
end Go.Proofs.YtaciogcpghbhjaaGreat.EqI
