/- Layer 19's laws: awake, IdentTells. Conditions: none beyond the laws' own. -/
import Derived.Test.YtbcodgmggecmiaaId
namespace Go.Proofs.Ytbcodgmggecmiaa.Ident
set_option linter.unusedVariables false
open Go.ChangeShapes Go.WideShapes Go.ChangeAt Go.RowKit
open Idn

theorem wf_small {z : Int} (h0 : 0 ≤ z) (h1 : z ≤ 65535) : (Lit.int .i64 z).wf = true := by
  simp [Lit.wf]
  have e1 : IntKind.i64.min = -9223372036854775808 := rfl
  have e2 : IntKind.i64.max = 9223372036854775807 := rfl
  omega
set_option maxHeartbeats 1000000 in
theorem awake_any (w : World) : Calls Try.prog 6 #[] w fun e w' => e = .returned (.bool true) ∧ Keep w w' := by
  have hi := Ints.new .i64 w 3 [7, 8] #[.int .i64 7, .int .i64 8] rfl
  obtain ⟨X, hX⟩ : ∃ X, X = w.alloc (.cells #[.int .i64 7, .int .i64 8] 3) := ⟨_, rfl⟩
  have k0 : Keep w X := by rw [hX]; exact (Keep.refl w).alloc _
  have e1 : next [7, 8] 7 = some 9 := next_spec (j := 2) (by omega) (by omega) (by omega) (fun i hi => by
    match i, hi with
    | 0, _ => decide
    | 1, _ => decide) (by decide)
  have hN : Calls Try.prog 7 #[.slice (some ⟨w.heap.size, 0, none⟩) 2 2, .int .i64 7] X fun e w' => e = .returned (.tuple #[.int .i64 9, .bool true]) ∧ Keep X w' := by
    have h := next_any (some ⟨w.heap.size, 0, none⟩) 2 2 [7, 8] 7 X (by omega) (by rw [hX]; simpa using hi)
    rw [e1] at h
    exact h
  have hA1 : ∀ W, Calls Try.prog 9 #[.int .i64 65535] W fun e w' => e = .returned (.int .i64 0) ∧ Quiet W w' := fun W => after_any 65535 W (wf_small (by omega) (by omega))
  have hA2 : ∀ W, Calls Try.prog 9 #[.int .i64 7] W fun e w' => e = .returned (.int .i64 8) ∧ Quiet W w' := fun W => after_any 7 W (wf_small (by omega) (by omega))
  have HN := Lib.hid hN
  have H1 := Lib.hid hA1
  have H2 := Lib.hid hA2
  clear hN hA1 hA2 hi e1
  go_enter Try.func6, Try.ntmps6
  go_wp2_with fail
  rw [← hX]
  refine HN.out.mono ?_
  rintro e w1 ⟨rfl, hb1⟩
  go_wp2_with fail
  refine (H1.out _).mono ?_
  rintro e w2 ⟨rfl, hb2⟩
  go_wp2_with fail
  refine (H2.out _).mono ?_
  rintro e w3 ⟨rfl, hb3⟩
  go_wp2
  go_ret
  exact ⟨rfl, ((k0.trans hb1).trans hb2.keep).trans hb3.keep⟩
set_option maxHeartbeats 2000000 in
theorem tells_any (A : Option Addr) (n c : Nat) (zs : List Int) (fr : Int) (w : World) (hn : n ≤ maxLen) (hA : Ints .i64 w w.heap.size A n zs) (hfr : (Lit.int .i64 fr).wf = true) :
    Calls Try.prog 3 #[.slice A n c, .int .i64 fr] w fun e w' => e = .returned (.bool true) ∧ Keep w w' := by
  have HWF := Lib.hid hfr
  have HN := Lib.hid hn
  unfold maxLen at hn
  clear hfr
  by_cases h : 200 < n
  · have d : decide ((200 : Int) < (n : Int)) = true := by simp; omega
    clear h
    go_enter Try.func3, Try.ntmps3
    go_wp2_with fail
    refine (awake_any _).mono ?_
    rintro e w2 ⟨rfl, hb2⟩
    go_wp2
    go_ret
    exact ⟨rfl, hb2⟩
  have d : decide ((200 : Int) < (n : Int)) = false := by simp; omega
  obtain ⟨m, ok, hm⟩ : ∃ (m : Int) (ok : Bool), res (next zs fr) = .tuple #[.int .i64 m, .bool ok] := by
    cases next zs fr
    · exact ⟨_, _, rfl⟩
    · exact ⟨_, _, rfl⟩
  have hN2 : n ≤ 60000 := by omega
  have hT1 : ∀ W : World, Ints .i64 W W.heap.size A n zs → Calls Try.prog 7 #[.slice A n c, .int .i64 fr] W fun e w' => e = .returned (.tuple #[.int .i64 m, .bool ok]) ∧ Keep W w' := fun W hW => by
    have h := next_any A n c zs fr W hN2 hW
    rwa [hm] at h
  have hT2 : ∀ W : World, Ints .i64 W W.heap.size A n zs → Calls Try.prog 8 #[.slice A n c, .int .i64 fr] W fun e w' => e = .returned (.tuple #[.int .i64 m, .bool ok]) ∧ Quiet W w' := fun W hW => by
    have h := Ref19.next_any A n c zs fr W HN.out hW
    rwa [hm] at h
  have HT1 := Lib.hid hT1
  have HT2 := Lib.hid hT2
  clear hT1 hT2 hm h hN2
  go_enter Try.func3, Try.ntmps3
  go_wp2_with fail
  refine (HT1.out _ hA).mono ?_
  rintro e w1 ⟨rfl, hb1⟩
  replace hA := hA.kept hb1
  go_wp2_with fail
  refine (HT2.out _ hA).mono ?_
  rintro e w2 ⟨rfl, hb2⟩
  go_wp2_with fail
  refine (awake_any _).mono ?_
  rintro e w3 ⟨rfl, hb3⟩
  go_wp2_with fail
  refine (after_any fr _ HWF.out).mono ?_
  rintro e w4 ⟨rfl, hb4⟩
  go_wp2_with fail
  refine (Ref19.after_any fr _ HWF.out).mono ?_
  rintro e w5 ⟨rfl, hb5⟩
  go_wp2
  go_ret
  exact ⟨rfl, (((hb1.trans hb2.keep).trans hb3).trans hb4.keep).trans hb5.keep⟩
theorem tells_row (A : Option Addr) (n c : Nat) (zs : List Int) (fr : Int) (w : World) (hA : IntsIn .i64 w A n zs) (hn : n ≤ maxLen) (hf : (Lit.int .i64 fr).wf = true) :
    Calls Try.prog 3 #[.slice A n c, .int .i64 fr] w fun e w' => e = .returned (.bool true) ∧ Keep w w' := tells_any A n c zs fr w hn hA.1 hf
end Go.Proofs.Ytbcodgmggecmiaa.Ident
