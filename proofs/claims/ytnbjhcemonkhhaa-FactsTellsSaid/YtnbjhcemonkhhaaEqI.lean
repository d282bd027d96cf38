/- slices.Equal and slices.Clone of integers. Conditions: at most a million of them. -/
import Derived.Test.YtnbjhcemonkhhaaRows
import Derived.Test.YtnbjhcemonkhhaaTwA
import Derived.Test.YtnbjhcemonkhhaaRow2
import Derived.Deep.AppendLies
import Derived.Lib.SliceRun
namespace Go.Proofs.Ytnbjhcemonkhhaa.EqI
set_option linter.unusedVariables false
open Go.ChangeShapes Go.WideShapes Go.ChangeAt Go.RowKit
set_option maxHeartbeats 400000 in
theorem equal_any (A B : Option Addr) (n m c d : Nat) (xs ys : List Int) (w : World) (hn : n ≤ 1000000) (hA : Ints .i64 w w.heap.size A n xs) (hB : Ints .i64 w w.heap.size B m ys) :
    Calls Try.prog 37 #[.slice A n c, .slice B m d] w fun e w' => e = .returned (.bool (xs == ys)) ∧ Quiet w w' := by
  have hla := hA.1
  have hlb := hB.1
  by_cases hnm : n = m
  · subst hnm
    have HA := Lib.hid hla
    have HB := Lib.hid hlb
    clear hla hlb
    go_enter Try.func37, Try.ntmps37
    go_wp2
    go_loopw [13] (fun i wr => SameRel w n xs ys i wr) (fun i _ => n - (intOf i).toNat)
    case atStart => exact ⟨0, Nat.zero_le _, rfl, rfl, Quiet.refl _⟩
    case round =>
      obtain ⟨k, hk, rfl, hsame, hq⟩ := hrel
      have HS := Lib.hid hsame
      clear hsame
      by_cases hlt : k < n
      · obtain ⟨b, off, rfl, hb, hc⟩ := hA.2 (by omega)
        obtain ⟨b', off', rfl, hb', hc'⟩ := hB.2 (by omega)
        have hck := (hq.cell ⟨b, off + k, none⟩).trans (hc k hlt)
        have hck' := (hq.cell ⟨b', off' + k, none⟩).trans (hc' k hlt)
        clear hc hc'
        obtain ⟨x, hx⟩ : ∃ z, z = xs.getD k 0 := ⟨_, rfl⟩
        obtain ⟨y, hy⟩ : ∃ z, z = ys.getD k 0 := ⟨_, rfl⟩
        rw [← hx] at hck
        rw [← hy] at hck'
        have HX := Lib.hid hx
        have HY := Lib.hid hy
        clear hx hy
        have hi1 : (k : Int) < n := by omega
        by_cases hxy : x = y
        · have hb1 : (x != y) = false := by simp [hxy]
          have HXY := Lib.hid hxy
          clear hxy
          go_wp2
          go_quiet (fail)
          go_wp2
          go_roundw
          case rel =>
            refine ⟨k + 1, by omega, by go_num, ?_, hq.drewN _⟩
            rw [Tw.take_snoc xs k (by rw [HA.out]; exact hlt), Tw.take_snoc ys k (by rw [HB.out]; exact hlt), HS.out, ← HX.out, ← HY.out, HXY.out]
          case measure => simp [intOf]; omega
        · have hb1 : (x != y) = true := by simp [hxy]
          go_wp2
          go_quiet (fail)
          go_wp2
          go_ret
          refine ⟨?_, hq.drewN _⟩
          have : (xs == ys) = false := by
            rw [beq_eq_false_iff_ne]
            intro e
            rw [HX.out, HY.out, e] at hxy
            exact hxy rfl
          rw [this]
          rfl
      · obtain rfl : k = n := by omega
        go_wp2
        go_ret
        refine ⟨?_, hq⟩
        have e := HS.out
        rw [List.take_of_length_le (by rw [HA.out]; omega), List.take_of_length_le (by rw [HB.out]; omega)] at e
        simp [e]
  · have hne : (xs == ys) = false := by
      rw [beq_eq_false_iff_ne]
      intro e
      apply hnm
      rw [← hla, ← hlb, e]
    have hb1 : ((n : Int) != (m : Int)) = true := by simp; omega
    have HA := Lib.hid hla
    have HB := Lib.hid hlb
    clear hla hlb
    go_enter Try.func37, Try.ntmps37
    go_wp2
    go_ret
    rw [hne]
    exact ⟨rfl, Quiet.refl _⟩
theorem info_int : (Try.prog.info? 3).map (fun i => (i.zero, i.size, i.bytes)) = some (some (.int .i64 0), 1, 8) := by kernel_rfl
set_option maxHeartbeats 400000 in
/-- A clone is the call's own. -/
theorem clone_any (A : Option Addr) (n c : Nat) (zs : List Int) (w : World) (hn : n ≤ 1000000) (hA : Ints .i64 w w.heap.size A n zs) :
    Calls Try.prog 32 #[.slice A n c] w fun e w' => ∃ B d, e = .returned (.slice B n d) ∧ w'.ownsRow w.heap.size 3 1 (.slice B n d) n (zs.map (Value.int .i64)) ∧ Keep w w' := by
  rcases A with _ | ad
  · have h0 : n = 0 := by
      rcases Nat.eq_zero_or_pos n with h | h
      · exact h
      · obtain ⟨_, _, e, _⟩ := hA.2 h
        cases e
    subst h0
    have hz : zs = [] := List.eq_nil_of_length_eq_zero hA.1
    subst hz
    clear hA
    have heq : ∀ (w : World) (a : Option Addr) (n c n' c' : Nat), (binOp .eql 23 (.slice a n c) (.slice none n' c')).run Try.prog w = .ok (.bool a.isNone) w := fun w a n c n' c' => Lib.run_eql_slice_nil w _ _ a n c n' c' Try.underlying23
    go_enter Try.func32, Try.ntmps32
    go_wp2
    go_ret
    exact ⟨none, 0, rfl, World.ownsRow_nil _ _ _ _, Keep.refl _⟩
  · have heq : ∀ (w : World) (a : Option Addr) (n c n' c' : Nat), (binOp .eql 23 (.slice a n c) (.slice none n' c')).run Try.prog w = .ok (.bool a.isNone) w := fun w a n c n' c' => Lib.run_eql_slice_nil w _ _ a n c n' c' Try.underlying23
    go_enter Try.func32, Try.ntmps32
    go_wp2_with (at_builtin; refine append_ints rfl _ _ 23 rfl w.heap.size 3 .i64 8 Try.underlying23 info_int _ 0 [] rfl (World.ownsRow_lit w #[] 0 (Nat.le_refl _) (Nat.zero_le _) rfl) (by simp) w.heap.size (some ad) n c zs rfl (hA.keep fun p hp => by simp [World.cell?_alloc_lt, hp]) (by unfold maxLen; omega) (by omega) ?_)
    intro v' w1 hown hb
    obtain ⟨A1, c1, rfl⟩ := own_slice hown
    go_wp2
    go_ret
    exact ⟨A1, c1, rfl, hown, ((Below.refl w.heap.size w).alloc (Nat.le_refl _) _).trans hb⟩
end Go.Proofs.Ytnbjhcemonkhhaa.EqI
