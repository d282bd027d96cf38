/- Layer 1's reference: each function answers what the plain words of TwA say. Conditions: lengths at most a million. -/
import Derived.Test.YtecajacpfikpcaaRows
import Derived.Test.YtecajacpfikpcaaTwA
namespace Go.Proofs.Ytecajacpfikpcaa.Ref1
open Go.ChangeShapes Go.WideShapes Go.ChangeAt Go.RowKit

theorem info_int : (Try.prog.info? 3).map (fun i => (i.zero, i.size, i.bytes)) = some (some (.int .i64 0), 1, 8) := by kernel_rfl







set_option maxHeartbeats 400000 in
theorem ints_any (A B : Option Addr) (n m c d : Nat) (xs ys : List Int) (w : World) (hn : n ≤ 1000000) (hA : Ints .i64 w w.heap.size A n xs) (hB : Ints .i64 w w.heap.size B m ys) :
    Calls Try.prog 20 #[.slice A n c, .slice B m d] w fun e w' => e = .returned (.bool (xs == ys)) ∧ Quiet w w' := by
  have hla := hA.1
  have hlb := hB.1
  by_cases hnm : n = m
  · subst hnm
    have HA := Lib.hid hla
    have HB := Lib.hid hlb
    clear hla hlb
    go_enter Try.func20, Try.ntmps20
    go_wp2
    go_loopw [5] (fun i wr => SameRel w n xs ys i wr) (fun i _ => n - (intOf i).toNat)
    case atStart => exact ⟨0, Nat.zero_le _, rfl, rfl, Quiet.refl _⟩
    case round =>
      obtain ⟨k, hk, rfl, hsame, hq⟩ := hrel
      have HS := Lib.hid hsame
      clear hsame
      by_cases hlt : k < n
      · obtain ⟨b, off, rfl, hb, hc⟩ := hA.2 (by omega)
        obtain ⟨b', off', rfl, hb', hc'⟩ := hB.2 (by omega)
        have hck := (hq.cell ⟨b, off + k, none⟩).trans (hc k hlt)
        have hck' := (hq.cell ⟨b', off' + k, none⟩).trans (hc' k hlt)
        clear hc hc'
        obtain ⟨x, hx⟩ : ∃ z, z = xs.getD k 0 := ⟨_, rfl⟩
        obtain ⟨y, hy⟩ : ∃ z, z = ys.getD k 0 := ⟨_, rfl⟩
        rw [← hx] at hck
        rw [← hy] at hck'
        have HX := Lib.hid hx
        have HY := Lib.hid hy
        clear hx hy
        have hi1 : (k : Int) < n := by omega
        by_cases hxy : x = y
        · have hb1 : (x == y) = true := by simp [hxy]
          have HXY := Lib.hid hxy
          clear hxy
          go_wp2
          go_quiet (fail)
          go_wp2
          go_roundw
          case rel =>
            refine ⟨k + 1, by omega, by go_num, ?_, hq.drewN _⟩
            rw [Tw.take_snoc xs k (by rw [HA.out]; exact hlt), Tw.take_snoc ys k (by rw [HB.out]; exact hlt), HS.out, ← HX.out, ← HY.out, HXY.out]
          case measure => simp [intOf]; omega
        · have hb1 : (x == y) = false := by simp [hxy]
          go_wp2
          go_quiet (fail)
          go_wp2
          go_ret
          refine ⟨?_, hq.drewN _⟩
          have : (xs == ys) = false := by
            rw [beq_eq_false_iff_ne]
            intro e
            rw [HX.out, HY.out, e] at hxy
            exact hxy rfl
          rw [this]
          rfl
      · obtain rfl : k = n := by omega
        go_wp2
        go_ret
        refine ⟨?_, hq⟩
        have e := HS.out
        rw [List.take_of_length_le (by rw [HA.out]; omega), List.take_of_length_le (by rw [HB.out]; omega)] at e
        simp [e]
  · have hne : (xs == ys) = false := by
      rw [beq_eq_false_iff_ne]
      intro e
      apply hnm
      rw [← hla, ← hlb, e]
    have hb1 : ((n : Int) == (m : Int)) = false := by simp; omega
    have HA := Lib.hid hla
    have HB := Lib.hid hlb
    clear hla hlb
    go_enter Try.func20, Try.ntmps20
    go_wp2
    go_ret
    rw [hne]
    exact ⟨rfl, Quiet.refl _⟩

end Go.Proofs.Ytecajacpfikpcaa.Ref1
