/- Layer 19's law IdentFree. Conditions: none beyond the law's own. -/
import Derived.Test.YtbcodgmggecmiaaIdL
import Derived.Test.YtbcodgmggecmiaaBoo
namespace Go.Proofs.Ytbcodgmggecmiaa.Ident
set_option linter.unusedVariables false
open Go.ChangeShapes Go.WideShapes Go.ChangeAt Go.RowKit
open Idn

theorem not_hit (zs : List Int) (k : Nat) (m : Int) (h : k < zs.length) (hs : has zs m = false) : (zs.getD k 0 == m) = false := by
  cases he : zs.getD k 0 == m
  · rfl
  · rw [has_hit zs k m h (by simpa using he)] at hs; cases hs
theorem it_ne {fr : Int} {k j : Nat} (h : k < j) (hj : j < 65536) : (it fr k != it fr j) = true := by
  simp
  intro e
  have := it_inj e (by omega) hj
  omega
set_option maxHeartbeats 4000000 in
theorem free_any (A : Option Addr) (n c : Nat) (zs : List Int) (fr : Int) (w : World) (hn : n ≤ maxLen) (hA : Ints .i64 w w.heap.size A n zs) (hf0 : 0 ≤ fr) (hf1 : fr ≤ 65535) :
    Calls Try.prog 4 #[.slice A n c, .int .u16 fr] w fun e w' => e = .returned (.bool true) ∧ Keep w w' := by
  have hlen := hA.1
  unfold maxLen at hn
  by_cases h : 200 < n
  · have d : decide ((200 : Int) < (n : Int)) = true := by simp; omega
    clear h hlen
    go_enter Try.func4, Try.ntmps4
    go_wp2_with fail
    refine (awake_any _).mono ?_
    rintro e w2 ⟨rfl, hb2⟩
    go_wp2
    go_ret
    exact ⟨rfl, hb2⟩
  have d : decide ((200 : Int) < (n : Int)) = false := by simp; omega
  obtain ⟨j, hj, hf, hu⟩ := found zs fr (by omega)
  have e1 := next_spec hf0 hf1 (show j < 65536 by omega) hu hf
  have hj2 : j ≤ 200 := by omega
  obtain ⟨u, hudef⟩ : ∃ u, u = it fr j := ⟨_, rfl⟩
  rw [← hudef] at e1 hf
  have HU := Lib.hid hudef
  have HF := Lib.hid hf
  have HUS := Lib.hid hu
  have HLEN := Lib.hid hlen
  have du : decide (u < 0) = false := by have := (it_range fr j).1; rw [← hudef] at this; simp; omega
  have du2 : decide (65535 < u) = false := by have := (it_range fr j).2; rw [← hudef] at this; simp; omega
  have hT1 : ∀ W : World, Ints .i64 W W.heap.size A n zs → Calls Try.prog 7 #[.slice A n c, .int .i64 fr] W fun e w' => e = .returned (.tuple #[.int .i64 u, .bool true]) ∧ Keep W w' := fun W hW => by
    have h := next_any A n c zs fr W (by omega) hW
    rwa [e1] at h
  have HT1 := Lib.hid hT1
  have hn2 : n ≤ 200 := by omega
  clear hT1 e1 hudef hf hu hlen h hn hj
  go_enter Try.func4, Try.ntmps4
  go_wp2_with fail
  refine (HT1.out _ hA).mono ?_
  rintro e w1 ⟨rfl, hb1⟩
  have hA1 : Ints .i64 w1 w1.heap.size A n zs := hA.kept hb1
  clear hA
  go_wp2
  clear d du du2
  go_loopw [7, 8, 9, 10] (fun iv kv _ _ wr => ∃ (k : Nat) (id : Int), k ≤ j ∧ kv = .int .i64 k ∧ iv = .int .i64 id ∧ Hid (id = it fr k) ∧ Quiet w1 wr) (fun _ kv _ _ _ => j - (intOf kv).toNat)
  case atStart => exact ⟨0, fr, Nat.zero_le _, rfl, rfl, Lib.hid (it_zero hf0 hf1).symm, Quiet.refl _⟩
  case round =>
    obtain ⟨k, id, hk, rfl, rfl, HI, hq⟩ := hrel
    have dk : decide ((k : Int) ≤ 200) = true := by simp; omega
    by_cases hlt : k < j
    · have dn : (id != u) = true := by rw [HI.out, HU.out]; exact it_ne hlt (by omega)
      have HH := Lib.hid (show has zs id = true by rw [HI.out]; exact HUS.out k hlt)
      go_wp2
      clear dn dk
      go_loopw [9, 10] (fun fv iv wr2 => ∃ i : Nat, i ≤ n ∧ iv = .int .i64 i ∧ fv = .bool (has (zs.take i) id) ∧ Quiet wr wr2) (fun _ iv _ => n - (intOf iv).toNat)
      case atStart => exact ⟨0, Nat.zero_le _, rfl, rfl, Quiet.refl _⟩
      case round =>
        obtain ⟨i, hi, rfl, rfl, hq2⟩ := hrel
        by_cases hlt2 : i < n
        · obtain ⟨b, off, rfl, hb, hc⟩ := hA1.2 (by omega)
          have hck := ((hq.trans hq2).cell ⟨b, off + i, none⟩).trans (hc i hlt2)
          have HS := Lib.hid (has_snoc zs i id (by rw [HLEN.out]; exact hlt2))
          obtain ⟨z, hz⟩ : ∃ z, z = zs.getD i 0 := ⟨_, rfl⟩
          rw [← hz] at hck
          have HZ := Lib.hid hz
          have HA1 := Lib.hid hA1
          obtain ⟨bb, hbb⟩ : ∃ x, x = has (zs.take i) id := ⟨_, rfl⟩
          rw [← hbb]
          have HB := Lib.hid hbb
          clear hz hc hA1 hbb
          cases bb
          · go_wp2
            exact ⟨⟨i + 1, by omega, by go_num, by rw [HS.out, ← HB.out, ← HZ.out]; simp, hq2⟩, by simp [intOf]; omega⟩
          · go_wp2
            exact ⟨⟨i + 1, by omega, by go_num, by rw [HS.out, ← HB.out, ← HZ.out]; simp, hq2⟩, by simp [intOf]; omega⟩
        · obtain rfl : i = n := by omega
          rw [List.take_of_length_le (by rw [HLEN.out]; omega), HH.out]
          go_wp2_with fail
          refine (after_any id _ (by rw [HI.out]; exact wf_small (it_range fr k).1 (it_range fr k).2)).mono ?_
          rintro e w3 ⟨rfl, h3⟩
          go_wp2
          exact ⟨⟨k + 1, after id, by omega, by go_num, rfl, Lib.hid (by rw [HI.out]; exact it_succ fr k), (hq.trans hq2).trans h3⟩, by simp [intOf]; omega⟩
    · obtain rfl : k = j := by omega
      have hid : id = u := by rw [HI.out, HU.out]
      have dn : (u != u) = false := by simp
      subst hid
      go_wp2
      clear dn dk
      go_loopw [11] (fun iv wr2 => ∃ i : Nat, i ≤ n ∧ iv = .int .i64 i ∧ Quiet wr wr2) (fun iv _ => n - (intOf iv).toNat)
      case atStart => exact ⟨0, Nat.zero_le _, rfl, Quiet.refl _⟩
      case round =>
        obtain ⟨i, hi, rfl, hq2⟩ := hrel
        by_cases hlt2 : i < n
        · obtain ⟨b, off, rfl, hb, hc⟩ := hA1.2 (by omega)
          have hck := ((hq.trans hq2).cell ⟨b, off + i, none⟩).trans (hc i hlt2)
          have hne := not_hit zs i id (by rw [HLEN.out]; exact hlt2) HF.out
          obtain ⟨z, hz⟩ : ∃ z, z = zs.getD i 0 := ⟨_, rfl⟩
          rw [← hz] at hck hne
          have HA1 := Lib.hid hA1
          clear hz hc hA1
          go_wp2
          exact ⟨⟨i + 1, by omega, by go_num, hq2⟩, by simp [intOf]; omega⟩
        · obtain rfl : i = n := by omega
          go_wp2_with fail
          refine (awake_any _).mono ?_
          rintro e w3 ⟨rfl, h3⟩
          go_wp2
          go_ret
          exact ⟨rfl, ((hb1.trans hq.keep).trans hq2.keep).trans h3⟩
theorem free_row (A : Option Addr) (n c : Nat) (zs : List Int) (fr : Int) (w : World) (hA : IntsIn .i64 w A n zs) (hn : n ≤ maxLen) (hf : (Lit.int .u16 fr).wf = true) :
    Calls Try.prog 4 #[.slice A n c, .int .u16 fr] w fun e w' => e = .returned (.bool true) ∧ Keep w w' := free_any A n c zs fr w hn hA.1 (in_u16 hf).1 (in_u16 hf).2
end Go.Proofs.Ytbcodgmggecmiaa.Ident
