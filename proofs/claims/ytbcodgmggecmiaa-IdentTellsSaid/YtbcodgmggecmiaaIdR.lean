/- Layer 19's reference. Conditions: none beyond a slice's length. -/
import Derived.Test.YtbcodgmggecmiaaRows
import Derived.Test.YtbcodgmggecmiaaIdA
import Derived.Test.YtbcodgmggecmiaaOpen
namespace Go.Proofs.Ytbcodgmggecmiaa
set_option linter.unusedVariables false
open Go.ChangeShapes Go.WideShapes Go.ChangeAt Go.RowKit
namespace Idn
/-- A number, and whether there is one, as two results. -/
def res : Option Int → Value
  | some m => .tuple #[.int .i64 m, .bool true]
  | none => .tuple #[.int .i64 0, .bool false]
theorem has_snoc (zs : List Int) (k : Nat) (m : Int) (h : k < zs.length) : has (zs.take (k + 1)) m = (has (zs.take k) m || (zs.getD k 0 == m)) := by
  rw [List.take_succ_eq_append_getElem h]
  unfold has
  rw [Bool.eq_iff_iff]
  simp only [List.contains_iff_mem, List.mem_append, Bool.or_eq_true, List.mem_singleton, beq_iff_eq, List.getD, List.getElem?_eq_getElem h, Option.getD]
  exact or_congr Iff.rfl eq_comm
theorem has_hit (zs : List Int) (k : Nat) (m : Int) (h : k < zs.length) (e : zs.getD k 0 = m) : has zs m = true := by
  simp only [List.getD, List.getElem?_eq_getElem h, Option.getD] at e
  simp [has, ← e]
end Idn
namespace Ref19
open Idn
theorem ret_int {a b : Int} (h : a = b) : Ending.returned (.int .i64 a) = Ending.returned (.int .i64 b) := by rw [h]
theorem ret_bool {b c : Bool} (h : b = c) : Ending.returned (.bool b) = Ending.returned (.bool c) := by rw [h]
set_option maxHeartbeats 400000 in
theorem has_any (A : Option Addr) (n c : Nat) (zs : List Int) (m : Int) (w : World) (hn : n ≤ maxLen) (hA : Ints .i64 w w.heap.size A n zs) :
    Calls Try.prog 13 #[.slice A n c, .int .i64 m] w fun e w' => e = .returned (.bool (has zs m)) ∧ Quiet w w' := by
  have hlen := Lib.hid hA.1
  unfold maxLen at hn
  go_enter Try.func13, Try.ntmps13
  go_wp2
  go_loopw [5] (fun iv wr => ∃ k : Nat, k ≤ n ∧ iv = .int .i64 k ∧ Hid (has (zs.take k) m = false) ∧ Quiet w wr) (fun iv _ => n - (intOf iv).toNat)
  case atStart => exact ⟨0, Nat.zero_le _, rfl, Lib.hid rfl, Quiet.refl _⟩
  case round =>
    obtain ⟨k, hk, rfl, HH, hq⟩ := hrel
    by_cases hlt : k < n
    · obtain ⟨b, off, rfl, hb, hc⟩ := hA.2 (by omega)
      have hck := (hq.cell ⟨b, off + k, none⟩).trans (hc k hlt)
      clear hc
      obtain ⟨z, hz⟩ : ∃ z, z = zs.getD k 0 := ⟨_, rfl⟩
      rw [← hz] at hck
      have HZ := Lib.hid hz
      have HA := Lib.hid hA
      clear hz hA
      by_cases he : z = m
      · have hbe : (z == m) = true := by simp [he]
        have HE := Lib.hid he
        clear he
        go_wp2
        go_ret
        exact ⟨ret_bool (has_hit zs k m (by rw [hlen.out]; exact hlt) (by rw [← HZ.out, HE.out])).symm, hq⟩
      · have hbe : (z == m) = false := by simp [he]
        clear he
        have HB := Lib.hid hbe
        go_wp2
        refine ⟨⟨k + 1, by omega, by go_num, Lib.hid ?_, hq⟩, by simp [intOf]; omega⟩
        rw [has_snoc zs k m (by rw [hlen.out]; exact hlt), HH.out, ← HZ.out, HB.out]; rfl
    · obtain rfl : k = n := by omega
      go_wp2
      go_ret
      have h := HH.out
      rw [List.take_of_length_le (by rw [hlen.out]; omega)] at h
      exact ⟨ret_bool h.symm, hq⟩
set_option maxHeartbeats 400000 in
theorem after_any (id : Int) (w : World) (hid : (Lit.int .i64 id).wf = true) :
    Calls Try.prog 10 #[.int .i64 id] w fun e w' => e = .returned (.int .i64 (after id)) ∧ Quiet w w' := by
  by_cases h : id < 0 ∨ 65535 ≤ id
  · have e : after id = 0 := by unfold after; rw [if_pos h]
    rw [e]
    rcases Int.lt_or_le id 0 with h0 | h0
    · have d : decide (id < 0) = true := by simp [h0]
      clear h h0 e
      go_enter Try.func10, Try.ntmps10
      go_wp2
      go_ret
      exact ⟨rfl, Quiet.refl _⟩
    · have d : decide (id < 0) = false := by simp; omega
      have d2 : decide (65535 ≤ id) = true := by simp; omega
      clear h h0 e
      go_enter Try.func10, Try.ntmps10
      go_wp2
      go_ret
      exact ⟨rfl, Quiet.refl _⟩
  · have e : after id = id + 1 := by unfold after; rw [if_neg h]
    rw [e]
    have d : decide (id < 0) = false := by simp; omega
    have d2 : decide (65535 ≤ id) = false := by simp; omega
    have g0 : 0 ≤ id := by omega
    have g1 : id ≤ 65534 := by omega
    clear h e
    go_enter Try.func10, Try.ntmps10
    go_wp2
    go_ret
    exact ⟨rfl, Quiet.refl _⟩
set_option maxHeartbeats 400000 in
theorem next_any (A : Option Addr) (n c : Nat) (zs : List Int) (fr : Int) (w : World) (hn : n ≤ maxLen) (hA : Ints .i64 w w.heap.size A n zs) :
    Calls Try.prog 8 #[.slice A n c, .int .i64 fr] w fun e w' => e = .returned (res (next zs fr)) ∧ Quiet w w' := by
  by_cases h : fr < 0 ∨ 65535 < fr
  · have e : next zs fr = none := by unfold next; rw [if_pos h]
    rw [e]
    rcases Int.lt_or_le fr 0 with h0 | h0
    · have d : decide (fr < 0) = true := by simp [h0]
      clear h h0 e
      go_enter Try.func8, Try.ntmps8
      go_wp2
      go_ret2
      exact ⟨rfl, Quiet.refl _⟩
    · have d : decide (fr < 0) = false := by simp; omega
      have d2 : decide (65535 < fr) = true := by simp; omega
      clear h h0 e
      go_enter Try.func8, Try.ntmps8
      go_wp2
      go_ret2
      exact ⟨rfl, Quiet.refl _⟩
  · have e : next zs fr = go zs 65536 fr := by unfold next; rw [if_neg h]
    have d : decide (fr < 0) = false := by simp; omega
    have d2 : decide (65535 < fr) = false := by simp; omega
    have HE := Lib.hid e
    have HF := Lib.hid (show 0 ≤ fr ∧ fr ≤ 65535 by omega)
    obtain ⟨R, hR⟩ : ∃ R, R = res (next zs fr) := ⟨_, rfl⟩
    obtain ⟨N, hN⟩ : ∃ N : Nat, N = 65536 := ⟨_, rfl⟩
    rw [← hN] at e
    obtain ⟨G, hG⟩ : ∃ G, G = go zs N fr := ⟨_, rfl⟩
    rw [← hR]
    rw [← hG] at e
    have hN1 : N ≤ 70000 := by omega
    have HN := Lib.hid hN
    have HR := Lib.hid (show R = res G by rw [hR, e])
    have H0 := Lib.hid hG
    clear h e hR hG HE hN
    go_enter Try.func8, Try.ntmps8
    go_wp2
    clear d d2
    go_loopw [6, 7] (fun iv kv wr => ∃ (id : Int) (k : Nat), k ≤ N ∧ kv = .int .i64 k ∧ iv = .int .i64 id ∧ Hid (0 ≤ id ∧ id ≤ 65535) ∧ (∃ f, f + k = N ∧ Hid (G = go zs f id)) ∧ Quiet w wr) (fun _ kv _ => N - (intOf kv).toNat)
    case atStart => exact ⟨fr, 0, Nat.zero_le _, rfl, rfl, HF, ⟨N, rfl, H0⟩, Quiet.refl _⟩
    case round =>
      obtain ⟨id, k, hk, rfl, rfl, HI, ⟨f, hf, HG⟩, hq⟩ := hrel
      by_cases hlt : k < N
      · obtain ⟨f, rfl⟩ : ∃ g, f = g + 1 := ⟨f - 1, by omega⟩
        have hh := HG.out
        have dk : decide ((k : Int) < 65536) = true := by have := HN.out; simp; omega
        have HFK := Lib.hid hf
        clear hf
        have hAq : Ints .i64 wr wr.heap.size A n zs := hA.kept hq.keep
        cases hs : has zs id
        · have e2 : G = some id := by rw [hh]; simp [go, hs]
          have HE2 := Lib.hid e2
          have HS := Lib.hid hs
          clear hh e2 hs
          go_wp2_with fail
          refine (has_any A n c zs id _ hn hAq).mono ?_
          rintro e w2 ⟨rfl, h2⟩
          rw [HS.out]
          go_wp2
          go_ret2
          exact ⟨by rw [HR.out, HE2.out]; rfl, hq.trans h2⟩
        · have e2 : G = go zs f (after id) := by rw [hh]; simp [go, hs]
          have HE2 := Lib.hid e2
          have HS := Lib.hid hs
          clear hh e2 hs
          go_wp2_with fail
          refine (has_any A n c zs id _ hn hAq).mono ?_
          rintro e w2 ⟨rfl, h2⟩
          rw [HS.out]
          go_wp2_with fail
          refine (after_any id _ (by have := HI.out; simp [Lit.wf]; have e1 : IntKind.i64.min = -9223372036854775808 := rfl; have e2 : IntKind.i64.max = 9223372036854775807 := rfl; omega)).mono ?_
          rintro e w3 ⟨rfl, h3⟩
          go_wp2
          have hf := HFK.out
          exact ⟨⟨after id, k + 1, by omega, by go_num, rfl, Lib.hid (after_range id), ⟨f, by omega, HE2⟩, (hq.trans h2).trans h3⟩, by simp [intOf]; omega⟩
      · have dk : decide ((k : Int) < 65536) = false := by have := HN.out; simp; omega
        obtain rfl : f = 0 := by omega
        clear hf hlt hk
        go_wp2
        go_ret2
        exact ⟨by rw [HR.out, HG.out]; rfl, hq⟩
end Ref19
end Go.Proofs.Ytbcodgmggecmiaa
