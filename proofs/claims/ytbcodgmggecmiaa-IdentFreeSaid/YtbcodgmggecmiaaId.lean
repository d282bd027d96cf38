/- Layer 19, the code's own contracts. Conditions: at most 60000 used ones, where said. -/
import Derived.Test.YtbcodgmggecmiaaIdM
namespace Go.Proofs.Ytbcodgmggecmiaa
set_option linter.unusedVariables false
open Go.ChangeShapes Go.WideShapes Go.ChangeAt Go.RowKit
namespace Ident
open Idn
open Ref19 (ret_int ret_bool)
set_option maxHeartbeats 400000 in
theorem after_any (id : Int) (w : World) (hid : (Lit.int .i64 id).wf = true) :
    Calls Try.prog 9 #[.int .i64 id] w fun e w' => e = .returned (.int .i64 (after id)) ∧ Quiet w w' := by
  by_cases h : id < 0 ∨ 65535 < id
  · have e : after id = 0 := by unfold after; rw [if_pos (by omega)]
    rw [e]
    have HO := Lib.hid h
    clear h e
    go_enter Try.func9, Try.ntmps9
    go_wp2_with fail
    refine (is_no HO.out _).mono ?_
    rintro e w2 ⟨rfl, rfl⟩
    go_wp2
    go_ret
    exact ⟨rfl, Quiet.refl _⟩
  · have g0 : 0 ≤ id := by omega
    have g1 : id ≤ 65535 := by omega
    rw [after_in g0 g1]
    clear h
    go_enter Try.func9, Try.ntmps9
    go_wp2_with fail
    refine (is_yes g0 g1 _).mono ?_
    rintro e w2 ⟨rfl, rfl⟩
    go_wp2
    go_ret
    exact ⟨rfl, Quiet.refl _⟩
set_option maxHeartbeats 400000 in
theorem next_any (A : Option Addr) (n c : Nat) (zs : List Int) (fr : Int) (w : World) (hn : n ≤ 60000) (hA : Ints .i64 w w.heap.size A n zs) :
    Calls Try.prog 7 #[.slice A n c, .int .i64 fr] w fun e w' => e = .returned (res (next zs fr)) ∧ Keep w w' := by
  by_cases h : fr < 0 ∨ 65535 < fr
  · have e : next zs fr = none := by unfold next; rw [if_pos h]
    rw [e]
    have HO := Lib.hid h
    clear h e
    go_enter Try.func7, Try.ntmps7
    go_wp2_with fail
    refine (is_no HO.out _).mono ?_
    rintro e w2 ⟨rfl, rfl⟩
    go_wp2
    go_ret2
    exact ⟨rfl, Keep.refl _⟩
  · have g0 : 0 ≤ fr := by omega
    have g1 : fr ≤ 65535 := by omega
    clear h
    obtain ⟨R, hR⟩ : ∃ R, R = res (next zs fr) := ⟨_, rfl⟩
    rw [← hR]
    have HR := Lib.hid hR
    have HL := Lib.hid hA.1
    clear hR
    obtain ⟨j, hj, hf, hu⟩ := found zs fr (by rw [HL.out]; omega)
    have HN := Lib.hid (next_spec g0 g1 (by rw [HL.out] at hj; omega) hu hf)
    have HF := Lib.hid hf
    have HU := Lib.hid hu
    have hjn : j ≤ n := by rw [HL.out] at hj; exact hj
    clear hf hu hj
    have HX := Lib.hid (used_any A n c zs fr w hn hA g0 g1)
    go_enter Try.func7, Try.ntmps7
    go_wp2_with fail
    refine (is_yes g0 g1 _).mono ?_
    rintro e w2 ⟨rfl, rfl⟩
    go_wp2_with fail
    refine HX.out.mono ?_
    rintro e w3 ⟨rfl, hB, hK⟩
    go_wp2
    go_loopw [15] (fun kv wr => ∃ k : Nat, k ≤ j ∧ kv = .int .i64 k ∧ Quiet w3 wr) (fun kv _ => n + 1 - (intOf kv).toNat)
    case atStart => exact ⟨0, Nat.zero_le _, rfl, Quiet.refl _⟩
    case round =>
      obtain ⟨k, hk, rfl, hq⟩ := hrel
      obtain ⟨b, off, hbo, hb, hc⟩ := hB.2 (by omega)
      injection hbo with hbo
      injection hbo with hb1 ho1
      subst hb1
      subst ho1
      have hck := (hq.cell ⟨w.heap.size, 0 + k, none⟩).trans (hc k (by omega))
      rw [Nat.zero_add, List.getD_eq_getElem?_getD, marks_get (by omega)] at hck
      rw [List.take_of_length_le (by rw [HL.out]; omega)] at hck
      simp only [Option.getD_some] at hck
      clear hc
      have HB := Lib.hid hB
      clear hB
      by_cases hkj : k < j
      · rw [HU.out k hkj] at hck
        go_wp2
        exact ⟨⟨k + 1, by omega, by go_num, hq⟩, by simp [intOf]; omega⟩
      · obtain rfl : k = j := by omega
        rw [HF.out] at hck
        go_wp2
        go_ret2
        refine ⟨?_, hK.trans hq.keep⟩
        rw [HR.out, HN.out]
        rfl
end Ident
end Go.Proofs.Ytbcodgmggecmiaa
