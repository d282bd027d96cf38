/- Layer 6's reference: each function answers what the plain words of AskA say. Conditions: lengths at most a million. -/
import Derived.Test.YtijnajlijdnbcaaRows
import Derived.Test.YtijnajlijdnbcaaAskA
import Derived.Test.YtijnajlijdnbcaaTw2
import Derived.Test.YtijnajlijdnbcaaCoR
namespace Go.Proofs.Ytijnajlijdnbcaa.Ref6
set_option linter.unusedVariables false
open Go.ChangeShapes Go.WideShapes Go.ChangeAt Go.RowKit

theorem ret_bool {b c : Bool} (h : b = c) : Ending.returned (.bool b) = Ending.returned (.bool c) := by rw [h]
theorem ret_int {b c : Int} (h : b = c) : Ending.returned (.int .i64 b) = Ending.returned (.int .i64 c) := by rw [h]
theorem ret_ints3 {a b c d e f : Int} (h1 : a = d) (h2 : b = e) (h3 : c = f) : Ending.returned (.tuple #[.int .i64 a, .int .i64 b, .int .i64 c]) = Ending.returned (.tuple #[.int .i64 d, .int .i64 e, .int .i64 f]) := by rw [h1, h2, h3]
set_option maxHeartbeats 400000 in
theorem known_any (fc : Int) (w : World) :
    Calls Try.prog 34 #[.int .i64 fc] w fun e w' => e = .returned (.bool (Ak.known fc)) ∧ w = w' := by
  go_enter Try.func34, Try.ntmps34
  go_wp2
  all_goals (go_ret; refine ⟨ret_bool ?_, rfl⟩; rw [Bool.eq_iff_iff]; simp [Ak.known]; omega)

set_option maxHeartbeats 400000 in
theorem reads_any (fc : Int) (w : World) :
    Calls Try.prog 35 #[.int .i64 fc] w fun e w' => e = .returned (.int .i64 (Ak.reads fc)) ∧ w = w' := by
  go_enter Try.func35, Try.ntmps35
  go_wp2
  all_goals (go_ret; refine ⟨ret_int ?_, rfl⟩; simp_all [Ak.reads])

set_option maxHeartbeats 400000 in
theorem writes_any (fc : Int) (w : World) :
    Calls Try.prog 36 #[.int .i64 fc] w fun e w' => e = .returned (.tuple #[.int .i64 (Ak.wmax fc), .int .i64 (Ak.wtwo fc), .int .i64 (Ak.wtop fc)]) ∧ w = w' := by
  go_enter Try.func36, Try.ntmps36
  go_wp2
  all_goals (go_ret3; refine ⟨ret_ints3 ?_ ?_ ?_, rfl⟩ <;> simp_all [Ak.wmax, Ak.wtwo, Ak.wtop])

/-- What the loop of all holds: the first k are in the range. -/
def AllRel (w : World) (n : Nat) (most : Int) (zs : List Int) (i : Value) (wr : World) : Prop :=
  ∃ k : Nat, k ≤ n ∧ i = .int .i64 k ∧ Ak.allTo most (zs.take k) = true ∧ w = wr
theorem allTo_snoc (most : Int) (l : List Int) (z : Int) : Ak.allTo most (l ++ [z]) = (Ak.allTo most l && Ak.inTo most z) := by simp [Ak.allTo]
theorem allTo_false (most : Int) (l : List Int) (k : Nat) (h : k < l.length) (hz : Ak.inTo most (l.getD k 0) = false) : Ak.allTo most l = false := by
  rw [← List.take_append_drop (k + 1) l, Co.take_snoc l k h]
  simp [Ak.allTo]
  rw [List.getD_eq_getElem?_getD] at hz
  simp [hz]
set_option maxHeartbeats 400000 in
theorem all_any (A : Option Addr) (n c : Nat) (zs : List Int) (most : Int) (w : World) (hn : n ≤ 1000000) (hA : Ints .i64 w w.heap.size A n zs) :
    Calls Try.prog 37 #[.slice A n c, .int .i64 most] w fun e w' => e = .returned (.bool (Ak.allTo most zs)) ∧ Quiet w w' := by
  have HL := Lib.hid hA.1
  go_enter Try.func37, Try.ntmps37
  go_wp2
  go_loopw [5] (fun i wr => AllRel w n most zs i wr) (fun i _ => n - (intOf i).toNat)
  case atStart => exact ⟨0, Nat.zero_le _, rfl, rfl, rfl⟩
  case round =>
    obtain ⟨k, hk, rfl, hall, rfl⟩ := hrel
    have HALL := Lib.hid hall
    clear hall
    by_cases hlt : k < n
    · obtain ⟨b, off, rfl, hb, hc⟩ := hA.2 (by omega)
      have hck := hc k hlt
      clear hc
      obtain ⟨z, hz⟩ : ∃ z, z = zs.getD k 0 := ⟨_, rfl⟩
      rw [← hz] at hck
      have HZ := Lib.hid hz
      clear hz
      by_cases h0 : Ak.inTo most z = true
      · have h1 := (Ak.inTo_iff most z).1 h0
        have d1 : decide (z < 0) = false := by simp; omega
        have d2 : decide (most < z) = false := by simp; omega
        go_wp2
        refine ⟨⟨k + 1, by omega, by go_num, ?_, rfl⟩, by simp [intOf]; omega⟩
        rw [Co.take_snoc zs k (by rw [HL.out]; exact hlt), allTo_snoc, HALL.out, ← HZ.out, h0]; rfl
      · have hf : Ak.allTo most zs = false := allTo_false most zs k (by rw [HL.out]; exact hlt) (by rw [← HZ.out]; simpa using h0)
        have HF := Lib.hid hf
        clear hf
        have h1 : z < 0 ∨ (0 ≤ z ∧ most < z) := by
          have := mt (Ak.inTo_iff most z).2 h0
          omega
        rcases h1 with h1 | h1
        · have d1 : decide (z < 0) = true := by simp; omega
          go_wp2
          go_ret
          rw [HF.out]
          exact ⟨rfl, Quiet.refl _⟩
        · have d1 : decide (z < 0) = false := by simp; omega
          have d2 : decide (most < z) = true := by simp; omega
          go_wp2
          go_ret
          rw [HF.out]
          exact ⟨rfl, Quiet.refl _⟩
    · obtain rfl : k = n := by omega
      have e := HALL.out
      rw [List.take_of_length_le (by rw [HL.out]; omega)] at e
      have HE := Lib.hid e
      clear e
      go_wp2
      go_ret
      rw [HE.out]
      exact ⟨rfl, Quiet.refl _⟩
end Go.Proofs.Ytijnajlijdnbcaa.Ref6
