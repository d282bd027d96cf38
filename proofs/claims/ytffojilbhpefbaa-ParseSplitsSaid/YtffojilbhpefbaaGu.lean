/- Layer 2's functions: each answers what the plain words of GuA say. Conditions: texts at most a million bytes; the library's table lies. -/
import Derived.Test.YtffojilbhpefbaaItoa
import Derived.Recover
import Derived.WalkLawsBesides
namespace Go.Proofs.Ytffojilbhpefbaa.Guard
open Go.ChangeShapes Go.WideShapes Go.ChangeAt Go.RowKit

set_option maxHeartbeats 400000 in
theorem isDigit_any (b : Int) (w : World) :
    Calls Try.prog 75 #[.int .u8 b] w fun e w' => e = .returned (.bool (Gu.dgB b)) ∧ w = w' := by
  by_cases h0 : b < 48
  · have e := Gu.dgB_lo h0
    have h0' : ¬ 48 ≤ b := by omega
    rw [e]
    clear e h0
    go_enter Try.func75, Try.ntmps75
    go_wp2
    go_ret
    exact ⟨rfl, rfl⟩
  · by_cases h1 : 57 < b
    · have e := Gu.dgB_hi h1
      have h0' : 48 ≤ b := by omega
      have h1' : ¬ b ≤ 57 := by omega
      rw [e]
      clear e h0 h1
      go_enter Try.func75, Try.ntmps75
      go_wp2
      go_ret
      exact ⟨rfl, rfl⟩
    · have h0' : 48 ≤ b := by omega
      have h1' : b ≤ 57 := by omega
      rw [Gu.dgB_mk h0' h1']
      go_enter Try.func75, Try.ntmps75
      go_wp2
      go_ret
      exact ⟨rfl, rfl⟩

/-- The panic that ends a reading. -/
def Wrong (e : Ending) : Prop := e = .panicked [{ v := .iface 92 (.agg #[]), recovered := false }]

set_option maxHeartbeats 400000 in
theorem digit_yes (b : Int) (w : World) (h : Gu.dgB b = true) :
    Calls Try.prog 68 #[.int .u8 b] w fun e w' => e = .returned (.int .i64 (b - 48)) ∧ w = w' := by
  have h0 := Gu.dgB_out h
  obtain ⟨h1, h2⟩ := h0
  go_enter Try.func68, Try.ntmps68
  go_wp2_with fail
  refine (isDigit_any b _).mono ?_
  rintro e w1 ⟨rfl, rfl⟩
  go_wp2
  go_ret
  exact ⟨rfl, rfl⟩
set_option maxHeartbeats 400000 in
theorem digit_no (b : Int) (w : World) (h : Gu.dgB b = false) :
    Calls Try.prog 68 #[.int .u8 b] w fun e w' => Wrong e ∧ w = w' := by
  go_enter Try.func68, Try.ntmps68
  go_wp2_with fail
  refine (isDigit_any b _).mono ?_
  rintro e w1 ⟨rfl, rfl⟩
  go_wp2
  exact ⟨rfl, rfl, rfl⟩
set_option maxHeartbeats 400000 in
theorem atMost_yes (n : Int) (w : World) (h : n ≤ 9007199254740992) :
    Calls Try.prog 67 #[.int .i64 n] w fun e w' => e = .returned (.int .i64 n) ∧ w = w' := by
  have h' : ¬ 9007199254740992 < n := by omega
  go_enter Try.func67, Try.ntmps67
  go_wp2
  go_ret
  exact ⟨rfl, rfl⟩
set_option maxHeartbeats 400000 in
theorem atMost_no (n : Int) (w : World) (h : 9007199254740992 < n) :
    Calls Try.prog 67 #[.int .i64 n] w fun e w' => Wrong e ∧ w = w' := by
  go_enter Try.func67, Try.ntmps67
  go_wp2
  exact ⟨rfl, rfl, rfl⟩

/-- How a reading ends. -/
def ReadEnd (l : List UInt8) (w : World) (e : Ending) (w' : World) : Prop :=
  ((Gu.getOk l = true ∧ e = .returned (.int .i64 (Gu.val l))) ∨ (Gu.getOk l = false ∧ Wrong e)) ∧ Quiet w w'
/-- What holds at the head of the reading's rounds. -/
def ReadRel (w : World) (s : ByteArray) (n i : Value) (wr : World) : Prop :=
  ∃ k : Nat, k ≤ s.size ∧ i = .int .i64 k ∧ n = .int .i64 (Gu.val ((bl s).take k)) ∧ ((bl s).take k).all Gu.dig = true ∧ Gu.val ((bl s).take k) ≤ 9007199254740992 ∧ Quiet w wr

set_option maxHeartbeats 1000000 in
theorem read_any (s : ByteArray) (w : World) (hs : s.size ≤ 1000000) :
    Calls Try.prog 56 #[.string s] w (ReadEnd (bl s) w) := by
  by_cases hz : s.size = 0
  · have h0 : s = ⟨#[]⟩ := by
      cases s; rename_i d
      have hd : d.size = 0 := hz
      rw [Array.eq_empty_of_size_eq_zero hd]
    subst h0
    clear hs hz
    go_enter Try.func56, Try.ntmps56
    go_wp2
    exact ⟨rfl, .inr ⟨rfl, rfl⟩, Quiet.refl _⟩
  · have hne : bl s ≠ [] := by intro h; apply hz; rw [← bl_length, h]; rfl
    have hs1 := isEmpty_false hne
    by_cases hh : Gu.headOk (bl s) = true
    · have HH := Lib.hid hh
      have hx := idx (P := Try.prog) (k := .i64) s 0 Try.underlying9 (by omega) (by omega)
      have hcase : ((byteAt s 0 == 48) = true ∧ ¬ (1 : Int) < s.size) ∨ (byteAt s 0 == 48) = false := by
        by_cases h3 : byteAt s 0 = 48
        · left
          refine ⟨by simp [h3], ?_⟩
          simp only [Gu.headOk, decide_eq_true_eq] at hh
          rcases hh.2 with h4 | h4
          · exfalso
            apply h4
            apply UInt8.toNat_inj.1
            have h5 : ((((bl s).getD 0 0).toNat : Nat) : Int) = 48 := h3
            show ((bl s).getD 0 0).toNat = 48
            omega
          · rw [bl_length] at h4; omega
        · right; simp [h3]
      clear hh hne hz
      rcases hcase with ⟨hb, h1⟩ | hb
      all_goals
        go_enter Try.func56, Try.ntmps56
        go_wp2
        go_loopw [3, 21] (fun v i wr => ReadRel w s v i wr) (fun _ i _ => s.size - (intOf i).toNat)
        case atStart => exact ⟨0, Nat.zero_le _, rfl, rfl, rfl, Nat.zero_le _, Quiet.refl _⟩
        case round =>
          obtain ⟨k, hk, rfl, rfl, hall, hval, hq⟩ := hrel
          by_cases hlt : k < s.size
          · have hxk := idx (P := Try.prog) (k := .i64) s (k : Int) Try.underlying9 (by omega) (by omega)
            have hi1 : (k : Int) < s.size := by omega
            obtain ⟨b, hbe⟩ : ∃ b, b = byteAt s (k : Int) := ⟨_, rfl⟩
            rw [← hbe] at hxk
            have hbr := byteAt_range s (k : Int)
            rw [← hbe] at hbr
            obtain ⟨m, hm⟩ : ∃ m, m = Gu.val ((bl s).take k) := ⟨_, rfl⟩
            rw [← hm] at hval ⊢
            have HB := Lib.hid hbe
            have HM := Lib.hid hm
            have HA := Lib.hid hall
            clear hbe hm hall hx hb
            by_cases hd : Gu.dgB b = true
            · have hd2 := Gu.dgB_out hd
              by_cases hgr : 10 * (m : Int) + (b - 48) ≤ 9007199254740992
              · go_wp2_with fail
                refine (digit_yes b _ hd).mono ?_
                rintro e w1 ⟨rfl, rfl⟩
                go_wp2_with fail
                refine (atMost_yes _ _ hgr).mono ?_
                rintro e w1 ⟨rfl, rfl⟩
                go_wp2
                go_roundw
                case rel =>
                  have e1 := Gu.val_next s k hlt (by rw [← HB.out]; exact hd)
                  rw [← HB.out, ← HM.out] at e1
                  exact ⟨k + 1, by omega, by go_num, by rw [e1], Gu.all_next s k hlt HA.out (by rw [← HB.out]; exact hd), by omega, hq⟩
                case measure => simp [intOf]; omega
              · have e1 := Gu.too_great s k hlt (by rw [← HB.out]; exact hd) (by rw [← HB.out, ← HM.out]; omega)
                have HE := Lib.hid e1
                clear e1
                go_wp2_with fail
                refine (digit_yes b _ hd).mono ?_
                rintro e w1 ⟨rfl, rfl⟩
                go_wp2_with fail
                refine (atMost_no _ _ (by omega)).mono ?_
                rintro e w1 ⟨rfl, rfl⟩
                go_wp2
                exact ⟨rfl, .inr ⟨HE.out, rfl⟩, hq⟩
            · have hd : Gu.dgB b = false := by simpa using hd
              have e1 := Gu.no_digit s k hlt (by rw [← HB.out]; exact hd)
              have HE := Lib.hid e1
              clear e1
              go_wp2_with fail
              refine (digit_no b _ hd).mono ?_
              rintro e w1 ⟨rfl, rfl⟩
              go_wp2
              exact ⟨rfl, .inr ⟨HE.out, rfl⟩, hq⟩
          · obtain rfl : k = s.size := by omega
            have e1 := Gu.all_read s HH.out hall hval
            have e2 := Gu.val_whole s
            have HE := Lib.hid e1
            have HV := Lib.hid e2
            clear e1 e2 hall hval
            go_wp2
            go_ret
            exact ⟨.inl ⟨HE.out, by rw [HV.out]; rfl⟩, hq⟩
    · have hh : Gu.headOk (bl s) = false := by simpa using hh
      have e := Gu.getOk_nohead hh
      have h2 : 1 < s.size := by
        rcases Nat.lt_or_ge 1 s.size with h | h
        · exact h
        · exfalso
          have : s.size = 1 := by omega
          rw [← bl_length] at this
          simp [Gu.headOk, hne, this] at hh
      have h3 : byteAt s 0 = 48 := by
        have h4 : (bl s).getD 0 0 = 48 := by
          rw [← bl_length] at h2
          simp [Gu.headOk, hne] at hh
          exact hh.1
        show ((((bl s).getD 0 0).toNat : Nat) : Int) = 48
        rw [h4]; rfl
      have hx := idx (P := Try.prog) (k := .i64) s 0 Try.underlying9 (by omega) (by omega)
      rw [h3] at hx
      have HE := Lib.hid e
      have h2' : (1 : Int) < s.size := by omega
      clear e hh hne h3 hz
      go_enter Try.func56, Try.ntmps56
      go_wp2
      exact ⟨rfl, .inr ⟨HE.out, rfl⟩, Quiet.refl _⟩

end Go.Proofs.Ytffojilbhpefbaa.Guard
