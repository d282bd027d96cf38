/- Layer 2's reference: each function answers what the plain words of GuA say. Conditions: texts at most a million bytes. -/
import Derived.Test.YtffojilbhpefbaaRows
import Derived.Test.YtffojilbhpefbaaGuA
namespace Go.Proofs.Ytffojilbhpefbaa.Ref2
open Go.ChangeShapes Go.WideShapes Go.ChangeAt Go.RowKit

set_option maxHeartbeats 400000 in
theorem most_any (w : World) : Calls Try.prog 42 #[] w fun e w' => e = .returned (.int .i64 9007199254740992) ∧ w = w' := by
  go_enter Try.func42, Try.ntmps42
  go_wp2
  go_ret
  exact ⟨rfl, rfl⟩

/-- What holds at the head of the counting's rounds. -/
def LeadRel (w : World) (s : ByteArray) (i : Value) (wr : World) : Prop :=
  ∃ k : Nat, k ≤ s.size ∧ k ≤ Gu.lead (bl s) ∧ i = .int .i64 k ∧ Quiet w wr
set_option maxHeartbeats 1000000 in
theorem lead_any (s : ByteArray) (w : World) (hs : s.size ≤ 1000000) :
    Calls Try.prog 37 #[.string s] w fun e w' => e = .returned (.int .i64 (Gu.lead (bl s) : Nat)) ∧ Quiet w w' := by
  go_enter Try.func37, Try.ntmps37
  go_wp2
  go_loopw [3] (fun i wr => LeadRel w s i wr) (fun i _ => s.size - (intOf i).toNat)
  case atStart => exact ⟨0, Nat.zero_le _, Nat.zero_le _, rfl, Quiet.refl _⟩
  case round =>
    obtain ⟨k, hk, hkl, rfl, hq⟩ := hrel
    by_cases hlt : k < s.size
    · have hxk := idx (P := Try.prog) (k := .i64) s (k : Int) Try.underlying9 (by omega) (by omega)
      have hi1 : (k : Int) < s.size := by omega
      obtain ⟨b, hbe⟩ : ∃ b, b = byteAt s (k : Int) := ⟨_, rfl⟩
      rw [← hbe] at hxk
      have HB := Lib.hid hbe
      clear hbe
      by_cases h48 : 48 ≤ b
      · by_cases h57 : b ≤ 57
        · have hd := Gu.dgB_mk h48 h57
          have HD := Lib.hid hd
          clear hd
          go_wp2
          go_roundw
          case rel => exact ⟨k + 1, by omega, Gu.lead_step _ k hkl (by rw [bl_length]; exact hlt) (by rw [Gu.dig_at, ← HB.out]; exact HD.out), by go_num, hq⟩
          case measure => simp [intOf]; omega
        · have hd := Gu.dgB_hi (z := b) (by omega)
          have e1 := Gu.lead_stop _ k hkl (by rw [Gu.dig_at, ← HB.out]; exact hd)
          have HE := Lib.hid e1
          clear e1 hd
          go_wp2
          go_ret
          exact ⟨by rw [HE.out]; rfl, hq⟩
      · have hd := Gu.dgB_lo (z := b) (by omega)
        have e1 := Gu.lead_stop _ k hkl (by rw [Gu.dig_at, ← HB.out]; exact hd)
        have HE := Lib.hid e1
        clear e1 hd
        go_wp2
        go_ret
        exact ⟨by rw [HE.out]; rfl, hq⟩
    · have e1 : Gu.lead (bl s) = k := by
        have := Gu.lead_le (bl s)
        rw [bl_length] at this
        omega
      have HE := Lib.hid e1
      clear e1
      go_wp2
      go_ret
      exact ⟨by rw [HE.out]; rfl, hq⟩

/-- What holds at the head of the rounds that put digits. -/
def PutRel (w : World) (n : Int) (m s : Value) (wr : World) : Prop :=
  ∃ (k : Nat) (acc : List UInt8), m = .int .i64 k ∧ s = .string (st acc) ∧ (k : Int) ≤ 9007199254740992 ∧ Gu.put n = Lib.decDigits k ++ acc ∧ Keep w wr
set_option maxHeartbeats 1000000 in
theorem put_any (n : Int) (w : World) :
    Calls Try.prog 28 #[.int .i64 n] w fun e w' => e = .returned (.tuple #[.string (st (Gu.put n)), .bool (Gu.inR n)]) ∧ Keep w w' := by
  by_cases h0 : n < 0
  · have e := Gu.inR_lo h0
    rw [Gu.put_out e, e]
    clear e
    go_enter Try.func28, Try.ntmps28
    go_wp2
    go_ret2
    exact ⟨rfl, Keep.refl _⟩
  · by_cases h1 : 9007199254740992 < n
    · have e := Gu.inR_hi h1
      rw [Gu.put_out e, e]
      clear e
      go_enter Try.func28, Try.ntmps28
      go_wp2_with fail
      refine (most_any _).mono ?_
      rintro e w1 ⟨rfl, rfl⟩
      go_wp2
      go_ret2
      exact ⟨rfl, Keep.refl _⟩
    · have e := Gu.inR_mk (n := n) (by omega) (by omega)
      rw [e]
      have HE := Lib.hid e
      clear e
      go_enter Try.func28, Try.ntmps28
      go_wp2_with fail
      refine (most_any _).mono ?_
      rintro e w1 ⟨rfl, rfl⟩
      go_wp2
      go_loopw [0, 4] (fun m s wr => PutRel w n m s wr) (fun m _ _ => (intOf m).toNat)
      case atStart => exact ⟨n.toNat, [], by rw [Int.toNat_of_nonneg (by omega)], rfl, by omega, by rw [Gu.put_in HE.out, List.append_nil], Keep.refl _⟩
      case round =>
        obtain ⟨k, acc, rfl, rfl, hk, hput, hkeep⟩ := hrel
        obtain ⟨d, hd⟩ : ∃ d, d = UInt8.ofNat (48 + k % 10) := ⟨_, rfl⟩
        have hdn : (d.toNat : Int) = 48 + (k : Int) % 10 := by rw [hd, Gu.digit_byte _ (by omega)]; omega
        have hcv : ∀ w : World, (convert 84 9 (.slice (some ⟨w.heap.size, 0, none⟩) 1 1)).run Try.prog (w.alloc (.cells #[.int .u8 (48 + (k : Int) % 10)] 5)) = .ok (.string (st [d])) (w.alloc (.cells #[.int .u8 (48 + (k : Int) % 10)] 5)) :=
          fun w => conv_new Try.underlying84 Try.underlying5 Try.underlying9 _ 1 [d] (by simp [bv, hdn]) rfl
        have hal : acc.length ≤ 16 := by
          have h1 := congrArg List.length hput
          have h2 := Gu.put_len n
          rw [List.length_append] at h1
          omega
        have hadd := add_st (P := Try.prog) [d] acc (by simp; omega)
        have HP := Lib.hid hput
        have HD := Lib.hid hd
        have hkeep2 := hkeep.alloc (.cells #[.int .u8 (48 + (k : Int) % 10)] 5)
        clear hput hd hdn hal hkeep
        by_cases hk0 : k < 10
        · have hz : ((k : Int) / 10 == 0) = true := by simp; omega
          have e1 : Gu.put n = [d] ++ acc := by rw [HP.out, Gu.dec_small hk0, HD.out, Nat.mod_eq_of_lt hk0]
          have HE1 := Lib.hid e1
          clear e1 hk0
          go_wp2
          go_ret2
          exact ⟨by rw [HE1.out]; rfl, hkeep2⟩
        · have hz : ((k : Int) / 10 == 0) = false := by simp; omega
          have e1 : Gu.put n = Lib.decDigits (k / 10) ++ ([d] ++ acc) := by rw [HP.out, Gu.dec_big hk0, HD.out, List.append_assoc]
          have HE1 := Lib.hid e1
          clear e1
          go_wp2
          go_roundw
          case rel => exact ⟨k / 10, [d] ++ acc, congrArg (Value.int .i64) (by omega), rfl, by omega, HE1.out, hkeep2⟩
          case measure => simp [intOf]; omega

/-- What holds at the head of the rounds that read digits. -/
def GetRel (w : World) (s : ByteArray) (n i : Value) (wr : World) : Prop :=
  ∃ k : Nat, k ≤ s.size ∧ i = .int .i64 k ∧ n = .int .i64 (Gu.val ((bl s).take k)) ∧ Quiet w wr
set_option maxHeartbeats 1000000 in
theorem get_any (s : ByteArray) (w : World) (hs : s.size ≤ 1000000) :
    Calls Try.prog 38 #[.string s] w fun e w' => e = .returned (.tuple #[.int .i64 (Gu.getN (bl s)), .bool (Gu.getOk (bl s))]) ∧ Keep w w' := by
  by_cases h0 : s.size = 0
  · have e := Gu.getOk_nil (l := bl s) (by rw [bl_length]; exact h0)
    rw [Gu.getN_no e, e]
    have hz : ((s.size : Int) == 0) = true := by simp [h0]
    clear e h0
    go_enter Try.func38, Try.ntmps38
    go_wp2
    go_ret2
    exact ⟨rfl, Keep.refl _⟩
  · have hz : ((s.size : Int) == 0) = false := by rw [beq_eq_false_iff_ne]; omega
    by_cases h16 : 16 < s.size
    · have e := Gu.getOk_long (l := bl s) (by rw [bl_length]; exact h16)
      rw [Gu.getN_no e, e]
      have hz2 : (16 : Int) < s.size := by omega
      clear e h0
      go_enter Try.func38, Try.ntmps38
      go_wp2
      go_ret2
      exact ⟨rfl, Keep.refl _⟩
    · have hz2 : ¬ (16 : Int) < s.size := by omega
      by_cases hl : Gu.lead (bl s) < s.size
      · have e := Gu.getOk_lead (l := bl s) (by rw [bl_length]; exact hl)
        rw [Gu.getN_no e, e]
        have hz3 : (Gu.lead (bl s) : Int) < s.size := by omega
        clear e h0
        go_enter Try.func38, Try.ntmps38
        go_wp2_with fail
        refine (lead_any s _ hs).mono ?_
        rintro e w1 ⟨rfl, hq⟩
        go_wp2
        go_ret2
        exact ⟨rfl, hq.keep⟩
      · have hle : Gu.lead (bl s) = (bl s).length := by have := Gu.lead_le (bl s); rw [bl_length] at this ⊢; omega
        have hall := (Gu.lead_all _).1 hle
        have href := Gu.getOk_ref hle
        have HALL := Lib.hid hall
        have HREF := Lib.hid href
        have hz3 : ¬ (Gu.lead (bl s) : Int) < s.size := by omega
        clear hall href hle hl h0
        go_enter Try.func38, Try.ntmps38
        go_wp2_with fail
        refine (lead_any s _ hs).mono ?_
        rintro e w1 ⟨rfl, hq⟩
        go_wp2
        go_loopw [4, 5] (fun n i wr => GetRel w s n i wr) (fun _ i _ => s.size - (intOf i).toNat)
        case atStart => exact ⟨0, Nat.zero_le _, rfl, rfl, hq⟩
        case round =>
          clear hq
          obtain ⟨k, hk, rfl, rfl, hq⟩ := hrel
          by_cases hlt : k < s.size
          · have hxk := idx (P := Try.prog) (k := .i64) s (k : Int) Try.underlying9 (by omega) (by omega)
            have hi1 : (k : Int) < s.size := by omega
            have hd : Gu.dgB (byteAt s (k : Int)) = true := by
              rw [← Gu.dig_at]
              have := List.all_eq_true.1 HALL.out ((bl s).getD k 0) (by rw [List.getD_eq_getElem?_getD, List.getElem?_eq_getElem (by rw [bl_length]; exact hlt)]; exact List.getElem_mem _)
              exact this
            have e1 := Gu.val_next s k hlt hd
            have hd2 := Gu.dgB_out hd
            have hval : Gu.val ((bl s).take k) < 10000000000000000 := by
              have h1 := Gu.val_lt ((bl s).take k) (List.all_eq_true.2 fun c hc => List.all_eq_true.1 HALL.out c (List.mem_of_mem_take hc))
              have h2 : ((bl s).take k).length ≤ 16 := by rw [List.length_take]; omega
              exact Nat.lt_of_lt_of_le h1 (Nat.pow_le_pow_right (n := 10) (by decide) h2)
            obtain ⟨b, hbe⟩ : ∃ b, b = byteAt s (k : Int) := ⟨_, rfl⟩
            rw [← hbe] at hxk hd2 e1
            obtain ⟨m, hm⟩ : ∃ m, m = Gu.val ((bl s).take k) := ⟨_, rfl⟩
            rw [← hm] at hval e1 ⊢
            have HE1 := Lib.hid e1
            clear e1 hbe hm hd
            go_wp2
            go_roundw
            case rel => exact ⟨k + 1, by omega, by go_num, by rw [HE1.out]; exact congrArg (Value.int .i64) (by omega), hq⟩
            case measure => simp [intOf]; omega
          · obtain rfl : k = s.size := by omega
            have e2 := Gu.val_whole s
            rw [e2]
            have hval : Gu.val (bl s) < 10000000000000000 := by
              have h1 := Gu.val_lt (bl s) HALL.out
              have h2 : (bl s).length ≤ 16 := by rw [bl_length]; omega
              exact Nat.lt_of_lt_of_le h1 (Nat.pow_le_pow_right (n := 10) (by decide) h2)
            clear e2
            obtain ⟨m, hm⟩ : ∃ m, m = Gu.val (bl s) := ⟨_, rfl⟩
            rw [← hm] at hval ⊢
            have HM := Lib.hid hm
            clear hm
            go_wp2_with fail
            refine (put_any (m : Int) _).mono ?_
            rintro e w2 ⟨rfl, hb⟩
            have hkp : Keep w w2 := hq.keep.trans hb
            have HR := HREF.out
            rw [← HM.out] at HR
            by_cases hin : Gu.inR (m : Int) = true
            · by_cases heq : Gu.put (m : Int) = bl s
              · have hne : ((st (Gu.put (m : Int))).toList == s.toList) = true := by rw [toList_eq, toList_eq, bl_st, heq]; simp
                have e3 : Gu.getOk (bl s) = true := by rw [HR, hin]; simp [heq]
                have HE3 := Lib.hid e3
                have HIN := Lib.hid hin
                clear HR heq e3 hb hq
                rw [HIN.out]
                go_wp2
                go_ret2
                exact ⟨by rw [Gu.getN_ok HE3.out, HE3.out, ← HM.out]; rfl, hkp⟩
              · have hne : ((st (Gu.put (m : Int))).toList == s.toList) = false := by rw [toList_eq, toList_eq, bl_st, beq_eq_false_iff_ne]; exact heq
                have e3 : Gu.getOk (bl s) = false := by rw [HR, hin]; simp [heq]
                have HE3 := Lib.hid e3
                have HIN := Lib.hid hin
                clear HR heq e3 hb hq
                rw [HIN.out]
                go_wp2
                go_ret2
                exact ⟨by rw [Gu.getN_no HE3.out, HE3.out]; rfl, hkp⟩
            · have hin : Gu.inR (m : Int) = false := by simpa using hin
              have e3 : Gu.getOk (bl s) = false := by rw [HR, hin]; rfl
              have HE3 := Lib.hid e3
              have HIN := Lib.hid hin
              clear HR e3 hb hq
              rw [HIN.out]
              go_wp2
              go_ret2
              exact ⟨by rw [Gu.getN_no HE3.out, HE3.out]; rfl, hkp⟩
end Go.Proofs.Ytffojilbhpefbaa.Ref2
