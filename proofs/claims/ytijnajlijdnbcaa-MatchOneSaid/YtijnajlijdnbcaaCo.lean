/- Layer 5's functions: each answers what the plain words of CoA say. Conditions: lengths at most a million. -/
import Derived.Test.YtijnajlijdnbcaaRows
import Derived.Test.YtijnajlijdnbcaaCoA
import Derived.Test.YtijnajlijdnbcaaInt
import Derived.RegionTactic
namespace Go.Proofs.Ytijnajlijdnbcaa.Coil
set_option maxRecDepth 100000
open Go.ChangeShapes Go.WideShapes Go.ChangeAt Go.RowKit

theorem info_uint8 : (Try.prog.info? 5).map (fun i => (i.zero, i.size, i.bytes)) = some (some (.int .u8 0), 1, 1) := by kernel_rfl
theorem info_int : (Try.prog.info? 3).map (fun i => (i.zero, i.size, i.bytes)) = some (some (.int .i64 0), 1, 8) := by kernel_rfl

set_option maxHeartbeats 400000 in
theorem size_any (n : Int) (w : World) (hn : n ≤ 9223372036854775807) :
    Calls Try.prog 66 #[.int .i64 n] w fun e w' => e = .returned (.int .i64 (Co.size n)) ∧ w = w' := by
  by_cases h0 : n ≤ 0
  · have e : Co.size n = 0 := by
      unfold Co.size
      split
      · rfl
      · omega
    rw [e]
    go_enter Try.func66, Try.ntmps66
    go_wp2
    go_ret
    exact ⟨rfl, rfl⟩
  · have e : Co.size n = (n - 1) / 8 + 1 := by
      unfold Co.size
      rw [if_neg (by omega)]
      omega
    rw [e]
    clear e
    go_enter Try.func66, Try.ntmps66
    go_wp2
    go_ret
    exact ⟨rfl, rfl⟩

set_option maxHeartbeats 400000 in
theorem left_any (s : ByteArray) (n : Int) (w : World) (hs : s.size ≤ 1000000) (h0 : 0 ≤ n) (he : (s.size : Int) = Co.size n) :
    Calls Try.prog 67 #[.string s, .int .i64 n] w fun e w' => e = .returned (.bool (Co.left s n)) ∧ Quiet w w' := by
  by_cases hu : 0 < n % 8
  · have hp : 0 < s.size := by
      unfold Co.size at he
      split at he <;> omega
    have e1 : Co.left s n = !(byteAt s ((s.size : Int) - 1) / 2 ^ (n % 8).toNat == 0) := by
      rw [Co.left, show decide (0 < n % 8) = true from by simpa using hu, Bool.true_and]
    rw [e1]
    clear e1 he
    have hx1 := idx (P := Try.prog) (k := .i64) s ((s.size : Int) - 1) Try.underlying9 (by omega) (by omega)
    have hr1 := byteAt_range s ((s.size : Int) - 1)
    go_enter Try.func67, Try.ntmps67
    go_wp2
    go_ret
    exact ⟨rfl, Quiet.refl _⟩
  · have e1 : Co.left s n = false := by
      rw [Co.left, show decide (0 < n % 8) = false from by simp; omega, Bool.false_and]
    rw [e1]
    clear e1 he
    go_enter Try.func67, Try.ntmps67
    go_wp2
    go_ret
    exact ⟨rfl, Quiet.refl _⟩

/-- What the loop of Put holds behind k bits. -/
def PutRel (w : World) (n : Nat) (zs : List Int) (i : Value) (wr : World) : Prop :=
  ∃ k : Nat, k ≤ n ∧ i = .int .i64 k ∧ wr.ownsRow w.heap.size 5 1 (.slice (some ⟨w.heap.size, 0, none⟩) (Co.nsize n) (Co.nsize n)) (Co.nsize n) ((Co.cells zs (Co.nsize n) k).map (Value.int .u8)) ∧ Below w.heap.size w wr ∧ Co.allBits (zs.take k) = true

set_option maxHeartbeats 400000 in
theorem put_any (A : Option Addr) (n c : Nat) (zs : List Int) (w : World) (hn : n ≤ 1000000) (hA : Ints .i64 w w.heap.size A n zs) :
    Calls Try.prog 59 #[.slice A n c] w fun e w' => e = .returned (.tuple #[.string (st (Co.put zs)), .bool (Co.allBits zs)]) ∧ Below w.heap.size w w' := by
  obtain ⟨i0, hi, hz0, hz1, hz2⟩ := info_parts info_uint8
  have hlen := hA.1
  have HL := Lib.hid hlen
  clear hlen
  have hsz := Co.size_nat n
  have HSZ := Lib.hid hsz
  clear hsz
  have hns : Co.nsize n ≤ n := by unfold Co.nsize; omega
  go_enter Try.func59, Try.ntmps59
  go_wp2_with fail
  refine (size_any (n : Int) _ (by omega)).mono ?_
  rintro e w1 ⟨rfl, rfl⟩
  rw [HSZ.out]
  go_wp2_with (at_make; refine wpList_make_full _ rfl _ _ 53 rfl w.heap.size 5 i0 (.int .u8 0) 1 Try.underlying53 hi hz0 hz1 _ _ _ _ (Co.nsize n) rfl rfl rfl rfl ?b2 ?b3 (Nat.le_refl _) ?_)
  case b2 => rw [hz2]; omega
  case b3 => unfold maxLen; omega
  intro w0 hown0 hgrow0
  go_wp2
  go_loopw [13] (fun i wr => PutRel w n zs i wr) (fun i _ => n - (intOf i).toNat)
  case atStart => exact ⟨0, Nat.zero_le _, rfl, by rw [Co.cells_zero, ← made_ints, Nat.mul_one]; exact hown0, (Below.refl _ _).grown hgrow0 (Nat.le_refl _) (fun k h => by cases h), rfl⟩
  case round =>
    obtain ⟨k, hk, rfl, hown, hbel, hall⟩ := hrel
    have HALL := Lib.hid hall
    clear hall
    by_cases hlt : k < n
    · obtain ⟨b, off, rfl, hb, hc⟩ := hA.2 (by omega)
      have hck := (hbel.cell (p := ⟨b, off + k, none⟩) hb).trans (hc k hlt)
      clear hc
      obtain ⟨z, hz⟩ : ∃ z, z = zs.getD k 0 := ⟨_, rfl⟩
      rw [← hz] at hck
      have HZ := Lib.hid hz
      clear hz
      by_cases h0 : z = 0 ∨ z = 1
      · have hin : k / 8 < Co.nsize n := by unfold Co.nsize; omega
        have hrm := Co.val_room zs k HALL.out
        have hcx : wr.cell? ⟨w.heap.size, k / 8, none⟩ = some (.int .u8 (Co.val zs (8 * (k / 8)) (k % 8) : Int)) := by
          rw [hown.cellAt _ (by omega), List.getElem?_map, Co.cells_get _ _ _ hin]; rfl
        have hfz : wr.frozen? ⟨w.heap.size, k / 8, none⟩ = false := hown.frozenAt _
        rcases h0 with rfl | rfl
        · have hbit : Co.bit zs k = 0 := by unfold Co.bit; rw [← HZ.out]; rfl
          go_wp2
          go_region
          go_wp2
          have hr := Co.put_round hown hbel hin HALL.out (by rw [hbit]; decide) (bits .or .u8 (Co.val zs (8 * (k / 8)) (k % 8) : Int) (0)) (by
            rw [hbit, show (0 : Int) = ((0 * 2 ^ (k % 8) : Nat) : Int) from by simp]
            exact Co.or_sum _ _ _ hrm (by decide) (Nat.mod_lt _ (by decide)))
          go_roundw
          case rel =>
            refine ⟨k + 1, by omega, by go_num, hr.1, hr.2, ?_⟩
            rw [Co.take_snoc zs k (by rw [HL.out]; exact hlt), Co.all_snoc, HALL.out, ← HZ.out]; rfl
          case measure => simp [intOf]; omega
        · have hbit : Co.bit zs k = 1 := by unfold Co.bit; rw [← HZ.out]; rfl
          go_wp2
          go_region
          go_wp2
          have hr := Co.put_round hown hbel hin HALL.out (by rw [hbit]; decide) (bits .or .u8 (Co.val zs (8 * (k / 8)) (k % 8) : Int) (2 ^ (k % 8) % 256)) (by
            rw [hbit, show (2 ^ (k % 8) % 256 : Int) = ((1 * 2 ^ (k % 8) : Nat) : Int) from by
              have := Co.pow_le (k % 8) (Nat.mod_lt _ (by decide))
              rw [Nat.pow_succ] at this
              rw [Nat.one_mul, Int.emod_eq_of_lt (Int.le_of_lt (Int.pow_pos (by decide))) (by have : ((2 ^ (k % 8) : Nat) : Int) < 256 := by omega
                                                                                              simpa using this)]
              simp]
            exact Co.or_sum _ _ _ hrm (by decide) (Nat.mod_lt _ (by decide)))
          go_roundw
          case rel =>
            refine ⟨k + 1, by omega, by go_num, hr.1, hr.2, ?_⟩
            rw [Co.take_snoc zs k (by rw [HL.out]; exact hlt), Co.all_snoc, HALL.out, ← HZ.out]; rfl
          case measure => simp [intOf]; omega
      · have hz0' : (z != 0) = true := by simp; omega
        have hz1' : (z != 1) = true := by simp; omega
        go_wp2
        go_ret2
        have e := Co.all_false zs k (by rw [HL.out]; exact hlt) (by rw [← HZ.out, Co.isBit]; simp; omega)
        rw [Co.put, e]
        exact ⟨rfl, hbel⟩
    · obtain rfl : k = n := by omega
      have hx : Co.allBits zs = true := by
        have e := HALL.out
        rwa [List.take_of_length_le (by rw [HL.out]; omega)] at e
      have hcs : (Co.cells zs (Co.nsize k) k).map (Value.int .u8) = (Co.bytes zs).map bv := by
        have := Co.cells_all zs hx
        rwa [HL.out] at this
      rw [hcs] at hown
      have hcv := own_string (P := Try.prog) Try.underlying53 Try.underlying5 hown 9 Try.underlying9
      have HX := Lib.hid hx
      clear hown hcs hx
      go_wp2
      go_ret2
      rw [Co.put, HX.out]
      exact ⟨rfl, hbel⟩

/-- What the loop of Get holds behind k bits. -/
def GetRel (w : World) (s : ByteArray) (n : Nat) (i : Value) (wr : World) : Prop :=
  ∃ k : Nat, k ≤ n ∧ i = .int .i64 k ∧ wr.ownsRow w.heap.size 3 1 (.slice (some ⟨w.heap.size, 0, none⟩) n n) n ((Co.bitsOf s k ++ List.replicate (n - k) (0 : Int)).map (Value.int .i64)) ∧ Below w.heap.size w wr

set_option maxHeartbeats 400000 in
theorem getF_any (s : ByteArray) (n : Int) (w : World) (hs : s.size ≤ 1000000) (hn : n ≤ 9223372036854775807) :
    Calls Try.prog 57 #[.string s, .int .i64 n] w (RetIntsF (Co.get s n) (Co.getOk s n) w) := by
  by_cases h0 : n < 0
  · have e : Co.getOk s n = false := by rw [Co.getOk, show decide (0 ≤ n) = false from by simp; omega]; rfl
    have HE := Lib.hid e
    clear e
    go_enter Try.func57, Try.ntmps57
    go_wp2
    go_ret2
    exact ⟨none, 0, 0, by rw [HE.out]; rfl, by rw [Co.get, HE.out]; exact Ints.none_ _ _ _ _, Below.refl _ _, Fresh.zero _ _⟩
  · by_cases hsz : (s.size : Int) = Co.size n
    · have hlf := Co.left_eq s n (by omega) hsz
      have HLF := Lib.hid hlf
      clear hlf
      by_cases hl : Co.left s n = true
      · have e : Co.getOk s n = false := by rw [Co.getOk, HLF.out, hl]; simp
        have HE := Lib.hid e
        have HSZ := Lib.hid hsz
        clear e
        have hd : ((s.size : Int) != Co.size n) = false := by simp [hsz]
        clear hsz
        go_enter Try.func57, Try.ntmps57
        go_wp2_with fail
        refine (size_any n _ hn).mono ?_
        rintro e w1 ⟨rfl, rfl⟩
        go_wp2_with fail
        refine (left_any s n _ hs (by omega) HSZ.out).mono ?_
        rintro e w1 ⟨rfl, hq⟩
        rw [hl]
        go_wp2
        go_ret2
        exact ⟨none, 0, 0, by rw [HE.out]; rfl, by rw [Co.get, HE.out]; exact Ints.none_ _ _ _ _, hq.below _, Fresh.zero _ _⟩
      · replace hl : Co.left s n = false := by simpa using hl
        have e : Co.getOk s n = true := by
          rw [Co.getOk, HLF.out, hl, show decide (0 ≤ n) = true from by simp; omega, show decide ((s.size : Int) = Co.size n) = true from by simpa using hsz]; rfl
        have HE := Lib.hid e
        clear e
        obtain ⟨m, rfl⟩ := Int.eq_ofNat_of_zero_le (show 0 ≤ n by omega)
        have hm : s.size = Co.nsize m := by
          have := Co.size_nat m
          rw [hsz.symm] at this
          omega
        have HM := Lib.hid hm
        have hmle : m ≤ 8000000 := by unfold Co.nsize at hm; omega
        have HSZ := Lib.hid hsz
        have hd : ((s.size : Int) != Co.size (m : Int)) = false := by simp [hsz]
        clear hsz hm
        obtain ⟨i0, hi, hz0, hz1, hz2⟩ := info_parts info_int
        go_enter Try.func57, Try.ntmps57
        go_wp2_with fail
        refine (size_any (m : Int) _ hn).mono ?_
        rintro e w1 ⟨rfl, rfl⟩
        go_wp2_with fail
        refine (left_any s (m : Int) _ hs (by omega) HSZ.out).mono ?_
        rintro e w1 ⟨rfl, hq⟩
        rw [hl]
        have hbq := hq.below w.heap.size
        have hqs := hq.size
        go_wp2_with (at_make; refine wpList_make_full _ rfl _ _ 31 rfl w1.heap.size 3 i0 (.int .i64 0) 1 Try.underlying31 hi hz0 hz1 _ _ _ _ m rfl rfl rfl rfl ?b2 ?b3 (Nat.le_refl _) ?_)
        case b2 => rw [hz2]; omega
        case b3 => unfold maxLen; omega
        intro w0 hown0 hgrow0
        go_wp2
        rw [hqs] at *
        go_loopw [26] (fun i wr => GetRel w s m i wr) (fun i _ => m - (intOf i).toNat)
        case atStart =>
          refine ⟨0, Nat.zero_le _, rfl, ?_, hbq.trans ((Below.refl _ _).grown hgrow0 (Nat.le_of_eq hq.size.symm) (fun k h => by cases h))⟩
          have := made_ints .i64 m
          rw [Nat.mul_one] at this
          rw [show Co.bitsOf s 0 ++ List.replicate (m - 0) (0 : Int) = List.replicate m 0 from rfl, ← this]
          exact hown0
        case round =>
          obtain ⟨k, hk, rfl, hown, hbel⟩ := hrel
          by_cases hlt : k < m
          · have hk8 : k / 8 < s.size := by rw [HM.out]; unfold Co.nsize; omega
            have hx1 := idx (P := Try.prog) (k := .i64) s ((k : Int) / 8) Try.underlying9 (by omega) (by omega)
            have hr1 := byteAt_range s ((k : Int) / 8)
            have hst := own_write_int hown k (Co.nbit s k)
            rw [Co.fill_set s m k hlt] at hst
            have hck := hown.cellAt k (by omega)
            rw [List.getElem?_map, List.getElem?_append_right (by rw [Co.bits_len]; exact Nat.le_refl _), Co.bits_len, Nat.sub_self, List.getElem?_replicate, if_pos (by omega)] at hck
            simp only [Option.map_some] at hck
            have hfz : wr.frozen? ⟨w.heap.size, k, none⟩ = false := hown.frozenAt _
            go_wp2
            rw [Co.nbit_mask]
            refine ⟨⟨k + 1, by omega, by go_num, hst, hbel.setCell (Nat.le_refl _) _⟩, ?_⟩
            simp [intOf]; omega
          · obtain rfl : k = m := by omega
            rw [Nat.sub_self, List.replicate_zero, List.append_nil] at hown
            go_wp2
            go_ret2
            refine ⟨some ⟨w.heap.size, 0, none⟩, k, k, by rw [HE.out]; rfl, ?_, hbel, Fresh.of_own hown (Nat.le_refl _)⟩
            rw [Co.get, HE.out]
            exact Ints.of_own hown
    · have e : Co.getOk s n = false := by rw [Co.getOk, show decide ((s.size : Int) = Co.size n) = false from by simpa using hsz]; simp
      have HE := Lib.hid e
      clear e
      have hd : ((s.size : Int) != Co.size n) = true := by simpa using hsz
      go_enter Try.func57, Try.ntmps57
      go_wp2_with fail
      refine (size_any n _ hn).mono ?_
      rintro e w1 ⟨rfl, rfl⟩
      go_wp2
      go_ret2
      exact ⟨none, 0, 0, by rw [HE.out]; rfl, by rw [Co.get, HE.out]; exact Ints.none_ _ _ _ _, Below.refl _ _, Fresh.zero _ _⟩
theorem get_any (s : ByteArray) (n : Int) (w : World) (hs : s.size ≤ 1000000) (hn : n ≤ 9223372036854775807) :
    Calls Try.prog 57 #[.string s, .int .i64 n] w (RetInts (Co.get s n) (Co.getOk s n) w) :=
  (getF_any s n w hs hn).mono fun _ _ h => h.plain
end Go.Proofs.Ytijnajlijdnbcaa.Coil
