/- Layer 5's reference: each function answers what the plain words of CoA say. Conditions: lengths at most a million. -/
import Derived.Test.YtijnajlijdnbcaaRows
import Derived.Test.YtijnajlijdnbcaaCoA
import Derived.RegionTactic
import Derived.BigRegion
namespace Go.Proofs.Ytijnajlijdnbcaa.Ref5
set_option maxRecDepth 100000
open Go.ChangeShapes Go.WideShapes Go.ChangeAt Go.RowKit

theorem info_uint8 : (Try.prog.info? 5).map (fun i => (i.zero, i.size, i.bytes)) = some (some (.int .u8 0), 1, 1) := by kernel_rfl
theorem info_int : (Try.prog.info? 3).map (fun i => (i.zero, i.size, i.bytes)) = some (some (.int .i64 0), 1, 8) := by kernel_rfl

set_option maxHeartbeats 400000 in
theorem size_any (n : Int) (w : World) (hn : n ≤ 1099511627776) :
    Calls Try.prog 43 #[.int .i64 n] w fun e w' => e = .returned (.int .i64 (Co.size n)) ∧ w = w' := by
  by_cases h0 : n < 0
  · have e : Co.size n = 0 := by rw [Co.size, if_pos h0]
    rw [e]
    go_enter Try.func43, Try.ntmps43
    go_wp2
    go_ret
    exact ⟨rfl, rfl⟩
  · have e : Co.size n = (n + 7) / 8 := by rw [Co.size, if_neg h0]
    rw [e]
    clear e
    go_enter Try.func43, Try.ntmps43
    go_wp2
    go_ret
    exact ⟨rfl, rfl⟩

/-- What the loop of Put holds behind k bits. -/
def PutRel (w : World) (n : Nat) (zs : List Int) (i : Value) (wr : World) : Prop :=
  ∃ k : Nat, k ≤ n ∧ i = .int .i64 k ∧ wr.ownsRow w.heap.size 5 1 (.slice (some ⟨w.heap.size, 0, none⟩) (Co.nsize n) (Co.nsize n)) (Co.nsize n) ((Co.cells zs (Co.nsize n) k).map (Value.int .u8)) ∧ Below w.heap.size w wr ∧ Co.allBits (zs.take k) = true

set_option maxHeartbeats 400000 in
theorem put_any (A : Option Addr) (n c : Nat) (zs : List Int) (w : World) (hn : n ≤ 1000000) (hA : Ints .i64 w w.heap.size A n zs) :
    Calls Try.prog 46 #[.slice A n c] w fun e w' => e = .returned (.tuple #[.string (st (Co.put zs)), .bool (Co.allBits zs)]) ∧ Below w.heap.size w w' := by
  obtain ⟨i0, hi, hz0, hz1, hz2⟩ := info_parts info_uint8
  have hlen := hA.1
  have HL := Lib.hid hlen
  clear hlen
  have hsz := Co.size_nat n
  have HSZ := Lib.hid hsz
  clear hsz
  have hns : Co.nsize n ≤ n := by unfold Co.nsize; omega
  go_enter Try.func46, Try.ntmps46
  go_wp2_with fail
  refine (size_any (n : Int) _ (by omega)).mono ?_
  rintro e w1 ⟨rfl, rfl⟩
  rw [HSZ.out]
  go_wp2_with (at_make; refine wpList_make_full _ rfl _ _ 53 rfl w.heap.size 5 i0 (.int .u8 0) 1 Try.underlying53 hi hz0 hz1 _ _ _ _ (Co.nsize n) rfl rfl rfl rfl ?b2 ?b3 (Nat.le_refl _) ?_)
  case b2 => rw [hz2]; omega
  case b3 => unfold maxLen; omega
  intro w0 hown0 hgrow0
  go_wp2
  go_loopw [5] (fun i wr => PutRel w n zs i wr) (fun i _ => n - (intOf i).toNat)
  case atStart => exact ⟨0, Nat.zero_le _, rfl, by rw [Co.cells_zero, ← made_ints, Nat.mul_one]; exact hown0, (Below.refl _ _).grown hgrow0 (Nat.le_refl _) (fun k h => by cases h), rfl⟩
  case round =>
    obtain ⟨k, hk, rfl, hown, hbel, hall⟩ := hrel
    have HALL := Lib.hid hall
    clear hall
    by_cases hlt : k < n
    · obtain ⟨b, off, rfl, hb, hc⟩ := hA.2 (by omega)
      have hck := (hbel.cell (p := ⟨b, off + k, none⟩) hb).trans (hc k hlt)
      clear hc
      obtain ⟨z, hz⟩ : ∃ z, z = zs.getD k 0 := ⟨_, rfl⟩
      rw [← hz] at hck
      have HZ := Lib.hid hz
      clear hz
      by_cases h0 : z = 0 ∨ z = 1
      · have hin : k / 8 < Co.nsize n := by unfold Co.nsize; omega
        have hrm := Co.val_room zs k HALL.out
        have hcx : wr.cell? ⟨w.heap.size, k / 8, none⟩ = some (.int .u8 (Co.val zs (8 * (k / 8)) (k % 8) : Int)) := by
          rw [hown.cellAt _ (by omega), List.getElem?_map, Co.cells_get _ _ _ hin]; rfl
        have hfz : wr.frozen? ⟨w.heap.size, k / 8, none⟩ = false := hown.frozenAt _
        rcases h0 with rfl | rfl
        · have hbit : Co.bit zs k = 0 := by unfold Co.bit; rw [← HZ.out]; rfl
          go_wp2
          go_region
          go_wp2
          refine ⟨⟨k + 1, by omega, by go_num, (Co.put_round hown hbel hin HALL.out (by rw [hbit]; decide) _ (by rw [hbit]; exact (Co.sum_zero _ _ hrm (Nat.mod_lt _ (by decide))).2)).1, (Co.put_round hown hbel hin HALL.out (by rw [hbit]; decide) _ (by rw [hbit]; exact (Co.sum_zero _ _ hrm (Nat.mod_lt _ (by decide))).2)).2, ?_⟩, by simp [intOf]; omega⟩
          rw [Co.take_snoc zs k (by rw [HL.out]; exact hlt), Co.all_snoc, HALL.out, ← HZ.out]; rfl
        · have hbit : Co.bit zs k = 1 := by unfold Co.bit; rw [← HZ.out]; rfl
          go_wp2
          go_region
          go_wp2
          refine ⟨⟨k + 1, by omega, by go_num, (Co.put_round hown hbel hin HALL.out (by rw [hbit]; decide) _ (by rw [hbit]; exact Co.sum_one _ _ hrm (Nat.mod_lt _ (by decide)))).1, (Co.put_round hown hbel hin HALL.out (by rw [hbit]; decide) _ (by rw [hbit]; exact Co.sum_one _ _ hrm (Nat.mod_lt _ (by decide)))).2, ?_⟩, by simp [intOf]; omega⟩
          rw [Co.take_snoc zs k (by rw [HL.out]; exact hlt), Co.all_snoc, HALL.out, ← HZ.out]; rfl
      · have hz0' : (z != 0) = true := by simp; omega
        have hz1' : (z != 1) = true := by simp; omega
        go_wp2
        go_ret2
        have e := Co.all_false zs k (by rw [HL.out]; exact hlt) (by rw [← HZ.out, Co.isBit]; simp; omega)
        rw [Co.put, e]
        exact ⟨rfl, hbel⟩
    · obtain rfl : k = n := by omega
      have hx : Co.allBits zs = true := by
        have e := HALL.out
        rwa [List.take_of_length_le (by rw [HL.out]; omega)] at e
      have hcs : (Co.cells zs (Co.nsize k) k).map (Value.int .u8) = (Co.bytes zs).map bv := by
        have := Co.cells_all zs hx
        rwa [HL.out] at this
      rw [hcs] at hown
      have hcv := own_string (P := Try.prog) Try.underlying53 Try.underlying5 hown 9 Try.underlying9
      have HX := Lib.hid hx
      clear hown hcs hx
      go_wp2
      go_ret2
      rw [Co.put, HX.out]
      exact ⟨rfl, hbel⟩

/-- What the loop of Get holds behind k bits. -/
def GetRel (w : World) (s : ByteArray) (m : Nat) (v i : Value) (wr : World) : Prop :=
  ∃ k : Nat, k ≤ 8 * s.size ∧ i = .int .i64 k ∧ wr.ownsRow w.heap.size 3 1 v (min k m) ((Co.bitsOf s (min k m)).map (Value.int .i64)) ∧ Below w.heap.size w wr ∧ ∀ i, m ≤ i → i < k → Co.nbit s i = 0

set_option maxHeartbeats 400000 in
theorem getF_any (s : ByteArray) (n : Int) (w : World) (hs : s.size ≤ 1000000) :
    Calls Try.prog 32 #[.string s, .int .i64 n] w (RetIntsF (Co.get s n) (Co.getOk s n) w) := by
  by_cases h0 : n < 0
  · have e : Co.getOk s n = false := by rw [Co.getOk, show decide (0 ≤ n) = false from by simp; omega]; rfl
    have HE := Lib.hid e
    clear e
    go_enter Try.func32, Try.ntmps32
    go_wp2
    go_ret2
    exact ⟨none, 0, 0, by rw [HE.out]; rfl, by rw [Co.get, HE.out]; exact Ints.none_ _ _ _ _, Below.refl _ _, Fresh.zero _ _⟩
  · obtain ⟨m, rfl⟩ := Int.eq_ofNat_of_zero_le (show 0 ≤ n by omega)
    have hsn := Co.size_nat m
    by_cases h8 : 8 * (s.size : Int) < m
    · have e : Co.getOk s (m : Int) = false := by
        rw [Co.getOk, hsn, show decide ((s.size : Int) = (Co.nsize m : Int)) = false from by unfold Co.nsize; simp; omega]; simp
      have HE := Lib.hid e
      clear e hsn
      go_enter Try.func32, Try.ntmps32
      go_wp2
      go_ret2
      exact ⟨none, 0, 0, by rw [HE.out]; rfl, by rw [Co.get, HE.out]; exact Ints.none_ _ _ _ _, Below.refl _ _, Fresh.zero _ _⟩
    · by_cases hsz : s.size = Co.nsize m
      · have hd : ((s.size : Int) != (Co.nsize m : Int)) = false := by simp [hsz]
        have hm8 : m ≤ 8 * s.size := by omega
        have HSN := Lib.hid hsn
        have HM := Lib.hid hsz
        clear hsn hsz
        go_enter Try.func32, Try.ntmps32
        go_wp2_with fail
        refine (size_any (m : Int) _ (by omega)).mono ?_
        rintro e w1 ⟨rfl, rfl⟩
        rw [HSN.out]
        go_wp2
        go_loopw [6, 7] (fun v i wr => GetRel w s m v i wr) (fun _ i _ => 8 * s.size - (intOf i).toNat)
        case atStart => exact ⟨0, Nat.zero_le _, rfl, by rw [Nat.zero_min]; exact World.ownsRow_nil _ _ _ _, Below.refl _ _, fun i _ h => by omega⟩
        case round =>
          obtain ⟨k, hk, rfl, hown, hbel, hrest⟩ := hrel
          have HR := Lib.hid hrest
          clear hrest
          by_cases hlt : k < 8 * s.size
          · have hk8 : k / 8 < s.size := by omega
            have hx1 := idx (P := Try.prog) (k := .i64) s ((k : Int) / 8) Try.underlying9 (by omega) (by omega)
            have hr1 := byteAt_range s ((k : Int) / 8)
            have hnb := Co.nbit_tmod s k
            have hs2 := hbel.size
            by_cases hkm : k < m
            · rw [show min k m = k from by omega] at hown
              go_wp2_with (at_builtin; refine append_new rfl _ _ 31 rfl w.heap.size 3 (.int .i64 0) 1 8 Try.underlying31 info_int rfl (by decide) _ _ _ rfl hown hs2 1 #[.int .i64 (Co.nbit s k)] rfl rfl (by intro u hu; simp at hu; subst hu; rfl) (by unfold maxLen; omega) (by omega) ?_)
              intro v' w1 hown' hb1
              clear hown
              go_wp2
              go_roundw
              case rel =>
                refine ⟨k + 1, by omega, by go_num, ?_, hbel.trans hb1, fun i h1 h2 => by omega⟩
                rw [show min (k + 1) m = k + 1 from by omega, Co.bits_succ, List.map_append]
                exact hown'
              case measure => simp [intOf]; omega
            · by_cases hz : Co.nbit s k = 0
              · have hd2 : ((Co.nbit s k : Int) != 0) = false := by simp [hz]
                go_wp2
                go_roundw
                case rel =>
                  refine ⟨k + 1, by omega, by go_num, ?_, hbel, fun i h1 h2 => ?_⟩
                  · rw [show min (k + 1) m = min k m from by omega]
                    exact hown
                  · rcases Nat.lt_or_ge i k with h | h
                    · exact HR.out i h1 h
                    · rw [show i = k from by omega]; exact hz
                case measure => simp [intOf]; omega
              · have hd2 : ((Co.nbit s k : Int) != 0) = true := by simp [hz]
                have e : Co.getOk s (m : Int) = false := by
                  have : Co.restNone s (m : Int) = false := by
                    rw [Co.restNone, List.all_eq_false]
                    refine ⟨k, by simpa using hlt, ?_⟩
                    simp [hz]
                    omega
                  rw [Co.getOk, this, Bool.and_false]
                have HE := Lib.hid e
                clear e
                go_wp2
                go_ret2
                exact ⟨none, 0, 0, by rw [HE.out]; rfl, by rw [Co.get, HE.out]; exact Ints.none_ _ _ _ _, hbel, Fresh.zero _ _⟩
          · obtain rfl : k = 8 * s.size := by omega
            have e : Co.getOk s (m : Int) = true := by
              have : Co.restNone s (m : Int) = true := by
                rw [Co.restNone, List.all_eq_true]
                intro i hi
                have hi' : i < 8 * s.size := by simpa using hi
                rcases Nat.lt_or_ge i m with h | h
                · simp [h]
                · simp [HR.out i h hi']
              rw [Co.getOk, this, HSN.out, show decide ((s.size : Int) = (Co.nsize m : Int)) = true from by have := HM.out; simp; omega]
              simp
            have HE := Lib.hid e
            rw [show min (8 * s.size) m = m from by omega] at hown
            clear e
            obtain ⟨A, c, rfl⟩ := own_slice hown
            go_wp2
            go_ret2
            refine ⟨A, m, c, by rw [HE.out]; rfl, ?_, hbel, Fresh.of_own hown (Nat.le_refl _)⟩
            rw [Co.get, HE.out]
            exact Ints.of_own hown
      · have e : Co.getOk s (m : Int) = false := by
          rw [Co.getOk, hsn, show decide ((s.size : Int) = (Co.nsize m : Int)) = false from by simp; omega]; simp
        have HE := Lib.hid e
        have hd : ((s.size : Int) != (Co.nsize m : Int)) = true := by simp; omega
        have HSN := Lib.hid hsn
        clear e hsn
        go_enter Try.func32, Try.ntmps32
        go_wp2_with fail
        refine (size_any (m : Int) _ (by omega)).mono ?_
        rintro e w1 ⟨rfl, rfl⟩
        rw [HSN.out]
        go_wp2
        go_ret2
        exact ⟨none, 0, 0, by rw [HE.out]; rfl, by rw [Co.get, HE.out]; exact Ints.none_ _ _ _ _, Below.refl _ _, Fresh.zero _ _⟩
theorem get_any (s : ByteArray) (n : Int) (w : World) (hs : s.size ≤ 1000000) :
    Calls Try.prog 32 #[.string s, .int .i64 n] w (RetInts (Co.get s n) (Co.getOk s n) w) :=
  (getF_any s n w hs).mono fun _ _ h => h.plain
end Go.Proofs.Ytijnajlijdnbcaa.Ref5
