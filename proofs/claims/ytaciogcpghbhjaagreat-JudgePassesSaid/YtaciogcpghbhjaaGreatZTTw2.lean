/- Of these texts: Tw2, CoR, Tw, Co. Conditions: as each part says. -/
import Derived.Test.YtaciogcpghbhjaaGreatRows
import Derived.Test.YtaciogcpghbhjaaGreatZTLib
import Derived.RegionTactic
import Derived.BigRegion
/- Layer 1's reference: each function answers what the plain words of TwA say. Conditions: lengths at most a million. -/
namespace Go.Proofs.YtaciogcpghbhjaaGreat.Ref1
open Go.ChangeShapes Go.WideShapes Go.ChangeAt Go.RowKit
theorem info_int : (Tryz.prog.info? 3).map (fun i => (i.zero, i.size, i.bytes)) = some (some (.int .i64 0), 1, 8) := by kernel_rfl
set_option maxHeartbeats 400000 in
theorem get_any (s : ByteArray) (i : Int) (w : World) (hs : s.size <= maxLen) :
  Calls Tryz.prog 84 #[.string s, .int .i64 i] w fun e w' => e = .returned (.tuple #[.int .i64 (Tw.get s i), .bool (Tw.getOk s i)]) ∧ Quiet w w' := by
 unfold maxLen at hs
 by_cases h0 : i < 0
 ·have e : Tw.getOk s i = false := by simp [Tw.getOk]; omega
  go_enter Tryz.func84, Tryz.ntmps84
  go_wp2
  go_ret2
  rw [Tw.get, e]
  exact ⟨rfl, Quiet.refl _⟩
 ·by_cases h1 : (s.size : Int) <= i
  ·have e : Tw.getOk s i = false := by simp [Tw.getOk]; omega
   go_enter Tryz.func84, Tryz.ntmps84
   go_wp2
   go_ret2
   rw [Tw.get, e]
   exact ⟨rfl, Quiet.refl _⟩
  ·by_cases h2 : (s.size : Int) - i < 2
   ·have e : Tw.getOk s i = false := by simp [Tw.getOk]; omega
    go_enter Tryz.func84, Tryz.ntmps84
    go_wp2
    go_ret2
    rw [Tw.get, e]
    exact ⟨rfl, Quiet.refl _⟩
   ·have e : Tw.getOk s i = true := by simp [Tw.getOk]; omega
    have HE := Lib.hid e
    clear e
    have hx1 := idx (P := Tryz.prog) (k := .i64) s i Tryz.underlying9 (by omega) (by omega)
    have hx2 := idx (P := Tryz.prog) (k := .i64) s (i+1) Tryz.underlying9 (by omega) (by omega)
    have hr1 := byteAt_range s i
    have hr2 := byteAt_range s (i+1)
    go_enter Tryz.func84, Tryz.ntmps84
    go_wp2
    go_quiet (fail)
    go_wp2
    go_ret2
    rw [Tw.get, HE.out, Tw.num, Int.mul_comm (byteAt s i)]
    exact ⟨rfl, _, rfl⟩
set_option maxHeartbeats 400000 in
theorem at_any (s : ByteArray) (i : Int) (w : World) (hs : s.size <= maxLen) :
  Calls Tryz.prog 109 #[.string s, .int .i64 i] w fun e w' => e = .returned (.int .i64 (Tw.get s i)) ∧ Quiet w w' := by
 go_enter Tryz.func109, Tryz.ntmps109
 go_wp2_with fail
 refine (get_any s i _ hs).mono ?_
 rintro e w' ⟨rfl, hq⟩
 go_wp2
 go_ret
 exact ⟨rfl, hq⟩
set_option maxHeartbeats 400000 in
theorem getAllF_any (s : ByteArray) (w : World) (hs : s.size <= 1000000) :
  Calls Tryz.prog 86 #[.string s] w (RetIntsF (Tw.getAll s) (Tw.evenB s) w) := by
 by_cases hev : (s.size : Int) % 2 = 0
 ·have e : Tw.evenB s = true := by simp [Tw.evenB]; omega
  have HE := Lib.hid e
  clear e
  go_enter Tryz.func86, Tryz.ntmps86
  go_wp2
  have HEV := Lib.hid hev
  clear hev
  go_loopw [4, 5] (fun v i wr => GetRel w s v i wr) (fun _ i _ => s.size - (intOf i).toNat)
  case atStart => exact ⟨0, Nat.zero_le _, rfl, World.ownsRow_nil _ _ _ _, Below.refl _ _⟩
  case round =>
   obtain ⟨k, hk, rfl, hown, hbel⟩ := hrel
   have hev := HEV.out
   by_cases hlt : 2 * k < s.size
   ·have hlt2 : (2 * k : Int) + 1 < s.size := by omega
    clear hev
    have hge : Tw.get s (2 * k : Int) = Tw.num s (2 * k : Int) := by
     have e : Tw.getOk s (2 * k : Int) = true := by simp [Tw.getOk]; omega
     rw [Tw.get, e]; rfl
    have HGE := Lib.hid hge
    clear hge
    go_wp2_with fail
    refine (at_any s (2 * k : Int) _ (by unfold maxLen; omega)).mono ?_
    rintro e w1 ⟨rfl, hq⟩
    rw [HGE.out]
    replace hown := hq.own hown
    replace hbel := hbel.trans (hq.below _)
    have hs2 := hbel.size
    clear hq
    go_wp2_with (at_builtin; refine append_new rfl _ _ 33 rfl w.heap.size 3 (.int .i64 0) 1 8 Tryz.underlying33 info_int rfl (by decide) _ _ _ rfl hown hs2 1 #[.int .i64 (Tw.num s (2 * k : Int))] rfl rfl (by intro u hu; simp at hu; subst hu; rfl) (by unfold maxLen; omega) (by omega) ?_)
    intro v' w1 hown' hb1
    clear hown
    go_wp2
    go_roundw
    case rel =>
     refine ⟨k + 1, by omega, by go_num, ?_, hbel.trans hb1⟩
     rw [Tw.nums_succ, List.map_append]
     exact hown'
    case measure => simp [intOf]; omega
   ·obtain ⟨n, hn⟩ : ∃ n, n = s.size / 2 := ⟨_, rfl⟩
    obtain rfl : k = n := by omega
    have HN := Lib.hid hn
    clear hn hev
    obtain ⟨A, c, rfl⟩ := own_slice hown
    go_wp2
    go_ret2
    refine ⟨A, k, c, by rw [HE.out]; rfl, ?_, hbel, FreshC.of_own hown (Nat.le_refl _)⟩
    rw [Tw.getAll, HE.out, <- HN.out]
    exact Ints.of_own hown
 ·have e : Tw.evenB s = false := by simp [Tw.evenB]; omega
  have HE := Lib.hid e
  clear e
  go_enter Tryz.func86, Tryz.ntmps86
  go_wp2
  go_ret2
  exact ⟨none, 0, 0, by rw [HE.out]; rfl, by rw [Tw.getAll, HE.out]; exact Ints.none_ _ _ _ _, Below.refl _ _, FreshC.zero _ _ _⟩
set_option maxHeartbeats 400000 in
theorem ints_any (A B : Option Addr) (n m c d : Nat) (xs ys : List Int) (w : World) (hn : n <= 1000000) (hA : Ints .i64 w w.heap.size A n xs) (hB : Ints .i64 w w.heap.size B m ys) :
  Calls Tryz.prog 20 #[.slice A n c, .slice B m d] w fun e w' => e = .returned (.bool (xs == ys)) ∧ Quiet w w' := by
 have hla := hA.1
 have hlb := hB.1
 by_cases hnm : n = m
 ·subst hnm
  have HA := Lib.hid hla
  have HB := Lib.hid hlb
  clear hla hlb
  go_enter Tryz.func20, Tryz.ntmps20
  go_wp2
  go_loopw [5] (fun i wr => SameRel w n xs ys i wr) (fun i _ => n - (intOf i).toNat)
  case atStart => exact ⟨0, Nat.zero_le _, rfl, rfl, Quiet.refl _⟩
  case round =>
   obtain ⟨k, hk, rfl, hsame, hq⟩ := hrel
   have HS := Lib.hid hsame
   clear hsame
   by_cases hlt : k < n
   ·obtain ⟨b, off, rfl, hb, hc⟩ := hA.2 (by omega)
    obtain ⟨b', off', rfl, hb', hc'⟩ := hB.2 (by omega)
    have hck := (hq.cell ⟨b, off + k, none⟩).trans (hc k hlt)
    have hck' := (hq.cell ⟨b', off' + k, none⟩).trans (hc' k hlt)
    clear hc hc'
    obtain ⟨x, hx⟩ : ∃ z, z = xs.getD k 0 := ⟨_, rfl⟩
    obtain ⟨y, hy⟩ : ∃ z, z = ys.getD k 0 := ⟨_, rfl⟩
    rw [<- hx] at hck
    rw [<- hy] at hck'
    have HX := Lib.hid hx
    have HY := Lib.hid hy
    clear hx hy
    have hi1 : (k : Int) < n := by omega
    by_cases hxy : x = y
    ·have hb1 : (x == y) = true := by simp [hxy]
     have HXY := Lib.hid hxy
     clear hxy
     go_wp2
     go_quiet (fail)
     go_wp2
     go_roundw
     case rel =>
      refine ⟨k + 1, by omega, by go_num, ?_, hq.drewN _⟩
      rw [Tw.take_snoc xs k (by rw [HA.out]; exact hlt), Tw.take_snoc ys k (by rw [HB.out]; exact hlt), HS.out, <- HX.out, <- HY.out, HXY.out]
     case measure => simp [intOf]; omega
    ·have hb1 : (x == y) = false := by simp [hxy]
     go_wp2
     go_quiet (fail)
     go_wp2
     go_ret
     refine ⟨?_, hq.drewN _⟩
     have : (xs == ys) = false := by
      rw [beq_eq_false_iff_ne]
      intro e
      rw [HX.out, HY.out, e] at hxy
      exact hxy rfl
     rw [this]
     rfl
   ·obtain rfl : k = n := by omega
    go_wp2
    go_ret
    refine ⟨?_, hq⟩
    have e := HS.out
    rw [List.take_of_length_le (by rw [HA.out]; omega), List.take_of_length_le (by rw [HB.out]; omega)] at e
    simp [e]
 ·have hne : (xs == ys) = false := by
   rw [beq_eq_false_iff_ne]
   intro e
   apply hnm
   rw [<- hla, <- hlb, e]
  have hb1 : ((n : Int) == (m : Int)) = false := by simp; omega
  have HA := Lib.hid hla
  have HB := Lib.hid hlb
  clear hla hlb
  go_enter Tryz.func20, Tryz.ntmps20
  go_wp2
  go_ret
  rw [hne]
  exact ⟨rfl, Quiet.refl _⟩
end Go.Proofs.YtaciogcpghbhjaaGreat.Ref1
/- Layer 5's reference: each function answers what the plain words of CoA say. Conditions: lengths at most a million. -/
namespace Go.Proofs.YtaciogcpghbhjaaGreat.Ref5
set_option maxRecDepth 100000
open Go.ChangeShapes Go.WideShapes Go.ChangeAt Go.RowKit
theorem info_int : (Tryz.prog.info? 3).map (fun i => (i.zero, i.size, i.bytes)) = some (some (.int .i64 0), 1, 8) := by kernel_rfl
set_option maxHeartbeats 400000 in
theorem size_any (n : Int) (w : World) (hn : n <= 1099511627776) :
  Calls Tryz.prog 108 #[.int .i64 n] w fun e w' => e = .returned (.int .i64 (Co.size n)) ∧ w = w' := by
 by_cases h0 : n < 0
 ·have e : Co.size n = 0 := by rw [Co.size, if_pos h0]
  rw [e]
  go_enter Tryz.func108, Tryz.ntmps108
  go_wp2
  go_ret
  exact ⟨rfl, rfl⟩
 ·have e : Co.size n = (n + 7) / 8 := by rw [Co.size, if_neg h0]
  rw [e]
  clear e
  go_enter Tryz.func108, Tryz.ntmps108
  go_wp2
  go_ret
  exact ⟨rfl, rfl⟩
def GetRel (w : World) (s : ByteArray) (m : Nat) (v i : Value) (wr : World) : Prop :=
 ∃ k : Nat, k <= 8 * s.size ∧ i = .int .i64 k ∧ wr.ownsRow w.heap.size 3 1 v (min k m) ((Co.bitsOf s (min k m)).map (Value.int .i64)) ∧ Below w.heap.size w wr ∧ ∀ i, m <= i -> i < k -> Co.nbit s i = 0
set_option maxHeartbeats 400000 in
theorem getF_any (s : ByteArray) (n : Int) (w : World) (hs : s.size <= 1000000) :
  Calls Tryz.prog 85 #[.string s, .int .i64 n] w (RetIntsF (Co.get s n) (Co.getOk s n) w) := by
 by_cases h0 : n < 0
 ·have e : Co.getOk s n = false := by rw [Co.getOk, show decide (0 <= n) = false from by simp; omega]; rfl
  have HE := Lib.hid e
  clear e
  go_enter Tryz.func85, Tryz.ntmps85
  go_wp2
  go_ret2
  exact ⟨none, 0, 0, by rw [HE.out]; rfl, by rw [Co.get, HE.out]; exact Ints.none_ _ _ _ _, Below.refl _ _, FreshC.zero _ _ _⟩
 ·obtain ⟨m, rfl⟩ := Int.eq_ofNat_of_zero_le (show 0 <= n by omega)
  have hsn := Co.size_nat m
  by_cases h8 : 8 * (s.size : Int) < m
  ·have e : Co.getOk s (m : Int) = false := by
    rw [Co.getOk, hsn, show decide ((s.size : Int) = (Co.nsize m : Int)) = false from by unfold Co.nsize; simp; omega]; simp
   have HE := Lib.hid e
   clear e hsn
   go_enter Tryz.func85, Tryz.ntmps85
   go_wp2
   go_ret2
   exact ⟨none, 0, 0, by rw [HE.out]; rfl, by rw [Co.get, HE.out]; exact Ints.none_ _ _ _ _, Below.refl _ _, FreshC.zero _ _ _⟩
  ·by_cases hsz : s.size = Co.nsize m
   ·have hd : ((s.size : Int) != (Co.nsize m : Int)) = false := by simp [hsz]
    have hm8 : m <= 8 * s.size := by omega
    have HSN := Lib.hid hsn
    have HM := Lib.hid hsz
    clear hsn hsz
    go_enter Tryz.func85, Tryz.ntmps85
    go_wp2_with fail
    refine (size_any (m : Int) _ (by omega)).mono ?_
    rintro e w1 ⟨rfl, rfl⟩
    rw [HSN.out]
    go_wp2
    go_loopw [6, 7] (fun v i wr => GetRel w s m v i wr) (fun _ i _ => 8 * s.size - (intOf i).toNat)
    case atStart => exact ⟨0, Nat.zero_le _, rfl, by rw [Nat.zero_min]; exact World.ownsRow_nil _ _ _ _, Below.refl _ _, fun i _ h => by omega⟩
    case round =>
     obtain ⟨k, hk, rfl, hown, hbel, hrest⟩ := hrel
     have HR := Lib.hid hrest
     clear hrest
     by_cases hlt : k < 8 * s.size
     ·have hk8 : k / 8 < s.size := by omega
      have hx1 := idx (P := Tryz.prog) (k := .i64) s ((k : Int) / 8) Tryz.underlying9 (by omega) (by omega)
      have hr1 := byteAt_range s ((k : Int) / 8)
      have hnb := Co.nbit_tmod s k
      have hs2 := hbel.size
      by_cases hkm : k < m
      ·rw [show min k m = k from by omega] at hown
       go_wp2_with (at_builtin; refine append_new rfl _ _ 33 rfl w.heap.size 3 (.int .i64 0) 1 8 Tryz.underlying33 info_int rfl (by decide) _ _ _ rfl hown hs2 1 #[.int .i64 (Co.nbit s k)] rfl rfl (by intro u hu; simp at hu; subst hu; rfl) (by unfold maxLen; omega) (by omega) ?_)
       intro v' w1 hown' hb1
       clear hown
       go_wp2
       go_roundw
       case rel =>
        refine ⟨k + 1, by omega, by go_num, ?_, hbel.trans hb1, fun i h1 h2 => by omega⟩
        rw [show min (k + 1) m = k + 1 from by omega, Co.bits_succ, List.map_append]
        exact hown'
       case measure => simp [intOf]; omega
      ·by_cases hz : Co.nbit s k = 0
       ·have hd2 : ((Co.nbit s k : Int) != 0) = false := by simp [hz]
        go_wp2
        go_roundw
        case rel =>
         refine ⟨k + 1, by omega, by go_num, ?_, hbel, fun i h1 h2 => ?_⟩
         ·rw [show min (k + 1) m = min k m from by omega]
          exact hown
         ·rcases Nat.lt_or_ge i k with h | h
          ·exact HR.out i h1 h
          ·rw [show i = k from by omega]; exact hz
        case measure => simp [intOf]; omega
       ·have hd2 : ((Co.nbit s k : Int) != 0) = true := by simp [hz]
        have e : Co.getOk s (m : Int) = false := by
         have : Co.restNone s (m : Int) = false := by
          rw [Co.restNone, List.all_eq_false]
          refine ⟨k, by simpa using hlt, ?_⟩
          simp [hz]
          omega
         rw [Co.getOk, this, Bool.and_false]
        have HE := Lib.hid e
        clear e
        go_wp2
        go_ret2
        exact ⟨none, 0, 0, by rw [HE.out]; rfl, by rw [Co.get, HE.out]; exact Ints.none_ _ _ _ _, hbel, FreshC.zero _ _ _⟩
     ·obtain rfl : k = 8 * s.size := by omega
      have e : Co.getOk s (m : Int) = true := by
       have : Co.restNone s (m : Int) = true := by
        rw [Co.restNone, List.all_eq_true]
        intro i hi
        have hi' : i < 8 * s.size := by simpa using hi
        rcases Nat.lt_or_ge i m with h | h
        ·simp [h]
        ·simp [HR.out i h hi']
       rw [Co.getOk, this, HSN.out, show decide ((s.size : Int) = (Co.nsize m : Int)) = true from by have := HM.out; simp; omega]
       simp
      have HE := Lib.hid e
      rw [show min (8 * s.size) m = m from by omega] at hown
      clear e
      obtain ⟨A, c, rfl⟩ := own_slice hown
      go_wp2
      go_ret2
      refine ⟨A, m, c, by rw [HE.out]; rfl, ?_, hbel, FreshC.of_own hown (Nat.le_refl _)⟩
      rw [Co.get, HE.out]
      exact Ints.of_own hown
   ·have e : Co.getOk s (m : Int) = false := by
     rw [Co.getOk, hsn, show decide ((s.size : Int) = (Co.nsize m : Int)) = false from by simp; omega]; simp
    have HE := Lib.hid e
    have hd : ((s.size : Int) != (Co.nsize m : Int)) = true := by simp; omega
    have HSN := Lib.hid hsn
    clear e hsn
    go_enter Tryz.func85, Tryz.ntmps85
    go_wp2_with fail
    refine (size_any (m : Int) _ (by omega)).mono ?_
    rintro e w1 ⟨rfl, rfl⟩
    rw [HSN.out]
    go_wp2
    go_ret2
    exact ⟨none, 0, 0, by rw [HE.out]; rfl, by rw [Co.get, HE.out]; exact Ints.none_ _ _ _ _, Below.refl _ _, FreshC.zero _ _ _⟩
end Go.Proofs.YtaciogcpghbhjaaGreat.Ref5
namespace Go.Proofs.YtaciogcpghbhjaaGreat.Twin
set_option maxRecDepth 100000
open Go.ChangeShapes Go.WideShapes Go.ChangeAt Go.RowKit
theorem info_uint8 : (Tryz.prog.info? 5).map (fun i => (i.zero, i.size, i.bytes)) = some (some (.int .u8 0), 1, 1) := by kernel_rfl
theorem info_int : (Tryz.prog.info? 3).map (fun i => (i.zero, i.size, i.bytes)) = some (some (.int .i64 0), 1, 8) := by kernel_rfl
set_option maxHeartbeats 400000 in
theorem putAll_any (A : Option Addr) (n c : Nat) (zs : List Int) (w : World) (hn : n <= 1000000) (hA : Ints .i64 w w.heap.size A n zs) :
  Calls Tryz.prog 116 #[.slice A n c] w fun e w' => e = .returned (.tuple #[.string (st (Tw.put zs)), .bool (Tw.allIn zs)]) ∧ Below w.heap.size w w' := by
 obtain ⟨i0, hi, hz0, hz1, hz2⟩ := info_parts info_uint8
 have hlen := hA.1
 have HL := Lib.hid hlen
 clear hlen
 go_enter Tryz.func116, Tryz.ntmps116
 go_wp2_with (at_make; refine wpList_make_own _ rfl _ _ 25 rfl w.heap.size 5 i0 (.int .u8 0) 1 Tryz.underlying25 hi hz0 hz1 _ _ _ (2 * n) rfl rfl (by omega) ?b2 ?b3 (Nat.le_refl _) ?_)
 case b2 => rw [hz2]; omega
 case b3 => unfold maxLen; omega
 intro w0 hown0 hgrow0
 go_wp2
 go_loopw [4, 13] (fun v i wr => PutRel w n zs v i wr) (fun _ i _ => n - (intOf i).toNat)
 case atStart => exact ⟨0, Nat.zero_le _, rfl, by simpa [Tw.bytes] using hown0, (Below.refl _ _).grown hgrow0 (Nat.le_refl _) (fun k h => by cases h), rfl⟩
 case round =>
  obtain ⟨k, hk, rfl, hown, hbel, hall⟩ := hrel
  have HALL := Lib.hid hall
  clear hall
  by_cases hlt : k < n
  ·obtain ⟨b, off, rfl, hb, hc⟩ := hA.2 (by omega)
   have hck := (hbel.cell (p := ⟨b, off + k, none⟩) hb).trans (hc k hlt)
   clear hc
   obtain ⟨z, hz⟩ : ∃ z, z = zs.getD k 0 := ⟨_, rfl⟩
   rw [<- hz] at hck
   have HZ := Lib.hid hz
   clear hz
   by_cases h0 : z < 0
   ·go_wp2
    go_ret2
    have e := Tw.allIn_false zs k (by rw [HL.out]; exact hlt) (by rw [<- HZ.out]; exact Tw.not_inR (.inl h0))
    rw [Tw.put, e]
    exact ⟨rfl, hbel⟩
   ·by_cases h1 : 65535 < z
    ·go_wp2
     go_ret2
     have e := Tw.allIn_false zs k (by rw [HL.out]; exact hlt) (by rw [<- HZ.out]; exact Tw.not_inR (.inr h1))
     rw [Tw.put, e]
     exact ⟨rfl, hbel⟩
    ·have hs := hbel.size
     go_wp2_with (at_builtin; refine append_new rfl _ _ 25 rfl w.heap.size 5 (.int .u8 0) 1 1 Tryz.underlying25 info_uint8 rfl (by decide) _ _ _ rfl hown hs 2 #[.int .u8 (z / 256), .int .u8 (z % 256)] rfl rfl (by intro u hu; simp at hu; rcases hu with rfl | rfl <;> rfl) (by unfold maxLen; omega) (by omega) ?_)
     intro v' w1 hown' hb1
     clear hown
     go_wp2
     go_roundw
     case rel =>
      refine ⟨k + 1, by omega, by go_num, ?_, hbel.trans hb1, ?_⟩
      ·rw [Tw.take_snoc zs k (by rw [HL.out]; exact hlt), Tw.bytes_snoc, List.map_append, <- HZ.out, Tw.two_cells (by omega) (by omega)]
       exact hown'
      ·rw [Tw.take_snoc zs k (by rw [HL.out]; exact hlt), Tw.allIn_snoc, HALL.out, <- HZ.out, Tw.inR_of (by omega) (by omega)]; rfl
     case measure => simp [intOf]; omega
  ·obtain rfl : k = n := by omega
   have hcv := own_string (P := Tryz.prog) Tryz.underlying25 Tryz.underlying5 hown 9 Tryz.underlying9
   clear hown
   go_wp2
   go_ret2
   have e := HALL.out
   rw [List.take_of_length_le (by rw [HL.out]; omega)] at e
   rw [Tw.put, e, List.take_of_length_le (by rw [HL.out]; omega)]
   exact ⟨rfl, hbel⟩
set_option maxHeartbeats 400000 in
theorem number_any (s : ByteArray) (i : Int) (w : World) (hs : s.size <= maxLen) (h0 : 0 <= i) (h1 : i + 1 < s.size) :
  Calls Tryz.prog 100 #[.string s, .int .i64 i] w fun e w' => e = .returned (.int .i64 (Tw.num s i)) ∧ Quiet w w' := by
 unfold maxLen at hs
 have hx1 := idx (P := Tryz.prog) (k := .i64) s i Tryz.underlying9 h0 (by omega)
 have hx2 := idx (P := Tryz.prog) (k := .i64) s (i+1) Tryz.underlying9 (by omega) h1
 have hr1 := byteAt_range s i
 have hr2 := byteAt_range s (i+1)
 go_enter Tryz.func100, Tryz.ntmps100
 go_wp2
 go_quiet (fail)
 go_wp2
 go_ret
 rw [Tw.or_num _ _ hr1 hr2]
 exact ⟨rfl, _, rfl⟩
set_option maxHeartbeats 400000 in
theorem get_any (s : ByteArray) (i : Int) (w : World) (hs : s.size <= maxLen) :
  Calls Tryz.prog 97 #[.string s, .int .i64 i] w fun e w' => e = .returned (.tuple #[.int .i64 (Tw.get s i), .bool (Tw.getOk s i)]) ∧ Quiet w w' := by
 have hs' := hs
 unfold maxLen at hs'
 by_cases h0 : i < 0
 ·have e : Tw.getOk s i = false := by simp [Tw.getOk]; omega
  go_enter Tryz.func97, Tryz.ntmps97
  go_wp2
  go_ret2
  rw [Tw.get, e]
  exact ⟨rfl, Quiet.refl _⟩
 ·by_cases h1 : (s.size : Int) - 2 < i
  ·have e : Tw.getOk s i = false := by simp [Tw.getOk]; omega
   go_enter Tryz.func97, Tryz.ntmps97
   go_wp2
   go_ret2
   rw [Tw.get, e]
   exact ⟨rfl, Quiet.refl _⟩
  ·have e : Tw.getOk s i = true := by simp [Tw.getOk]; omega
   have HE := Lib.hid e
   clear e
   go_enter Tryz.func97, Tryz.ntmps97
   go_wp2_with fail
   refine (number_any s i _ hs (by omega) (by omega)).mono ?_
   rintro e w' ⟨rfl, hq⟩
   go_wp2
   go_ret2
   rw [Tw.get, HE.out]
   exact ⟨rfl, hq⟩
set_option maxHeartbeats 400000 in
theorem getAllF_any (s : ByteArray) (w : World) (hs : s.size <= 1000000) :
  Calls Tryz.prog 76 #[.string s] w (RetIntsF (Tw.getAll s) (Tw.evenB s) w) := by
 obtain ⟨i0, hi, hz0, hz1, hz2⟩ := info_parts info_int
 by_cases hev : (s.size : Int) % 2 = 0
 ·have e : Tw.evenB s = true := by simp [Tw.evenB]; omega
  have HE := Lib.hid e
  clear e
  go_enter Tryz.func76, Tryz.ntmps76
  go_wp2_with (at_make; refine wpList_make_own _ rfl _ _ 33 rfl w.heap.size 3 i0 (.int .i64 0) 1 Tryz.underlying33 hi hz0 hz1 _ _ _ (s.size / 2) rfl rfl (by omega) ?b2 ?b3 (Nat.le_refl _) ?_)
  case b2 => rw [hz2]; omega
  case b3 => unfold maxLen; omega
  intro w0 hown0 hgrow0
  go_wp2
  have HEV := Lib.hid hev
  clear hev
  go_loopw [4, 5] (fun v i wr => GetRel w s v i wr) (fun _ i _ => s.size - (intOf i).toNat)
  case atStart => exact ⟨0, Nat.zero_le _, rfl, by simpa [Tw.nums] using hown0, (Below.refl _ _).grown hgrow0 (Nat.le_refl _) (fun k h => by cases h)⟩
  case round =>
   obtain ⟨k, hk, rfl, hown, hbel⟩ := hrel
   have hev := HEV.out
   by_cases hlt : 2 * k < s.size
   ·have hs2 := hbel.size
    have hlt2 : (2 * k : Int) + 1 < s.size := by omega
    clear hev
    go_wp2_with fail
    refine (number_any s (2 * k : Int) _ (by unfold maxLen; omega) (by omega) (by omega)).mono ?_
    rintro e w1 ⟨rfl, hq⟩
    replace hown := hq.own hown
    replace hbel := hbel.trans (hq.below _)
    have hs2 := hbel.size
    clear hq
    go_wp2_with (at_builtin; refine append_new rfl _ _ 33 rfl w.heap.size 3 (.int .i64 0) 1 8 Tryz.underlying33 info_int rfl (by decide) _ _ _ rfl hown hs2 1 #[.int .i64 (Tw.num s (2 * k : Int))] rfl rfl (by intro u hu; simp at hu; subst hu; rfl) (by unfold maxLen; omega) (by omega) ?_)
    intro v' w1 hown' hb1
    clear hown
    go_wp2
    go_roundw
    case rel =>
     refine ⟨k + 1, by omega, by go_num, ?_, hbel.trans hb1⟩
     rw [Tw.nums_succ, List.map_append]
     exact hown'
    case measure => simp [intOf]; omega
   ·obtain ⟨n, hn⟩ : ∃ n, n = s.size / 2 := ⟨_, rfl⟩
    obtain rfl : k = n := by omega
    have HN := Lib.hid hn
    clear hn hev
    obtain ⟨A, c, rfl⟩ := own_slice hown
    go_wp2
    go_ret2
    refine ⟨A, k, c, by rw [HE.out]; rfl, ?_, hbel, FreshC.of_own hown (Nat.le_refl _)⟩
    rw [Tw.getAll, HE.out, <- HN.out]
    exact Ints.of_own hown
 ·have e : Tw.evenB s = false := by simp [Tw.evenB]; omega
  have HE := Lib.hid e
  clear e
  go_enter Tryz.func76, Tryz.ntmps76
  go_wp2
  go_ret2
  exact ⟨none, 0, 0, by rw [HE.out]; rfl, by rw [Tw.getAll, HE.out]; exact Ints.none_ _ _ _ _, Below.refl _ _, FreshC.zero _ _ _⟩
end Go.Proofs.YtaciogcpghbhjaaGreat.Twin
/- Layer 5's functions: each answers what the plain words of CoA say. Conditions: lengths at most a million. -/
namespace Go.Proofs.YtaciogcpghbhjaaGreat.Coil
set_option maxRecDepth 100000
open Go.ChangeShapes Go.WideShapes Go.ChangeAt Go.RowKit
theorem info_uint8 : (Tryz.prog.info? 5).map (fun i => (i.zero, i.size, i.bytes)) = some (some (.int .u8 0), 1, 1) := by kernel_rfl
theorem info_int : (Tryz.prog.info? 3).map (fun i => (i.zero, i.size, i.bytes)) = some (some (.int .i64 0), 1, 8) := by kernel_rfl
set_option maxHeartbeats 400000 in
theorem size_any (n : Int) (w : World) (hn : n <= 9223372036854775807) :
  Calls Tryz.prog 98 #[.int .i64 n] w fun e w' => e = .returned (.int .i64 (Co.size n)) ∧ w = w' := by
 by_cases h0 : n <= 0
 ·have e : Co.size n = 0 := by
   unfold Co.size
   split
   ·rfl
   ·omega
  rw [e]
  go_enter Tryz.func98, Tryz.ntmps98
  go_wp2
  go_ret
  exact ⟨rfl, rfl⟩
 ·have e : Co.size n = (n - 1) / 8 + 1 := by
   unfold Co.size
   rw [if_neg (by omega)]
   omega
  rw [e]
  clear e
  go_enter Tryz.func98, Tryz.ntmps98
  go_wp2
  go_ret
  exact ⟨rfl, rfl⟩
set_option maxHeartbeats 400000 in
theorem left_any (s : ByteArray) (n : Int) (w : World) (hs : s.size <= 1000000) (h0 : 0 <= n) (he : (s.size : Int) = Co.size n) :
  Calls Tryz.prog 99 #[.string s, .int .i64 n] w fun e w' => e = .returned (.bool (Co.left s n)) ∧ Quiet w w' := by
 by_cases hu : 0 < n % 8
 ·have hp : 0 < s.size := by
   unfold Co.size at he
   split at he <;> omega
  have e1 : Co.left s n = !(byteAt s ((s.size : Int) - 1) / 2 ^ (n % 8).toNat == 0) := by
   rw [Co.left, show decide (0 < n % 8) = true from by simpa using hu, Bool.true_and]
  rw [e1]
  clear e1 he
  have hx1 := idx (P := Tryz.prog) (k := .i64) s ((s.size : Int) - 1) Tryz.underlying9 (by omega) (by omega)
  have hr1 := byteAt_range s ((s.size : Int) - 1)
  go_enter Tryz.func99, Tryz.ntmps99
  go_wp2
  go_ret
  exact ⟨rfl, Quiet.refl _⟩
 ·have e1 : Co.left s n = false := by
   rw [Co.left, show decide (0 < n % 8) = false from by simp; omega, Bool.false_and]
  rw [e1]
  clear e1 he
  go_enter Tryz.func99, Tryz.ntmps99
  go_wp2
  go_ret
  exact ⟨rfl, Quiet.refl _⟩
def PutRel (w : World) (n : Nat) (zs : List Int) (i : Value) (wr : World) : Prop :=
 ∃ k : Nat, k <= n ∧ i = .int .i64 k ∧ wr.ownsRow w.heap.size 5 1 (.slice (some ⟨w.heap.size, 0, none⟩) (Co.nsize n) (Co.nsize n)) (Co.nsize n) ((Co.cells zs (Co.nsize n) k).map (Value.int .u8)) ∧ Below w.heap.size w wr ∧ Co.allBits (zs.take k) = true
set_option maxHeartbeats 400000 in
theorem put_any (A : Option Addr) (n c : Nat) (zs : List Int) (w : World) (hn : n <= 1000000) (hA : Ints .i64 w w.heap.size A n zs) :
  Calls Tryz.prog 105 #[.slice A n c] w fun e w' => e = .returned (.tuple #[.string (st (Co.put zs)), .bool (Co.allBits zs)]) ∧ Below w.heap.size w w' := by
 obtain ⟨i0, hi, hz0, hz1, hz2⟩ := info_parts info_uint8
 have hlen := hA.1
 have HL := Lib.hid hlen
 clear hlen
 have hsz := Co.size_nat n
 have HSZ := Lib.hid hsz
 clear hsz
 have hns : Co.nsize n <= n := by unfold Co.nsize; omega
 go_enter Tryz.func105, Tryz.ntmps105
 go_wp2_with fail
 refine (size_any (n : Int) _ (by omega)).mono ?_
 rintro e w1 ⟨rfl, rfl⟩
 rw [HSZ.out]
 go_wp2_with (at_make; refine wpList_make_full _ rfl _ _ 25 rfl w.heap.size 5 i0 (.int .u8 0) 1 Tryz.underlying25 hi hz0 hz1 _ _ _ _ (Co.nsize n) rfl rfl rfl rfl ?b2 ?b3 (Nat.le_refl _) ?_)
 case b2 => rw [hz2]; omega
 case b3 => unfold maxLen; omega
 intro w0 hown0 hgrow0
 go_wp2
 go_loopw [13] (fun i wr => PutRel w n zs i wr) (fun i _ => n - (intOf i).toNat)
 case atStart => exact ⟨0, Nat.zero_le _, rfl, by rw [Co.cells_zero, <- made_ints, Nat.mul_one]; exact hown0, (Below.refl _ _).grown hgrow0 (Nat.le_refl _) (fun k h => by cases h), rfl⟩
 case round =>
  obtain ⟨k, hk, rfl, hown, hbel, hall⟩ := hrel
  have HALL := Lib.hid hall
  clear hall
  by_cases hlt : k < n
  ·obtain ⟨b, off, rfl, hb, hc⟩ := hA.2 (by omega)
   have hck := (hbel.cell (p := ⟨b, off + k, none⟩) hb).trans (hc k hlt)
   clear hc
   obtain ⟨z, hz⟩ : ∃ z, z = zs.getD k 0 := ⟨_, rfl⟩
   rw [<- hz] at hck
   have HZ := Lib.hid hz
   clear hz
   by_cases h0 : z = 0 ∨ z = 1
   ·have hin : k / 8 < Co.nsize n := by unfold Co.nsize; omega
    have hrm := Co.val_room zs k HALL.out
    have hcx : wr.cell? ⟨w.heap.size, k / 8, none⟩ = some (.int .u8 (Co.val zs (8 * (k / 8)) (k % 8) : Int)) := by
     rw [hown.cellAt _ (by omega), List.getElem?_map, Co.cells_get _ _ _ hin]; rfl
    have hfz : wr.frozen? ⟨w.heap.size, k / 8, none⟩ = false := hown.frozenAt _
    rcases h0 with rfl | rfl
    ·have hbit : Co.bit zs k = 0 := by unfold Co.bit; rw [<- HZ.out]; rfl
     go_wp2
     go_region
     go_wp2
     have hr := Co.put_round hown hbel hin HALL.out (by rw [hbit]; decide) (bits .or .u8 (Co.val zs (8 * (k / 8)) (k % 8) : Int) (0)) (by
      rw [hbit, show (0 : Int) = ((0 * 2 ^ (k % 8) : Nat) : Int) from by simp]
      exact Co.or_sum _ _ _ hrm (by decide) (Nat.mod_lt _ (by decide)))
     go_roundw
     case rel =>
      refine ⟨k + 1, by omega, by go_num, hr.1, hr.2, ?_⟩
      rw [Co.take_snoc zs k (by rw [HL.out]; exact hlt), Co.all_snoc, HALL.out, <- HZ.out]; rfl
     case measure => simp [intOf]; omega
    ·have hbit : Co.bit zs k = 1 := by unfold Co.bit; rw [<- HZ.out]; rfl
     go_wp2
     go_region
     go_wp2
     have hr := Co.put_round hown hbel hin HALL.out (by rw [hbit]; decide) (bits .or .u8 (Co.val zs (8 * (k / 8)) (k % 8) : Int) (2 ^ (k % 8) % 256)) (by
      rw [hbit, show (2 ^ (k % 8) % 256 : Int) = ((1 * 2 ^ (k % 8) : Nat) : Int) from by
       have := Co.pow_le (k % 8) (Nat.mod_lt _ (by decide))
       rw [Nat.pow_succ] at this
       rw [Nat.one_mul, Int.emod_eq_of_lt (Int.le_of_lt (Int.pow_pos (by decide))) (by have : ((2 ^ (k % 8) : Nat) : Int) < 256 := by omega
                                                                                       simpa using this)]
       simp]
      exact Co.or_sum _ _ _ hrm (by decide) (Nat.mod_lt _ (by decide)))
     go_roundw
     case rel =>
      refine ⟨k + 1, by omega, by go_num, hr.1, hr.2, ?_⟩
      rw [Co.take_snoc zs k (by rw [HL.out]; exact hlt), Co.all_snoc, HALL.out, <- HZ.out]; rfl
     case measure => simp [intOf]; omega
   ·have hz0' : (z != 0) = true := by simp; omega
    have hz1' : (z != 1) = true := by simp; omega
    go_wp2
    go_ret2
    have e := Co.all_false zs k (by rw [HL.out]; exact hlt) (by rw [<- HZ.out, Co.isBit]; simp; omega)
    rw [Co.put, e]
    exact ⟨rfl, hbel⟩
  ·obtain rfl : k = n := by omega
   have hx : Co.allBits zs = true := by
    have e := HALL.out
    rwa [List.take_of_length_le (by rw [HL.out]; omega)] at e
   have hcs : (Co.cells zs (Co.nsize k) k).map (Value.int .u8) = (Co.bytes zs).map bv := by
    have := Co.cells_all zs hx
    rwa [HL.out] at this
   rw [hcs] at hown
   have hcv := own_string (P := Tryz.prog) Tryz.underlying25 Tryz.underlying5 hown 9 Tryz.underlying9
   have HX := Lib.hid hx
   clear hown hcs hx
   go_wp2
   go_ret2
   rw [Co.put, HX.out]
   exact ⟨rfl, hbel⟩
def GetRel (w : World) (s : ByteArray) (n : Nat) (i : Value) (wr : World) : Prop :=
 ∃ k : Nat, k <= n ∧ i = .int .i64 k ∧ wr.ownsRow w.heap.size 3 1 (.slice (some ⟨w.heap.size, 0, none⟩) n n) n ((Co.bitsOf s k ++ List.replicate (n - k) (0 : Int)).map (Value.int .i64)) ∧ Below w.heap.size w wr
set_option maxHeartbeats 400000 in
theorem getF_any (s : ByteArray) (n : Int) (w : World) (hs : s.size <= 1000000) (hn : n <= 9223372036854775807) :
  Calls Tryz.prog 74 #[.string s, .int .i64 n] w (RetIntsF (Co.get s n) (Co.getOk s n) w) := by
 by_cases h0 : n < 0
 ·have e : Co.getOk s n = false := by rw [Co.getOk, show decide (0 <= n) = false from by simp; omega]; rfl
  have HE := Lib.hid e
  clear e
  go_enter Tryz.func74, Tryz.ntmps74
  go_wp2
  go_ret2
  exact ⟨none, 0, 0, by rw [HE.out]; rfl, by rw [Co.get, HE.out]; exact Ints.none_ _ _ _ _, Below.refl _ _, FreshC.zero _ _ _⟩
 ·by_cases hsz : (s.size : Int) = Co.size n
  ·have hlf := Co.left_eq s n (by omega) hsz
   have HLF := Lib.hid hlf
   clear hlf
   by_cases hl : Co.left s n = true
   ·have e : Co.getOk s n = false := by rw [Co.getOk, HLF.out, hl]; simp
    have HE := Lib.hid e
    have HSZ := Lib.hid hsz
    clear e
    have hd : ((s.size : Int) != Co.size n) = false := by simp [hsz]
    clear hsz
    go_enter Tryz.func74, Tryz.ntmps74
    go_wp2_with fail
    refine (size_any n _ hn).mono ?_
    rintro e w1 ⟨rfl, rfl⟩
    go_wp2_with fail
    refine (left_any s n _ hs (by omega) HSZ.out).mono ?_
    rintro e w1 ⟨rfl, hq⟩
    rw [hl]
    go_wp2
    go_ret2
    exact ⟨none, 0, 0, by rw [HE.out]; rfl, by rw [Co.get, HE.out]; exact Ints.none_ _ _ _ _, hq.below _, FreshC.zero _ _ _⟩
   ·replace hl : Co.left s n = false := by simpa using hl
    have e : Co.getOk s n = true := by
     rw [Co.getOk, HLF.out, hl, show decide (0 <= n) = true from by simp; omega, show decide ((s.size : Int) = Co.size n) = true from by simpa using hsz]; rfl
    have HE := Lib.hid e
    clear e
    obtain ⟨m, rfl⟩ := Int.eq_ofNat_of_zero_le (show 0 <= n by omega)
    have hm : s.size = Co.nsize m := by
     have := Co.size_nat m
     rw [hsz.symm] at this
     omega
    have HM := Lib.hid hm
    have hmle : m <= 8000000 := by unfold Co.nsize at hm; omega
    have HSZ := Lib.hid hsz
    have hd : ((s.size : Int) != Co.size (m : Int)) = false := by simp [hsz]
    clear hsz hm
    obtain ⟨i0, hi, hz0, hz1, hz2⟩ := info_parts info_int
    go_enter Tryz.func74, Tryz.ntmps74
    go_wp2_with fail
    refine (size_any (m : Int) _ hn).mono ?_
    rintro e w1 ⟨rfl, rfl⟩
    go_wp2_with fail
    refine (left_any s (m : Int) _ hs (by omega) HSZ.out).mono ?_
    rintro e w1 ⟨rfl, hq⟩
    rw [hl]
    have hbq := hq.below w.heap.size
    have hqs := hq.size
    go_wp2_with (at_make; refine wpList_make_full _ rfl _ _ 33 rfl w1.heap.size 3 i0 (.int .i64 0) 1 Tryz.underlying33 hi hz0 hz1 _ _ _ _ m rfl rfl rfl rfl ?b2 ?b3 (Nat.le_refl _) ?_)
    case b2 => rw [hz2]; omega
    case b3 => unfold maxLen; omega
    intro w0 hown0 hgrow0
    go_wp2
    rw [hqs] at *
    go_loopw [26] (fun i wr => GetRel w s m i wr) (fun i _ => m - (intOf i).toNat)
    case atStart =>
     refine ⟨0, Nat.zero_le _, rfl, ?_, hbq.trans ((Below.refl _ _).grown hgrow0 (Nat.le_of_eq hq.size.symm) (fun k h => by cases h))⟩
     have := made_ints .i64 m
     rw [Nat.mul_one] at this
     rw [show Co.bitsOf s 0 ++ List.replicate (m - 0) (0 : Int) = List.replicate m 0 from rfl, <- this]
     exact hown0
    case round =>
     obtain ⟨k, hk, rfl, hown, hbel⟩ := hrel
     by_cases hlt : k < m
     ·have hk8 : k / 8 < s.size := by rw [HM.out]; unfold Co.nsize; omega
      have hx1 := idx (P := Tryz.prog) (k := .i64) s ((k : Int) / 8) Tryz.underlying9 (by omega) (by omega)
      have hr1 := byteAt_range s ((k : Int) / 8)
      have hst := own_write_int hown k (Co.nbit s k)
      rw [Co.fill_set s m k hlt] at hst
      have hck := hown.cellAt k (by omega)
      rw [List.getElem?_map, List.getElem?_append_right (by rw [Co.bits_len]; exact Nat.le_refl _), Co.bits_len, Nat.sub_self, List.getElem?_replicate, if_pos (by omega)] at hck
      simp only [Option.map_some] at hck
      have hfz : wr.frozen? ⟨w.heap.size, k, none⟩ = false := hown.frozenAt _
      go_wp2
      rw [Co.nbit_mask]
      refine ⟨⟨k + 1, by omega, by go_num, hst, hbel.setCell (Nat.le_refl _) _⟩, ?_⟩
      simp [intOf]; omega
     ·obtain rfl : k = m := by omega
      rw [Nat.sub_self, List.replicate_zero, List.append_nil] at hown
      go_wp2
      go_ret2
      refine ⟨some ⟨w.heap.size, 0, none⟩, k, k, by rw [HE.out]; rfl, ?_, hbel, FreshC.of_own hown (Nat.le_refl _)⟩
      rw [Co.get, HE.out]
      exact Ints.of_own hown
  ·have e : Co.getOk s n = false := by rw [Co.getOk, show decide ((s.size : Int) = Co.size n) = false from by simpa using hsz]; simp
   have HE := Lib.hid e
   clear e
   have hd : ((s.size : Int) != Co.size n) = true := by simpa using hsz
   go_enter Tryz.func74, Tryz.ntmps74
   go_wp2_with fail
   refine (size_any n _ hn).mono ?_
   rintro e w1 ⟨rfl, rfl⟩
   go_wp2
   go_ret2
   exact ⟨none, 0, 0, by rw [HE.out]; rfl, by rw [Co.get, HE.out]; exact Ints.none_ _ _ _ _, Below.refl _ _, FreshC.zero _ _ _⟩
end Go.Proofs.YtaciogcpghbhjaaGreat.Coil
