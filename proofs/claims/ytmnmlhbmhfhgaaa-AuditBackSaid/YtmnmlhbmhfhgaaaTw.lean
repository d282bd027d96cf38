import Derived.Test.YtmnmlhbmhfhgaaaRows
import Derived.Test.YtmnmlhbmhfhgaaaTwA
namespace Go.Proofs.Ytmnmlhbmhfhgaaa.Twin
set_option maxRecDepth 100000
open Go.ChangeShapes Go.WideShapes Go.ChangeAt Go.RowKit

theorem info_uint8 : (Try.prog.info? 5).map (fun i => (i.zero, i.size, i.bytes)) = some (some (.int .u8 0), 1, 1) := by kernel_rfl
theorem info_int : (Try.prog.info? 3).map (fun i => (i.zero, i.size, i.bytes)) = some (some (.int .i64 0), 1, 8) := by kernel_rfl

set_option maxHeartbeats 400000 in
theorem putAll_any (A : Option Addr) (n c : Nat) (zs : List Int) (w : World) (hn : n ≤ 1000000) (hA : Ints .i64 w w.heap.size A n zs) :
    Calls Try.prog 25 #[.slice A n c] w fun e w' => e = .returned (.tuple #[.string (st (Tw.put zs)), .bool (Tw.allIn zs)]) ∧ Below w.heap.size w w' := by
  obtain ⟨i0, hi, hz0, hz1, hz2⟩ := info_parts info_uint8
  have hlen := hA.1
  have HL := Lib.hid hlen
  clear hlen
  go_enter Try.func25, Try.ntmps25
  go_wp2_with (at_make; refine wpList_make_own _ rfl _ _ 36 rfl w.heap.size 5 i0 (.int .u8 0) 1 Try.underlying36 hi hz0 hz1 _ _ _ (2 * n) rfl rfl (by omega) ?b2 ?b3 (Nat.le_refl _) ?_)
  case b2 => rw [hz2]; omega
  case b3 => unfold maxLen; omega
  intro w0 hown0 hgrow0
  go_wp2
  go_loopw [4, 13] (fun v i wr => PutRel w n zs v i wr) (fun _ i _ => n - (intOf i).toNat)
  case atStart => exact ⟨0, Nat.zero_le _, rfl, by simpa [Tw.bytes] using hown0, (Below.refl _ _).grown hgrow0 (Nat.le_refl _) (fun k h => by cases h), rfl⟩
  case round =>
    obtain ⟨k, hk, rfl, hown, hbel, hall⟩ := hrel
    have HALL := Lib.hid hall
    clear hall
    by_cases hlt : k < n
    · obtain ⟨b, off, rfl, hb, hc⟩ := hA.2 (by omega)
      have hck := (hbel.cell (p := ⟨b, off + k, none⟩) hb).trans (hc k hlt)
      clear hc
      obtain ⟨z, hz⟩ : ∃ z, z = zs.getD k 0 := ⟨_, rfl⟩
      rw [← hz] at hck
      have HZ := Lib.hid hz
      clear hz
      by_cases h0 : z < 0
      · go_wp2
        go_ret2
        have e := Tw.allIn_false zs k (by rw [HL.out]; exact hlt) (by rw [← HZ.out]; exact Tw.not_inR (.inl h0))
        rw [Tw.put, e]
        exact ⟨rfl, hbel⟩
      · by_cases h1 : 65535 < z
        · go_wp2
          go_ret2
          have e := Tw.allIn_false zs k (by rw [HL.out]; exact hlt) (by rw [← HZ.out]; exact Tw.not_inR (.inr h1))
          rw [Tw.put, e]
          exact ⟨rfl, hbel⟩
        · have hs := hbel.size
          go_wp2_with (at_builtin; refine append_new rfl _ _ 36 rfl w.heap.size 5 (.int .u8 0) 1 1 Try.underlying36 info_uint8 rfl (by decide) _ _ _ rfl hown hs 2 #[.int .u8 (z / 256), .int .u8 (z % 256)] rfl rfl (by intro u hu; simp at hu; rcases hu with rfl | rfl <;> rfl) (by unfold maxLen; omega) (by omega) ?_)
          intro v' w1 hown' hb1
          clear hown
          go_wp2
          go_roundw
          case rel =>
            refine ⟨k + 1, by omega, by go_num, ?_, hbel.trans hb1, ?_⟩
            · rw [Tw.take_snoc zs k (by rw [HL.out]; exact hlt), Tw.bytes_snoc, List.map_append, ← HZ.out, Tw.two_cells (by omega) (by omega)]
              exact hown'
            · rw [Tw.take_snoc zs k (by rw [HL.out]; exact hlt), Tw.allIn_snoc, HALL.out, ← HZ.out, Tw.inR_of (by omega) (by omega)]; rfl
          case measure => simp [intOf]; omega
    · obtain rfl : k = n := by omega
      have hcv := own_string (P := Try.prog) Try.underlying36 Try.underlying5 hown 9 Try.underlying9
      clear hown
      go_wp2
      go_ret2
      have e := HALL.out
      rw [List.take_of_length_le (by rw [HL.out]; omega)] at e
      rw [Tw.put, e, List.take_of_length_le (by rw [HL.out]; omega)]
      exact ⟨rfl, hbel⟩

set_option maxHeartbeats 400000 in
theorem number_any (s : ByteArray) (i : Int) (w : World) (hs : s.size ≤ maxLen) (h0 : 0 ≤ i) (h1 : i + 1 < s.size) :
    Calls Try.prog 31 #[.string s, .int .i64 i] w fun e w' => e = .returned (.int .i64 (Tw.num s i)) ∧ Quiet w w' := by
  unfold maxLen at hs
  have hx1 := idx (P := Try.prog) (k := .i64) s i Try.underlying9 h0 (by omega)
  have hx2 := idx (P := Try.prog) (k := .i64) s (i+1) Try.underlying9 (by omega) h1
  have hr1 := byteAt_range s i
  have hr2 := byteAt_range s (i+1)
  go_enter Try.func31, Try.ntmps31
  go_wp2
  go_quiet (fail)
  go_wp2
  go_ret
  rw [Tw.or_num _ _ hr1 hr2]
  exact ⟨rfl, _, rfl⟩

set_option maxHeartbeats 400000 in
theorem get_any (s : ByteArray) (i : Int) (w : World) (hs : s.size ≤ maxLen) :
    Calls Try.prog 27 #[.string s, .int .i64 i] w fun e w' => e = .returned (.tuple #[.int .i64 (Tw.get s i), .bool (Tw.getOk s i)]) ∧ Quiet w w' := by
  have hs' := hs
  unfold maxLen at hs'
  by_cases h0 : i < 0
  · have e : Tw.getOk s i = false := by simp [Tw.getOk]; omega
    go_enter Try.func27, Try.ntmps27
    go_wp2
    go_ret2
    rw [Tw.get, e]
    exact ⟨rfl, Quiet.refl _⟩
  · by_cases h1 : (s.size : Int) - 2 < i
    · have e : Tw.getOk s i = false := by simp [Tw.getOk]; omega
      go_enter Try.func27, Try.ntmps27
      go_wp2
      go_ret2
      rw [Tw.get, e]
      exact ⟨rfl, Quiet.refl _⟩
    · have e : Tw.getOk s i = true := by simp [Tw.getOk]; omega
      have HE := Lib.hid e
      clear e
      go_enter Try.func27, Try.ntmps27
      go_wp2_with fail
      refine (number_any s i _ hs (by omega) (by omega)).mono ?_
      rintro e w' ⟨rfl, hq⟩
      go_wp2
      go_ret2
      rw [Tw.get, HE.out]
      exact ⟨rfl, hq⟩


set_option maxHeartbeats 400000 in
theorem put_any (n : Int) (w : World) :
    Calls Try.prog 16 #[.int .i64 n] w fun e w' => e = .returned (.tuple #[.string (st (Tw.put [n])), .bool (Tw.inR n)]) ∧ Below w.heap.size w w' := by
  go_enter Try.func16, Try.ntmps16
  go_wp2_with fail
  refine (putAll_any _ 1 1 [n] _ (by omega) (by simpa using Ints.new .i64 w 3 [n] #[.int .i64 n] rfl)).mono ?_
  rintro e w' ⟨rfl, hb⟩
  have h : Tw.allIn [n] = Tw.inR n := by simp [Tw.allIn]
  rw [h]
  have hb2 : Below w.heap.size w w' := ((Below.refl w.heap.size w).alloc (Nat.le_refl _) _).trans (hb.mono (by simp))
  clear hb h
  go_wp2
  go_ret2
  exact ⟨rfl, hb2⟩

end Go.Proofs.Ytmnmlhbmhfhgaaa.Twin
