/- Layer 1's reference: each function answers what the plain words of TwA say. Conditions: lengths at most a million. -/
import Derived.Test.YtijnajlijdnbcaaRows
import Derived.Test.YtijnajlijdnbcaaTwA
namespace Go.Proofs.Ytijnajlijdnbcaa.Ref1
open Go.ChangeShapes Go.WideShapes Go.ChangeAt Go.RowKit

theorem info_int : (Try.prog.info? 3).map (fun i => (i.zero, i.size, i.bytes)) = some (some (.int .i64 0), 1, 8) := by kernel_rfl

set_option maxHeartbeats 400000 in
theorem put_any (n : Int) (w : World) :
    Calls Try.prog 53 #[.int .i64 n] w fun e w' => e = .returned (.tuple #[.string (st (Tw.put [n])), .bool (Tw.inR n)]) ∧ Below w.heap.size w w' := by
  by_cases h0 : n < 0
  · have e := Tw.not_inR (.inl h0)
    go_enter Try.func53, Try.ntmps53
    go_wp2
    go_ret2
    simp [Tw.put, Tw.allIn, e, st, Below.refl]
  · by_cases h1 : 65535 < n
    · have e := Tw.not_inR (.inr h1)
      go_enter Try.func53, Try.ntmps53
      go_wp2
      go_ret2
      simp [Tw.put, Tw.allIn, e, st, Below.refl]
    · have e := Tw.inR_of (z := n) (by omega) (by omega)
      have HE := Lib.hid e
      clear e
      have hcv : ∀ w : World, (convert 53 9 (.slice (some ⟨w.heap.size, 0, none⟩) 2 2)).run Try.prog (w.alloc (.cells #[.int .u8 (n / 256), .int .u8 (n % 256)] 5)) = .ok (.string (st (Tw.two n))) (w.alloc (.cells #[.int .u8 (n / 256), .int .u8 (n % 256)] 5)) :=
        fun w => conv_new Try.underlying53 Try.underlying5 Try.underlying9 _ 2 (Tw.two n) (Tw.two_cells (by omega) (by omega)).symm rfl
      go_enter Try.func53, Try.ntmps53
      go_wp2
      go_ret2
      refine ⟨?_, (Below.refl _ _).alloc (Nat.le_refl _) _⟩
      have e : Tw.put [n] = Tw.two n := by simp [Tw.put, Tw.allIn, HE.out, Tw.bytes]
      rw [e, HE.out]
      rfl

set_option maxHeartbeats 400000 in
theorem of_any (n : Int) (w : World) :
    Calls Try.prog 52 #[.int .i64 n] w fun e w' => e = .returned (.string (st (Tw.put [n]))) ∧ Below w.heap.size w w' := by
  go_enter Try.func52, Try.ntmps52
  go_wp2_with fail
  refine (put_any n _).mono ?_
  rintro e w1 ⟨rfl, hb⟩
  go_wp2
  go_ret
  exact ⟨rfl, hb⟩

set_option maxHeartbeats 400000 in
theorem putAll_any (A : Option Addr) (n c : Nat) (zs : List Int) (w : World) (hn : n ≤ 1000000) (hA : Ints .i64 w w.heap.size A n zs) :
    Calls Try.prog 45 #[.slice A n c] w fun e w' => e = .returned (.tuple #[.string (st (Tw.put zs)), .bool (Tw.allIn zs)]) ∧ Below w.heap.size w w' := by
  have hlen := hA.1
  have HL := Lib.hid hlen
  clear hlen
  go_enter Try.func45, Try.ntmps45
  go_wp2
  go_loopw [4, 5] (fun v i wr => PutRel2 w n zs v i wr) (fun _ i _ => n - (intOf i).toNat)
  case atStart => exact ⟨0, Nat.zero_le _, rfl, rfl, Below.refl _ _, rfl⟩
  case round =>
    obtain ⟨k, hk, rfl, rfl, hbel, hall⟩ := hrel
    have HALL := Lib.hid hall
    clear hall
    by_cases hlt : k < n
    · obtain ⟨b, off, rfl, hb, hc⟩ := hA.2 (by omega)
      have hck := (hbel.cell (p := ⟨b, off + k, none⟩) hb).trans (hc k hlt)
      clear hc
      obtain ⟨z, hz⟩ : ∃ z, z = zs.getD k 0 := ⟨_, rfl⟩
      rw [← hz] at hck
      have HZ := Lib.hid hz
      clear hz
      have hs := hbel.size
      go_wp2_with fail
      refine (put_any z _).mono ?_
      rintro e w1 ⟨rfl, hb1⟩
      obtain ⟨pz, hpz⟩ : ∃ p, p = Tw.put [z] := ⟨_, rfl⟩
      rw [← hpz]
      have HPZ := Lib.hid hpz
      clear hpz
      by_cases hin : Tw.inR z = true
      · have hb2 := hbel.trans (hb1.mono hs)
        clear hb1
        have hadd := add_st (P := Try.prog) (Tw.bytes (List.take k zs)) pz (by
          have e : pz = Tw.two z := by rw [HPZ.out]; simp [Tw.put, Tw.allIn, hin, Tw.bytes]
          rw [Tw.bytes_len, e]
          simp [Tw.two]
          omega)
        go_wp2
        go_roundw
        case rel =>
          refine ⟨k + 1, by omega, by go_num, ?_, hb2, ?_⟩
          · have e : pz = Tw.two z := by rw [HPZ.out]; simp [Tw.put, Tw.allIn, hin, Tw.bytes]
            rw [Tw.take_snoc zs k (by rw [HL.out]; exact hlt), Tw.bytes_snoc, ← HZ.out, e]
          · rw [Tw.take_snoc zs k (by rw [HL.out]; exact hlt), Tw.allIn_snoc, HALL.out, ← HZ.out, hin]; rfl
        case measure => simp [intOf]; omega
      · replace hin : Tw.inR z = false := by simpa using hin
        have hb2 := hbel.trans (hb1.mono hs)
        clear hb1
        go_wp2
        go_ret2
        have e := Tw.allIn_false zs k (by rw [HL.out]; exact hlt) (by rw [← HZ.out]; exact hin)
        rw [Tw.put, e]
        exact ⟨rfl, hb2⟩
    · obtain rfl : k = n := by omega
      go_wp2
      go_ret2
      have e := HALL.out
      rw [List.take_of_length_le (by rw [HL.out]; omega)] at e
      rw [Tw.put, e, List.take_of_length_le (by rw [HL.out]; omega)]
      exact ⟨rfl, hbel⟩

set_option maxHeartbeats 400000 in
theorem get_any (s : ByteArray) (i : Int) (w : World) (hs : s.size ≤ maxLen) :
    Calls Try.prog 51 #[.string s, .int .i64 i] w fun e w' => e = .returned (.tuple #[.int .i64 (Tw.get s i), .bool (Tw.getOk s i)]) ∧ Quiet w w' := by
  unfold maxLen at hs
  by_cases h0 : i < 0
  · have e : Tw.getOk s i = false := by simp [Tw.getOk]; omega
    go_enter Try.func51, Try.ntmps51
    go_wp2
    go_ret2
    rw [Tw.get, e]
    exact ⟨rfl, Quiet.refl _⟩
  · by_cases h1 : (s.size : Int) ≤ i
    · have e : Tw.getOk s i = false := by simp [Tw.getOk]; omega
      go_enter Try.func51, Try.ntmps51
      go_wp2
      go_ret2
      rw [Tw.get, e]
      exact ⟨rfl, Quiet.refl _⟩
    · by_cases h2 : (s.size : Int) - i < 2
      · have e : Tw.getOk s i = false := by simp [Tw.getOk]; omega
        go_enter Try.func51, Try.ntmps51
        go_wp2
        go_ret2
        rw [Tw.get, e]
        exact ⟨rfl, Quiet.refl _⟩
      · have e : Tw.getOk s i = true := by simp [Tw.getOk]; omega
        have HE := Lib.hid e
        clear e
        have hx1 := idx (P := Try.prog) (k := .i64) s i Try.underlying9 (by omega) (by omega)
        have hx2 := idx (P := Try.prog) (k := .i64) s (i+1) Try.underlying9 (by omega) (by omega)
        have hr1 := byteAt_range s i
        have hr2 := byteAt_range s (i+1)
        go_enter Try.func51, Try.ntmps51
        go_wp2
        go_quiet (fail)
        go_wp2
        go_ret2
        rw [Tw.get, HE.out, Tw.num, Int.mul_comm (byteAt s i)]
        exact ⟨rfl, _, rfl⟩

set_option maxHeartbeats 400000 in
theorem at_any (s : ByteArray) (i : Int) (w : World) (hs : s.size ≤ maxLen) :
    Calls Try.prog 42 #[.string s, .int .i64 i] w fun e w' => e = .returned (.int .i64 (Tw.get s i)) ∧ Quiet w w' := by
  go_enter Try.func42, Try.ntmps42
  go_wp2_with fail
  refine (get_any s i _ hs).mono ?_
  rintro e w' ⟨rfl, hq⟩
  go_wp2
  go_ret
  exact ⟨rfl, hq⟩

set_option maxHeartbeats 400000 in
theorem getAllF_any (s : ByteArray) (w : World) (hs : s.size ≤ 1000000) :
    Calls Try.prog 31 #[.string s] w (RetIntsF (Tw.getAll s) (Tw.evenB s) w) := by
  by_cases hev : (s.size : Int) % 2 = 0
  · have e : Tw.evenB s = true := by simp [Tw.evenB]; omega
    have HE := Lib.hid e
    clear e
    go_enter Try.func31, Try.ntmps31
    go_wp2
    have HEV := Lib.hid hev
    clear hev
    go_loopw [4, 5] (fun v i wr => GetRel w s v i wr) (fun _ i _ => s.size - (intOf i).toNat)
    case atStart => exact ⟨0, Nat.zero_le _, rfl, World.ownsRow_nil _ _ _ _, Below.refl _ _⟩
    case round =>
      obtain ⟨k, hk, rfl, hown, hbel⟩ := hrel
      have hev := HEV.out
      by_cases hlt : 2 * k < s.size
      · have hlt2 : (2 * k : Int) + 1 < s.size := by omega
        clear hev
        have hge : Tw.get s (2 * k : Int) = Tw.num s (2 * k : Int) := by
          have e : Tw.getOk s (2 * k : Int) = true := by simp [Tw.getOk]; omega
          rw [Tw.get, e]; rfl
        have HGE := Lib.hid hge
        clear hge
        go_wp2_with fail
        refine (at_any s (2 * k : Int) _ (by unfold maxLen; omega)).mono ?_
        rintro e w1 ⟨rfl, hq⟩
        rw [HGE.out]
        replace hown := hq.own hown
        replace hbel := hbel.trans (hq.below _)
        have hs2 := hbel.size
        clear hq
        go_wp2_with (at_builtin; refine append_new rfl _ _ 31 rfl w.heap.size 3 (.int .i64 0) 1 8 Try.underlying31 info_int rfl (by decide) _ _ _ rfl hown hs2 1 #[.int .i64 (Tw.num s (2 * k : Int))] rfl rfl (by intro u hu; simp at hu; subst hu; rfl) (by unfold maxLen; omega) (by omega) ?_)
        intro v' w1 hown' hb1
        clear hown
        go_wp2
        go_roundw
        case rel =>
          refine ⟨k + 1, by omega, by go_num, ?_, hbel.trans hb1⟩
          rw [Tw.nums_succ, List.map_append]
          exact hown'
        case measure => simp [intOf]; omega
      · obtain ⟨n, hn⟩ : ∃ n, n = s.size / 2 := ⟨_, rfl⟩
        obtain rfl : k = n := by omega
        have HN := Lib.hid hn
        clear hn hev
        obtain ⟨A, c, rfl⟩ := own_slice hown
        go_wp2
        go_ret2
        refine ⟨A, k, c, by rw [HE.out]; rfl, ?_, hbel, Fresh.of_own hown (Nat.le_refl _)⟩
        rw [Tw.getAll, HE.out, ← HN.out]
        exact Ints.of_own hown
  · have e : Tw.evenB s = false := by simp [Tw.evenB]; omega
    have HE := Lib.hid e
    clear e
    go_enter Try.func31, Try.ntmps31
    go_wp2
    go_ret2
    exact ⟨none, 0, 0, by rw [HE.out]; rfl, by rw [Tw.getAll, HE.out]; exact Ints.none_ _ _ _ _, Below.refl _ _, Fresh.zero _ _⟩
theorem getAll_any (s : ByteArray) (w : World) (hs : s.size ≤ 1000000) :
    Calls Try.prog 31 #[.string s] w (RetInts (Tw.getAll s) (Tw.evenB s) w) :=
  (getAllF_any s w hs).mono fun _ _ h => h.plain


end Go.Proofs.Ytijnajlijdnbcaa.Ref1
