/- Layer 6's reference: Put, of several values. Conditions: at most a million values. -/
import Derived.Test.YtijnajlijdnbcaaAskP
import Derived.Deep.RegionWith
namespace Go.Proofs.Ytijnajlijdnbcaa.Ref6
set_option linter.unusedVariables false
open Go.ChangeShapes Go.WideShapes Go.ChangeAt Go.RowKit

theorem ret_sb {a b : ByteArray} {c : Bool} (h : a = b) : Ending.returned (.tuple #[.string a, .bool c]) = Ending.returned (.tuple #[.string b, .bool c]) := by rw [h]
set_option maxHeartbeats 4000000 in
theorem put_16 (A : Option Addr) (n c : Nat) (wr : Int) (vs : List Int) (w : World) (hn : n ≤ 123) (hall : Tw.allIn vs = true) (hwr : 0 ≤ wr ∧ wr ≤ 65535) (hr : Ak.right ⟨16, 0, 0, wr, (n : Int), vs⟩ = true) (hA : Ints .i64 w w.heap.size A n vs) :
    Calls Try.prog 44 #[.agg #[.int .i64 16, .int .i64 0, .int .i64 0, .int .i64 wr, .int .i64 (n : Int), .slice A n c]] w
      fun e w' => e = .returned (.tuple #[.string (st (Ak.bytes ⟨16, 0, 0, wr, (n : Int), vs⟩)), .bool true]) ∧ Keep w w' := by
  have hbx := Boxed.new w ⟨16, 0, 0, wr, (n : Int), vs⟩ A n c 33
  have k0 := (Keep.refl w).alloc (.cells #[.int .i64 16, .int .i64 0, .int .i64 0, .int .i64 wr, .int .i64 (n : Int), .slice A n c] 33)
  have hA0 := hA.kept k0
  have hcv : ∀ w : World, (convert 53 9 (.slice (some ⟨w.heap.size, 0, none⟩) 1 1)).run Try.prog (w.alloc (.cells #[.int .u8 16] 5)) = .ok (.string (st [UInt8.ofNat 16])) (w.alloc (.cells #[.int .u8 16] 5)) :=
    fun w => conv_new Try.underlying53 Try.underlying5 Try.underlying9 _ 1 [UInt8.ofNat 16] rfl rfl
  have HE1 := Lib.hid (put_one hwr.1 hwr.2)
  obtain ⟨b16, hb16⟩ : ∃ b, b = UInt8.ofNat 16 := ⟨_, rfl⟩
  obtain ⟨bl2, hbl2⟩ : ∃ b, b = UInt8.ofNat (2 * n) := ⟨_, rfl⟩
  have HBL := Lib.hid hbl2
  have HB16 := Lib.hid hb16
  rw [← hb16] at hcv
  clear hbl2 hb16
  have hl := hA.1
  have HP := Lib.hid (show Tw.put vs = Tw.bytes vs by rw [Tw.put, hall]; rfl)
  have hbl : (Tw.bytes vs).length = 2 * n := by rw [Tw.bytes_len, hl]
  have hmn : (0 : Int) ≤ (n : Int) ∧ (n : Int) ≤ 65535 := by omega
  have HE2 := Lib.hid (put_one hmn.1 hmn.2)
  have a1 := add_st (P := Try.prog) [b16] (Tw.two wr) (by simp [Tw.two])
  have a2 := add_st (P := Try.prog) (b16 :: Tw.two wr) (Tw.two (n : Int)) (by simp [Tw.two])
  have a3 := add_st (P := Try.prog) (b16 :: (Tw.two wr ++ Tw.two (n : Int))) [bl2] (by simp [Tw.two])
  have a4 := add_st (P := Try.prog) (b16 :: (Tw.two wr ++ (Tw.two (n : Int) ++ [bl2]))) (Tw.bytes vs) (by rw [hbl]; simp [Tw.two]; omega)
  have HS := Lib.hid (Ak.shape16 0 0 wr (n : Int) vs)
  have hsz : (st (Tw.bytes vs)).size = 2 * n := by rw [st_size, hbl]
  have hcv2 : ∀ (W : World) (g : Nat), W.cell? ⟨g, 0, none⟩ = some (.int .u8 (2 * (n : Int))) → (convert 53 9 (.slice (some ⟨g, 0, none⟩) 1 1)).run Try.prog W = .ok (.string (st [bl2])) W := fun W g hg => by
    have h := run_convert_bytes_arg (P := Try.prog) W 53 5 Try.underlying53 Try.underlying5 g 0 1 1 [2 * (n : Int)] rfl (fun i hi => by
      obtain rfl : i = 0 := by omega
      exact hg) 9 Try.underlying9
    rw [h]
    rw [show strOfNums [2 * (n : Int)] = st [UInt8.ofNat (2 * (n : Int)).toNat] from rfl, show (2 * (n : Int)).toNat = 2 * n from by omega, ← HBL.out]
  have h8 : IntKind.u8.wrap (2 * (n : Int)) = 2 * (n : Int) := by rw [IntKind.wrap_u8]; omega
  have HL := Lib.hid hbl
  clear hbl hl
  go_enter Try.func44, Try.ntmps44
  go_wp2_with fail
  refine (right_any A n c ⟨16, 0, 0, wr, (n : Int), vs⟩ _ (by omega) hA0).mono ?_
  rintro e w1 ⟨rfl, hK⟩
  rw [hr]
  have hb1 := hbx.below hK (by simp)
  have hA1 := hA0.kept hK
  have hlt : w.heap.size < w1.heap.size := by have := hK.size; simp at this; omega
  replace k0 := k0.trans hK
  have hX0 : ∀ W, Keep w1 W → Boxed w.heap.size ⟨16, 0, 0, wr, (n : Int), vs⟩ A n c W ∧ Ints .i64 W W.heap.size A n vs := fun W h => ⟨hb1.below h hlt, hA1.kept h⟩
  clear hbx hK hA0 hA hA1
  have kx := (Keep.refl w1).alloc (.cells #[.int .u8 16] 5)
  obtain ⟨c0, c1, c2, c3, c4, c5⟩ := hb1
  go_wp2_with fail
  refine (reads_any 16 _).mono ?_
  rintro e w2 ⟨rfl, rfl⟩
  rw [show Ak.reads 16 = 0 from rfl]
  obtain ⟨⟨c0, c1, c2, c3, c4, c5⟩, hA2⟩ := hX0 _ kx
  go_wp2_with fail
  refine (writes_any 16 _).mono ?_
  rintro e w2 ⟨rfl, rfl⟩
  rw [show Ak.wmax 16 = 123 from rfl, show Ak.wtwo 16 = 0 from rfl, show Ak.wtop 16 = 65535 from rfl]
  go_wp2_with fail
  refine (Ref1.of_any wr _).mono ?_
  rintro e w3 ⟨rfl, hb3⟩
  rw [HE1.out]
  replace kx := kx.trans hb3
  clear hb3 c0 c1 c2 c3 c4 c5 hA2
  obtain ⟨⟨c0, c1, c2, c3, c4, c5⟩, hA3⟩ := hX0 _ kx
  go_wp2_with fail
  refine (Ref1.putAll_any _ _ _ _ _ (by omega) hA3).mono ?_
  rintro e w4 ⟨rfl, hb4⟩
  replace kx := kx.trans hb4
  clear hb4 c0 c1 c2 c3 c4 c5 hA3
  obtain ⟨⟨c0, c1, c2, c3, c4, c5⟩, hA4⟩ := hX0 _ kx
  rw [HP.out]
  go_wp2
  have hX1 : ∀ W, Keep w4 W → W.cell? ⟨w.heap.size, 4, none⟩ = some (.int .i64 (n : Int)) := fun W h => (hX0 _ (kx.trans h)).1.2.2.2.2.1
  have hcvA : ∀ w : World, (convert 53 9 (.slice (some ⟨w.heap.size, 0, none⟩) 1 1)).run Try.prog (w.alloc (.cells #[.int .u8 (2 * (n : Int))] 5)) = .ok (.string (st [bl2])) (w.alloc (.cells #[.int .u8 (2 * (n : Int))] 5)) :=
    fun w => hcv2 _ _ (by rw [World.cell?_alloc_at (hn := rfl)]; rfl)
  have hcvB : ∀ w : World, (convert 53 9 (.slice (some ⟨w.heap.size, 0, none⟩) 1 1)).run Try.prog (w.alloc (.cells #[.int .u8 (2 * (n : Int))] 5)).drew = .ok (.string (st [bl2])) (w.alloc (.cells #[.int .u8 (2 * (n : Int))] 5)).drew :=
    fun w => hcv2 _ _ (by show (w.alloc _).cell? _ = _; rw [World.cell?_alloc_at (hn := rfl)]; rfl)
  clear c0 c1 c2 c3 c4 c5 hA4 hX0 hcv
  have c4 := hX1 _ (Keep.refl w4)
  have hlt4 : w.heap.size < w4.heap.size := by have := kx.size; omega
  have HCV2 := Lib.hid hcv2
  have HX1 := Lib.hid hX1
  clear hcv2 hX1
  have HE : Hid (st (b16 :: (Tw.two wr ++ (Tw.two (n : Int) ++ bl2 :: Tw.bytes vs))) = st (Ak.bytes ⟨16, 0, 0, wr, (n : Int), vs⟩)) := Lib.hid (by rw [HS.out, HL.out, ← HBL.out, ← HB16.out])
  go_region_with (first
      | (go_at_call 52; refine (Ref1.of_any _ _).mono ?_; rintro e w5 ⟨rfl, hb5⟩; rw [HE2.out]; have hw : Keep w4 w5 := Keep.trans (keepd ((Keep.refl w4).alloc _)) hb5; have hcvC := HCV2.out w5 w4.heap.size ((hb5.cell (p := ⟨w4.heap.size, 0, none⟩) (by simp)).trans (by show (w4.alloc _).cell? _ = _; rw [World.cell?_alloc_at (hn := rfl)]; rfl)); have c4 := HX1.out _ hw; have hlt5 : w.heap.size < w5.heap.size := by have := hw.size; omega)
      | (go_at_call 52; refine (Ref1.of_any _ _).mono ?_; rintro e w5 ⟨rfl, hb5⟩; rw [HE2.out]; have hw : Keep w4 w5 := Keep.trans (keepd (Keep.refl w4)) hb5; have c4 := HX1.out _ hw; have hlt5 : w.heap.size < w5.heap.size := by have := hw.size; omega)
      | fail)
  all_goals (
    clear hcvA hcvB a1 a2 a3 a4 HCV2 HX1 HE2 HE1 HP hall hsz h8 hmn
    go_simp
    go_wp2
    go_ret2
    exact ⟨ret_sb HE.out, k0.trans (kx.trans (by first | exact hw | exact hw.alloc _))⟩)

set_option maxHeartbeats 4000000 in
theorem put_15 (A : Option Addr) (n c : Nat) (wr : Int) (vs : List Int) (w : World) (hn : n ≤ 1968) (hall : Co.allBits vs = true) (hwr : 0 ≤ wr ∧ wr ≤ 65535) (hr : Ak.right ⟨15, 0, 0, wr, (n : Int), vs⟩ = true) (hA : Ints .i64 w w.heap.size A n vs) :
    Calls Try.prog 44 #[.agg #[.int .i64 15, .int .i64 0, .int .i64 0, .int .i64 wr, .int .i64 (n : Int), .slice A n c]] w
      fun e w' => e = .returned (.tuple #[.string (st (Ak.bytes ⟨15, 0, 0, wr, (n : Int), vs⟩)), .bool true]) ∧ Keep w w' := by
  have hbx := Boxed.new w ⟨15, 0, 0, wr, (n : Int), vs⟩ A n c 33
  have k0 := (Keep.refl w).alloc (.cells #[.int .i64 15, .int .i64 0, .int .i64 0, .int .i64 wr, .int .i64 (n : Int), .slice A n c] 33)
  have hA0 := hA.kept k0
  have hcv : ∀ w : World, (convert 53 9 (.slice (some ⟨w.heap.size, 0, none⟩) 1 1)).run Try.prog (w.alloc (.cells #[.int .u8 15] 5)) = .ok (.string (st [UInt8.ofNat 15])) (w.alloc (.cells #[.int .u8 15] 5)) :=
    fun w => conv_new Try.underlying53 Try.underlying5 Try.underlying9 _ 1 [UInt8.ofNat 15] rfl rfl
  have HE1 := Lib.hid (put_one hwr.1 hwr.2)
  obtain ⟨b15, hb15⟩ : ∃ b, b = UInt8.ofNat 15 := ⟨_, rfl⟩
  obtain ⟨m, hm⟩ : ∃ m, m = Co.nsize n := ⟨_, rfl⟩
  have hm2 : m ≤ 246 := by unfold Co.nsize at hm; omega
  obtain ⟨bl2, hbl2⟩ : ∃ b, b = UInt8.ofNat m := ⟨_, rfl⟩
  have HBL := Lib.hid hbl2
  have HB15 := Lib.hid hb15
  rw [← hb15] at hcv
  clear hbl2 hb15
  have hl := hA.1
  have HP := Lib.hid (Co.put_ok vs hall)
  have hbl : (Co.bytes vs).length = m := by rw [Co.bytes_len, hl, hm]
  have hmn : (0 : Int) ≤ (n : Int) ∧ (n : Int) ≤ 65535 := by omega
  have HE2 := Lib.hid (put_one hmn.1 hmn.2)
  have HM := Lib.hid hm
  clear hm
  have a1 := add_st (P := Try.prog) [b15] (Tw.two wr) (by simp [Tw.two])
  have a2 := add_st (P := Try.prog) (b15 :: Tw.two wr) (Tw.two (n : Int)) (by simp [Tw.two])
  have a3 := add_st (P := Try.prog) (b15 :: (Tw.two wr ++ Tw.two (n : Int))) [bl2] (by simp [Tw.two])
  have a4 := add_st (P := Try.prog) (b15 :: (Tw.two wr ++ (Tw.two (n : Int) ++ [bl2]))) (Co.bytes vs) (by rw [hbl]; simp [Tw.two]; omega)
  have HS := Lib.hid (Ak.shape15 0 0 wr (n : Int) vs)
  have hsz : (st (Co.bytes vs)).size = m := by rw [st_size, hbl]
  have hcv2 : ∀ (W : World) (g : Nat), W.cell? ⟨g, 0, none⟩ = some (.int .u8 (m : Int)) → (convert 53 9 (.slice (some ⟨g, 0, none⟩) 1 1)).run Try.prog W = .ok (.string (st [bl2])) W := fun W g hg => by
    have h := run_convert_bytes_arg (P := Try.prog) W 53 5 Try.underlying53 Try.underlying5 g 0 1 1 [(m : Int)] rfl (fun i hi => by
      obtain rfl : i = 0 := by omega
      exact hg) 9 Try.underlying9
    rw [h]
    rw [show strOfNums [(m : Int)] = st [UInt8.ofNat (m : Int).toNat] from rfl, show (m : Int).toNat = m from by omega, ← HBL.out]
  have h8 : IntKind.u8.wrap (m : Int) = (m : Int) := by rw [IntKind.wrap_u8]; omega
  have HL := Lib.hid hbl
  clear hbl hl
  go_enter Try.func44, Try.ntmps44
  go_wp2_with fail
  refine (right_any A n c ⟨15, 0, 0, wr, (n : Int), vs⟩ _ (by omega) hA0).mono ?_
  rintro e w1 ⟨rfl, hK⟩
  rw [hr]
  have hb1 := hbx.below hK (by simp)
  have hA1 := hA0.kept hK
  have hlt : w.heap.size < w1.heap.size := by have := hK.size; simp at this; omega
  replace k0 := k0.trans hK
  have hX0 : ∀ W, Keep w1 W → Boxed w.heap.size ⟨15, 0, 0, wr, (n : Int), vs⟩ A n c W ∧ Ints .i64 W W.heap.size A n vs := fun W h => ⟨hb1.below h hlt, hA1.kept h⟩
  clear hbx hK hA0 hA hA1
  have kx := (Keep.refl w1).alloc (.cells #[.int .u8 15] 5)
  obtain ⟨c0, c1, c2, c3, c4, c5⟩ := hb1
  go_wp2_with fail
  refine (reads_any 15 _).mono ?_
  rintro e w2 ⟨rfl, rfl⟩
  rw [show Ak.reads 15 = 0 from rfl]
  obtain ⟨⟨c0, c1, c2, c3, c4, c5⟩, hA2⟩ := hX0 _ kx
  go_wp2_with fail
  refine (writes_any 15 _).mono ?_
  rintro e w2 ⟨rfl, rfl⟩
  rw [show Ak.wmax 15 = 1968 from rfl, show Ak.wtwo 15 = 0 from rfl, show Ak.wtop 15 = 1 from rfl]
  go_wp2_with fail
  refine (Ref1.of_any wr _).mono ?_
  rintro e w3 ⟨rfl, hb3⟩
  rw [HE1.out]
  replace kx := kx.trans hb3
  clear hb3 c0 c1 c2 c3 c4 c5 hA2
  obtain ⟨⟨c0, c1, c2, c3, c4, c5⟩, hA3⟩ := hX0 _ kx
  go_wp2_with fail
  refine (Ref1.putAll_any _ _ _ _ _ (by omega) hA3).mono ?_
  rintro e w4 ⟨rfl, hb4⟩
  replace kx := kx.trans hb4
  clear hb4 c0 c1 c2 c3 c4 c5 hA3
  obtain ⟨⟨c0, c1, c2, c3, c4, c5⟩, hA4⟩ := hX0 _ kx
  go_wp2_with fail
  refine (Ref5.put_any _ _ _ _ _ (by omega) hA4).mono ?_
  rintro e w6 ⟨rfl, hb6⟩
  replace kx := kx.trans hb6
  clear hb6 c0 c1 c2 c3 c4 c5 hA4
  obtain ⟨⟨c0, c1, c2, c3, c4, c5⟩, hA6⟩ := hX0 _ kx
  rw [HP.out]
  go_wp2
  have hX1 : ∀ W, Keep w6 W → W.cell? ⟨w.heap.size, 4, none⟩ = some (.int .i64 (n : Int)) := fun W h => (hX0 _ (kx.trans h)).1.2.2.2.2.1
  have hcvA : ∀ w : World, (convert 53 9 (.slice (some ⟨w.heap.size, 0, none⟩) 1 1)).run Try.prog (w.alloc (.cells #[.int .u8 (m : Int)] 5)) = .ok (.string (st [bl2])) (w.alloc (.cells #[.int .u8 (m : Int)] 5)) :=
    fun w => hcv2 _ _ (by rw [World.cell?_alloc_at (hn := rfl)]; rfl)
  have hcvB : ∀ w : World, (convert 53 9 (.slice (some ⟨w.heap.size, 0, none⟩) 1 1)).run Try.prog (w.alloc (.cells #[.int .u8 (m : Int)] 5)).drew = .ok (.string (st [bl2])) (w.alloc (.cells #[.int .u8 (m : Int)] 5)).drew :=
    fun w => hcv2 _ _ (by show (w.alloc _).cell? _ = _; rw [World.cell?_alloc_at (hn := rfl)]; rfl)
  clear c0 c1 c2 c3 c4 c5 hA6 hX0 hcv
  have c4 := hX1 _ (Keep.refl w6)
  have hlt4 : w.heap.size < w6.heap.size := by have := kx.size; omega
  have HCV2 := Lib.hid hcv2
  have HX1 := Lib.hid hX1
  clear hcv2 hX1
  have HE : Hid (st (b15 :: (Tw.two wr ++ (Tw.two (n : Int) ++ bl2 :: Co.bytes vs))) = st (Ak.bytes ⟨15, 0, 0, wr, (n : Int), vs⟩)) := Lib.hid (by rw [HS.out, HL.out, ← HBL.out, ← HB15.out])
  go_region_with (first
      | (go_at_call 52; refine (Ref1.of_any _ _).mono ?_; rintro e w5 ⟨rfl, hb5⟩; rw [HE2.out]; have hw : Keep w6 w5 := Keep.trans (keepd ((Keep.refl w6).alloc _)) hb5; have hcvC := HCV2.out w5 w6.heap.size ((hb5.cell (p := ⟨w6.heap.size, 0, none⟩) (by simp)).trans (by show (w6.alloc _).cell? _ = _; rw [World.cell?_alloc_at (hn := rfl)]; rfl)); have c4 := HX1.out _ hw; have hlt5 : w.heap.size < w5.heap.size := by have := hw.size; omega)
      | (go_at_call 52; refine (Ref1.of_any _ _).mono ?_; rintro e w5 ⟨rfl, hb5⟩; rw [HE2.out]; have hw : Keep w6 w5 := Keep.trans (keepd (Keep.refl w6)) hb5; have c4 := HX1.out _ hw; have hlt5 : w.heap.size < w5.heap.size := by have := hw.size; omega)
      | fail)
  all_goals (
    clear hcvA hcvB a1 a2 a3 a4 HCV2 HX1 HE2 HE1 HP hall hsz h8 hmn
    go_simp
    go_wp2
    go_ret2
    exact ⟨ret_sb HE.out, k0.trans (kx.trans (by first | exact hw | exact hw.alloc _))⟩)
end Go.Proofs.Ytijnajlijdnbcaa.Ref6
