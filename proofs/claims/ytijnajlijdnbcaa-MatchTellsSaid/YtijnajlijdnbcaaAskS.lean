/- Layer 6's reference: Put, of function 23. Conditions: at most a million values. -/
import Derived.Test.YtijnajlijdnbcaaAskQ
import Derived.Deep.RegionWith
namespace Go.Proofs.Ytijnajlijdnbcaa.Ref6
set_option linter.unusedVariables false
open Go.ChangeShapes Go.WideShapes Go.ChangeAt Go.RowKit

set_option maxHeartbeats 4000000 in
theorem put_23 (A : Option Addr) (n c : Nat) (rd ct wr : Int) (vs : List Int) (w : World) (hrd : 0 ≤ rd ∧ rd ≤ 65535) (hct : 0 ≤ ct ∧ ct ≤ 65535) (hn : n ≤ 121) (hall : Tw.allIn vs = true) (hwr : 0 ≤ wr ∧ wr ≤ 65535) (hr : Ak.right ⟨23, rd, ct, wr, (n : Int), vs⟩ = true) (hA : Ints .i64 w w.heap.size A n vs) :
    Calls Try.prog 44 #[.agg #[.int .i64 23, .int .i64 rd, .int .i64 ct, .int .i64 wr, .int .i64 (n : Int), .slice A n c]] w
      fun e w' => e = .returned (.tuple #[.string (st (Ak.bytes ⟨23, rd, ct, wr, (n : Int), vs⟩)), .bool true]) ∧ Keep w w' := by
  have hbx := Boxed.new w ⟨23, rd, ct, wr, (n : Int), vs⟩ A n c 33
  have k0 := (Keep.refl w).alloc (.cells #[.int .i64 23, .int .i64 rd, .int .i64 ct, .int .i64 wr, .int .i64 (n : Int), .slice A n c] 33)
  have hA0 := hA.kept k0
  have hcv : ∀ w : World, (convert 53 9 (.slice (some ⟨w.heap.size, 0, none⟩) 1 1)).run Try.prog (w.alloc (.cells #[.int .u8 23] 5)) = .ok (.string (st [UInt8.ofNat 23])) (w.alloc (.cells #[.int .u8 23] 5)) :=
    fun w => conv_new Try.underlying53 Try.underlying5 Try.underlying9 _ 1 [UInt8.ofNat 23] rfl rfl
  have HE1 := Lib.hid (put_one hwr.1 hwr.2)
  obtain ⟨b23, hb23⟩ : ∃ b, b = UInt8.ofNat 23 := ⟨_, rfl⟩
  obtain ⟨bl2, hbl2⟩ : ∃ b, b = UInt8.ofNat (2 * n) := ⟨_, rfl⟩
  have HBL := Lib.hid hbl2
  have HB23 := Lib.hid hb23
  rw [← hb23] at hcv
  clear hbl2 hb23
  have hl := hA.1
  have HP := Lib.hid (show Tw.put vs = Tw.bytes vs by rw [Tw.put, hall]; rfl)
  have hbl : (Tw.bytes vs).length = 2 * n := by rw [Tw.bytes_len, hl]
  have hmn : (0 : Int) ≤ (n : Int) ∧ (n : Int) ≤ 65535 := by omega
  have HE2 := Lib.hid (put_one hmn.1 hmn.2)
  have HR1 := Lib.hid (put_one hrd.1 hrd.2)
  have HR2 := Lib.hid (put_one hct.1 hct.2)
  have a1 := add_st (P := Try.prog) [b23] (Tw.two rd) (by simp [Tw.two])
  have a2 := add_st (P := Try.prog) (b23 :: Tw.two rd) (Tw.two ct) (by simp [Tw.two])
  have a3 := add_st (P := Try.prog) (b23 :: (Tw.two rd ++ Tw.two ct)) (Tw.two wr) (by simp [Tw.two])
  have a4 := add_st (P := Try.prog) (b23 :: (Tw.two rd ++ (Tw.two ct ++ Tw.two wr))) (Tw.two (n : Int)) (by simp [Tw.two])
  have a5 := add_st (P := Try.prog) (b23 :: (Tw.two rd ++ (Tw.two ct ++ (Tw.two wr ++ Tw.two (n : Int))))) [bl2] (by simp [Tw.two])
  have a6 := add_st (P := Try.prog) (b23 :: (Tw.two rd ++ (Tw.two ct ++ (Tw.two wr ++ (Tw.two (n : Int) ++ [bl2]))))) (Tw.bytes vs) (by rw [hbl]; simp [Tw.two]; omega)
  have HS := Lib.hid (Ak.shape23 rd ct wr (n : Int) vs)
  have hsz : (st (Tw.bytes vs)).size = 2 * n := by rw [st_size, hbl]
  have hcv2 : ∀ (W : World) (g : Nat), W.cell? ⟨g, 0, none⟩ = some (.int .u8 (2 * (n : Int))) → (convert 53 9 (.slice (some ⟨g, 0, none⟩) 1 1)).run Try.prog W = .ok (.string (st [bl2])) W := fun W g hg => by
    have h := run_convert_bytes_arg (P := Try.prog) W 53 5 Try.underlying53 Try.underlying5 g 0 1 1 [2 * (n : Int)] rfl (fun i hi => by
      obtain rfl : i = 0 := by omega
      exact hg) 9 Try.underlying9
    rw [h]
    rw [show strOfNums [2 * (n : Int)] = st [UInt8.ofNat (2 * (n : Int)).toNat] from rfl, show (2 * (n : Int)).toNat = 2 * n from by omega, ← HBL.out]
  have h8 : IntKind.u8.wrap (2 * (n : Int)) = 2 * (n : Int) := by rw [IntKind.wrap_u8]; omega
  have HL := Lib.hid hbl
  clear hbl hl
  go_enter Try.func44, Try.ntmps44
  go_wp2_with fail
  refine (right_any A n c ⟨23, rd, ct, wr, (n : Int), vs⟩ _ (by omega) hA0).mono ?_
  rintro e w1 ⟨rfl, hK⟩
  rw [hr]
  have hb1 := hbx.below hK (by simp)
  have hA1 := hA0.kept hK
  have hlt : w.heap.size < w1.heap.size := by have := hK.size; simp at this; omega
  replace k0 := k0.trans hK
  have hX0 : ∀ W, Keep w1 W → Boxed w.heap.size ⟨23, rd, ct, wr, (n : Int), vs⟩ A n c W ∧ Ints .i64 W W.heap.size A n vs := fun W h => ⟨hb1.below h hlt, hA1.kept h⟩
  clear hbx hK hA0 hA hA1
  have kx := (Keep.refl w1).alloc (.cells #[.int .u8 23] 5)
  obtain ⟨c0, c1, c2, c3, c4, c5⟩ := hb1
  go_wp2_with fail
  refine (reads_any 23 _).mono ?_
  rintro e w2 ⟨rfl, rfl⟩
  rw [show Ak.reads 23 = 125 from rfl]
  have hX2 : ∀ W, Keep (w1.alloc (.cells #[.int .u8 23] 5)) W → W.cell? ⟨w.heap.size, 1, none⟩ = some (.int .i64 rd) ∧ W.cell? ⟨w.heap.size, 2, none⟩ = some (.int .i64 ct) := fun W h =>
    ⟨(hX0 _ (kx.trans h)).1.2.1, (hX0 _ (kx.trans h)).1.2.2.1⟩
  go_wp2
  obtain ⟨X, hX⟩ : ∃ X, X = w1.alloc (.cells #[.int .u8 23] 5) := ⟨_, rfl⟩
  rw [← hX] at hX2 kx ⊢
  clear hX c0 c1 c2 c3 c4 c5 hcv
  go_region_held3 (fun w' => w'.cell? ⟨w.heap.size, 1, none⟩ = some (.int .i64 rd) ∧ w'.cell? ⟨w.heap.size, 2, none⟩ = some (.int .i64 ct))
    (first
      | exact ⟨(hX2 _ hw).1, (hX2 _ hw).2⟩
      | exact ⟨(hX2 _ (keepd (Keep.refl X))).1, (hX2 _ (keepd (Keep.refl X))).2⟩
      | exact ⟨(hX2 _ (Keep.refl X)).1, (hX2 _ (Keep.refl X)).2⟩
      | fail)
    ((first
      | (go_at_call 52; refine (Ref1.of_any _ _).mono ?_; rintro e w4 ⟨rfl, hb4⟩; rw [HR2.out]; have hw := hw.trans hb4)
      | (go_at_call 52; refine (Ref1.of_any _ _).mono ?_; rintro e w3 ⟨rfl, hb3⟩; rw [HR1.out]; have hw : Keep X w3 := Below.trans (keepd (Keep.refl X)) hb3)
      | fail))
  replace kx := kx.trans hw
  clear hX2 hw
  obtain ⟨⟨c0, c1, c2, c3, c4, c5⟩, hA2⟩ := hX0 _ kx
  go_wp2_with fail
  refine (writes_any 23 _).mono ?_
  rintro e w2 ⟨rfl, rfl⟩
  rw [show Ak.wmax 23 = 121 from rfl, show Ak.wtwo 23 = 0 from rfl, show Ak.wtop 23 = 65535 from rfl]
  go_wp2_with fail
  refine (Ref1.of_any wr _).mono ?_
  rintro e w3 ⟨rfl, hb3⟩
  rw [HE1.out]
  replace kx := kx.trans hb3
  clear hb3 c0 c1 c2 c3 c4 c5 hA2
  obtain ⟨⟨c0, c1, c2, c3, c4, c5⟩, hA3⟩ := hX0 _ kx
  go_wp2_with fail
  refine (Ref1.putAll_any _ _ _ _ _ (by omega) hA3).mono ?_
  rintro e w4 ⟨rfl, hb4⟩
  replace kx := kx.trans hb4
  clear hb4 c0 c1 c2 c3 c4 c5 hA3
  obtain ⟨⟨c0, c1, c2, c3, c4, c5⟩, hA4⟩ := hX0 _ kx
  rw [HP.out]
  go_wp2
  have hX1 : ∀ W, Keep w4 W → W.cell? ⟨w.heap.size, 4, none⟩ = some (.int .i64 (n : Int)) := fun W h => (hX0 _ (kx.trans h)).1.2.2.2.2.1
  have hcvA : ∀ w : World, (convert 53 9 (.slice (some ⟨w.heap.size, 0, none⟩) 1 1)).run Try.prog (w.alloc (.cells #[.int .u8 (2 * (n : Int))] 5)) = .ok (.string (st [bl2])) (w.alloc (.cells #[.int .u8 (2 * (n : Int))] 5)) :=
    fun w => hcv2 _ _ (by rw [World.cell?_alloc_at (hn := rfl)]; rfl)
  have hcvB : ∀ w : World, (convert 53 9 (.slice (some ⟨w.heap.size, 0, none⟩) 1 1)).run Try.prog (w.alloc (.cells #[.int .u8 (2 * (n : Int))] 5)).drew = .ok (.string (st [bl2])) (w.alloc (.cells #[.int .u8 (2 * (n : Int))] 5)).drew :=
    fun w => hcv2 _ _ (by show (w.alloc _).cell? _ = _; rw [World.cell?_alloc_at (hn := rfl)]; rfl)
  clear c0 c1 c2 c3 c4 c5 hA4 hX0
  have c4 := hX1 _ (Keep.refl w4)
  have hlt4 : w.heap.size < w4.heap.size := by have := kx.size; omega
  have HCV2 := Lib.hid hcv2
  have HX1 := Lib.hid hX1
  clear hcv2 hX1
  have HE : Hid (st (b23 :: (Tw.two rd ++ (Tw.two ct ++ (Tw.two wr ++ (Tw.two (n : Int) ++ bl2 :: Tw.bytes vs))))) = st (Ak.bytes ⟨23, rd, ct, wr, (n : Int), vs⟩)) := Lib.hid (by rw [HS.out, HL.out, ← HBL.out, ← HB23.out])
  go_region_with (first
      | (go_at_call 52; refine (Ref1.of_any _ _).mono ?_; rintro e w5 ⟨rfl, hb5⟩; rw [HE2.out]; have hw : Keep w4 w5 := Keep.trans (keepd ((Keep.refl w4).alloc _)) hb5; have hcvC := HCV2.out w5 w4.heap.size ((hb5.cell (p := ⟨w4.heap.size, 0, none⟩) (by simp)).trans (by show (w4.alloc _).cell? _ = _; rw [World.cell?_alloc_at (hn := rfl)]; rfl)); have c4 := HX1.out _ hw; have hlt5 : w.heap.size < w5.heap.size := by have := hw.size; omega)
      | (go_at_call 52; refine (Ref1.of_any _ _).mono ?_; rintro e w5 ⟨rfl, hb5⟩; rw [HE2.out]; have hw : Keep w4 w5 := Keep.trans (keepd (Keep.refl w4)) hb5; have c4 := HX1.out _ hw; have hlt5 : w.heap.size < w5.heap.size := by have := hw.size; omega)
      | fail)
  all_goals (
    clear hcvA hcvB a1 a2 a3 a4 a5 a6 HCV2 HX1 HE2 HE1 HP hall hsz h8 hmn
    go_simp
    go_wp2
    go_ret2
    exact ⟨ret_sb HE.out, k0.trans (kx.trans (by first | exact hw | exact hw.alloc _))⟩)
end Go.Proofs.Ytijnajlijdnbcaa.Ref6
