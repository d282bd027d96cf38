/- Layer 6's reference: Put. Conditions: at most a million values. -/
import Derived.Test.YtijnajlijdnbcaaAskG
import Derived.Test.YtijnajlijdnbcaaAskB
import Derived.Deep.RegionHeld3
namespace Go.Proofs.Ytijnajlijdnbcaa.Ref6
set_option linter.unusedVariables false
open Go.ChangeShapes Go.WideShapes Go.ChangeAt Go.RowKit

/-- The six cells of a request in a box. -/
def Boxed (p : Nat) (a : AskP) (A : Option Addr) (n c : Nat) (w : World) : Prop :=
  w.cell? ⟨p, 0, none⟩ = some (.int .i64 a.fc) ∧ w.cell? ⟨p, 1, none⟩ = some (.int .i64 a.rd) ∧ w.cell? ⟨p, 2, none⟩ = some (.int .i64 a.ct) ∧ w.cell? ⟨p, 3, none⟩ = some (.int .i64 a.wr) ∧ w.cell? ⟨p, 4, none⟩ = some (.int .i64 a.mn) ∧ w.cell? ⟨p, 5, none⟩ = some (.slice A n c)
theorem Boxed.new (w : World) (a : AskP) (A : Option Addr) (n c : Nat) (e : TypeId) : Boxed w.heap.size a A n c (w.alloc (.cells #[.int .i64 a.fc, .int .i64 a.rd, .int .i64 a.ct, .int .i64 a.wr, .int .i64 a.mn, .slice A n c] e)) := by
  have hc : ∀ j v, (#[Value.int .i64 a.fc, .int .i64 a.rd, .int .i64 a.ct, .int .i64 a.wr, .int .i64 a.mn, .slice A n c] : Array Value)[j]? = some v → (w.alloc (.cells #[.int .i64 a.fc, .int .i64 a.rd, .int .i64 a.ct, .int .i64 a.wr, .int .i64 a.mn, .slice A n c] e)).cell? ⟨w.heap.size, j, none⟩ = some v := fun j v hj => by
    rw [World.cell?_alloc_at (hn := rfl), hj]
  exact ⟨hc 0 _ rfl, hc 1 _ rfl, hc 2 _ rfl, hc 3 _ rfl, hc 4 _ rfl, hc 5 _ rfl⟩
theorem Boxed.below {p : Nat} {a : AskP} {A : Option Addr} {n c : Nat} {w w' : World} {B : Nat} (h : Boxed p a A n c w) (hb : Below B w w') (hp : p < B) : Boxed p a A n c w' := by
  obtain ⟨h0, h1, h2, h3, h4, h5⟩ := h
  refine ⟨?_, ?_, ?_, ?_, ?_, ?_⟩ <;> (rw [hb.cell hp]; assumption)
theorem Boxed.drew {p : Nat} {a : AskP} {A : Option Addr} {n c : Nat} {w : World} (h : Boxed p a A n c w) : Boxed p a A n c w.drew := h
theorem put_one {z : Int} (h0 : 0 ≤ z) (h1 : z ≤ 65535) : Tw.put [z] = Tw.two z := by
  simp [Tw.put, Tw.allIn, Tw.inR_of h0 h1, Tw.bytes]

set_option maxHeartbeats 1000000 in
theorem put_read (A : Option Addr) (n c : Nat) (fc rd ct : Int) (w : World) (hf : fc = 1 ∨ fc = 2 ∨ fc = 3 ∨ fc = 4) (hrd : 0 ≤ rd ∧ rd ≤ 65535) (hct : 0 ≤ ct ∧ ct ≤ 65535) (hr : Ak.right ⟨fc, rd, ct, 0, 0, []⟩ = true) (hA : Ints .i64 w w.heap.size A n []) :
    Calls Try.prog 44 #[.agg #[.int .i64 fc, .int .i64 rd, .int .i64 ct, .int .i64 0, .int .i64 0, .slice A n c]] w
      fun e w' => e = .returned (.tuple #[.string (st (Ak.bytes ⟨fc, rd, ct, 0, 0, []⟩)), .bool true]) ∧ Keep w w' := by
  obtain rfl : n = 0 := by have := hA.1; simp at this; omega
  have hfb : 1 ≤ fc ∧ fc ≤ 4 := by omega
  have hbx := Boxed.new w ⟨fc, rd, ct, 0, 0, []⟩ A 0 c 33
  have k0 := (Keep.refl w).alloc (.cells #[.int .i64 fc, .int .i64 rd, .int .i64 ct, .int .i64 0, .int .i64 0, .slice A 0 c] 33)
  have hA0 := hA.kept k0
  have HS := Lib.hid (Ak.shapeR hf rd ct 0 0 [])
  have HR := Lib.hid (show Ak.reads fc = if fc = 1 ∨ fc = 2 then 2000 else 125 by rcases hf with rfl | rfl | rfl | rfl <;> rfl)
  have HW := Lib.hid (show Ak.wmax fc = 0 by rcases hf with rfl | rfl | rfl | rfl <;> rfl)
  obtain ⟨nr, hnr⟩ : ∃ b, b = Ak.reads fc := ⟨_, rfl⟩
  have d0 : decide (0 < nr) = true := by rw [hnr, HR.out]; split <;> rfl
  have hcv : ∀ w : World, (convert 53 9 (.slice (some ⟨w.heap.size, 0, none⟩) 1 1)).run Try.prog (w.alloc (.cells #[.int .u8 fc] 5)) = .ok (.string (st [UInt8.ofNat fc.toNat])) (w.alloc (.cells #[.int .u8 fc] 5)) :=
    fun w => conv_new Try.underlying53 Try.underlying5 Try.underlying9 _ 1 [UInt8.ofNat fc.toNat] (by simp only [List.map_cons, List.map_nil, bv]; rw [Ak.ofNat_int fc (by omega) (by omega)]) rfl
  have e1 := put_one hrd.1 hrd.2
  have e2 := put_one hct.1 hct.2
  have HE1 := Lib.hid e1
  have HE2 := Lib.hid e2
  have HNR := Lib.hid hnr
  have a1 := add_st (P := Try.prog) [UInt8.ofNat fc.toNat] (Tw.two rd) (by simp [Tw.two])
  have a2 := add_st (P := Try.prog) (UInt8.ofNat fc.toNat :: Tw.two rd) (Tw.two ct) (by simp [Tw.two])
  clear e1 e2 hnr hf
  go_enter Try.func44, Try.ntmps44
  go_wp2_with fail
  refine (right_any A 0 c ⟨fc, rd, ct, 0, 0, []⟩ _ (by omega) hA0).mono ?_
  rintro e w1 ⟨rfl, hK⟩
  rw [hr]
  have hb1 := hbx.below hK (by simp)
  have hA1 := hA0.kept hK
  have hlt : w.heap.size < w1.heap.size := by have := hK.size; simp at this; omega
  replace k0 := k0.trans hK
  clear hbx hK hA0 hA
  obtain ⟨c0, c1, c2, c3, c4, c5⟩ := hb1
  go_wp2_with fail
  refine (reads_any fc _).mono ?_
  rintro e w2 ⟨rfl, rfl⟩
  rw [← HNR.out]
  have hX0 : ∀ W, Keep (w1.alloc (.cells #[.int .u8 fc] 5)) W → W.cell? ⟨w.heap.size, 1, none⟩ = some (.int .i64 rd) ∧ W.cell? ⟨w.heap.size, 2, none⟩ = some (.int .i64 ct) ∧ W.cell? ⟨w.heap.size, 0, none⟩ = some (.int .i64 fc) := fun W h => by
    have k := ((Keep.refl w1).alloc (.cells #[.int .u8 fc] 5)).trans h
    exact ⟨(k.cell (p := ⟨w.heap.size, 1, none⟩) hlt).trans c1, (k.cell (p := ⟨w.heap.size, 2, none⟩) hlt).trans c2, (k.cell (p := ⟨w.heap.size, 0, none⟩) hlt).trans c0⟩
  have k1 := k0.alloc (.cells #[.int .u8 fc] 5)
  go_wp2
  obtain ⟨X, hX⟩ : ∃ X, X = w1.alloc (.cells #[.int .u8 fc] 5) := ⟨_, rfl⟩
  rw [← hX] at hX0 k1 ⊢
  clear hX c0 c1 c2 c3 c4 c5 hA1 hcv
  go_region_held3 (fun w' => w'.cell? ⟨w.heap.size, 1, none⟩ = some (.int .i64 rd) ∧ w'.cell? ⟨w.heap.size, 2, none⟩ = some (.int .i64 ct))
    (first
      | exact ⟨(hX0 _ hw).1, (hX0 _ hw).2.1⟩
      | exact ⟨(hX0 _ (keepd (Keep.refl X))).1, (hX0 _ (keepd (Keep.refl X))).2.1⟩
      | exact ⟨(hX0 _ (Keep.refl X)).1, (hX0 _ (Keep.refl X)).2.1⟩
      | fail)
    ((first
      | (go_at_call 52; refine (Ref1.of_any _ _).mono ?_; rintro e w4 ⟨rfl, hb4⟩; rw [HE2.out]; have hw := hw.trans hb4)
      | (go_at_call 52; refine (Ref1.of_any _ _).mono ?_; rintro e w3 ⟨rfl, hb3⟩; rw [HE1.out]; have hw : Keep X w3 := Below.trans (keepd (Keep.refl X)) hb3)
      | fail))
  have c0 := (hX0 _ hw).2.2
  clear hX0
  go_wp2_with fail
  refine (writes_any fc _).mono ?_
  rintro e w5 ⟨rfl, rfl⟩
  rw [HW.out]
  go_wp2
  go_ret2
  rw [HS.out, List.append_nil]
  exact ⟨rfl, k1.trans hw⟩

set_option maxHeartbeats 1000000 in
theorem put_5 (A : Option Addr) (c : Nat) (wr z : Int) (w : World) (hz : z = 0 ∨ z = 1) (hwr : 0 ≤ wr ∧ wr ≤ 65535) (hr : Ak.right ⟨5, 0, 0, wr, 1, [z]⟩ = true) (hA : Ints .i64 w w.heap.size A 1 [z]) :
    Calls Try.prog 44 #[.agg #[.int .i64 5, .int .i64 0, .int .i64 0, .int .i64 wr, .int .i64 1, .slice A 1 c]] w
      fun e w' => e = .returned (.tuple #[.string (st (Ak.bytes ⟨5, 0, 0, wr, 1, [z]⟩)), .bool true]) ∧ Keep w w' := by
  have hbx := Boxed.new w ⟨5, 0, 0, wr, 1, [z]⟩ A 1 c 33
  have k0 := (Keep.refl w).alloc (.cells #[.int .i64 5, .int .i64 0, .int .i64 0, .int .i64 wr, .int .i64 1, .slice A 1 c] 33)
  have hA0 := hA.kept k0
  have hcv : ∀ w : World, (convert 53 9 (.slice (some ⟨w.heap.size, 0, none⟩) 1 1)).run Try.prog (w.alloc (.cells #[.int .u8 5] 5)) = .ok (.string (st [UInt8.ofNat 5])) (w.alloc (.cells #[.int .u8 5] 5)) :=
    fun w => conv_new Try.underlying53 Try.underlying5 Try.underlying9 _ 1 [UInt8.ofNat 5] rfl rfl
  have HE1 := Lib.hid (put_one hwr.1 hwr.2)
  have hz2 : 0 ≤ 65280 * z ∧ 65280 * z ≤ 65535 := by omega
  have HE2 := Lib.hid (put_one hz2.1 hz2.2)
  have a1 := add_st (P := Try.prog) [UInt8.ofNat 5] (Tw.two wr) (by simp [Tw.two])
  have a2 := add_st (P := Try.prog) (UInt8.ofNat 5 :: Tw.two wr) (Tw.two (65280 * z)) (by simp [Tw.two])
  have HS := Lib.hid (Ak.shape5 0 0 wr 1 [z])
  go_enter Try.func44, Try.ntmps44
  go_wp2_with fail
  refine (right_any A 1 c ⟨5, 0, 0, wr, 1, [z]⟩ _ (by omega) hA0).mono ?_
  rintro e w1 ⟨rfl, hK⟩
  rw [hr]
  have hb1 := hbx.below hK (by simp)
  have hA1 := hA0.kept hK
  have hlt : w.heap.size < w1.heap.size := by have := hK.size; simp at this; omega
  replace k0 := k0.trans hK
  have hX0 : ∀ W, Keep w1 W → Boxed w.heap.size ⟨5, 0, 0, wr, 1, [z]⟩ A 1 c W ∧ Ints .i64 W W.heap.size A 1 [z] := fun W h => ⟨hb1.below h hlt, hA1.kept h⟩
  clear hbx hK hA0 hA hA1
  have kx := (Keep.refl w1).alloc (.cells #[.int .u8 5] 5)
  obtain ⟨c0, c1, c2, c3, c4, c5⟩ := hb1
  go_wp2_with fail
  refine (reads_any 5 _).mono ?_
  rintro e w2 ⟨rfl, rfl⟩
  rw [show Ak.reads 5 = 0 from rfl]
  obtain ⟨⟨c0, c1, c2, c3, c4, c5⟩, hA2⟩ := hX0 _ kx
  go_wp2_with fail
  refine (writes_any 5 _).mono ?_
  rintro e w2 ⟨rfl, rfl⟩
  rw [show Ak.wmax 5 = 1 from rfl, show Ak.wtwo 5 = 0 from rfl, show Ak.wtop 5 = 1 from rfl]
  go_wp2_with fail
  refine (Ref1.of_any wr _).mono ?_
  rintro e w3 ⟨rfl, hb3⟩
  rw [HE1.out]
  replace kx := kx.trans hb3
  clear hb3 c0 c1 c2 c3 c4 c5 hA2
  obtain ⟨⟨c0, c1, c2, c3, c4, c5⟩, hA3⟩ := hX0 _ kx
  go_wp2_with fail
  refine (Ref1.putAll_any _ _ _ _ _ (by omega) hA3).mono ?_
  rintro e w4 ⟨rfl, hb4⟩
  replace kx := kx.trans hb4
  clear hb4 c0 c1 c2 c3 c4 c5 hA3
  obtain ⟨⟨c0, c1, c2, c3, c4, c5⟩, hA4⟩ := hX0 _ kx
  obtain ⟨b, off, rfl, hb, hc⟩ := hA4.2 (by omega)
  have hc0 := hc 0 (by omega)
  simp only [Nat.add_zero, List.getD_cons_zero] at hc0
  clear hc
  go_wp2_with fail
  refine (Ref1.of_any (65280 * z) _).mono ?_
  rintro e w5 ⟨rfl, hb5⟩
  rw [HE2.out]
  go_wp2
  go_ret2
  rw [HS.out, List.append_nil]
  exact ⟨rfl, k0.trans (kx.trans hb5)⟩

set_option maxHeartbeats 1000000 in
theorem put_6 (A : Option Addr) (c : Nat) (wr z : Int) (w : World) (hz : 0 ≤ z ∧ z ≤ 65535) (hwr : 0 ≤ wr ∧ wr ≤ 65535) (hr : Ak.right ⟨6, 0, 0, wr, 1, [z]⟩ = true) (hA : Ints .i64 w w.heap.size A 1 [z]) :
    Calls Try.prog 44 #[.agg #[.int .i64 6, .int .i64 0, .int .i64 0, .int .i64 wr, .int .i64 1, .slice A 1 c]] w
      fun e w' => e = .returned (.tuple #[.string (st (Ak.bytes ⟨6, 0, 0, wr, 1, [z]⟩)), .bool true]) ∧ Keep w w' := by
  have hbx := Boxed.new w ⟨6, 0, 0, wr, 1, [z]⟩ A 1 c 33
  have k0 := (Keep.refl w).alloc (.cells #[.int .i64 6, .int .i64 0, .int .i64 0, .int .i64 wr, .int .i64 1, .slice A 1 c] 33)
  have hA0 := hA.kept k0
  have hcv : ∀ w : World, (convert 53 9 (.slice (some ⟨w.heap.size, 0, none⟩) 1 1)).run Try.prog (w.alloc (.cells #[.int .u8 6] 5)) = .ok (.string (st [UInt8.ofNat 6])) (w.alloc (.cells #[.int .u8 6] 5)) :=
    fun w => conv_new Try.underlying53 Try.underlying5 Try.underlying9 _ 1 [UInt8.ofNat 6] rfl rfl
  have HE1 := Lib.hid (put_one hwr.1 hwr.2)
  have hall : Tw.allIn [z] = true := by simp [Tw.allIn, Tw.inR_of hz.1 hz.2]
  have HP := Lib.hid (show Tw.put [z] = Tw.bytes [z] by rw [Tw.put, hall]; rfl)
  have a1 := add_st (P := Try.prog) [UInt8.ofNat 6] (Tw.two wr) (by simp [Tw.two])
  have a2 := add_st (P := Try.prog) (UInt8.ofNat 6 :: Tw.two wr) (Tw.bytes [z]) (by rw [Tw.bytes_len]; simp [Tw.two])
  have HS := Lib.hid (Ak.shape6 0 0 wr 1 z)
  have HB := Lib.hid (show Tw.bytes [z] = Tw.two z ++ [] by simp [Tw.bytes])
  go_enter Try.func44, Try.ntmps44
  go_wp2_with fail
  refine (right_any A 1 c ⟨6, 0, 0, wr, 1, [z]⟩ _ (by omega) hA0).mono ?_
  rintro e w1 ⟨rfl, hK⟩
  rw [hr]
  have hb1 := hbx.below hK (by simp)
  have hA1 := hA0.kept hK
  have hlt : w.heap.size < w1.heap.size := by have := hK.size; simp at this; omega
  replace k0 := k0.trans hK
  have hX0 : ∀ W, Keep w1 W → Boxed w.heap.size ⟨6, 0, 0, wr, 1, [z]⟩ A 1 c W ∧ Ints .i64 W W.heap.size A 1 [z] := fun W h => ⟨hb1.below h hlt, hA1.kept h⟩
  clear hbx hK hA0 hA hA1
  have kx := (Keep.refl w1).alloc (.cells #[.int .u8 6] 5)
  obtain ⟨c0, c1, c2, c3, c4, c5⟩ := hb1
  go_wp2_with fail
  refine (reads_any 6 _).mono ?_
  rintro e w2 ⟨rfl, rfl⟩
  rw [show Ak.reads 6 = 0 from rfl]
  obtain ⟨⟨c0, c1, c2, c3, c4, c5⟩, hA2⟩ := hX0 _ kx
  go_wp2_with fail
  refine (writes_any 6 _).mono ?_
  rintro e w2 ⟨rfl, rfl⟩
  rw [show Ak.wmax 6 = 1 from rfl, show Ak.wtwo 6 = 0 from rfl, show Ak.wtop 6 = 65535 from rfl]
  go_wp2_with fail
  refine (Ref1.of_any wr _).mono ?_
  rintro e w3 ⟨rfl, hb3⟩
  rw [HE1.out]
  replace kx := kx.trans hb3
  clear hb3 c0 c1 c2 c3 c4 c5 hA2
  obtain ⟨⟨c0, c1, c2, c3, c4, c5⟩, hA3⟩ := hX0 _ kx
  go_wp2_with fail
  refine (Ref1.putAll_any _ _ _ _ _ (by omega) hA3).mono ?_
  rintro e w4 ⟨rfl, hb4⟩
  replace kx := kx.trans hb4
  clear hb4 c0 c1 c2 c3 c4 c5 hA3
  obtain ⟨⟨c0, c1, c2, c3, c4, c5⟩, hA4⟩ := hX0 _ kx
  rw [HP.out]
  go_wp2
  go_ret2
  rw [HS.out, ← HB.out]
  exact ⟨rfl, k0.trans kx⟩

set_option maxHeartbeats 1000000 in
theorem put_22 (A : Option Addr) (c : Nat) (wr y z : Int) (w : World) (hy : 0 ≤ y ∧ y ≤ 65535) (hz : 0 ≤ z ∧ z ≤ 65535) (hwr : 0 ≤ wr ∧ wr ≤ 65535) (hr : Ak.right ⟨22, 0, 0, wr, 1, [y, z]⟩ = true) (hA : Ints .i64 w w.heap.size A 2 [y, z]) :
    Calls Try.prog 44 #[.agg #[.int .i64 22, .int .i64 0, .int .i64 0, .int .i64 wr, .int .i64 1, .slice A 2 c]] w
      fun e w' => e = .returned (.tuple #[.string (st (Ak.bytes ⟨22, 0, 0, wr, 1, [y, z]⟩)), .bool true]) ∧ Keep w w' := by
  have hbx := Boxed.new w ⟨22, 0, 0, wr, 1, [y, z]⟩ A 2 c 33
  have k0 := (Keep.refl w).alloc (.cells #[.int .i64 22, .int .i64 0, .int .i64 0, .int .i64 wr, .int .i64 1, .slice A 2 c] 33)
  have hA0 := hA.kept k0
  have hcv : ∀ w : World, (convert 53 9 (.slice (some ⟨w.heap.size, 0, none⟩) 1 1)).run Try.prog (w.alloc (.cells #[.int .u8 22] 5)) = .ok (.string (st [UInt8.ofNat 22])) (w.alloc (.cells #[.int .u8 22] 5)) :=
    fun w => conv_new Try.underlying53 Try.underlying5 Try.underlying9 _ 1 [UInt8.ofNat 22] rfl rfl
  have HE1 := Lib.hid (put_one hwr.1 hwr.2)
  have hall : Tw.allIn [y, z] = true := by simp [Tw.allIn, Tw.inR_of hz.1 hz.2, Tw.inR_of hy.1 hy.2]
  have HP := Lib.hid (show Tw.put [y, z] = Tw.bytes [y, z] by rw [Tw.put, hall]; rfl)
  have a1 := add_st (P := Try.prog) [UInt8.ofNat 22] (Tw.two wr) (by simp [Tw.two])
  have a2 := add_st (P := Try.prog) (UInt8.ofNat 22 :: Tw.two wr) (Tw.bytes [y, z]) (by rw [Tw.bytes_len]; simp [Tw.two])
  have HS := Lib.hid (Ak.shape22 0 0 wr 1 y z)
  have HB := Lib.hid (show Tw.bytes [y, z] = Tw.two y ++ (Tw.two z ++ []) by simp [Tw.bytes])
  go_enter Try.func44, Try.ntmps44
  go_wp2_with fail
  refine (right_any A 2 c ⟨22, 0, 0, wr, 1, [y, z]⟩ _ (by omega) hA0).mono ?_
  rintro e w1 ⟨rfl, hK⟩
  rw [hr]
  have hb1 := hbx.below hK (by simp)
  have hA1 := hA0.kept hK
  have hlt : w.heap.size < w1.heap.size := by have := hK.size; simp at this; omega
  replace k0 := k0.trans hK
  have hX0 : ∀ W, Keep w1 W → Boxed w.heap.size ⟨22, 0, 0, wr, 1, [y, z]⟩ A 2 c W ∧ Ints .i64 W W.heap.size A 2 [y, z] := fun W h => ⟨hb1.below h hlt, hA1.kept h⟩
  clear hbx hK hA0 hA hA1
  have kx := (Keep.refl w1).alloc (.cells #[.int .u8 22] 5)
  obtain ⟨c0, c1, c2, c3, c4, c5⟩ := hb1
  go_wp2_with fail
  refine (reads_any 22 _).mono ?_
  rintro e w2 ⟨rfl, rfl⟩
  rw [show Ak.reads 22 = 0 from rfl]
  obtain ⟨⟨c0, c1, c2, c3, c4, c5⟩, hA2⟩ := hX0 _ kx
  go_wp2_with fail
  refine (writes_any 22 _).mono ?_
  rintro e w2 ⟨rfl, rfl⟩
  rw [show Ak.wmax 22 = 1 from rfl, show Ak.wtwo 22 = 2 from rfl, show Ak.wtop 22 = 65535 from rfl]
  go_wp2_with fail
  refine (Ref1.of_any wr _).mono ?_
  rintro e w3 ⟨rfl, hb3⟩
  rw [HE1.out]
  replace kx := kx.trans hb3
  clear hb3 c0 c1 c2 c3 c4 c5 hA2
  obtain ⟨⟨c0, c1, c2, c3, c4, c5⟩, hA3⟩ := hX0 _ kx
  go_wp2_with fail
  refine (Ref1.putAll_any _ _ _ _ _ (by omega) hA3).mono ?_
  rintro e w4 ⟨rfl, hb4⟩
  replace kx := kx.trans hb4
  clear hb4 c0 c1 c2 c3 c4 c5 hA3
  obtain ⟨⟨c0, c1, c2, c3, c4, c5⟩, hA4⟩ := hX0 _ kx
  rw [HP.out]
  go_wp2
  go_ret2
  rw [HS.out, ← HB.out]
  exact ⟨rfl, k0.trans kx⟩
end Go.Proofs.Ytijnajlijdnbcaa.Ref6
