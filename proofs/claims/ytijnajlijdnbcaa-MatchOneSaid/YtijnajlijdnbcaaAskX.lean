/- The developers' requests: their bytes. Conditions: at most a million values. -/
import Derived.Test.YtijnajlijdnbcaaAskO
import Derived.Test.YtijnajlijdnbcaaTw
import Derived.Test.YtijnajlijdnbcaaCo
import Derived.Deep.RegionHeld3
namespace Go.Proofs.Ytijnajlijdnbcaa.Ask
set_option maxRecDepth 100000
set_option linter.unusedVariables false
open Go.ChangeShapes Go.WideShapes Go.ChangeAt Go.RowKit
open Ref6 (ret_bool ret_int Boxed)

theorem ret_str {a b : ByteArray} (h : a = b) : Ending.returned (.string a) = Ending.returned (.string b) := by rw [h]
set_option maxHeartbeats 400000 in
theorem numbers_any (A : Option Addr) (n c : Nat) (zs : List Int) (w : World) (hn : n ≤ 1000000) (hA : Ints .i64 w w.heap.size A n zs) :
    Calls Try.prog 73 #[.slice A n c] w fun e w' => e = .returned (.string (st (Tw.put zs))) ∧ Keep w w' := by
  go_enter Try.func73, Try.ntmps73
  go_wp2_with fail
  refine (Twin.putAll_any A n c zs _ hn hA).mono ?_
  rintro e w1 ⟨rfl, hb⟩
  go_wp2
  go_ret
  exact ⟨rfl, hb⟩
set_option maxHeartbeats 400000 in
theorem oneByte_any (n : Int) (w : World) (h0 : 0 ≤ n) (h1 : n ≤ 255) :
    Calls Try.prog 71 #[.int .i64 n] w fun e w' => e = .returned (.string (st [UInt8.ofNat n.toNat])) ∧ Keep w w' := by
  have h8 : IntKind.u8.wrap n = n := by rw [IntKind.wrap_u8]; omega
  have hcv : ∀ w : World, (convert 53 9 (.slice (some ⟨w.heap.size, 0, none⟩) 1 1)).run Try.prog (w.alloc (.cells #[.int .u8 n] 5)) = .ok (.string (st [UInt8.ofNat n.toNat])) (w.alloc (.cells #[.int .u8 n] 5)) :=
    fun w => conv_new Try.underlying53 Try.underlying5 Try.underlying9 _ 1 [UInt8.ofNat n.toNat] (by simp only [List.map_cons, List.map_nil, bv]; rw [Ak.ofNat_int n h0 h1]) rfl
  go_enter Try.func71, Try.ntmps71
  go_wp2
  go_ret
  exact ⟨rfl, (Keep.refl w).alloc _⟩
set_option maxHeartbeats 400000 in
theorem sized_any (l : List UInt8) (w : World) (h : l.length ≤ 255) :
    Calls Try.prog 74 #[.string (st l)] w fun e w' => e = .returned (.string (st (UInt8.ofNat l.length :: l))) ∧ Keep w w' := by
  have hsz : (st l).size = l.length := st_size l
  have a1 := add_st (P := Try.prog) [UInt8.ofNat l.length] l (by simp; omega)
  go_enter Try.func74, Try.ntmps74
  go_wp2_with fail
  refine (oneByte_any (l.length : Int) _ (by omega) (by omega)).mono ?_
  rintro e w1 ⟨rfl, hb⟩
  rw [Int.toNat_natCast]
  go_wp2
  go_ret
  exact ⟨rfl, hb⟩

/-- A slice that was just laid. -/
theorem ints_new (W : World) (e : TypeId) (zs : List Int) (cs : Array Value) (n : Nat) (hn : zs.length = n) (hc : cs.toList = zs.map (Value.int .i64)) : Ints .i64 (W.alloc (.cells cs e)) (W.alloc (.cells cs e)).heap.size (some ⟨W.heap.size, 0, none⟩) n zs := by
  subst hn
  have := Ints.new .i64 W e zs cs hc
  exact this.more (by simp)
theorem ints_newd (W : World) (e : TypeId) (zs : List Int) (cs : Array Value) (n : Nat) (hn : zs.length = n) (hc : cs.toList = zs.map (Value.int .i64)) : Ints .i64 (W.alloc (.cells cs e)).drew (W.alloc (.cells cs e)).drew.heap.size (some ⟨W.heap.size, 0, none⟩) n zs :=
  ints_new W e zs cs n hn hc
theorem put_two {y z : Int} (hy : 0 ≤ y ∧ y ≤ 65535) (hz : 0 ≤ z ∧ z ≤ 65535) : Tw.put [y, z] = Tw.two y ++ (Tw.two z ++ []) := by
  simp [Tw.put, Tw.allIn, Tw.inR_of hy.1 hy.2, Tw.inR_of hz.1 hz.2, Tw.bytes]
theorem put_four {x y z t : Int} (hx : 0 ≤ x ∧ x ≤ 65535) (hy : 0 ≤ y ∧ y ≤ 65535) (hz : 0 ≤ z ∧ z ≤ 65535) (ht : 0 ≤ t ∧ t ≤ 65535) : Tw.put [x, y, z, t] = Tw.two x ++ (Tw.two y ++ (Tw.two z ++ (Tw.two t ++ []))) := by
  simp [Tw.put, Tw.allIn, Tw.inR_of hx.1 hx.2, Tw.inR_of hy.1 hy.2, Tw.inR_of hz.1 hz.2, Tw.inR_of ht.1 ht.2, Tw.bytes]
theorem put_all {l : List Int} (h : Tw.allIn l = true) : Tw.put l = Tw.bytes l := by rw [Tw.put, h]; rfl

set_option maxHeartbeats 2000000 in
theorem body_1 (A : Option Addr) (c : Nat) (rd ct : Int) (w : World) (hA : Ints .i64 w w.heap.size A 0 []) (B : List UInt8) (hB : Tw.put [rd, ct] = B) :
    Calls Try.prog 72 #[.agg #[.int .i64 1, .int .i64 rd, .int .i64 ct, .int .i64 0, .int .i64 0, .slice A 0 c]] w
      fun e w' => e = .returned (.string (st B)) ∧ Keep w w' := by

  obtain ⟨X, hX⟩ : ∃ X, X = w.alloc (.cells #[.int .i64 1, .int .i64 rd, .int .i64 ct, .int .i64 0, .int .i64 0, .slice A 0 c] 33) := ⟨_, rfl⟩
  have hkX : Keep w X := by rw [hX]; exact (Keep.refl w).alloc _
  have hbX : Boxed w.heap.size ⟨1, rd, ct, 0, 0, []⟩ A 0 c X := by rw [hX]; exact Boxed.new w ⟨1, rd, ct, 0, 0, []⟩ A 0 c 33
  have hsX : w.heap.size + 1 = X.heap.size := by rw [hX]; simp
  have hAX := hA.kept hkX
  have hX0 : ∀ W, Keep X W → Boxed w.heap.size ⟨1, rd, ct, 0, 0, []⟩ A 0 c W := fun W h => hbX.below h (by omega)
  obtain ⟨c0, c1, c2, c3, c4, c5⟩ := hbX
  simp only at c0 c1 c2 c3 c4 c5
  have HB := Lib.hid hB
  have HSX := Lib.hid hsX
  clear hB hA hsX

  go_enter Try.func72, Try.ntmps72
  clear c0 c1 c2 c3 c4 c5
  go_wp2_with fail
  rw [← hX, HSX.out]
  refine (numbers_any _ 2 _ [rd, ct] _ (by omega) (ints_new X 3 [rd, ct] _ 2 rfl rfl)).mono ?_
  rintro e w1 ⟨rfl, hb⟩
  go_wp2
  go_ret
  exact ⟨ret_str (by rw [HB.out]), hkX.trans (((Keep.refl X).alloc _).trans hb)⟩

set_option maxHeartbeats 2000000 in
theorem body_2 (A : Option Addr) (c : Nat) (rd ct : Int) (w : World) (hA : Ints .i64 w w.heap.size A 0 []) (B : List UInt8) (hB : Tw.put [rd, ct] = B) :
    Calls Try.prog 72 #[.agg #[.int .i64 2, .int .i64 rd, .int .i64 ct, .int .i64 0, .int .i64 0, .slice A 0 c]] w
      fun e w' => e = .returned (.string (st B)) ∧ Keep w w' := by

  obtain ⟨X, hX⟩ : ∃ X, X = w.alloc (.cells #[.int .i64 2, .int .i64 rd, .int .i64 ct, .int .i64 0, .int .i64 0, .slice A 0 c] 33) := ⟨_, rfl⟩
  have hkX : Keep w X := by rw [hX]; exact (Keep.refl w).alloc _
  have hbX : Boxed w.heap.size ⟨2, rd, ct, 0, 0, []⟩ A 0 c X := by rw [hX]; exact Boxed.new w ⟨2, rd, ct, 0, 0, []⟩ A 0 c 33
  have hsX : w.heap.size + 1 = X.heap.size := by rw [hX]; simp
  have hAX := hA.kept hkX
  have hX0 : ∀ W, Keep X W → Boxed w.heap.size ⟨2, rd, ct, 0, 0, []⟩ A 0 c W := fun W h => hbX.below h (by omega)
  obtain ⟨c0, c1, c2, c3, c4, c5⟩ := hbX
  simp only at c0 c1 c2 c3 c4 c5
  have HB := Lib.hid hB
  have HSX := Lib.hid hsX
  clear hB hA hsX

  go_enter Try.func72, Try.ntmps72
  clear c0 c1 c2 c3 c4 c5
  go_wp2_with fail
  rw [← hX, HSX.out]
  refine (numbers_any _ 2 _ [rd, ct] _ (by omega) (ints_new X 3 [rd, ct] _ 2 rfl rfl)).mono ?_
  rintro e w1 ⟨rfl, hb⟩
  go_wp2
  go_ret
  exact ⟨ret_str (by rw [HB.out]), hkX.trans (((Keep.refl X).alloc _).trans hb)⟩

set_option maxHeartbeats 2000000 in
theorem body_3 (A : Option Addr) (c : Nat) (rd ct : Int) (w : World) (hA : Ints .i64 w w.heap.size A 0 []) (B : List UInt8) (hB : Tw.put [rd, ct] = B) :
    Calls Try.prog 72 #[.agg #[.int .i64 3, .int .i64 rd, .int .i64 ct, .int .i64 0, .int .i64 0, .slice A 0 c]] w
      fun e w' => e = .returned (.string (st B)) ∧ Keep w w' := by

  obtain ⟨X, hX⟩ : ∃ X, X = w.alloc (.cells #[.int .i64 3, .int .i64 rd, .int .i64 ct, .int .i64 0, .int .i64 0, .slice A 0 c] 33) := ⟨_, rfl⟩
  have hkX : Keep w X := by rw [hX]; exact (Keep.refl w).alloc _
  have hbX : Boxed w.heap.size ⟨3, rd, ct, 0, 0, []⟩ A 0 c X := by rw [hX]; exact Boxed.new w ⟨3, rd, ct, 0, 0, []⟩ A 0 c 33
  have hsX : w.heap.size + 1 = X.heap.size := by rw [hX]; simp
  have hAX := hA.kept hkX
  have hX0 : ∀ W, Keep X W → Boxed w.heap.size ⟨3, rd, ct, 0, 0, []⟩ A 0 c W := fun W h => hbX.below h (by omega)
  obtain ⟨c0, c1, c2, c3, c4, c5⟩ := hbX
  simp only at c0 c1 c2 c3 c4 c5
  have HB := Lib.hid hB
  have HSX := Lib.hid hsX
  clear hB hA hsX

  go_enter Try.func72, Try.ntmps72
  clear c0 c1 c2 c3 c4 c5
  go_wp2_with fail
  rw [← hX, HSX.out]
  refine (numbers_any _ 2 _ [rd, ct] _ (by omega) (ints_new X 3 [rd, ct] _ 2 rfl rfl)).mono ?_
  rintro e w1 ⟨rfl, hb⟩
  go_wp2
  go_ret
  exact ⟨ret_str (by rw [HB.out]), hkX.trans (((Keep.refl X).alloc _).trans hb)⟩

set_option maxHeartbeats 2000000 in
theorem body_4 (A : Option Addr) (c : Nat) (rd ct : Int) (w : World) (hA : Ints .i64 w w.heap.size A 0 []) (B : List UInt8) (hB : Tw.put [rd, ct] = B) :
    Calls Try.prog 72 #[.agg #[.int .i64 4, .int .i64 rd, .int .i64 ct, .int .i64 0, .int .i64 0, .slice A 0 c]] w
      fun e w' => e = .returned (.string (st B)) ∧ Keep w w' := by

  obtain ⟨X, hX⟩ : ∃ X, X = w.alloc (.cells #[.int .i64 4, .int .i64 rd, .int .i64 ct, .int .i64 0, .int .i64 0, .slice A 0 c] 33) := ⟨_, rfl⟩
  have hkX : Keep w X := by rw [hX]; exact (Keep.refl w).alloc _
  have hbX : Boxed w.heap.size ⟨4, rd, ct, 0, 0, []⟩ A 0 c X := by rw [hX]; exact Boxed.new w ⟨4, rd, ct, 0, 0, []⟩ A 0 c 33
  have hsX : w.heap.size + 1 = X.heap.size := by rw [hX]; simp
  have hAX := hA.kept hkX
  have hX0 : ∀ W, Keep X W → Boxed w.heap.size ⟨4, rd, ct, 0, 0, []⟩ A 0 c W := fun W h => hbX.below h (by omega)
  obtain ⟨c0, c1, c2, c3, c4, c5⟩ := hbX
  simp only at c0 c1 c2 c3 c4 c5
  have HB := Lib.hid hB
  have HSX := Lib.hid hsX
  clear hB hA hsX

  go_enter Try.func72, Try.ntmps72
  clear c0 c1 c2 c3 c4 c5
  go_wp2_with fail
  rw [← hX, HSX.out]
  refine (numbers_any _ 2 _ [rd, ct] _ (by omega) (ints_new X 3 [rd, ct] _ 2 rfl rfl)).mono ?_
  rintro e w1 ⟨rfl, hb⟩
  go_wp2
  go_ret
  exact ⟨ret_str (by rw [HB.out]), hkX.trans (((Keep.refl X).alloc _).trans hb)⟩

set_option maxHeartbeats 2000000 in
theorem body_5 (A : Option Addr) (c : Nat) (wr z : Int) (w : World) (hz : z = 0 ∨ z = 1) (hA : Ints .i64 w w.heap.size A 1 [z]) (B : List UInt8) (hB : Tw.put [wr, 65280 * z] = B) :
    Calls Try.prog 72 #[.agg #[.int .i64 5, .int .i64 0, .int .i64 0, .int .i64 wr, .int .i64 1, .slice A 1 c]] w
      fun e w' => e = .returned (.string (st B)) ∧ Keep w w' := by

  obtain ⟨X, hX⟩ : ∃ X, X = w.alloc (.cells #[.int .i64 5, .int .i64 0, .int .i64 0, .int .i64 wr, .int .i64 1, .slice A 1 c] 33) := ⟨_, rfl⟩
  have hkX : Keep w X := by rw [hX]; exact (Keep.refl w).alloc _
  have hbX : Boxed w.heap.size ⟨5, 0, 0, wr, 1, [z]⟩ A 1 c X := by rw [hX]; exact Boxed.new w ⟨5, 0, 0, wr, 1, [z]⟩ A 1 c 33
  have hsX : w.heap.size + 1 = X.heap.size := by rw [hX]; simp
  have hAX := hA.kept hkX
  have hX0 : ∀ W, Keep X W → Boxed w.heap.size ⟨5, 0, 0, wr, 1, [z]⟩ A 1 c W := fun W h => hbX.below h (by omega)
  obtain ⟨c0, c1, c2, c3, c4, c5⟩ := hbX
  simp only at c0 c1 c2 c3 c4 c5
  have HB := Lib.hid hB
  have HSX := Lib.hid hsX
  clear hB hA hsX

  obtain ⟨b, off, rfl, hlb, hcl⟩ := hAX.2 (by omega)
  have hc0 : X.cell? ⟨b, off, none⟩ = some (.int .i64 z) := hcl 0 (by omega)
  have hwz : IntKind.i64.wrap (65280 * z) = 65280 * z := by rw [IntKind.wrap_i64]; omega
  clear hcl hz
  have hS : ∀ W, Keep X W → W.cell? ⟨w.heap.size, 3, none⟩ = some (.int .i64 wr) ∧ W.cell? ⟨w.heap.size, 5, none⟩ = some (.slice (some ⟨b, off, none⟩) 1 c) ∧ W.cell? ⟨b, off, none⟩ = some (.int .i64 z) := fun W h =>
    ⟨(hX0 W h).2.2.2.1, (hX0 W h).2.2.2.2.2, (h.cell (p := ⟨b, off, none⟩) hlb).trans hc0⟩
  go_enter Try.func72, Try.ntmps72
  go_wp2
  rw [← hX]
  clear hX c0 c1 c2 c3 c4 c5
  go_region_held3 (fun w' => w'.cell? ⟨w.heap.size, 3, none⟩ = some (.int .i64 wr) ∧ w'.cell? ⟨w.heap.size, 5, none⟩ = some (.slice (some ⟨b, off, none⟩) 1 c) ∧ w'.cell? ⟨b, off, none⟩ = some (.int .i64 z))
    (first
      | exact hS _ hw
      | exact hS _ (keepd (Keep.refl X))
      | exact hS _ (keepd ((Keep.refl X).alloc _))
      | fail)
    ((first
      | (go_at_call 73; refine (numbers_any _ 2 _ [wr, 65280 * z] _ (by omega) (ints_newd X 3 [wr, 65280 * z] _ 2 rfl rfl)).mono ?_; rintro e w3 ⟨rfl, hb3⟩; have hw : Keep X w3 := Keep.trans (keepd ((Keep.refl X).alloc _)) hb3)
      | fail))
  go_wp2
  go_ret
  exact ⟨ret_str (by rw [HB.out]), hkX.trans hw⟩

theorem put_len_le (l : List Int) (h : l.length ≤ 4) : (Tw.put l).length ≤ 8 := by
  unfold Tw.put
  split
  · rw [Tw.bytes_len]; omega
  · simp

set_option maxHeartbeats 2000000 in
theorem body_6 (A : Option Addr) (c : Nat) (wr z : Int) (w : World) (hlen : (Tw.put [z]).length ≤ 255) (hA : Ints .i64 w w.heap.size A 1 [z]) (B : List UInt8) (hB : Tw.put [wr] ++ Tw.put [z] = B) :
    Calls Try.prog 72 #[.agg #[.int .i64 6, .int .i64 0, .int .i64 0, .int .i64 wr, .int .i64 1, .slice A 1 c]] w
      fun e w' => e = .returned (.string (st B)) ∧ Keep w w' := by

  obtain ⟨X, hX⟩ : ∃ X, X = w.alloc (.cells #[.int .i64 6, .int .i64 0, .int .i64 0, .int .i64 wr, .int .i64 1, .slice A 1 c] 33) := ⟨_, rfl⟩
  have hkX : Keep w X := by rw [hX]; exact (Keep.refl w).alloc _
  have hbX : Boxed w.heap.size ⟨6, 0, 0, wr, 1, [z]⟩ A 1 c X := by rw [hX]; exact Boxed.new w ⟨6, 0, 0, wr, 1, [z]⟩ A 1 c 33
  have hsX : w.heap.size + 1 = X.heap.size := by rw [hX]; simp
  have hAX := hA.kept hkX
  have hX0 : ∀ W, Keep X W → Boxed w.heap.size ⟨6, 0, 0, wr, 1, [z]⟩ A 1 c W := fun W h => hbX.below h (by omega)
  obtain ⟨c0, c1, c2, c3, c4, c5⟩ := hbX
  simp only at c0 c1 c2 c3 c4 c5
  have HB := Lib.hid hB
  have HSX := Lib.hid hsX
  clear hB hA hsX

  obtain ⟨p1, hp1⟩ : ∃ p, p = Tw.put [wr] := ⟨_, rfl⟩
  obtain ⟨p2, hp2⟩ : ∃ p, p = Tw.put [z] := ⟨_, rfl⟩
  have hl1 : p1.length ≤ 8 := by rw [hp1]; exact put_len_le _ (by simp)
  have hl2 : p2.length ≤ 255 := by rw [hp2]; exact hlen
  have a1 := add_st (P := Try.prog) p1 p2 (by (try simp); omega)
  have HB2 : Hid (p1 ++ p2 = B) := Lib.hid (by rw [hp1, hp2]; exact HB.out)
  have HP1 := Lib.hid hp1
  have HP2 := Lib.hid hp2
  clear hp1 hp2 hlen HB

  have hS : ∀ W, Keep X W → W.cell? ⟨w.heap.size, 3, none⟩ = some (.int .i64 wr) ∧ W.cell? ⟨w.heap.size, 5, none⟩ = some (.slice A 1 c) := fun W h => ⟨(hX0 W h).2.2.2.1, (hX0 W h).2.2.2.2.2⟩
  go_enter Try.func72, Try.ntmps72

  go_wp2
  rw [← hX]
  clear hX c0 c1 c2 c3 c4 c5

  go_region_held3 (fun w' => w'.cell? ⟨w.heap.size, 3, none⟩ = some (.int .i64 wr) ∧ w'.cell? ⟨w.heap.size, 5, none⟩ = some (.slice A 1 c))
    (first
      | exact hS _ hw
      | exact hS _ (hw.alloc _)
      | exact hS _ (keepd (Keep.refl X))
      | exact hS _ (keepd ((Keep.refl X).alloc _))
      | fail)
    ((first
      | (go_at_call_of 73 A; refine (numbers_any A 1 c [z] _ (by omega) ?_).mono ?_; (first | exact hAX.kept hw | exact hAX.kept (keepd (Keep.refl X)) | exact hAX.kept (keepd ((Keep.refl X).alloc _)) | fail); rintro e w3 ⟨rfl, hb⟩; rw [← HP2.out]; have hw : Keep X w3 := (by first | exact Keep.trans (keepd ((Keep.refl X).alloc _)) hb | exact Keep.trans (keepd (Keep.refl X)) hb | exact hw.trans hb | exact (hw.alloc _).trans hb); have hb3 := hb)
      | (go_at_call 73; refine (numbers_any _ 1 _ [wr] _ (by omega) ?_).mono ?_; (first | exact ints_newd X 3 [wr] _ 1 rfl rfl | exact ints_new _ 3 [wr] _ 1 rfl rfl | exact (ints_newd X 3 [wr] _ 1 rfl rfl).kept hb | exact ((ints_newd X 3 [wr] _ 1 rfl rfl).kept hb3).kept hb | exact (ints_new _ 3 [wr] _ 1 rfl rfl).kept hb | fail); rintro e w5 ⟨rfl, hb⟩; rw [← HP1.out]; have hw : Keep X w5 := (by first | exact Keep.trans (keepd ((Keep.refl X).alloc _)) hb | exact Keep.trans (keepd (Keep.refl X)) hb | exact hw.trans hb | exact (hw.alloc _).trans hb))
      | fail))
  all_goals (
    go_wp2
    go_ret
    exact ⟨ret_str (by rw [HB2.out]), hkX.trans hw⟩)

set_option maxHeartbeats 2000000 in
theorem body_22 (A : Option Addr) (c : Nat) (wr y z : Int) (w : World) (hlen : (Tw.put [y, z]).length ≤ 255) (hA : Ints .i64 w w.heap.size A 2 [y, z]) (B : List UInt8) (hB : Tw.put [wr] ++ Tw.put [y, z] = B) :
    Calls Try.prog 72 #[.agg #[.int .i64 22, .int .i64 0, .int .i64 0, .int .i64 wr, .int .i64 1, .slice A 2 c]] w
      fun e w' => e = .returned (.string (st B)) ∧ Keep w w' := by

  obtain ⟨X, hX⟩ : ∃ X, X = w.alloc (.cells #[.int .i64 22, .int .i64 0, .int .i64 0, .int .i64 wr, .int .i64 1, .slice A 2 c] 33) := ⟨_, rfl⟩
  have hkX : Keep w X := by rw [hX]; exact (Keep.refl w).alloc _
  have hbX : Boxed w.heap.size ⟨22, 0, 0, wr, 1, [y, z]⟩ A 2 c X := by rw [hX]; exact Boxed.new w ⟨22, 0, 0, wr, 1, [y, z]⟩ A 2 c 33
  have hsX : w.heap.size + 1 = X.heap.size := by rw [hX]; simp
  have hAX := hA.kept hkX
  have hX0 : ∀ W, Keep X W → Boxed w.heap.size ⟨22, 0, 0, wr, 1, [y, z]⟩ A 2 c W := fun W h => hbX.below h (by omega)
  obtain ⟨c0, c1, c2, c3, c4, c5⟩ := hbX
  simp only at c0 c1 c2 c3 c4 c5
  have HB := Lib.hid hB
  have HSX := Lib.hid hsX
  clear hB hA hsX

  obtain ⟨p1, hp1⟩ : ∃ p, p = Tw.put [wr] := ⟨_, rfl⟩
  obtain ⟨p2, hp2⟩ : ∃ p, p = Tw.put [y, z] := ⟨_, rfl⟩
  have hl1 : p1.length ≤ 8 := by rw [hp1]; exact put_len_le _ (by simp)
  have hl2 : p2.length ≤ 255 := by rw [hp2]; exact hlen
  have a1 := add_st (P := Try.prog) p1 p2 (by (try simp); omega)
  have HB2 : Hid (p1 ++ p2 = B) := Lib.hid (by rw [hp1, hp2]; exact HB.out)
  have HP1 := Lib.hid hp1
  have HP2 := Lib.hid hp2
  clear hp1 hp2 hlen HB

  have hS : ∀ W, Keep X W → W.cell? ⟨w.heap.size, 3, none⟩ = some (.int .i64 wr) ∧ W.cell? ⟨w.heap.size, 5, none⟩ = some (.slice A 2 c) := fun W h => ⟨(hX0 W h).2.2.2.1, (hX0 W h).2.2.2.2.2⟩
  go_enter Try.func72, Try.ntmps72

  go_wp2
  rw [← hX]
  clear hX c0 c1 c2 c3 c4 c5

  go_region_held3 (fun w' => w'.cell? ⟨w.heap.size, 3, none⟩ = some (.int .i64 wr) ∧ w'.cell? ⟨w.heap.size, 5, none⟩ = some (.slice A 2 c))
    (first
      | exact hS _ hw
      | exact hS _ (hw.alloc _)
      | exact hS _ (keepd (Keep.refl X))
      | exact hS _ (keepd ((Keep.refl X).alloc _))
      | fail)
    ((first
      | (go_at_call_of 73 A; refine (numbers_any A 2 c [y, z] _ (by omega) ?_).mono ?_; (first | exact hAX.kept hw | exact hAX.kept (keepd (Keep.refl X)) | exact hAX.kept (keepd ((Keep.refl X).alloc _)) | fail); rintro e w3 ⟨rfl, hb⟩; rw [← HP2.out]; have hw : Keep X w3 := (by first | exact Keep.trans (keepd ((Keep.refl X).alloc _)) hb | exact Keep.trans (keepd (Keep.refl X)) hb | exact hw.trans hb | exact (hw.alloc _).trans hb); have hb3 := hb)
      | (go_at_call 73; refine (numbers_any _ 1 _ [wr] _ (by omega) ?_).mono ?_; (first | exact ints_newd X 3 [wr] _ 1 rfl rfl | exact ints_new _ 3 [wr] _ 1 rfl rfl | exact (ints_newd X 3 [wr] _ 1 rfl rfl).kept hb | exact ((ints_newd X 3 [wr] _ 1 rfl rfl).kept hb3).kept hb | exact (ints_new _ 3 [wr] _ 1 rfl rfl).kept hb | fail); rintro e w5 ⟨rfl, hb⟩; rw [← HP1.out]; have hw : Keep X w5 := (by first | exact Keep.trans (keepd ((Keep.refl X).alloc _)) hb | exact Keep.trans (keepd (Keep.refl X)) hb | exact hw.trans hb | exact (hw.alloc _).trans hb))
      | fail))
  all_goals (
    go_wp2
    go_ret
    exact ⟨ret_str (by rw [HB2.out]), hkX.trans hw⟩)

set_option maxHeartbeats 2000000 in
theorem body_15 (A : Option Addr) (n c : Nat) (wr mn : Int) (vs : List Int) (w : World) (hn : n ≤ 1968) (hlen : (Co.put vs).length ≤ 255) (hA : Ints .i64 w w.heap.size A n vs) (B : List UInt8) (hB : Tw.put [wr, mn] ++ (UInt8.ofNat (Co.put vs).length :: Co.put vs) = B) :
    Calls Try.prog 72 #[.agg #[.int .i64 15, .int .i64 0, .int .i64 0, .int .i64 wr, .int .i64 mn, .slice A n c]] w
      fun e w' => e = .returned (.string (st B)) ∧ Keep w w' := by

  obtain ⟨X, hX⟩ : ∃ X, X = w.alloc (.cells #[.int .i64 15, .int .i64 0, .int .i64 0, .int .i64 wr, .int .i64 mn, .slice A n c] 33) := ⟨_, rfl⟩
  have hkX : Keep w X := by rw [hX]; exact (Keep.refl w).alloc _
  have hbX : Boxed w.heap.size ⟨15, 0, 0, wr, mn, vs⟩ A n c X := by rw [hX]; exact Boxed.new w ⟨15, 0, 0, wr, mn, vs⟩ A n c 33
  have hsX : w.heap.size + 1 = X.heap.size := by rw [hX]; simp
  have hAX := hA.kept hkX
  have hX0 : ∀ W, Keep X W → Boxed w.heap.size ⟨15, 0, 0, wr, mn, vs⟩ A n c W := fun W h => hbX.below h (by omega)
  obtain ⟨c0, c1, c2, c3, c4, c5⟩ := hbX
  simp only at c0 c1 c2 c3 c4 c5
  have HB := Lib.hid hB
  have HSX := Lib.hid hsX
  clear hB hA hsX

  obtain ⟨p1, hp1⟩ : ∃ p, p = Tw.put [wr, mn] := ⟨_, rfl⟩
  obtain ⟨p2, hp2⟩ : ∃ p, p = Co.put vs := ⟨_, rfl⟩
  have hl1 : p1.length ≤ 8 := by rw [hp1]; exact put_len_le _ (by simp)
  have hl2 : p2.length ≤ 255 := by rw [hp2]; exact hlen
  have a1 := add_st (P := Try.prog) p1 (UInt8.ofNat p2.length :: p2) (by (try simp); omega)
  have HB2 : Hid (p1 ++ (UInt8.ofNat p2.length :: p2) = B) := Lib.hid (by rw [hp1, hp2]; exact HB.out)
  have HP1 := Lib.hid hp1
  have HP2 := Lib.hid hp2
  clear hp1 hp2 hlen HB

  have hS : ∀ W, Keep X W → W.cell? ⟨w.heap.size, 3, none⟩ = some (.int .i64 wr) ∧ W.cell? ⟨w.heap.size, 4, none⟩ = some (.int .i64 mn) := fun W h => ⟨(hX0 W h).2.2.2.1, (hX0 W h).2.2.2.2.1⟩
  go_enter Try.func72, Try.ntmps72

  clear c0 c1 c2 c3 c4 c5
  go_wp2_with fail
  rw [← hX]
  refine (Coil.put_any A n c vs _ (by omega) hAX).mono ?_
  rintro e Y ⟨rfl, hbY⟩
  rw [← HP2.out]
  have hkY : Keep X Y := hbY
  obtain ⟨c0, c1, c2, c3, c4, c5⟩ := hX0 _ hkY
  simp only at c0 c1 c2 c3 c4 c5
  go_wp2_with fail
  refine (numbers_any _ 2 _ [wr, mn] _ (by omega) (ints_new Y 3 [wr, mn] _ 2 rfl rfl)).mono ?_
  rintro e w3 ⟨rfl, hb3⟩
  rw [← HP1.out]
  go_wp2_with fail
  refine (sized_any p2 _ hl2).mono ?_
  rintro e w4 ⟨rfl, hb4⟩
  go_wp2
  go_ret
  exact ⟨ret_str (by rw [HB2.out]), ((hkX.trans hkY).trans (((Keep.refl Y).alloc _).trans hb3)).trans hb4⟩

set_option maxHeartbeats 2000000 in
theorem body_16 (A : Option Addr) (n c : Nat) (wr mn : Int) (vs : List Int) (w : World) (hn : n ≤ 123) (hlen : (Tw.put vs).length ≤ 255) (hA : Ints .i64 w w.heap.size A n vs) (B : List UInt8) (hB : Tw.put [wr, mn] ++ (UInt8.ofNat (Tw.put vs).length :: Tw.put vs) = B) :
    Calls Try.prog 72 #[.agg #[.int .i64 16, .int .i64 0, .int .i64 0, .int .i64 wr, .int .i64 mn, .slice A n c]] w
      fun e w' => e = .returned (.string (st B)) ∧ Keep w w' := by

  obtain ⟨X, hX⟩ : ∃ X, X = w.alloc (.cells #[.int .i64 16, .int .i64 0, .int .i64 0, .int .i64 wr, .int .i64 mn, .slice A n c] 33) := ⟨_, rfl⟩
  have hkX : Keep w X := by rw [hX]; exact (Keep.refl w).alloc _
  have hbX : Boxed w.heap.size ⟨16, 0, 0, wr, mn, vs⟩ A n c X := by rw [hX]; exact Boxed.new w ⟨16, 0, 0, wr, mn, vs⟩ A n c 33
  have hsX : w.heap.size + 1 = X.heap.size := by rw [hX]; simp
  have hAX := hA.kept hkX
  have hX0 : ∀ W, Keep X W → Boxed w.heap.size ⟨16, 0, 0, wr, mn, vs⟩ A n c W := fun W h => hbX.below h (by omega)
  obtain ⟨c0, c1, c2, c3, c4, c5⟩ := hbX
  simp only at c0 c1 c2 c3 c4 c5
  have HB := Lib.hid hB
  have HSX := Lib.hid hsX
  clear hB hA hsX

  obtain ⟨p1, hp1⟩ : ∃ p, p = Tw.put [wr, mn] := ⟨_, rfl⟩
  obtain ⟨p2, hp2⟩ : ∃ p, p = Tw.put vs := ⟨_, rfl⟩
  have hl1 : p1.length ≤ 8 := by rw [hp1]; exact put_len_le _ (by simp)
  have hl2 : p2.length ≤ 255 := by rw [hp2]; exact hlen
  have a1 := add_st (P := Try.prog) p1 (UInt8.ofNat p2.length :: p2) (by (try simp); omega)
  have HB2 : Hid (p1 ++ (UInt8.ofNat p2.length :: p2) = B) := Lib.hid (by rw [hp1, hp2]; exact HB.out)
  have HP1 := Lib.hid hp1
  have HP2 := Lib.hid hp2
  clear hp1 hp2 hlen HB

  have hS : ∀ W, Keep X W → W.cell? ⟨w.heap.size, 3, none⟩ = some (.int .i64 wr) ∧ W.cell? ⟨w.heap.size, 4, none⟩ = some (.int .i64 mn) ∧ W.cell? ⟨w.heap.size, 5, none⟩ = some (.slice A n c) := fun W h => ⟨(hX0 W h).2.2.2.1, (hX0 W h).2.2.2.2.1, (hX0 W h).2.2.2.2.2⟩
  go_enter Try.func72, Try.ntmps72

  go_wp2
  rw [← hX]
  clear hX c0 c1 c2 c3 c4 c5

  go_region_held3 (fun w' => w'.cell? ⟨w.heap.size, 3, none⟩ = some (.int .i64 wr) ∧ w'.cell? ⟨w.heap.size, 4, none⟩ = some (.int .i64 mn) ∧ w'.cell? ⟨w.heap.size, 5, none⟩ = some (.slice A n c))
    (first
      | exact hS _ hw
      | exact hS _ (hw.alloc _)
      | exact hS _ (keepd (Keep.refl X))
      | exact hS _ (keepd ((Keep.refl X).alloc _))
      | fail)
    ((first
      | (go_at_call_of 73 A; refine (numbers_any A n c vs _ (by omega) ?_).mono ?_; (first | exact hAX.kept hw | exact hAX.kept (keepd (Keep.refl X)) | exact hAX.kept (keepd ((Keep.refl X).alloc _)) | fail); rintro e w3 ⟨rfl, hb⟩; rw [← HP2.out]; have hw : Keep X w3 := (by first | exact Keep.trans (keepd ((Keep.refl X).alloc _)) hb | exact Keep.trans (keepd (Keep.refl X)) hb | exact hw.trans hb | exact (hw.alloc _).trans hb); have hb3 := hb)
      | (go_at_call 74; refine (sized_any p2 _ hl2).mono ?_; rintro e w4 ⟨rfl, hb⟩; have hw : Keep X w4 := (by first | exact Keep.trans (keepd ((Keep.refl X).alloc _)) hb | exact Keep.trans (keepd (Keep.refl X)) hb | exact hw.trans hb | exact (hw.alloc _).trans hb); have hb4 := hb)
      | (go_at_call 73; refine (numbers_any _ 2 _ [wr, mn] _ (by omega) ?_).mono ?_; (first | exact ints_newd X 3 [wr, mn] _ 2 rfl rfl | exact ints_new _ 3 [wr, mn] _ 2 rfl rfl | exact (ints_newd X 3 [wr, mn] _ 2 rfl rfl).kept hb | exact ((ints_newd X 3 [wr, mn] _ 2 rfl rfl).kept hb3).kept hb | exact (ints_new _ 3 [wr, mn] _ 2 rfl rfl).kept hb | fail); rintro e w5 ⟨rfl, hb⟩; rw [← HP1.out]; have hw : Keep X w5 := (by first | exact Keep.trans (keepd ((Keep.refl X).alloc _)) hb | exact Keep.trans (keepd (Keep.refl X)) hb | exact hw.trans hb | exact (hw.alloc _).trans hb))
      | fail))
  all_goals (
    go_wp2
    go_ret
    exact ⟨ret_str (by rw [HB2.out]), hkX.trans hw⟩)

set_option maxHeartbeats 2000000 in
theorem body_23 (A : Option Addr) (n c : Nat) (rd ct wr mn : Int) (vs : List Int) (w : World) (hn : n ≤ 121) (hlen : (Tw.put vs).length ≤ 255) (hA : Ints .i64 w w.heap.size A n vs) (B : List UInt8) (hB : Tw.put [rd, ct, wr, mn] ++ (UInt8.ofNat (Tw.put vs).length :: Tw.put vs) = B) :
    Calls Try.prog 72 #[.agg #[.int .i64 23, .int .i64 rd, .int .i64 ct, .int .i64 wr, .int .i64 mn, .slice A n c]] w
      fun e w' => e = .returned (.string (st B)) ∧ Keep w w' := by

  obtain ⟨X, hX⟩ : ∃ X, X = w.alloc (.cells #[.int .i64 23, .int .i64 rd, .int .i64 ct, .int .i64 wr, .int .i64 mn, .slice A n c] 33) := ⟨_, rfl⟩
  have hkX : Keep w X := by rw [hX]; exact (Keep.refl w).alloc _
  have hbX : Boxed w.heap.size ⟨23, rd, ct, wr, mn, vs⟩ A n c X := by rw [hX]; exact Boxed.new w ⟨23, rd, ct, wr, mn, vs⟩ A n c 33
  have hsX : w.heap.size + 1 = X.heap.size := by rw [hX]; simp
  have hAX := hA.kept hkX
  have hX0 : ∀ W, Keep X W → Boxed w.heap.size ⟨23, rd, ct, wr, mn, vs⟩ A n c W := fun W h => hbX.below h (by omega)
  obtain ⟨c0, c1, c2, c3, c4, c5⟩ := hbX
  simp only at c0 c1 c2 c3 c4 c5
  have HB := Lib.hid hB
  have HSX := Lib.hid hsX
  clear hB hA hsX

  obtain ⟨p1, hp1⟩ : ∃ p, p = Tw.put [rd, ct, wr, mn] := ⟨_, rfl⟩
  obtain ⟨p2, hp2⟩ : ∃ p, p = Tw.put vs := ⟨_, rfl⟩
  have hl1 : p1.length ≤ 8 := by rw [hp1]; exact put_len_le _ (by simp)
  have hl2 : p2.length ≤ 255 := by rw [hp2]; exact hlen
  have a1 := add_st (P := Try.prog) p1 (UInt8.ofNat p2.length :: p2) (by (try simp); omega)
  have HB2 : Hid (p1 ++ (UInt8.ofNat p2.length :: p2) = B) := Lib.hid (by rw [hp1, hp2]; exact HB.out)
  have HP1 := Lib.hid hp1
  have HP2 := Lib.hid hp2
  clear hp1 hp2 hlen HB

  have hS : ∀ W, Keep X W → W.cell? ⟨w.heap.size, 1, none⟩ = some (.int .i64 rd) ∧ W.cell? ⟨w.heap.size, 2, none⟩ = some (.int .i64 ct) ∧ W.cell? ⟨w.heap.size, 3, none⟩ = some (.int .i64 wr) ∧ W.cell? ⟨w.heap.size, 4, none⟩ = some (.int .i64 mn) ∧ W.cell? ⟨w.heap.size, 5, none⟩ = some (.slice A n c) := fun W h => ⟨(hX0 W h).2.1, (hX0 W h).2.2.1, (hX0 W h).2.2.2.1, (hX0 W h).2.2.2.2.1, (hX0 W h).2.2.2.2.2⟩
  go_enter Try.func72, Try.ntmps72

  go_wp2
  rw [← hX]
  clear hX c0 c1 c2 c3 c4 c5

  go_region_held3 (fun w' => w'.cell? ⟨w.heap.size, 1, none⟩ = some (.int .i64 rd) ∧ w'.cell? ⟨w.heap.size, 2, none⟩ = some (.int .i64 ct) ∧ w'.cell? ⟨w.heap.size, 3, none⟩ = some (.int .i64 wr) ∧ w'.cell? ⟨w.heap.size, 4, none⟩ = some (.int .i64 mn) ∧ w'.cell? ⟨w.heap.size, 5, none⟩ = some (.slice A n c))
    (first
      | exact hS _ hw
      | exact hS _ (hw.alloc _)
      | exact hS _ (keepd (Keep.refl X))
      | exact hS _ (keepd ((Keep.refl X).alloc _))
      | fail)
    ((first
      | (go_at_call_of 73 A; refine (numbers_any A n c vs _ (by omega) ?_).mono ?_; (first | exact hAX.kept hw | exact hAX.kept (keepd (Keep.refl X)) | exact hAX.kept (keepd ((Keep.refl X).alloc _)) | fail); rintro e w3 ⟨rfl, hb⟩; rw [← HP2.out]; have hw : Keep X w3 := (by first | exact Keep.trans (keepd ((Keep.refl X).alloc _)) hb | exact Keep.trans (keepd (Keep.refl X)) hb | exact hw.trans hb | exact (hw.alloc _).trans hb); have hb3 := hb)
      | (go_at_call 74; refine (sized_any p2 _ hl2).mono ?_; rintro e w4 ⟨rfl, hb⟩; have hw : Keep X w4 := (by first | exact Keep.trans (keepd ((Keep.refl X).alloc _)) hb | exact Keep.trans (keepd (Keep.refl X)) hb | exact hw.trans hb | exact (hw.alloc _).trans hb); have hb4 := hb)
      | (go_at_call 73; refine (numbers_any _ 4 _ [rd, ct, wr, mn] _ (by omega) ?_).mono ?_; (first | exact ints_newd X 3 [rd, ct, wr, mn] _ 4 rfl rfl | exact ints_new _ 3 [rd, ct, wr, mn] _ 4 rfl rfl | exact (ints_newd X 3 [rd, ct, wr, mn] _ 4 rfl rfl).kept hb | exact ((ints_newd X 3 [rd, ct, wr, mn] _ 4 rfl rfl).kept hb3).kept hb | exact (ints_new _ 3 [rd, ct, wr, mn] _ 4 rfl rfl).kept hb | fail); rintro e w5 ⟨rfl, hb⟩; rw [← HP1.out]; have hw : Keep X w5 := (by first | exact Keep.trans (keepd ((Keep.refl X).alloc _)) hb | exact Keep.trans (keepd (Keep.refl X)) hb | exact hw.trans hb | exact (hw.alloc _).trans hb))
      | fail))
  all_goals (
    go_wp2
    go_ret
    exact ⟨ret_str (by rw [HB2.out]), hkX.trans hw⟩)

end Go.Proofs.Ytijnajlijdnbcaa.Ask
