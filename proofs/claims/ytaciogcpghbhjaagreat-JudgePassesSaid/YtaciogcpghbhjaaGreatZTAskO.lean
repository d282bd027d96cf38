/- Of these texts: AskO, AskX, AskY, AskZ, Ask. Conditions: as each part says. -/
import Derived.Test.YtaciogcpghbhjaaGreatZTAskN
import Derived.Test.YtaciogcpghbhjaaGreatZTAskP
import Derived.Deep.Cut
import Derived.Test.YtaciogcpghbhjaaGreatZTTw2
import Derived.Deep.RegionHeld3
import Derived.Test.YtaciogcpghbhjaaGreatZTLib
/- The developers' requests: whether one is shaped, and may be. Conditions: none. -/
namespace Go.Proofs.YtaciogcpghbhjaaGreat.Ask
set_option maxRecDepth 100000
set_option linter.unusedVariables false
open Go.ChangeShapes Go.WideShapes Go.ChangeAt Go.RowKit
open Ref6 (ret_bool ret_int Boxed)
theorem Boxed.kept {p : Nat} {a : AskP} {A : Option Addr} {n c : Nat} {w w' : World} (h : Boxed p a A n c w) (hk : Keep w w') (hp : p < w.heap.size) : Boxed p a A n c w' := h.below hk hp
set_option maxHeartbeats 1000000 in
theorem areValues_any (A : Option Addr) (n c : Nat) (fc rd ct wr mn most : Int) (vs : List Int) (w : World) (hn : n <= maxLen) (hnd : Ak.need ⟨fc, rd, ct, wr, mn, vs⟩ <= 1000000) (hA : Ints .i64 w w.heap.size A n vs) :
  Calls Tryz.prog 78 #[.agg #[.int .i64 fc, .int .i64 rd, .int .i64 ct, .int .i64 wr, .int .i64 mn, .slice A n c], .int .i64 most] w
   fun e w' => e = .returned (.bool ((vs.length : Int) == Ak.need ⟨fc, rd, ct, wr, mn, vs⟩ && Ak.allTo most vs)) ∧ Keep w w' := by
 have HL := Lib.hid hA.1
 have hbx := Boxed.new w ⟨fc, rd, ct, wr, mn, vs⟩ A n c 40
 have k1 := (Keep.refl w).alloc (.cells #[.int .i64 fc, .int .i64 rd, .int .i64 ct, .int .i64 wr, .int .i64 mn, .slice A n c] 40)
 obtain ⟨X, hX⟩ : ∃ X, X = (w.alloc (.cells #[.int .i64 fc, .int .i64 rd, .int .i64 ct, .int .i64 wr, .int .i64 mn, .slice A n c] 40)).alloc (.cells #[.int .i64 most] 3) := ⟨_, rfl⟩
 have hkX : Keep w X := by rw [hX]; exact k1.alloc _
 have hbX : Boxed w.heap.size ⟨fc, rd, ct, wr, mn, vs⟩ A n c X := by rw [hX]; exact hbx.below ((Keep.refl _).alloc _) (by simp)
 have hcX : X.cell? ⟨w.heap.size + 1, 0, none⟩ = some (.int .i64 most) := by rw [hX]; go_simp
 have hsX : w.heap.size + 2 = X.heap.size := by rw [hX]; simp
 have hAX := hA.kept hkX
 have hX0 : ∀ W, Keep X W -> Boxed w.heap.size ⟨fc, rd, ct, wr, mn, vs⟩ A n c W ∧ W.cell? ⟨w.heap.size + 1, 0, none⟩ = some (.int .i64 most) := fun W h =>
  ⟨hbX.below h (by omega), (h.cell (p := ⟨w.heap.size + 1, 0, none⟩) (by show w.heap.size + 1 < _; omega)).trans hcX⟩
 have hS : ∀ W, Keep X W -> W.cell? ⟨w.heap.size, 5, none⟩ = some (.slice A n c) ∧ W.cell? ⟨w.heap.size, 0, none⟩ = some (.int .i64 fc) ∧ W.cell? ⟨w.heap.size, 1, none⟩ = some (.int .i64 rd) ∧ W.cell? ⟨w.heap.size, 2, none⟩ = some (.int .i64 ct) ∧ W.cell? ⟨w.heap.size, 3, none⟩ = some (.int .i64 wr) ∧ W.cell? ⟨w.heap.size, 4, none⟩ = some (.int .i64 mn) := fun W h => by
  obtain ⟨⟨c0, c1, c2, c3, c4, c5⟩, _⟩ := hX0 _ h
  exact ⟨c5, c0, c1, c2, c3, c4⟩
 obtain ⟨nd, hnd'⟩ : ∃ nd, nd = Ak.need ⟨fc, rd, ct, wr, mn, vs⟩ := ⟨_, rfl⟩
 rw [<- hnd'] at hnd
 have HN := Lib.hid hnd'
 clear hnd' hbx k1 hA
 go_enter Tryz.func78, Tryz.ntmps78
 go_wp2
 rw [<- hX]
 clear hX hbX hcX
 go_region_held3 (fun w' => w'.cell? ⟨w.heap.size, 5, none⟩ = some (.slice A n c) ∧ w'.cell? ⟨w.heap.size, 0, none⟩ = some (.int .i64 fc) ∧ w'.cell? ⟨w.heap.size, 1, none⟩ = some (.int .i64 rd) ∧ w'.cell? ⟨w.heap.size, 2, none⟩ = some (.int .i64 ct) ∧ w'.cell? ⟨w.heap.size, 3, none⟩ = some (.int .i64 wr) ∧ w'.cell? ⟨w.heap.size, 4, none⟩ = some (.int .i64 mn))
  (first
   | exact hS _ hw
   | exact hS _ (keepd (Keep.refl X))
   | fail)
  ((first
    | (go_at_call 101; refine (valueCount_any A n c fc rd ct wr mn _ vs).mono ?_; rintro e w3 ⟨rfl, hb3⟩; rw [<- HN.out]; have hw : Keep X w3 := Below.trans (keepd (Keep.refl X)) hb3)
    | fail))
 obtain ⟨⟨c0, c1, c2, c3, c4, c5⟩, cm⟩ := hX0 _ hw
 simp only at c0 c1 c2 c3 c4 c5
 by_cases hl : (n : Int) = nd
 ·have d9 : ((n : Int) != nd) = false := by simpa using hl
  have hn6 : n <= 1000000 := by omega
  have hf : ((vs.length : Int) == Ak.need ⟨fc, rd, ct, wr, mn, vs⟩ && Ak.allTo most vs) = Ak.allTo most vs := by
   rw [HL.out, <- HN.out, hl]; simp
  have HF := Lib.hid hf
  clear hf hl
  go_wp2_with fail
  refine (contains_any A n c vs most (w.heap.size + 1) _ hn6 (hAX.kept hw) cm).mono ?_
  rintro e w4 ⟨rfl, rfl⟩
  go_wp2
  go_ret
  refine ⟨ret_bool ?_, hkX.trans hw⟩
  rw [HF.out]
 ·have d9 : ((n : Int) != nd) = true := by simpa using hl
  have hf : ((vs.length : Int) == Ak.need ⟨fc, rd, ct, wr, mn, vs⟩ && Ak.allTo most vs) = false := by
   rw [HL.out, <- HN.out]; simp [hl]
  have HF := Lib.hid hf
  clear hf hl
  go_wp2
  go_ret
  exact ⟨ret_bool HF.out.symm, hkX.trans hw⟩
theorem set3 {W : World} {p q : Nat} {a b c : Value} (h : p ≠ q) : (((W.setCell ⟨q, 0, none⟩ a).setCell ⟨q, 1, none⟩ b).setCell ⟨q, 2, none⟩ c).cell? ⟨p, 0, none⟩ = W.cell? ⟨p, 0, none⟩ := by
 rw [World.cell?_of_block (Below.heap_setCell _ _ _ _ h), World.cell?_of_block (Below.heap_setCell _ _ _ _ h), World.cell?_of_block (Below.heap_setCell _ _ _ _ h)]
theorem lims_new {X w3 : World} {o : Obj} (h : Lims w3 (X.alloc o).drew.heap.size) : Lims w3 (X.heap.size + 1) := by
 have e : (X.alloc o).drew.heap.size = X.heap.size + 1 := Array.size_push _
 rwa [e] at h
theorem lim_new {X w3 : World} {e : TypeId} (h : Keep (X.alloc (.cells #[.int .i64 0, .int .i64 0, .int .i64 0] e)).drew w3) : w3.frozen? ⟨X.heap.size, 0, none⟩ = false ∧ w3.frozen? ⟨X.heap.size, 1, none⟩ = false ∧ w3.frozen? ⟨X.heap.size, 2, none⟩ = false ∧
  w3.cell? ⟨X.heap.size, 0, none⟩ = some (.int .i64 0) ∧ w3.cell? ⟨X.heap.size, 1, none⟩ = some (.int .i64 0) ∧ w3.cell? ⟨X.heap.size, 2, none⟩ = some (.int .i64 0) ∧ X.heap.size < w3.heap.size := by
 have hlt : X.heap.size < (X.alloc (.cells #[.int .i64 0, .int .i64 0, .int .i64 0] e)).drew.heap.size := by simp
 refine ⟨(h.frozen hlt).trans (by go_simp), (h.frozen hlt).trans (by go_simp), (h.frozen hlt).trans (by go_simp), (h.cell hlt).trans (by go_simp), (h.cell hlt).trans (by go_simp), (h.cell hlt).trans (by go_simp), Nat.lt_of_lt_of_le hlt h.size⟩
set_option maxHeartbeats 1000000 in
theorem isShaped_any (A : Option Addr) (n c : Nat) (fc rd ct wr mn : Int) (vs : List Int) (w : World) (hn : n <= maxLen) (hA : Ints .i64 w w.heap.size A n vs) :
  Calls Tryz.prog 53 #[.agg #[.int .i64 fc, .int .i64 rd, .int .i64 ct, .int .i64 wr, .int .i64 mn, .slice A n c]] w
   fun e w' => e = .returned (.bool (Ak.shaped ⟨fc, rd, ct, wr, mn, vs⟩)) ∧ Keep w w' := by
 obtain ⟨X, hX⟩ : ∃ X, X = w.alloc (.cells #[.int .i64 fc, .int .i64 rd, .int .i64 ct, .int .i64 wr, .int .i64 mn, .slice A n c] 40) := ⟨_, rfl⟩
 have hkX : Keep w X := by rw [hX]; exact (Keep.refl w).alloc _
 have hbX : Boxed w.heap.size ⟨fc, rd, ct, wr, mn, vs⟩ A n c X := by rw [hX]; exact Boxed.new w ⟨fc, rd, ct, wr, mn, vs⟩ A n c 40
 have hsX : w.heap.size + 1 = X.heap.size := by rw [hX]; simp
 have hAX := hA.kept hkX
 have hX0 : ∀ W, Keep X W -> Boxed w.heap.size ⟨fc, rd, ct, wr, mn, vs⟩ A n c W := fun W h => hbX.below h (by omega)
 have hS : ∀ W, Keep X W -> W.cell? ⟨w.heap.size, 0, none⟩ = some (.int .i64 fc) := fun W h => (hX0 W h).1
 obtain ⟨nr, hnr⟩ : ∃ b, b = Ak.reads fc := ⟨_, rfl⟩
 obtain ⟨nw, hnw⟩ : ∃ b, b = Ak.wmax fc := ⟨_, rfl⟩
 obtain ⟨tp, htp⟩ : ∃ b, b = Ak.wtop fc := ⟨_, rfl⟩
 obtain ⟨kn, hkn⟩ : ∃ b, b = Ak.known fc := ⟨_, rfl⟩
 have hlk : ∀ W b, Lims W b -> (Instr.lookup 112 (.map (some b)) (.int .i64 fc) true).run Tryz.prog W = .ok (.tuple #[.agg #[.int .i64 nr, .int .i64 nw, .int .i64 tp], .bool kn]) W := fun W b h => by
  rw [hnr, hnw, htp, hkn]; exact h.look fc
 have HS := Lib.hid (show Ak.shaped ⟨fc, rd, ct, wr, mn, vs⟩ = (kn && Ak.partD nr rd ct && Ak.partD nw wr mn && ((vs.length : Int) == Ak.need ⟨fc, rd, ct, wr, mn, vs⟩ && Ak.allTo tp vs)) by rw [Ak.shaped, hnr, hnw, htp, hkn])
 have HNW := Lib.hid (show nw <= 1968 ∧ 0 <= nw by rw [hnw]; exact ⟨Ak.wmax_le fc, Ak.wmax_nn fc⟩)
 clear hnr hnw htp hkn hA hbX
 have HLK := Lib.hid hlk
 clear hlk
 go_enter Tryz.func53, Tryz.ntmps53
 go_wp2
 rw [<- hX]
 clear hX
 go_cut [3, 4] from 5 (fun p v W => ∃ q : Nat, p = .pointer (some ⟨q, 0, none⟩) ∧ v = .bool kn ∧ W.cell? ⟨q, 0, none⟩ = some (.int .i64 nr) ∧ W.cell? ⟨q, 1, none⟩ = some (.int .i64 nw) ∧ W.cell? ⟨q, 2, none⟩ = some (.int .i64 tp) ∧ q < W.heap.size ∧ Keep X W)
 case first =>
  go_region_held3 (fun w' => w'.cell? ⟨w.heap.size, 0, none⟩ = some (.int .i64 fc))
   (first
    | exact hS _ hw
    | exact hS _ (hw.alloc _)
    | exact hS _ (keepd (Keep.refl X))
    | exact hS _ ((keepd (Keep.refl X)).alloc _)
    | exact (set3 (by omega)).trans (hS _ hw)
    | exact (set3 (by omega)).trans (hS _ (hw.alloc _))
    | fail)
   ((first
     | (go_at_call 72; refine (limits_any _).mono ?_; rintro e w3 ⟨rfl, hl, hb3⟩; have hw : Keep X w3 := Keep.trans (keepd ((Keep.refl X).alloc _)) hb3; have hlk := HLK.out w3 (X.heap.size + 1) (lims_new hl); have hc3 := lim_new hb3; have hs3 := hw.size)
     | (go_at_call 72; refine (limits_any _).mono ?_; rintro e w3 ⟨rfl, hl, hb3⟩; have hw : Keep X w3 := Below.trans (keepd (Keep.refl X)) hb3; have hs3 := hw.size; have hlk := HLK.out w3 X.heap.size hl; have hlk2 := HLK.out _ X.heap.size (hl.keep ((Keep.refl w3).alloc (.cells #[.int .i64 0, .int .i64 0, .int .i64 0] 110))))
     | fail))
  ·go_wp2_with fail
   go_meet
   exact ⟨w3.heap.size, rfl, rfl, by go_simp, by go_simp, by go_simp, by simp, hw.alloc _⟩
  ·go_wp2_with fail
   go_meet
   exact ⟨w3.heap.size, rfl, rfl, by go_simp, by go_simp, by go_simp, by simp, hw.alloc _⟩
  ·go_wp2_with fail
   go_meet
   obtain ⟨f0, f1, f2, z0, z1, z2, hlt⟩ := hc3
   exact ⟨X.heap.size, rfl, rfl, by go_simp, by go_simp, by go_simp, by simpa using hlt, ((hw.setCell (Nat.le_refl _) _).setCell (Nat.le_refl _) _).setCell (Nat.le_refl _) _⟩
 case rest =>
  obtain ⟨q, rfl, rfl, l0, l1, l2, hq, hkc⟩ := hcut
  obtain ⟨c0, c1, c2, c3, c4, c5⟩ := hX0 _ hkc
  simp only at c0 c1 c2 c3 c4 c5
  cases kn
  ·go_wp2
   go_ret
   exact ⟨ret_bool (by rw [HS.out]; rfl), hkX.trans hkc⟩
  ·go_wp2_with fail
   refine (isPart_any rd ct nr _).mono ?_
   rintro e w4 ⟨rfl, rfl⟩
   cases h1 : Ak.partD nr rd ct
   ·go_wp2
    go_ret
    exact ⟨ret_bool (by rw [HS.out, h1]; rfl), hkX.trans hkc⟩
   ·go_wp2_with fail
    refine (isPart_any wr mn nw _).mono ?_
    rintro e w4 ⟨rfl, rfl⟩
    cases h2 : Ak.partD nw wr mn
    ·go_wp2
     go_ret
     exact ⟨ret_bool (by rw [HS.out, h1, h2]; rfl), hkX.trans hkc⟩
    ·have hnd : Ak.need ⟨fc, rd, ct, wr, mn, vs⟩ <= 1000000 := by
      have h := (Ak.partD_nn nw wr mn HNW.out.2 h2).2.2
      have h' := HNW.out.1
      unfold Ak.need Ak.wtwo
      simp only
      repeat' split
      all_goals omega
     go_wp2_with fail
     refine (areValues_any A n c fc rd ct wr mn tp vs _ hn hnd (hAX.kept hkc)).mono ?_
     rintro e w5 ⟨rfl, hk5⟩
     go_wp2
     go_ret
     exact ⟨ret_bool (by rw [HS.out, h1, h2]; rfl), (hkX.trans hkc).trans hk5⟩
end Go.Proofs.YtaciogcpghbhjaaGreat.Ask
/- The developers' requests: their bytes. Conditions: at most a million values. -/
namespace Go.Proofs.YtaciogcpghbhjaaGreat.Ask
set_option maxRecDepth 100000
set_option linter.unusedVariables false
open Go.ChangeShapes Go.WideShapes Go.ChangeAt Go.RowKit
open Ref6 (ret_bool ret_int Boxed)
theorem ret_str {a b : ByteArray} (h : a = b) : Ending.returned (.string a) = Ending.returned (.string b) := by rw [h]
set_option maxHeartbeats 400000 in
theorem numbers_any (A : Option Addr) (n c : Nat) (zs : List Int) (w : World) (hn : n <= 1000000) (hA : Ints .i64 w w.heap.size A n zs) :
  Calls Tryz.prog 104 #[.slice A n c] w fun e w' => e = .returned (.string (st (Tw.put zs))) ∧ Keep w w' := by
 go_enter Tryz.func104, Tryz.ntmps104
 go_wp2_with fail
 refine (Twin.putAll_any A n c zs _ hn hA).mono ?_
 rintro e w1 ⟨rfl, hb⟩
 go_wp2
 go_ret
 exact ⟨rfl, hb⟩
set_option maxHeartbeats 400000 in
theorem oneByte_any (n : Int) (w : World) (h0 : 0 <= n) (h1 : n <= 255) :
  Calls Tryz.prog 79 #[.int .i64 n] w fun e w' => e = .returned (.string (st [UInt8.ofNat n.toNat])) ∧ Keep w w' := by
 have h8 : IntKind.u8.wrap n = n := by rw [IntKind.wrap_u8]; omega
 have hcv : ∀ w : World, (convert 25 9 (.slice (some ⟨w.heap.size, 0, none⟩) 1 1)).run Tryz.prog (w.alloc (.cells #[.int .u8 n] 5)) = .ok (.string (st [UInt8.ofNat n.toNat])) (w.alloc (.cells #[.int .u8 n] 5)) :=
  fun w => conv_new Tryz.underlying25 Tryz.underlying5 Tryz.underlying9 _ 1 [UInt8.ofNat n.toNat] (by simp only [List.map_cons, List.map_nil, bv]; rw [Ak.ofNat_int n h0 h1]) rfl
 go_enter Tryz.func79, Tryz.ntmps79
 go_wp2
 go_ret
 exact ⟨rfl, (Keep.refl w).alloc _⟩
set_option maxHeartbeats 400000 in
theorem sized_any (l : List UInt8) (w : World) (h : l.length <= 255) :
  Calls Tryz.prog 106 #[.string (st l)] w fun e w' => e = .returned (.string (st (UInt8.ofNat l.length :: l))) ∧ Keep w w' := by
 have hsz : (st l).size = l.length := st_size l
 have a1 := add_st (P := Tryz.prog) [UInt8.ofNat l.length] l (by simp; omega)
 go_enter Tryz.func106, Tryz.ntmps106
 go_wp2_with fail
 refine (oneByte_any (l.length : Int) _ (by omega) (by omega)).mono ?_
 rintro e w1 ⟨rfl, hb⟩
 rw [Int.toNat_natCast]
 go_wp2
 go_ret
 exact ⟨rfl, hb⟩
theorem ints_new (W : World) (e : TypeId) (zs : List Int) (cs : Array Value) (n : Nat) (hn : zs.length = n) (hc : cs.toList = zs.map (Value.int .i64)) : Ints .i64 (W.alloc (.cells cs e)) (W.alloc (.cells cs e)).heap.size (some ⟨W.heap.size, 0, none⟩) n zs := by
 subst hn
 have := Ints.new .i64 W e zs cs hc
 exact this.more (by simp)
theorem ints_newd (W : World) (e : TypeId) (zs : List Int) (cs : Array Value) (n : Nat) (hn : zs.length = n) (hc : cs.toList = zs.map (Value.int .i64)) : Ints .i64 (W.alloc (.cells cs e)).drew (W.alloc (.cells cs e)).drew.heap.size (some ⟨W.heap.size, 0, none⟩) n zs :=
 ints_new W e zs cs n hn hc
theorem put_two {y z : Int} (hy : 0 <= y ∧ y <= 65535) (hz : 0 <= z ∧ z <= 65535) : Tw.put [y, z] = Tw.two y ++ (Tw.two z ++ []) := by
 simp [Tw.put, Tw.allIn, Tw.inR_of hy.1 hy.2, Tw.inR_of hz.1 hz.2, Tw.bytes]
theorem put_four {x y z t : Int} (hx : 0 <= x ∧ x <= 65535) (hy : 0 <= y ∧ y <= 65535) (hz : 0 <= z ∧ z <= 65535) (ht : 0 <= t ∧ t <= 65535) : Tw.put [x, y, z, t] = Tw.two x ++ (Tw.two y ++ (Tw.two z ++ (Tw.two t ++ []))) := by
 simp [Tw.put, Tw.allIn, Tw.inR_of hx.1 hx.2, Tw.inR_of hy.1 hy.2, Tw.inR_of hz.1 hz.2, Tw.inR_of ht.1 ht.2, Tw.bytes]
theorem put_all {l : List Int} (h : Tw.allIn l = true) : Tw.put l = Tw.bytes l := by rw [Tw.put, h]; rfl
set_option maxHeartbeats 2000000 in
theorem body_1 (A : Option Addr) (c : Nat) (rd ct : Int) (w : World) (hA : Ints .i64 w w.heap.size A 0 []) (B : List UInt8) (hB : Tw.put [rd, ct] = B) :
  Calls Tryz.prog 80 #[.agg #[.int .i64 1, .int .i64 rd, .int .i64 ct, .int .i64 0, .int .i64 0, .slice A 0 c]] w
   fun e w' => e = .returned (.string (st B)) ∧ Keep w w' := by
 obtain ⟨X, hX⟩ : ∃ X, X = w.alloc (.cells #[.int .i64 1, .int .i64 rd, .int .i64 ct, .int .i64 0, .int .i64 0, .slice A 0 c] 40) := ⟨_, rfl⟩
 have hkX : Keep w X := by rw [hX]; exact (Keep.refl w).alloc _
 have hbX : Boxed w.heap.size ⟨1, rd, ct, 0, 0, []⟩ A 0 c X := by rw [hX]; exact Boxed.new w ⟨1, rd, ct, 0, 0, []⟩ A 0 c 40
 have hsX : w.heap.size + 1 = X.heap.size := by rw [hX]; simp
 have hAX := hA.kept hkX
 have hX0 : ∀ W, Keep X W -> Boxed w.heap.size ⟨1, rd, ct, 0, 0, []⟩ A 0 c W := fun W h => hbX.below h (by omega)
 obtain ⟨c0, c1, c2, c3, c4, c5⟩ := hbX
 simp only at c0 c1 c2 c3 c4 c5
 have HB := Lib.hid hB
 have HSX := Lib.hid hsX
 clear hB hA hsX
 go_enter Tryz.func80, Tryz.ntmps80
 clear c0 c1 c2 c3 c4 c5
 go_wp2_with fail
 rw [<- hX, HSX.out]
 refine (numbers_any _ 2 _ [rd, ct] _ (by omega) (ints_new X 3 [rd, ct] _ 2 rfl rfl)).mono ?_
 rintro e w1 ⟨rfl, hb⟩
 go_wp2
 go_ret
 exact ⟨ret_str (by rw [HB.out]), hkX.trans (((Keep.refl X).alloc _).trans hb)⟩
set_option maxHeartbeats 2000000 in
theorem body_2 (A : Option Addr) (c : Nat) (rd ct : Int) (w : World) (hA : Ints .i64 w w.heap.size A 0 []) (B : List UInt8) (hB : Tw.put [rd, ct] = B) :
  Calls Tryz.prog 80 #[.agg #[.int .i64 2, .int .i64 rd, .int .i64 ct, .int .i64 0, .int .i64 0, .slice A 0 c]] w
   fun e w' => e = .returned (.string (st B)) ∧ Keep w w' := by
 obtain ⟨X, hX⟩ : ∃ X, X = w.alloc (.cells #[.int .i64 2, .int .i64 rd, .int .i64 ct, .int .i64 0, .int .i64 0, .slice A 0 c] 40) := ⟨_, rfl⟩
 have hkX : Keep w X := by rw [hX]; exact (Keep.refl w).alloc _
 have hbX : Boxed w.heap.size ⟨2, rd, ct, 0, 0, []⟩ A 0 c X := by rw [hX]; exact Boxed.new w ⟨2, rd, ct, 0, 0, []⟩ A 0 c 40
 have hsX : w.heap.size + 1 = X.heap.size := by rw [hX]; simp
 have hAX := hA.kept hkX
 have hX0 : ∀ W, Keep X W -> Boxed w.heap.size ⟨2, rd, ct, 0, 0, []⟩ A 0 c W := fun W h => hbX.below h (by omega)
 obtain ⟨c0, c1, c2, c3, c4, c5⟩ := hbX
 simp only at c0 c1 c2 c3 c4 c5
 have HB := Lib.hid hB
 have HSX := Lib.hid hsX
 clear hB hA hsX
 go_enter Tryz.func80, Tryz.ntmps80
 clear c0 c1 c2 c3 c4 c5
 go_wp2_with fail
 rw [<- hX, HSX.out]
 refine (numbers_any _ 2 _ [rd, ct] _ (by omega) (ints_new X 3 [rd, ct] _ 2 rfl rfl)).mono ?_
 rintro e w1 ⟨rfl, hb⟩
 go_wp2
 go_ret
 exact ⟨ret_str (by rw [HB.out]), hkX.trans (((Keep.refl X).alloc _).trans hb)⟩
set_option maxHeartbeats 2000000 in
theorem body_3 (A : Option Addr) (c : Nat) (rd ct : Int) (w : World) (hA : Ints .i64 w w.heap.size A 0 []) (B : List UInt8) (hB : Tw.put [rd, ct] = B) :
  Calls Tryz.prog 80 #[.agg #[.int .i64 3, .int .i64 rd, .int .i64 ct, .int .i64 0, .int .i64 0, .slice A 0 c]] w
   fun e w' => e = .returned (.string (st B)) ∧ Keep w w' := by
 obtain ⟨X, hX⟩ : ∃ X, X = w.alloc (.cells #[.int .i64 3, .int .i64 rd, .int .i64 ct, .int .i64 0, .int .i64 0, .slice A 0 c] 40) := ⟨_, rfl⟩
 have hkX : Keep w X := by rw [hX]; exact (Keep.refl w).alloc _
 have hbX : Boxed w.heap.size ⟨3, rd, ct, 0, 0, []⟩ A 0 c X := by rw [hX]; exact Boxed.new w ⟨3, rd, ct, 0, 0, []⟩ A 0 c 40
 have hsX : w.heap.size + 1 = X.heap.size := by rw [hX]; simp
 have hAX := hA.kept hkX
 have hX0 : ∀ W, Keep X W -> Boxed w.heap.size ⟨3, rd, ct, 0, 0, []⟩ A 0 c W := fun W h => hbX.below h (by omega)
 obtain ⟨c0, c1, c2, c3, c4, c5⟩ := hbX
 simp only at c0 c1 c2 c3 c4 c5
 have HB := Lib.hid hB
 have HSX := Lib.hid hsX
 clear hB hA hsX
 go_enter Tryz.func80, Tryz.ntmps80
 clear c0 c1 c2 c3 c4 c5
 go_wp2_with fail
 rw [<- hX, HSX.out]
 refine (numbers_any _ 2 _ [rd, ct] _ (by omega) (ints_new X 3 [rd, ct] _ 2 rfl rfl)).mono ?_
 rintro e w1 ⟨rfl, hb⟩
 go_wp2
 go_ret
 exact ⟨ret_str (by rw [HB.out]), hkX.trans (((Keep.refl X).alloc _).trans hb)⟩
set_option maxHeartbeats 2000000 in
theorem body_4 (A : Option Addr) (c : Nat) (rd ct : Int) (w : World) (hA : Ints .i64 w w.heap.size A 0 []) (B : List UInt8) (hB : Tw.put [rd, ct] = B) :
  Calls Tryz.prog 80 #[.agg #[.int .i64 4, .int .i64 rd, .int .i64 ct, .int .i64 0, .int .i64 0, .slice A 0 c]] w
   fun e w' => e = .returned (.string (st B)) ∧ Keep w w' := by
 obtain ⟨X, hX⟩ : ∃ X, X = w.alloc (.cells #[.int .i64 4, .int .i64 rd, .int .i64 ct, .int .i64 0, .int .i64 0, .slice A 0 c] 40) := ⟨_, rfl⟩
 have hkX : Keep w X := by rw [hX]; exact (Keep.refl w).alloc _
 have hbX : Boxed w.heap.size ⟨4, rd, ct, 0, 0, []⟩ A 0 c X := by rw [hX]; exact Boxed.new w ⟨4, rd, ct, 0, 0, []⟩ A 0 c 40
 have hsX : w.heap.size + 1 = X.heap.size := by rw [hX]; simp
 have hAX := hA.kept hkX
 have hX0 : ∀ W, Keep X W -> Boxed w.heap.size ⟨4, rd, ct, 0, 0, []⟩ A 0 c W := fun W h => hbX.below h (by omega)
 obtain ⟨c0, c1, c2, c3, c4, c5⟩ := hbX
 simp only at c0 c1 c2 c3 c4 c5
 have HB := Lib.hid hB
 have HSX := Lib.hid hsX
 clear hB hA hsX
 go_enter Tryz.func80, Tryz.ntmps80
 clear c0 c1 c2 c3 c4 c5
 go_wp2_with fail
 rw [<- hX, HSX.out]
 refine (numbers_any _ 2 _ [rd, ct] _ (by omega) (ints_new X 3 [rd, ct] _ 2 rfl rfl)).mono ?_
 rintro e w1 ⟨rfl, hb⟩
 go_wp2
 go_ret
 exact ⟨ret_str (by rw [HB.out]), hkX.trans (((Keep.refl X).alloc _).trans hb)⟩
set_option maxHeartbeats 2000000 in
theorem body_5 (A : Option Addr) (c : Nat) (wr z : Int) (w : World) (hz : z = 0 ∨ z = 1) (hA : Ints .i64 w w.heap.size A 1 [z]) (B : List UInt8) (hB : Tw.put [wr, 65280 * z] = B) :
  Calls Tryz.prog 80 #[.agg #[.int .i64 5, .int .i64 0, .int .i64 0, .int .i64 wr, .int .i64 1, .slice A 1 c]] w
   fun e w' => e = .returned (.string (st B)) ∧ Keep w w' := by
 obtain ⟨X, hX⟩ : ∃ X, X = w.alloc (.cells #[.int .i64 5, .int .i64 0, .int .i64 0, .int .i64 wr, .int .i64 1, .slice A 1 c] 40) := ⟨_, rfl⟩
 have hkX : Keep w X := by rw [hX]; exact (Keep.refl w).alloc _
 have hbX : Boxed w.heap.size ⟨5, 0, 0, wr, 1, [z]⟩ A 1 c X := by rw [hX]; exact Boxed.new w ⟨5, 0, 0, wr, 1, [z]⟩ A 1 c 40
 have hsX : w.heap.size + 1 = X.heap.size := by rw [hX]; simp
 have hAX := hA.kept hkX
 have hX0 : ∀ W, Keep X W -> Boxed w.heap.size ⟨5, 0, 0, wr, 1, [z]⟩ A 1 c W := fun W h => hbX.below h (by omega)
 obtain ⟨c0, c1, c2, c3, c4, c5⟩ := hbX
 simp only at c0 c1 c2 c3 c4 c5
 have HB := Lib.hid hB
 have HSX := Lib.hid hsX
 clear hB hA hsX
 obtain ⟨b, off, rfl, hlb, hcl⟩ := hAX.2 (by omega)
 have hc0 : X.cell? ⟨b, off, none⟩ = some (.int .i64 z) := hcl 0 (by omega)
 have hwz : IntKind.i64.wrap (65280 * z) = 65280 * z := by rw [IntKind.wrap_i64]; omega
 clear hcl hz
 have hS : ∀ W, Keep X W -> W.cell? ⟨w.heap.size, 3, none⟩ = some (.int .i64 wr) ∧ W.cell? ⟨w.heap.size, 5, none⟩ = some (.slice (some ⟨b, off, none⟩) 1 c) ∧ W.cell? ⟨b, off, none⟩ = some (.int .i64 z) := fun W h =>
  ⟨(hX0 W h).2.2.2.1, (hX0 W h).2.2.2.2.2, (h.cell (p := ⟨b, off, none⟩) hlb).trans hc0⟩
 go_enter Tryz.func80, Tryz.ntmps80
 go_wp2
 rw [<- hX]
 clear hX c0 c1 c2 c3 c4 c5
 go_region_held3 (fun w' => w'.cell? ⟨w.heap.size, 3, none⟩ = some (.int .i64 wr) ∧ w'.cell? ⟨w.heap.size, 5, none⟩ = some (.slice (some ⟨b, off, none⟩) 1 c) ∧ w'.cell? ⟨b, off, none⟩ = some (.int .i64 z))
  (first
   | exact hS _ hw
   | exact hS _ (keepd (Keep.refl X))
   | exact hS _ (keepd ((Keep.refl X).alloc _))
   | fail)
  ((first
    | (go_at_call 104; refine (numbers_any _ 2 _ [wr, 65280 * z] _ (by omega) (ints_newd X 3 [wr, 65280 * z] _ 2 rfl rfl)).mono ?_; rintro e w3 ⟨rfl, hb3⟩; have hw : Keep X w3 := Keep.trans (keepd ((Keep.refl X).alloc _)) hb3)
    | fail))
 go_wp2
 go_ret
 exact ⟨ret_str (by rw [HB.out]), hkX.trans hw⟩
theorem put_len_le (l : List Int) (h : l.length <= 4) : (Tw.put l).length <= 8 := by
 unfold Tw.put
 split
 ·rw [Tw.bytes_len]; omega
 ·simp
set_option maxHeartbeats 2000000 in
theorem body_6 (A : Option Addr) (c : Nat) (wr z : Int) (w : World) (hlen : (Tw.put [z]).length <= 255) (hA : Ints .i64 w w.heap.size A 1 [z]) (B : List UInt8) (hB : Tw.put [wr] ++ Tw.put [z] = B) :
  Calls Tryz.prog 80 #[.agg #[.int .i64 6, .int .i64 0, .int .i64 0, .int .i64 wr, .int .i64 1, .slice A 1 c]] w
   fun e w' => e = .returned (.string (st B)) ∧ Keep w w' := by
 obtain ⟨X, hX⟩ : ∃ X, X = w.alloc (.cells #[.int .i64 6, .int .i64 0, .int .i64 0, .int .i64 wr, .int .i64 1, .slice A 1 c] 40) := ⟨_, rfl⟩
 have hkX : Keep w X := by rw [hX]; exact (Keep.refl w).alloc _
 have hbX : Boxed w.heap.size ⟨6, 0, 0, wr, 1, [z]⟩ A 1 c X := by rw [hX]; exact Boxed.new w ⟨6, 0, 0, wr, 1, [z]⟩ A 1 c 40
 have hsX : w.heap.size + 1 = X.heap.size := by rw [hX]; simp
 have hAX := hA.kept hkX
 have hX0 : ∀ W, Keep X W -> Boxed w.heap.size ⟨6, 0, 0, wr, 1, [z]⟩ A 1 c W := fun W h => hbX.below h (by omega)
 obtain ⟨c0, c1, c2, c3, c4, c5⟩ := hbX
 simp only at c0 c1 c2 c3 c4 c5
 have HB := Lib.hid hB
 have HSX := Lib.hid hsX
 clear hB hA hsX
 obtain ⟨p1, hp1⟩ : ∃ p, p = Tw.put [wr] := ⟨_, rfl⟩
 obtain ⟨p2, hp2⟩ : ∃ p, p = Tw.put [z] := ⟨_, rfl⟩
 have hl1 : p1.length <= 8 := by rw [hp1]; exact put_len_le _ (by simp)
 have hl2 : p2.length <= 255 := by rw [hp2]; exact hlen
 have a1 := add_st (P := Tryz.prog) p1 p2 (by (try simp); omega)
 have HB2 : Hid (p1 ++ p2 = B) := Lib.hid (by rw [hp1, hp2]; exact HB.out)
 have HP1 := Lib.hid hp1
 have HP2 := Lib.hid hp2
 clear hp1 hp2 hlen HB
 have hS : ∀ W, Keep X W -> W.cell? ⟨w.heap.size, 3, none⟩ = some (.int .i64 wr) ∧ W.cell? ⟨w.heap.size, 5, none⟩ = some (.slice A 1 c) := fun W h => ⟨(hX0 W h).2.2.2.1, (hX0 W h).2.2.2.2.2⟩
 go_enter Tryz.func80, Tryz.ntmps80
 go_wp2
 rw [<- hX]
 clear hX c0 c1 c2 c3 c4 c5
 go_region_held3 (fun w' => w'.cell? ⟨w.heap.size, 3, none⟩ = some (.int .i64 wr) ∧ w'.cell? ⟨w.heap.size, 5, none⟩ = some (.slice A 1 c))
  (first
   | exact hS _ hw
   | exact hS _ (hw.alloc _)
   | exact hS _ (keepd (Keep.refl X))
   | exact hS _ (keepd ((Keep.refl X).alloc _))
   | fail)
  ((first
    | (go_at_call_of 104 A; refine (numbers_any A 1 c [z] _ (by omega) ?_).mono ?_; (first | exact hAX.kept hw | exact hAX.kept (keepd (Keep.refl X)) | exact hAX.kept (keepd ((Keep.refl X).alloc _)) | fail); rintro e w3 ⟨rfl, hb⟩; rw [<- HP2.out]; have hw : Keep X w3 := (by first | exact Keep.trans (keepd ((Keep.refl X).alloc _)) hb | exact Keep.trans (keepd (Keep.refl X)) hb | exact hw.trans hb | exact (hw.alloc _).trans hb); have hb3 := hb)
    | (go_at_call 104; refine (numbers_any _ 1 _ [wr] _ (by omega) ?_).mono ?_; (first | exact ints_newd X 3 [wr] _ 1 rfl rfl | exact ints_new _ 3 [wr] _ 1 rfl rfl | exact (ints_newd X 3 [wr] _ 1 rfl rfl).kept hb | exact ((ints_newd X 3 [wr] _ 1 rfl rfl).kept hb3).kept hb | exact (ints_new _ 3 [wr] _ 1 rfl rfl).kept hb | fail); rintro e w5 ⟨rfl, hb⟩; rw [<- HP1.out]; have hw : Keep X w5 := (by first | exact Keep.trans (keepd ((Keep.refl X).alloc _)) hb | exact Keep.trans (keepd (Keep.refl X)) hb | exact hw.trans hb | exact (hw.alloc _).trans hb))
    | fail))
 all_goals (
  go_wp2
  go_ret
  exact ⟨ret_str (by rw [HB2.out]), hkX.trans hw⟩)
set_option maxHeartbeats 2000000 in
theorem body_22 (A : Option Addr) (c : Nat) (wr y z : Int) (w : World) (hlen : (Tw.put [y, z]).length <= 255) (hA : Ints .i64 w w.heap.size A 2 [y, z]) (B : List UInt8) (hB : Tw.put [wr] ++ Tw.put [y, z] = B) :
  Calls Tryz.prog 80 #[.agg #[.int .i64 22, .int .i64 0, .int .i64 0, .int .i64 wr, .int .i64 1, .slice A 2 c]] w
   fun e w' => e = .returned (.string (st B)) ∧ Keep w w' := by
 obtain ⟨X, hX⟩ : ∃ X, X = w.alloc (.cells #[.int .i64 22, .int .i64 0, .int .i64 0, .int .i64 wr, .int .i64 1, .slice A 2 c] 40) := ⟨_, rfl⟩
 have hkX : Keep w X := by rw [hX]; exact (Keep.refl w).alloc _
 have hbX : Boxed w.heap.size ⟨22, 0, 0, wr, 1, [y, z]⟩ A 2 c X := by rw [hX]; exact Boxed.new w ⟨22, 0, 0, wr, 1, [y, z]⟩ A 2 c 40
 have hsX : w.heap.size + 1 = X.heap.size := by rw [hX]; simp
 have hAX := hA.kept hkX
 have hX0 : ∀ W, Keep X W -> Boxed w.heap.size ⟨22, 0, 0, wr, 1, [y, z]⟩ A 2 c W := fun W h => hbX.below h (by omega)
 obtain ⟨c0, c1, c2, c3, c4, c5⟩ := hbX
 simp only at c0 c1 c2 c3 c4 c5
 have HB := Lib.hid hB
 have HSX := Lib.hid hsX
 clear hB hA hsX
 obtain ⟨p1, hp1⟩ : ∃ p, p = Tw.put [wr] := ⟨_, rfl⟩
 obtain ⟨p2, hp2⟩ : ∃ p, p = Tw.put [y, z] := ⟨_, rfl⟩
 have hl1 : p1.length <= 8 := by rw [hp1]; exact put_len_le _ (by simp)
 have hl2 : p2.length <= 255 := by rw [hp2]; exact hlen
 have a1 := add_st (P := Tryz.prog) p1 p2 (by (try simp); omega)
 have HB2 : Hid (p1 ++ p2 = B) := Lib.hid (by rw [hp1, hp2]; exact HB.out)
 have HP1 := Lib.hid hp1
 have HP2 := Lib.hid hp2
 clear hp1 hp2 hlen HB
 have hS : ∀ W, Keep X W -> W.cell? ⟨w.heap.size, 3, none⟩ = some (.int .i64 wr) ∧ W.cell? ⟨w.heap.size, 5, none⟩ = some (.slice A 2 c) := fun W h => ⟨(hX0 W h).2.2.2.1, (hX0 W h).2.2.2.2.2⟩
 go_enter Tryz.func80, Tryz.ntmps80
 go_wp2
 rw [<- hX]
 clear hX c0 c1 c2 c3 c4 c5
 go_region_held3 (fun w' => w'.cell? ⟨w.heap.size, 3, none⟩ = some (.int .i64 wr) ∧ w'.cell? ⟨w.heap.size, 5, none⟩ = some (.slice A 2 c))
  (first
   | exact hS _ hw
   | exact hS _ (hw.alloc _)
   | exact hS _ (keepd (Keep.refl X))
   | exact hS _ (keepd ((Keep.refl X).alloc _))
   | fail)
  ((first
    | (go_at_call_of 104 A; refine (numbers_any A 2 c [y, z] _ (by omega) ?_).mono ?_; (first | exact hAX.kept hw | exact hAX.kept (keepd (Keep.refl X)) | exact hAX.kept (keepd ((Keep.refl X).alloc _)) | fail); rintro e w3 ⟨rfl, hb⟩; rw [<- HP2.out]; have hw : Keep X w3 := (by first | exact Keep.trans (keepd ((Keep.refl X).alloc _)) hb | exact Keep.trans (keepd (Keep.refl X)) hb | exact hw.trans hb | exact (hw.alloc _).trans hb); have hb3 := hb)
    | (go_at_call 104; refine (numbers_any _ 1 _ [wr] _ (by omega) ?_).mono ?_; (first | exact ints_newd X 3 [wr] _ 1 rfl rfl | exact ints_new _ 3 [wr] _ 1 rfl rfl | exact (ints_newd X 3 [wr] _ 1 rfl rfl).kept hb | exact ((ints_newd X 3 [wr] _ 1 rfl rfl).kept hb3).kept hb | exact (ints_new _ 3 [wr] _ 1 rfl rfl).kept hb | fail); rintro e w5 ⟨rfl, hb⟩; rw [<- HP1.out]; have hw : Keep X w5 := (by first | exact Keep.trans (keepd ((Keep.refl X).alloc _)) hb | exact Keep.trans (keepd (Keep.refl X)) hb | exact hw.trans hb | exact (hw.alloc _).trans hb))
    | fail))
 all_goals (
  go_wp2
  go_ret
  exact ⟨ret_str (by rw [HB2.out]), hkX.trans hw⟩)
set_option maxHeartbeats 2000000 in
theorem body_15 (A : Option Addr) (n c : Nat) (wr mn : Int) (vs : List Int) (w : World) (hn : n <= 1968) (hlen : (Co.put vs).length <= 255) (hA : Ints .i64 w w.heap.size A n vs) (B : List UInt8) (hB : Tw.put [wr, mn] ++ (UInt8.ofNat (Co.put vs).length :: Co.put vs) = B) :
  Calls Tryz.prog 80 #[.agg #[.int .i64 15, .int .i64 0, .int .i64 0, .int .i64 wr, .int .i64 mn, .slice A n c]] w
   fun e w' => e = .returned (.string (st B)) ∧ Keep w w' := by
 obtain ⟨X, hX⟩ : ∃ X, X = w.alloc (.cells #[.int .i64 15, .int .i64 0, .int .i64 0, .int .i64 wr, .int .i64 mn, .slice A n c] 40) := ⟨_, rfl⟩
 have hkX : Keep w X := by rw [hX]; exact (Keep.refl w).alloc _
 have hbX : Boxed w.heap.size ⟨15, 0, 0, wr, mn, vs⟩ A n c X := by rw [hX]; exact Boxed.new w ⟨15, 0, 0, wr, mn, vs⟩ A n c 40
 have hsX : w.heap.size + 1 = X.heap.size := by rw [hX]; simp
 have hAX := hA.kept hkX
 have hX0 : ∀ W, Keep X W -> Boxed w.heap.size ⟨15, 0, 0, wr, mn, vs⟩ A n c W := fun W h => hbX.below h (by omega)
 obtain ⟨c0, c1, c2, c3, c4, c5⟩ := hbX
 simp only at c0 c1 c2 c3 c4 c5
 have HB := Lib.hid hB
 have HSX := Lib.hid hsX
 clear hB hA hsX
 obtain ⟨p1, hp1⟩ : ∃ p, p = Tw.put [wr, mn] := ⟨_, rfl⟩
 obtain ⟨p2, hp2⟩ : ∃ p, p = Co.put vs := ⟨_, rfl⟩
 have hl1 : p1.length <= 8 := by rw [hp1]; exact put_len_le _ (by simp)
 have hl2 : p2.length <= 255 := by rw [hp2]; exact hlen
 have a1 := add_st (P := Tryz.prog) p1 (UInt8.ofNat p2.length :: p2) (by (try simp); omega)
 have HB2 : Hid (p1 ++ (UInt8.ofNat p2.length :: p2) = B) := Lib.hid (by rw [hp1, hp2]; exact HB.out)
 have HP1 := Lib.hid hp1
 have HP2 := Lib.hid hp2
 clear hp1 hp2 hlen HB
 have hS : ∀ W, Keep X W -> W.cell? ⟨w.heap.size, 3, none⟩ = some (.int .i64 wr) ∧ W.cell? ⟨w.heap.size, 4, none⟩ = some (.int .i64 mn) := fun W h => ⟨(hX0 W h).2.2.2.1, (hX0 W h).2.2.2.2.1⟩
 go_enter Tryz.func80, Tryz.ntmps80
 clear c0 c1 c2 c3 c4 c5
 go_wp2_with fail
 rw [<- hX]
 refine (Coil.put_any A n c vs _ (by omega) hAX).mono ?_
 rintro e Y ⟨rfl, hbY⟩
 rw [<- HP2.out]
 have hkY : Keep X Y := hbY
 obtain ⟨c0, c1, c2, c3, c4, c5⟩ := hX0 _ hkY
 simp only at c0 c1 c2 c3 c4 c5
 go_wp2_with fail
 refine (numbers_any _ 2 _ [wr, mn] _ (by omega) (ints_new Y 3 [wr, mn] _ 2 rfl rfl)).mono ?_
 rintro e w3 ⟨rfl, hb3⟩
 rw [<- HP1.out]
 go_wp2_with fail
 refine (sized_any p2 _ hl2).mono ?_
 rintro e w4 ⟨rfl, hb4⟩
 go_wp2
 go_ret
 exact ⟨ret_str (by rw [HB2.out]), ((hkX.trans hkY).trans (((Keep.refl Y).alloc _).trans hb3)).trans hb4⟩
set_option maxHeartbeats 2000000 in
theorem body_16 (A : Option Addr) (n c : Nat) (wr mn : Int) (vs : List Int) (w : World) (hn : n <= 123) (hlen : (Tw.put vs).length <= 255) (hA : Ints .i64 w w.heap.size A n vs) (B : List UInt8) (hB : Tw.put [wr, mn] ++ (UInt8.ofNat (Tw.put vs).length :: Tw.put vs) = B) :
  Calls Tryz.prog 80 #[.agg #[.int .i64 16, .int .i64 0, .int .i64 0, .int .i64 wr, .int .i64 mn, .slice A n c]] w
   fun e w' => e = .returned (.string (st B)) ∧ Keep w w' := by
 obtain ⟨X, hX⟩ : ∃ X, X = w.alloc (.cells #[.int .i64 16, .int .i64 0, .int .i64 0, .int .i64 wr, .int .i64 mn, .slice A n c] 40) := ⟨_, rfl⟩
 have hkX : Keep w X := by rw [hX]; exact (Keep.refl w).alloc _
 have hbX : Boxed w.heap.size ⟨16, 0, 0, wr, mn, vs⟩ A n c X := by rw [hX]; exact Boxed.new w ⟨16, 0, 0, wr, mn, vs⟩ A n c 40
 have hsX : w.heap.size + 1 = X.heap.size := by rw [hX]; simp
 have hAX := hA.kept hkX
 have hX0 : ∀ W, Keep X W -> Boxed w.heap.size ⟨16, 0, 0, wr, mn, vs⟩ A n c W := fun W h => hbX.below h (by omega)
 obtain ⟨c0, c1, c2, c3, c4, c5⟩ := hbX
 simp only at c0 c1 c2 c3 c4 c5
 have HB := Lib.hid hB
 have HSX := Lib.hid hsX
 clear hB hA hsX
 obtain ⟨p1, hp1⟩ : ∃ p, p = Tw.put [wr, mn] := ⟨_, rfl⟩
 obtain ⟨p2, hp2⟩ : ∃ p, p = Tw.put vs := ⟨_, rfl⟩
 have hl1 : p1.length <= 8 := by rw [hp1]; exact put_len_le _ (by simp)
 have hl2 : p2.length <= 255 := by rw [hp2]; exact hlen
 have a1 := add_st (P := Tryz.prog) p1 (UInt8.ofNat p2.length :: p2) (by (try simp); omega)
 have HB2 : Hid (p1 ++ (UInt8.ofNat p2.length :: p2) = B) := Lib.hid (by rw [hp1, hp2]; exact HB.out)
 have HP1 := Lib.hid hp1
 have HP2 := Lib.hid hp2
 clear hp1 hp2 hlen HB
 have hS : ∀ W, Keep X W -> W.cell? ⟨w.heap.size, 3, none⟩ = some (.int .i64 wr) ∧ W.cell? ⟨w.heap.size, 4, none⟩ = some (.int .i64 mn) ∧ W.cell? ⟨w.heap.size, 5, none⟩ = some (.slice A n c) := fun W h => ⟨(hX0 W h).2.2.2.1, (hX0 W h).2.2.2.2.1, (hX0 W h).2.2.2.2.2⟩
 go_enter Tryz.func80, Tryz.ntmps80
 go_wp2
 rw [<- hX]
 clear hX c0 c1 c2 c3 c4 c5
 go_region_held3 (fun w' => w'.cell? ⟨w.heap.size, 3, none⟩ = some (.int .i64 wr) ∧ w'.cell? ⟨w.heap.size, 4, none⟩ = some (.int .i64 mn) ∧ w'.cell? ⟨w.heap.size, 5, none⟩ = some (.slice A n c))
  (first
   | exact hS _ hw
   | exact hS _ (hw.alloc _)
   | exact hS _ (keepd (Keep.refl X))
   | exact hS _ (keepd ((Keep.refl X).alloc _))
   | fail)
  ((first
    | (go_at_call_of 104 A; refine (numbers_any A n c vs _ (by omega) ?_).mono ?_; (first | exact hAX.kept hw | exact hAX.kept (keepd (Keep.refl X)) | exact hAX.kept (keepd ((Keep.refl X).alloc _)) | fail); rintro e w3 ⟨rfl, hb⟩; rw [<- HP2.out]; have hw : Keep X w3 := (by first | exact Keep.trans (keepd ((Keep.refl X).alloc _)) hb | exact Keep.trans (keepd (Keep.refl X)) hb | exact hw.trans hb | exact (hw.alloc _).trans hb); have hb3 := hb)
    | (go_at_call 106; refine (sized_any p2 _ hl2).mono ?_; rintro e w4 ⟨rfl, hb⟩; have hw : Keep X w4 := (by first | exact Keep.trans (keepd ((Keep.refl X).alloc _)) hb | exact Keep.trans (keepd (Keep.refl X)) hb | exact hw.trans hb | exact (hw.alloc _).trans hb); have hb4 := hb)
    | (go_at_call 104; refine (numbers_any _ 2 _ [wr, mn] _ (by omega) ?_).mono ?_; (first | exact ints_newd X 3 [wr, mn] _ 2 rfl rfl | exact ints_new _ 3 [wr, mn] _ 2 rfl rfl | exact (ints_newd X 3 [wr, mn] _ 2 rfl rfl).kept hb | exact ((ints_newd X 3 [wr, mn] _ 2 rfl rfl).kept hb3).kept hb | exact (ints_new _ 3 [wr, mn] _ 2 rfl rfl).kept hb | fail); rintro e w5 ⟨rfl, hb⟩; rw [<- HP1.out]; have hw : Keep X w5 := (by first | exact Keep.trans (keepd ((Keep.refl X).alloc _)) hb | exact Keep.trans (keepd (Keep.refl X)) hb | exact hw.trans hb | exact (hw.alloc _).trans hb))
    | fail))
 all_goals (
  go_wp2
  go_ret
  exact ⟨ret_str (by rw [HB2.out]), hkX.trans hw⟩)
set_option maxHeartbeats 2000000 in
theorem body_23 (A : Option Addr) (n c : Nat) (rd ct wr mn : Int) (vs : List Int) (w : World) (hn : n <= 121) (hlen : (Tw.put vs).length <= 255) (hA : Ints .i64 w w.heap.size A n vs) (B : List UInt8) (hB : Tw.put [rd, ct, wr, mn] ++ (UInt8.ofNat (Tw.put vs).length :: Tw.put vs) = B) :
  Calls Tryz.prog 80 #[.agg #[.int .i64 23, .int .i64 rd, .int .i64 ct, .int .i64 wr, .int .i64 mn, .slice A n c]] w
   fun e w' => e = .returned (.string (st B)) ∧ Keep w w' := by
 obtain ⟨X, hX⟩ : ∃ X, X = w.alloc (.cells #[.int .i64 23, .int .i64 rd, .int .i64 ct, .int .i64 wr, .int .i64 mn, .slice A n c] 40) := ⟨_, rfl⟩
 have hkX : Keep w X := by rw [hX]; exact (Keep.refl w).alloc _
 have hbX : Boxed w.heap.size ⟨23, rd, ct, wr, mn, vs⟩ A n c X := by rw [hX]; exact Boxed.new w ⟨23, rd, ct, wr, mn, vs⟩ A n c 40
 have hsX : w.heap.size + 1 = X.heap.size := by rw [hX]; simp
 have hAX := hA.kept hkX
 have hX0 : ∀ W, Keep X W -> Boxed w.heap.size ⟨23, rd, ct, wr, mn, vs⟩ A n c W := fun W h => hbX.below h (by omega)
 obtain ⟨c0, c1, c2, c3, c4, c5⟩ := hbX
 simp only at c0 c1 c2 c3 c4 c5
 have HB := Lib.hid hB
 have HSX := Lib.hid hsX
 clear hB hA hsX
 obtain ⟨p1, hp1⟩ : ∃ p, p = Tw.put [rd, ct, wr, mn] := ⟨_, rfl⟩
 obtain ⟨p2, hp2⟩ : ∃ p, p = Tw.put vs := ⟨_, rfl⟩
 have hl1 : p1.length <= 8 := by rw [hp1]; exact put_len_le _ (by simp)
 have hl2 : p2.length <= 255 := by rw [hp2]; exact hlen
 have a1 := add_st (P := Tryz.prog) p1 (UInt8.ofNat p2.length :: p2) (by (try simp); omega)
 have HB2 : Hid (p1 ++ (UInt8.ofNat p2.length :: p2) = B) := Lib.hid (by rw [hp1, hp2]; exact HB.out)
 have HP1 := Lib.hid hp1
 have HP2 := Lib.hid hp2
 clear hp1 hp2 hlen HB
 have hS : ∀ W, Keep X W -> W.cell? ⟨w.heap.size, 1, none⟩ = some (.int .i64 rd) ∧ W.cell? ⟨w.heap.size, 2, none⟩ = some (.int .i64 ct) ∧ W.cell? ⟨w.heap.size, 3, none⟩ = some (.int .i64 wr) ∧ W.cell? ⟨w.heap.size, 4, none⟩ = some (.int .i64 mn) ∧ W.cell? ⟨w.heap.size, 5, none⟩ = some (.slice A n c) := fun W h => ⟨(hX0 W h).2.1, (hX0 W h).2.2.1, (hX0 W h).2.2.2.1, (hX0 W h).2.2.2.2.1, (hX0 W h).2.2.2.2.2⟩
 go_enter Tryz.func80, Tryz.ntmps80
 go_wp2
 rw [<- hX]
 clear hX c0 c1 c2 c3 c4 c5
 go_region_held3 (fun w' => w'.cell? ⟨w.heap.size, 1, none⟩ = some (.int .i64 rd) ∧ w'.cell? ⟨w.heap.size, 2, none⟩ = some (.int .i64 ct) ∧ w'.cell? ⟨w.heap.size, 3, none⟩ = some (.int .i64 wr) ∧ w'.cell? ⟨w.heap.size, 4, none⟩ = some (.int .i64 mn) ∧ w'.cell? ⟨w.heap.size, 5, none⟩ = some (.slice A n c))
  (first
   | exact hS _ hw
   | exact hS _ (hw.alloc _)
   | exact hS _ (keepd (Keep.refl X))
   | exact hS _ (keepd ((Keep.refl X).alloc _))
   | fail)
  ((first
    | (go_at_call_of 104 A; refine (numbers_any A n c vs _ (by omega) ?_).mono ?_; (first | exact hAX.kept hw | exact hAX.kept (keepd (Keep.refl X)) | exact hAX.kept (keepd ((Keep.refl X).alloc _)) | fail); rintro e w3 ⟨rfl, hb⟩; rw [<- HP2.out]; have hw : Keep X w3 := (by first | exact Keep.trans (keepd ((Keep.refl X).alloc _)) hb | exact Keep.trans (keepd (Keep.refl X)) hb | exact hw.trans hb | exact (hw.alloc _).trans hb); have hb3 := hb)
    | (go_at_call 106; refine (sized_any p2 _ hl2).mono ?_; rintro e w4 ⟨rfl, hb⟩; have hw : Keep X w4 := (by first | exact Keep.trans (keepd ((Keep.refl X).alloc _)) hb | exact Keep.trans (keepd (Keep.refl X)) hb | exact hw.trans hb | exact (hw.alloc _).trans hb); have hb4 := hb)
    | (go_at_call 104; refine (numbers_any _ 4 _ [rd, ct, wr, mn] _ (by omega) ?_).mono ?_; (first | exact ints_newd X 3 [rd, ct, wr, mn] _ 4 rfl rfl | exact ints_new _ 3 [rd, ct, wr, mn] _ 4 rfl rfl | exact (ints_newd X 3 [rd, ct, wr, mn] _ 4 rfl rfl).kept hb | exact ((ints_newd X 3 [rd, ct, wr, mn] _ 4 rfl rfl).kept hb3).kept hb | exact (ints_new _ 3 [rd, ct, wr, mn] _ 4 rfl rfl).kept hb | fail); rintro e w5 ⟨rfl, hb⟩; rw [<- HP1.out]; have hw : Keep X w5 := (by first | exact Keep.trans (keepd ((Keep.refl X).alloc _)) hb | exact Keep.trans (keepd (Keep.refl X)) hb | exact hw.trans hb | exact (hw.alloc _).trans hb))
    | fail))
 all_goals (
  go_wp2
  go_ret
  exact ⟨ret_str (by rw [HB2.out]), hkX.trans hw⟩)
end Go.Proofs.YtaciogcpghbhjaaGreat.Ask
/- The developers' requests: all their bytes, Put. Conditions: none. -/
namespace Go.Proofs.YtaciogcpghbhjaaGreat.Ask
set_option maxRecDepth 100000
set_option linter.unusedVariables false
open Go.ChangeShapes Go.WideShapes Go.ChangeAt Go.RowKit
open Ref6 (ret_bool ret_int Boxed)
def rest (a : AskP) : List UInt8 := (Ak.bytes a).drop 1
theorem bytes_rest {a : AskP} (h : Ak.formed a = true) : Ak.bytes a = UInt8.ofNat a.fc.toNat :: rest a := by
 rcases Ak.cases_formed h with ⟨fc, rd, ct, rfl, hf, _⟩ | ⟨wr, z, rfl, _⟩ | ⟨wr, z, rfl, _⟩ | ⟨wr, y, z, rfl, _⟩ | ⟨wr, vs, rfl, _⟩ | ⟨wr, vs, rfl, _⟩ | ⟨rd, ct, wr, vs, rfl, _⟩
 ·simp only [rest, Ak.shapeR hf]; rfl
 ·simp only [rest, Ak.shape5]; rfl
 ·simp only [rest, Ak.shape6]; rfl
 ·simp only [rest, Ak.shape22]; rfl
 ·simp only [rest, Ak.shape15]; rfl
 ·simp only [rest, Ak.shape16]; rfl
 ·simp only [rest, Ak.shape23]; rfl
theorem put_one' {z : Int} (h : 0 <= z ∧ z <= 65535) : Tw.put [z] = Tw.two z ++ [] := by
 simp [Tw.put, Tw.allIn, Tw.inR_of h.1 h.2, Tw.bytes]
theorem body_any (A : Option Addr) (n c : Nat) (a : AskP) (w : World) (hf : Ak.formed a = true) (hA : Ints .i64 w w.heap.size A n a.vs) :
  Calls Tryz.prog 80 #[.agg #[.int .i64 a.fc, .int .i64 a.rd, .int .i64 a.ct, .int .i64 a.wr, .int .i64 a.mn, .slice A n c]] w fun e w' => e = .returned (.string (st (rest a))) ∧ Keep w w' := by
 rcases Ak.cases_formed hf with ⟨fc, rd, ct, rfl, hf2, h0, h1, h2, h3⟩ | ⟨wr, z, rfl, h0, h1, hz⟩ | ⟨wr, z, rfl, h0, h1, h2, h3⟩ | ⟨wr, y, z, rfl, h0, h1, hy, h2, h3⟩ |
   ⟨wr, vs, rfl, h0, h1, h2, h3, hb⟩ | ⟨wr, vs, rfl, h0, h1, h2, h3, hb⟩ | ⟨rd, ct, wr, vs, rfl, hrd, hct, h0, h1, h2, h3, hb⟩
 ·obtain rfl : n = 0 := by have := hA.1; simp at this; omega
  have hB : Tw.put [rd, ct] = rest ⟨fc, rd, ct, 0, 0, []⟩ := by rw [rest, Ak.shapeR hf2, put_two ⟨h0, h1⟩ ⟨by omega, by omega⟩]; rfl
  rcases hf2 with rfl | rfl | rfl | rfl
  ·exact body_1 A c rd ct w hA _ hB
  ·exact body_2 A c rd ct w hA _ hB
  ·exact body_3 A c rd ct w hA _ hB
  ·exact body_4 A c rd ct w hA _ hB
 ·obtain rfl : n = 1 := by have := hA.1; simp at this; omega
  exact body_5 A c wr z w hz hA _ (by rw [rest, Ak.shape5, put_two ⟨h0, h1⟩ (by rcases hz with rfl | rfl <;> omega)]; rfl)
 ·obtain rfl : n = 1 := by have := hA.1; simp at this; omega
  have e := put_one' ⟨h2, h3⟩
  exact body_6 A c wr z w (by rw [e]; simp [Tw.two]) hA _ (by rw [rest, Ak.shape6, put_one' ⟨h0, h1⟩, e]; simp)
 ·obtain rfl : n = 2 := by have := hA.1; simp at this; omega
  have e := put_two hy ⟨h2, h3⟩
  exact body_22 A c wr y z w (by rw [e]; simp [Tw.two]) hA _ (by rw [rest, Ak.shape22, put_one' ⟨h0, h1⟩, e]; simp)
 ·obtain rfl : n = vs.length := by have := hA.1; simp at this; omega
  have e := Co.put_ok vs hb
  have hl := Co.bytes_len vs
  exact body_15 A vs.length c wr (vs.length : Int) vs w h3 (by rw [e, hl]; unfold Co.nsize; omega) hA _ (by rw [rest, Ak.shape15, put_two ⟨h0, h1⟩ ⟨by omega, by omega⟩, e]; simp)
 ·obtain rfl : n = vs.length := by have := hA.1; simp at this; omega
  have e := put_all hb
  have hl := Tw.bytes_len vs
  exact body_16 A vs.length c wr (vs.length : Int) vs w h3 (by rw [e, hl]; omega) hA _ (by rw [rest, Ak.shape16, put_two ⟨h0, h1⟩ ⟨by omega, by omega⟩, e]; simp)
 ·obtain rfl : n = vs.length := by have := hA.1; simp at this; omega
  have e := put_all hb
  have hl := Tw.bytes_len vs
  exact body_23 A vs.length c rd ct wr (vs.length : Int) vs w h3 (by rw [e, hl]; omega) hA _ (by rw [rest, Ak.shape23, put_four hrd ⟨by omega, by omega⟩ ⟨h0, h1⟩ ⟨by omega, by omega⟩, e]; simp)
theorem formed_fc {a : AskP} (h : Ak.formed a = true) : 0 <= a.fc ∧ a.fc <= 255 := by
 rw [Ak.formed_iff] at h
 have := (Ak.known_iff a.fc).1 h.1
 omega
set_option maxHeartbeats 1000000 in
theorem bytesOf_any (A : Option Addr) (n c : Nat) (a : AskP) (w : World) (hf : Ak.formed a = true) (hA : Ints .i64 w w.heap.size A n a.vs) :
  Calls Tryz.prog 54 #[.agg #[.int .i64 a.fc, .int .i64 a.rd, .int .i64 a.ct, .int .i64 a.wr, .int .i64 a.mn, .slice A n c]] w fun e w' => e = .returned (.string (st (Ak.bytes a))) ∧ Keep w w' := by
 obtain ⟨X, hX⟩ : ∃ X, X = w.alloc (.cells #[.int .i64 a.fc, .int .i64 a.rd, .int .i64 a.ct, .int .i64 a.wr, .int .i64 a.mn, .slice A n c] 40) := ⟨_, rfl⟩
 have hkX : Keep w X := by rw [hX]; exact (Keep.refl w).alloc _
 have hbX : Boxed w.heap.size a A n c X := by rw [hX]; exact Boxed.new w a A n c 40
 have hsX : w.heap.size + 1 = X.heap.size := by rw [hX]; simp
 have hAX := hA.kept hkX
 have hS : ∀ W, Keep X W -> W.cell? ⟨w.heap.size, 0, none⟩ = some (.int .i64 a.fc) ∧ W.cell? ⟨w.heap.size, 1, none⟩ = some (.int .i64 a.rd) ∧ W.cell? ⟨w.heap.size, 2, none⟩ = some (.int .i64 a.ct) ∧ W.cell? ⟨w.heap.size, 3, none⟩ = some (.int .i64 a.wr) ∧ W.cell? ⟨w.heap.size, 4, none⟩ = some (.int .i64 a.mn) ∧ W.cell? ⟨w.heap.size, 5, none⟩ = some (.slice A n c) := fun W h => hbX.below h (by omega)
 have hfc := formed_fc hf
 obtain ⟨b0, hb0⟩ : ∃ b, b = UInt8.ofNat a.fc.toNat := ⟨_, rfl⟩
 obtain ⟨r, hr⟩ : ∃ r, r = rest a := ⟨_, rfl⟩
 have hlen := Ak.len_le hf
 rw [bytes_rest hf, <- hb0, <- hr] at hlen
 have HB := Lib.hid (show b0 :: r = Ak.bytes a by rw [bytes_rest hf, hb0, hr])
 have a1 := add_st (P := Tryz.prog) [b0] r (by simp at hlen ⊢; omega)
 have HB0 := Lib.hid hb0
 have HR := Lib.hid hr
 have HFC := Lib.hid hfc
 clear hb0 hr hsX hbX hA hfc hlen
 go_enter Tryz.func54, Tryz.ntmps54
 go_wp2
 rw [<- hX]
 clear hX
 go_region_held3 (fun W => W.cell? ⟨w.heap.size, 0, none⟩ = some (.int .i64 a.fc) ∧ W.cell? ⟨w.heap.size, 1, none⟩ = some (.int .i64 a.rd) ∧ W.cell? ⟨w.heap.size, 2, none⟩ = some (.int .i64 a.ct) ∧ W.cell? ⟨w.heap.size, 3, none⟩ = some (.int .i64 a.wr) ∧ W.cell? ⟨w.heap.size, 4, none⟩ = some (.int .i64 a.mn) ∧ W.cell? ⟨w.heap.size, 5, none⟩ = some (.slice A n c))
  (first
   | exact hS _ hw
   | exact hS _ (keepd (Keep.refl X))
   | fail)
  ((first
    | (go_at_call 79; refine (oneByte_any a.fc _ HFC.out.1 HFC.out.2).mono ?_; rintro e w3 ⟨rfl, hb⟩; rw [<- HB0.out]; have hw : Keep X w3 := (by first | exact hw.trans hb | exact Keep.trans (keepd (Keep.refl X)) hb))
    | (go_at_call 80; refine (body_any A n c a _ hf ?_).mono ?_; (first | exact hAX.kept hw | exact hAX.kept (keepd (Keep.refl X)) | fail); rintro e w4 ⟨rfl, hb⟩; rw [<- HR.out]; have hw : Keep X w4 := (by first | exact hw.trans hb | exact Keep.trans (keepd (Keep.refl X)) hb))
    | fail))
 all_goals (
  go_wp2
  go_ret
  exact ⟨ret_str (by rw [<- HB.out]), hkX.trans hw⟩)
end Go.Proofs.YtaciogcpghbhjaaGreat.Ask
/- The developers' requests: what is taken out of bytes. Conditions: at most a million bytes. -/
namespace Go.Proofs.YtaciogcpghbhjaaGreat.Ask
set_option linter.unusedVariables false
open Go.ChangeShapes Go.WideShapes Go.ChangeAt Go.RowKit
open Ref6 (ret_bool ret_int Boxed below_drewN ints_box far_set)
theorem results_cell {fn : Func} {p : Tmp} {ty : TypeId} (h : fn.results = #[.cell p ty]) (tmps : Array Value) (P : Program) (w : World) :
  (results fn tmps).run P w = ((asAddr (tmps.getD p undef)).run P w).andThen fun a w₁ => ((loadVar ty a).run P w₁).andThen fun v w₂ => .ok v w₂ := by
 simp only [results, h]
 simp [Sem.run_bind, Result.andThen]
 cases (asAddr (tmps[p]?.getD undef)).run P w with
 | ok a w1 => simp only; cases (loadVar ty a).run P w1 <;> rfl
 | halt h w1 => rfl
def RetOne (a : AskP) (w : World) (e : Ending) (w' : World) : Prop :=
 ∃ A n c, e = .returned (.agg #[.int .i64 a.fc, .int .i64 a.rd, .int .i64 a.ct, .int .i64 a.wr, .int .i64 a.mn, .slice A n c]) ∧ Ints .i64 w' w'.heap.size A n a.vs ∧ Below w.heap.size w w' ∧ FreshC w A n c
set_option maxHeartbeats 400000 in
theorem number_any (s : ByteArray) (i : Int) (w : World) (hs : s.size <= maxLen) :
  Calls Tryz.prog 73 #[.string s, .int .i64 i] w fun e w' => e = .returned (.int .i64 (Tw.get s i)) ∧ Quiet w w' := by
 go_enter Tryz.func73, Tryz.ntmps73
 go_wp2_with fail
 refine (Twin.get_any s i _ hs).mono ?_
 rintro e w1 ⟨rfl, hq⟩
 go_wp2
 go_ret
 exact ⟨rfl, hq⟩
set_option maxHeartbeats 400000 in
theorem tail_any (s : ByteArray) (i : Nat) (w : World) (hs : s.size <= 1000000) (hi : i <= 100) :
  Calls Tryz.prog 75 #[.string s, .int .i64 (i : Int)] w fun e w' => e = .returned (.string (Ak.sub s i)) ∧ w = w' := by
 by_cases h : i <= s.size
 ·have hm : min (i : Int) (s.size : Int) = (i : Int) := by omega
  go_enter Tryz.func75, Tryz.ntmps75
  go_wp2
  go_ret
  exact ⟨ret_str (Ak.extract_end s i), rfl⟩
 ·have hm : min (i : Int) (s.size : Int) = (s.size : Int) := by omega
  have e : ByteArray.empty = Ak.sub s i := by
   rw [Ak.sub, List.drop_eq_nil_of_le (by rw [bl_length]; omega)]; rfl
  have E := Lib.hid e
  clear e
  go_enter Tryz.func75, Tryz.ntmps75
  go_wp2
  go_ret
  exact ⟨ret_str E.out, rfl⟩
set_option maxHeartbeats 2000000 in
theorem taken_1 (s : ByteArray) (w : World) (hs : s.size <= 1000000) (hp : 0 < s.size) (h0 : byteAt s 0 = 1) :
  Calls Tryz.prog 52 #[.string s] w (RetOne (Ak.taken s) w) := by
 have hx := idx (P := Tryz.prog) (k := .i64) s 0 Tryz.underlying9 (by omega) (by omega)
 rw [h0] at hx
 have er : Ak.taken s = ⟨1, Tw.get s 1, Tw.get s 3, 0, 0, []⟩ := by simp [Ak.taken, h0]
 rw [er]
 have H0 := Lib.hid h0
 clear h0 er
 go_enter Tryz.func52, Tryz.ntmps52
 go_wp2_with fail
 refine (number_any s 1 _ (by unfold maxLen; omega)).mono ?_
 rintro e w1 ⟨rfl, k1, rfl⟩
 go_wp2_with fail
 refine (number_any s 3 _ (by unfold maxLen; omega)).mono ?_
 rintro e w2 ⟨rfl, k2, rfl⟩
 go_wp2
 (try simp only [Exit.inBlock, Exit.then])
 refine bodyPost_ret (v := .agg #[.int .i64 1, .int .i64 (Tw.get s 1), .int .i64 (Tw.get s 3), .int .i64 0, .int .i64 0, .slice none 0 0]) ?_ rfl ⟨none, 0, 0, rfl, ?_, ?_, FreshC.zero _ _ _⟩
 ·rw [results_cell rfl]
  go_simp
 ·exact Ints.none_ _ _ _ _
 ·(repeat' (first | with_reducible exact hbW | with_reducible refine Below.setCell ?_ ?_ _ | with_reducible refine below_drewN ?_ _ | with_reducible refine Below.alloc ?_ ?_ _ | with_reducible exact Below.refl _ _ | (simp; done) | (simp; omega)))
set_option maxHeartbeats 2000000 in
theorem taken_2 (s : ByteArray) (w : World) (hs : s.size <= 1000000) (hp : 0 < s.size) (h0 : byteAt s 0 = 2) :
  Calls Tryz.prog 52 #[.string s] w (RetOne (Ak.taken s) w) := by
 have hx := idx (P := Tryz.prog) (k := .i64) s 0 Tryz.underlying9 (by omega) (by omega)
 rw [h0] at hx
 have er : Ak.taken s = ⟨2, Tw.get s 1, Tw.get s 3, 0, 0, []⟩ := by simp [Ak.taken, h0]
 rw [er]
 have H0 := Lib.hid h0
 clear h0 er
 go_enter Tryz.func52, Tryz.ntmps52
 go_wp2_with fail
 refine (number_any s 1 _ (by unfold maxLen; omega)).mono ?_
 rintro e w1 ⟨rfl, k1, rfl⟩
 go_wp2_with fail
 refine (number_any s 3 _ (by unfold maxLen; omega)).mono ?_
 rintro e w2 ⟨rfl, k2, rfl⟩
 go_wp2
 (try simp only [Exit.inBlock, Exit.then])
 refine bodyPost_ret (v := .agg #[.int .i64 2, .int .i64 (Tw.get s 1), .int .i64 (Tw.get s 3), .int .i64 0, .int .i64 0, .slice none 0 0]) ?_ rfl ⟨none, 0, 0, rfl, ?_, ?_, FreshC.zero _ _ _⟩
 ·rw [results_cell rfl]
  go_simp
 ·exact Ints.none_ _ _ _ _
 ·(repeat' (first | with_reducible exact hbW | with_reducible refine Below.setCell ?_ ?_ _ | with_reducible refine below_drewN ?_ _ | with_reducible refine Below.alloc ?_ ?_ _ | with_reducible exact Below.refl _ _ | (simp; done) | (simp; omega)))
set_option maxHeartbeats 2000000 in
theorem taken_3 (s : ByteArray) (w : World) (hs : s.size <= 1000000) (hp : 0 < s.size) (h0 : byteAt s 0 = 3) :
  Calls Tryz.prog 52 #[.string s] w (RetOne (Ak.taken s) w) := by
 have hx := idx (P := Tryz.prog) (k := .i64) s 0 Tryz.underlying9 (by omega) (by omega)
 rw [h0] at hx
 have er : Ak.taken s = ⟨3, Tw.get s 1, Tw.get s 3, 0, 0, []⟩ := by simp [Ak.taken, h0]
 rw [er]
 have H0 := Lib.hid h0
 clear h0 er
 go_enter Tryz.func52, Tryz.ntmps52
 go_wp2_with fail
 refine (number_any s 1 _ (by unfold maxLen; omega)).mono ?_
 rintro e w1 ⟨rfl, k1, rfl⟩
 go_wp2_with fail
 refine (number_any s 3 _ (by unfold maxLen; omega)).mono ?_
 rintro e w2 ⟨rfl, k2, rfl⟩
 go_wp2
 (try simp only [Exit.inBlock, Exit.then])
 refine bodyPost_ret (v := .agg #[.int .i64 3, .int .i64 (Tw.get s 1), .int .i64 (Tw.get s 3), .int .i64 0, .int .i64 0, .slice none 0 0]) ?_ rfl ⟨none, 0, 0, rfl, ?_, ?_, FreshC.zero _ _ _⟩
 ·rw [results_cell rfl]
  go_simp
 ·exact Ints.none_ _ _ _ _
 ·(repeat' (first | with_reducible exact hbW | with_reducible refine Below.setCell ?_ ?_ _ | with_reducible refine below_drewN ?_ _ | with_reducible refine Below.alloc ?_ ?_ _ | with_reducible exact Below.refl _ _ | (simp; done) | (simp; omega)))
set_option maxHeartbeats 2000000 in
theorem taken_4 (s : ByteArray) (w : World) (hs : s.size <= 1000000) (hp : 0 < s.size) (h0 : byteAt s 0 = 4) :
  Calls Tryz.prog 52 #[.string s] w (RetOne (Ak.taken s) w) := by
 have hx := idx (P := Tryz.prog) (k := .i64) s 0 Tryz.underlying9 (by omega) (by omega)
 rw [h0] at hx
 have er : Ak.taken s = ⟨4, Tw.get s 1, Tw.get s 3, 0, 0, []⟩ := by simp [Ak.taken, h0]
 rw [er]
 have H0 := Lib.hid h0
 clear h0 er
 go_enter Tryz.func52, Tryz.ntmps52
 go_wp2_with fail
 refine (number_any s 1 _ (by unfold maxLen; omega)).mono ?_
 rintro e w1 ⟨rfl, k1, rfl⟩
 go_wp2_with fail
 refine (number_any s 3 _ (by unfold maxLen; omega)).mono ?_
 rintro e w2 ⟨rfl, k2, rfl⟩
 go_wp2
 (try simp only [Exit.inBlock, Exit.then])
 refine bodyPost_ret (v := .agg #[.int .i64 4, .int .i64 (Tw.get s 1), .int .i64 (Tw.get s 3), .int .i64 0, .int .i64 0, .slice none 0 0]) ?_ rfl ⟨none, 0, 0, rfl, ?_, ?_, FreshC.zero _ _ _⟩
 ·rw [results_cell rfl]
  go_simp
 ·exact Ints.none_ _ _ _ _
 ·(repeat' (first | with_reducible exact hbW | with_reducible refine Below.setCell ?_ ?_ _ | with_reducible refine below_drewN ?_ _ | with_reducible refine Below.alloc ?_ ?_ _ | with_reducible exact Below.refl _ _ | (simp; done) | (simp; omega)))
set_option maxHeartbeats 2000000 in
theorem taken_5 (s : ByteArray) (w : World) (hs : s.size <= 1000000) (hp : 0 < s.size) (h0 : byteAt s 0 = 5) :
  Calls Tryz.prog 52 #[.string s] w (RetOne (Ak.taken s) w) := by
 have hx := idx (P := Tryz.prog) (k := .i64) s 0 Tryz.underlying9 (by omega) (by omega)
 rw [h0] at hx
 have er : Ak.taken s = ⟨5, 0, 0, Tw.get s 1, 1, [Tw.get s 3 / 65280]⟩ := by simp [Ak.taken, h0]
 rw [er]
 have H0 := Lib.hid h0
 clear h0 er
 go_enter Tryz.func52, Tryz.ntmps52
 go_wp2_with fail
 refine (number_any s 1 _ (by unfold maxLen; omega)).mono ?_
 rintro e w1 ⟨rfl, k1, rfl⟩
 go_wp2_with fail
 refine (number_any s 3 _ (by unfold maxLen; omega)).mono ?_
 rintro e w2 ⟨rfl, k2, rfl⟩
 have hr3 := Ak.get_range s 3
 have hq3 : (Tw.get s 3).tdiv 65280 = Tw.get s 3 / 65280 := Int.tdiv_eq_ediv_of_nonneg hr3.1
 go_wp2
 (try simp only [Exit.inBlock, Exit.then])
 refine bodyPost_ret (v := .agg #[.int .i64 5, .int .i64 0, .int .i64 0, .int .i64 (Tw.get s 1), .int .i64 1, .slice (some ⟨w.heap.size + 1 + 1, 0, none⟩) 1 1]) ?_ rfl ⟨(some ⟨w.heap.size + 1 + 1, 0, none⟩), 1, 1, rfl, ?_, ?_, fun _ => ⟨_, rfl, by omega, by omega, by decide⟩⟩
 ·rw [results_cell rfl]
  go_simp
 ·refine ⟨rfl, fun _ => ⟨_, _, rfl, by simp, fun j hj => ?_⟩⟩
  obtain rfl : j = 0 := by omega
  go_simp
 ·(repeat' (first | with_reducible exact hbW | with_reducible refine Below.setCell ?_ ?_ _ | with_reducible refine below_drewN ?_ _ | with_reducible refine Below.alloc ?_ ?_ _ | with_reducible exact Below.refl _ _ | (simp; done) | (simp; omega)))
set_option maxHeartbeats 2000000 in
theorem taken_6 (s : ByteArray) (w : World) (hs : s.size <= 1000000) (hp : 0 < s.size) (h0 : byteAt s 0 = 6) :
  Calls Tryz.prog 52 #[.string s] w (RetOne (Ak.taken s) w) := by
 have hx := idx (P := Tryz.prog) (k := .i64) s 0 Tryz.underlying9 (by omega) (by omega)
 rw [h0] at hx
 have er : Ak.taken s = ⟨6, 0, 0, Tw.get s 1, 1, [Tw.get s 3]⟩ := by simp [Ak.taken, h0]
 rw [er]
 have H0 := Lib.hid h0
 clear h0 er
 go_enter Tryz.func52, Tryz.ntmps52
 go_wp2_with fail
 refine (number_any s 1 _ (by unfold maxLen; omega)).mono ?_
 rintro e w1 ⟨rfl, k1, rfl⟩
 go_wp2_with fail
 refine (number_any s 3 _ (by unfold maxLen; omega)).mono ?_
 rintro e w2 ⟨rfl, k2, rfl⟩
 go_wp2
 (try simp only [Exit.inBlock, Exit.then])
 refine bodyPost_ret (v := .agg #[.int .i64 6, .int .i64 0, .int .i64 0, .int .i64 (Tw.get s 1), .int .i64 1, .slice (some ⟨w.heap.size + 1 + 1, 0, none⟩) 1 1]) ?_ rfl ⟨(some ⟨w.heap.size + 1 + 1, 0, none⟩), 1, 1, rfl, ?_, ?_, fun _ => ⟨_, rfl, by omega, by omega, by decide⟩⟩
 ·rw [results_cell rfl]
  go_simp
 ·refine ⟨rfl, fun _ => ⟨_, _, rfl, by simp, fun j hj => ?_⟩⟩
  obtain rfl : j = 0 := by omega
  go_simp
 ·(repeat' (first | with_reducible exact hbW | with_reducible refine Below.setCell ?_ ?_ _ | with_reducible refine below_drewN ?_ _ | with_reducible refine Below.alloc ?_ ?_ _ | with_reducible exact Below.refl _ _ | (simp; done) | (simp; omega)))
set_option maxHeartbeats 2000000 in
theorem taken_22 (s : ByteArray) (w : World) (hs : s.size <= 1000000) (hp : 0 < s.size) (h0 : byteAt s 0 = 22) :
  Calls Tryz.prog 52 #[.string s] w (RetOne (Ak.taken s) w) := by
 have hx := idx (P := Tryz.prog) (k := .i64) s 0 Tryz.underlying9 (by omega) (by omega)
 rw [h0] at hx
 have er : Ak.taken s = ⟨22, 0, 0, Tw.get s 1, 1, [Tw.get s 3, Tw.get s 5]⟩ := by simp [Ak.taken, h0]
 rw [er]
 have H0 := Lib.hid h0
 clear h0 er
 go_enter Tryz.func52, Tryz.ntmps52
 go_wp2_with fail
 refine (number_any s 1 _ (by unfold maxLen; omega)).mono ?_
 rintro e w1 ⟨rfl, k1, rfl⟩
 go_wp2_with fail
 refine (number_any s 3 _ (by unfold maxLen; omega)).mono ?_
 rintro e w2 ⟨rfl, k2, rfl⟩
 go_wp2_with fail
 refine (number_any s 5 _ (by unfold maxLen; omega)).mono ?_
 rintro e w3 ⟨rfl, k3, rfl⟩
 go_wp2
 (try simp only [Exit.inBlock, Exit.then])
 refine bodyPost_ret (v := .agg #[.int .i64 22, .int .i64 0, .int .i64 0, .int .i64 (Tw.get s 1), .int .i64 1, .slice (some ⟨w.heap.size + 1 + 1, 0, none⟩) 2 2]) ?_ rfl ⟨(some ⟨w.heap.size + 1 + 1, 0, none⟩), 2, 2, rfl, ?_, ?_, fun _ => ⟨_, rfl, by omega, by omega, by decide⟩⟩
 ·rw [results_cell rfl]
  go_simp
 ·refine ⟨rfl, fun _ => ⟨_, _, rfl, by simp, fun j hj => ?_⟩⟩
  obtain rfl | rfl : j = 0 ∨ j = 1 := by omega
  all_goals go_simp
 ·(repeat' (first | with_reducible exact hbW | with_reducible refine Below.setCell ?_ ?_ _ | with_reducible refine below_drewN ?_ _ | with_reducible refine Below.alloc ?_ ?_ _ | with_reducible exact Below.refl _ _ | (simp; done) | (simp; omega)))
set_option maxHeartbeats 2000000 in
theorem taken_15 (s : ByteArray) (w : World) (hs : s.size <= 1000000) (hp : 0 < s.size) (h0 : byteAt s 0 = 15) :
  Calls Tryz.prog 52 #[.string s] w (RetOne (Ak.taken s) w) := by
 have hx := idx (P := Tryz.prog) (k := .i64) s 0 Tryz.underlying9 (by omega) (by omega)
 rw [h0] at hx
 have er : Ak.taken s = ⟨15, 0, 0, Tw.get s 1, Tw.get s 3, Co.get (Ak.sub s 6) (Tw.get s 3)⟩ := by simp [Ak.taken, h0]
 rw [er]
 have H0 := Lib.hid h0
 clear h0 er
 go_enter Tryz.func52, Tryz.ntmps52
 go_wp2_with fail
 refine (number_any s 1 _ (by unfold maxLen; omega)).mono ?_
 rintro e w1 ⟨rfl, k1, rfl⟩
 go_wp2_with fail
 refine (number_any s 3 _ (by unfold maxLen; omega)).mono ?_
 rintro e w2 ⟨rfl, k2, rfl⟩
 go_wp2
 have hr3 := Ak.get_range s 3
 have hss : (Ak.sub s 6).size <= 1000000 := by rw [Ak.sub, st_size, List.length_drop, bl_length]; omega
 have HR3 := Lib.hid hr3
 clear hr3
 go_region_held3 (fun w' => w'.cell? ⟨w.heap.size + 1, 4, none⟩ = some (.int .i64 (Tw.get s 3)))
  (first | assumption | (go_simp; done) | fail)
  ((first
    | (go_at_call 75; refine (tail_any s 6 _ hs (by omega)).mono ?_; rintro e w3 ⟨rfl, rfl⟩)
    | (go_at_call 74; refine (Coil.getF_any (Ak.sub s 6) (Tw.get s 3) _ hss (by have := HR3.out; omega)).mono ?_; rintro e W ⟨A, n, c, rfl, hI, hb, hfr⟩; have c14 : W.cell? ⟨w.heap.size + 1, 4, none⟩ = some (.int .i64 (Tw.get s 3)) := (hb.cell (by simp)).trans (by go_simp); have c15 : W.cell? ⟨w.heap.size + 1, 5, none⟩ = some (.slice none 0 0) := (hb.cell (by simp)).trans (by go_simp); have f1 : ∀ j, W.frozen? ⟨w.heap.size + 1, j, none⟩ = false := fun j => (hb.frozen (by simp)).trans (by go_simp))
    | fail))
 have c10 : W.cell? ⟨w.heap.size + 1, 0, none⟩ = some (.int .i64 15) := (hb.cell (by simp)).trans (by go_simp)
 have c11 : W.cell? ⟨w.heap.size + 1, 1, none⟩ = some (.int .i64 0) := (hb.cell (by simp)).trans (by go_simp)
 have c12 : W.cell? ⟨w.heap.size + 1, 2, none⟩ = some (.int .i64 0) := (hb.cell (by simp)).trans (by go_simp)
 have c13 : W.cell? ⟨w.heap.size + 1, 3, none⟩ = some (.int .i64 (Tw.get s 1)) := (hb.cell (by simp)).trans (by go_simp)
 have c14 : W.cell? ⟨w.heap.size + 1, 4, none⟩ = some (.int .i64 (Tw.get s 3)) := (hb.cell (by simp)).trans (by go_simp)
 have c15 : W.cell? ⟨w.heap.size + 1, 5, none⟩ = some (.slice none 0 0) := (hb.cell (by simp)).trans (by go_simp)
 have c00 : W.cell? ⟨w.heap.size, 0, none⟩ = some (.int .i64 0) := (hb.cell (by simp; omega)).trans (by go_simp)
 have c01 : W.cell? ⟨w.heap.size, 1, none⟩ = some (.int .i64 0) := (hb.cell (by simp; omega)).trans (by go_simp)
 have c02 : W.cell? ⟨w.heap.size, 2, none⟩ = some (.int .i64 0) := (hb.cell (by simp; omega)).trans (by go_simp)
 have c03 : W.cell? ⟨w.heap.size, 3, none⟩ = some (.int .i64 0) := (hb.cell (by simp; omega)).trans (by go_simp)
 have c04 : W.cell? ⟨w.heap.size, 4, none⟩ = some (.int .i64 0) := (hb.cell (by simp; omega)).trans (by go_simp)
 have c05 : W.cell? ⟨w.heap.size, 5, none⟩ = some (.slice none 0 0) := (hb.cell (by simp; omega)).trans (by go_simp)
 have f1 : ∀ j, W.frozen? ⟨w.heap.size + 1, j, none⟩ = false := fun j => (hb.frozen (by simp)).trans (by go_simp)
 have f0 : ∀ j, W.frozen? ⟨w.heap.size, j, none⟩ = false := fun j => (hb.frozen (by simp; omega)).trans (by go_simp)
 have hsz : w.heap.size + 1 + 1 <= W.heap.size := by have := hb.size; simpa using this
 have hfr2 : 0 < n -> ∃ b, A = some ⟨b, 0, none⟩ ∧ w.heap.size + 1 + 1 <= b := fun hn => by
  obtain ⟨b, e, h⟩ := hfr hn
  exact ⟨b, e, by simpa using h.1⟩
 have hbW : Below w.heap.size w W := by
  refine Below.trans ?_ (hb.mono (by simp; omega))
  clear hb hfr hfr2 hI c10 c11 c12 c13 c14 c15 c00 c01 c02 c03 c04 c05 f0 f1
  (repeat' (first | (show Below _ _ (World.drew _); refine Below.trans ?_ (((Quiet.refl _).drew).below _)) | with_reducible refine Below.setCell ?_ ?_ _ | with_reducible refine below_drewN ?_ _ | with_reducible refine Below.alloc ?_ ?_ _ | with_reducible exact Below.refl _ _ | (simp; done) | (simp; omega)))
 have HF := Lib.hid hfr2
 have HCP : Hid (0 < n -> n <= c ∧ c <= maxLen) := Lib.hid (fun hn => by obtain ⟨b, e, h⟩ := hfr hn; exact h.2)
 have HI := Lib.hid hI
 clear hb hfr hfr2 hI
 go_wp2
 (try simp only [Exit.inBlock, Exit.then])
 refine bodyPost_ret (v := .agg #[.int .i64 15, .int .i64 0, .int .i64 0, .int .i64 (Tw.get s 1), .int .i64 (Tw.get s 3), .slice A n c]) ?_ rfl ⟨A, n, c, rfl, ?_, ?_, fun hn => by obtain ⟨b, e, h⟩ := HF.out hn; exact ⟨b, e, by omega, HCP.out hn⟩⟩
 ·rw [results_cell rfl]
  go_simp
 ·refine ints_box HI.out HF.out _ (by simp) (fun p h1 h2 => ?_)
  repeat (rw [far_set _ (by show p.block ≠ _; simp; omega)])
 ·clear c10 c11 c12 c13 c14 c15 c00 c01 c02 c03 c04 c05 f0 f1
  (repeat' (first | with_reducible exact hbW | with_reducible refine Below.setCell ?_ ?_ _ | with_reducible refine below_drewN ?_ _ | with_reducible refine Below.alloc ?_ ?_ _ | with_reducible exact Below.refl _ _ | (simp; done) | (simp; omega)))
set_option maxHeartbeats 2000000 in
theorem taken_16 (s : ByteArray) (w : World) (hs : s.size <= 1000000) (hp : 0 < s.size) (h0 : byteAt s 0 = 16) :
  Calls Tryz.prog 52 #[.string s] w (RetOne (Ak.taken s) w) := by
 have hx := idx (P := Tryz.prog) (k := .i64) s 0 Tryz.underlying9 (by omega) (by omega)
 rw [h0] at hx
 have er : Ak.taken s = ⟨16, 0, 0, Tw.get s 1, Tw.get s 3, Tw.getAll (Ak.sub s 6)⟩ := by simp [Ak.taken, h0]
 rw [er]
 have H0 := Lib.hid h0
 clear h0 er
 go_enter Tryz.func52, Tryz.ntmps52
 go_wp2_with fail
 refine (number_any s 1 _ (by unfold maxLen; omega)).mono ?_
 rintro e w1 ⟨rfl, k1, rfl⟩
 go_wp2_with fail
 refine (number_any s 3 _ (by unfold maxLen; omega)).mono ?_
 rintro e w2 ⟨rfl, k2, rfl⟩
 go_wp2_with fail
 refine (tail_any s 6 _ hs (by omega)).mono ?_
 rintro e w9 ⟨rfl, rfl⟩
 have hss : (Ak.sub s 6).size <= 1000000 := by rw [Ak.sub, st_size, List.length_drop, bl_length]; omega
 go_wp2_with fail
 refine (Twin.getAllF_any (Ak.sub s 6) _ hss).mono ?_
 rintro e W ⟨A, n, c, rfl, hI, hb, hfr⟩
 have c10 : W.cell? ⟨w.heap.size + 1, 0, none⟩ = some (.int .i64 16) := (hb.cell (by simp)).trans (by go_simp)
 have c11 : W.cell? ⟨w.heap.size + 1, 1, none⟩ = some (.int .i64 0) := (hb.cell (by simp)).trans (by go_simp)
 have c12 : W.cell? ⟨w.heap.size + 1, 2, none⟩ = some (.int .i64 0) := (hb.cell (by simp)).trans (by go_simp)
 have c13 : W.cell? ⟨w.heap.size + 1, 3, none⟩ = some (.int .i64 (Tw.get s 1)) := (hb.cell (by simp)).trans (by go_simp)
 have c14 : W.cell? ⟨w.heap.size + 1, 4, none⟩ = some (.int .i64 (Tw.get s 3)) := (hb.cell (by simp)).trans (by go_simp)
 have c15 : W.cell? ⟨w.heap.size + 1, 5, none⟩ = some (.slice none 0 0) := (hb.cell (by simp)).trans (by go_simp)
 have c00 : W.cell? ⟨w.heap.size, 0, none⟩ = some (.int .i64 0) := (hb.cell (by simp; omega)).trans (by go_simp)
 have c01 : W.cell? ⟨w.heap.size, 1, none⟩ = some (.int .i64 0) := (hb.cell (by simp; omega)).trans (by go_simp)
 have c02 : W.cell? ⟨w.heap.size, 2, none⟩ = some (.int .i64 0) := (hb.cell (by simp; omega)).trans (by go_simp)
 have c03 : W.cell? ⟨w.heap.size, 3, none⟩ = some (.int .i64 0) := (hb.cell (by simp; omega)).trans (by go_simp)
 have c04 : W.cell? ⟨w.heap.size, 4, none⟩ = some (.int .i64 0) := (hb.cell (by simp; omega)).trans (by go_simp)
 have c05 : W.cell? ⟨w.heap.size, 5, none⟩ = some (.slice none 0 0) := (hb.cell (by simp; omega)).trans (by go_simp)
 have f1 : ∀ j, W.frozen? ⟨w.heap.size + 1, j, none⟩ = false := fun j => (hb.frozen (by simp)).trans (by go_simp)
 have f0 : ∀ j, W.frozen? ⟨w.heap.size, j, none⟩ = false := fun j => (hb.frozen (by simp; omega)).trans (by go_simp)
 have hsz : w.heap.size + 1 + 1 <= W.heap.size := by have := hb.size; simpa using this
 have hfr2 : 0 < n -> ∃ b, A = some ⟨b, 0, none⟩ ∧ w.heap.size + 1 + 1 <= b := fun hn => by
  obtain ⟨b, e, h⟩ := hfr hn
  exact ⟨b, e, by simpa using h.1⟩
 have hbW : Below w.heap.size w W := by
  refine Below.trans ?_ (hb.mono (by simp; omega))
  clear hb hfr hfr2 hI c10 c11 c12 c13 c14 c15 c00 c01 c02 c03 c04 c05 f0 f1
  (repeat' (first | with_reducible refine Below.setCell ?_ ?_ _ | with_reducible refine below_drewN ?_ _ | with_reducible refine Below.alloc ?_ ?_ _ | with_reducible exact Below.refl _ _ | (simp; done) | (simp; omega)))
 have HF := Lib.hid hfr2
 have HCP : Hid (0 < n -> n <= c ∧ c <= maxLen) := Lib.hid (fun hn => by obtain ⟨b, e, h⟩ := hfr hn; exact h.2)
 have HI := Lib.hid hI
 clear hb hfr hfr2 hI
 go_wp2
 (try simp only [Exit.inBlock, Exit.then])
 refine bodyPost_ret (v := .agg #[.int .i64 16, .int .i64 0, .int .i64 0, .int .i64 (Tw.get s 1), .int .i64 (Tw.get s 3), .slice A n c]) ?_ rfl ⟨A, n, c, rfl, ?_, ?_, fun hn => by obtain ⟨b, e, h⟩ := HF.out hn; exact ⟨b, e, by omega, HCP.out hn⟩⟩
 ·rw [results_cell rfl]
  go_simp
 ·refine ints_box HI.out HF.out _ (by simp) (fun p h1 h2 => ?_)
  repeat (rw [far_set _ (by show p.block ≠ _; simp; omega)])
 ·clear c10 c11 c12 c13 c14 c15 c00 c01 c02 c03 c04 c05 f0 f1
  (repeat' (first | with_reducible exact hbW | with_reducible refine Below.setCell ?_ ?_ _ | with_reducible refine below_drewN ?_ _ | with_reducible refine Below.alloc ?_ ?_ _ | with_reducible exact Below.refl _ _ | (simp; done) | (simp; omega)))
set_option maxHeartbeats 2000000 in
theorem taken_23 (s : ByteArray) (w : World) (hs : s.size <= 1000000) (hp : 0 < s.size) (h0 : byteAt s 0 = 23) :
  Calls Tryz.prog 52 #[.string s] w (RetOne (Ak.taken s) w) := by
 have hx := idx (P := Tryz.prog) (k := .i64) s 0 Tryz.underlying9 (by omega) (by omega)
 rw [h0] at hx
 have er : Ak.taken s = ⟨23, Tw.get s 1, Tw.get s 3, Tw.get s 5, Tw.get s 7, Tw.getAll (Ak.sub s 10)⟩ := by simp [Ak.taken, h0]
 rw [er]
 have H0 := Lib.hid h0
 clear h0 er
 go_enter Tryz.func52, Tryz.ntmps52
 go_wp2_with fail
 refine (number_any s 1 _ (by unfold maxLen; omega)).mono ?_
 rintro e w1 ⟨rfl, k1, rfl⟩
 go_wp2_with fail
 refine (number_any s 3 _ (by unfold maxLen; omega)).mono ?_
 rintro e w2 ⟨rfl, k2, rfl⟩
 go_wp2_with fail
 refine (number_any s 5 _ (by unfold maxLen; omega)).mono ?_
 rintro e w3 ⟨rfl, k3, rfl⟩
 go_wp2_with fail
 refine (number_any s 7 _ (by unfold maxLen; omega)).mono ?_
 rintro e w4 ⟨rfl, k4, rfl⟩
 go_wp2_with fail
 refine (tail_any s 10 _ hs (by omega)).mono ?_
 rintro e w9 ⟨rfl, rfl⟩
 have hss : (Ak.sub s 10).size <= 1000000 := by rw [Ak.sub, st_size, List.length_drop, bl_length]; omega
 go_wp2_with fail
 refine (Twin.getAllF_any (Ak.sub s 10) _ hss).mono ?_
 rintro e W ⟨A, n, c, rfl, hI, hb, hfr⟩
 have c10 : W.cell? ⟨w.heap.size + 1, 0, none⟩ = some (.int .i64 23) := (hb.cell (by simp)).trans (by go_simp)
 have c11 : W.cell? ⟨w.heap.size + 1, 1, none⟩ = some (.int .i64 (Tw.get s 1)) := (hb.cell (by simp)).trans (by go_simp)
 have c12 : W.cell? ⟨w.heap.size + 1, 2, none⟩ = some (.int .i64 (Tw.get s 3)) := (hb.cell (by simp)).trans (by go_simp)
 have c13 : W.cell? ⟨w.heap.size + 1, 3, none⟩ = some (.int .i64 (Tw.get s 5)) := (hb.cell (by simp)).trans (by go_simp)
 have c14 : W.cell? ⟨w.heap.size + 1, 4, none⟩ = some (.int .i64 (Tw.get s 7)) := (hb.cell (by simp)).trans (by go_simp)
 have c15 : W.cell? ⟨w.heap.size + 1, 5, none⟩ = some (.slice none 0 0) := (hb.cell (by simp)).trans (by go_simp)
 have c00 : W.cell? ⟨w.heap.size, 0, none⟩ = some (.int .i64 0) := (hb.cell (by simp; omega)).trans (by go_simp)
 have c01 : W.cell? ⟨w.heap.size, 1, none⟩ = some (.int .i64 0) := (hb.cell (by simp; omega)).trans (by go_simp)
 have c02 : W.cell? ⟨w.heap.size, 2, none⟩ = some (.int .i64 0) := (hb.cell (by simp; omega)).trans (by go_simp)
 have c03 : W.cell? ⟨w.heap.size, 3, none⟩ = some (.int .i64 0) := (hb.cell (by simp; omega)).trans (by go_simp)
 have c04 : W.cell? ⟨w.heap.size, 4, none⟩ = some (.int .i64 0) := (hb.cell (by simp; omega)).trans (by go_simp)
 have c05 : W.cell? ⟨w.heap.size, 5, none⟩ = some (.slice none 0 0) := (hb.cell (by simp; omega)).trans (by go_simp)
 have f1 : ∀ j, W.frozen? ⟨w.heap.size + 1, j, none⟩ = false := fun j => (hb.frozen (by simp)).trans (by go_simp)
 have f0 : ∀ j, W.frozen? ⟨w.heap.size, j, none⟩ = false := fun j => (hb.frozen (by simp; omega)).trans (by go_simp)
 have hsz : w.heap.size + 1 + 1 <= W.heap.size := by have := hb.size; simpa using this
 have hfr2 : 0 < n -> ∃ b, A = some ⟨b, 0, none⟩ ∧ w.heap.size + 1 + 1 <= b := fun hn => by
  obtain ⟨b, e, h⟩ := hfr hn
  exact ⟨b, e, by simpa using h.1⟩
 have hbW : Below w.heap.size w W := by
  refine Below.trans ?_ (hb.mono (by simp; omega))
  clear hb hfr hfr2 hI c10 c11 c12 c13 c14 c15 c00 c01 c02 c03 c04 c05 f0 f1
  (repeat' (first | with_reducible refine Below.setCell ?_ ?_ _ | with_reducible refine below_drewN ?_ _ | with_reducible refine Below.alloc ?_ ?_ _ | with_reducible exact Below.refl _ _ | (simp; done) | (simp; omega)))
 have HF := Lib.hid hfr2
 have HCP : Hid (0 < n -> n <= c ∧ c <= maxLen) := Lib.hid (fun hn => by obtain ⟨b, e, h⟩ := hfr hn; exact h.2)
 have HI := Lib.hid hI
 clear hb hfr hfr2 hI
 go_wp2
 (try simp only [Exit.inBlock, Exit.then])
 refine bodyPost_ret (v := .agg #[.int .i64 23, .int .i64 (Tw.get s 1), .int .i64 (Tw.get s 3), .int .i64 (Tw.get s 5), .int .i64 (Tw.get s 7), .slice A n c]) ?_ rfl ⟨A, n, c, rfl, ?_, ?_, fun hn => by obtain ⟨b, e, h⟩ := HF.out hn; exact ⟨b, e, by omega, HCP.out hn⟩⟩
 ·rw [results_cell rfl]
  go_simp
 ·refine ints_box HI.out HF.out _ (by simp) (fun p h1 h2 => ?_)
  repeat (rw [far_set _ (by show p.block ≠ _; simp; omega)])
 ·clear c10 c11 c12 c13 c14 c15 c00 c01 c02 c03 c04 c05 f0 f1
  (repeat' (first | with_reducible exact hbW | with_reducible refine Below.setCell ?_ ?_ _ | with_reducible refine below_drewN ?_ _ | with_reducible refine Below.alloc ?_ ?_ _ | with_reducible exact Below.refl _ _ | (simp; done) | (simp; omega)))
theorem taken_any (s : ByteArray) (w : World) (hs : s.size <= 1000000) (hb : Ak.begins s = true) :
  Calls Tryz.prog 52 #[.string s] w (RetOne (Ak.taken s) w) := by
 rw [Ak.begins, Bool.and_eq_true, decide_eq_true_eq, Ak.known_iff] at hb
 obtain ⟨hp, h⟩ := hb
 rcases h with h | h | h | h | h | h | h | h | h | h
 ·exact taken_1 s w hs hp h
 ·exact taken_2 s w hs hp h
 ·exact taken_3 s w hs hp h
 ·exact taken_4 s w hs hp h
 ·exact taken_5 s w hs hp h
 ·exact taken_6 s w hs hp h
 ·exact taken_15 s w hs hp h
 ·exact taken_16 s w hs hp h
 ·exact taken_22 s w hs hp h
 ·exact taken_23 s w hs hp h
end Go.Proofs.YtaciogcpghbhjaaGreat.Ask
/- The developers' requests: Same, Get. Conditions: lengths at most a hundred thousand. -/
namespace Go.Proofs.YtaciogcpghbhjaaGreat.Ask
set_option linter.unusedVariables false
open Go.ChangeShapes Go.WideShapes Go.ChangeAt Go.RowKit
open Str (toList_eq)
open Ref6 (ret_bool ret_int Boxed below_drewN ints_box far_set RetAsk)
set_option maxHeartbeats 2000000 in
theorem get_any (s : ByteArray) (w : World) (hs : s.size <= 100000) :
  Calls Tryz.prog 35 #[.string s] w (RetAsk (Ak.get s) (.int .i64 (Ak.err s)) w) := by
 have hse : (s.toList == []) = decide (s.size = 0) := by
  rw [toList_eq, Bool.eq_iff_iff, beq_iff_eq, decide_eq_true_eq, <- bl_length, List.length_eq_zero_iff]
 by_cases h0 : s.size = 0
 ·have he : Ak.err s = 2 := by rw [Ak.err, Ak.begins, h0]; rfl
  have hg : Ak.get s = Ak.zero := by rw [Ak.get, he]; rfl
  have HE := Lib.hid he
  have HGT := Lib.hid hg
  clear he hg
  have d1 : (s.toList == []) = true := by rw [hse]; simpa using h0
  have hbW : Below w.heap.size w w := Below.refl _ _
  clear hse
  go_enter Tryz.func35, Tryz.ntmps35
  go_wp2
  (try simp only [Exit.inBlock, Exit.then])
  refine bodyPost_ret (v := .tuple #[.agg #[.int .i64 0, .int .i64 0, .int .i64 0, .int .i64 0, .int .i64 0, .slice none 0 0], .int .i64 2]) ?_ rfl ⟨none, 0, 0, by rw [HE.out, HGT.out]; rfl, ?_, ?_, FreshC.zero _ _ _⟩
  ·rw [results_cell_tmp rfl]
   go_simp
  ·rw [HGT.out]; exact Ints.none_ _ _ _ _
  ·(repeat' (first | with_reducible exact hbW | with_reducible refine Below.setCell ?_ ?_ _ | with_reducible refine below_drewN ?_ _ | with_reducible refine Below.alloc ?_ ?_ _ | with_reducible exact Below.refl _ _ | (simp; done) | (simp; omega)))
 ·have d1 : (s.toList == []) = false := by rw [hse]; simpa using h0
  clear hse
  have hx := idx (P := Tryz.prog) (k := .i64) s 0 Tryz.underlying9 (by omega) (by omega)
  have hr := byteAt_range s 0
  have hbg : Ak.begins s = Ak.known (byteAt s 0) := by rw [Ak.begins, show decide (0 < s.size) = true by simp; omega, Bool.true_and]
  cases hk : Ak.known (byteAt s 0)
  ·rw [hk] at hbg
   have he : Ak.err s = 2 := by rw [Ak.err, hbg]; rfl
   have hg : Ak.get s = Ak.zero := by rw [Ak.get, he]; rfl
   have HE := Lib.hid he
   have HGT := Lib.hid hg
   clear he hg
   go_enter Tryz.func35, Tryz.ntmps35
   go_wp2_with fail
   refine (known_any (byteAt s 0) _).mono ?_
   rintro e W ⟨rfl, hb⟩
   rw [hk]
   have hbW : Below w.heap.size w W := Below.trans ((Below.refl _ _).alloc (Nat.le_refl _) _) (hb.mono (by simp))
   have hlt : w.heap.size < W.heap.size := by have := hb.size; simp at this; omega
   have c00 : W.cell? ⟨w.heap.size, 0, none⟩ = some (.int .i64 0) := (hb.cell (by simp)).trans (by go_simp)
   have c01 : W.cell? ⟨w.heap.size, 1, none⟩ = some (.int .i64 0) := (hb.cell (by simp)).trans (by go_simp)
   have c02 : W.cell? ⟨w.heap.size, 2, none⟩ = some (.int .i64 0) := (hb.cell (by simp)).trans (by go_simp)
   have c03 : W.cell? ⟨w.heap.size, 3, none⟩ = some (.int .i64 0) := (hb.cell (by simp)).trans (by go_simp)
   have c04 : W.cell? ⟨w.heap.size, 4, none⟩ = some (.int .i64 0) := (hb.cell (by simp)).trans (by go_simp)
   have c05 : W.cell? ⟨w.heap.size, 5, none⟩ = some (.slice none 0 0) := (hb.cell (by simp)).trans (by go_simp)
   have f0 : ∀ j, W.frozen? ⟨w.heap.size, j, none⟩ = false := fun j => (hb.frozen (by simp)).trans (by go_simp)
   clear d1 hx hr hbg hb h0
   go_wp2
   (try simp only [Exit.inBlock, Exit.then])
   refine bodyPost_ret (v := .tuple #[.agg #[.int .i64 0, .int .i64 0, .int .i64 0, .int .i64 0, .int .i64 0, .slice none 0 0], .int .i64 2]) ?_ rfl ⟨none, 0, 0, by rw [HE.out, HGT.out]; rfl, ?_, ?_, FreshC.zero _ _ _⟩
   ·rw [results_cell_tmp rfl]
    go_simp
   ·rw [HGT.out]; exact Ints.none_ _ _ _ _
   ·clear c00 c01 c02 c03 c04 c05 f0; (repeat' (first | with_reducible exact hbW | with_reducible refine Below.setCell ?_ ?_ _ | with_reducible refine below_drewN ?_ _ | with_reducible refine Below.alloc ?_ ?_ _ | with_reducible exact Below.refl _ _ | (simp; done) | (simp; omega)))
  ·rw [hk] at hbg
   by_cases hlg : 253 < s.size
   ·have d2 : decide ((253 : Int) < s.size) = true := by simp; omega
    have he : Ak.err s = 4 := Ak.err_long hbg hlg
    have hg : Ak.get s = Ak.zero := by rw [Ak.get, he]; rfl
    have HE := Lib.hid he
    have HGT := Lib.hid hg
    clear he hg
    go_enter Tryz.func35, Tryz.ntmps35
    go_wp2_with fail
    refine (known_any (byteAt s 0) _).mono ?_
    rintro e W ⟨rfl, hb⟩
    rw [hk]
    have hbW : Below w.heap.size w W := Below.trans ((Below.refl _ _).alloc (Nat.le_refl _) _) (hb.mono (by simp))
    have hlt : w.heap.size < W.heap.size := by have := hb.size; simp at this; omega
    have c00 : W.cell? ⟨w.heap.size, 0, none⟩ = some (.int .i64 0) := (hb.cell (by simp)).trans (by go_simp)
    have c01 : W.cell? ⟨w.heap.size, 1, none⟩ = some (.int .i64 0) := (hb.cell (by simp)).trans (by go_simp)
    have c02 : W.cell? ⟨w.heap.size, 2, none⟩ = some (.int .i64 0) := (hb.cell (by simp)).trans (by go_simp)
    have c03 : W.cell? ⟨w.heap.size, 3, none⟩ = some (.int .i64 0) := (hb.cell (by simp)).trans (by go_simp)
    have c04 : W.cell? ⟨w.heap.size, 4, none⟩ = some (.int .i64 0) := (hb.cell (by simp)).trans (by go_simp)
    have c05 : W.cell? ⟨w.heap.size, 5, none⟩ = some (.slice none 0 0) := (hb.cell (by simp)).trans (by go_simp)
    have f0 : ∀ j, W.frozen? ⟨w.heap.size, j, none⟩ = false := fun j => (hb.frozen (by simp)).trans (by go_simp)
    clear d1 hx hr hbg hb h0
    go_wp2
    (try simp only [Exit.inBlock, Exit.then])
    refine bodyPost_ret (v := .tuple #[.agg #[.int .i64 0, .int .i64 0, .int .i64 0, .int .i64 0, .int .i64 0, .slice none 0 0], .int .i64 4]) ?_ rfl ⟨none, 0, 0, by rw [HE.out, HGT.out]; rfl, ?_, ?_, FreshC.zero _ _ _⟩
    ·rw [results_cell_tmp rfl]
     go_simp
    ·rw [HGT.out]; exact Ints.none_ _ _ _ _
    ·clear c00 c01 c02 c03 c04 c05 f0; (repeat' (first | with_reducible exact hbW | with_reducible refine Below.setCell ?_ ?_ _ | with_reducible refine below_drewN ?_ _ | with_reducible refine Below.alloc ?_ ?_ _ | with_reducible exact Below.refl _ _ | (simp; done) | (simp; omega)))
   ·have d2 : decide ((253 : Int) < s.size) = false := by simp; omega
    have HBG := Lib.hid hbg
    have hlen := Ak.taken_len s
    obtain ⟨a, ha⟩ : ∃ a, a = Ak.taken s := ⟨_, rfl⟩
    have HA := Lib.hid ha
    have hvl : a.vs.length <= 1000000 := by rw [ha]; omega
    clear hlen hbg ha
    go_enter Tryz.func35, Tryz.ntmps35
    go_wp2_with fail
    refine (known_any (byteAt s 0) _).mono ?_
    rintro e W ⟨rfl, hb⟩
    rw [hk]
    have hbW : Below w.heap.size w W := Below.trans ((Below.refl _ _).alloc (Nat.le_refl _) _) (hb.mono (by simp))
    have hlt : w.heap.size < W.heap.size := by have := hb.size; simp at this; omega
    have c00 : W.cell? ⟨w.heap.size, 0, none⟩ = some (.int .i64 0) := (hb.cell (by simp)).trans (by go_simp)
    have c01 : W.cell? ⟨w.heap.size, 1, none⟩ = some (.int .i64 0) := (hb.cell (by simp)).trans (by go_simp)
    have c02 : W.cell? ⟨w.heap.size, 2, none⟩ = some (.int .i64 0) := (hb.cell (by simp)).trans (by go_simp)
    have c03 : W.cell? ⟨w.heap.size, 3, none⟩ = some (.int .i64 0) := (hb.cell (by simp)).trans (by go_simp)
    have c04 : W.cell? ⟨w.heap.size, 4, none⟩ = some (.int .i64 0) := (hb.cell (by simp)).trans (by go_simp)
    have c05 : W.cell? ⟨w.heap.size, 5, none⟩ = some (.slice none 0 0) := (hb.cell (by simp)).trans (by go_simp)
    have f0 : ∀ j, W.frozen? ⟨w.heap.size, j, none⟩ = false := fun j => (hb.frozen (by simp)).trans (by go_simp)
    go_wp2_with fail
    refine (taken_any s _ (by omega) HBG.out).mono ?_
    rintro e V ⟨A, n, c, rfl, hI, hV, hfr⟩
    rw [<- HA.out] at hI ⊢
    have hn : n <= 1000000 := by have := hI.1; omega
    have kb := (Keep.refl V).alloc (.cells #[.int .i64 a.fc, .int .i64 a.rd, .int .i64 a.ct, .int .i64 a.wr, .int .i64 a.mn, .slice A n c] 40)
    have b0 : Boxed w.heap.size Ak.zero none 0 0 V := Boxed.below ⟨c00, c01, c02, c03, c04, c05⟩ hV hlt
    have g0 : ∀ j, V.frozen? ⟨w.heap.size, j, none⟩ = false := fun j => (hV.frozen hlt).trans (f0 j)
    have hbV : Below w.heap.size w V := hbW.trans (hV.mono (by omega))
    have hltV : w.heap.size < V.heap.size := by have := hV.size; omega
    have hfr2 : 0 < n -> ∃ b, A = some ⟨b, 0, none⟩ ∧ w.heap.size + 1 <= b := fun hn => by
     obtain ⟨b, e, h⟩ := hfr hn
     exact ⟨b, e, by omega⟩
    have HF := Lib.hid hfr2
    have HCP : Hid (0 < n -> n <= c ∧ c <= maxLen) := Lib.hid (fun hn => by obtain ⟨b, e, h⟩ := hfr hn; exact h.2)
    have HI := Lib.hid hI
    clear hV hb f0 c00 c01 c02 c03 c04 c05 hfr hfr2 hI hbW hlt
    obtain ⟨c00, c01, c02, c03, c04, c05⟩ := b0
    simp only [Ak.zero] at c00 c01 c02 c03 c04 c05
    go_wp2_with fail
    refine (isShaped_any A n c a.fc a.rd a.ct a.wr a.mn a.vs _ (by unfold maxLen; omega) (HI.out.kept kb)).mono ?_
    rintro e U ⟨rfl, hU⟩
    have hUV : Keep V U := kb.trans hU
    have b1 : Boxed V.heap.size a A n c U := (Boxed.new V a A n c 40).below hU (by simp)
    have b0 : Boxed w.heap.size Ak.zero none 0 0 U := Boxed.kept ⟨c00, c01, c02, c03, c04, c05⟩ hUV hltV
    have e0 : ∀ j, U.frozen? ⟨w.heap.size, j, none⟩ = false := fun j => (hUV.frozen hltV).trans (g0 j)
    have hbU : Below w.heap.size w U := hbV.trans (hUV.mono (by omega))
    have hltU : w.heap.size < U.heap.size := by have := hUV.size; omega
    have hltVU : V.heap.size < U.heap.size := by have := hU.size; simp at this; omega
    clear kb hU g0 c00 c01 c02 c03 c04 c05
    obtain ⟨c00, c01, c02, c03, c04, c05⟩ := b0
    simp only [Ak.zero] at c00 c01 c02 c03 c04 c05
    obtain ⟨c10, c11, c12, c13, c14, c15⟩ := b1
    cases hsh : Ak.shaped a
    ·have he : Ak.err s = 4 := Ak.err_bad HBG.out (by rw [<- HA.out, hsh]; rfl)
     have hg : Ak.get s = Ak.zero := by rw [Ak.get, he]; rfl
     have HE := Lib.hid he
     have HGT := Lib.hid hg
     clear he hg
     clear d1 d2 hx hr h0 hlg HI HF
     go_wp2
     (try simp only [Exit.inBlock, Exit.then])
     refine bodyPost_ret (v := .tuple #[.agg #[.int .i64 0, .int .i64 0, .int .i64 0, .int .i64 0, .int .i64 0, .slice none 0 0], .int .i64 4]) ?_ rfl ⟨none, 0, 0, by rw [HE.out, HGT.out]; rfl, ?_, ?_, FreshC.zero _ _ _⟩
     ·rw [results_cell_tmp rfl]
      go_simp
     ·rw [HGT.out]; exact Ints.none_ _ _ _ _
     ·clear c00 c01 c02 c03 c04 c05 e0 c10 c11 c12 c13 c14 c15; (repeat' (first | with_reducible exact hbU | with_reducible refine Below.setCell ?_ ?_ _ | with_reducible refine below_drewN ?_ _ | with_reducible refine Below.alloc ?_ ?_ _ | with_reducible exact Below.refl _ _ | (simp; done) | (simp; omega)))
    ·have hfm : Ak.formed a = true := by rw [HA.out]; exact Ak.taken_formed (by rw [<- HA.out]; exact hsh)
     have hnn := Ak.shaped_nn hsh
     have HNN := Lib.hid hnn
     have HSH := Lib.hid hsh
     clear hnn hsh
     go_wp2_with fail
     refine (bytesOf_any A n c a _ hfm (HI.out.kept hUV)).mono ?_
     rintro e T ⟨rfl, hT⟩
     have hTV : Keep V T := hUV.trans hT
     have b1 : Boxed V.heap.size a A n c T := Boxed.kept ⟨c10, c11, c12, c13, c14, c15⟩ hT hltVU
     have b0 : Boxed w.heap.size Ak.zero none 0 0 T := Boxed.kept ⟨c00, c01, c02, c03, c04, c05⟩ hT hltU
     have t0 : ∀ j, T.frozen? ⟨w.heap.size, j, none⟩ = false := fun j => (hT.frozen hltU).trans (e0 j)
     have hbT : Below w.heap.size w T := hbU.trans (hT.mono (by omega))
     have hltT : w.heap.size < T.heap.size := by have := hT.size; omega
     have hltVT : V.heap.size < T.heap.size := by have := hT.size; omega
     clear hT e0 c00 c01 c02 c03 c04 c05 c10 c11 c12 c13 c14 c15 hbU hltVU hUV hltU
     obtain ⟨c00, c01, c02, c03, c04, c05⟩ := b0
     simp only [Ak.zero] at c00 c01 c02 c03 c04 c05
     obtain ⟨c10, c11, c12, c13, c14, c15⟩ := b1
     cases hbs : (Ak.bytes a == bl s)
     ·have he : Ak.err s = 4 := Ak.err_bad HBG.out (by rw [<- HA.out, HSH.out, hbs]; rfl)
      have hg : Ak.get s = Ak.zero := by rw [Ak.get, he]; rfl
      have HE := Lib.hid he
      have HGT := Lib.hid hg
      clear he hg
      have d3 : ((st (Ak.bytes a)).toList == s.toList) = false := by rw [toList_eq, toList_eq, bl_st, hbs]
      clear d1 d2 hx hr h0 hlg HI HF hbs
      go_wp2
      (try simp only [Exit.inBlock, Exit.then])
      refine bodyPost_ret (v := .tuple #[.agg #[.int .i64 0, .int .i64 0, .int .i64 0, .int .i64 0, .int .i64 0, .slice none 0 0], .int .i64 4]) ?_ rfl ⟨none, 0, 0, by rw [HE.out, HGT.out]; rfl, ?_, ?_, FreshC.zero _ _ _⟩
      ·rw [results_cell_tmp rfl]
       go_simp
      ·rw [HGT.out]; exact Ints.none_ _ _ _ _
      ·clear c00 c01 c02 c03 c04 c05 t0 c10 c11 c12 c13 c14 c15; (repeat' (first | with_reducible exact hbT | with_reducible refine Below.setCell ?_ ?_ _ | with_reducible refine below_drewN ?_ _ | with_reducible refine Below.alloc ?_ ?_ _ | with_reducible exact Below.refl _ _ | (simp; done) | (simp; omega)))
     ·have d3 : ((st (Ak.bytes a)).toList == s.toList) = true := by rw [toList_eq, toList_eq, bl_st, hbs]
      have HOK := Lib.hid (show (Ak.shaped (Ak.taken s) && Ak.bytes (Ak.taken s) == bl s) = true by rw [<- HA.out, HSH.out, hbs]; rfl)
      clear hbs
      go_wp2_with fail
      refine (isInside_any A n c a.fc a.rd a.ct a.wr a.mn _ ⟨HNN.out.1.2.1, HNN.out.1.2.2, HNN.out.2.2.1, HNN.out.2.2.2⟩ a.vs).mono ?_
      rintro e R ⟨rfl, hR⟩
      have hRV : Keep V R := hTV.trans hR
      have b1 : Boxed V.heap.size a A n c R := Boxed.kept ⟨c10, c11, c12, c13, c14, c15⟩ hR hltVT
      have b0 : Boxed w.heap.size Ak.zero none 0 0 R := Boxed.kept ⟨c00, c01, c02, c03, c04, c05⟩ hR hltT
      have r0 : ∀ j, R.frozen? ⟨w.heap.size, j, none⟩ = false := fun j => (hR.frozen hltT).trans (t0 j)
      have hbR : Below w.heap.size w R := hbT.trans (hR.mono (by omega))
      have hltR : w.heap.size < R.heap.size := by have := hR.size; omega
      clear hR t0 c00 c01 c02 c03 c04 c05 c10 c11 c12 c13 c14 c15 hbT hltVT hTV hltT
      obtain ⟨c00, c01, c02, c03, c04, c05⟩ := b0
      simp only [Ak.zero] at c00 c01 c02 c03 c04 c05
      obtain ⟨c10, c11, c12, c13, c14, c15⟩ := b1
      cases hin : Ak.inside a
      ·have he : Ak.err s = 3 := Ak.err_far HBG.out HOK.out (by rw [<- HA.out]; exact hin)
       have hg : Ak.get s = Ak.zero := by rw [Ak.get, he]; rfl
       have HE := Lib.hid he
       have HGT := Lib.hid hg
       clear he hg
       have hin2 : Ak.inside ⟨a.fc, a.rd, a.ct, a.wr, a.mn, a.vs⟩ = false := hin
       clear d1 d2 d3 hx hr h0 hlg HI HF
       go_wp2
       (try simp only [Exit.inBlock, Exit.then])
       refine bodyPost_ret (v := .tuple #[.agg #[.int .i64 0, .int .i64 0, .int .i64 0, .int .i64 0, .int .i64 0, .slice none 0 0], .int .i64 3]) ?_ rfl ⟨none, 0, 0, by rw [HE.out, HGT.out]; rfl, ?_, ?_, FreshC.zero _ _ _⟩
       ·rw [results_cell_tmp rfl]
        go_simp
       ·rw [HGT.out]; exact Ints.none_ _ _ _ _
       ·clear c00 c01 c02 c03 c04 c05 r0 c10 c11 c12 c13 c14 c15; (repeat' (first | with_reducible exact hbR | with_reducible refine Below.setCell ?_ ?_ _ | with_reducible refine below_drewN ?_ _ | with_reducible refine Below.alloc ?_ ?_ _ | with_reducible exact Below.refl _ _ | (simp; done) | (simp; omega)))
      ·obtain ⟨he, hg⟩ := Ak.err_ok HBG.out HOK.out (by rw [<- HA.out]; exact hin)
       have hin2 : Ak.inside ⟨a.fc, a.rd, a.ct, a.wr, a.mn, a.vs⟩ = true := hin
       rw [<- HA.out] at hg
       have HE := Lib.hid he
       have HGT := Lib.hid hg
       clear he hg d1 d2 d3 hx hr h0 hlg
       go_wp2
       (try simp only [Exit.inBlock, Exit.then])
       refine bodyPost_ret (v := .tuple #[.agg #[.int .i64 a.fc, .int .i64 a.rd, .int .i64 a.ct, .int .i64 a.wr, .int .i64 a.mn, .slice A n c], .int .i64 0]) ?_ rfl ⟨A, n, c, by rw [HE.out, HGT.out], ?_, ?_, fun hn => by obtain ⟨b, e, h⟩ := HF.out hn; exact ⟨b, e, by omega, HCP.out hn⟩⟩
       ·rw [results_cell_tmp rfl]
        go_simp
       ·rw [HGT.out]
        refine ints_box (HI.out.kept hRV) HF.out _ (by simp) (fun p h1 h2 => ?_)
        repeat (rw [far_set _ (by show p.block ≠ _; simp; omega)])
       ·clear c00 c01 c02 c03 c04 c05 c10 c11 c12 c13 c14 c15 r0
        (repeat' (first | with_reducible exact hbR | with_reducible refine Below.setCell ?_ ?_ _ | with_reducible refine below_drewN ?_ _ | with_reducible refine Below.alloc ?_ ?_ _ | with_reducible exact Below.refl _ _ | (simp; done) | (simp; omega)))
end Go.Proofs.YtaciogcpghbhjaaGreat.Ask
