/- The developers' requests: whether one is shaped, and may be. Conditions: none. -/
import Derived.Test.YtijnajlijdnbcaaAskN
import Derived.Test.YtijnajlijdnbcaaAskP
import Derived.Deep.Cut
namespace Go.Proofs.Ytijnajlijdnbcaa.Ask
set_option maxRecDepth 100000
set_option linter.unusedVariables false
open Go.ChangeShapes Go.WideShapes Go.ChangeAt Go.RowKit
open Ref6 (ret_bool ret_int Boxed)

theorem Boxed.kept {p : Nat} {a : AskP} {A : Option Addr} {n c : Nat} {w w' : World} (h : Boxed p a A n c w) (hk : Keep w w') (hp : p < w.heap.size) : Boxed p a A n c w' := h.below hk hp

set_option maxHeartbeats 1000000 in
theorem areValues_any (A : Option Addr) (n c : Nat) (fc rd ct wr mn most : Int) (vs : List Int) (w : World) (hn : n ≤ maxLen) (hnd : Ak.need ⟨fc, rd, ct, wr, mn, vs⟩ ≤ 1000000) (hA : Ints .i64 w w.heap.size A n vs) :
    Calls Try.prog 56 #[.agg #[.int .i64 fc, .int .i64 rd, .int .i64 ct, .int .i64 wr, .int .i64 mn, .slice A n c], .int .i64 most] w
      fun e w' => e = .returned (.bool ((vs.length : Int) == Ak.need ⟨fc, rd, ct, wr, mn, vs⟩ && Ak.allTo most vs)) ∧ Keep w w' := by
  have HL := Lib.hid hA.1
  have hbx := Boxed.new w ⟨fc, rd, ct, wr, mn, vs⟩ A n c 33
  have k1 := (Keep.refl w).alloc (.cells #[.int .i64 fc, .int .i64 rd, .int .i64 ct, .int .i64 wr, .int .i64 mn, .slice A n c] 33)
  obtain ⟨X, hX⟩ : ∃ X, X = (w.alloc (.cells #[.int .i64 fc, .int .i64 rd, .int .i64 ct, .int .i64 wr, .int .i64 mn, .slice A n c] 33)).alloc (.cells #[.int .i64 most] 3) := ⟨_, rfl⟩
  have hkX : Keep w X := by rw [hX]; exact k1.alloc _
  have hbX : Boxed w.heap.size ⟨fc, rd, ct, wr, mn, vs⟩ A n c X := by rw [hX]; exact hbx.below ((Keep.refl _).alloc _) (by simp)
  have hcX : X.cell? ⟨w.heap.size + 1, 0, none⟩ = some (.int .i64 most) := by rw [hX]; go_simp
  have hsX : w.heap.size + 2 = X.heap.size := by rw [hX]; simp
  have hAX := hA.kept hkX
  have hX0 : ∀ W, Keep X W → Boxed w.heap.size ⟨fc, rd, ct, wr, mn, vs⟩ A n c W ∧ W.cell? ⟨w.heap.size + 1, 0, none⟩ = some (.int .i64 most) := fun W h =>
    ⟨hbX.below h (by omega), (h.cell (p := ⟨w.heap.size + 1, 0, none⟩) (by show w.heap.size + 1 < _; omega)).trans hcX⟩
  have hS : ∀ W, Keep X W → W.cell? ⟨w.heap.size, 5, none⟩ = some (.slice A n c) ∧ W.cell? ⟨w.heap.size, 0, none⟩ = some (.int .i64 fc) ∧ W.cell? ⟨w.heap.size, 1, none⟩ = some (.int .i64 rd) ∧ W.cell? ⟨w.heap.size, 2, none⟩ = some (.int .i64 ct) ∧ W.cell? ⟨w.heap.size, 3, none⟩ = some (.int .i64 wr) ∧ W.cell? ⟨w.heap.size, 4, none⟩ = some (.int .i64 mn) := fun W h => by
    obtain ⟨⟨c0, c1, c2, c3, c4, c5⟩, _⟩ := hX0 _ h
    exact ⟨c5, c0, c1, c2, c3, c4⟩
  obtain ⟨nd, hnd'⟩ : ∃ nd, nd = Ak.need ⟨fc, rd, ct, wr, mn, vs⟩ := ⟨_, rfl⟩
  rw [← hnd'] at hnd
  have HN := Lib.hid hnd'
  clear hnd' hbx k1 hA
  go_enter Try.func56, Try.ntmps56
  go_wp2
  rw [← hX]
  clear hX hbX hcX
  go_region_held3 (fun w' => w'.cell? ⟨w.heap.size, 5, none⟩ = some (.slice A n c) ∧ w'.cell? ⟨w.heap.size, 0, none⟩ = some (.int .i64 fc) ∧ w'.cell? ⟨w.heap.size, 1, none⟩ = some (.int .i64 rd) ∧ w'.cell? ⟨w.heap.size, 2, none⟩ = some (.int .i64 ct) ∧ w'.cell? ⟨w.heap.size, 3, none⟩ = some (.int .i64 wr) ∧ w'.cell? ⟨w.heap.size, 4, none⟩ = some (.int .i64 mn))
    (first
      | exact hS _ hw
      | exact hS _ (keepd (Keep.refl X))
      | fail)
    ((first
      | (go_at_call 63; refine (valueCount_any A n c fc rd ct wr mn _ vs).mono ?_; rintro e w3 ⟨rfl, hb3⟩; rw [← HN.out]; have hw : Keep X w3 := Below.trans (keepd (Keep.refl X)) hb3)
      | fail))
  obtain ⟨⟨c0, c1, c2, c3, c4, c5⟩, cm⟩ := hX0 _ hw
  simp only at c0 c1 c2 c3 c4 c5
  by_cases hl : (n : Int) = nd
  · have d9 : ((n : Int) != nd) = false := by simpa using hl
    have hn6 : n ≤ 1000000 := by omega
    have hf : ((vs.length : Int) == Ak.need ⟨fc, rd, ct, wr, mn, vs⟩ && Ak.allTo most vs) = Ak.allTo most vs := by
      rw [HL.out, ← HN.out, hl]; simp
    have HF := Lib.hid hf
    clear hf hl
    go_wp2_with fail
    refine (contains_any A n c vs most (w.heap.size + 1) _ hn6 (hAX.kept hw) cm).mono ?_
    rintro e w4 ⟨rfl, rfl⟩
    go_wp2
    go_ret
    refine ⟨ret_bool ?_, hkX.trans hw⟩
    rw [HF.out]
  · have d9 : ((n : Int) != nd) = true := by simpa using hl
    have hf : ((vs.length : Int) == Ak.need ⟨fc, rd, ct, wr, mn, vs⟩ && Ak.allTo most vs) = false := by
      rw [HL.out, ← HN.out]; simp [hl]
    have HF := Lib.hid hf
    clear hf hl
    go_wp2
    go_ret
    exact ⟨ret_bool HF.out.symm, hkX.trans hw⟩

theorem set3 {W : World} {p q : Nat} {a b c : Value} (h : p ≠ q) : (((W.setCell ⟨q, 0, none⟩ a).setCell ⟨q, 1, none⟩ b).setCell ⟨q, 2, none⟩ c).cell? ⟨p, 0, none⟩ = W.cell? ⟨p, 0, none⟩ := by
  rw [World.cell?_of_block (Below.heap_setCell _ _ _ _ h), World.cell?_of_block (Below.heap_setCell _ _ _ _ h), World.cell?_of_block (Below.heap_setCell _ _ _ _ h)]
theorem lims_new {X w3 : World} {o : Obj} (h : Lims w3 (X.alloc o).drew.heap.size) : Lims w3 (X.heap.size + 1) := by
  have e : (X.alloc o).drew.heap.size = X.heap.size + 1 := Array.size_push _
  rwa [e] at h
theorem lim_new {X w3 : World} {e : TypeId} (h : Keep (X.alloc (.cells #[.int .i64 0, .int .i64 0, .int .i64 0] e)).drew w3) : w3.frozen? ⟨X.heap.size, 0, none⟩ = false ∧ w3.frozen? ⟨X.heap.size, 1, none⟩ = false ∧ w3.frozen? ⟨X.heap.size, 2, none⟩ = false ∧
    w3.cell? ⟨X.heap.size, 0, none⟩ = some (.int .i64 0) ∧ w3.cell? ⟨X.heap.size, 1, none⟩ = some (.int .i64 0) ∧ w3.cell? ⟨X.heap.size, 2, none⟩ = some (.int .i64 0) ∧ X.heap.size < w3.heap.size := by
  have hlt : X.heap.size < (X.alloc (.cells #[.int .i64 0, .int .i64 0, .int .i64 0] e)).drew.heap.size := by simp
  refine ⟨(h.frozen hlt).trans (by go_simp), (h.frozen hlt).trans (by go_simp), (h.frozen hlt).trans (by go_simp), (h.cell hlt).trans (by go_simp), (h.cell hlt).trans (by go_simp), (h.cell hlt).trans (by go_simp), Nat.lt_of_lt_of_le hlt h.size⟩
set_option maxHeartbeats 1000000 in
theorem isShaped_any (A : Option Addr) (n c : Nat) (fc rd ct wr mn : Int) (vs : List Int) (w : World) (hn : n ≤ maxLen) (hA : Ints .i64 w w.heap.size A n vs) :
    Calls Try.prog 47 #[.agg #[.int .i64 fc, .int .i64 rd, .int .i64 ct, .int .i64 wr, .int .i64 mn, .slice A n c]] w
      fun e w' => e = .returned (.bool (Ak.shaped ⟨fc, rd, ct, wr, mn, vs⟩)) ∧ Keep w w' := by
  obtain ⟨X, hX⟩ : ∃ X, X = w.alloc (.cells #[.int .i64 fc, .int .i64 rd, .int .i64 ct, .int .i64 wr, .int .i64 mn, .slice A n c] 33) := ⟨_, rfl⟩
  have hkX : Keep w X := by rw [hX]; exact (Keep.refl w).alloc _
  have hbX : Boxed w.heap.size ⟨fc, rd, ct, wr, mn, vs⟩ A n c X := by rw [hX]; exact Boxed.new w ⟨fc, rd, ct, wr, mn, vs⟩ A n c 33
  have hsX : w.heap.size + 1 = X.heap.size := by rw [hX]; simp
  have hAX := hA.kept hkX
  have hX0 : ∀ W, Keep X W → Boxed w.heap.size ⟨fc, rd, ct, wr, mn, vs⟩ A n c W := fun W h => hbX.below h (by omega)
  have hS : ∀ W, Keep X W → W.cell? ⟨w.heap.size, 0, none⟩ = some (.int .i64 fc) := fun W h => (hX0 W h).1
  obtain ⟨nr, hnr⟩ : ∃ b, b = Ak.reads fc := ⟨_, rfl⟩
  obtain ⟨nw, hnw⟩ : ∃ b, b = Ak.wmax fc := ⟨_, rfl⟩
  obtain ⟨tp, htp⟩ : ∃ b, b = Ak.wtop fc := ⟨_, rfl⟩
  obtain ⟨kn, hkn⟩ : ∃ b, b = Ak.known fc := ⟨_, rfl⟩
  have hlk : ∀ W b, Lims W b → (Instr.lookup 75 (.map (some b)) (.int .i64 fc) true).run Try.prog W = .ok (.tuple #[.agg #[.int .i64 nr, .int .i64 nw, .int .i64 tp], .bool kn]) W := fun W b h => by
    rw [hnr, hnw, htp, hkn]; exact h.look fc
  have HS := Lib.hid (show Ak.shaped ⟨fc, rd, ct, wr, mn, vs⟩ = (kn && Ak.partD nr rd ct && Ak.partD nw wr mn && ((vs.length : Int) == Ak.need ⟨fc, rd, ct, wr, mn, vs⟩ && Ak.allTo tp vs)) by rw [Ak.shaped, hnr, hnw, htp, hkn])
  have HNW := Lib.hid (show nw ≤ 1968 ∧ 0 ≤ nw by rw [hnw]; exact ⟨Ak.wmax_le fc, Ak.wmax_nn fc⟩)
  clear hnr hnw htp hkn hA hbX
  have HLK := Lib.hid hlk
  clear hlk
  go_enter Try.func47, Try.ntmps47
  go_wp2
  rw [← hX]
  clear hX
  go_cut [3, 4] from 5 (fun p v W => ∃ q : Nat, p = .pointer (some ⟨q, 0, none⟩) ∧ v = .bool kn ∧ W.cell? ⟨q, 0, none⟩ = some (.int .i64 nr) ∧ W.cell? ⟨q, 1, none⟩ = some (.int .i64 nw) ∧ W.cell? ⟨q, 2, none⟩ = some (.int .i64 tp) ∧ q < W.heap.size ∧ Keep X W)
  case first =>
    go_region_held3 (fun w' => w'.cell? ⟨w.heap.size, 0, none⟩ = some (.int .i64 fc))
      (first
        | exact hS _ hw
        | exact hS _ (hw.alloc _)
        | exact hS _ (keepd (Keep.refl X))
        | exact hS _ ((keepd (Keep.refl X)).alloc _)
        | exact (set3 (by omega)).trans (hS _ hw)
        | exact (set3 (by omega)).trans (hS _ (hw.alloc _))
        | fail)
      ((first
        | (go_at_call 54; refine (limits_any _).mono ?_; rintro e w3 ⟨rfl, hl, hb3⟩; have hw : Keep X w3 := Keep.trans (keepd ((Keep.refl X).alloc _)) hb3; have hlk := HLK.out w3 (X.heap.size + 1) (lims_new hl); have hc3 := lim_new hb3; have hs3 := hw.size)
        | (go_at_call 54; refine (limits_any _).mono ?_; rintro e w3 ⟨rfl, hl, hb3⟩; have hw : Keep X w3 := Below.trans (keepd (Keep.refl X)) hb3; have hs3 := hw.size; have hlk := HLK.out w3 X.heap.size hl; have hlk2 := HLK.out _ X.heap.size (hl.keep ((Keep.refl w3).alloc (.cells #[.int .i64 0, .int .i64 0, .int .i64 0] 73))))
        | fail))
    · go_wp2_with fail
      go_meet
      exact ⟨w3.heap.size, rfl, rfl, by go_simp, by go_simp, by go_simp, by simp, hw.alloc _⟩
    · go_wp2_with fail
      go_meet
      exact ⟨w3.heap.size, rfl, rfl, by go_simp, by go_simp, by go_simp, by simp, hw.alloc _⟩
    · go_wp2_with fail
      go_meet
      obtain ⟨f0, f1, f2, z0, z1, z2, hlt⟩ := hc3
      exact ⟨X.heap.size, rfl, rfl, by go_simp, by go_simp, by go_simp, by simpa using hlt, ((hw.setCell (Nat.le_refl _) _).setCell (Nat.le_refl _) _).setCell (Nat.le_refl _) _⟩
  case rest =>
    obtain ⟨q, rfl, rfl, l0, l1, l2, hq, hkc⟩ := hcut
    obtain ⟨c0, c1, c2, c3, c4, c5⟩ := hX0 _ hkc
    simp only at c0 c1 c2 c3 c4 c5
    cases kn
    · go_wp2
      go_ret
      exact ⟨ret_bool (by rw [HS.out]; rfl), hkX.trans hkc⟩
    · go_wp2_with fail
      refine (isPart_any rd ct nr _).mono ?_
      rintro e w4 ⟨rfl, rfl⟩
      cases h1 : Ak.partD nr rd ct
      · go_wp2
        go_ret
        exact ⟨ret_bool (by rw [HS.out, h1]; rfl), hkX.trans hkc⟩
      · go_wp2_with fail
        refine (isPart_any wr mn nw _).mono ?_
        rintro e w4 ⟨rfl, rfl⟩
        cases h2 : Ak.partD nw wr mn
        · go_wp2
          go_ret
          exact ⟨ret_bool (by rw [HS.out, h1, h2]; rfl), hkX.trans hkc⟩
        · have hnd : Ak.need ⟨fc, rd, ct, wr, mn, vs⟩ ≤ 1000000 := by
            have h := (Ak.partD_nn nw wr mn HNW.out.2 h2).2.2
            have h' := HNW.out.1
            unfold Ak.need Ak.wtwo
            simp only
            repeat' split
            all_goals omega
          go_wp2_with fail
          refine (areValues_any A n c fc rd ct wr mn tp vs _ hn hnd (hAX.kept hkc)).mono ?_
          rintro e w5 ⟨rfl, hk5⟩
          go_wp2
          go_ret
          exact ⟨ret_bool (by rw [HS.out, h1, h2]; rfl), (hkX.trans hkc).trans hk5⟩

set_option maxHeartbeats 1000000 in
theorem right_any (A : Option Addr) (n c : Nat) (a : AskP) (w : World) (hn : n ≤ maxLen) (hA : Ints .i64 w w.heap.size A n a.vs) :
    Calls Try.prog 38 #[.agg #[.int .i64 a.fc, .int .i64 a.rd, .int .i64 a.ct, .int .i64 a.wr, .int .i64 a.mn, .slice A n c]] w fun e w' => e = .returned (.bool (Ak.right a)) ∧ Keep w w' := by
  obtain ⟨fc, rd, ct, wr, mn, vs⟩ := a
  simp only at hA ⊢
  have hbx := Boxed.new w ⟨fc, rd, ct, wr, mn, vs⟩ A n c 33
  have k0 := (Keep.refl w).alloc (.cells #[.int .i64 fc, .int .i64 rd, .int .i64 ct, .int .i64 wr, .int .i64 mn, .slice A n c] 33)
  have HR := Lib.hid (Ak.right_D ⟨fc, rd, ct, wr, mn, vs⟩)
  go_enter Try.func38, Try.ntmps38
  go_wp2_with fail
  refine (isShaped_any A n c fc rd ct wr mn vs _ hn (hA.kept k0)).mono ?_
  rintro e w1 ⟨rfl, hK⟩
  obtain ⟨c0, c1, c2, c3, c4, c5⟩ := hbx.below hK (by simp)
  simp only at c0 c1 c2 c3 c4 c5
  replace k0 := k0.trans hK
  clear hbx hK hA
  cases hs : Ak.shaped ⟨fc, rd, ct, wr, mn, vs⟩
  · go_wp2
    go_ret
    exact ⟨ret_bool (by rw [HR.out, hs]; rfl), k0⟩
  · have hb := Ak.shaped_nn hs
    simp only at hb
    go_wp2_with fail
    refine (isInside_any A n c fc rd ct wr mn _ ⟨hb.1.2.1, hb.1.2.2, hb.2.2.1, hb.2.2.2⟩ vs).mono ?_
    rintro e w2 ⟨rfl, hK2⟩
    go_wp2
    go_ret
    exact ⟨ret_bool (by rw [HR.out, hs]; rfl), k0.trans hK2⟩
end Go.Proofs.Ytijnajlijdnbcaa.Ask
