/- Layer 6's law AskSizes. Conditions: none beyond the law's own. -/
import Derived.Test.YtfeidijfjkegkaaAskL
namespace Go.Proofs.Ytfeidijfjkegkaa.Ask
set_option linter.unusedVariables false
open Go.ChangeShapes Go.WideShapes Go.ChangeAt Go.RowKit

theorem right_len {a : AskP} (h : Ak.right a = true) : a.vs.length ≤ 3000 := by
  have hf := ((Ak.right_iff a).1 h).1
  rcases Ak.cases_formed hf with ⟨fc, rd, ct, rfl, _⟩ | ⟨wr, z, rfl, _⟩ | ⟨wr, z, rfl, _⟩ | ⟨wr, y, z, rfl, _⟩ | ⟨wr, vs, rfl, h0, h1, h2, h3, hb⟩ | ⟨wr, vs, rfl, h0, h1, h2, h3, hb⟩ | ⟨rd, ct, wr, vs, rfl, hrd, hct, h0, h1, h2, h3, hb⟩ <;> simp <;> omega
theorem put_not {a : AskP} (h : Ak.right a = false) : Ak.put a = [] := by rw [Ak.put, h]; rfl
set_option maxHeartbeats 1000000 in
/-- Not a request: nothing is put. -/
theorem sizes_not (A : Option Addr) (n c : Nat) (a : AskP) (w : World) (hn : n ≤ maxLen) (hA : Ints .i64 w w.heap.size A n a.vs) (hr : Ak.right a = false) :
    Calls Try.prog 6 #[.agg #[.int .i64 a.fc, .int .i64 a.rd, .int .i64 a.ct, .int .i64 a.wr, .int .i64 a.mn, .slice A n c]] w fun e w' => e = .returned (.bool true) ∧ Keep w w' := by
  have hp := put_not hr
  obtain ⟨fc, rd, ct, wr, mn, vs⟩ := a
  simp only at hA ⊢
  have bx := Ref6.Boxed.new w ⟨fc, rd, ct, wr, mn, vs⟩ A n c 24
  have k0 := (Keep.refl w).alloc (.cells #[.int .i64 fc, .int .i64 rd, .int .i64 ct, .int .i64 wr, .int .i64 mn, .slice A n c] 24)
  go_enter Try.func6, Try.ntmps6
  go_wp2_with fail
  refine (put_any A n c ⟨fc, rd, ct, wr, mn, vs⟩ _ hn (hA.kept k0)).mono ?_
  rintro e w1 ⟨rfl, hb⟩
  rw [hp, hr, show st [] = ⟨#[]⟩ from rfl]
  have bx := bx.below hb (by simp)
  obtain ⟨c0, c1, c2, c3, c4, c5⟩ := bx
  simp only at c0 c1 c2 c3 c4 c5
  replace k0 := k0.trans hb
  clear hb
  unfold maxLen at hn
  by_cases h : 3000 < n
  · have d1 : decide ((3000 : Int) < n) = true := by simp; omega
    go_wp2_with fail
    refine (awake_any _).mono ?_
    rintro e w2 ⟨rfl, k2⟩
    go_wp2
    go_ret
    exact ⟨rfl, k0.trans k2⟩
  · have d1 : decide ((3000 : Int) < n) = false := by simp; omega
    go_wp2_with fail
    refine (awake_any _).mono ?_
    rintro e w2 ⟨rfl, k2⟩
    go_wp2
    go_ret
    exact ⟨rfl, k0.trans k2⟩

set_option maxHeartbeats 2000000 in
theorem sizes_1 (A : Option Addr) (c : Nat) (rd ct : Int) (w : World)  (hr : Ak.right ⟨1, rd, ct, 0, 0, []⟩ = true) (hA : Ints .i64 w w.heap.size A 0 []) :
    Calls Try.prog 6 #[.agg #[.int .i64 1, .int .i64 rd, .int .i64 ct, .int .i64 0, .int .i64 0, .slice A 0 c]] w fun e w' => e = .returned (.bool true) ∧ Keep w w' := by
  have hf := ((Ak.right_iff _).1 hr).1
  obtain ⟨_, _, hbeg, hlen⟩ := Ak.back1 hf
  have hpb : Ak.put ⟨1, rd, ct, 0, 0, []⟩ = Ak.bytes ⟨1, rd, ct, 0, 0, []⟩ := by rw [Ak.put, hr]; rfl
  obtain ⟨P, hP⟩ : ∃ P, P = st (Ak.put ⟨1, rd, ct, 0, 0, []⟩) := ⟨_, rfl⟩
  have hPs : (P.size : Int) = 5 := by
    rw [hP, hpb, st_size, hlen]
    simp [Ak.sizeOf]
  have hx : ∀ W : World, (Instr.index 9 (.string P) (.int .i64 0)).run Try.prog W = .ok (.int .u8 1) W := by
    have hh : byteAt P 0 = 1 := by
      rw [hP, hpb]
      exact Ak.byteAt_head _ _
    rw [← hh]
    exact idx (P := Try.prog) (k := .i64) P 0 Try.underlying9 (by omega) (by omega)
  have hE : ((P.size : Int) == 5) = true := by simpa using hPs
  have HP := Lib.hid hP
  have HPS := Lib.hid hPs
  clear hf hbeg hlen hpb hP hPs
  have bx := Ref6.Boxed.new w ⟨1, rd, ct, 0, 0, []⟩ A 0 c 24
  have k0 := (Keep.refl w).alloc (.cells #[.int .i64 1, .int .i64 rd, .int .i64 ct, .int .i64 0, .int .i64 0, .slice A 0 c] 24)
  have d1 : decide ((3000 : Int) < (0 : Nat)) = false := by simp <;> omega
  go_enter Try.func6, Try.ntmps6
  go_wp2_with fail
  refine (put_any A 0 c ⟨1, rd, ct, 0, 0, []⟩ _ (by unfold maxLen; omega) (hA.kept k0)).mono ?_
  rintro e w1 ⟨rfl, hb⟩
  rw [← HP.out, hr]
  have bx := bx.below hb (by simp)
  have hlt : w.heap.size < w1.heap.size := by have := hb.size; simp at this; omega
  obtain ⟨c0, c1, c2, c3, c4, c5⟩ := bx
  simp only at c0 c1 c2 c3 c4 c5
  replace k0 := k0.trans hb
  clear hb
  go_wp2
  have hX : ∀ W, Keep w1 W → W.cell? ⟨w.heap.size, 0, none⟩ = some (.int .i64 1) := fun W h => (h.cell (p := ⟨w.heap.size, 0, none⟩) hlt).trans c0
  clear c1 c2 c3 c4 c5 hA
  go_region_held3 (fun w' => w'.cell? ⟨w.heap.size, 0, none⟩ = some (.int .i64 1))
    (first
      | exact hX _ hw
      | exact hX _ (keepd (Keep.refl w1))
      | exact hX _ (Keep.refl w1)
      | fail)
    ((first
      | (go_at_call 7; refine (awake_any _).mono ?_; rintro e w2 ⟨rfl, k2⟩; have hw : Keep w1 w2 := (keepd (Keep.refl w1)).trans k2)
      | fail))
  go_wp2
  go_ret
  exact ⟨rfl, k0.trans hw⟩

set_option maxHeartbeats 2000000 in
theorem sizes_2 (A : Option Addr) (c : Nat) (rd ct : Int) (w : World)  (hr : Ak.right ⟨2, rd, ct, 0, 0, []⟩ = true) (hA : Ints .i64 w w.heap.size A 0 []) :
    Calls Try.prog 6 #[.agg #[.int .i64 2, .int .i64 rd, .int .i64 ct, .int .i64 0, .int .i64 0, .slice A 0 c]] w fun e w' => e = .returned (.bool true) ∧ Keep w w' := by
  have hf := ((Ak.right_iff _).1 hr).1
  obtain ⟨_, _, hbeg, hlen⟩ := Ak.back1 hf
  have hpb : Ak.put ⟨2, rd, ct, 0, 0, []⟩ = Ak.bytes ⟨2, rd, ct, 0, 0, []⟩ := by rw [Ak.put, hr]; rfl
  obtain ⟨P, hP⟩ : ∃ P, P = st (Ak.put ⟨2, rd, ct, 0, 0, []⟩) := ⟨_, rfl⟩
  have hPs : (P.size : Int) = 5 := by
    rw [hP, hpb, st_size, hlen]
    simp [Ak.sizeOf]
  have hx : ∀ W : World, (Instr.index 9 (.string P) (.int .i64 0)).run Try.prog W = .ok (.int .u8 2) W := by
    have hh : byteAt P 0 = 2 := by
      rw [hP, hpb]
      exact Ak.byteAt_head _ _
    rw [← hh]
    exact idx (P := Try.prog) (k := .i64) P 0 Try.underlying9 (by omega) (by omega)
  have hE : ((P.size : Int) == 5) = true := by simpa using hPs
  have HP := Lib.hid hP
  have HPS := Lib.hid hPs
  clear hf hbeg hlen hpb hP hPs
  have bx := Ref6.Boxed.new w ⟨2, rd, ct, 0, 0, []⟩ A 0 c 24
  have k0 := (Keep.refl w).alloc (.cells #[.int .i64 2, .int .i64 rd, .int .i64 ct, .int .i64 0, .int .i64 0, .slice A 0 c] 24)
  have d1 : decide ((3000 : Int) < (0 : Nat)) = false := by simp <;> omega
  go_enter Try.func6, Try.ntmps6
  go_wp2_with fail
  refine (put_any A 0 c ⟨2, rd, ct, 0, 0, []⟩ _ (by unfold maxLen; omega) (hA.kept k0)).mono ?_
  rintro e w1 ⟨rfl, hb⟩
  rw [← HP.out, hr]
  have bx := bx.below hb (by simp)
  have hlt : w.heap.size < w1.heap.size := by have := hb.size; simp at this; omega
  obtain ⟨c0, c1, c2, c3, c4, c5⟩ := bx
  simp only at c0 c1 c2 c3 c4 c5
  replace k0 := k0.trans hb
  clear hb
  go_wp2
  have hX : ∀ W, Keep w1 W → W.cell? ⟨w.heap.size, 0, none⟩ = some (.int .i64 2) := fun W h => (h.cell (p := ⟨w.heap.size, 0, none⟩) hlt).trans c0
  clear c1 c2 c3 c4 c5 hA
  go_region_held3 (fun w' => w'.cell? ⟨w.heap.size, 0, none⟩ = some (.int .i64 2))
    (first
      | exact hX _ hw
      | exact hX _ (keepd (Keep.refl w1))
      | exact hX _ (Keep.refl w1)
      | fail)
    ((first
      | (go_at_call 7; refine (awake_any _).mono ?_; rintro e w2 ⟨rfl, k2⟩; have hw : Keep w1 w2 := (keepd (Keep.refl w1)).trans k2)
      | fail))
  go_wp2
  go_ret
  exact ⟨rfl, k0.trans hw⟩

set_option maxHeartbeats 2000000 in
theorem sizes_3 (A : Option Addr) (c : Nat) (rd ct : Int) (w : World)  (hr : Ak.right ⟨3, rd, ct, 0, 0, []⟩ = true) (hA : Ints .i64 w w.heap.size A 0 []) :
    Calls Try.prog 6 #[.agg #[.int .i64 3, .int .i64 rd, .int .i64 ct, .int .i64 0, .int .i64 0, .slice A 0 c]] w fun e w' => e = .returned (.bool true) ∧ Keep w w' := by
  have hf := ((Ak.right_iff _).1 hr).1
  obtain ⟨_, _, hbeg, hlen⟩ := Ak.back1 hf
  have hpb : Ak.put ⟨3, rd, ct, 0, 0, []⟩ = Ak.bytes ⟨3, rd, ct, 0, 0, []⟩ := by rw [Ak.put, hr]; rfl
  obtain ⟨P, hP⟩ : ∃ P, P = st (Ak.put ⟨3, rd, ct, 0, 0, []⟩) := ⟨_, rfl⟩
  have hPs : (P.size : Int) = 5 := by
    rw [hP, hpb, st_size, hlen]
    simp [Ak.sizeOf]
  have hx : ∀ W : World, (Instr.index 9 (.string P) (.int .i64 0)).run Try.prog W = .ok (.int .u8 3) W := by
    have hh : byteAt P 0 = 3 := by
      rw [hP, hpb]
      exact Ak.byteAt_head _ _
    rw [← hh]
    exact idx (P := Try.prog) (k := .i64) P 0 Try.underlying9 (by omega) (by omega)
  have hE : ((P.size : Int) == 5) = true := by simpa using hPs
  have HP := Lib.hid hP
  have HPS := Lib.hid hPs
  clear hf hbeg hlen hpb hP hPs
  have bx := Ref6.Boxed.new w ⟨3, rd, ct, 0, 0, []⟩ A 0 c 24
  have k0 := (Keep.refl w).alloc (.cells #[.int .i64 3, .int .i64 rd, .int .i64 ct, .int .i64 0, .int .i64 0, .slice A 0 c] 24)
  have d1 : decide ((3000 : Int) < (0 : Nat)) = false := by simp <;> omega
  go_enter Try.func6, Try.ntmps6
  go_wp2_with fail
  refine (put_any A 0 c ⟨3, rd, ct, 0, 0, []⟩ _ (by unfold maxLen; omega) (hA.kept k0)).mono ?_
  rintro e w1 ⟨rfl, hb⟩
  rw [← HP.out, hr]
  have bx := bx.below hb (by simp)
  have hlt : w.heap.size < w1.heap.size := by have := hb.size; simp at this; omega
  obtain ⟨c0, c1, c2, c3, c4, c5⟩ := bx
  simp only at c0 c1 c2 c3 c4 c5
  replace k0 := k0.trans hb
  clear hb
  go_wp2
  have hX : ∀ W, Keep w1 W → W.cell? ⟨w.heap.size, 0, none⟩ = some (.int .i64 3) := fun W h => (h.cell (p := ⟨w.heap.size, 0, none⟩) hlt).trans c0
  clear c1 c2 c3 c4 c5 hA
  go_region_held3 (fun w' => w'.cell? ⟨w.heap.size, 0, none⟩ = some (.int .i64 3))
    (first
      | exact hX _ hw
      | exact hX _ (keepd (Keep.refl w1))
      | exact hX _ (Keep.refl w1)
      | fail)
    ((first
      | (go_at_call 7; refine (awake_any _).mono ?_; rintro e w2 ⟨rfl, k2⟩; have hw : Keep w1 w2 := (keepd (Keep.refl w1)).trans k2)
      | fail))
  go_wp2
  go_ret
  exact ⟨rfl, k0.trans hw⟩

set_option maxHeartbeats 2000000 in
theorem sizes_4 (A : Option Addr) (c : Nat) (rd ct : Int) (w : World)  (hr : Ak.right ⟨4, rd, ct, 0, 0, []⟩ = true) (hA : Ints .i64 w w.heap.size A 0 []) :
    Calls Try.prog 6 #[.agg #[.int .i64 4, .int .i64 rd, .int .i64 ct, .int .i64 0, .int .i64 0, .slice A 0 c]] w fun e w' => e = .returned (.bool true) ∧ Keep w w' := by
  have hf := ((Ak.right_iff _).1 hr).1
  obtain ⟨_, _, hbeg, hlen⟩ := Ak.back1 hf
  have hpb : Ak.put ⟨4, rd, ct, 0, 0, []⟩ = Ak.bytes ⟨4, rd, ct, 0, 0, []⟩ := by rw [Ak.put, hr]; rfl
  obtain ⟨P, hP⟩ : ∃ P, P = st (Ak.put ⟨4, rd, ct, 0, 0, []⟩) := ⟨_, rfl⟩
  have hPs : (P.size : Int) = 5 := by
    rw [hP, hpb, st_size, hlen]
    simp [Ak.sizeOf]
  have hx : ∀ W : World, (Instr.index 9 (.string P) (.int .i64 0)).run Try.prog W = .ok (.int .u8 4) W := by
    have hh : byteAt P 0 = 4 := by
      rw [hP, hpb]
      exact Ak.byteAt_head _ _
    rw [← hh]
    exact idx (P := Try.prog) (k := .i64) P 0 Try.underlying9 (by omega) (by omega)
  have hE : ((P.size : Int) == 5) = true := by simpa using hPs
  have HP := Lib.hid hP
  have HPS := Lib.hid hPs
  clear hf hbeg hlen hpb hP hPs
  have bx := Ref6.Boxed.new w ⟨4, rd, ct, 0, 0, []⟩ A 0 c 24
  have k0 := (Keep.refl w).alloc (.cells #[.int .i64 4, .int .i64 rd, .int .i64 ct, .int .i64 0, .int .i64 0, .slice A 0 c] 24)
  have d1 : decide ((3000 : Int) < (0 : Nat)) = false := by simp <;> omega
  go_enter Try.func6, Try.ntmps6
  go_wp2_with fail
  refine (put_any A 0 c ⟨4, rd, ct, 0, 0, []⟩ _ (by unfold maxLen; omega) (hA.kept k0)).mono ?_
  rintro e w1 ⟨rfl, hb⟩
  rw [← HP.out, hr]
  have bx := bx.below hb (by simp)
  have hlt : w.heap.size < w1.heap.size := by have := hb.size; simp at this; omega
  obtain ⟨c0, c1, c2, c3, c4, c5⟩ := bx
  simp only at c0 c1 c2 c3 c4 c5
  replace k0 := k0.trans hb
  clear hb
  go_wp2
  have hX : ∀ W, Keep w1 W → W.cell? ⟨w.heap.size, 0, none⟩ = some (.int .i64 4) := fun W h => (h.cell (p := ⟨w.heap.size, 0, none⟩) hlt).trans c0
  clear c1 c2 c3 c4 c5 hA
  go_region_held3 (fun w' => w'.cell? ⟨w.heap.size, 0, none⟩ = some (.int .i64 4))
    (first
      | exact hX _ hw
      | exact hX _ (keepd (Keep.refl w1))
      | exact hX _ (Keep.refl w1)
      | fail)
    ((first
      | (go_at_call 7; refine (awake_any _).mono ?_; rintro e w2 ⟨rfl, k2⟩; have hw : Keep w1 w2 := (keepd (Keep.refl w1)).trans k2)
      | fail))
  go_wp2
  go_ret
  exact ⟨rfl, k0.trans hw⟩

set_option maxHeartbeats 2000000 in
theorem sizes_5 (A : Option Addr) (c : Nat) (wr z : Int) (w : World)  (hr : Ak.right ⟨5, 0, 0, wr, 1, [z]⟩ = true) (hA : Ints .i64 w w.heap.size A 1 [z]) :
    Calls Try.prog 6 #[.agg #[.int .i64 5, .int .i64 0, .int .i64 0, .int .i64 wr, .int .i64 1, .slice A 1 c]] w fun e w' => e = .returned (.bool true) ∧ Keep w w' := by
  have hf := ((Ak.right_iff _).1 hr).1
  obtain ⟨_, _, hbeg, hlen⟩ := Ak.back1 hf
  have hpb : Ak.put ⟨5, 0, 0, wr, 1, [z]⟩ = Ak.bytes ⟨5, 0, 0, wr, 1, [z]⟩ := by rw [Ak.put, hr]; rfl
  obtain ⟨P, hP⟩ : ∃ P, P = st (Ak.put ⟨5, 0, 0, wr, 1, [z]⟩) := ⟨_, rfl⟩
  have hPs : (P.size : Int) = 5 := by
    rw [hP, hpb, st_size, hlen]
    simp [Ak.sizeOf]
  have hx : ∀ W : World, (Instr.index 9 (.string P) (.int .i64 0)).run Try.prog W = .ok (.int .u8 5) W := by
    have hh : byteAt P 0 = 5 := by
      rw [hP, hpb]
      exact Ak.byteAt_head _ _
    rw [← hh]
    exact idx (P := Try.prog) (k := .i64) P 0 Try.underlying9 (by omega) (by omega)
  have hE : ((P.size : Int) == 5) = true := by simpa using hPs
  have HP := Lib.hid hP
  have HPS := Lib.hid hPs
  clear hf hbeg hlen hpb hP hPs
  have bx := Ref6.Boxed.new w ⟨5, 0, 0, wr, 1, [z]⟩ A 1 c 24
  have k0 := (Keep.refl w).alloc (.cells #[.int .i64 5, .int .i64 0, .int .i64 0, .int .i64 wr, .int .i64 1, .slice A 1 c] 24)
  have d1 : decide ((3000 : Int) < (1 : Nat)) = false := by simp <;> omega
  go_enter Try.func6, Try.ntmps6
  go_wp2_with fail
  refine (put_any A 1 c ⟨5, 0, 0, wr, 1, [z]⟩ _ (by unfold maxLen; omega) (hA.kept k0)).mono ?_
  rintro e w1 ⟨rfl, hb⟩
  rw [← HP.out, hr]
  have bx := bx.below hb (by simp)
  have hlt : w.heap.size < w1.heap.size := by have := hb.size; simp at this; omega
  obtain ⟨c0, c1, c2, c3, c4, c5⟩ := bx
  simp only at c0 c1 c2 c3 c4 c5
  replace k0 := k0.trans hb
  clear hb
  go_wp2
  have hX : ∀ W, Keep w1 W → W.cell? ⟨w.heap.size, 0, none⟩ = some (.int .i64 5) := fun W h => (h.cell (p := ⟨w.heap.size, 0, none⟩) hlt).trans c0
  clear c1 c2 c3 c4 c5 hA
  go_region_held3 (fun w' => w'.cell? ⟨w.heap.size, 0, none⟩ = some (.int .i64 5))
    (first
      | exact hX _ hw
      | exact hX _ (keepd (Keep.refl w1))
      | exact hX _ (Keep.refl w1)
      | fail)
    ((first
      | (go_at_call 7; refine (awake_any _).mono ?_; rintro e w2 ⟨rfl, k2⟩; have hw : Keep w1 w2 := (keepd (Keep.refl w1)).trans k2)
      | fail))
  go_wp2
  go_ret
  exact ⟨rfl, k0.trans hw⟩

set_option maxHeartbeats 2000000 in
theorem sizes_6 (A : Option Addr) (c : Nat) (wr z : Int) (w : World)  (hr : Ak.right ⟨6, 0, 0, wr, 1, [z]⟩ = true) (hA : Ints .i64 w w.heap.size A 1 [z]) :
    Calls Try.prog 6 #[.agg #[.int .i64 6, .int .i64 0, .int .i64 0, .int .i64 wr, .int .i64 1, .slice A 1 c]] w fun e w' => e = .returned (.bool true) ∧ Keep w w' := by
  have hf := ((Ak.right_iff _).1 hr).1
  obtain ⟨_, _, hbeg, hlen⟩ := Ak.back1 hf
  have hpb : Ak.put ⟨6, 0, 0, wr, 1, [z]⟩ = Ak.bytes ⟨6, 0, 0, wr, 1, [z]⟩ := by rw [Ak.put, hr]; rfl
  obtain ⟨P, hP⟩ : ∃ P, P = st (Ak.put ⟨6, 0, 0, wr, 1, [z]⟩) := ⟨_, rfl⟩
  have hPs : (P.size : Int) = 5 := by
    rw [hP, hpb, st_size, hlen]
    simp [Ak.sizeOf]
  have hx : ∀ W : World, (Instr.index 9 (.string P) (.int .i64 0)).run Try.prog W = .ok (.int .u8 6) W := by
    have hh : byteAt P 0 = 6 := by
      rw [hP, hpb]
      exact Ak.byteAt_head _ _
    rw [← hh]
    exact idx (P := Try.prog) (k := .i64) P 0 Try.underlying9 (by omega) (by omega)
  have hE : ((P.size : Int) == 5) = true := by simpa using hPs
  have HP := Lib.hid hP
  have HPS := Lib.hid hPs
  clear hf hbeg hlen hpb hP hPs
  have bx := Ref6.Boxed.new w ⟨6, 0, 0, wr, 1, [z]⟩ A 1 c 24
  have k0 := (Keep.refl w).alloc (.cells #[.int .i64 6, .int .i64 0, .int .i64 0, .int .i64 wr, .int .i64 1, .slice A 1 c] 24)
  have d1 : decide ((3000 : Int) < (1 : Nat)) = false := by simp <;> omega
  go_enter Try.func6, Try.ntmps6
  go_wp2_with fail
  refine (put_any A 1 c ⟨6, 0, 0, wr, 1, [z]⟩ _ (by unfold maxLen; omega) (hA.kept k0)).mono ?_
  rintro e w1 ⟨rfl, hb⟩
  rw [← HP.out, hr]
  have bx := bx.below hb (by simp)
  have hlt : w.heap.size < w1.heap.size := by have := hb.size; simp at this; omega
  obtain ⟨c0, c1, c2, c3, c4, c5⟩ := bx
  simp only at c0 c1 c2 c3 c4 c5
  replace k0 := k0.trans hb
  clear hb
  go_wp2
  have hX : ∀ W, Keep w1 W → W.cell? ⟨w.heap.size, 0, none⟩ = some (.int .i64 6) := fun W h => (h.cell (p := ⟨w.heap.size, 0, none⟩) hlt).trans c0
  clear c1 c2 c3 c4 c5 hA
  go_region_held3 (fun w' => w'.cell? ⟨w.heap.size, 0, none⟩ = some (.int .i64 6))
    (first
      | exact hX _ hw
      | exact hX _ (keepd (Keep.refl w1))
      | exact hX _ (Keep.refl w1)
      | fail)
    ((first
      | (go_at_call 7; refine (awake_any _).mono ?_; rintro e w2 ⟨rfl, k2⟩; have hw : Keep w1 w2 := (keepd (Keep.refl w1)).trans k2)
      | fail))
  go_wp2
  go_ret
  exact ⟨rfl, k0.trans hw⟩

set_option maxHeartbeats 2000000 in
theorem sizes_22 (A : Option Addr) (c : Nat) (wr y z : Int) (w : World)  (hr : Ak.right ⟨22, 0, 0, wr, 1, [y, z]⟩ = true) (hA : Ints .i64 w w.heap.size A 2 [y, z]) :
    Calls Try.prog 6 #[.agg #[.int .i64 22, .int .i64 0, .int .i64 0, .int .i64 wr, .int .i64 1, .slice A 2 c]] w fun e w' => e = .returned (.bool true) ∧ Keep w w' := by
  have hf := ((Ak.right_iff _).1 hr).1
  obtain ⟨_, _, hbeg, hlen⟩ := Ak.back1 hf
  have hpb : Ak.put ⟨22, 0, 0, wr, 1, [y, z]⟩ = Ak.bytes ⟨22, 0, 0, wr, 1, [y, z]⟩ := by rw [Ak.put, hr]; rfl
  obtain ⟨P, hP⟩ : ∃ P, P = st (Ak.put ⟨22, 0, 0, wr, 1, [y, z]⟩) := ⟨_, rfl⟩
  have hPs : (P.size : Int) = 7 := by
    rw [hP, hpb, st_size, hlen]
    simp [Ak.sizeOf]
  have hx : ∀ W : World, (Instr.index 9 (.string P) (.int .i64 0)).run Try.prog W = .ok (.int .u8 22) W := by
    have hh : byteAt P 0 = 22 := by
      rw [hP, hpb]
      exact Ak.byteAt_head _ _
    rw [← hh]
    exact idx (P := Try.prog) (k := .i64) P 0 Try.underlying9 (by omega) (by omega)
  have hE : ((P.size : Int) == 7) = true := by simpa using hPs
  have HP := Lib.hid hP
  have HPS := Lib.hid hPs
  clear hf hbeg hlen hpb hP hPs
  have bx := Ref6.Boxed.new w ⟨22, 0, 0, wr, 1, [y, z]⟩ A 2 c 24
  have k0 := (Keep.refl w).alloc (.cells #[.int .i64 22, .int .i64 0, .int .i64 0, .int .i64 wr, .int .i64 1, .slice A 2 c] 24)
  have d1 : decide ((3000 : Int) < (2 : Nat)) = false := by simp <;> omega
  go_enter Try.func6, Try.ntmps6
  go_wp2_with fail
  refine (put_any A 2 c ⟨22, 0, 0, wr, 1, [y, z]⟩ _ (by unfold maxLen; omega) (hA.kept k0)).mono ?_
  rintro e w1 ⟨rfl, hb⟩
  rw [← HP.out, hr]
  have bx := bx.below hb (by simp)
  have hlt : w.heap.size < w1.heap.size := by have := hb.size; simp at this; omega
  obtain ⟨c0, c1, c2, c3, c4, c5⟩ := bx
  simp only at c0 c1 c2 c3 c4 c5
  replace k0 := k0.trans hb
  clear hb
  go_wp2
  have hX : ∀ W, Keep w1 W → W.cell? ⟨w.heap.size, 0, none⟩ = some (.int .i64 22) := fun W h => (h.cell (p := ⟨w.heap.size, 0, none⟩) hlt).trans c0
  clear c1 c2 c3 c4 c5 hA
  go_region_held3 (fun w' => w'.cell? ⟨w.heap.size, 0, none⟩ = some (.int .i64 22))
    (first
      | exact hX _ hw
      | exact hX _ (keepd (Keep.refl w1))
      | exact hX _ (Keep.refl w1)
      | fail)
    ((first
      | (go_at_call 7; refine (awake_any _).mono ?_; rintro e w2 ⟨rfl, k2⟩; have hw : Keep w1 w2 := (keepd (Keep.refl w1)).trans k2)
      | fail))
  go_wp2
  go_ret
  exact ⟨rfl, k0.trans hw⟩

set_option maxHeartbeats 2000000 in
theorem sizes_15 (A : Option Addr) (n c : Nat) (wr : Int) (vs : List Int) (w : World) (hn : n ≤ 1968) (hr : Ak.right ⟨15, 0, 0, wr, (n : Int), vs⟩ = true) (hA : Ints .i64 w w.heap.size A n vs) :
    Calls Try.prog 6 #[.agg #[.int .i64 15, .int .i64 0, .int .i64 0, .int .i64 wr, .int .i64 (n : Int), .slice A n c]] w fun e w' => e = .returned (.bool true) ∧ Keep w w' := by
  have hf := ((Ak.right_iff _).1 hr).1
  obtain ⟨_, _, hbeg, hlen⟩ := Ak.back1 hf
  have hpb : Ak.put ⟨15, 0, 0, wr, (n : Int), vs⟩ = Ak.bytes ⟨15, 0, 0, wr, (n : Int), vs⟩ := by rw [Ak.put, hr]; rfl
  obtain ⟨P, hP⟩ : ∃ P, P = st (Ak.put ⟨15, 0, 0, wr, (n : Int), vs⟩) := ⟨_, rfl⟩
  have hPs : (P.size : Int) = 6 + ((n : Int) + 7) / 8 := by
    rw [hP, hpb, st_size, hlen]
    simp [Ak.sizeOf]
  have hx : ∀ W : World, (Instr.index 9 (.string P) (.int .i64 0)).run Try.prog W = .ok (.int .u8 15) W := by
    have hh : byteAt P 0 = 15 := by
      rw [hP, hpb]
      exact Ak.byteAt_head _ _
    rw [← hh]
    exact idx (P := Try.prog) (k := .i64) P 0 Try.underlying9 (by omega) (by omega)
  have hE : ((P.size : Int) == 6 + ((n : Int) + 7) / 8) = true := by simpa using hPs
  have HP := Lib.hid hP
  have HPS := Lib.hid hPs
  clear hf hbeg hlen hpb hP hPs
  have bx := Ref6.Boxed.new w ⟨15, 0, 0, wr, (n : Int), vs⟩ A n c 24
  have k0 := (Keep.refl w).alloc (.cells #[.int .i64 15, .int .i64 0, .int .i64 0, .int .i64 wr, .int .i64 (n : Int), .slice A n c] 24)
  have d1 : decide ((3000 : Int) < (n : Nat)) = false := by simp <;> omega
  go_enter Try.func6, Try.ntmps6
  go_wp2_with fail
  refine (put_any A n c ⟨15, 0, 0, wr, (n : Int), vs⟩ _ (by unfold maxLen; omega) (hA.kept k0)).mono ?_
  rintro e w1 ⟨rfl, hb⟩
  rw [← HP.out, hr]
  have bx := bx.below hb (by simp)
  have hlt : w.heap.size < w1.heap.size := by have := hb.size; simp at this; omega
  obtain ⟨c0, c1, c2, c3, c4, c5⟩ := bx
  simp only at c0 c1 c2 c3 c4 c5
  replace k0 := k0.trans hb
  clear hb
  go_wp2
  have hX : ∀ W, Keep w1 W → W.cell? ⟨w.heap.size, 0, none⟩ = some (.int .i64 15) := fun W h => (h.cell (p := ⟨w.heap.size, 0, none⟩) hlt).trans c0
  clear c1 c2 c3 c4 c5 hA
  go_region_held3 (fun w' => w'.cell? ⟨w.heap.size, 0, none⟩ = some (.int .i64 15))
    (first
      | exact hX _ hw
      | exact hX _ (keepd (Keep.refl w1))
      | exact hX _ (Keep.refl w1)
      | fail)
    ((first
      | (go_at_call 7; refine (awake_any _).mono ?_; rintro e w2 ⟨rfl, k2⟩; have hw : Keep w1 w2 := (keepd (Keep.refl w1)).trans k2)
      | fail))
  go_wp2
  go_ret
  exact ⟨rfl, k0.trans hw⟩

set_option maxHeartbeats 2000000 in
theorem sizes_16 (A : Option Addr) (n c : Nat) (wr : Int) (vs : List Int) (w : World) (hn : n ≤ 123) (hr : Ak.right ⟨16, 0, 0, wr, (n : Int), vs⟩ = true) (hA : Ints .i64 w w.heap.size A n vs) :
    Calls Try.prog 6 #[.agg #[.int .i64 16, .int .i64 0, .int .i64 0, .int .i64 wr, .int .i64 (n : Int), .slice A n c]] w fun e w' => e = .returned (.bool true) ∧ Keep w w' := by
  have hf := ((Ak.right_iff _).1 hr).1
  obtain ⟨_, _, hbeg, hlen⟩ := Ak.back1 hf
  have hpb : Ak.put ⟨16, 0, 0, wr, (n : Int), vs⟩ = Ak.bytes ⟨16, 0, 0, wr, (n : Int), vs⟩ := by rw [Ak.put, hr]; rfl
  obtain ⟨P, hP⟩ : ∃ P, P = st (Ak.put ⟨16, 0, 0, wr, (n : Int), vs⟩) := ⟨_, rfl⟩
  have hPs : (P.size : Int) = 6 + 2 * (n : Int) := by
    rw [hP, hpb, st_size, hlen]
    simp [Ak.sizeOf]
  have hx : ∀ W : World, (Instr.index 9 (.string P) (.int .i64 0)).run Try.prog W = .ok (.int .u8 16) W := by
    have hh : byteAt P 0 = 16 := by
      rw [hP, hpb]
      exact Ak.byteAt_head _ _
    rw [← hh]
    exact idx (P := Try.prog) (k := .i64) P 0 Try.underlying9 (by omega) (by omega)
  have hE : ((P.size : Int) == 6 + 2 * (n : Int)) = true := by simpa using hPs
  have HP := Lib.hid hP
  have HPS := Lib.hid hPs
  clear hf hbeg hlen hpb hP hPs
  have bx := Ref6.Boxed.new w ⟨16, 0, 0, wr, (n : Int), vs⟩ A n c 24
  have k0 := (Keep.refl w).alloc (.cells #[.int .i64 16, .int .i64 0, .int .i64 0, .int .i64 wr, .int .i64 (n : Int), .slice A n c] 24)
  have d1 : decide ((3000 : Int) < (n : Nat)) = false := by simp <;> omega
  go_enter Try.func6, Try.ntmps6
  go_wp2_with fail
  refine (put_any A n c ⟨16, 0, 0, wr, (n : Int), vs⟩ _ (by unfold maxLen; omega) (hA.kept k0)).mono ?_
  rintro e w1 ⟨rfl, hb⟩
  rw [← HP.out, hr]
  have bx := bx.below hb (by simp)
  have hlt : w.heap.size < w1.heap.size := by have := hb.size; simp at this; omega
  obtain ⟨c0, c1, c2, c3, c4, c5⟩ := bx
  simp only at c0 c1 c2 c3 c4 c5
  replace k0 := k0.trans hb
  clear hb
  go_wp2
  have hX : ∀ W, Keep w1 W → W.cell? ⟨w.heap.size, 0, none⟩ = some (.int .i64 16) := fun W h => (h.cell (p := ⟨w.heap.size, 0, none⟩) hlt).trans c0
  clear c1 c2 c3 c4 c5 hA
  go_region_held3 (fun w' => w'.cell? ⟨w.heap.size, 0, none⟩ = some (.int .i64 16))
    (first
      | exact hX _ hw
      | exact hX _ (keepd (Keep.refl w1))
      | exact hX _ (Keep.refl w1)
      | fail)
    ((first
      | (go_at_call 7; refine (awake_any _).mono ?_; rintro e w2 ⟨rfl, k2⟩; have hw : Keep w1 w2 := (keepd (Keep.refl w1)).trans k2)
      | fail))
  go_wp2
  go_ret
  exact ⟨rfl, k0.trans hw⟩

set_option maxHeartbeats 2000000 in
theorem sizes_23 (A : Option Addr) (n c : Nat) (rd ct wr : Int) (vs : List Int) (w : World) (hn : n ≤ 121) (hr : Ak.right ⟨23, rd, ct, wr, (n : Int), vs⟩ = true) (hA : Ints .i64 w w.heap.size A n vs) :
    Calls Try.prog 6 #[.agg #[.int .i64 23, .int .i64 rd, .int .i64 ct, .int .i64 wr, .int .i64 (n : Int), .slice A n c]] w fun e w' => e = .returned (.bool true) ∧ Keep w w' := by
  have hf := ((Ak.right_iff _).1 hr).1
  obtain ⟨_, _, hbeg, hlen⟩ := Ak.back1 hf
  have hpb : Ak.put ⟨23, rd, ct, wr, (n : Int), vs⟩ = Ak.bytes ⟨23, rd, ct, wr, (n : Int), vs⟩ := by rw [Ak.put, hr]; rfl
  obtain ⟨P, hP⟩ : ∃ P, P = st (Ak.put ⟨23, rd, ct, wr, (n : Int), vs⟩) := ⟨_, rfl⟩
  have hPs : (P.size : Int) = 10 + 2 * (n : Int) := by
    rw [hP, hpb, st_size, hlen]
    simp [Ak.sizeOf]
  have hx : ∀ W : World, (Instr.index 9 (.string P) (.int .i64 0)).run Try.prog W = .ok (.int .u8 23) W := by
    have hh : byteAt P 0 = 23 := by
      rw [hP, hpb]
      exact Ak.byteAt_head _ _
    rw [← hh]
    exact idx (P := Try.prog) (k := .i64) P 0 Try.underlying9 (by omega) (by omega)
  have hE : ((P.size : Int) == 10 + 2 * (n : Int)) = true := by simpa using hPs
  have HP := Lib.hid hP
  have HPS := Lib.hid hPs
  clear hf hbeg hlen hpb hP hPs
  have bx := Ref6.Boxed.new w ⟨23, rd, ct, wr, (n : Int), vs⟩ A n c 24
  have k0 := (Keep.refl w).alloc (.cells #[.int .i64 23, .int .i64 rd, .int .i64 ct, .int .i64 wr, .int .i64 (n : Int), .slice A n c] 24)
  have d1 : decide ((3000 : Int) < (n : Nat)) = false := by simp <;> omega
  go_enter Try.func6, Try.ntmps6
  go_wp2_with fail
  refine (put_any A n c ⟨23, rd, ct, wr, (n : Int), vs⟩ _ (by unfold maxLen; omega) (hA.kept k0)).mono ?_
  rintro e w1 ⟨rfl, hb⟩
  rw [← HP.out, hr]
  have bx := bx.below hb (by simp)
  have hlt : w.heap.size < w1.heap.size := by have := hb.size; simp at this; omega
  obtain ⟨c0, c1, c2, c3, c4, c5⟩ := bx
  simp only at c0 c1 c2 c3 c4 c5
  replace k0 := k0.trans hb
  clear hb
  go_wp2
  have hX : ∀ W, Keep w1 W → W.cell? ⟨w.heap.size, 0, none⟩ = some (.int .i64 23) := fun W h => (h.cell (p := ⟨w.heap.size, 0, none⟩) hlt).trans c0
  clear c1 c2 c3 c4 c5 hA
  go_region_held3 (fun w' => w'.cell? ⟨w.heap.size, 0, none⟩ = some (.int .i64 23))
    (first
      | exact hX _ hw
      | exact hX _ (keepd (Keep.refl w1))
      | exact hX _ (Keep.refl w1)
      | fail)
    ((first
      | (go_at_call 7; refine (awake_any _).mono ?_; rintro e w2 ⟨rfl, k2⟩; have hw : Keep w1 w2 := (keepd (Keep.refl w1)).trans k2)
      | fail))
  go_wp2
  go_ret
  exact ⟨rfl, k0.trans hw⟩

theorem sizes_any (a_fc a_rd a_ct a_wr a_mn : Int) (A : Option Addr) (n c : Nat) (vs : List Int) (w : World) (hn : n ≤ maxLen) (hA : IntsIn .i64 w A n vs) :
    Calls Try.prog 6 #[.agg #[.int .i64 a_fc, .int .i64 a_rd, .int .i64 a_ct, .int .i64 a_wr, .int .i64 a_mn, .slice A n c]] w fun e w' => e = .returned (.bool true) ∧ Keep w w' := by
  have hA := hA.1
  cases hr : Ak.right ⟨a_fc, a_rd, a_ct, a_wr, a_mn, vs⟩
  · exact sizes_not A n c ⟨a_fc, a_rd, a_ct, a_wr, a_mn, vs⟩ w hn hA hr
  · have hf := ((Ak.right_iff _).1 hr).1
    rcases Ak.cases_formed hf with ⟨fc, rd, ct, e, hf2, _⟩ | ⟨wr, z, e, _⟩ | ⟨wr, z, e, _⟩ | ⟨wr, y, z, e, _⟩ | ⟨wr, v, e, _, _, _, h3, _⟩ | ⟨wr, v, e, _, _, _, h3, _⟩ | ⟨rd, ct, wr, v, e, _, _, _, _, _, h3, _⟩ <;> injection e with e1 e2 e3 e4 e5 e6 <;> subst e1 e2 e3 e4 e5 e6
    · obtain rfl : n = 0 := by have := hA.1; simp at this; omega
      rcases hf2 with rfl | rfl | rfl | rfl
      · exact sizes_1 A c _ _ w hr hA
      · exact sizes_2 A c _ _ w hr hA
      · exact sizes_3 A c _ _ w hr hA
      · exact sizes_4 A c _ _ w hr hA
    · obtain rfl : n = 1 := by have := hA.1; simp at this; omega
      exact sizes_5 A c _ _ w hr hA
    · obtain rfl : n = 1 := by have := hA.1; simp at this; omega
      exact sizes_6 A c _ _ w hr hA
    · obtain rfl : n = 2 := by have := hA.1; simp at this; omega
      exact sizes_22 A c _ _ _ w hr hA
    · obtain rfl : vs.length = n := hA.1
      exact sizes_15 A vs.length c _ vs w h3 hr hA
    · obtain rfl : vs.length = n := hA.1
      exact sizes_16 A vs.length c _ vs w h3 hr hA
    · obtain rfl : vs.length = n := hA.1
      exact sizes_23 A vs.length c _ _ _ vs w h3 hr hA
end Go.Proofs.Ytfeidijfjkegkaa.Ask
