/- Of these texts: FaM. Conditions: as each part says. -/
import Derived.Test.YtaciogcpghbhjaaGreatZTFaR
import Derived.Test.YtaciogcpghbhjaaGreatZTEqI
import Derived.Deep.RegionHeld3
/- The developers' facts: spans, registers, Of. Conditions: counts that aren't negative, at most a million values. -/
namespace Go.Proofs.YtaciogcpghbhjaaGreat.Facts
set_option linter.unusedVariables false
open Go.ChangeShapes Go.WideShapes Go.ChangeAt Go.RowKit
open Fa
set_option maxHeartbeats 1000000 in
theorem stretch_any (a n : Int) (w : World) (h1 : IntKind.i64.wrap (a + n) = a + n) (h2 : IntKind.i64.wrap (a + n - 1) = a + n - 1) :
  Calls Tryz.prog 82 #[.int .i64 a, .int .i64 n] w fun e w' => e = .returned (.agg #[.int .i64 a, .int .i64 (a + n - 1)]) ∧ Keep w w' := by
 have K : Keep w (((w.alloc (.cells #[.int .i64 0, .int .i64 0] 87)).setCell ⟨w.heap.size, 0, none⟩ (.int .i64 a)).setCell ⟨w.heap.size, 1, none⟩ (.int .i64 (a + n - 1))) := Below.setCell (Below.setCell ((Keep.refl w).alloc _) (Nat.le_refl _) _) (Nat.le_refl _) _
 go_enter Tryz.func82, Tryz.ntmps82
 go_wp2
 (try simp only [Exit.inBlock, Exit.then])
 refine bodyPost_ret (v := .agg #[.int .i64 a, .int .i64 (a + n - 1)]) ?_ rfl ?_
 ·rw [results_c rfl]
  go_simp
 ·refine ⟨rfl, ?_⟩
  first | exact K | (repeat' (first | with_reducible exact Keep.refl w | with_reducible exact ((Keep.refl w).alloc _) | with_reducible refine Below.setCell ?_ ?_ _ | exact Nat.le_refl _))
def RetSpans (xs : List (Int × Int)) (w : World) (e : Ending) (w' : World) : Prop :=
 ∃ SA c, e = .returned (.slice SA xs.length c) ∧ Row encP 2 w' w'.heap.size SA xs.length xs ∧ Keep w w' ∧ FreshB w SA xs.length
theorem sets6 {T : World} {u b : Nat} {c0 c1 c2 c3 c4 c5 : Value}
  (h : T.cell? ⟨u, 0, none⟩ = some c0 ∧ T.cell? ⟨u, 1, none⟩ = some c1 ∧ T.cell? ⟨u, 2, none⟩ = some c2 ∧ T.cell? ⟨u, 3, none⟩ = some c3 ∧ T.cell? ⟨u, 4, none⟩ = some c4 ∧ T.cell? ⟨u, 5, none⟩ = some c5) (hb : u ≠ b) (v0 v1 v2 v3 v4 v5 : Value) :
  ((((((T.setCell ⟨b, 0, none⟩ v0).setCell ⟨b, 1, none⟩ v1).setCell ⟨b, 2, none⟩ v2).setCell ⟨b, 3, none⟩ v3).setCell ⟨b, 4, none⟩ v4).setCell ⟨b, 5, none⟩ v5).cell? ⟨u, 0, none⟩ = some c0 ∧ ((((((T.setCell ⟨b, 0, none⟩ v0).setCell ⟨b, 1, none⟩ v1).setCell ⟨b, 2, none⟩ v2).setCell ⟨b, 3, none⟩ v3).setCell ⟨b, 4, none⟩ v4).setCell ⟨b, 5, none⟩ v5).cell? ⟨u, 1, none⟩ = some c1 ∧ ((((((T.setCell ⟨b, 0, none⟩ v0).setCell ⟨b, 1, none⟩ v1).setCell ⟨b, 2, none⟩ v2).setCell ⟨b, 3, none⟩ v3).setCell ⟨b, 4, none⟩ v4).setCell ⟨b, 5, none⟩ v5).cell? ⟨u, 2, none⟩ = some c2 ∧ ((((((T.setCell ⟨b, 0, none⟩ v0).setCell ⟨b, 1, none⟩ v1).setCell ⟨b, 2, none⟩ v2).setCell ⟨b, 3, none⟩ v3).setCell ⟨b, 4, none⟩ v4).setCell ⟨b, 5, none⟩ v5).cell? ⟨u, 3, none⟩ = some c3 ∧ ((((((T.setCell ⟨b, 0, none⟩ v0).setCell ⟨b, 1, none⟩ v1).setCell ⟨b, 2, none⟩ v2).setCell ⟨b, 3, none⟩ v3).setCell ⟨b, 4, none⟩ v4).setCell ⟨b, 5, none⟩ v5).cell? ⟨u, 4, none⟩ = some c4 ∧ ((((((T.setCell ⟨b, 0, none⟩ v0).setCell ⟨b, 1, none⟩ v1).setCell ⟨b, 2, none⟩ v2).setCell ⟨b, 3, none⟩ v3).setCell ⟨b, 4, none⟩ v4).setCell ⟨b, 5, none⟩ v5).cell? ⟨u, 5, none⟩ = some c5 := by
 have hc : ∀ j, ((((((T.setCell ⟨b, 0, none⟩ v0).setCell ⟨b, 1, none⟩ v1).setCell ⟨b, 2, none⟩ v2).setCell ⟨b, 3, none⟩ v3).setCell ⟨b, 4, none⟩ v4).setCell ⟨b, 5, none⟩ v5).cell? ⟨u, j, none⟩ = T.cell? ⟨u, j, none⟩ := fun j => World.cell?_of_block (by
  rw [Below.heap_setCell _ _ _ _ hb, Below.heap_setCell _ _ _ _ hb, Below.heap_setCell _ _ _ _ hb, Below.heap_setCell _ _ _ _ hb, Below.heap_setCell _ _ _ _ hb, Below.heap_setCell _ _ _ _ hb])
 rw [hc, hc, hc, hc, hc, hc]
 exact h
theorem keep_sets6 {w T : World} {b : Nat} (h : Keep w T) (hb : w.heap.size <= b) (v0 v1 v2 v3 v4 v5 : Value) : Keep w ((((((T.setCell ⟨b, 0, none⟩ v0).setCell ⟨b, 1, none⟩ v1).setCell ⟨b, 2, none⟩ v2).setCell ⟨b, 3, none⟩ v3).setCell ⟨b, 4, none⟩ v4).setCell ⟨b, 5, none⟩ v5) :=
 Below.setCell (Below.setCell (Below.setCell (Below.setCell (Below.setCell (Below.setCell h hb _) hb _) hb _) hb _) hb _) hb _
theorem other_sets6 {T : World} {b : Nat} (v0 v1 v2 v3 v4 v5 : Value) (p : Addr) (hp : p.block ≠ b) : ((((((T.setCell ⟨b, 0, none⟩ v0).setCell ⟨b, 1, none⟩ v1).setCell ⟨b, 2, none⟩ v2).setCell ⟨b, 3, none⟩ v3).setCell ⟨b, 4, none⟩ v4).setCell ⟨b, 5, none⟩ v5).cell? p = T.cell? p := World.cell?_of_block (by
  rw [Below.heap_setCell _ _ _ _ hp, Below.heap_setCell _ _ _ _ hp, Below.heap_setCell _ _ _ _ hp, Below.heap_setCell _ _ _ _ hp, Below.heap_setCell _ _ _ _ hp, Below.heap_setCell _ _ _ _ hp])
theorem Row.apart {α : Type} {enc : α -> List Value} {k : Nat} {w V : World} {n b : Nat} {A : Option Addr} {zs : List α} (h : Row enc k w w.heap.size A n zs) (hb : 0 < n -> ∀ p, A = some p -> p.block ≠ b) (hs : w.heap.size <= V.heap.size) (hc : ∀ p : Addr, p.block ≠ b -> V.cell? p = w.cell? p) : Row enc k V V.heap.size A n zs :=
 ⟨h.1, fun hn => by
  obtain ⟨b', off, e, hbb, hcl⟩ := h.2 hn
  have hne := hb hn _ e
  exact ⟨b', off, e, by omega, fun j hj i v hv => (hc ⟨b', off + j * k + i, none⟩ hne).trans (hcl j hj i v hv)⟩⟩
theorem Ints.apart {k : IntKind} {w V : World} {n b : Nat} {A : Option Addr} {zs : List Int} (h : Ints k w w.heap.size A n zs) (hb : 0 < n -> ∀ p, A = some p -> p.block ≠ b) (hs : w.heap.size <= V.heap.size) (hc : ∀ p : Addr, p.block ≠ b -> V.cell? p = w.cell? p) : Ints k V V.heap.size A n zs :=
 ⟨h.1, fun hn => by
  obtain ⟨b', off, e, hbb, hcl⟩ := h.2 hn
  have hne := hb hn _ e
  exact ⟨b', off, e, by omega, fun j hj => (hc ⟨b', off + j, none⟩ hne).trans (hcl j hj)⟩⟩
theorem spans_none (fc rd wr : Int) (V : Value) (w : World) :
  Calls Tryz.prog 57 #[.agg #[.int .i64 fc, .int .i64 rd, .int .i64 0, .int .i64 wr, .int .i64 0, V]] w (RetSpans [] w) := by
 go_enter Tryz.func57, Tryz.ntmps57
 go_wp2
 go_ret
 exact ⟨none, 0, rfl, Row.none_ _ _ _, (Keep.refl w).alloc _, fun h => absurd h (by decide)⟩
set_option maxHeartbeats 2000000 in
theorem spans_reads (fc rd ct wr : Int) (V : Value) (w : World) (h : ct ≠ 0) (s1 : IntKind.i64.wrap (rd + ct) = rd + ct) (s2 : IntKind.i64.wrap (rd + ct - 1) = rd + ct - 1) :
  Calls Tryz.prog 57 #[.agg #[.int .i64 fc, .int .i64 rd, .int .i64 ct, .int .i64 wr, .int .i64 0, V]] w (RetSpans [(rd, rd + ct - 1)] w) := by
 have d1 : (ct != 0) = true := by simpa using h
 clear h
 obtain ⟨X, hX⟩ : ∃ X, X = w.alloc (.cells #[.int .i64 fc, .int .i64 rd, .int .i64 ct, .int .i64 wr, .int .i64 0, V] 40) := ⟨_, rfl⟩
 have kX : Keep w X := by rw [hX]; exact (Keep.refl w).alloc _
 have sX : X.heap.size = w.heap.size + 1 := by rw [hX]; simp
 have bX : Six X w.heap.size (.int .i64 fc) (.int .i64 rd) (.int .i64 ct) (.int .i64 wr) (.int .i64 0) V := by rw [hX]; refine ⟨?_, ?_, ?_, ?_, ?_, ?_⟩ <;> go_simp
 have C := Lib.hid (stretch_any rd ct X s1 s2)
 have HX := Lib.hid hX
 have SX := Lib.hid sX
 have BX := Lib.hid bX
 clear hX sX bX s1 s2
 go_enter Tryz.func57, Tryz.ntmps57
 go_wp2_with fail
 rw [<- HX.out]
 refine C.out.mono ?_
 rintro e w1 ⟨rfl, k1⟩
 obtain ⟨c0, c1, c2, c3, c4, c5⟩ := BX.out.below k1 (by rw [SX.out]; omega)
 have hrow := Row.new encP_len w1 87 [(rd, rd + ct - 1)] #[.int .i64 rd, .int .i64 (rd + ct - 1)] rfl
 have kY : Keep w (w1.alloc (.cells #[.int .i64 rd, .int .i64 (rd + ct - 1)] 87)) := (kX.trans k1).alloc _
 have bY := (BX.out.below k1 (by rw [SX.out]; omega)).below (B := w1.heap.size) ((Below.refl _ _).alloc (Nat.le_refl _) (.cells #[.int .i64 rd, .int .i64 (rd + ct - 1)] 87)) (by have := k1.size; rw [SX.out] at this; omega)
 have hlt : w.heap.size < w1.heap.size := by have := k1.size; rw [SX.out] at this; omega
 have BY := Lib.hid bY
 have HLT := Lib.hid hlt
 clear bY hlt
 go_wp2_with (at_builtin; refine append_rows rfl _ _ 52 rfl w1.heap.size 87 _ 16 Tryz.underlying52 info_range rfl (by omega) encP_len encP_one _ 0 [] rfl (World.ownsRow_nil _ _ _ _) (by simp) _ _ 1 1 [(rd, rd + ct - 1)] rfl hrow (by unfold maxLen; omega) (by omega) ?_)
 intro v' w2 hown hb
 have hown : w2.ownsRow w1.heap.size 87 2 v' 1 (flat encP [(rd, rd + ct - 1)]) := by simpa using hown
 obtain ⟨A1, q1, rfl⟩ := own_slice hown
 obtain ⟨e0, e1, e2, e3, e4, e5⟩ := BY.out.below hb HLT.out
 clear c0 c1 c2 c3 c4 c5
 go_wp2
 go_ret
 exact ⟨A1, q1, rfl, Row.of_own encP_len hown (by omega), keep_below kY hb (by have := HLT.out; omega), FreshB.of_own hown (by have := HLT.out; omega)⟩
set_option maxHeartbeats 2000000 in
theorem spans_writes (fc rd wr mn : Int) (V : Value) (w : World) (h : mn ≠ 0) (s1 : IntKind.i64.wrap (wr + mn) = wr + mn) (s2 : IntKind.i64.wrap (wr + mn - 1) = wr + mn - 1) :
  Calls Tryz.prog 57 #[.agg #[.int .i64 fc, .int .i64 rd, .int .i64 0, .int .i64 wr, .int .i64 mn, V]] w (RetSpans [(wr, wr + mn - 1)] w) := by
 have d1 : (mn != 0) = true := by simpa using h
 clear h
 obtain ⟨X, hX⟩ : ∃ X, X = w.alloc (.cells #[.int .i64 fc, .int .i64 rd, .int .i64 0, .int .i64 wr, .int .i64 mn, V] 40) := ⟨_, rfl⟩
 have kX : Keep w X := by rw [hX]; exact (Keep.refl w).alloc _
 have sX : X.heap.size = w.heap.size + 1 := by rw [hX]; simp
 have C := Lib.hid (stretch_any wr mn X s1 s2)
 have HX := Lib.hid hX
 have SX := Lib.hid sX
 clear hX sX s1 s2
 go_enter Tryz.func57, Tryz.ntmps57
 go_wp2_with fail
 rw [<- HX.out]
 refine C.out.mono ?_
 rintro e w1 ⟨rfl, k1⟩
 have hrow := Row.new encP_len w1 87 [(wr, wr + mn - 1)] #[.int .i64 wr, .int .i64 (wr + mn - 1)] rfl
 have kY : Keep w (w1.alloc (.cells #[.int .i64 wr, .int .i64 (wr + mn - 1)] 87)) := (kX.trans k1).alloc _
 have hlt : w.heap.size < w1.heap.size := by have := k1.size; rw [SX.out] at this; omega
 have HLT := Lib.hid hlt
 clear hlt
 go_wp2_with (at_builtin; refine append_rows rfl _ _ 52 rfl w1.heap.size 87 _ 16 Tryz.underlying52 info_range rfl (by omega) encP_len encP_one _ 0 [] rfl (World.ownsRow_nil _ _ _ _) (by simp) _ _ 1 1 [(wr, wr + mn - 1)] rfl hrow (by unfold maxLen; omega) (by omega) ?_)
 intro v' w2 hown hb
 have hown : w2.ownsRow w1.heap.size 87 2 v' 1 (flat encP [(wr, wr + mn - 1)]) := by simpa using hown
 obtain ⟨A1, q1, rfl⟩ := own_slice hown
 go_wp2
 go_ret
 exact ⟨A1, q1, rfl, Row.of_own encP_len hown (by omega), keep_below kY hb (by have := HLT.out; omega), FreshB.of_own hown (by have := HLT.out; omega)⟩
set_option maxHeartbeats 4000000 in
theorem spans_both (fc rd ct wr mn : Int) (V : Value) (w : World) (h : ct ≠ 0) (h' : mn ≠ 0) (s1 : IntKind.i64.wrap (rd + ct) = rd + ct) (s2 : IntKind.i64.wrap (rd + ct - 1) = rd + ct - 1) (s3 : IntKind.i64.wrap (wr + mn) = wr + mn) (s4 : IntKind.i64.wrap (wr + mn - 1) = wr + mn - 1) :
  Calls Tryz.prog 57 #[.agg #[.int .i64 fc, .int .i64 rd, .int .i64 ct, .int .i64 wr, .int .i64 mn, V]] w (RetSpans [(rd, rd + ct - 1), (wr, wr + mn - 1)] w) := by
 have d1 : (ct != 0) = true := by simpa using h
 have d2 : (mn != 0) = true := by simpa using h'
 clear h h'
 obtain ⟨X, hX⟩ : ∃ X, X = w.alloc (.cells #[.int .i64 fc, .int .i64 rd, .int .i64 ct, .int .i64 wr, .int .i64 mn, V] 40) := ⟨_, rfl⟩
 have kX : Keep w X := by rw [hX]; exact (Keep.refl w).alloc _
 have sX : X.heap.size = w.heap.size + 1 := by rw [hX]; simp
 have bX : Six X w.heap.size (.int .i64 fc) (.int .i64 rd) (.int .i64 ct) (.int .i64 wr) (.int .i64 mn) V := by rw [hX]; refine ⟨?_, ?_, ?_, ?_, ?_, ?_⟩ <;> go_simp
 have C := Lib.hid (stretch_any rd ct X s1 s2)
 have C2 := Lib.hid (fun W => stretch_any wr mn W s3 s4)
 have HX := Lib.hid hX
 have SX := Lib.hid sX
 have BX := Lib.hid bX
 clear hX sX bX s1 s2 s3 s4
 go_enter Tryz.func57, Tryz.ntmps57
 go_wp2_with fail
 rw [<- HX.out]
 refine C.out.mono ?_
 rintro e w1 ⟨rfl, k1⟩
 obtain ⟨c0, c1, c2, c3, c4, c5⟩ := BX.out.below k1 (by rw [SX.out]; omega)
 have hrow := Row.new encP_len w1 87 [(rd, rd + ct - 1)] #[.int .i64 rd, .int .i64 (rd + ct - 1)] rfl
 have kY : Keep w (w1.alloc (.cells #[.int .i64 rd, .int .i64 (rd + ct - 1)] 87)) := (kX.trans k1).alloc _
 have bY := (BX.out.below k1 (by rw [SX.out]; omega)).below (B := w1.heap.size) ((Below.refl _ _).alloc (Nat.le_refl _) (.cells #[.int .i64 rd, .int .i64 (rd + ct - 1)] 87)) (by have := k1.size; rw [SX.out] at this; omega)
 have hlt : w.heap.size < w1.heap.size := by have := k1.size; rw [SX.out] at this; omega
 have BY := Lib.hid bY
 have HLT := Lib.hid hlt
 clear bY hlt
 go_wp2_with (at_builtin; refine append_rows rfl _ _ 52 rfl w1.heap.size 87 _ 16 Tryz.underlying52 info_range rfl (by omega) encP_len encP_one _ 0 [] rfl (World.ownsRow_nil _ _ _ _) (by simp) _ _ 1 1 [(rd, rd + ct - 1)] rfl hrow (by unfold maxLen; omega) (by omega) ?_)
 intro v' w2 hown hb
 have hown : w2.ownsRow w1.heap.size 87 2 v' 1 (flat encP [(rd, rd + ct - 1)]) := by simpa using hown
 obtain ⟨A1, q1, rfl⟩ := own_slice hown
 obtain ⟨e0, e1, e2, e3, e4, e5⟩ := BY.out.below hb HLT.out
 have k2 : Keep w w2 := keep_below kY hb (by have := HLT.out; omega)
 have s2' := Lib.hid (show w1.heap.size <= w2.heap.size by have := hb.size; simp at this; omega)
 clear c0 c1 c2 c3 c4 c5 hrow kY BY BX hb
 go_wp2_with fail
 refine (C2.out _).mono ?_
 rintro e w3 ⟨rfl, k3⟩
 have own3 := own_keep hown k3
 have hrow := Row.new encP_len w3 87 [(wr, wr + mn - 1)] #[.int .i64 wr, .int .i64 (wr + mn - 1)] rfl
 have own4 := own3.alloc (.cells #[.int .i64 wr, .int .i64 (wr + mn - 1)] 87)
 have kZ : Keep w (w3.alloc (.cells #[.int .i64 wr, .int .i64 (wr + mn - 1)] 87)) := (k2.trans k3).alloc _
 have s3' := Lib.hid (show w1.heap.size <= w3.heap.size by have := k3.size; have := s2'.out; omega)
 clear hown own3 e0 e1 e2 e3 e4 e5
 go_wp2_with (at_builtin; refine append_rows rfl _ _ 52 rfl w1.heap.size 87 _ 16 Tryz.underlying52 info_range rfl (by omega) encP_len encP_one _ 1 [(rd, rd + ct - 1)] rfl own4 (by have := s3'.out; simp; omega) _ _ 1 1 [(wr, wr + mn - 1)] rfl hrow (by unfold maxLen; omega) (by omega) ?_)
 intro v' w4 hown hb
 have hown : w4.ownsRow w1.heap.size 87 2 v' 2 (flat encP [(rd, rd + ct - 1), (wr, wr + mn - 1)]) := by simpa using hown
 obtain ⟨A2, q2, rfl⟩ := own_slice hown
 go_wp2
 go_ret
 exact ⟨A2, q2, rfl, Row.of_own encP_len hown (by omega), keep_below kZ hb (by have := HLT.out; omega), FreshB.of_own hown (by have := HLT.out; omega)⟩
theorem spans_any (a : AskP) (V : Value) (w : World) (hf : Fit a) (h0 : 0 <= a.ct) (h1 : 0 <= a.mn) :
  Calls Tryz.prog 57 #[.agg #[.int .i64 a.fc, .int .i64 a.rd, .int .i64 a.ct, .int .i64 a.wr, .int .i64 a.mn, V]] w (RetSpans (reads a ++ writes a) w) := by
 obtain ⟨fc, rd, ct, wr, mn, vs⟩ := a
 unfold Fit at hf
 unfold reads writes
 simp only at hf h0 h1 ⊢
 obtain ⟨f1, f2, f3, f4, f5, f6⟩ := hf
 have s1 : IntKind.i64.wrap (rd + ct) = rd + ct := by rw [IntKind.wrap_i64]; omega
 have s2 : IntKind.i64.wrap (rd + ct - 1) = rd + ct - 1 := by rw [IntKind.wrap_i64]; omega
 have s3 : IntKind.i64.wrap (wr + mn) = wr + mn := by rw [IntKind.wrap_i64]; omega
 have s4 : IntKind.i64.wrap (wr + mn - 1) = wr + mn - 1 := by rw [IntKind.wrap_i64]; omega
 by_cases hc : ct = 0
 ·subst hc
  by_cases hm : mn = 0
  ·subst hm
   rw [if_neg (by omega), if_neg (by omega)]
   exact spans_none fc rd wr V w
  ·rw [if_neg (by omega), if_pos (by omega)]
   exact spans_writes fc rd wr mn V w hm s3 s4
 ·by_cases hm : mn = 0
  ·subst hm
   rw [if_pos (by omega), if_neg (by omega)]
   exact spans_reads fc rd ct wr V w hc s1 s2
  ·rw [if_pos (by omega), if_pos (by omega)]
   exact spans_both fc rd ct wr mn V w hc hm s1 s2 s3 s4
def RetInts1 (xs : List Int) (w : World) (e : Ending) (w' : World) : Prop :=
 ∃ B c, e = .returned (.slice B xs.length c) ∧ Ints .i64 w' w'.heap.size B xs.length xs ∧ Keep w w' ∧ FreshB w B xs.length ∧ xs.length <= c ∧ c <= maxLen
theorem own_room {w : World} {base : Nat} {e : TypeId} {k : Nat} {A : Option Addr} {n c : Nat} {xs : List Value} (h : w.ownsRow base e k (.slice A n c) n xs) : n <= c ∧ c <= maxLen := by
 rcases h.2 with ⟨h, _⟩ | ⟨_, cap, _, h, _, _, h1, h2, _⟩
 ·injection h with _ h1 h2
  subst h1 h2
  exact ⟨Nat.le_refl _, Nat.zero_le _⟩
 ·injection h with _ _ h3
  subst h3
  exact ⟨h1, h2⟩
def RetOfR (A : Option Addr) (f : FactsP) (w : World) (e : Ending) (w' : World) : Prop :=
 ∃ SA VA RA c1 c2 c3, e = .returned (.agg #[.int .i64 f.cl, .int .i64 f.un, .int .i64 f.fc, .slice SA f.sp.length c1, .slice VA f.vs.length c2, .slice RA f.rg.length c3]) ∧ FaAt w' f SA VA RA ∧ Keep w w' ∧
   (FreshB w SA f.sp.length ∧ (FreshB w VA f.vs.length ∨ VA = A) ∧ (FreshB w RA f.rg.length ∨ RA = A)) ∧ f.rg.length <= c3 ∧ c3 <= maxLen
theorem RetOfR.of {A : Option Addr} {f : FactsP} {w w' : World} {e : Ending} (h : RetOfR A f w e w') : RetOf A f w e w' := by
 obtain ⟨SA, VA, RA, c1, c2, c3, h1, h2, h3, h4, _⟩ := h
 exact ⟨SA, VA, RA, c1, c2, c3, h1, h2, h3, h4⟩
theorem clone1_any (A : Option Addr) (n c : Nat) (zs : List Int) (w : World) (hn : n <= 1000000) (hA : Ints .i64 w w.heap.size A n zs) :
  Calls Tryz.prog 32 #[.slice A n c] w (RetInts1 zs w) := by
 have hl := hA.1
 refine (EqI.clone_any A n c zs w hn hA).mono ?_
 rintro e w1 ⟨B, d, rfl, hown, hk⟩
 subst hl
 exact ⟨B, d, rfl, Ints.of_own hown, hk, FreshB.of_own hown (Nat.le_refl _), own_room hown⟩
set_option maxHeartbeats 2000000 in
theorem regs_any (a : AskP) (A : Option Addr) (cc : Nat) (w : World) (hn : a.vs.length <= 1000000) (hA : Ints .i64 w w.heap.size A a.vs.length a.vs) :
  Calls Tryz.prog 58 #[.agg #[.int .i64 a.fc, .int .i64 a.rd, .int .i64 a.ct, .int .i64 a.wr, .int .i64 a.mn, .slice A a.vs.length cc]] w (RetInts1 (regs a) w) := by
 obtain ⟨fc, rd, ct, wr, mn, vs⟩ := a
 unfold regs
 simp only at hn hA ⊢
 have kX := (Keep.refl w).alloc (.cells #[.int .i64 fc, .int .i64 rd, .int .i64 ct, .int .i64 wr, .int .i64 mn, .slice A vs.length cc] 40)
 have C := Lib.hid (clone1_any A vs.length cc vs _ hn (hA.kept kX))
 clear hA
 by_cases h6 : fc = 6
 ·rw [if_pos (.inl h6)]
  have d6 : (fc == 6) = true := by simpa using h6
  clear h6
  go_enter Tryz.func58, Tryz.ntmps58
  go_wp2_with fail
  refine C.out.mono ?_
  rintro e w1 ⟨B, d, rfl, hI, hk, hfr, hrm⟩
  go_wp2
  go_ret
  exact ⟨B, d, rfl, hI, kX.trans hk, hfr.mono kX, hrm⟩
 have d6 : (fc == 6) = false := by simpa using h6
 by_cases h16 : fc = 16
 ·rw [if_pos (.inr (.inl h16))]
  have d16 : (fc == 16) = true := by simpa using h16
  clear h6 h16
  go_enter Tryz.func58, Tryz.ntmps58
  go_wp2_with fail
  refine C.out.mono ?_
  rintro e w1 ⟨B, d, rfl, hI, hk, hfr, hrm⟩
  go_wp2
  go_ret
  exact ⟨B, d, rfl, hI, kX.trans hk, hfr.mono kX, hrm⟩
 have d16 : (fc == 16) = false := by simpa using h16
 by_cases h23 : fc = 23
 ·rw [if_pos (.inr (.inr h23))]
  have d23 : (fc == 23) = true := by simpa using h23
  clear h6 h16 h23
  go_enter Tryz.func58, Tryz.ntmps58
  go_wp2_with fail
  refine C.out.mono ?_
  rintro e w1 ⟨B, d, rfl, hI, hk, hfr, hrm⟩
  go_wp2
  go_ret
  exact ⟨B, d, rfl, hI, kX.trans hk, hfr.mono kX, hrm⟩
 have d23 : (fc == 23) = false := by simpa using h23
 rw [if_neg (by rintro (h | h | h) <;> contradiction)]
 clear h6 h16 h23
 go_enter Tryz.func58, Tryz.ntmps58
 go_wp2
 go_ret
 exact ⟨none, 0, rfl, Ints.none_ _ _ _ _, kX, fun h => absurd h (by decide), Nat.le_refl _, Nat.zero_le _⟩
set_option maxHeartbeats 4000000 in
theorem ofR_any (c u : Int) (a : AskP) (A : Option Addr) (cc : Nat) (w : World) (hn : a.vs.length <= 1000000) (hf : Fit a) (hp : 0 <= a.ct) (hq : 0 <= a.mn) (hA : Ints .i64 w w.heap.size A a.vs.length a.vs) :
  Calls Tryz.prog 38 #[.int .i64 c, .int .i64 u, .agg #[.int .i64 a.fc, .int .i64 a.rd, .int .i64 a.ct, .int .i64 a.wr, .int .i64 a.mn, .slice A a.vs.length cc]] w (RetOfR A (of c u a) w) := by
 obtain ⟨X, hX⟩ : ∃ X, X = (w.alloc (.cells #[.int .i64 a.fc, .int .i64 a.rd, .int .i64 a.ct, .int .i64 a.wr, .int .i64 a.mn, .slice A a.vs.length cc] 40)).alloc (.cells #[.int .i64 0, .int .i64 0, .int .i64 0, .slice none 0 0, .slice none 0 0, .slice none 0 0] 54) := ⟨_, rfl⟩
 have kX : Keep w X := by rw [hX]; exact ((Keep.refl w).alloc _).alloc _
 have sX : X.heap.size = w.heap.size + 2 := by rw [hX]; simp
 have b0 : Six X w.heap.size (.int .i64 a.fc) (.int .i64 a.rd) (.int .i64 a.ct) (.int .i64 a.wr) (.int .i64 a.mn) (.slice A a.vs.length cc) := by rw [hX]; refine ⟨?_, ?_, ?_, ?_, ?_, ?_⟩ <;> go_simp
 have b1 : Six X (w.heap.size + 1) (.int .i64 0) (.int .i64 0) (.int .i64 0) (.slice none 0 0) (.slice none 0 0) (.slice none 0 0) := by rw [hX]; refine ⟨?_, ?_, ?_, ?_, ?_, ?_⟩ <;> go_simp
 have b2 : ∀ j, X.frozen? ⟨w.heap.size + 1, j, none⟩ = false := fun j => by rw [hX]; go_simp
 have hS : ∀ W, Keep X W -> W.cell? ⟨w.heap.size, 0, none⟩ = some (.int .i64 a.fc) ∧ W.cell? ⟨w.heap.size, 1, none⟩ = some (.int .i64 a.rd) ∧ W.cell? ⟨w.heap.size, 2, none⟩ = some (.int .i64 a.ct) ∧ W.cell? ⟨w.heap.size, 3, none⟩ = some (.int .i64 a.wr) ∧ W.cell? ⟨w.heap.size, 4, none⟩ = some (.int .i64 a.mn) ∧ W.cell? ⟨w.heap.size, 5, none⟩ = some (.slice A a.vs.length cc) := fun W h => b0.below h (by omega)
 have hT : ∀ W, Keep X W -> Six W (w.heap.size + 1) (.int .i64 0) (.int .i64 0) (.int .i64 0) (.slice none 0 0) (.slice none 0 0) (.slice none 0 0) := fun W h => b1.below h (by omega)
 have hU : ∀ W, Keep X W -> ∀ j, W.frozen? ⟨w.heap.size + 1, j, none⟩ = false := fun W h j => (h.frozen (by show w.heap.size + 1 < _; omega)).trans (b2 j)
 have C1 := Lib.hid (fun W => spans_any a (.slice A a.vs.length cc) W hf hp hq)
 have C2 := Lib.hid (fun W (h : Keep X W) => clone1_any A a.vs.length cc a.vs W hn (hA.kept (kX.trans h)))
 have C3 := Lib.hid (fun W (h : Keep X W) => regs_any a A cc W hn (hA.kept (kX.trans h)))
 have HX := Lib.hid hX
 have SX := Lib.hid sX
 have KX := Lib.hid kX
 have hne : w.heap.size ≠ w.heap.size + 1 := by omega
 clear hX sX b0 b1 b2 kX hA hf hp hq hn
 have hw := keepd (Keep.refl X)
 go_enter Tryz.func38, Tryz.ntmps38
 go_wp2
 rw [<- HX.out]
 go_region_held3 (fun W => W.cell? ⟨w.heap.size, 0, none⟩ = some (.int .i64 a.fc) ∧ W.cell? ⟨w.heap.size, 1, none⟩ = some (.int .i64 a.rd) ∧ W.cell? ⟨w.heap.size, 2, none⟩ = some (.int .i64 a.ct) ∧ W.cell? ⟨w.heap.size, 3, none⟩ = some (.int .i64 a.wr) ∧ W.cell? ⟨w.heap.size, 4, none⟩ = some (.int .i64 a.mn) ∧ W.cell? ⟨w.heap.size, 5, none⟩ = some (.slice A a.vs.length cc))
  (first
   | exact hS _ hw
   | exact sets6 (hS _ hw) hne _ _ _ _ _ _
   | fail)
  ((first
    | (go_at_call 57; refine (C1.out _).mono ?_; rintro e w3 ⟨SA, sc, rfl, hSr, k3, f3⟩; replace f3 := f3.mono hw; have hw := hw.trans k3; obtain ⟨t0, t1, t2, t3, t4, t5⟩ := hT _ hw; have uu := hU _ hw; have u0 := uu 0; have u1 := uu 1; have u2 := uu 2; have u3 := uu 3; have u4 := uu 4; have u5 := uu 5)
    | (go_at_call 32; refine (C2.out _ hw).mono ?_; rintro e w4 ⟨VA, vc, rfl, hVr, k4, f4, _⟩; replace f4 := f4.mono hw; have hw := hw.trans k4; obtain ⟨t0, t1, t2, t3, t4, t5⟩ := hT _ hw; have uu := hU _ hw; have u0 := uu 0; have u1 := uu 1; have u2 := uu 2; have u3 := uu 3; have u4 := uu 4; have u5 := uu 5)
    | (go_at_call 58; refine (C3.out _ hw).mono ?_; rintro e w5 ⟨RA, rc, rfl, hRr, k5, f5, hrm5⟩; have hRM := Lib.hid hrm5; clear hrm5; replace f5 := f5.mono hw; have hw := hw.trans k5; obtain ⟨t0, t1, t2, t3, t4, t5⟩ := hT _ hw; have uu := hU _ hw; have u0 := uu 0; have u1 := uu 1; have u2 := uu 2; have u3 := uu 3; have u4 := uu 4; have u5 := uu 5)
    | fail))
 all_goals (
  go_wp2
  (try simp only [Exit.inBlock, Exit.then])
  refine bodyPost_ret (v := .agg #[.int .i64 c, .int .i64 u, .int .i64 a.fc, .slice SA (reads a ++ writes a).length sc, .slice VA a.vs.length vc, .slice RA (regs a).length rc]) ?_ rfl ?_
  ·rw [results_c rfl]
   go_simp
  ·refine ⟨SA, VA, RA, sc, vc, rc, rfl, ⟨Row.apart (b := w.heap.size + 1) ?_ ?_ ?_ (fun p hp => other_sets6 _ _ _ _ _ _ p hp), Ints.apart (b := w.heap.size + 1) ?_ ?_ ?_ (fun p hp => other_sets6 _ _ _ _ _ _ p hp), Ints.apart (b := w.heap.size + 1) ?_ ?_ ?_ (fun p hp => other_sets6 _ _ _ _ _ _ p hp)⟩, keep_sets6 (KX.out.trans hw) (by omega) _ _ _ _ _ _, ⟨f3.mono KX.out, .inl (f4.mono KX.out), .inl (f5.mono KX.out)⟩, hRM.out⟩
   all_goals (try simp only [of])
   all_goals (first
    | with_reducible exact hSr
    | with_reducible exact hSr.kept k4
    | with_reducible exact hSr.kept k5
    | with_reducible exact hSr.kept (k4.trans k5)
    | with_reducible exact hSr.kept (k5.trans k4)
    | with_reducible exact hVr
    | with_reducible exact hVr.kept k3
    | with_reducible exact hVr.kept k5
    | with_reducible exact hVr.kept (k3.trans k5)
    | with_reducible exact hVr.kept (k5.trans k3)
    | with_reducible exact hRr
    | with_reducible exact hRr.kept k3
    | with_reducible exact hRr.kept k4
    | with_reducible exact hRr.kept (k3.trans k4)
    | with_reducible exact hRr.kept (k4.trans k3)
    | (intro hn p hp; have := f3 hn p hp; have := SX.out; omega)
    | (intro hn p hp; have := f4 hn p hp; have := SX.out; omega)
    | (intro hn p hp; have := f5 hn p hp; have := SX.out; omega)
    | simp
    | fail))
end Go.Proofs.YtaciogcpghbhjaaGreat.Facts
