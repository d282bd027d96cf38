/- Layer 23's reference: Get. Conditions: texts of Go's sizes. -/
import Derived.Test.YtmnmlhbmhfhgaaaAuS
import Derived.Test.YtmnmlhbmhfhgaaaRelT
import Derived.Deep.Cut
namespace Go.Proofs.Ytmnmlhbmhfhgaaa.Ref23
set_option linter.unusedVariables false
set_option linter.unusedSimpArgs false
set_option maxRecDepth 100000
open Go.ChangeShapes Go.WideShapes Go.ChangeAt Go.RowKit
open Au
theorem keepq {P : Program} {f : FuncId} {args : Array Value} {v : Value} {w : World} (h : Calls P f args w fun e w' => e = .returned v ∧ Quiet w w') : Calls P f args w fun e w' => e = .returned v ∧ Keep w w' :=
  h.mono fun e w' h => ⟨h.1, h.2.keep⟩
/-- Nine cells written. -/
def set9 (W : World) (q : Nat) (r : RecP) : World :=
  ((((((((W.setCell ⟨q, 0, none⟩ (.int .i64 r.sq)).setCell ⟨q, 1, none⟩ (.int .i64 r.tk)).setCell ⟨q, 2, none⟩ (.int .i64 r.kd)).setCell ⟨q, 3, none⟩ (.int .i64 r.cn)).setCell ⟨q, 4, none⟩ (.int .i64 r.un)).setCell ⟨q, 5, none⟩ (.int .i64 r.fn)).setCell ⟨q, 6, none⟩ (.int .i64 r.vd)).setCell ⟨q, 7, none⟩ (.int .i64 r.rl)).setCell ⟨q, 8, none⟩ (.int .i64 r.id)
theorem set9_keep {X W : World} {q : Nat} (h : Keep X W) (hq : X.heap.size ≤ q) (r : RecP) : Keep X (set9 W q r) :=
  ((((((((h.setCell hq _).setCell hq _).setCell hq _).setCell hq _).setCell hq _).setCell hq _).setCell hq _).setCell hq _).setCell hq _
theorem set9_box {W : World} {q : Nat} {r0 : RecP} (h : Bx W q (encR r0)) (r : RecP) : Bx (set9 W q r) q (encR r) := by
  obtain ⟨c0, c1, c2, c3, c4, c5, c6, c7, c8⟩ := bx9 h
  refine ⟨by unfold set9; simp [h.1], fun j v hj => ?_⟩
  unfold set9
  match j, hj with
  | 0, hj => obtain rfl := Option.some.inj hj; go_simp
  | 1, hj => obtain rfl := Option.some.inj hj; go_simp
  | 2, hj => obtain rfl := Option.some.inj hj; go_simp
  | 3, hj => obtain rfl := Option.some.inj hj; go_simp
  | 4, hj => obtain rfl := Option.some.inj hj; go_simp
  | 5, hj => obtain rfl := Option.some.inj hj; go_simp
  | 6, hj => obtain rfl := Option.some.inj hj; go_simp
  | 7, hj => obtain rfl := Option.some.inj hj; go_simp
  | 8, hj => obtain rfl := Option.some.inj hj; go_simp
  | j + 9, hj => cases hj
theorem get_head (s : ByteArray) (h : s.size = 20) : getOk s = right (read s) ∧ Au.get s = if right (read s) then read s else zero := by
  have e : getOk s = right (read s) := by unfold getOk; rw [h]; rfl
  exact ⟨e, by unfold Au.get; rw [e]⟩
def getD : List Tmp := [4]
def getR (X : World) (t : Tmp) (v : Value) (W : World) : Prop := ∃ q, v = .pointer (some ⟨q, 0, none⟩) ∧ X.heap.size ≤ q ∧ Bx W q (encR zero) ∧ ∀ j, W.frozen? ⟨q, j, none⟩ = false
set_option maxHeartbeats 4000000 in
theorem get_any (s : ByteArray) (w : World) (hs : s.size ≤ maxLen) :
    Calls Try.prog 9 #[.string s] w fun e w' => e = .returned (.tuple #[aggR (Au.get s), .bool (getOk s)]) ∧ Keep w w' := by
  obtain ⟨X, hX⟩ : ∃ X, X = w.alloc (.cells #[.int .i64 0, .int .i64 0, .int .i64 0, .int .i64 0, .int .i64 0, .int .i64 0, .int .i64 0, .int .i64 0, .int .i64 0] 23) := ⟨_, rfl⟩
  have k0 : Keep w X := by rw [hX]; exact (Keep.refl w).alloc _
  have B0 : Hid (Bx X w.heap.size (encR zero)) := Lib.hid (by rw [hX]; exact Bx.newq rfl)
  have F0 : Hid (∀ j, X.frozen? ⟨w.heap.size, j, none⟩ = false) := Lib.hid fun j => by rw [hX]; go_simp
  have HZ : Hid (X.heap.size = w.heap.size + 1) := Lib.hid (by rw [hX]; simp)
  have HX := Lib.hid hX
  clear hX
  by_cases h : s.size = 20
  · have d : ((s.size : Int) != 20) = false := by rw [h]; rfl
    obtain ⟨g1, g2⟩ := get_head s h
    obtain ⟨r, hr⟩ : ∃ r, r = read s := ⟨_, rfl⟩
    have N0 := Lib.hid fun W => number_any s 0 W h (by omega) (by omega)
    have N6 := Lib.hid fun W => number_any s 6 W h (by omega) (by omega)
    have L1 := Lib.hid fun W => less_any (byteAt s 13) W (byteAt_range s 13).1 (byteAt_range s 13).2
    have L2 := Lib.hid fun W => less_any (byteAt s 17) W (byteAt_range s 17).1 (byteAt_range s 17).2
    have T := Lib.hid fun W => Ref1.at_any s 18 W (by unfold maxLen; omega)
    rw [show num6 s 0 = r.sq by rw [hr]; rfl] at N0
    rw [show num6 s 6 = r.tk by rw [hr]; rfl] at N6
    rw [show less (byteAt s 13) = r.cn by rw [hr]; rfl] at L1
    rw [show less (byteAt s 17) = r.rl by rw [hr]; rfl] at L2
    rw [show Tw.get s 18 = r.id by rw [hr]; unfold Tw.get; rw [if_pos (by simp [Tw.getOk, h])]; rfl] at T
    have x12 := idx (P := Try.prog) (k := .i64) s 12 Try.underlying9 (by omega) (by omega)
    have x13 := idx (P := Try.prog) (k := .i64) s 13 Try.underlying9 (by omega) (by omega)
    have x14 := idx (P := Try.prog) (k := .i64) s 14 Try.underlying9 (by omega) (by omega)
    have x15 := idx (P := Try.prog) (k := .i64) s 15 Try.underlying9 (by omega) (by omega)
    have x16 := idx (P := Try.prog) (k := .i64) s 16 Try.underlying9 (by omega) (by omega)
    have x17 := idx (P := Try.prog) (k := .i64) s 17 Try.underlying9 (by omega) (by omega)
    have r12 := byteAt_range s 12
    have r14 := byteAt_range s 14
    have r15 := byteAt_range s 15
    have r16 := byteAt_range s 16
    rw [show byteAt s 12 = r.kd by rw [hr]; rfl] at x12 r12
    rw [show byteAt s 14 = r.un by rw [hr]; rfl] at x14 r14
    rw [show byteAt s 15 = r.fn by rw [hr]; rfl] at x15 r15
    rw [show byteAt s 16 = r.vd by rw [hr]; rfl] at x16 r16
    obtain ⟨ra, rb⟩ := r12
    obtain ⟨rc, rd⟩ := r14
    obtain ⟨re, rf⟩ := r15
    obtain ⟨rg, rh⟩ := r16
    have HR := Lib.hid fun W => right_any r W
    rw [← hr] at g1 g2
    obtain ⟨b, hb⟩ : ∃ b, b = right r := ⟨_, rfl⟩
    rw [← hb] at HR g1 g2
    have G1 := Lib.hid g1
    have G2 := Lib.hid g2
    clear g1 g2 hr hb h hs
    go_enter Try.func9, Try.ntmps9
    go_wp2
    rw [← HX.out]
    go_cut [4] from 5 (fun p W => ∃ q : Nat, p = .pointer (some ⟨q, 0, none⟩) ∧ Bx W q (encR r) ∧ w.heap.size < q ∧ Keep X W)
    case first =>
      refine Rel.wp_region_rel_tail 26 getD (getR X) (by kernel_rfl) (by kernel_rfl) (fun t _ v W W' hk ⟨q, e, hq, hbx, hf⟩ => ⟨q, e, hq, hbx.kept hk, fun j => (Below.frozen hk hbx.1).trans (hf j)⟩) ?_
      simp only [List.take_succ_cons, List.take_zero]
      refine Rel.rel_take' 25 (by kernel_rfl) ?_
      apply Exists.intro
      refine ⟨fun F hF hne => ?_, ?_⟩
      · simp only [List.take_succ_cons, List.take_zero]
        have y0 := fun q : Rel.KeptIn X F => keepq (N0.out q.w)
        have y6 := fun q : Rel.KeptIn X F => keepq (N6.out q.w)
        have z1 := fun q : Rel.KeptIn X F => keepq (L1.out q.w)
        have z2 := fun q : Rel.KeptIn X F => keepq (L2.out q.w)
        have tt := fun q : Rel.KeptIn X F => keepq (T.out q.w)
        repeat (go_big_quiet_step (first | with_reducible exact Rel.KeptIn.of hF (y0 _) | with_reducible exact Rel.KeptIn.of hF (y6 _) | with_reducible exact Rel.KeptIn.of hF (z1 _) | with_reducible exact Rel.KeptIn.of hF (z2 _) | with_reducible exact Rel.KeptIn.of hF (tt _)))
        refine Go.wpQuiet_nil ?_
        rfl
      simp only [List.drop_succ_cons, List.drop_zero]
      refine Rel.rel_opR 4 [] rfl (by kernel_rfl) ?_ ?_
      · intro V W hk _
        refine ⟨.pointer (some ⟨W.heap.size, 0, none⟩), W.alloc (.cells #[.int .i64 0, .int .i64 0, .int .i64 0, .int .i64 0, .int .i64 0, .int .i64 0, .int .i64 0, .int .i64 0, .int .i64 0] 23), ?_, ?_, ?_⟩
        · go_simp
        · exact (Keep.refl W).alloc _
        · exact ⟨W.heap.size, rfl, hk.size, Bx.newq rfl, fun j => by go_simp⟩
      simp only [Act.put, List.setIfInBounds_toArray, List.set_cons_zero, List.set_cons_succ]
      refine Rel.rel_nil fun V w2 k2 hV => ?_
      obtain ⟨q, hq, hqz, hbx, hfz⟩ := hV 4 (by simp [getD])
      obtain ⟨c0, c1, c2, c3, c4, c5, c6, c7, c8⟩ := bx9 hbx
      try simp only [List.drop_succ_cons, List.drop_zero]
      dsimp only [getD, Rel.fill, List.foldl_cons, List.foldl_nil]
      simp only [Act.put, List.setIfInBounds_toArray, List.set_cons_zero, List.set_cons_succ, hq]
      go_wp2
      go_meet
      refine ⟨q, rfl, set9_box hbx r, ?_, set9_keep k2 hqz r⟩
      have := HZ.out
      omega
    case rest =>
      obtain ⟨q, rfl, bq, hlt, kX⟩ := hcut
      obtain ⟨c0, c1, c2, c3, c4, c5, c6, c7, c8⟩ := bx9 bq
      have BQ := Lib.hid bq
      have hXl : w.heap.size < X.heap.size := by rw [HZ.out]; omega
      go_wp2_with fail
      refine (HR.out wc).mono ?_
      rintro e w1 ⟨rfl, k1⟩
      have kw := kX.trans k1
      obtain ⟨r0, r1, r2, r3, r4, r5, r6, r7, r8⟩ := bx9 (B0.out.kept kw)
      have rf := fun j => (Below.frozen kw hXl).trans (F0.out j)
      obtain ⟨d0, d1, d2, d3, d4, d5, d6, d7, d8⟩ := bx9 (BQ.out.kept k1)
      have kk := k0.trans kw
      have hne : q ≠ w.heap.size := by omega
      clear c0 c1 c2 c3 c4 c5 c6 c7 c8 bq k1 kX
      cases b
      · go_wp2
        (try simp only [Exit.inBlock, Exit.then])
        refine bodyPost_ret (v := .tuple #[aggR zero, .bool false]) ?_ rfl ⟨by rw [G1.out, G2.out]; rfl, ?_⟩
        · rw [results_cell_tmp rfl]
          go_simp
          (try exact ⟨rfl, rfl, rfl, rfl, rfl, rfl, rfl, rfl, rfl⟩)
        · exact set9_keep kk (Nat.le_refl _) zero
      · go_wp2
        (try simp only [Exit.inBlock, Exit.then])
        refine bodyPost_ret (v := .tuple #[aggR r, .bool true]) ?_ rfl ⟨by rw [G1.out, G2.out]; rfl, ?_⟩
        · rw [results_cell_tmp rfl]
          go_simp
        · exact set9_keep kk (Nat.le_refl _) r
  · have d : ((s.size : Int) != 20) = true := by simp; omega
    have G1 := Lib.hid (show getOk s = false by unfold getOk; simp [h])
    obtain ⟨r0, r1, r2, r3, r4, r5, r6, r7, r8⟩ := bx9 B0.out
    have rf := F0.out
    go_enter Try.func9, Try.ntmps9
    go_wp2_with fail
    rw [← HX.out]
    go_wp2
    (try simp only [Exit.inBlock, Exit.then])
    refine bodyPost_ret (v := .tuple #[aggR zero, .bool false]) ?_ rfl ⟨by unfold Au.get; rw [G1.out]; rfl, ?_⟩
    · rw [results_cell_tmp rfl]
      go_simp
      (try exact ⟨rfl, rfl, rfl, rfl, rfl, rfl, rfl, rfl, rfl⟩)
    · exact k0
end Go.Proofs.Ytmnmlhbmhfhgaaa.Ref23
