/- Layer 23's laws: the example, AuditTells. Conditions: none beyond the law's own. -/
import Derived.Test.YtmnmlhbmhfhgaaaAu
import Derived.Test.YtmnmlhbmhfhgaaaAuH
import Derived.Laws.MakeOwn
namespace Go.Proofs.Ytmnmlhbmhfhgaaa.Audit
set_option linter.unusedVariables false
set_option linter.unusedSimpArgs false
set_option maxRecDepth 100000
open Go.ChangeShapes Go.WideShapes Go.ChangeAt Go.RowKit
open Au
open Ref23 (aggR encR bx9 cellsR RetAll)
def r0 : RecP := ⟨0, 0, 2, 3, 0, 0, 10, -1, 0⟩
def s0 : ByteArray := st (Au.bytes r0)
theorem put_r0 : st (put r0) = s0 := by rw [put_right (by decide)]; rfl
theorem get_s0 : getOk s0 = true ∧ Au.get s0 = r0 := back1_ok (by decide)
theorem size_s0 : s0.size = 20 := rfl
theorem head_s0 : s0.extract 0 12 = st (List.replicate 12 0) := by
  rw [Lib.extract_eq]; rfl
theorem at12_s0 : byteAt s0 12 = 2 := rfl
theorem at17_s0 : byteAt s0 17 = 255 := rfl
def awD : List Tmp := [24]
def awR (t : Tmp) (v : Value) (w : World) : Prop := ∃ g, v = .slice (some ⟨g, 0, none⟩) 12 12 ∧ g < w.heap.size ∧ ∀ j, j < 12 → w.cell? ⟨g, j, none⟩ = some (.int .u8 0)
theorem info_byte : (Try.prog.info? 5).map (fun i => (i.zero, i.size, i.bytes)) = some (some (.int .u8 0), 1, 1) := by kernel_rfl
set_option maxHeartbeats 4000000 in
theorem awake_any (w : World) : Calls Try.prog 5 #[] w fun e w' => e = .returned (.bool true) ∧ Keep w w' := by
  obtain ⟨iB, hiB, hzB, hyB, hlB⟩ := info_parts info_byte
  have HP := Lib.hid (put_any r0 w)
  rw [put_r0, show right r0 = true by decide] at HP
  obtain ⟨g1, g2⟩ := get_s0
  have HG := Lib.hid fun W => get_any s0 W (by rw [size_s0]; decide)
  rw [g1, g2] at HG
  have d0 : ((s0.size : Int) == 20) = true := by rw [size_s0]; rfl
  have sl : ∀ W : World, (Instr.slice 9 (.string s0) none (some (.int .i64 12)) none).run Try.prog W = .ok (.string (st (List.replicate 12 0))) W := fun W => by
    rw [← head_s0]
    exact run_slice_string_h (P := Try.prog) (w := W) (t := 9) (s := s0) Try.underlying9 .i64 12 (by omega) (by rw [size_s0]; decide)
  have x12 := idx (P := Try.prog) (k := .i64) s0 12 Try.underlying9 (by omega) (by rw [size_s0]; decide)
  have x17 := idx (P := Try.prog) (k := .i64) s0 17 Try.underlying9 (by omega) (by rw [size_s0]; decide)
  rw [at12_s0] at x12
  rw [at17_s0] at x17
  obtain ⟨s, hs⟩ : ∃ s, s = s0 := ⟨_, rfl⟩
  rw [← hs] at HP HG d0 sl x12 x17
  clear hs g1 g2
  go_enter Try.func5, Try.ntmps5
  go_wp2_with fail
  refine HP.out.mono ?_
  rintro e w1 ⟨rfl, k1⟩
  go_wp2_with fail
  refine (HG.out w1).mono ?_
  rintro e w2 ⟨rfl, k2⟩
  have k := k1.trans k2
  have HK := Lib.hid (k.alloc (.cells (cellsR r0) 23))
  obtain ⟨X, hX⟩ : ∃ X, X = w2.alloc (.cells (cellsR r0) 23) := ⟨_, rfl⟩
  have hb : Bx X w2.heap.size (encR r0) := by rw [hX]; exact Bx.newq rfl
  rw [← hX] at HK
  have HX := Lib.hid hX
  have HB := Lib.hid hb
  clear hX hb
  go_wp2_with fail
  rw [show w2.alloc (.cells #[.int .i64 r0.sq, .int .i64 r0.tk, .int .i64 r0.kd, .int .i64 r0.cn, .int .i64 r0.un, .int .i64 r0.fn, .int .i64 r0.vd, .int .i64 r0.rl, .int .i64 r0.id] 23) = X from HX.out.symm]
  refine Rel.wp_region_rel awD awR (by kernel_rfl) (by kernel_rfl) (fun t _ v W W' hk ⟨g, e, hg, hc⟩ => ⟨g, e, Nat.lt_of_lt_of_le hg hk.size, fun j hj => (Below.cell hk hg).trans (hc j hj)⟩) ?_
  refine Rel.rel_take' 9 (by kernel_rfl) ?_
  apply Exists.intro
  refine ⟨fun F hF hne => ?_, ?_⟩
  · simp only [List.take_succ_cons, List.take_zero]
    repeat (go_big_quiet_step (fail))
    refine Go.wpQuiet_nil ?_
    rfl
  simp only [List.drop_succ_cons, List.drop_zero]
  refine Rel.rel_opR 24 [] rfl (by kernel_rfl) ?_ ?_
  · intro V W hk _
    refine ⟨.slice (some ⟨W.heap.size, 0, none⟩) 12 12, W.alloc (.cells (madeCells (Value.int .u8 0).cells 12) 5), ?_, (Keep.refl W).alloc _, W.heap.size, rfl, by simp, fun j hj => ?_⟩
    · have h := run_makeSlice (P := Try.prog) (w := W) 36 5 iB (.int .u8 0) Try.underlying36 hiB hzB .i64 .i64 12 12 (by omega) (by omega) (by rw [hyB]; decide) (by rw [hlB]; decide) (by decide)
      rw [hyB] at h
      simp only [execOp, Rel.pickV, Sem.run_bind]
      rw [h]
      rfl
    · rw [World.cell?_alloc_at (hn := rfl)]
      simp [madeCells, Value.cells, hj, Nat.mod_one]
  simp only [Act.put, List.setIfInBounds_toArray, List.set_cons_zero, List.set_cons_succ]
  refine Rel.rel_opq (.string (st (List.replicate 12 0))) 25 [24] rfl (by kernel_rfl) ?_ ?_
  · intro V W hk hV
    obtain ⟨g, e, hg, hc⟩ := hV 24 (by simp)
    have h := run_convert_bytes_arg (P := Try.prog) W 36 5 Try.underlying36 Try.underlying5 g 0 12 12 (List.replicate 12 0) rfl (fun i hi => by
      rw [Nat.zero_add, hc i hi]
      match i, hi with
      | 0, _ => rfl
      | 1, _ => rfl
      | 2, _ => rfl
      | 3, _ => rfl
      | 4, _ => rfl
      | 5, _ => rfl
      | 6, _ => rfl
      | 7, _ => rfl
      | 8, _ => rfl
      | 9, _ => rfl
      | 10, _ => rfl
      | 11, _ => rfl) 9 Try.underlying9
    have h2 : strOfNums (List.replicate 12 0) = st (List.replicate 12 0) := rfl
    rw [h2] at h
    simp only [execOp, Rel.pickV, Sem.run_bind]
    rw [if_pos (show awD.contains 24 = true from rfl), e, h]
    rfl
  simp only [Act.put, List.setIfInBounds_toArray, List.set_cons_zero, List.set_cons_succ]
  refine Rel.rel_take' 26 (by kernel_rfl) ?_
  apply Exists.intro
  refine ⟨fun F hF hne => ?_, ?_⟩
  · simp only [List.take_succ_cons, List.take_zero]
    have x := fun q : Rel.KeptIn X F => bx9 (HB.out.kept q.h)
    have y3 : ∀ q : Rel.KeptIn X F, q.w.cell? ⟨w2.heap.size, 3, none⟩ = some (.int .i64 3) := fun q => (x q).2.2.2.1
    have y7 : ∀ q : Rel.KeptIn X F, q.w.cell? ⟨w2.heap.size, 7, none⟩ = some (.int .i64 (-1)) := fun q => (x q).2.2.2.2.2.2.2.1
    clear x
    repeat (go_big_quiet_step (fail))
    refine Go.wpQuiet_nil ?_
    rfl
  simp only [List.drop_succ_cons, List.drop_zero]
  refine Rel.rel_nil fun V w3 k3 _ => ?_
  dsimp only [awD, Rel.fill, List.foldl_cons, List.foldl_nil]
  go_wp2
  go_ret
  exact ⟨rfl, HK.out.trans k3⟩
set_option maxHeartbeats 8000000 in
theorem tells_any (r : RecP) (s : ByteArray) (w : World) (hs : s.size ≤ maxLen) :
    Calls Try.prog 3 #[aggR r, .string s] w fun e w' => e = .returned (.bool true) ∧ Keep w w' := by
  obtain ⟨X, hX⟩ : ∃ X, X = w.alloc (.cells (cellsR r) 23) := ⟨_, rfl⟩
  have k0 : Keep w X := by rw [hX]; exact (Keep.refl w).alloc _
  have B0 : Hid (Bx X w.heap.size (encR r)) := Lib.hid (by rw [hX]; exact Bx.newq rfl)
  have HX := Lib.hid hX
  clear hX
  by_cases h1 : 1000 < s.size
  · have d1 : decide ((1000 : Int) < (s.size : Int)) = true := by simp; omega
    clear h1
    go_enter Try.func3, Try.ntmps3
    go_wp2_with fail
    rw [show w.alloc (.cells #[.int .i64 r.sq, .int .i64 r.tk, .int .i64 r.kd, .int .i64 r.cn, .int .i64 r.un, .int .i64 r.fn, .int .i64 r.vd, .int .i64 r.rl, .int .i64 r.id] 23) = X from HX.out.symm]
    go_wp2_with fail
    refine (awake_any _).mono ?_
    rintro e W2 ⟨rfl, hb2⟩
    go_wp2
    go_ret
    exact ⟨rfl, k0.trans hb2⟩
  · have d1 : decide ((1000 : Int) < (s.size : Int)) = false := by simp; omega
    have hs1 : s.size ≤ 100000 := by omega
    have P1 := Lib.hid (fun W => put_any r W)
    have P2 := Lib.hid (fun W => Ref23.put_any r W)
    have R1 := Lib.hid (fun W => right_any r W)
    have R2 := Lib.hid (fun W => Ref23.right_any r W)
    have G1 := Lib.hid (fun W => get_any s W hs)
    have G2 := Lib.hid (fun W => Ref23.get_any s W hs)
    have A1 := Lib.hid (fun W => all_any s W hs1)
    have A2 := Lib.hid (fun W => Ref23.all_any s W hs1)
    obtain ⟨rb, hrb⟩ : ∃ b, b = right r := ⟨_, rfl⟩
    obtain ⟨ps, hps⟩ : ∃ b, b = st (put r) := ⟨_, rfl⟩
    obtain ⟨g, hg⟩ : ∃ b, b = Au.get s := ⟨_, rfl⟩
    obtain ⟨gb, hgb⟩ : ∃ b, b = getOk s := ⟨_, rfl⟩
    obtain ⟨ls, hls⟩ : ∃ b, b = all s := ⟨_, rfl⟩
    obtain ⟨ab, hab⟩ : ∃ b, b = allOk s := ⟨_, rfl⟩
    rw [← hrb, ← hps] at P1 P2
    rw [← hrb] at R1 R2
    rw [← hg, ← hgb] at G1 G2
    rw [← hls, ← hab] at A1 A2
    have e1 : (rb == rb) = true := beq_self_eq_true rb
    have e2 : (gb == gb) = true := beq_self_eq_true gb
    have e3 : (ab == ab) = true := beq_self_eq_true ab
    clear hrb hps hg hgb hls hab h1 hs hs1
    go_enter Try.func3, Try.ntmps3
    obtain ⟨c0, c1, c2, c3, c4, c5, c6, c7, c8⟩ := bx9 B0.out
    go_wp2_with fail
    rw [show w.alloc (.cells #[.int .i64 r.sq, .int .i64 r.tk, .int .i64 r.kd, .int .i64 r.cn, .int .i64 r.un, .int .i64 r.fn, .int .i64 r.vd, .int .i64 r.rl, .int .i64 r.id] 23) = X from HX.out.symm]
    go_wp2_with fail
    refine (P1.out _).mono ?_
    rintro e w1 ⟨rfl, k1⟩
    replace c0 := (Below.cell k1 B0.out.1).trans c0
    replace c1 := (Below.cell k1 B0.out.1).trans c1
    replace c2 := (Below.cell k1 B0.out.1).trans c2
    replace c3 := (Below.cell k1 B0.out.1).trans c3
    replace c4 := (Below.cell k1 B0.out.1).trans c4
    replace c5 := (Below.cell k1 B0.out.1).trans c5
    replace c6 := (Below.cell k1 B0.out.1).trans c6
    replace c7 := (Below.cell k1 B0.out.1).trans c7
    replace c8 := (Below.cell k1 B0.out.1).trans c8
    go_wp2_with fail
    refine (P2.out _).mono ?_
    rintro e w2 ⟨rfl, k2⟩
    replace k2 := k1.trans k2
    clear c0 c1 c2 c3 c4 c5 c6 c7 c8 k1
    go_wp2_with fail
    refine (G1.out _).mono ?_
    rintro e w3 ⟨rfl, k3⟩
    replace k3 := k2.trans k3
    clear k2
    obtain ⟨Y, hY⟩ : ∃ Y, Y = w3.alloc (.cells (cellsR g) 23) := ⟨_, rfl⟩
    have kY : Keep X Y := by rw [hY]; exact k3.alloc _
    have B1 : Hid (Bx Y w3.heap.size (encR g)) := Lib.hid (by rw [hY]; exact Bx.newq rfl)
    have HY := Lib.hid hY
    clear hY k3
    go_wp2_with fail
    rw [show w3.alloc (.cells #[.int .i64 g.sq, .int .i64 g.tk, .int .i64 g.kd, .int .i64 g.cn, .int .i64 g.un, .int .i64 g.fn, .int .i64 g.vd, .int .i64 g.rl, .int .i64 g.id] 23) = Y from HY.out.symm]
    refine (G2.out _).mono ?_
    rintro e w4 ⟨rfl, k4⟩
    obtain ⟨Z, hZ⟩ : ∃ Z, Z = w4.alloc (.cells (cellsR g) 23) := ⟨_, rfl⟩
    have kZ : Keep Y Z := by rw [hZ]; exact k4.alloc _
    have B2 : Hid (Bx Z w4.heap.size (encR g)) := Lib.hid (by rw [hZ]; exact Bx.newq rfl)
    have HZ := Lib.hid hZ
    clear hZ k4
    go_wp2_with fail
    rw [show w4.alloc (.cells #[.int .i64 g.sq, .int .i64 g.tk, .int .i64 g.kd, .int .i64 g.cn, .int .i64 g.un, .int .i64 g.fn, .int .i64 g.vd, .int .i64 g.rl, .int .i64 g.id] 23) = Z from HZ.out.symm]
    refine (A1.out _).mono ?_
    rintro e w5 ⟨L1, n1, f1, rfl, _, m1, r1, k5⟩
    go_wp2_with fail
    refine (A2.out _).mono ?_
    rintro e w6 ⟨L2, n2, f2, rfl, _, m2, r2, k6⟩
    have hn1 : n1 ≤ maxLen := by omega
    have kZ6 := k5.trans k6
    have q0 := bx9 (B0.out.kept (kY.trans (kZ.trans kZ6)))
    have HQ := Lib.hid fun q : KeptOf w6 => bx9 (B0.out.kept ((kY.trans (kZ.trans kZ6)).trans q.h))
    have HQ1 := Lib.hid fun q : KeptOf w6 => bx9 (B1.out.kept ((kZ.trans kZ6).trans q.h))
    have HQ2 := Lib.hid fun q : KeptOf w6 => bx9 (B2.out.kept (kZ6.trans q.h))
    have HS := Lib.hid fun q : KeptOf w6 => Ref23.same_any L1 L2 n1 n2 f1 f2 ls q.w hn1 (r1.kept (k6.trans q.h)) (r2.kept q.h)
    have HKK := Lib.hid (k0.trans (kY.trans (kZ.trans kZ6)))
    clear q0 kY kZ k5 k6 kZ6 r1 r2 m1 m2 hn1
    go_wp2_with fail
    have x0 := fun q => (HQ.out q).1
    have x1 := fun q => (HQ.out q).2.1
    have x2 := fun q => (HQ.out q).2.2.1
    have x3 := fun q => (HQ.out q).2.2.2.1
    have x4 := fun q => (HQ.out q).2.2.2.2.1
    have x5 := fun q => (HQ.out q).2.2.2.2.2.1
    have x6 := fun q => (HQ.out q).2.2.2.2.2.2.1
    have x7 := fun q => (HQ.out q).2.2.2.2.2.2.2.1
    have x8 := fun q => (HQ.out q).2.2.2.2.2.2.2.2
    have y0 := fun q => (HQ1.out q).1
    have y1 := fun q => (HQ1.out q).2.1
    have y2 := fun q => (HQ1.out q).2.2.1
    have y3 := fun q => (HQ1.out q).2.2.2.1
    have y4 := fun q => (HQ1.out q).2.2.2.2.1
    have y5 := fun q => (HQ1.out q).2.2.2.2.2.1
    have y6 := fun q => (HQ1.out q).2.2.2.2.2.2.1
    have y7 := fun q => (HQ1.out q).2.2.2.2.2.2.2.1
    have y8 := fun q => (HQ1.out q).2.2.2.2.2.2.2.2
    have z0 := fun q => (HQ2.out q).1
    have z1 := fun q => (HQ2.out q).2.1
    have z2 := fun q => (HQ2.out q).2.2.1
    have z3 := fun q => (HQ2.out q).2.2.2.1
    have z4 := fun q => (HQ2.out q).2.2.2.2.1
    have z5 := fun q => (HQ2.out q).2.2.2.2.2.1
    have z6 := fun q => (HQ2.out q).2.2.2.2.2.2.1
    have z7 := fun q => (HQ2.out q).2.2.2.2.2.2.2.1
    have z8 := fun q => (HQ2.out q).2.2.2.2.2.2.2.2
    have ha := fun q : KeptOf w6 => awake_any q.w
    have hr1 := fun q : KeptOf w6 => R1.out q.w
    have hr2 := fun q : KeptOf w6 => R2.out q.w
    have hsm := fun q : KeptOf w6 => (HS.out q).mono fun e w' h => And.intro h.1 (Quiet.keep h.2)
    have hee := Ref23.eqR g
    have hgd := Ref23.guardR
    refine wp_region_kept (by kernel_rfl) (by kernel_rfl) ?_
    repeat (go_big_quiet_step (first | with_reducible exact KeptOf.of (ha _) | with_reducible exact KeptOf.of (hr1 _) | with_reducible exact KeptOf.of (hr2 _) | with_reducible exact KeptOf.of (hsm _)))
    refine Go.wpQuiet_nil ?_
    intro _ hw'
    obtain ⟨⟨W, hw⟩, hw''⟩ := hw'
    subst hw''
    go_wp2
    go_ret
    exact ⟨rfl, HKK.out.trans hw⟩
end Go.Proofs.Ytmnmlhbmhfhgaaa.Audit
