/- Layer 23's own code: Right, Put, Get, All. Conditions: texts of Go's sizes (All: at most a hundred thousand bytes). -/
import Derived.Test.YtmnmlhbmhfhgaaaAuC
namespace Go.Proofs.Ytmnmlhbmhfhgaaa.Audit
set_option linter.unusedVariables false
set_option linter.unusedSimpArgs false
set_option maxRecDepth 100000
open Go.ChangeShapes Go.WideShapes Go.ChangeAt Go.RowKit
open Au
open Ref23 (aggR encR encR_len encR_one bx9 RetAll cellsR row_one set9 set9_keep set9_box ret_bool ret_int ret_string keepq info_rec)
theorem get_head (s : ByteArray) (h : s.size = 20) : getOk s = right (Au.read s) ∧ Au.get s = if right (Au.read s) then Au.read s else zero := by
  have e : getOk s = right (Au.read s) := by unfold getOk; rw [h]; rfl
  exact ⟨e, by unfold Au.get; rw [e]⟩
set_option maxHeartbeats 4000000 in
theorem get_any (s : ByteArray) (w : World) (hs : s.size ≤ maxLen) :
    Calls Try.prog 8 #[.string s] w fun e w' => e = .returned (.tuple #[aggR (Au.get s), .bool (getOk s)]) ∧ Keep w w' := by
  obtain ⟨X, hX⟩ : ∃ X, X = w.alloc (.cells #[.int .i64 0, .int .i64 0, .int .i64 0, .int .i64 0, .int .i64 0, .int .i64 0, .int .i64 0, .int .i64 0, .int .i64 0] 23) := ⟨_, rfl⟩
  have k0 : Keep w X := by rw [hX]; exact (Keep.refl w).alloc _
  have B0 : Hid (Bx X w.heap.size (encR zero)) := Lib.hid (by rw [hX]; exact Bx.newq rfl)
  have F0 : Hid (∀ j, X.frozen? ⟨w.heap.size, j, none⟩ = false) := Lib.hid fun j => by rw [hX]; go_simp
  have HZ : Hid (X.heap.size = w.heap.size + 1) := Lib.hid (by rw [hX]; simp)
  have HX := Lib.hid hX
  clear hX
  by_cases h : s.size = 20
  · have d : ((s.size : Int) != 20) = false := by rw [h]; rfl
    obtain ⟨g1, g2⟩ := get_head s h
    obtain ⟨r, hr⟩ : ∃ r, r = Au.read s := ⟨_, rfl⟩
    have RD := Lib.hid fun W => read_any s W h
    rw [← hr] at RD g1 g2
    have HR := Lib.hid fun W => right_any r W
    obtain ⟨b, hb⟩ : ∃ b, b = right r := ⟨_, rfl⟩
    rw [← hb] at HR g1 g2
    have G1 := Lib.hid g1
    have G2 := Lib.hid g2
    clear g1 g2 hr hb h hs
    go_enter Try.func8, Try.ntmps8
    go_wp2_with fail
    rw [← HX.out]
    refine (RD.out _).mono ?_
    rintro e w1 ⟨rfl, k1⟩
    have kX : Keep X w1 := k1
    have KY := Lib.hid (k1.alloc (.cells #[.int .i64 r.sq, .int .i64 r.tk, .int .i64 r.kd, .int .i64 r.cn, .int .i64 r.un, .int .i64 r.fn, .int .i64 r.vd, .int .i64 r.rl, .int .i64 r.id] 23))
    have BY : Hid (Bx (w1.alloc (.cells #[.int .i64 r.sq, .int .i64 r.tk, .int .i64 r.kd, .int .i64 r.cn, .int .i64 r.un, .int .i64 r.fn, .int .i64 r.vd, .int .i64 r.rl, .int .i64 r.id] 23)) w1.heap.size (encR r)) := Lib.hid (Bx.newq rfl)
    have hlt : Hid (w.heap.size < w1.heap.size) := Lib.hid (by have := k1.size; have := HZ.out; omega)
    clear k1 kX
    go_wp2_with fail
    refine (HR.out _).mono ?_
    rintro e w2 ⟨rfl, k2⟩
    have kw := KY.out.trans k2
    obtain ⟨r0, r1, r2, r3, r4, r5, r6, r7, r8⟩ := bx9 (B0.out.kept kw)
    have hXl : w.heap.size < X.heap.size := by rw [HZ.out]; omega
    have rf := fun j => (Below.frozen kw hXl).trans (F0.out j)
    obtain ⟨d0, d1, d2, d3, d4, d5, d6, d7, d8⟩ := bx9 (BY.out.kept k2)
    have kk := k0.trans kw
    have hne : w1.heap.size ≠ w.heap.size := by have := hlt.out; omega
    clear k2 hXl kw k0
    cases b
    · go_wp2
      (try simp only [Exit.inBlock, Exit.then])
      refine bodyPost_ret (v := .tuple #[aggR zero, .bool false]) ?_ rfl ⟨by rw [G1.out, G2.out]; rfl, ?_⟩
      · rw [results_cell_tmp rfl]
        go_simp
        (try exact ⟨rfl, rfl, rfl, rfl, rfl, rfl, rfl, rfl, rfl⟩)
      · exact set9_keep kk (Nat.le_refl _) zero
    · go_wp2
      (try simp only [Exit.inBlock, Exit.then])
      refine bodyPost_ret (v := .tuple #[aggR r, .bool true]) ?_ rfl ⟨by rw [G1.out, G2.out]; rfl, ?_⟩
      · rw [results_cell_tmp rfl]
        go_simp
      · exact set9_keep kk (Nat.le_refl _) r
  · have d : ((s.size : Int) != 20) = true := by simp; omega
    have G1 := Lib.hid (show getOk s = false by unfold getOk; simp [h])
    clear B0 F0 HZ HX k0 h
    go_enter Try.func8, Try.ntmps8
    go_wp2
    (try simp only [Exit.inBlock, Exit.then])
    refine bodyPost_ret (v := .tuple #[aggR zero, .bool false]) ?_ rfl ⟨by unfold Au.get; rw [G1.out]; rfl, ?_⟩
    · rw [results_cell_tmp rfl]
      go_simp
      (try exact ⟨rfl, rfl, rfl, rfl, rfl, rfl, rfl, rfl, rfl⟩)
    · exact (Keep.refl w).alloc _
set_option maxHeartbeats 4000000 in
theorem put_any (r : RecP) (w : World) :
    Calls Try.prog 6 #[aggR r] w fun e w' => e = .returned (.tuple #[.string (st (put r)), .bool (right r)]) ∧ Keep w w' := by
  obtain ⟨X, hX⟩ : ∃ X, X = w.alloc (.cells #[.int .i64 r.sq, .int .i64 r.tk, .int .i64 r.kd, .int .i64 r.cn, .int .i64 r.un, .int .i64 r.fn, .int .i64 r.vd, .int .i64 r.rl, .int .i64 r.id] 23) := ⟨_, rfl⟩
  have k0 : Keep w X := by rw [hX]; exact (Keep.refl w).alloc _
  have B0 : Hid (Bx X w.heap.size (encR r)) := Lib.hid (by rw [hX]; exact Bx.newq rfl)
  have HX := Lib.hid hX
  have HR := Lib.hid (right_any r X)
  obtain ⟨rb, hrb⟩ : ∃ b, b = right r := ⟨_, rfl⟩
  rw [← hrb] at HR ⊢
  have HRB := Lib.hid hrb
  obtain ⟨c0, c1, c2, c3, c4, c5, c6, c7, c8⟩ := bx9 B0.out
  clear hX hrb
  cases rb
  · have HE := Lib.hid (show put r = [] by unfold put; rw [← HRB.out]; rfl)
    go_enter Try.func6, Try.ntmps6
    go_wp2_with fail
    rw [← HX.out]
    go_wp2_with fail
    refine HR.out.mono ?_
    rintro e w1 ⟨rfl, k1⟩
    go_wp2
    go_ret2
    exact ⟨by rw [HE.out]; rfl, k0.trans k1⟩
  · have hr := HRB.out.symm
    obtain ⟨i0, hi, hz0, hz1, hz2⟩ := info_parts Twin.info_uint8
    obtain ⟨⟨a1, a2⟩, ⟨d1, d2⟩, ⟨g1, g2⟩, ⟨h1, h2⟩, ⟨i1, i2⟩, ⟨j1, j2⟩, ⟨l1, l2⟩, ⟨m1, m2⟩, ⟨n1, n2⟩⟩ := (right_iff r).1 hr
    have HE := Lib.hid (show put r = (six r.sq ++ six r.tk) ++ [one r.kd, one r.cn, one r.un, one r.fn, one r.vd, one r.rl] ++ Tw.two r.id by rw [put_right hr]; unfold Au.bytes; simp only [List.append_assoc])
    have hone : ∀ z : Int, bv (one z) = .int .u8 (z % 256) := fun z => cell_of (by omega) (by omega)
    have HM := Lib.hid (show [one r.kd, one r.cn, one r.un, one r.fn, one r.vd, one r.rl].map bv = [.int .u8 (r.kd % 256), .int .u8 (r.cn % 256), .int .u8 (r.un % 256), .int .u8 (r.fn % 256), .int .u8 (r.vd % 256), .int .u8 (r.rl % 256)] by
      simp only [List.map_cons, List.map_nil, hone])
    have S1 := Lib.hid fun v W (hb : X.heap.size ≤ W.heap.size) h => lay_any X.heap.size v 0 [] r.sq W a1 a2 (by omega) hb h
    have S2 := Lib.hid fun v W (hb : X.heap.size ≤ W.heap.size) h => lay_any X.heap.size v (0 + 6) ([] ++ six r.sq) r.tk W d1 d2 (by omega) hb h
    have S3 := Lib.hid fun W => Twin.put_any r.id W
    rw [show Tw.put [r.id] = Tw.two r.id by unfold Tw.put; rw [if_pos (by simp [Tw.allIn, Tw.inR, n1, n2])]; simp [Tw.bytes], show Tw.inR r.id = true by simp [Tw.inR, n1, n2]] at S3
    obtain ⟨s12, hs12⟩ : ∃ s, s = ([] ++ six r.sq) ++ six r.tk := ⟨_, rfl⟩
    obtain ⟨md, hmd⟩ : ∃ s, s = [one r.kd, one r.cn, one r.un, one r.fn, one r.vd, one r.rl] := ⟨_, rfl⟩
    obtain ⟨s3, hs3⟩ : ∃ s, s = Tw.two r.id := ⟨_, rfl⟩
    rw [← hs3] at S3 HE
    rw [← hmd] at HE HM
    rw [← hs12] at S2
    have HE2 := Lib.hid (show put r = s12 ++ md ++ s3 by rw [HE.out, hs12, List.nil_append])
    have T1 := Lib.hid (add_st (P := Try.prog) (s12 ++ md) s3 (by rw [hs12, hmd, hs3]; simp [six, Tw.two]))
    clear a1 a2 d1 d2 g1 g2 h1 h2 i1 i2 j1 j2 l1 l2 m1 m2 n1 n2 hr hone hs12 hmd hs3
    go_enter Try.func6, Try.ntmps6
    go_wp2_with fail
    rw [← HX.out]
    go_wp2_with fail
    refine HR.out.mono ?_
    rintro e w1 ⟨rfl, k1⟩
    clear c0 c1 c2 c3 c4 c5 c6 c7 c8
    have hXw : X.heap.size ≤ w1.heap.size := k1.size
    go_wp2_with (at_make; refine wpList_make_own _ rfl _ _ 36 rfl X.heap.size 5 i0 (.int .u8 0) 1 Try.underlying36 hi hz0 hz1 _ _ _ 20 rfl rfl (by omega) ?b2 ?b3 hXw ?_)
    case b2 => rw [hz2]; omega
    case b3 => unfold maxLen; omega
    intro w2 hown2 hgrow2
    have k2 : Keep X w2 := Below.grown k1 hgrow2 hXw (fun k h => by cases h)
    obtain ⟨c0, c1, c2, c3, c4, c5, c6, c7, c8⟩ := bx9 (B0.out.kept k2)
    have O2 := Lib.hid hown2
    clear hown2 hgrow2 k1 hXw
    go_wp2_with fail
    refine (S1.out _ _ k2.size O2.out).mono ?_
    rintro e w3 ⟨v3, rfl, hown3, b3⟩
    have k3 : Keep X w3 := Below.trans k2 b3
    have O3 := Lib.hid hown3
    clear c0 c1 c2 c3 c4 c5 c6 c7 c8 hown3 b3 k2 O2
    obtain ⟨c0, c1, c2, c3, c4, c5, c6, c7, c8⟩ := bx9 (B0.out.kept k3)
    go_wp2_with fail
    refine (S2.out _ _ k3.size O3.out).mono ?_
    rintro e w4 ⟨v4, rfl, hown4, b4⟩
    have k4 : Keep X w4 := Below.trans k3 b4
    clear c0 c1 c2 c3 c4 c5 c6 c7 c8 b4 k3 O3
    obtain ⟨c0, c1, c2, c3, c4, c5, c6, c7, c8⟩ := bx9 (B0.out.kept k4)
    obtain ⟨A4, cc4, rfl⟩ := own_slice hown4
    have hs4 := k4.size
    go_wp2_with (at_builtin; refine append_new rfl _ _ 36 rfl X.heap.size 5 (.int .u8 0) 1 1 Try.underlying36 Twin.info_uint8 rfl (by decide) _ _ _ rfl hown4 hs4 6 _ rfl rfl (by intro u hu; simp at hu; rcases hu with rfl | rfl | rfl | rfl | rfl | rfl <;> rfl) (by unfold maxLen; omega) (by omega) ?_)
    intro v5 w5 hown5 b5
    have k5 : Keep X w5 := Below.trans k4 b5
    clear c0 c1 c2 c3 c4 c5 c6 c7 c8 b5 hown4 k4 hs4
    have O5 := Lib.hid hown5
    clear hown5
    obtain ⟨c0, c1, c2, c3, c4, c5, c6, c7, c8⟩ := bx9 (B0.out.kept k5)
    go_wp2_with fail
    refine (S3.out _).mono ?_
    rintro e w6 ⟨rfl, b6⟩
    have h6 : w6.ownsRow X.heap.size 5 1 v5 18 ((s12 ++ md).map bv) := by
      rw [List.map_append, HM.out]
      simpa using own_keep O5.out b6
    have hcv := own_string (P := Try.prog) Try.underlying36 Try.underlying5 h6 9 Try.underlying9
    have k6 : Keep X w6 := Keep.trans k5 b6
    have t1 := T1.out
    clear c0 c1 c2 c3 c4 c5 c6 c7 c8 O5 h6 k5 b6
    go_wp2
    go_ret2
    exact ⟨by rw [HE2.out, List.append_assoc]; rfl, k0.trans k6⟩
end Go.Proofs.Ytmnmlhbmhfhgaaa.Audit
