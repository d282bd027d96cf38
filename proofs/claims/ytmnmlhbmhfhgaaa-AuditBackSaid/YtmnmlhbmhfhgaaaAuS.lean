/- Layer 23's reference: Put. Conditions: texts of Go's sizes. -/
import Derived.Test.YtmnmlhbmhfhgaaaAuR
import Derived.Test.YtmnmlhbmhfhgaaaRel
import Derived.Great.BuildSlice
namespace Go.Proofs.Ytmnmlhbmhfhgaaa.Ref23
set_option linter.unusedVariables false
set_option linter.unusedSimpArgs false
set_option maxRecDepth 100000
open Go.ChangeShapes Go.WideShapes Go.ChangeAt Go.RowKit
open Au
theorem info_byte : (Try.prog.info? 5).map (fun i => (i.zero, i.size, i.bytes)) = some (some (.int .u8 0), 1, 1) := by kernel_rfl
/-- The six bytes in the middle. -/
def mid (r : RecP) : List UInt8 := [one r.kd, one r.cn, one r.un, one r.fn, one r.vd, one r.rl]
def putD : List Tmp := [32]
def putR (r : RecP) (t : Tmp) (v : Value) (w : World) : Prop := ∃ g, v = .slice (some ⟨g, 0, none⟩) 6 6 ∧ g < w.heap.size ∧ ∀ j, j < 6 → w.cell? ⟨g, j, none⟩ = some (.int .u8 (((mid r).getD j 0).toNat : Int))
set_option maxHeartbeats 4000000 in
theorem put_any (r : RecP) (w : World) :
    Calls Try.prog 7 #[aggR r] w fun e w' => e = .returned (.tuple #[.string (st (put r)), .bool (right r)]) ∧ Keep w w' := by
  obtain ⟨X, hX⟩ : ∃ X, X = w.alloc (.cells #[.int .i64 r.sq, .int .i64 r.tk, .int .i64 r.kd, .int .i64 r.cn, .int .i64 r.un, .int .i64 r.fn, .int .i64 r.vd, .int .i64 r.rl, .int .i64 r.id] 23) := ⟨_, rfl⟩
  have k0 : Keep w X := by rw [hX]; exact (Keep.refl w).alloc _
  have B0 : Hid (Bx X w.heap.size (encR r)) := Lib.hid (by rw [hX]; exact Bx.newq rfl)
  have HX := Lib.hid hX
  have HR := Lib.hid (right_any r X)
  obtain ⟨rb, hrb⟩ : ∃ b, b = right r := ⟨_, rfl⟩
  rw [← hrb] at HR ⊢
  have HRB := Lib.hid hrb
  obtain ⟨c0, c1, c2, c3, c4, c5, c6, c7, c8⟩ := bx9 B0.out
  clear hX hrb
  cases rb
  · have HE := Lib.hid (show put r = [] by unfold put; rw [← HRB.out]; rfl)
    go_enter Try.func7, Try.ntmps7
    go_wp2_with fail
    rw [← HX.out]
    go_wp2_with fail
    refine HR.out.mono ?_
    rintro e w1 ⟨rfl, k1⟩
    go_wp2
    go_ret2
    exact ⟨by rw [HE.out]; rfl, k0.trans k1⟩
  · have hr := HRB.out.symm
    obtain ⟨iB, hiB, hzB, hyB, _⟩ := info_parts info_byte
    obtain ⟨⟨a1, a2⟩, ⟨d1, d2⟩, ⟨g1, g2⟩, ⟨h1, h2⟩, ⟨i1, i2⟩, ⟨j1, j2⟩, ⟨l1, l2⟩, ⟨m1, m2⟩, ⟨n1, n2⟩⟩ := (right_iff r).1 hr
    have HE := Lib.hid (show put r = six r.sq ++ six r.tk ++ mid r ++ Tw.two r.id by rw [put_right hr]; unfold Au.bytes mid; simp only [List.append_assoc])
    have S1 := Lib.hid fun W => six_any r.sq W a1 a2
    have S2 := Lib.hid fun W => six_any r.tk W d1 d2
    have S3 := Lib.hid fun W => Ref1.of_any r.id W
    rw [show Tw.put [r.id] = Tw.two r.id by unfold Tw.put; rw [if_pos (by simp [Tw.allIn, Tw.inR, n1, n2])]; simp [Tw.bytes]] at S3
    have m3 : (mid r).length = 6 := rfl
    have hmid : ∀ z : Int, -1 ≤ z → z ≤ 255 → (((one z).toNat : Nat) : Int) = z % 256 := fun z _ _ => by
      unfold one
      rw [ofNat_val _ (by omega) (by omega)]
    have q0 := hmid r.kd (by omega) (by omega)
    have q1 := hmid r.cn (by omega) (by omega)
    have q2 := hmid r.un (by omega) (by omega)
    have q3 := hmid r.fn (by omega) (by omega)
    have q4 := hmid r.vd (by omega) (by omega)
    have q5 := hmid r.rl (by omega) (by omega)
    obtain ⟨s1, hs1⟩ : ∃ s, s = six r.sq := ⟨_, rfl⟩
    obtain ⟨s2, hs2⟩ : ∃ s, s = six r.tk := ⟨_, rfl⟩
    obtain ⟨s3, hs3⟩ : ∃ s, s = Tw.two r.id := ⟨_, rfl⟩
    have e1 : s1.length = 6 := by rw [hs1]; rfl
    have e2 : s2.length = 6 := by rw [hs2]; rfl
    have e3 : s3.length = 2 := by rw [hs3]; rfl
    rw [← hs1] at S1 HE
    rw [← hs2] at S2 HE
    rw [← hs3] at S3 HE
    obtain ⟨s12, hs12⟩ : ∃ s, s = s1 ++ s2 := ⟨_, rfl⟩
    obtain ⟨s4, hs4⟩ : ∃ s, s = s12 ++ mid r := ⟨_, rfl⟩
    obtain ⟨s5, hs5⟩ : ∃ s, s = s4 ++ s3 := ⟨_, rfl⟩
    have t1 := add_st (P := Try.prog) s1 s2 (by omega)
    rw [← hs12] at t1
    have t2 := add_st (P := Try.prog) s12 (mid r) (by rw [hs12, List.length_append]; omega)
    rw [← hs4] at t2
    have t3 := add_st (P := Try.prog) s4 s3 (by rw [hs4, hs12, List.length_append, List.length_append]; omega)
    rw [← hs5] at t3
    have HE2 := Lib.hid (show put r = s5 by rw [hs5, hs4, hs12, HE.out])
    have T1 := Lib.hid t1
    have T2 := Lib.hid t2
    have T3 := Lib.hid t3
    have HQ := Lib.hid (And.intro q0 (And.intro q1 (And.intro q2 (And.intro q3 (And.intro q4 q5)))))
    have S3' := Lib.hid fun W => (S3.out W).mono fun e w' h => And.intro h.1 (show Keep W w' from h.2)
    clear hs1 hs2 hs3 hs12 hs4 hs5 e1 e2 e3 q0 q1 q2 q3 q4 q5 hmid m3 t1 t2 t3 a1 a2 d1 d2 g1 g2 h1 h2 i1 i2 j1 j2 l1 l2 m1 m2 n1 n2 hr
    go_enter Try.func7, Try.ntmps7
    go_wp2_with fail
    rw [← HX.out]
    go_wp2_with fail
    refine HR.out.mono ?_
    rintro e w1 ⟨rfl, k1⟩
    clear c0 c1 c2 c3 c4 c5 c6 c7 c8
    have HB := Lib.hid (B0.out.kept k1)
    go_wp2_with fail
    refine Rel.wp_region_rel putD (putR r) (by kernel_rfl) (by kernel_rfl) (fun t _ v W W' hk ⟨g, e, hg, hc⟩ => ⟨g, e, Nat.lt_of_lt_of_le hg hk.size, fun j hj => (Below.cell hk hg).trans (hc j hj)⟩) ?_
    refine Rel.rel_take' 25 (by kernel_rfl) ?_
    apply Exists.intro
    refine ⟨fun F hF hne => ?_, ?_⟩
    · simp only [List.take_succ_cons, List.take_zero]
      have x := fun q : Rel.KeptIn w1 F => bx9 (HB.out.kept q.h)
      have x0 := fun q => (x q).1
      have x1 := fun q => (x q).2.1
      have x2 := fun q => (x q).2.2.1
      have x3 := fun q => (x q).2.2.2.1
      have x4 := fun q => (x q).2.2.2.2.1
      have x5 := fun q => (x q).2.2.2.2.2.1
      have x6 := fun q => (x q).2.2.2.2.2.2.1
      have x7 := fun q => (x q).2.2.2.2.2.2.2.1
      have x8 := fun q => (x q).2.2.2.2.2.2.2.2
      have y1 := fun q : Rel.KeptIn w1 F => S1.out q.w
      have y2 := fun q : Rel.KeptIn w1 F => S2.out q.w
      have t1 := T1.out
      clear x
      repeat (go_big_quiet_step (first | with_reducible exact Rel.KeptIn.of hF (y1 _) | with_reducible exact Rel.KeptIn.of hF (y2 _)))
      refine Go.wpQuiet_nil ?_
      rfl
    simp only [List.drop_succ_cons, List.drop_zero]
    refine Rel.rel_opR 32 [] rfl (by kernel_rfl) ?_ ?_
    · intro V W hk _
      refine ⟨.slice (some ⟨W.heap.size, 0, none⟩) 6 6, W.alloc (.cells #[.int .u8 (r.kd % 256), .int .u8 (r.cn % 256), .int .u8 (r.un % 256), .int .u8 (r.fn % 256), .int .u8 (r.vd % 256), .int .u8 (r.rl % 256)] 5), ?_, ?_, ?_⟩
      · simp only [execOp, Rel.pickV, Sem.run_bind]
        rw [run_buildSlice W 36 5 6 _ #[.int .u8 (r.kd % 256), .int .u8 (r.cn % 256), .int .u8 (r.un % 256), .int .u8 (r.fn % 256), .int .u8 (r.vd % 256), .int .u8 (r.rl % 256)] iB (.int .u8 0) Try.underlying36 hiB hzB (by rw [hyB]; decide) (by rw [hyB]; decide) (by rw [hyB]; simp only [List.map_toArray, List.map_cons, List.map_nil]; exact Great.fill_flat [.int .u8 (r.kd % 256), .int .u8 (r.cn % 256), .int .u8 (r.un % 256), .int .u8 (r.fn % 256), .int .u8 (r.vd % 256), .int .u8 (r.rl % 256)] _ (by simp [Value.cells]) (by simp))]
        rfl
      · exact (Keep.refl W).alloc _
      · refine ⟨W.heap.size, rfl, by simp, fun j hj => ?_⟩
        rw [World.cell?_alloc_at (hn := rfl)]
        obtain ⟨q0, q1, q2, q3, q4, q5⟩ := HQ.out
        match j, hj with
        | 0, _ => show _ = some (Value.int .u8 ((one r.kd).toNat : Int)); rw [q0]; rfl
        | 1, _ => show _ = some (Value.int .u8 ((one r.cn).toNat : Int)); rw [q1]; rfl
        | 2, _ => show _ = some (Value.int .u8 ((one r.un).toNat : Int)); rw [q2]; rfl
        | 3, _ => show _ = some (Value.int .u8 ((one r.fn).toNat : Int)); rw [q3]; rfl
        | 4, _ => show _ = some (Value.int .u8 ((one r.vd).toNat : Int)); rw [q4]; rfl
        | 5, _ => show _ = some (Value.int .u8 ((one r.rl).toNat : Int)); rw [q5]; rfl
    simp only [Act.put, List.setIfInBounds_toArray, List.set_cons_zero, List.set_cons_succ]
    refine Rel.rel_opq (.string (st (mid r))) 33 [32] rfl (by kernel_rfl) ?_ ?_
    · intro V W hk hV
      obtain ⟨g, e, hg, hc⟩ := hV 32 (by simp)
      have h := run_convert_bytes_arg (P := Try.prog) W 36 5 Try.underlying36 Try.underlying5 g 0 6 6 ((mid r).map fun b => (b.toNat : Int)) rfl (fun i hi => by
        rw [Nat.zero_add, hc i hi]
        match i, hi with
        | 0, _ => rfl
        | 1, _ => rfl
        | 2, _ => rfl
        | 3, _ => rfl
        | 4, _ => rfl
        | 5, _ => rfl) 9 Try.underlying9
      have h2 : strOfNums ((mid r).map fun b => (b.toNat : Int)) = st (mid r) := by
        simp only [strOfNums, st, List.map_map]
        congr 2
        exact List.map_id'' (fun b => by simp) (mid r)
      rw [h2] at h
      simp only [execOp, Rel.pickV, Sem.run_bind]
      rw [if_pos (show putD.contains 32 = true from rfl), e, h]
      rfl
    simp only [Act.put, List.setIfInBounds_toArray, List.set_cons_zero, List.set_cons_succ]
    refine Rel.rel_take' 7 (by kernel_rfl) ?_
    apply Exists.intro
    refine ⟨fun F hF hne => ?_, ?_⟩
    · simp only [List.take_succ_cons, List.take_zero]
      have x8 := fun q : Rel.KeptIn w1 F => (bx9 (HB.out.kept q.h)).2.2.2.2.2.2.2.2
      have y3 := fun q : Rel.KeptIn w1 F => S3'.out q.w
      have t2 := T2.out
      have t3 := T3.out
      repeat (go_big_quiet_step (first | with_reducible exact Rel.KeptIn.of hF (y3 _)))
      refine Go.wpQuiet_nil ?_
      rfl
    simp only [List.drop_succ_cons, List.drop_zero]
    refine Rel.rel_nil fun V w2 k2 _ => ?_
    dsimp only [putD, Rel.fill, List.foldl_cons, List.foldl_nil]
    go_wp2
    go_ret2
    exact ⟨by rw [HE2.out]; rfl, (k0.trans k1).trans k2⟩
end Go.Proofs.Ytmnmlhbmhfhgaaa.Ref23
