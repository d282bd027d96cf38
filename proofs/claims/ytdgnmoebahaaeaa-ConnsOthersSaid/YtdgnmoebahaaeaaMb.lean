/- The developers' frames: each function answers what the plain words of MbA say. Conditions: lengths at most a million. -/
import Derived.Test.YtdgnmoebahaaeaaMbR
import Derived.Test.YtdgnmoebahaaeaaTw
namespace Go.Proofs.Ytdgnmoebahaaeaa.Mbap
set_option linter.unusedVariables false
open Go.ChangeShapes Go.WideShapes Go.ChangeAt Go.RowKit
open Ref8 (ret_bool ret_ii ret_sb BoxedF BoxedF.new BoxedF.kept conv_one)



set_option maxHeartbeats 1000000 in
theorem need_any (s : ByteArray) (w : World) (hs : s.size ≤ maxLen) :
    Calls Try.prog 26 #[.string s] w fun e w' => e = .returned (.tuple #[.int .i64 (Mb.need s), .int .i64 (Mb.needErr s)]) ∧ Keep w w' := by
  by_cases h6 : s.size < 6
  · obtain ⟨e1, e2⟩ := Mb.need_short s h6
    rw [e1, e2]
    have d : decide ((s.size : Int) < 6) = true := by simp; omega
    clear e1 e2
    go_enter Try.func26, Try.ntmps26
    go_wp2
    go_ret2
    exact ⟨rfl, Keep.refl _⟩
  · have d : decide ((s.size : Int) < 6) = false := by simp; omega
    have g : ∀ i : Int, 0 ≤ i → i ≤ 4 → Tw.get s i = Tw.num s i := fun i h0 h4 => by
      rw [Tw.get, show Tw.getOk s i = true by simp [Tw.getOk]; omega]; rfl
    have HN := Lib.hid (show Mb.need s = (if Mb.bad s then 0 else 6 + Tw.num s 4) ∧ Mb.needErr s = (if Mb.bad s then 5 else 0) by
      unfold Mb.need Mb.needErr
      rw [if_neg h6, if_neg h6]; exact ⟨rfl, rfl⟩)
    obtain ⟨n2, hn2⟩ : ∃ n, n = Tw.num s 2 := ⟨_, rfl⟩
    obtain ⟨n4, hn4⟩ : ∃ n, n = Tw.num s 4 := ⟨_, rfl⟩
    have HB := Lib.hid (show Mb.bad s = (!(n2 == 0) || decide (n4 < 2) || decide (254 < n4)) by rw [hn2, hn4]; rfl)
    have H4 := Lib.hid hn4
    have E2 := Lib.hid (show Tw.get s 2 = n2 by rw [hn2]; exact g 2 (by omega) (by omega))
    have E4 := Lib.hid (show Tw.get s 4 = n4 by rw [hn4]; exact g 4 (by omega) (by omega))
    have hr4 := Tw.num_range s 4
    rw [← hn4] at hr4
    obtain ⟨r1, r2⟩ := hr4
    clear g hn2 hn4
    go_enter Try.func26, Try.ntmps26
    go_wp2_with fail
    refine (Twin.get_any s 2 _ hs).mono ?_
    rintro e w1 ⟨rfl, h1⟩
    rw [E2.out]
    go_wp2_with fail
    refine (Twin.get_any s 4 _ hs).mono ?_
    rintro e w2 ⟨rfl, h2⟩
    rw [E4.out]
    have k := h1.keep.trans h2.keep
    go_wp2
    all_goals (
      go_ret2
      refine ⟨ret_ii ?_ ?_, k⟩
      · rw [HN.out.1, HB.out, ← H4.out]; first | (simp_all; done) | (simp_all; omega)
      · rw [HN.out.2, HB.out]; first | (simp_all; done) | (simp_all; omega))

set_option maxHeartbeats 2000000 in
theorem get_any (s : ByteArray) (w : World) (hs : s.size ≤ maxLen) :
    Calls Try.prog 28 #[.string s] w (Ref8.RetFrame (Mb.get s) (.int .i64 (Mb.getErr s)) w) := by
  obtain ⟨n, hn⟩ : ∃ n, n = Mb.need s := ⟨_, rfl⟩
  obtain ⟨er, her⟩ : ∃ n, n = Mb.needErr s := ⟨_, rfl⟩
  have hw0 := Ref8.needs s
  rw [← hn, ← her] at hw0
  have hn0 : 0 ≤ n := by
    rw [hn]
    by_cases h : s.size < 6
    · rw [(Mb.need_short s h).1]; omega
    · rcases Mb.need_range s (by omega) with h | h <;> omega
  have HN := Lib.hid hn
  have HE := Lib.hid her
  clear hn her
  have bad : Mb.whole s = false → Calls Try.prog 28 #[.string s] w (Ref8.RetFrame Mb.zero (.int .i64 5) w) := fun hno => by
    rw [hno] at hw0
    have hcase : (er != 0) = true ∨ ((er != 0) = false ∧ (n == 0) = true) ∨ ((er != 0) = false ∧ (n == 0) = false ∧ (n != (s.size : Int)) = true) := by
      cases h1 : (er == 0)
      · left; simp [bne, h1]
      · cases h2 : (n == 0)
        · right; right
          refine ⟨by simp [bne, h1], rfl, ?_⟩
          rw [h1, h2] at hw0
          simp only [Bool.not_false, Bool.and_true, Bool.true_and] at hw0
          rw [bne, ← hw0]; rfl
        · right; left; exact ⟨by simp [bne, h1], rfl⟩
    clear hw0 hno
    rcases hcase with d1 | ⟨d1, d2⟩ | ⟨d1, d2, d3⟩ <;> (
      go_enter Try.func28, Try.ntmps28
      go_wp2_with fail
      refine (need_any s _ hs).mono ?_
      rintro e V ⟨rfl, hb⟩
      rw [← HN.out, ← HE.out]
      have hz : w.heap.size < V.heap.size := by have := hb.size; simp at this; omega
      have c0 : V.cell? ⟨w.heap.size, 0, none⟩ = some (.int .i64 0) := (Below.cell hb (by simp)).trans (by go_simp)
      have c1 : V.cell? ⟨w.heap.size, 1, none⟩ = some (.int .i64 0) := (Below.cell hb (by simp)).trans (by go_simp)
      have c2 : V.cell? ⟨w.heap.size, 2, none⟩ = some (.string ⟨#[]⟩) := (Below.cell hb (by simp)).trans (by go_simp)
      have f0 : ∀ j, V.frozen? ⟨w.heap.size, j, none⟩ = false := fun j => (Below.frozen hb (by simp)).trans (by go_simp)
      have hbW : Keep w V := ((Keep.refl w).alloc _).trans hb
      clear hb
      go_wp2
      (try simp only [Exit.inBlock, Exit.then])
      refine bodyPost_ret (v := .tuple #[.agg #[.int .i64 0, .int .i64 0, .string ⟨#[]⟩], .int .i64 5]) ?_ rfl ⟨rfl, ?_⟩
      · rw [results_cell_tmp rfl]
        go_simp
      · clear c0 c1 c2 f0
        exact ((hbW.setCell (Nat.le_refl _) _).setCell (Nat.le_refl _) _).setCell (Nat.le_refl _) _)
  cases hw : Mb.whole s
  · have e1 : Mb.get s = Mb.zero := by rw [Mb.get, hw]; rfl
    have e2 : Mb.getErr s = 5 := by rw [Mb.getErr, hw]; rfl
    rw [e1, e2]
    exact bad hw
  · clear bad
    have e1 : Mb.get s = ⟨Tw.num s 0, byteAt s 6, Ak.sub s 7⟩ := by rw [Mb.get, hw]; rfl
    have e2 : Mb.getErr s = 0 := by rw [Mb.getErr, hw]; rfl
    obtain ⟨h6, hbad, hsz⟩ := (Mb.whole_iff s).1 hw
    have h4 := ((Mb.bad_false s).1 hbad).2.1
    rw [e1, e2]
    rw [hw] at hw0
    have d1 : (er != 0) = false := by
      cases h : (er == 0)
      · rw [h] at hw0; simp at hw0
      · simp [bne, h]
    have d2 : (n == 0) = false := by
      cases h : (n == 0)
      · rfl
      · rw [h] at hw0; simp at hw0
    have d3 : (n != (s.size : Int)) = false := by
      cases h : (n == (s.size : Int))
      · rw [h] at hw0; simp at hw0
      · simp [bne, h]
    have h8 : 8 ≤ s.size := by omega
    have HG := Lib.hid (show Tw.get s 0 = Tw.num s 0 by rw [Tw.get, show Tw.getOk s 0 = true by simp [Tw.getOk]; omega]; rfl)
    have hx := idx (P := Try.prog) (k := .i64) s 6 Try.underlying9 (by omega) (by omega)
    have hr := byteAt_range s 6
    have h10 : IntKind.i64.wrap (byteAt s 6) = byteAt s 6 := by rw [IntKind.wrap_i64]; omega
    have hsl : ∀ W : World, (Instr.slice 9 (.string s) (some (.int .i64 7)) none none).run Try.prog W = .ok (.string (Ak.sub s 7)) W := fun W => by
      rw [← Ak.extract_end]
      have u := Try.underlying9
      have h2 : (7 : Int) ≤ (s.size : Int) := by omega
      go_simp
    clear hw0 hw e1 e2 hbad hsz h4
    go_enter Try.func28, Try.ntmps28
    go_wp2_with fail
    refine (need_any s _ hs).mono ?_
    rintro e V ⟨rfl, hb⟩
    rw [← HN.out, ← HE.out]
    have hz : w.heap.size < V.heap.size := by have := hb.size; simp at this; omega
    have c0 : V.cell? ⟨w.heap.size, 0, none⟩ = some (.int .i64 0) := (Below.cell hb (by simp)).trans (by go_simp)
    have c1 : V.cell? ⟨w.heap.size, 1, none⟩ = some (.int .i64 0) := (Below.cell hb (by simp)).trans (by go_simp)
    have c2 : V.cell? ⟨w.heap.size, 2, none⟩ = some (.string ⟨#[]⟩) := (Below.cell hb (by simp)).trans (by go_simp)
    have f0 : ∀ j, V.frozen? ⟨w.heap.size, j, none⟩ = false := fun j => (Below.frozen hb (by simp)).trans (by go_simp)
    have hbW : Keep w V := ((Keep.refl w).alloc _).trans hb
    clear hb
    have HC := Lib.hid (show ∀ U, Keep V U → (U.cell? ⟨w.heap.size, 0, none⟩ = some (.int .i64 0) ∧ U.cell? ⟨w.heap.size, 1, none⟩ = some (.int .i64 0) ∧ U.cell? ⟨w.heap.size, 2, none⟩ = some (.string ⟨#[]⟩)) ∧ ∀ j, U.frozen? ⟨w.heap.size, j, none⟩ = false from fun U h =>
      ⟨⟨(Below.cell h hz).trans c0, (Below.cell h hz).trans c1, (Below.cell h hz).trans c2⟩, fun j => (Below.frozen h hz).trans (f0 j)⟩)
    clear c0 c1 c2 f0
    go_wp2_with fail
    refine (Twin.get_any s 0 _ hs).mono ?_
    rintro e U ⟨rfl, hq⟩
    rw [HG.out]
    have hU : Keep V U := hq.keep
    clear hq
    obtain ⟨⟨c0, c1, c2⟩, f0⟩ := HC.out _ hU
    go_wp2
    go_region
    all_goals (
      go_wp2
      (try simp only [Exit.inBlock, Exit.then])
      refine bodyPost_ret (v := .tuple #[.agg #[.int .i64 (Tw.num s 0), .int .i64 (byteAt s 6), .string (Ak.sub s 7)], .int .i64 0]) ?_ rfl ⟨rfl, ?_⟩
      · rw [results_cell_tmp rfl]
        go_simp
      · clear c0 c1 c2 f0
        (first | refine Ref8.keepd' ?_ | skip)
        show Below w.heap.size w _
        repeat' (first | exact hbW.trans hU | exact Ref8.keepd' (hbW.trans hU) | with_reducible refine Below.setCell ?_ ?_ _ | exact Nat.le_refl _))
end Go.Proofs.Ytdgnmoebahaaeaa.Mbap
