/- Layer 14's law FactsSpans. Conditions: none beyond the law's own. -/
import Derived.Test.YtfbckijagjidkaaFaL
import Derived.Test.YtfbckijagjidkaaAskG
namespace Go.Proofs.Ytfbckijagjidkaa.Facts
set_option linter.unusedVariables false
set_option linter.unusedSimpArgs false
open Go.ChangeShapes Go.WideShapes Go.ChangeAt Go.RowKit
open Fa
theorem wf_u16 {z : Int} (h : (Lit.int .u16 z).wf = true) : 0 ≤ z ∧ z ≤ 65535 := by
  simp [Lit.wf] at h
  have e1 : IntKind.u16.min = 0 := rfl
  have e2 : IntKind.u16.max = 65535 := rfl
  omega
theorem spans_len {a : AskP} (h : Ak.right a = true) (c u : Int) : 1 ≤ (of c u a).sp.length ∧ (of c u a).sp.length ≤ 2 := by
  unfold Ak.right Ak.formed Ak.part Ak.inTo Ak.known Ak.reads Ak.wmax at h
  simp only [Bool.and_eq_true, decide_eq_true_eq, Bool.not_eq_true', Bool.and_eq_false_iff, Bool.or_eq_true, beq_iff_eq, decide_eq_false_iff_not, beq_eq_false_iff_ne] at h
  have hsome : 0 < a.ct ∨ 0 < a.mn := by
    obtain ⟨⟨⟨⟨⟨hk, hr⟩, hw⟩, _⟩, _⟩, _⟩ := h
    repeat' (split at hr)
    all_goals (repeat' (split at hw))
    all_goals omega
  unfold of reads writes
  by_cases h1 : 0 < a.ct <;> by_cases h2 : 0 < a.mn <;> simp [h1, h2]
  omega
theorem spans_has {a : AskP} (h : Ak.right a = true) (c u k : Int) : Sp.has (of c u a).sp k = ((decide (a.rd ≤ k) && decide (k < a.rd + a.ct)) || (decide (a.wr ≤ k) && decide (k < a.wr + a.mn))) := by
  unfold Ak.right Ak.formed Ak.part Ak.inTo at h
  simp only [Bool.and_eq_true, decide_eq_true_eq] at h
  unfold of reads writes Sp.has
  rw [Bool.eq_iff_iff]
  by_cases h1 : 0 < a.ct <;> by_cases h2 : 0 < a.mn <;> simp [h1, h2, Sp.inR] <;> omega
set_option maxHeartbeats 8000000 in
theorem spans_law (fc rd ct wr mn : Int) (A : Option Addr) (n cc : Nat) (zs : List Int) (m : Int) (w : World) (hn : n ≤ maxLen) (hA : Ints .i64 w w.heap.size A n zs) (hm : 0 ≤ m ∧ m ≤ 65535) :
    Calls Try.prog 4 #[.agg #[.int .i64 fc, .int .i64 rd, .int .i64 ct, .int .i64 wr, .int .i64 mn, .slice A n cc], .int .u16 m] w fun e w' => e = .returned (.bool true) ∧ Keep w w' := by
  obtain ⟨m1, m2⟩ := hm
  have hl : zs.length = n := hA.1
  have CW := Lib.hid (fun W => awake_any W)
  have kb := (Keep.refl w).alloc (.cells #[.int .i64 fc, .int .i64 rd, .int .i64 ct, .int .i64 wr, .int .i64 mn, .slice A n cc] 25)
  by_cases h3 : 3000 < n
  · have d : decide ((n : Int) > 3000) = true := by simp; omega
    clear hA hl
    go_enter Try.func4, Try.ntmps4
    go_wp2_with fail
    refine (CW.out _).mono ?_
    rintro e w1 ⟨rfl, k1⟩
    go_wp2
    go_ret
    exact ⟨rfl, kb.trans k1⟩
  have d : decide ((n : Int) > 3000) = false := by simp; omega
  have hn3 : n ≤ 3000 := by omega
  subst hl
  obtain ⟨a, ha⟩ : ∃ a : AskP, a = ⟨fc, rd, ct, wr, mn, zs⟩ := ⟨_, rfl⟩
  have CR := Ref6.right_any A zs.length cc a _ (by omega) (by rw [ha]; exact hA.kept kb)
  cases hr : Ak.right a
  · rw [hr, ha] at CR
    replace CR := Lib.hid CR
    clear hA ha hr
    go_enter Try.func4, Try.ntmps4
    go_wp2_with fail
    refine CR.out.mono ?_
    rintro e w1 ⟨rfl, k1⟩
    go_wp2_with fail
    refine (CW.out _).mono ?_
    rintro e w2 ⟨rfl, k2⟩
    go_wp2
    go_ret
    exact ⟨rfl, (kb.trans k1).trans k2⟩
  · rw [hr] at CR
    have HS := spans_has hr 0 0 m
    have HL := Lib.hid (spans_len hr 0 0)
    have hfit := right_fit hr
    have CO : ∀ (W : World), Keep w W → Calls Try.prog 11 #[.int .i64 0, .int .i64 0, .agg #[.int .i64 fc, .int .i64 rd, .int .i64 ct, .int .i64 wr, .int .i64 mn, .slice A zs.length cc]] W
        (fun e w' => ∃ SA VA RA c1 c2 c3 nv nr, e = .returned (.agg #[.int .i64 0, .int .i64 0, .int .i64 fc, .slice SA (of 0 0 a).sp.length c1, .slice VA nv c2, .slice RA nr c3]) ∧ Row encP 2 w' w'.heap.size SA (of 0 0 a).sp.length (of 0 0 a).sp ∧ Keep W w') := fun W hW => by
      have h := of_any 0 0 a A cc W (by rw [ha]; exact Nat.le_trans hn3 (by omega)) hfit (right_nonneg hr).1 (right_nonneg hr).2 (by rw [ha]; exact hA.kept hW)
      rw [ha] at h ⊢
      refine h.mono ?_
      rintro e w1 ⟨SA, VA, RA, c1, c2, c3, rfl, ⟨hS, _, _⟩, k1⟩
      exact ⟨SA, VA, RA, c1, c2, c3, _, _, rfl, hS, k1⟩
    replace CO := Lib.hid CO
    have hfit2 := hfit
    unfold Fit at hfit2
    rw [ha] at hfit2 CR
    simp only at hfit2
    obtain ⟨b1, b2, b3, b4, b5, b6⟩ := hfit2
    have hpos : 0 ≤ ct ∧ 0 ≤ mn := by
      have := hr
      rw [ha] at this
      unfold Ak.right Ak.formed Ak.part Ak.inTo at this
      simp only [Bool.and_eq_true, decide_eq_true_eq] at this
      omega
    have s1 : IntKind.i64.wrap (rd + ct) = rd + ct := by rw [IntKind.wrap_i64]; omega
    have s2 : IntKind.i64.wrap (wr + mn) = wr + mn := by rw [IntKind.wrap_i64]; omega
    have s3 : IntKind.i64.wrap m = m := by rw [IntKind.wrap_i64]; omega
    replace CR := Lib.hid CR
    have HA := Lib.hid ha
    obtain ⟨sp, hsp⟩ : ∃ sp, sp = (of 0 0 a).sp := ⟨_, rfl⟩
    rw [← hsp] at HS HL CO
    rw [ha] at HS
    replace HS := Lib.hid HS
    have HSP := Lib.hid hsp
    clear hA hr hfit ha hsp b1 b2 b3 b4 b5 b6 hpos
    go_enter Try.func4, Try.ntmps4
    go_wp2_with fail
    refine CR.out.mono ?_
    rintro e w1 ⟨rfl, k1⟩
    have A5 : Six w1 w.heap.size (.int .i64 fc) (.int .i64 rd) (.int .i64 ct) (.int .i64 wr) (.int .i64 mn) (.slice A zs.length cc) := by
      have h : Six (w.alloc (.cells #[.int .i64 fc, .int .i64 rd, .int .i64 ct, .int .i64 wr, .int .i64 mn, .slice A zs.length cc] 25)) w.heap.size (.int .i64 fc) (.int .i64 rd) (.int .i64 ct) (.int .i64 wr) (.int .i64 mn) (.slice A zs.length cc) := by
        refine ⟨?_, ?_, ?_, ?_, ?_, ?_⟩ <;> go_simp
      exact h.below k1 (by simp)
    have hs1 : w.heap.size < w1.heap.size := Nat.lt_of_lt_of_le (by simp) k1.size
    replace k1 := kb.trans k1
    have HA5 := Lib.hid A5
    have HS1 := Lib.hid hs1
    obtain ⟨x0, x1, x2, x3, x4, x5⟩ := A5
    clear hs1
    go_wp2_with fail
    refine (CO.out _ k1).mono ?_
    rintro e w2 ⟨SA, VA, RA, c1, c2, c3, nv, nr, rfl, hR, k2⟩
    have B5 := HA5.out.below k2 HS1.out
    have hs2 : w.heap.size < w2.heap.size := Nat.lt_of_lt_of_le HS1.out k2.size
    replace k1 := k1.trans k2
    clear x0 x1 x2 x3 x4 x5 k2
    obtain ⟨Y, hY⟩ : ∃ Y, Y = w2.alloc (.cells #[.int .i64 0, .int .i64 0, .int .i64 fc, .slice SA sp.length c1, .slice VA nv c2, .slice RA nr c3] 36) := ⟨_, rfl⟩
    have hkY : Keep w2 Y := by rw [hY]; exact (Keep.refl w2).alloc _
    have C5 := B5.below hkY hs2
    have Y6 : Six Y w2.heap.size (.int .i64 0) (.int .i64 0) (.int .i64 fc) (.slice SA sp.length c1) (.slice VA nv c2) (.slice RA nr c3) := by
      rw [hY]
      refine ⟨?_, ?_, ?_, ?_, ?_, ?_⟩ <;> go_simp
    have HYS := Lib.hid (show w2.heap.size < Y.heap.size by rw [hY]; simp)
    have HRY := Lib.hid (hR.kept hkY)
    have HKY := Lib.hid (k1.trans hkY)
    have HY6 := Lib.hid Y6
    have HY := Lib.hid hY
    have C6 : ∀ O, Six (w2.alloc O) w.heap.size (.int .i64 fc) (.int .i64 rd) (.int .i64 ct) (.int .i64 wr) (.int .i64 mn) (.slice A zs.length cc) := fun O => B5.below ((Keep.refl w2).alloc O) hs2
    have x1 := fun O => (C6 O).2.1
    have x2 := fun O => (C6 O).2.2.1
    have x3 := fun O => (C6 O).2.2.2.1
    have x4 := fun O => (C6 O).2.2.2.2.1
    clear hY C5 Y6 hR hkY hs2 k1 C6 B5
    have hcs : ∀ W, Keep Y W → W.cell? ⟨w2.heap.size, 3, none⟩ = some (.slice SA sp.length c1) := fun W hW => (HY6.out.below hW HYS.out).2.2.2.1
    have CH := Lib.hid (fun (W : World) (hW : Keep Y W) => Span.ref_has_any SA sp.length c1 sp m W (by have := HL.out; omega) (HRY.out.kept hW))
    have HC := Lib.hid hcs
    clear hcs
    obtain ⟨hb, hhb⟩ : ∃ b, b = Sp.has sp m := ⟨_, rfl⟩
    rw [← hhb] at HS CH
    clear hhb
    have l1 : decide ((sp.length : Int) ≥ 1) = true := by have := HL.out; simp; omega
    have l2 : decide ((sp.length : Int) ≤ 2) = true := by have := HL.out; simp; omega
    have HB := HS.out
    cases e3 : decide (rd ≤ m) <;> cases e1 : decide (m < rd + ct) <;> cases e4 : decide (wr ≤ m) <;> cases e2 : decide (m < wr + mn)
    all_goals (
      rw [e3, e1, e4, e2] at HB
      simp only [Bool.true_and, Bool.false_and, Bool.and_false, Bool.and_true, Bool.false_or, Bool.or_false, Bool.or_true, Bool.true_or] at HB
      subst HB
      go_wp2_with fail
      refine (CW.out _).mono ?_
      rintro e w3 ⟨rfl, k3⟩
      rw [← HY.out] at k3
      have y3 := HC.out _ k3
      go_wp2_with fail
      refine (CH.out _ k3).mono ?_
      rintro e w4 ⟨rfl, q4⟩
      have k4 := k3.trans q4.keep
      have z3 := HC.out _ k4
      clear y3
      go_wp2
      go_ret
      exact ⟨rfl, HKY.out.trans k4⟩)
end Go.Proofs.Ytfbckijagjidkaa.Facts
