/- Layer 11's reference: digits, ranges' text, brackets. Conditions: lists at most a million. -/
import Derived.Test.YtffojilbhpefbaaTrU
import Derived.Test.YtffojilbhpefbaaGuR
namespace Go.Proofs.Ytffojilbhpefbaa.Tr
set_option linter.unusedVariables false
open Go.ChangeShapes Go.WideShapes Go.ChangeAt Go.RowKit
open Go.Proofs.Ytffojilbhpefbaa.Fp (sameB)
open Go.Proofs.Ytffojilbhpefbaa.Re (tOk tL)
theorem ret_str {a b : ByteArray} (h : a = b) : Ending.returned (.string a) = Ending.returned (.string b) := by rw [h]
theorem rng_snoc : ∀ (l : List (Int × Int)) (p : Int × Int), rng (l ++ [p]) = if l.length = 0 then range1 p else rng l ++ (44 :: range1 p)
  | [], p => rfl
  | [q], p => rfl
  | q :: q' :: l, p => by
    have ih := rng_snoc (q' :: l) p
    rw [List.cons_append] at ih
    rw [List.cons_append, List.cons_append, rng, ih, rng, if_neg (by simp), if_neg (by simp), List.append_assoc, List.cons_append]
theorem range1_len (p : Int × Int) : (range1 p).length ≤ 33 := by
  unfold range1
  have h1 := Gu.put_len p.1
  have h2 := Gu.put_len p.2
  split
  · omega
  · rw [List.length_append, List.length_cons]; omega
theorem rng_len : ∀ l : List (Int × Int), (rng l).length ≤ 34 * l.length
  | [] => Nat.le_refl _
  | [p] => by have := range1_len p; rw [rng, List.length_singleton]; omega
  | p :: q :: l => by
    have h1 := range1_len p
    have h2 := rng_len (q :: l)
    rw [rng, List.length_append, List.length_cons]
    simp only [List.length_cons] at h2 ⊢
    omega
theorem digits_any (n : Int) (w : World) : Calls Try.prog 17 #[.int .i64 n] w fun e w' => e = .returned (.string (st (Gu.put n))) ∧ Keep w w' := by
  have HC := Lib.hid (Ref2.put_any n w)
  go_enter Try.func17, Try.ntmps17
  go_wp2_with fail
  refine HC.out.mono ?_
  rintro e w1 ⟨rfl, hk⟩
  go_wp2
  go_ret
  exact ⟨rfl, hk⟩
theorem bracket_any (t : List UInt8) (m : Bool) (w : World) (ht : t.length ≤ 4000000000) : Calls Try.prog 27 #[.string (st t), .bool m] w fun e w' => e = .returned (.string (st (brack t m))) ∧ w = w' := by
  cases m
  · go_enter Try.func27, Try.ntmps27
    go_wp2
    go_ret
    exact ⟨rfl, rfl⟩
  · have a1 : ∀ W : World, (Op.stringOp .add ⟨#[40]⟩ (st t)).run Try.prog W = .ok (.string (st (40 :: t))) W := add_st [40] t (by simp; omega)
    have a2 : ∀ W : World, (Op.stringOp .add (st (40 :: t)) ⟨#[41]⟩).run Try.prog W = .ok (.string (st (40 :: t ++ [41]))) W := add_st (40 :: t) [41] (by simp; omega)
    go_enter Try.func27, Try.ntmps27
    go_wp2
    go_ret
    exact ⟨rfl, rfl⟩
set_option maxHeartbeats 2000000 in
theorem ranges_any (RA : Option Addr) (rc : Nat) (r : List (Int × Int)) (w : World) (hrl : r.length ≤ 1000000) (hR : Row encP 2 w w.heap.size RA r.length r) :
    Calls Try.prog 26 #[.slice RA r.length rc] w fun e w' => e = .returned (.string (st (rng r))) ∧ Keep w w' := by
  go_enter Try.func26, Try.ntmps26
  go_wp2
  go_loopw [3, 4] (fun sv iv wr => ∃ j : Nat, j ≤ r.length ∧ iv = .int .i64 j ∧ sv = .string (st (rng (r.take j))) ∧ Keep w wr) (fun _ iv _ => r.length - (intOf iv).toNat)
  case atStart => exact ⟨0, Nat.zero_le _, rfl, rfl, Keep.refl _⟩
  case round =>
    obtain ⟨j, hj, rfl, rfl, hk⟩ := hrel
    by_cases hlt : j < r.length
    · have hi1 : (j : Int) < r.length := by omega
      have hj0 : (0 : Int) ≤ j := by omega
      have hRw := hR.kept hk
      obtain ⟨b, off, rfl, hbb⟩ := hRw.addr (by omega)
      have hsn := rng_snoc (r.take j) (r.getD j (0, 0))
      rw [← take_snoc (0, 0) r j hlt, List.length_take, Nat.min_eq_left hj] at hsn
      have hpl := rng_len (r.take j)
      rw [List.length_take, Nat.min_eq_left hj] at hpl
      have hxl := Gu.put_len (r.getD j (0, 0)).1
      have hyl := Gu.put_len (r.getD j (0, 0)).2
      have HSN := Lib.hid hsn
      have hX6 : ∀ p : KeptOf wr, p.w.cell? ⟨b, off + j * 2, none⟩ = some (.int .i64 (r.getD j (0, 0)).1) ∧ p.w.cell? ⟨b, off + j * 2 + 1, none⟩ = some (.int .i64 (r.getD j (0, 0)).2) := fun p => ((hRw.kept p.h).pair j hlt).2
      clear hsn hRw
      generalize rng (r.take j) = p at *
      generalize r.getD j (0, 0) = x at *
      obtain ⟨lo', hi'⟩ := x
      simp only at hX6 hxl hyl
      obtain ⟨x0, x1⟩ := hX6 ⟨wr, Keep.refl _⟩
      have HXW := Lib.hid (show ∀ W, Keep wr W → W.cell? ⟨b, off + j * 2, none⟩ = some (.int .i64 lo') ∧ W.cell? ⟨b, off + j * 2 + 1, none⟩ = some (.int .i64 hi') from fun W hW => hX6 ⟨W, hW⟩)
      clear hX6
      simp only at x0 x1
      obtain ⟨dl, hdl⟩ : ∃ d, d = Gu.put lo' := ⟨_, rfl⟩
      obtain ⟨dh, hdh⟩ : ∃ d, d = Gu.put hi' := ⟨_, rfl⟩
      rw [← hdl] at hxl
      rw [← hdh] at hyl
      have CL := Lib.hid (show ∀ W, Calls Try.prog 17 #[.int .i64 lo'] W fun e w' => e = .returned (.string (st dl)) ∧ Keep W w' from fun W => by rw [hdl]; exact digits_any lo' W)
      have CH := Lib.hid (show ∀ W, Calls Try.prog 17 #[.int .i64 hi'] W fun e w' => e = .returned (.string (st dh)) ∧ Keep W w' from fun W => by rw [hdh]; exact digits_any hi' W)
      have H1 : hi' = lo' → range1 (lo', hi') = dl := fun e => by rw [range1, if_pos e, hdl]
      have H2 : hi' ≠ lo' → range1 (lo', hi') = dl ++ (45 :: dh) := fun e => by rw [range1, if_neg e, hdl, hdh]
      clear hdl hdh
      by_cases hjz : j = 0
      · have hpz : p = [] := List.eq_nil_of_length_eq_zero (by omega)
        have dj : decide (0 < j) = false := by simpa using hjz
        have dj' : decide ((0 : Int) < (j : Int)) = false := by simp; omega
        have a2 : ∀ W : World, (Op.stringOp .add (st p) (st dl)).run Try.prog W = .ok (.string (st (p ++ dl))) W := add_st p dl (by omega)
        by_cases hne : hi' = lo'
        · have dne : (hi' != lo') = false := by simpa using hne
          have HF := Lib.hid (show rng (r.take (j + 1)) = p ++ dl by rw [HSN.out, H1 hne, if_pos hjz, hpz]; rfl)
          clear hne H1 H2 HSN hjz hpz
          go_wp2_with fail
          refine (CL.out _).mono ?_
          rintro e w1 ⟨rfl, hk1⟩
          clear x0 x1
          obtain ⟨x0, x1⟩ := HXW.out _ hk1
          go_wp2
          go_quiet (fail)
          go_wp2
          go_roundw
          case rel => exact ⟨j + 1, by omega, by go_num, by rw [HF.out], (hk.trans hk1).trans (((Quiet.refl w1).drewN _).keep)⟩
          case measure => simp [intOf]; omega
        · have dne : (hi' != lo') = true := by simpa using hne
          obtain ⟨q1, hq1⟩ : ∃ q, q = p ++ dl := ⟨_, rfl⟩
          obtain ⟨q2, hq2⟩ : ∃ q, q = q1 ++ [45] := ⟨_, rfl⟩
          obtain ⟨q3, hq3⟩ : ∃ q, q = q2 ++ dh := ⟨_, rfl⟩
          have hq2l : q2.length ≤ 35000000 := by rw [hq2, hq1, List.length_append, List.length_append]; simp; omega
          have a3 : ∀ W : World, (Op.stringOp .add (st q1) ⟨#[45]⟩).run Try.prog W = .ok (.string (st q2)) W := by rw [hq2]; exact add_st q1 [45] (by rw [hq2, List.length_append] at hq2l; simp at hq2l ⊢; omega)
          have a4 : ∀ W : World, (Op.stringOp .add (st q2) (st dh)).run Try.prog W = .ok (.string (st q3)) W := by rw [hq3]; exact add_st q2 dh (by omega)
          rw [← hq1] at a2
          have HF := Lib.hid (show rng (r.take (j + 1)) = q3 by rw [HSN.out, H2 hne, if_pos hjz, hq3, hq2, hq1, hpz]; simp)
          clear hq1 hq2 hq3 hq2l hne H1 H2 HSN hjz hpz
          go_wp2_with fail
          refine (CL.out _).mono ?_
          rintro e w1 ⟨rfl, hk1⟩
          clear x0 x1
          obtain ⟨x0, x1⟩ := HXW.out _ hk1
          go_wp2
          go_quiet (fail)
          go_wp2_with fail
          refine (CH.out _).mono ?_
          rintro e w2 ⟨rfl, hk2⟩
          go_wp2
          go_roundw
          case rel => exact ⟨j + 1, by omega, by go_num, by rw [HF.out], ((hk.trans hk1).trans (((Quiet.refl w1).drewN _).keep)).trans hk2⟩
          case measure => simp [intOf]; omega
      · have dj : decide (0 < j) = true := by simp; omega
        have dj' : decide ((0 : Int) < (j : Int)) = true := by simp; omega
        obtain ⟨s1, hs1⟩ : ∃ s, s = p ++ [44] := ⟨_, rfl⟩
        have hs1l : s1.length = p.length + 1 := by rw [hs1, List.length_append]; rfl
        have a1 : ∀ W : World, (Op.stringOp .add (st p) ⟨#[44]⟩).run Try.prog W = .ok (.string (st s1)) W := by rw [hs1]; exact add_st p [44] (by simp; omega)
        have a2 : ∀ W : World, (Op.stringOp .add (st s1) (st dl)).run Try.prog W = .ok (.string (st (s1 ++ dl))) W := add_st s1 dl (by rw [hs1l]; omega)
        by_cases hne : hi' = lo'
        · have dne : (hi' != lo') = false := by simpa using hne
          have HF := Lib.hid (show rng (r.take (j + 1)) = s1 ++ dl by rw [HSN.out, H1 hne, if_neg hjz, hs1, List.append_assoc]; rfl)
          clear hne H1 H2 HSN hjz hs1
          go_wp2_with fail
          refine (CL.out _).mono ?_
          rintro e w1 ⟨rfl, hk1⟩
          clear x0 x1
          obtain ⟨x0, x1⟩ := HXW.out _ hk1
          go_wp2
          go_quiet (fail)
          go_wp2
          go_roundw
          case rel => exact ⟨j + 1, by omega, by go_num, by rw [HF.out], (hk.trans hk1).trans (((Quiet.refl w1).drewN _).keep)⟩
          case measure => simp [intOf]; omega
        · have dne : (hi' != lo') = true := by simpa using hne
          obtain ⟨q1, hq1⟩ : ∃ q, q = s1 ++ dl := ⟨_, rfl⟩
          obtain ⟨q2, hq2⟩ : ∃ q, q = q1 ++ [45] := ⟨_, rfl⟩
          obtain ⟨q3, hq3⟩ : ∃ q, q = q2 ++ dh := ⟨_, rfl⟩
          have hq2l : q2.length ≤ 35000000 := by rw [hq2, hq1, List.length_append, List.length_append]; simp; rw [hs1l]; omega
          have a3 : ∀ W : World, (Op.stringOp .add (st q1) ⟨#[45]⟩).run Try.prog W = .ok (.string (st q2)) W := by rw [hq2]; exact add_st q1 [45] (by rw [hq2, List.length_append] at hq2l; simp at hq2l ⊢; omega)
          have a4 : ∀ W : World, (Op.stringOp .add (st q2) (st dh)).run Try.prog W = .ok (.string (st q3)) W := by rw [hq3]; exact add_st q2 dh (by omega)
          rw [← hq1] at a2
          have HF := Lib.hid (show rng (r.take (j + 1)) = q3 by rw [HSN.out, H2 hne, if_neg hjz, hq3, hq2, hq1, hs1]; simp)
          clear hq1 hq2 hq3 hq2l hne H1 H2 HSN hjz hs1
          go_wp2_with fail
          refine (CL.out _).mono ?_
          rintro e w1 ⟨rfl, hk1⟩
          clear x0 x1
          obtain ⟨x0, x1⟩ := HXW.out _ hk1
          go_wp2
          go_quiet (fail)
          go_wp2_with fail
          refine (CH.out _).mono ?_
          rintro e w2 ⟨rfl, hk2⟩
          go_wp2
          go_roundw
          case rel => exact ⟨j + 1, by omega, by go_num, by rw [HF.out], ((hk.trans hk1).trans (((Quiet.refl w1).drewN _).keep)).trans hk2⟩
          case measure => simp [intOf]; omega
    · obtain rfl : j = r.length := by omega
      rw [List.take_length]
      go_wp2
      go_ret
      exact ⟨rfl, hk⟩
end Go.Proofs.Ytffojilbhpefbaa.Tr
