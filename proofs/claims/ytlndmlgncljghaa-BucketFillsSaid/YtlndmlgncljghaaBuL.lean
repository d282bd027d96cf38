/- Layer 18's laws. Conditions: none beyond the laws' own. -/
import Derived.Test.YtlndmlgncljghaaBu
namespace Go.Proofs.Ytlndmlgncljghaa.Bucket
set_option linter.unusedVariables false
open Go.ChangeShapes Go.WideShapes Go.ChangeAt Go.RowKit
open Bu

set_option maxHeartbeats 1000000 in
theorem awake_any (w : World) : Calls Try.prog 8 #[] w fun e w' => e = .returned (.bool true) ∧ Keep w w' := by
  obtain ⟨X, hX⟩ : ∃ X, X = w.alloc (.cells #[.int .i64 1, .int .i64 2, .int .i64 3] 23) := ⟨_, rfl⟩
  have k0 : Keep w X := by rw [hX]; exact (Keep.refl w).alloc _
  have B0 : Hid (Bx w.heap.size ⟨1, 2, 3⟩ X) := Lib.hid (by rw [hX]; exact Bx.new w ⟨1, 2, 3⟩ _)
  have hr : right ⟨1, 2, 3⟩ = true := by decide
  have ht : ∀ l (W : World), l = 6 ∨ l = 1 → Calls Try.prog 9 #[.int .i64 l, .agg #[.int .i64 1, .int .i64 2, .int .i64 3]] W fun e w' => e = .returned (if l < 2 then .tuple #[.int .i64 l, .bool false] else .tuple #[.int .i64 (l - 2), .bool true]) ∧ Keep W w' := fun l W h =>
    take_any l ⟨1, 2, 3⟩ W hr (by omega) (by show l ≤ 6; omega)
  have h6 := Lib.hid fun W => ht 6 W (.inl rfl)
  have h1 := Lib.hid fun W => ht 1 W (.inr rfl)
  have hi5 : ∀ W : World, Calls Try.prog 12 #[.int .i64 5, .agg #[.int .i64 1, .int .i64 2, .int .i64 3]] W fun e w' => e = .returned (.int .i64 6) ∧ Keep W w' := fun W => tick_any 5 ⟨1, 2, 3⟩ W hr (by decide) (by decide)
  have hi6 : ∀ W : World, Calls Try.prog 12 #[.int .i64 6, .agg #[.int .i64 1, .int .i64 2, .int .i64 3]] W fun e w' => e = .returned (.int .i64 6) ∧ Keep W w' := fun W => tick_any 6 ⟨1, 2, 3⟩ W hr (by decide) (by decide)
  have hf : ∀ W : World, Calls Try.prog 11 #[.agg #[.int .i64 1, .int .i64 2, .int .i64 3]] W fun e w' => e = .returned (.int .i64 6) ∧ Keep W w' := fun W => full_any ⟨1, 2, 3⟩ W hr
  have H5 := Lib.hid hi5
  have H6 := Lib.hid hi6
  have HF := Lib.hid hf
  clear ht hr hi5 hi6 hf
  obtain ⟨⟨a0, b0, d0⟩, _⟩ := B0.out
  go_enter Try.func8, Try.ntmps8
  go_wp2_with fail
  rw [← hX]
  refine (h6.out _).mono ?_
  rintro e w1 ⟨rfl, hb1⟩
  clear a0 b0 d0
  replace B0 := Lib.hid (B0.out.kept hb1)
  replace k0 := k0.trans hb1
  obtain ⟨⟨a0, b0, d0⟩, _⟩ := B0.out
  go_wp2_with fail
  refine (h1.out _).mono ?_
  rintro e w2 ⟨rfl, hb2⟩
  clear a0 b0 d0 hb1
  replace B0 := Lib.hid (B0.out.kept hb2)
  replace k0 := k0.trans hb2
  obtain ⟨⟨a0, b0, d0⟩, _⟩ := B0.out
  go_wp2_with fail
  refine (HF.out _).mono ?_
  rintro e w3 ⟨rfl, hb3⟩
  clear a0 b0 d0 hb2
  replace B0 := Lib.hid (B0.out.kept hb3)
  replace k0 := k0.trans hb3
  obtain ⟨⟨a0, b0, d0⟩, _⟩ := B0.out
  go_wp2_with fail
  refine (H5.out _).mono ?_
  rintro e w4 ⟨rfl, hb4⟩
  clear a0 b0 d0 hb3
  replace B0 := Lib.hid (B0.out.kept hb4)
  replace k0 := k0.trans hb4
  obtain ⟨⟨a0, b0, d0⟩, _⟩ := B0.out
  go_wp2_with fail
  refine (H6.out _).mono ?_
  rintro e w5 ⟨rfl, hb5⟩
  replace k0 := k0.trans hb5
  go_wp2
  go_ret
  exact ⟨rfl, k0⟩

set_option maxHeartbeats 2000000 in
theorem tells_any (r : RateB) (l : Int) (w : World) :
    Calls Try.prog 3 #[.agg #[.int .i64 r.num, .int .i64 r.per, .int .i64 r.burst], .int .i64 l] w fun e w' => e = .returned (.bool true) ∧ Keep w w' := by
  obtain ⟨X, hX⟩ : ∃ X, X = w.alloc (.cells #[.int .i64 r.num, .int .i64 r.per, .int .i64 r.burst] 23) := ⟨_, rfl⟩
  have k0 : Keep w X := by rw [hX]; exact (Keep.refl w).alloc _
  have B0 : Hid (Bx w.heap.size r X) := Lib.hid (by rw [hX]; exact Bx.new w r _)
  obtain ⟨⟨a0, b0, d0⟩, _⟩ := B0.out
  cases hr : right r
  · have HR := Lib.hid hr
    clear hr
    go_enter Try.func3, Try.ntmps3
    go_wp2_with fail
    rw [← hX]
    refine (Ref18.right_any r _).mono ?_
    rintro e w1 ⟨rfl, hb1⟩
    rw [HR.out]
    go_wp2_with fail
    refine (awake_any _).mono ?_
    rintro e w2 ⟨rfl, hb2⟩
    go_wp2
    go_ret
    exact ⟨rfl, (k0.trans hb1).trans hb2⟩
  have HR := Lib.hid hr
  clear hr
  by_cases h0 : l < 0
  · have d0' : decide (l < 0) = true := by simp [h0]
    clear h0
    go_enter Try.func3, Try.ntmps3
    go_wp2_with fail
    rw [← hX]
    refine (Ref18.right_any r _).mono ?_
    rintro e w1 ⟨rfl, hb1⟩
    rw [HR.out]
    go_wp2_with fail
    refine (awake_any _).mono ?_
    rintro e w2 ⟨rfl, hb2⟩
    go_wp2
    go_ret
    exact ⟨rfl, (k0.trans hb1).trans hb2⟩
  have e0 : decide (l < 0) = false := by simp [h0]
  by_cases h1 : full r < l
  · have d1 : decide (full r < l) = true := by simp [h1]
    clear h1 h0
    go_enter Try.func3, Try.ntmps3
    go_wp2_with fail
    rw [← hX]
    refine (Ref18.right_any r _).mono ?_
    rintro e w1 ⟨rfl, hb1⟩
    rw [HR.out]
    clear a0 b0 d0
    replace B0 := Lib.hid (B0.out.kept hb1)
    replace k0 := k0.trans hb1
    obtain ⟨⟨a0, b0, d0⟩, _⟩ := B0.out
    go_wp2_with fail
    refine (Ref18.full_any r _ HR.out).mono ?_
    rintro e w2 ⟨rfl, hb2⟩
    go_wp2_with fail
    refine (awake_any _).mono ?_
    rintro e w3 ⟨rfl, hb3⟩
    go_wp2
    go_ret
    exact ⟨rfl, (k0.trans hb2).trans hb3⟩
  have e1 : decide (full r < l) = false := by simp [h1]
  have HL := Lib.hid (And.intro (show 0 ≤ l by omega) (show l ≤ full r by omega))
  clear h0 h1
  obtain ⟨tk, htk⟩ : ∃ v : Value, v = (if l < r.per then .tuple #[.int .i64 l, .bool false] else .tuple #[.int .i64 (l - r.per), .bool true]) := ⟨_, rfl⟩
  obtain ⟨n, ok, htp⟩ : ∃ (n : Int) (ok : Bool), tk = .tuple #[.int .i64 n, .bool ok] := by
    rw [htk]; split
    · exact ⟨_, _, rfl⟩
    · exact ⟨_, _, rfl⟩
  rw [htp] at htk
  have hT1 := fun W => take_any l r W HR.out HL.out.1 HL.out.2
  have hT2 := fun W => Ref18.take_any l r W HR.out HL.out.1 HL.out.2
  rw [← htk] at hT1 hT2
  have HT1 := Lib.hid hT1
  have HT2 := Lib.hid hT2
  clear htk htp hT1 hT2
  go_enter Try.func3, Try.ntmps3
  go_wp2_with fail
  rw [← hX]
  refine (Ref18.right_any r _).mono ?_
  rintro e w1 ⟨rfl, hb1⟩
  rw [HR.out]
  clear a0 b0 d0
  replace B0 := Lib.hid (B0.out.kept hb1)
  replace k0 := k0.trans hb1
  obtain ⟨⟨a0, b0, d0⟩, _⟩ := B0.out
  go_wp2_with fail
  refine (Ref18.full_any r _ HR.out).mono ?_
  rintro e w2 ⟨rfl, hb2⟩
  clear a0 b0 d0 hb1
  replace B0 := Lib.hid (B0.out.kept hb2)
  replace k0 := k0.trans hb2
  obtain ⟨⟨a0, b0, d0⟩, _⟩ := B0.out
  go_wp2_with fail
  refine (HT1.out _).mono ?_
  rintro e w3 ⟨rfl, hb3⟩
  clear a0 b0 d0 hb2
  replace B0 := Lib.hid (B0.out.kept hb3)
  replace k0 := k0.trans hb3
  obtain ⟨⟨a0, b0, d0⟩, _⟩ := B0.out
  go_wp2_with fail
  refine (HT2.out _).mono ?_
  rintro e w4 ⟨rfl, hb4⟩
  clear a0 b0 d0 hb3
  replace B0 := Lib.hid (B0.out.kept hb4)
  replace k0 := k0.trans hb4
  clear hb4
  obtain ⟨X4, hX4⟩ : ∃ X, X = w4 := ⟨_, rfl⟩
  have hc : ∀ p : KeptOf w4, Bx w.heap.size r p.w := fun p => B0.out.kept p.h
  have hc0 := fun p => (hc p).1.1
  have hc1 := fun p => (hc p).1.2.1
  have hc2 := fun p => (hc p).1.2.2
  have hA : ∀ p : KeptOf w4, Calls Try.prog 8 #[] p.w fun e w' => e = .returned (.bool true) ∧ Keep p.w w' := fun p => awake_any p.w
  have hF1 : ∀ p : KeptOf w4, Calls Try.prog 11 #[.agg #[.int .i64 r.num, .int .i64 r.per, .int .i64 r.burst]] p.w fun e w' => e = .returned (.int .i64 (full r)) ∧ Keep p.w w' := fun p => full_any r p.w HR.out
  have hF2 : ∀ p : KeptOf w4, Calls Try.prog 7 #[.agg #[.int .i64 r.num, .int .i64 r.per, .int .i64 r.burst]] p.w fun e w' => e = .returned (.int .i64 (full r)) ∧ Keep p.w w' := fun p => Ref18.full_any r p.w HR.out
  have hK1 : ∀ p : KeptOf w4, Calls Try.prog 12 #[.int .i64 l, .agg #[.int .i64 r.num, .int .i64 r.per, .int .i64 r.burst]] p.w fun e w' => e = .returned (.int .i64 (tick l r)) ∧ Keep p.w w' := fun p => tick_any l r p.w HR.out HL.out.1 HL.out.2
  have hK2 : ∀ p : KeptOf w4, Calls Try.prog 13 #[.int .i64 l, .agg #[.int .i64 r.num, .int .i64 r.per, .int .i64 r.burst]] p.w fun e w' => e = .returned (.int .i64 (tick l r)) ∧ Keep p.w w' := fun p => Ref18.tick_any l r p.w HR.out HL.out.1 HL.out.2
  clear hc e0 e1 hX
  go_wp2_with fail
  refine wp_region_kept (by kernel_rfl) (by kernel_rfl) ?_
  repeat (go_big_quiet_step (first | with_reducible exact KeptOf.of (hA _) | with_reducible exact KeptOf.of (hF1 _) | with_reducible exact KeptOf.of (hF2 _) | with_reducible exact KeptOf.of (hK1 _) | with_reducible exact KeptOf.of (hK2 _)))
  refine Go.wpQuiet_nil ?_
  intro _ hw'
  obtain ⟨⟨W, hw⟩, hw''⟩ := hw'
  subst hw''
  go_wp2
  go_ret
  exact ⟨rfl, k0.trans hw⟩
end Go.Proofs.Ytlndmlgncljghaa.Bucket
