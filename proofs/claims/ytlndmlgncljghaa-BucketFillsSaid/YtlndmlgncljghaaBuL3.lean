/- Layer 18's law BucketFills. Conditions: none beyond the law's own. -/
import Derived.Test.YtlndmlgncljghaaBuL
namespace Go.Proofs.Ytlndmlgncljghaa.Bucket
set_option linter.unusedVariables false
open Go.ChangeShapes Go.WideShapes Go.ChangeAt Go.RowKit
open Bu

/-- The level i ticks later. -/
def later (l : Int) (r : RateB) (i : Int) : Int := if l + i * r.num ≤ full r then l + i * r.num else full r
/-- How many ticks a level needs. -/
def needs (l : Int) (r : RateB) : Int := (full r - l + r.num - 1) / r.num
theorem later_zero {l : Int} {r : RateB} (h : l ≤ full r) : later l r 0 = l := by
  unfold later; rw [Int.zero_mul, Int.add_zero, if_pos h]
theorem later_range {l i : Int} {r : RateB} (hr : right r = true) (h0 : 0 ≤ l) (h1 : l ≤ full r) (hi : 0 ≤ i) : 0 ≤ later l r i ∧ later l r i ≤ full r := by
  obtain ⟨a1, a2, a3, a4, _⟩ := (right_iff r).1 hr
  have p : 0 ≤ i * r.num := Int.mul_nonneg hi (by omega)
  unfold later; split <;> omega
theorem tick_later {l i : Int} {r : RateB} (hr : right r = true) (h1 : l ≤ full r) : tick (later l r i) r = later l r (i + 1) := by
  obtain ⟨a1, a2, a3, a4, _⟩ := (right_iff r).1 hr
  have e : (i + 1) * r.num = i * r.num + r.num := by rw [Int.add_mul, Int.one_mul]
  unfold tick later; rw [e]
  split <;> split <;> first | omega | (split <;> omega)
theorem needs_range {l : Int} {r : RateB} (hr : right r = true) (h0 : 0 ≤ l) (h1 : l ≤ full r) : 0 ≤ needs l r ∧ needs l r ≤ 1099512676352 := by
  obtain ⟨a1, a2, a3, a4, _⟩ := (right_iff r).1 hr
  obtain ⟨f1, f2⟩ := full_range hr
  refine ⟨Int.ediv_nonneg (by omega) (by omega), ?_⟩
  exact Int.le_trans (Int.ediv_le_self _ (by omega)) (by omega)
theorem later_lt {l i : Int} {r : RateB} (hr : right r = true) (h : i < needs l r) : later l r i < full r := by
  obtain ⟨a1, a2, a3, a4, _⟩ := (right_iff r).1 hr
  have h2 : needs l r * r.num ≤ full r - l + r.num - 1 := Int.ediv_mul_le _ (by omega)
  have h3 : (i + 1) * r.num ≤ needs l r * r.num := Int.mul_le_mul_of_nonneg_right (by omega) (by omega)
  have e : (i + 1) * r.num = i * r.num + r.num := by rw [Int.add_mul, Int.one_mul]
  unfold later; split <;> omega
theorem later_full {l : Int} {r : RateB} (hr : right r = true) : later l r (needs l r) = full r := by
  obtain ⟨a1, a2, a3, a4, _⟩ := (right_iff r).1 hr
  have h2 : full r - l + r.num - 1 < (needs l r + 1) * r.num := Int.lt_ediv_add_one_mul_self _ (by omega)
  have e : (needs l r + 1) * r.num = needs l r * r.num + r.num := by rw [Int.add_mul, Int.one_mul]
  unfold later; split <;> omega
theorem tick_full {r : RateB} (hr : right r = true) : tick (full r) r = full r := by
  obtain ⟨a1, a2, a3, a4, _⟩ := (right_iff r).1 hr
  unfold tick; split <;> omega
/-- The loop's relation. -/
def FRel (X : World) (r : RateB) (l N : Int) (L I : Value) (wr : World) : Prop :=
  ∃ i v : Int, 0 ≤ i ∧ i ≤ N ∧ I = .int .i64 i ∧ L = .int .i64 v ∧ Hid (v = later l r i) ∧ Keep X wr

set_option maxHeartbeats 4000000 in
set_option maxRecDepth 20000 in
theorem fills_any (r : RateB) (l : Int) (w : World) :
    Calls Try.prog 5 #[.agg #[.int .i64 r.num, .int .i64 r.per, .int .i64 r.burst], .int .i64 l] w fun e w' => e = .returned (.bool true) ∧ Keep w w' := by
  obtain ⟨X, hX⟩ : ∃ X, X = w.alloc (.cells #[.int .i64 r.num, .int .i64 r.per, .int .i64 r.burst] 23) := ⟨_, rfl⟩
  have k0 : Keep w X := by rw [hX]; exact (Keep.refl w).alloc _
  have B0 : Hid (Bx w.heap.size r X) := Lib.hid (by rw [hX]; exact Bx.new w r _)
  have hc : ∀ p : KeptOf X, Bx w.heap.size r p.w := fun p => B0.out.kept p.h
  have hc0 := fun p => (hc p).1.1
  have hc1 := fun p => (hc p).1.2.1
  have hc2 := fun p => (hc p).1.2.2
  have hR : ∀ p : KeptOf X, Calls Try.prog 6 #[.agg #[.int .i64 r.num, .int .i64 r.per, .int .i64 r.burst]] p.w fun e w' => e = .returned (.bool (right r)) ∧ Keep p.w w' := fun p => Ref18.right_any r p.w
  clear hc
  cases hr : right r
  · rw [hr] at hR
    clear hr
    go_enter Try.func5, Try.ntmps5
    go_wp2_with fail
    rw [← hX]
    refine wp_region_kept (by kernel_rfl) (by kernel_rfl) ?_
    repeat (go_big_quiet_step (first | with_reducible exact KeptOf.of (hR _)))
    refine Go.wpQuiet_nil ?_
    intro _ hw'
    obtain ⟨⟨W, hw⟩, hw''⟩ := hw'
    subst hw''
    clear hR hc0 hc1 hc2
    go_wp2_with fail
    refine (awake_any _).mono ?_
    rintro e w2 ⟨rfl, hb2⟩
    go_wp2
    go_ret
    exact ⟨rfl, (k0.trans hw).trans hb2⟩
  rw [hr] at hR
  have HR := Lib.hid hr
  have hF : ∀ p : KeptOf X, Calls Try.prog 11 #[.agg #[.int .i64 r.num, .int .i64 r.per, .int .i64 r.burst]] p.w fun e w' => e = .returned (.int .i64 (full r)) ∧ Keep p.w w' := fun p => full_any r p.w HR.out
  clear hr
  by_cases h0 : l < 0
  · have d0' : decide (l < 0) = true := by simp [h0]
    clear h0
    go_enter Try.func5, Try.ntmps5
    go_wp2_with fail
    rw [← hX]
    refine wp_region_kept (by kernel_rfl) (by kernel_rfl) ?_
    repeat (go_big_quiet_step (first | with_reducible exact KeptOf.of (hR _)))
    refine Go.wpQuiet_nil ?_
    intro _ hw'
    obtain ⟨⟨W, hw⟩, hw''⟩ := hw'
    subst hw''
    clear hR hc0 hc1 hc2 hF
    go_wp2_with fail
    refine (awake_any _).mono ?_
    rintro e w2 ⟨rfl, hb2⟩
    go_wp2
    go_ret
    exact ⟨rfl, (k0.trans hw).trans hb2⟩
  have e0 : decide (l < 0) = false := by simp [h0]
  by_cases h1 : full r < l
  · have d1 : decide (full r < l) = true := by simp [h1]
    clear h1 h0
    go_enter Try.func5, Try.ntmps5
    go_wp2_with fail
    rw [← hX]
    refine wp_region_kept (by kernel_rfl) (by kernel_rfl) ?_
    repeat (go_big_quiet_step (first | with_reducible exact KeptOf.of (hR _) | with_reducible exact KeptOf.of (hF _)))
    refine Go.wpQuiet_nil ?_
    intro _ hw'
    obtain ⟨⟨W, hw⟩, hw''⟩ := hw'
    subst hw''
    clear hR hc0 hc1 hc2 hF
    go_wp2_with fail
    refine (awake_any _).mono ?_
    rintro e w2 ⟨rfl, hb2⟩
    go_wp2
    go_ret
    exact ⟨rfl, (k0.trans hw).trans hb2⟩
  have e1 : decide (full r < l) = false := by simp [h1]
  have HL := Lib.hid (And.intro (show 0 ≤ l by omega) (show l ≤ full r by omega))
  have hnum : ¬ r.num = 0 := by
    obtain ⟨a1, _⟩ := (right_iff r).1 HR.out
    omega
  clear h0 h1
  go_enter Try.func5, Try.ntmps5
  go_wp2_with fail
  rw [← hX]
  refine wp_region_kept (by kernel_rfl) (by kernel_rfl) ?_
  repeat (go_big_quiet_step (first | with_reducible exact KeptOf.of (hR _) | with_reducible exact KeptOf.of (hF _)))
  refine Go.wpQuiet_nil ?_
  intro Y hw'
  obtain ⟨⟨W, hw⟩, hw''⟩ := hw'
  subst hw''
  clear hR hc0 hc1 hc2 hF
  cases hd : decide (300 < wrap64 ((full r).tdiv r.num))
  · replace k0 := k0.trans hw
    have BY := Lib.hid (B0.out.kept hw)
    have hc : ∀ p : KeptOf Y, Bx w.heap.size r p.w := fun p => BY.out.kept p.h
    have hc0 := fun p => (hc p).1.1
    have hc1 := fun p => (hc p).1.2.1
    have hc2 := fun p => (hc p).1.2.2
    have hF : ∀ p : KeptOf Y, Calls Try.prog 11 #[.agg #[.int .i64 r.num, .int .i64 r.per, .int .i64 r.burst]] p.w fun e w' => e = .returned (.int .i64 (full r)) ∧ Keep p.w w' := fun p => full_any r p.w HR.out
    clear hc
    obtain ⟨f1, f2⟩ := full_range HR.out
    obtain ⟨a1, a2, a3, a4, _⟩ := (right_iff r).1 HR.out
    obtain ⟨l0, l1⟩ := HL.out
    go_wp2_with fail
    refine wp_region_kept (by kernel_rfl) (by kernel_rfl) ?_
    repeat (go_big_quiet_step (first | with_reducible exact KeptOf.of (hF _)))
    refine Go.wpQuiet_nil ?_
    intro Z hw'
    obtain ⟨⟨W2, hw2⟩, hw2''⟩ := hw'
    subst hw2''
    clear hc0 hc1 hc2 hF
    have BZ := Lib.hid (BY.out.kept hw2)
    replace k0 := k0.trans hw2
    obtain ⟨N, hN⟩ : ∃ N, N = needs l r := ⟨_, rfl⟩
    obtain ⟨n0, n1⟩ := needs_range HR.out l0 l1
    rw [← hN] at n0 n1
    rw [show (full r - l + r.num - 1) / r.num = N from hN.symm]
    have HN := Lib.hid hN
    clear hN hd e0 e1 hnum f1 f2 a1 a2 a3 a4 l0 l1 hw hw2
    go_wp2
    go_loopw [1, 6] (fun L I wr => FRel Z r l N L I wr) (fun _ I _ => (N - intOf I).toNat)
    case atStart => exact ⟨0, l, Int.le_refl 0, n0, rfl, rfl, Lib.hid (later_zero HL.out.2).symm, Keep.refl Z⟩
    case round =>
      obtain ⟨i, v, hi0, hi1, rfl, rfl, HV, hkx⟩ := hrel
      have B1 := Lib.hid (BZ.out.kept hkx)
      obtain ⟨v0, v1⟩ := later_range HR.out HL.out.1 HL.out.2 hi0
      rw [← HV.out] at v0 v1
      have HV01 := Lib.hid (And.intro v0 v1)
      clear v0 v1
      by_cases hlt : i < N
      · have dlt : decide (i < N) = true := by simp [hlt]
        obtain ⟨v2, hv2⟩ : ∃ x, x = tick v r := ⟨_, rfl⟩
        have HV2 := Lib.hid (show v2 = later l r (i + 1) by rw [hv2, HV.out]; exact tick_later HR.out HL.out.2)
        have hT := fun W => tick_any v r W HR.out HV01.out.1 HV01.out.2
        rw [← hv2] at hT
        have HT := Lib.hid hT
        have hne : (v == full r) = false := by
          have h := later_lt HR.out (l := l) (i := i) (by rw [← HN.out]; exact hlt)
          rw [← HV.out] at h
          simp; omega
        obtain ⟨⟨a0, b0, d0⟩, _⟩ := B1.out
        clear hT hv2
        go_wp2_with fail
        refine (full_any r _ HR.out).mono ?_
        rintro e w3 ⟨rfl, hb3⟩
        clear a0 b0 d0
        have B2 := Lib.hid (B1.out.kept hb3)
        obtain ⟨⟨a0, b0, d0⟩, _⟩ := B2.out
        go_wp2_with fail
        refine (HT.out _).mono ?_
        rintro e w4 ⟨rfl, hb4⟩
        go_wp2
        exact ⟨⟨i + 1, v2, by omega, by omega, rfl, rfl, HV2, (hkx.trans hb3).trans hb4⟩, by simp [intOf]; omega⟩
      · have hiN : i = N := by omega
        have hv : v = full r := by rw [HV.out, hiN, HN.out]; exact later_full HR.out
        have dlt : decide (i < N) = false := by simp [hlt]
        subst hiN
        subst hv
        have hT : ∀ W : World, Calls Try.prog 12 #[.int .i64 (full r), .agg #[.int .i64 r.num, .int .i64 r.per, .int .i64 r.burst]] W fun e w' => e = .returned (.int .i64 (full r)) ∧ Keep W w' := fun W => by
          have h := tick_any (full r) r W HR.out HV01.out.1 HV01.out.2
          rwa [tick_full HR.out] at h
        have HT := Lib.hid hT
        clear hT
        go_wp2_with fail
        refine (awake_any _).mono ?_
        rintro e w3 ⟨rfl, hb3⟩
        have B2 := Lib.hid (B1.out.kept hb3)
        obtain ⟨⟨a0, b0, d0⟩, _⟩ := B2.out
        go_wp2_with fail
        refine (full_any r _ HR.out).mono ?_
        rintro e w4 ⟨rfl, hb4⟩
        clear a0 b0 d0
        have B3 := Lib.hid (B2.out.kept hb4)
        obtain ⟨⟨a0, b0, d0⟩, _⟩ := B3.out
        go_wp2_with fail
        refine (HT.out _).mono ?_
        rintro e w5 ⟨rfl, hb5⟩
        go_wp2
        go_ret
        exact ⟨rfl, (((k0.trans hkx).trans hb3).trans hb4).trans hb5⟩
  · clear e0 e1
    go_wp2_with fail
    refine (awake_any _).mono ?_
    rintro e w2 ⟨rfl, hb2⟩
    go_wp2
    go_ret
    exact ⟨rfl, (k0.trans hw).trans hb2⟩
end Go.Proofs.Ytlndmlgncljghaa.Bucket
