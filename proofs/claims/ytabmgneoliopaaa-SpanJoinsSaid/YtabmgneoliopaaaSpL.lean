/- Layer 4: Right of the program; the four laws. Conditions: as the laws bear them (30 ranges at most). -/
import Derived.Test.YtabmgneoliopaaaSpM
import Derived.Test.YtabmgneoliopaaaSpJ
namespace Go.Proofs.Ytabmgneoliopaaa.Span
open Go.Shelf Go.ChangeShapes Go.WideShapes Go.ChangeAt Go.RowKit

set_option maxHeartbeats 1000000 in
theorem right_any (A : Option Addr) (n c : Nat) (zs : List (Int × Int)) (w : World) (hn : n ≤ 1000000) (hA : Row encP 2 w w.heap.size A n zs) (hf : ∀ r ∈ zs, Fit r) :
    Calls Try.prog 8 #[.slice A n c] w fun e w' => e = .returned (.bool (Sp.rightB zs)) ∧ Keep w w' := by
  have HL := Lib.hid hA.1
  have hmix := mixed
  go_enter Try.func8, Try.ntmps8
  go_wp2
  go_loopw [3, 4, 7] (fun _ _ s7 wr => ∃ k : Nat, k ≤ n ∧ s7 = .int .i64 k ∧ Keep w wr ∧ Hid (∀ j, j < k → Sp.good zs j = true)) (fun _ _ s7 _ => n - (intOf s7).toNat)
  case atStart => exact ⟨0, Nat.zero_le _, rfl, Keep.refl _, fun j hj => absurd hj (Nat.not_lt_zero _)⟩
  case round =>
    obtain ⟨k, hk, rfl, hkr, hg⟩ := hrel
    by_cases hlt : k < n
    · obtain ⟨b0, off, rfl, _⟩ := hA.addr (by omega)
      obtain ⟨hb0, q1, q2⟩ := hA.pair k hlt
      have hkz : k < zs.length := by rw [HL.out]; exact hlt
      have fx := fit_get hf hkz
      have HKZ := Lib.hid hkz
      clear hkz
      have d1 := (hkr.cell (p := ⟨b0, off + k * 2, none⟩) hb0).trans q1
      have d2 := (hkr.cell (p := ⟨b0, off + k * 2 + 1, none⟩) hb0).trans q2
      clear q1 q2
      obtain ⟨x, y, hx⟩ : ∃ x y, zs.getD k (0, 0) = (x, y) := ⟨_, _, rfl⟩
      rw [hx] at d1 d2 fx
      have HX := Lib.hid hx
      clear hx
      simp only [Fit] at d1 d2 fx
      obtain ⟨⟨x0, x1⟩, y0, y1⟩ := fx
      have hkn : (k : Int) < n := by omega
      have hk0 : (0 : Int) ≤ k := by omega
      have hks := hkr.size
      obtain ⟨X, hX⟩ : ∃ X, X = wr.alloc (.cells #[.int .i64 x, .int .i64 y] 24) := ⟨_, rfl⟩
      have hkX : Keep wr X := by rw [hX]; exact (Keep.refl _).alloc _
      have hXs : wr.heap.size < X.heap.size := by rw [hX]; simp
      have r3 : X.cell? ⟨wr.heap.size, 0, none⟩ = some (.int .i64 x) := by rw [hX]; simp
      have r4 : X.cell? ⟨wr.heap.size, 1, none⟩ = some (.int .i64 y) := by rw [hX]; simp
      have HXX := Lib.hid hX
      clear hX
      have g3 := fun n os => Go.cell_grown (w := X) (a := ⟨wr.heap.size, 0, none⟩) hXs r3 n os
      have g4 := fun n os => Go.cell_grown (w := X) (a := ⟨wr.heap.size, 1, none⟩) hXs r4 n os
      have hem : ∀ n os, Calls Try.prog 18 #[.agg #[.int .i64 x, .int .i64 y]] (Sort.grow (X.drewN n) os) fun e w' => e = .returned (.bool (Sp.emp (x, y))) ∧ ∃ q os', w' = Sort.grow ((Sort.grow (X.drewN n) os).drewN q) os' :=
        fun n os => isEmpty_any x y _
      have hGX : ∀ n os, Keep w (Sort.grow (X.drewN n) os) := fun n os => (hkr.trans hkX).trans (Grew.keep ⟨n, os, rfl⟩)
      obtain ⟨em, hemp⟩ : ∃ em, em = Sp.emp (x, y) := ⟨_, rfl⟩
      rw [← hemp] at hem
      have HEM := Lib.hid hemp
      clear hemp r3 r4
      cases em with
      | true =>
        have G := Lib.hid (show Sp.good zs k = false by unfold Sp.good; rw [HX.out, ← HEM.out]; rfl)
        go_wp2
        rw [← HXX.out]
        refine Go.wp_region_quiet_grown (by assumption) (by kernel_rfl) ?_
        repeat (go_big_quiet_step (with_reducible exact Go.Calls.grown_of (hem _ _)))
        refine Go.wpQuiet_nil ?_
        intro _ hw'
        obtain ⟨⟨nq, osq⟩, hw''⟩ := hw'
        subst hw''
        go_wp2
        go_ret
        rw [Sp.rightB_false zs k HKZ.out G.out]
        exact ⟨rfl, hGX _ _⟩
      | false =>
        rcases k with _ | m
        · have G := Lib.hid (show Sp.good zs 0 = true by unfold Sp.good; rw [HX.out, ← HEM.out]; rfl)
          have hn0 : 0 < n := by omega
          simp only [Nat.zero_mul, Nat.add_zero] at d1 d2
          clear hk0 hkn
          go_wp2
          rw [← HXX.out]
          refine Go.wp_region_quiet_grown (by assumption) (by kernel_rfl) ?_
          repeat (go_big_quiet_step (with_reducible exact Go.Calls.grown_of (hem _ _)))
          refine Go.wpQuiet_nil ?_
          intro _ hw'
          obtain ⟨⟨nq, osq⟩, hw''⟩ := hw'
          subst hw''
          go_wp2
          go_roundw
          case rel => exact ⟨0 + 1, by omega, by go_num, hGX _ _, fun j hj => by
            obtain rfl : j = 0 := by omega
            exact G.out⟩
          case measure => simp [intOf]; omega
        · have hmz : m < zs.length := by rw [HL.out]; omega
          have fp := fit_get hf hmz
          obtain ⟨_, q1, q2⟩ := hA.pair m (by omega)
          obtain ⟨a, b, hp⟩ : ∃ a b, zs.getD m (0, 0) = (a, b) := ⟨_, _, rfl⟩
          rw [hp] at q1 q2 fp
          have HPV := Lib.hid hp
          clear hp hmz
          have r1 := ((hkr.trans hkX).cell (p := ⟨b0, off + m * 2, none⟩) hb0).trans q1
          have r2 := ((hkr.trans hkX).cell (p := ⟨b0, off + m * 2 + 1, none⟩) hb0).trans q2
          simp only [Fit] at q1 q2 fp r1 r2
          have hbX : b0 < X.heap.size := by omega
          have g1 := fun n os => Go.cell_grown (w := X) (a := ⟨b0, off + m * 2, none⟩) hbX r1 n os
          have g2 := fun n os => Go.cell_grown (w := X) (a := ⟨b0, off + m * 2 + 1, none⟩) hbX r2 n os
          have hap : ∀ n os, Calls Try.prog 19 #[.agg #[.int .i64 a, .int .i64 b], .agg #[.int .i64 x, .int .i64 y]] (Sort.grow (X.drewN n) os) fun e w' => e = .returned (.bool (Sp.apart (a, b) (x, y))) ∧ ∃ q os', w' = Sort.grow ((Sort.grow (X.drewN n) os).drewN q) os' :=
            fun n os => isApart_any a b x y _ fp.2.1 x1
          obtain ⟨ap, happ⟩ : ∃ ap, ap = Sp.apart (a, b) (x, y) := ⟨_, rfl⟩
          rw [← happ] at hap
          have HAP := Lib.hid happ
          have G := Lib.hid (show Sp.good zs (m + 1) = ap by unfold Sp.good; rw [HX.out, ← HEM.out, show m + 1 - 1 = m from rfl, HPV.out, ← HAP.out]; simp)
          clear happ r1 r2 q1 q2 fp
          have hm0 : (0 : Int) ≤ m := by omega
          have hm1 : (m : Int) < n := by omega
          cases ap with
          | true =>
            go_wp2
            rw [← HXX.out]
            refine Go.wp_region_quiet_grown (by assumption) (by kernel_rfl) ?_
            repeat (go_big_quiet_step (first | with_reducible exact Go.Calls.grown_of (hem _ _) | with_reducible exact Go.Calls.grown_of (hap _ _)))
            refine Go.wpQuiet_nil ?_
            intro _ hw'
            obtain ⟨⟨nq, osq⟩, hw''⟩ := hw'
            subst hw''
            go_wp2
            go_roundw
            case rel => exact ⟨m + 1 + 1, by omega, by go_num, hGX _ _, fun j hj => by
              rcases Nat.lt_or_ge j (m + 1) with h | h
              · exact hg.out j h
              · obtain rfl : j = m + 1 := by omega
                exact G.out⟩
            case measure => simp [intOf]; omega
          | false =>
            go_wp2
            rw [← HXX.out]
            refine Go.wp_region_quiet_grown (by assumption) (by kernel_rfl) ?_
            repeat (go_big_quiet_step (first | with_reducible exact Go.Calls.grown_of (hem _ _) | with_reducible exact Go.Calls.grown_of (hap _ _)))
            refine Go.wpQuiet_nil ?_
            intro _ hw'
            obtain ⟨⟨nq, osq⟩, hw''⟩ := hw'
            subst hw''
            go_wp2
            go_ret
            rw [Sp.rightB_false zs (m + 1) HKZ.out G.out]
            exact ⟨rfl, hGX _ _⟩
    · obtain rfl : k = n := by omega
      go_wp2
      go_ret
      rw [Sp.rightB_true zs (fun j hj => hg.out j (by rw [← HL.out]; exact hj))]
      exact ⟨rfl, hkr⟩
end Go.Proofs.Ytabmgneoliopaaa.Span
