/- Layer 4: the document's example, and the laws. Conditions: as the laws bear them (30 ranges at most). -/
import Derived.Test.YtabmgneoliopaaaSpL
namespace Go.Proofs.Ytabmgneoliopaaa.Span
open Go.Shelf Go.ChangeShapes Go.WideShapes Go.ChangeAt Go.RowKit

theorem right_17 : Sp.Right [(1, 7)] := ⟨fun r hr => by simp at hr; subst hr; decide, by simp⟩
theorem norm_ex : Sp.norm [(5, 7), (1, 2), (3, 4)] = [(1, 7)] :=
  (Sp.norm_of right_17 fun n => by
    rw [Bool.eq_iff_iff, Sp.has_iff, Sp.has_iff]
    simp
    omega).1
theorem norm_17 : Sp.norm [(1, 7)] = [(1, 7)] := (Sp.norm_of right_17 fun _ => rfl).1

theorem fit_of_in {zs : List (Int × Int)} (h : ∀ z ∈ zs, (Lit.int .i64 z.1).wf = true ∧ (Lit.int .i64 z.2).wf = true) : ∀ r ∈ zs, Fit r := fun r hr => by
  obtain ⟨h1, h2⟩ := h r hr
  simp [Lit.wf, IntKind.min, IntKind.max, IntKind.bits, IntKind.signed] at h1 h2
  simp only [Fit]
  omega

set_option maxHeartbeats 1000000 in
theorem awake_any (w : World) : Calls Try.prog 7 #[] w fun e w' => e = .returned (.bool true) ∧ Keep w w' := by
  have hk0 : Keep w (w.alloc (.cells #[.int .i64 5, .int .i64 7, .int .i64 1, .int .i64 2, .int .i64 3, .int .i64 4] 24)) := (Keep.refl _).alloc _
  have hnew : Row encP 2 (w.alloc (.cells #[.int .i64 5, .int .i64 7, .int .i64 1, .int .i64 2, .int .i64 3, .int .i64 4] 24)) (w.alloc (.cells #[.int .i64 5, .int .i64 7, .int .i64 1, .int .i64 2, .int .i64 3, .int .i64 4] 24)).heap.size (some ⟨w.heap.size, 0, none⟩) 3 [(5, 7), (1, 2), (3, 4)] := by
    have := Row.new encP_len w 24 [(5, 7), (1, 2), (3, 4)] #[.int .i64 5, .int .i64 7, .int .i64 1, .int .i64 2, .int .i64 3, .int .i64 4] rfl
    simpa using this
  have hcon := norm_any (some ⟨w.heap.size, 0, none⟩) 3 3 [(5, 7), (1, 2), (3, 4)] _ (by omega) hnew (fun r hr => by
    simp at hr
    rcases hr with rfl | rfl | rfl <;> simp [Fit])
  rw [norm_ex] at hcon
  have hgd := guardR
  have he : ∀ w, (Op.equalIn 10000 24 (.agg #[.int .i64 1, .int .i64 7]) (.agg #[.int .i64 1, .int .i64 7])).run Try.prog w = .ok true w := fun w => by rw [eqR]; rfl
  clear hnew
  go_enter Try.func7, Try.ntmps7
  go_wp2_with fail
  refine hcon.mono ?_
  rintro e w1 ⟨⟨A1, n1, c1, rfl, hle1, hle2, hrow, hk1⟩, _, _⟩
  obtain rfl : 1 = n1 := hrow.1
  obtain ⟨b, off, rfl, _⟩ := hrow.addr (by omega)
  obtain ⟨hb, d1, d2⟩ := hrow.pair 0 (by omega)
  have hf17 : ∀ r ∈ [((1 : Int), (7 : Int))], Fit r := fun r hr => by simp at hr; subst hr; simp [Fit]
  simp at d1 d2
  have hkA := hk0.trans hk1
  have h4 := fun W h => has_any (some ⟨b, off, none⟩) 1 c1 [(1, 7)] 4 W (by omega) h
  have h8 := fun W h => has_any (some ⟨b, off, none⟩) 1 c1 [(1, 7)] 8 W (by omega) h
  have h27 := fun W h => covers_any (some ⟨b, off, none⟩) 1 c1 [(1, 7)] 2 7 W (by omega) h hf17
  have h01 := fun W h => covers_any (some ⟨b, off, none⟩) 1 c1 [(1, 7)] 0 1 W (by omega) h hf17
  rw [show Sp.has [(1, 7)] 4 = true from rfl] at h4
  rw [show Sp.has [(1, 7)] 8 = false from rfl] at h8
  rw [norm_17, show Sp.covers [(1, 7)] (2, 7) = true from rfl] at h27
  rw [norm_17, show Sp.covers [(1, 7)] (0, 1) = false from rfl] at h01
  clear hcon hk0 hk1 hf17 hle1 hle2
  go_wp2_with fail
  refine (h4 _ hrow).mono ?_
  rintro e w2 ⟨rfl, k2⟩
  have hrow2 := hrow.kept k2
  have hkB := hkA.trans k2
  clear h4 hrow k2 hkA d1 d2 he
  go_wp2_with fail
  refine (h8 _ hrow2).mono ?_
  rintro e w3 ⟨rfl, k3⟩
  have hrow3 := hrow2.kept k3
  have hkC := hkB.trans k3
  clear h8 hrow2 k3 hkB
  go_wp2_with fail
  refine (h27 _ hrow3).mono ?_
  rintro e w4 ⟨rfl, k4⟩
  have hrow4 := hrow3.kept k4
  have hkD := hkC.trans k4
  clear h27 hrow3 k4 hkC
  go_wp2_with fail
  refine (h01 _ hrow4).mono ?_
  rintro e w5 ⟨rfl, k5⟩
  have hkE := hkD.trans k5
  clear h01 hrow4 k5 hkD
  go_wp2
  go_ret
  exact ⟨rfl, hkE⟩
end Go.Proofs.Ytabmgneoliopaaa.Span
