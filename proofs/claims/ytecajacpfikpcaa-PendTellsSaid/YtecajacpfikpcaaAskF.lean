/- Layer 6's reference: whether a request is formed. Conditions: at most a million values. -/
import Derived.Test.YtecajacpfikpcaaAskR
namespace Go.Proofs.Ytecajacpfikpcaa.Ref6
set_option linter.unusedVariables false
open Go.ChangeShapes Go.WideShapes Go.ChangeAt Go.RowKit

theorem part_false {most lo n : Int} (h0 : 0 ≤ most) (h : Ak.part most lo n = false) :
    decide (lo < 0) = true ∨ (decide (lo < 0) = false ∧ decide (65535 < lo) = true) ∨ (decide (lo < 0) = false ∧ decide (65535 < lo) = false ∧ decide (n < 0) = true) ∨
    (decide (lo < 0) = false ∧ decide (65535 < lo) = false ∧ decide (n < 0) = false ∧ decide (most < n) = true) ∨
    (decide (lo < 0) = false ∧ decide (65535 < lo) = false ∧ decide (n < 0) = false ∧ decide (most < n) = false ∧ decide (0 < most) = true ∧ (n == 0) = true) ∨
    (decide (lo < 0) = false ∧ decide (65535 < lo) = false ∧ decide (n < 0) = false ∧ decide (most < n) = false ∧ decide (0 < most) = false ∧ (most == 0) = true ∧ (lo != 0) = true) := by
  simp only [decide_eq_true_eq, decide_eq_false_iff_not, beq_iff_eq, bne_iff_ne]
  by_cases a1 : lo < 0
  · exact .inl a1
  by_cases a2 : 65535 < lo
  · exact .inr (.inl ⟨a1, a2⟩)
  by_cases a3 : n < 0
  · exact .inr (.inr (.inl ⟨a1, a2, a3⟩))
  by_cases a4 : most < n
  · exact .inr (.inr (.inr (.inl ⟨a1, a2, a3, a4⟩)))
  by_cases a5 : 0 < most
  · by_cases a6 : n = 0
    · exact .inr (.inr (.inr (.inr (.inl ⟨a1, a2, a3, a4, a5, a6⟩))))
    · exfalso
      have e : Ak.part most lo n = true := by simp [Ak.part, Ak.inTo]; omega
      rw [e] at h; cases h
  · by_cases a7 : lo = 0
    · exfalso
      have e : Ak.part most lo n = true := by simp [Ak.part, Ak.inTo]; omega
      rw [e] at h; cases h
    · exact .inr (.inr (.inr (.inr (.inr ⟨a1, a2, a3, a4, a5, by omega, a7⟩))))
theorem part_true {most lo n : Int} (h0 : 0 ≤ most) (h : Ak.part most lo n = true) :
    (decide (lo < 0) = false ∧ decide (65535 < lo) = false ∧ decide (n < 0) = false ∧ decide (most < n) = false) ∧
    ((decide (0 < most) = true ∧ (n == 0) = false ∧ (most == 0) = false) ∨ (decide (0 < most) = false ∧ (most == 0) = true ∧ (lo != 0) = false)) := by
  simp [Ak.part, Ak.inTo] at h
  simp
  omega
theorem reads_nn (fc : Int) : 0 ≤ Ak.reads fc := by unfold Ak.reads; repeat (first | omega | split)
theorem wmax_nn (fc : Int) : 0 ≤ Ak.wmax fc := by unfold Ak.wmax; repeat (first | omega | split)
end Go.Proofs.Ytecajacpfikpcaa.Ref6
