/- Requests that wait, as they come in: their values are no more than memory can hold. Conditions: none. -/
import Derived.Test.YtecajacpfikpcaaPnO
import Derived.Test.YtecajacpfikpcaaPnN
import Derived.Test.YtecajacpfikpcaaOpZ
namespace Go.Proofs.Ytecajacpfikpcaa.Pn
set_option linter.unusedVariables false
set_option maxRecDepth 100000
open Go.ChangeShapes Go.WideShapes Go.ChangeAt Go.RowKit
theorem opensZ_vals : OpensZ Try.prog 27 fun W cs => cs.length = 12 ∧ ∀ A n c, cs[10]? = some (.slice A n c) → n * 8 ≤ 140737488355328 := by
  have h1 := opensZ_ints (P := Try.prog) Try.underlying23 Try.underlying3 (by kernel_rfl)
  rw [show Try.prog.bytesOf 3 = 8 by kernel_rfl] at h1
  have h2 := opensZ_field Try.underlying25 5 _ rfl 6 1 (by kernel_rfl) (by kernel_rfl) h1
  have h3 := opensZ_field Try.underlying27 5 _ rfl 12 6 (by kernel_rfl) (by kernel_rfl) h2
  refine h3.mono fun W cs ⟨hl, _, h⟩ => ⟨hl, fun A n c e => ?_⟩
  have := h A n c (by
    match cs, hl with
    | [d0, d1, d2, d3, d4, d5, d6, d7, d8, d9, d10, d11], _ =>
      simp at e
      subst e
      rfl)
  unfold reachBytes at this
  omega
/-- A slice of such, as it comes in. -/
def PendsZ (W : World) (A : Option Addr) (n : Nat) (zs : List PendP) : Prop := PendsIn W A n zs ∧ SmV zs
theorem opensZ_pends : OpensZ Try.prog 22 fun W cs => ∃ A n c zs, cs = [.slice A n c] ∧ n ≤ c ∧ c ≤ maxLen ∧ PendsZ W A n zs :=
  (opens_pends.z.and (opensZ_slice Try.underlying22 (show Try.prog.cellsOf 27 = 12 by kernel_rfl) (by omega) opensZ_vals)).mono fun W cs ⟨⟨A, n, c, zs, hcs, hn, hc, hP⟩, A', n', c', hcs', _, _, _, hE⟩ => by
    rw [hcs] at hcs'
    injection hcs' with hcs' _
    injection hcs' with a1 a2 a3
    subst a1 a2 a3
    refine ⟨A, n, c, zs, hcs, hn, hc, hP, fun p hp => ?_⟩
    obtain ⟨j, hj, rfl⟩ := List.mem_iff_getElem.1 hp
    have hl := hP.1.1
    obtain ⟨b, off, rfl, hb, hE⟩ := hE (by omega)
    obtain ⟨es, h1, h2, h3, h4⟩ := hE j (by omega)
    have hr := (row_pend hP.1 j (by omega)).2.2.2.2.2.2.2.2.2.2.2.1
    rw [show zs.getD j zero = zs[j] by simp [List.getD, List.getElem?_eq_getElem hj]] at hr
    have := h2 10 (by omega)
    rw [hr] at this
    exact h4 _ _ _ this.symm
end Go.Proofs.Ytecajacpfikpcaa.Pn
