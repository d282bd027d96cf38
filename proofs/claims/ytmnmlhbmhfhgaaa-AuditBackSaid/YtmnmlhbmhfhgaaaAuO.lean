/- What a reading of records tells. Conditions: none. Written by genAuO.py. -/
import Derived.Test.YtmnmlhbmhfhgaaaAuR
import Derived.Test.YtmnmlhbmhfhgaaaOpen
namespace Go.Proofs.Ytmnmlhbmhfhgaaa.Au
set_option linter.unusedVariables false
set_option maxRecDepth 100000
open Go.ChangeShapes Go.WideShapes Go.ChangeAt Go.RowKit
open Ref23 (encR aggR)
theorem opens_rec : Opens Try.prog 23 fun W cs => ∃ r : RecP, cs = encR r :=
  ((((((((((opens_field Try.underlying23 0 _ rfl 9 1 (by kernel_rfl) (by kernel_rfl) (opens_int Try.underlying3)).and (opens_field Try.underlying23 1 _ rfl 9 1 (by kernel_rfl) (by kernel_rfl) (opens_int Try.underlying3))).and (opens_field Try.underlying23 2 _ rfl 9 1 (by kernel_rfl) (by kernel_rfl) (opens_int Try.underlying3))).and (opens_field Try.underlying23 3 _ rfl 9 1 (by kernel_rfl) (by kernel_rfl) (opens_int Try.underlying3))).and (opens_field Try.underlying23 4 _ rfl 9 1 (by kernel_rfl) (by kernel_rfl) (opens_int Try.underlying3))).and (opens_field Try.underlying23 5 _ rfl 9 1 (by kernel_rfl) (by kernel_rfl) (opens_int Try.underlying3))).and (opens_field Try.underlying23 6 _ rfl 9 1 (by kernel_rfl) (by kernel_rfl) (opens_int Try.underlying3))).and (opens_field Try.underlying23 7 _ rfl 9 1 (by kernel_rfl) (by kernel_rfl) (opens_int Try.underlying3))).and (opens_field Try.underlying23 8 _ rfl 9 1 (by kernel_rfl) (by kernel_rfl) (opens_int Try.underlying3)))).mono
  fun W cs ⟨⟨⟨⟨⟨⟨⟨⟨⟨hl, x0, e0, w0⟩, _, x1, e1, w1⟩, _, x2, e2, w2⟩, _, x3, e3, w3⟩, _, x4, e4, w4⟩, _, x5, e5, w5⟩, _, x6, e6, w6⟩, _, x7, e7, w7⟩, _, x8, e8, w8⟩ => by
    match cs, hl with
    | [d0, d1, d2, d3, d4, d5, d6, d7, d8], _ =>
      simp at e0 e1 e2 e3 e4 e5 e6 e7 e8
      subst e0 e1 e2 e3 e4 e5 e6 e7 e8
      exact ⟨⟨x0, x1, x2, x3, x4, x5, x6, x7, x8⟩, rfl⟩
/-- A slice of records, as it comes in. -/
def RecsIn (W : World) (A : Option Addr) (n : Nat) (zs : List RecP) : Prop := Row encR 9 W W.heap.size A n zs
theorem opens_recs : Opens Try.prog 29 fun W cs => ∃ A n c zs, cs = [.slice A n c] ∧ n ≤ c ∧ c ≤ maxLen ∧ RecsIn W A n zs :=
  (opens_slice Try.underlying29 (show Try.prog.cellsOf 23 = 9 by kernel_rfl) (by omega) opens_rec).mono fun W cs ⟨A, n, c, hcs, hn, hc, hE⟩ => by
    rcases Nat.eq_zero_or_pos n with rfl | hp
    · exact ⟨A, 0, c, [], hcs, hn, hc, Row.none_ _ _ _⟩
    · obtain ⟨b, off, hA, hb, hE⟩ := hE hp
      obtain ⟨zs, hl, hzs⟩ := choose_list n (fun j (p : RecP) => ∀ i v, (encR p)[i]? = some v → W.cell? ⟨b, off + j * 9 + i, none⟩ = some v) (fun j hj => by
        obtain ⟨es, hl, hc, p, rfl⟩ := hE j hj
        refine ⟨p, fun i v hv => ?_⟩
        have hi : i < 9 := by
          have := (List.getElem?_eq_some_iff.1 hv).1
          simpa [encR] using this
        rw [hc i hi]; exact hv)
      exact ⟨A, n, c, zs, hcs, hn, hc, hl, fun _ => ⟨b, off, hA, hb, fun j hj i v hv => hzs j _ (List.getElem?_eq_getElem hj) i v hv⟩⟩
end Go.Proofs.Ytmnmlhbmhfhgaaa.Au
