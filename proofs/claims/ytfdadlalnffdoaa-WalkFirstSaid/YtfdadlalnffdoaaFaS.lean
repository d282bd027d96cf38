/- Layer 14's reference: Floats, Same, Of. Conditions: at most a million floats, spans, values. -/
import Derived.Test.YtfdadlalnffdoaaFaR
import Derived.Test.YtfdadlalnffdoaaKept
namespace Go.Proofs.Ytfdadlalnffdoaa.Fa
set_option linter.unusedVariables false
open Go.ChangeShapes Go.WideShapes Go.ChangeAt Go.RowKit
open Re (okL ofB)
open Fp (IsN sameB)
theorem floats_len : ∀ l m : List Nat, l.length ≠ m.length → floats l m = false
  | [], [], h => absurd rfl h
  | [], b :: m, _ => rfl
  | a :: l, [], _ => rfl
  | a :: l, b :: m, h => by rw [floats, floats_len l m (by simpa using h), Bool.and_false]
theorem floats_at : ∀ (l m : List Nat) (k : Nat), l.length = m.length → k < l.length → floats (l.drop k) (m.drop k) = (sameB (l.getD k 0) (m.getD k 0) && floats (l.drop (k + 1)) (m.drop (k + 1)))
  | a :: l, b :: m, 0, _, _ => rfl
  | a :: l, b :: m, k + 1, h, hk => floats_at l m k (by simpa using h) (by simpa using hk)
theorem row_float {w : World} {B n b off : Nat} {zs : List Nat} (h : Row encFl 1 w B (some ⟨b, off, none⟩) n zs) (j : Nat) (hj : j < n) : b < B ∧ w.cell? ⟨b, off + j, none⟩ = some (.float .f64 (zs.getD j 0)) := by
  obtain ⟨hb, hc⟩ := h.cells (by omega)
  have hl := h.1
  have hj' : j < zs.length := by omega
  have e : zs.getD j 0 = zs[j] := by rw [List.getD_eq_getElem?_getD, List.getElem?_eq_getElem hj']; rfl
  rw [e]
  have := hc j hj' 0 _ rfl
  rw [Nat.mul_one, Nat.add_zero] at this
  exact ⟨hb, this⟩
theorem mem64 {xs : List Nat} (h : ∀ x ∈ xs, x < 18446744073709551616) (k : Nat) : xs.getD k 0 < 18446744073709551616 := by
  rw [List.getD_eq_getElem?_getD]
  cases hx : xs[k]? with
  | none => decide
  | some x => exact h x (List.mem_of_getElem? hx)
/-- Facts whose slices lie there. -/
def FaAt (W : World) (f : FactsP) (SA VA RA : Option Addr) : Prop :=
  Row encP 2 W W.heap.size SA f.sp.length f.sp ∧ Ints .i64 W W.heap.size VA f.vs.length f.vs ∧ Ints .i64 W W.heap.size RA f.rg.length f.rg
theorem FaAt.kept {W W' : World} {f : FactsP} {SA VA RA : Option Addr} (h : FaAt W f SA VA RA) (hk : Keep W W') : FaAt W' f SA VA RA := ⟨h.1.kept hk, h.2.1.kept hk, h.2.2.kept hk⟩
def few (f : FactsP) : Prop := f.sp.length ≤ 1000000 ∧ f.vs.length ≤ 1000000 ∧ f.rg.length ≤ 1000000
end Go.Proofs.Ytfdadlalnffdoaa.Fa
