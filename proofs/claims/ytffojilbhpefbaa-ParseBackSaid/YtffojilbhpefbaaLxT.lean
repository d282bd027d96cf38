/- Layer 10's reference: Same. Conditions: a million tokens at most. -/
import Derived.Test.YtffojilbhpefbaaLxS
namespace Go.Proofs.Ytffojilbhpefbaa.Ref10
set_option linter.unusedVariables false
open Go.ChangeShapes Go.WideShapes Go.ChangeAt Go.RowKit
/-- Two tokens that are one. -/
def oneT (a b : TokP) : Bool := a.kind == b.kind && (decide (a.text = b.text) && (a.num == b.num && a.line == b.line))
theorem eqT (a b : TokP) (w : World) : (Op.equalIn 10000 49 (.agg #[.int .i64 a.kind, .string a.text, .int .i64 a.num, .int .i64 a.line]) (.agg #[.int .i64 b.kind, .string b.text, .int .i64 b.num, .int .i64 b.line])).run Try.prog w = .ok (oneT a b) w := by
  have u3 := Try.underlying3
  have a3 := Try.isAgg3
  have z3 := Try.sizeOf3
  have u9 := Try.underlying9
  have a9 := Try.isAgg9
  have z9 := Try.sizeOf9
  have hS : Try.prog.underlying 49 = some (.struct (Try.prog.fieldsOf 49)) := by kernel_rfl
  have hp : Try.prog.stoodInHeld 49 = false := by kernel_rfl
  rw [show (10000 : Nat) = 9999 + 1 from rfl, run_equalIn_agg w 9999 49 _ _ hS hp]
  simp only [Program.fieldsOf, Try.underlying49]
  unfold oneT
  cases h1 : (a.kind == b.kind)
  · go_simp
  · by_cases h2 : a.text = b.text
    · cases h3 : (a.num == b.num) <;> cases h4 : (a.line == b.line) <;> (go_simp; try simp [h2, h3, h4])
    · have h3 : ¬ a.text.toList = b.text.toList := fun e => h2 (by rw [← st_bl a.text, ← st_bl b.text, ← Str.toList_eq, ← Str.toList_eq, e])
      go_simp
theorem guardT : Try.prog.eqGuardType Try.prog.depth 49 = false := by kernel_rfl
theorem oneT_iff (a b : TokP) : oneT a b = true ↔ a = b := by
  obtain ⟨a1, a2, a3, a4⟩ := a
  obtain ⟨b1, b2, b3, b4⟩ := b
  simp [oneT]
/-- Tokens that are the same, one by one. -/
def sameT : List TokP → List TokP → Bool
  | [], [] => true
  | a :: l, b :: m => oneT a b && sameT l m
  | _, _ => false
theorem sameT_len : ∀ l m : List TokP, l.length ≠ m.length → sameT l m = false
  | [], [], h => absurd rfl h
  | [], b :: m, _ => rfl
  | a :: l, [], _ => rfl
  | a :: l, b :: m, h => by rw [sameT, sameT_len l m (by simpa using h), Bool.and_false]
theorem sameT_at (z : TokP) : ∀ (l m : List TokP) (k : Nat), l.length = m.length → k < l.length → sameT (l.drop k) (m.drop k) = (oneT (l.getD k z) (m.getD k z) && sameT (l.drop (k + 1)) (m.drop (k + 1)))
  | a :: l, b :: m, 0, _, _ => rfl
  | a :: l, b :: m, k + 1, h, hk => sameT_at z l m k (by simpa using h) (by simpa using hk)
theorem sameT_self (l : List TokP) : sameT l l = true := by
  induction l with
  | nil => rfl
  | cons a l ih => rw [sameT, ih, (oneT_iff a a).2 rfl]; rfl
theorem sameT_iff : ∀ l m : List TokP, sameT l m = true ↔ l = m
  | [], [] => by simp [sameT]
  | [], b :: m => by simp [sameT]
  | a :: l, [] => by simp [sameT]
  | a :: l, b :: m => by rw [sameT, Bool.and_eq_true, oneT_iff, sameT_iff l m]; simp
theorem row_tok {w : World} {B n b off : Nat} {zs : List TokP} (h : Row encT 4 w B (some ⟨b, off, none⟩) n zs) (j : Nat) (hj : j < n) :
    b < B ∧ w.cell? ⟨b, off + j * 4, none⟩ = some (.int .i64 (zs.getD j Lx.none_).kind) ∧ w.cell? ⟨b, off + j * 4 + 1, none⟩ = some (.string (zs.getD j Lx.none_).text) ∧ w.cell? ⟨b, off + j * 4 + 2, none⟩ = some (.int .i64 (zs.getD j Lx.none_).num) ∧ w.cell? ⟨b, off + j * 4 + 3, none⟩ = some (.int .i64 (zs.getD j Lx.none_).line) := by
  obtain ⟨hb, hc⟩ := h.cells (by omega)
  have hl := h.1
  have hj' : j < zs.length := by omega
  have e : zs.getD j Lx.none_ = zs[j] := by rw [List.getD_eq_getElem?_getD, List.getElem?_eq_getElem hj']; rfl
  rw [e]
  exact ⟨hb, hc j hj' 0 _ rfl, hc j hj' 1 _ rfl, hc j hj' 2 _ rfl, hc j hj' 3 _ rfl⟩
end Go.Proofs.Ytffojilbhpefbaa.Ref10
