/- Groups of four numbers in plain words. Conditions: none. -/
import Derived.Test.YtnbjhcemonkhhaaFaA
namespace Go.Proofs.Ytnbjhcemonkhhaa.Fa
set_option linter.unusedVariables false
open Re (okL ofB)
/-- The group of four numbers at a place; it may be shorter at the end. -/
def grp (zs : List Int) (k : Nat) : List Int := (zs.drop (4 * k)).take 4
theorem grp_len (zs : List Int) (k : Nat) (h : 4 * k < zs.length) : (grp zs k).length = min 4 (zs.length - 4 * k) := by
  unfold grp
  rw [List.length_take, List.length_drop]
theorem grp_step (a b c d : Int) (l : List Int) (k : Nat) : grp (a :: b :: c :: d :: l) (k + 1) = grp l k := by
  unfold grp
  rw [show 4 * (k + 1) = 4 * k + 1 + 1 + 1 + 1 by omega]
  rfl
theorem okL_short (l : List Int) (h : l.length ≠ 4) : okL l = false := by
  unfold okL
  rw [decide_eq_false h, Bool.false_and]
theorem reals_bad : ∀ (zs : List Int) (k : Nat), 4 * k < zs.length → okL (grp zs k) = false → reals zs = none
  | a :: b :: c :: d :: l, 0, _, h => by
    rw [reals]
    have h' : okL [a, b, c, d] = false := h
    rw [h', if_neg (by decide)]
  | a :: b :: c :: d :: l, k + 1, hk, h => by
    rw [grp_step] at h
    rw [reals, reals_bad l k (by simp at hk; omega) h]
    split <;> rfl
  | [], k, hk, _ => absurd hk (by simp)
  | [a], _, _, _ => rfl
  | [a, b], _, _, _ => rfl
  | [a, b, c], _, _, _ => rfl
theorem reals_all : ∀ (zs : List Int), (∀ k, 4 * k < zs.length → okL (grp zs k) = true) → reals zs = some ((List.range ((zs.length + 3) / 4)).map fun k => ofB (grp zs k))
  | [], _ => rfl
  | [a], h => by have := h 0 (by simp); rw [okL_short _ (by simp [grp])] at this; cases this
  | [a, b], h => by have := h 0 (by simp); rw [okL_short _ (by simp [grp])] at this; cases this
  | [a, b, c], h => by have := h 0 (by simp); rw [okL_short _ (by simp [grp])] at this; cases this
  | a :: b :: c :: d :: l, h => by
    have h0 : okL [a, b, c, d] = true := h 0 (by simp)
    have ih := reals_all l (fun k hk => by have := h (k + 1) (by simp; omega); rwa [grp_step] at this)
    rw [reals, if_pos h0, ih]
    have e : (l.length + 1 + 1 + 1 + 1 + 3) / 4 = (l.length + 3) / 4 + 1 := by omega
    simp only [List.length_cons, e, List.range_succ_eq_map, List.map_cons, List.map_map, Option.map_some]
    rfl
end Go.Proofs.Ytnbjhcemonkhhaa.Fa
