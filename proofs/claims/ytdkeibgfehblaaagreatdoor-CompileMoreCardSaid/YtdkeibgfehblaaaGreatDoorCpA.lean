/- Rules laid as a tree, in plain words. Conditions: none. -/
import Derived.Test.YtdkeibgfehblaaaGreatDoorTrA
import Derived.Test.YtdkeibgfehblaaaGreatDoorSpA
namespace Go.Proofs.YtdkeibgfehblaaaGreatDoor
structure NodeP where
  leaf : Bool
  rule : Int
  atom : ExprP
  yes : Int
  no : Int
namespace Cp
set_option linter.unusedVariables false
open Go.RowKit
open Tr (kind field rs lo hi of zero)
def leafP (i : Int) : NodeP := ⟨true, i, zero, 0, 0⟩
noncomputable def testP (f : Int) (r : List (Int × Int)) (l h : Nat) (y n : Int) : NodeP := ⟨false, 0, .mk 1 f (Sp.norm r) l h [], y, n⟩
mutual
/-- An expression behind what is laid: all nodes, and where it begins. -/
noncomputable def lay (t : List NodeP) : ExprP → Int → Int → List NodeP × Int
  | .mk k f r l h o, y, n => if k = 1 then (t ++ [testP f r l h y n], t.length) else if k = 2 then layN t o y n else if k = 3 then layA t o y n else if k = 4 then layO t o y n else (t, y)
noncomputable def layN (t : List NodeP) : List ExprP → Int → Int → List NodeP × Int
  | [], y, n => (t, y)
  | e :: _, y, n => lay t e n y
noncomputable def layA (t : List NodeP) : List ExprP → Int → Int → List NodeP × Int
  | [], y, n => (t, y)
  | e :: l, y, n => lay (layA t l y n).1 e (layA t l y n).2 n
noncomputable def layO (t : List NodeP) : List ExprP → Int → Int → List NodeP × Int
  | [], y, n => (t, n)
  | e :: l, y, n => lay (layO t l y n).1 e y (layO t l y n).2
end
/-- Rules from the last one on; the first one's place is i. -/
noncomputable def rulesF : List RuleP → Int → List NodeP × Int
  | [], i => ([leafP (-1)], 0)
  | r :: l, i => lay ((rulesF l (i + 1)).1 ++ [leafP i]) r.when_ (rulesF l (i + 1)).1.length (rulesF l (i + 1)).2
noncomputable def rules (l : List RuleP) : List NodeP := (rulesF l 0).1
mutual
theorem lay_pre : ∀ (e : ExprP) (t : List NodeP) (y n : Int), t <+: (lay t e y n).1
  | .mk k f r l h o, t, y, n => by
    rw [lay]
    split
    · exact ⟨_, rfl⟩
    split
    · exact layN_pre o t y n
    split
    · exact layA_pre o t y n
    split
    · exact layO_pre o t y n
    · exact List.prefix_refl _
theorem layN_pre : ∀ (o : List ExprP) (t : List NodeP) (y n : Int), t <+: (layN t o y n).1
  | [], t, y, n => by rw [layN]; exact List.prefix_refl _
  | e :: _, t, y, n => by rw [layN]; exact lay_pre e t n y
theorem layA_pre : ∀ (o : List ExprP) (t : List NodeP) (y n : Int), t <+: (layA t o y n).1
  | [], t, y, n => by rw [layA]; exact List.prefix_refl _
  | e :: l, t, y, n => by rw [layA]; exact (layA_pre l t y n).trans (lay_pre e _ _ _)
theorem layO_pre : ∀ (o : List ExprP) (t : List NodeP) (y n : Int), t <+: (layO t o y n).1
  | [], t, y, n => by rw [layO]; exact List.prefix_refl _
  | e :: l, t, y, n => by rw [layO]; exact (layO_pre l t y n).trans (lay_pre e _ _ _)
end
/-- A node whose rule is told k places on. -/
def shift (k : Int) (x : NodeP) : NodeP := if x.leaf = true ∧ 0 ≤ x.rule then { x with rule := x.rule + k } else x
mutual
theorem lay_map (k : Int) : ∀ (e : ExprP) (t : List NodeP) (y n : Int), lay (t.map (shift k)) e y n = ((lay t e y n).1.map (shift k), (lay t e y n).2)
  | .mk k' f r l h o, t, y, n => by
    rw [lay, lay]
    split
    · simp [testP, shift]
    split
    · exact layN_map k o t y n
    split
    · exact layA_map k o t y n
    split
    · exact layO_map k o t y n
    · rfl
theorem layN_map (k : Int) : ∀ (o : List ExprP) (t : List NodeP) (y n : Int), layN (t.map (shift k)) o y n = ((layN t o y n).1.map (shift k), (layN t o y n).2)
  | [], t, y, n => by rw [layN, layN]
  | e :: _, t, y, n => by rw [layN, layN]; exact lay_map k e t n y
theorem layA_map (k : Int) : ∀ (o : List ExprP) (t : List NodeP) (y n : Int), layA (t.map (shift k)) o y n = ((layA t o y n).1.map (shift k), (layA t o y n).2)
  | [], t, y, n => by rw [layA, layA]
  | e :: l, t, y, n => by rw [layA, layA, layA_map k l t y n]; exact lay_map k e _ _ _
theorem layO_map (k : Int) : ∀ (o : List ExprP) (t : List NodeP) (y n : Int), layO (t.map (shift k)) o y n = ((layO t o y n).1.map (shift k), (layO t o y n).2)
  | [], t, y, n => by rw [layO, layO]
  | e :: l, t, y, n => by rw [layO, layO, layO_map k l t y n]; exact lay_map k e _ _ _
end
theorem rulesF_shift (k : Int) (hk : 0 ≤ k) : ∀ (l : List RuleP) (i : Int), 0 ≤ i → rulesF l (i + k) = ((rulesF l i).1.map (shift k), (rulesF l i).2)
  | [], i, hi => by simp [rulesF, leafP, shift]
  | r :: l, i, hi => by
    have ih := rulesF_shift k hk l (i + 1) (by omega)
    rw [rulesF, rulesF, show i + k + 1 = i + 1 + k by omega, ih, ← lay_map]
    simp [leafP, shift, hi]
theorem rulesF_pre : ∀ (a b : List RuleP) (i : Int), (rulesF b (i + a.length)).1 <+: (rulesF (a ++ b) i).1
  | [], b, i => by simp
  | r :: a, b, i => by
    rw [List.cons_append, rulesF]
    have := rulesF_pre a b (i + 1)
    rw [show i + 1 + (a.length : Int) = i + ((r :: a).length : Nat) by simp; omega] at this
    exact (this.trans (List.prefix_append _ _)).trans (lay_pre _ _ _ _)
/-- Rules put ahead of others leave these' tree as it was, but for the rules' places. -/
theorem rules_more (a b : List RuleP) : (rules b).map (shift a.length) <+: rules (a ++ b) := by
  have h := rulesF_pre a b 0
  rw [rulesF_shift a.length (by omega) b 0 (by omega)] at h
  exact h
def sameN (x y : NodeP) : Bool := x.leaf == y.leaf && x.rule == y.rule && x.yes == y.yes && x.no == y.no && Tr.same x.atom y.atom
def bare (x : NodeP) : Bool := decide (-1 ≤ x.rule) && x.yes == 0 && x.no == 0 && Tr.same x.atom zero
def test (x : NodeP) (i : Int) : Bool := !x.leaf && x.rule == 0 && decide (0 ≤ x.yes) && decide (x.yes < i) && decide (0 ≤ x.no) && decide (x.no < i) && kind x.atom == 1 && Tr.right x.atom
def rightF : List NodeP → Int → Bool
  | [], _ => true
  | x :: l, i => (if x.leaf then bare x else test x i) && rightF l (i + 1)
def right (l : List NodeP) : Bool := rightF l 0 && !l.isEmpty
end Cp
end Go.Proofs.YtdkeibgfehblaaaGreatDoor
