/- What expressions mean for facts, and the first rule that holds, in plain words. Conditions: none. -/
import Derived.Test.YtdkeibgfehblaaaGreatDoorTrA
import Derived.Test.YtdkeibgfehblaaaGreatDoorFaA
import Derived.Test.YtdkeibgfehblaaaGreatDoorSpA
namespace Go.Proofs.YtdkeibgfehblaaaGreatDoor.Me
set_option linter.unusedVariables false
open Go.RowKit
open Tr (kind field rs lo hi of)
def le (a b : Nat) : Bool := FloatKind.f64.format.order a b == some Ordering.lt || FloatKind.f64.format.order a b == some Ordering.eq
def within (x low high : Nat) : Bool := le low x && le x high
def real (x : FactsP) (l h : Nat) : Bool := match Fa.reals x.rg with
  | none => false
  | some bs => bs.all fun b => within b l h
/-- Does an atom hold? -/
noncomputable def atom (f : Int) (r : List (Int × Int)) (l h : Nat) (x : FactsP) : Bool :=
  if f = 1 then Sp.has r x.cl else if f = 2 then Sp.has r x.un else if f = 3 then Sp.has r x.fc
  else if f = 4 then x.sp.all fun p => Sp.covers (Sp.norm r) p else if f = 5 then x.vs.all fun v => Sp.has r v else real x l h
mutual
noncomputable def holds (x : FactsP) : ExprP → Bool
  | .mk k f r l h o => if k = 1 then atom f r l h x else if k = 2 then notL x o else if k = 3 then allL x o else if k = 4 then anyL x o else true
noncomputable def notL (x : FactsP) : List ExprP → Bool
  | [] => true
  | e :: _ => !(holds x e)
noncomputable def allL (x : FactsP) : List ExprP → Bool
  | [] => true
  | e :: l => holds x e && allL x l
noncomputable def anyL (x : FactsP) : List ExprP → Bool
  | [] => false
  | e :: l => holds x e || anyL x l
end
theorem allL_all (x : FactsP) (l : List ExprP) : allL x l = l.all (holds x) := by
  induction l with
  | nil => rfl
  | cons e l ih => rw [allL, List.all_cons, ih]
theorem anyL_any (x : FactsP) (l : List ExprP) : anyL x l = l.any (holds x) := by
  induction l with
  | nil => rfl
  | cons e l ih => rw [anyL, List.any_cons, ih]
/-- The place of the first rule that holds. -/
noncomputable def firstF (x : FactsP) : List RuleP → Int → Int
  | [], _ => -1
  | r :: l, i => if holds x r.when_ then i else firstF x l (i + 1)
noncomputable def first (x : FactsP) (l : List RuleP) : Int := firstF x l 0
theorem firstF_range (x : FactsP) : ∀ (l : List RuleP) (i : Int), firstF x l i = -1 ∨ (i ≤ firstF x l i ∧ firstF x l i < i + l.length)
  | [], i => .inl rfl
  | r :: l, i => by
    rw [firstF]
    split
    · right; rw [List.length_cons]; omega
    · rcases firstF_range x l (i + 1) with h | h
      · exact .inl h
      · right; rw [List.length_cons]; omega
/-- What the first rule is. -/
theorem firstF_is (x : FactsP) (z : RuleP) : ∀ (l : List RuleP) (i : Int) (k : Nat), 0 ≤ i → k < l.length → (holds x (l.getD k z).when_ = true → firstF x l i ≠ -1 ∧ firstF x l i ≤ i + k) ∧ (firstF x l i = i + k → holds x (l.getD k z).when_ = true)
  | [], i, k, _, h => absurd h (by simp)
  | r :: l, i, 0, hi, h => by
    rw [firstF]
    show (holds x r.when_ = true → _) ∧ (_ → holds x r.when_ = true)
    by_cases hr : holds x r.when_ = true
    · rw [if_pos hr]
      exact ⟨fun _ => by omega, fun _ => hr⟩
    · rw [if_neg hr]
      refine ⟨fun h => absurd h hr, fun he => ?_⟩
      rcases firstF_range x l (i + 1) with h' | h' <;> omega
  | r :: l, i, k + 1, hi, h => by
    rw [firstF]
    have ih := firstF_is x z l (i + 1) k (by omega) (by simpa using h)
    show (holds x (l.getD k z).when_ = true → _) ∧ (_ → holds x (l.getD k z).when_ = true)
    by_cases hr : holds x r.when_ = true
    · rw [if_pos hr]
      exact ⟨fun _ => by omega, fun he => by omega⟩
    · rw [if_neg hr]
      refine ⟨fun h => ?_, fun he => ih.2 (by omega)⟩
      have := ih.1 h
      omega
theorem firstF_app (x : FactsP) (r : RuleP) : ∀ (l : List RuleP) (i : Int), 0 ≤ i → holds x r.when_ = true → firstF x (l ++ [r]) i = if firstF x l i = -1 then i + l.length else firstF x l i
  | [], i, hi, hr => by
    simp [firstF, hr]
  | a :: l, i, hi, hr => by
    rw [List.cons_append, firstF, firstF]
    by_cases ha : holds x a.when_ = true
    · rw [if_pos ha, if_pos ha, if_neg (by omega)]
    · rw [if_neg ha, if_neg ha, firstF_app x r l (i + 1) (by omega) hr, List.length_cons]
      split <;> omega
theorem holds_zero (x : FactsP) : holds x Tr.zero = true := by
  unfold Tr.zero
  rw [holds, if_neg (by decide), if_neg (by decide), if_neg (by decide), if_neg (by decide)]
theorem holds_not (x : FactsP) (e : ExprP) (f : Int) (r : List (Int × Int)) (l h : Nat) : holds x (.mk 2 f r l h [e]) = !(holds x e) := by
  rw [holds, if_neg (by decide), if_pos rfl, notL]
theorem holds_and (x : FactsP) (o : List ExprP) (f : Int) (r : List (Int × Int)) (l h : Nat) : holds x (.mk 3 f r l h o) = o.all (holds x) := by
  rw [holds, if_neg (by decide), if_neg (by decide), if_pos rfl, allL_all]
theorem holds_or (x : FactsP) (o : List ExprP) (f : Int) (r : List (Int × Int)) (l h : Nat) : holds x (.mk 4 f r l h o) = o.any (holds x) := by
  rw [holds, if_neg (by decide), if_neg (by decide), if_neg (by decide), if_pos rfl, anyL_any]
/-- The order does not count. -/
theorem turned (x : FactsP) (o : List ExprP) (k : Nat) (c : Int) (hc : c = 3 ∨ c = 4) : holds x (.mk c 0 [] 0 0 (o.drop k ++ o.take k)) = holds x (.mk c 0 [] 0 0 o) := by
  rcases hc with rfl | rfl
  · rw [holds_and, holds_and, List.all_append, Bool.and_comm, ← List.all_append, List.take_append_drop]
  · rw [holds_or, holds_or, List.any_append, Bool.or_comm, ← List.any_append, List.take_append_drop]
end Go.Proofs.YtdkeibgfehblaaaGreatDoor.Me
