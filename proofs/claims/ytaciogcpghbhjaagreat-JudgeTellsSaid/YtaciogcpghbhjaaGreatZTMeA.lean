/- Of these texts: MeA. Conditions: as each part says. -/
import Derived.Test.YtaciogcpghbhjaaGreatZTReU
import Derived.Test.YtaciogcpghbhjaaGreatZTFaA
import Derived.Test.YtaciogcpghbhjaaGreatZTSpA
/- What expressions mean for facts, and the first rule that holds, in plain words. Conditions: none. -/
namespace Go.Proofs.YtaciogcpghbhjaaGreat.Me
set_option linter.unusedVariables false
open Go.RowKit
open Tr (kind field rs lo hi of)
def le (a b : Nat) : Bool := FloatKind.f64.format.order a b == some Ordering.lt || FloatKind.f64.format.order a b == some Ordering.eq
def within (x low high : Nat) : Bool := le low x && le x high
def real (x : FactsP) (l h : Nat) : Bool := match Fa.reals x.rg with
 | none => false
 | some bs => bs.all fun b => within b l h
noncomputable def atom (f : Int) (r : List (Int × Int)) (l h : Nat) (x : FactsP) : Bool :=
 if f = 1 then Sp.has r x.cl else if f = 2 then Sp.has r x.un else if f = 3 then Sp.has r x.fc
 else if f = 4 then x.sp.all fun p => Sp.covers (Sp.norm r) p else if f = 5 then x.vs.all fun v => Sp.has r v else real x l h
mutual
noncomputable def holds (x : FactsP) : ExprP -> Bool
 | .mk k f r l h o => if k = 1 then atom f r l h x else if k = 2 then notL x o else if k = 3 then allL x o else if k = 4 then anyL x o else true
noncomputable def notL (x : FactsP) : List ExprP -> Bool
 | [] => true
 | e :: _ => !(holds x e)
noncomputable def allL (x : FactsP) : List ExprP -> Bool
 | [] => true
 | e :: l => holds x e && allL x l
noncomputable def anyL (x : FactsP) : List ExprP -> Bool
 | [] => false
 | e :: l => holds x e || anyL x l
end
theorem allL_all (x : FactsP) (l : List ExprP) : allL x l = l.all (holds x) := by
 induction l with
 | nil => rfl
 | cons e l ih => rw [allL, List.all_cons, ih]
theorem anyL_any (x : FactsP) (l : List ExprP) : anyL x l = l.any (holds x) := by
 induction l with
 | nil => rfl
 | cons e l ih => rw [anyL, List.any_cons, ih]
noncomputable def firstF (x : FactsP) : List RuleP -> Int -> Int
 | [], _ => -1
 | r :: l, i => if holds x r.when_ then i else firstF x l (i + 1)
noncomputable def first (x : FactsP) (l : List RuleP) : Int := firstF x l 0
theorem holds_zero (x : FactsP) : holds x Tr.zero = true := by
 unfold Tr.zero
 rw [holds, if_neg (by decide), if_neg (by decide), if_neg (by decide), if_neg (by decide)]
theorem holds_not (x : FactsP) (e : ExprP) (f : Int) (r : List (Int × Int)) (l h : Nat) : holds x (.mk 2 f r l h [e]) = !(holds x e) := by
 rw [holds, if_neg (by decide), if_pos rfl, notL]
theorem holds_and (x : FactsP) (o : List ExprP) (f : Int) (r : List (Int × Int)) (l h : Nat) : holds x (.mk 3 f r l h o) = o.all (holds x) := by
 rw [holds, if_neg (by decide), if_neg (by decide), if_pos rfl, allL_all]
theorem holds_or (x : FactsP) (o : List ExprP) (f : Int) (r : List (Int × Int)) (l h : Nat) : holds x (.mk 4 f r l h o) = o.any (holds x) := by
 rw [holds, if_neg (by decide), if_neg (by decide), if_neg (by decide), if_pos rfl, anyL_any]
end Go.Proofs.YtaciogcpghbhjaaGreat.Me
