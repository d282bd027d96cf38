/- Expressions and rules in plain words: which may be, which are the same, how many atoms, how deep, their texts. Conditions: none. -/
import Derived.Test.YtdkeibgfehblaaaGreatDoorReU
/-- An expression. -/
inductive Go.Proofs.YtdkeibgfehblaaaGreatDoor.ExprP where
  | mk (kind field : Int) (rs : List (Int × Int)) (lo hi : Nat) (of : List Go.Proofs.YtdkeibgfehblaaaGreatDoor.ExprP) : Go.Proofs.YtdkeibgfehblaaaGreatDoor.ExprP
/-- A rule: allow, when, rate (num, per, burst), line. -/
structure Go.Proofs.YtdkeibgfehblaaaGreatDoor.RuleP where
  allow : Bool
  when_ : Go.Proofs.YtdkeibgfehblaaaGreatDoor.ExprP
  num : Int
  per : Int
  burst : Int
  line : Int
namespace Go.Proofs.YtdkeibgfehblaaaGreatDoor.Tr
set_option linter.unusedVariables false
open Go.RowKit
open Go.Proofs.YtdkeibgfehblaaaGreatDoor.Fp (sameB)
open Go.Proofs.YtdkeibgfehblaaaGreatDoor.Re (tOk tL)
def kind : ExprP → Int | .mk k _ _ _ _ _ => k
def field : ExprP → Int | .mk _ f _ _ _ _ => f
def rs : ExprP → List (Int × Int) | .mk _ _ r _ _ _ => r
def lo : ExprP → Nat | .mk _ _ _ l _ _ => l
def hi : ExprP → Nat | .mk _ _ _ _ h _ => h
def of : ExprP → List ExprP | .mk _ _ _ _ _ o => o
theorem eta (e : ExprP) : e = .mk (kind e) (field e) (rs e) (lo e) (hi e) (of e) := by cases e; rfl
def zero : ExprP := .mk 0 0 [] 0 0 []

mutual
def dp : ExprP → Nat
  | .mk _ _ _ _ _ o => dpL o + 1
def dpL : List ExprP → Nat
  | [] => 0
  | e :: l => max (dp e) (dpL l)
end
theorem dpL_mem : ∀ (l : List ExprP) (e : ExprP), e ∈ l → dp e ≤ dpL l
  | [], e, h => by cases h
  | a :: l, e, h => by
    rw [dpL]
    rcases List.mem_cons.1 h with rfl | h
    · exact Nat.le_max_left _ _
    · exact Nat.le_trans (dpL_mem l e h) (Nat.le_max_right _ _)
theorem dp_of {x e : ExprP} (h : x ∈ of e) : dp x < dp e := by
  have := dpL_mem _ _ h
  obtain ⟨k, f, r, l, h', o⟩ := e
  rw [dp]
  exact Nat.lt_succ_of_le this
theorem dp_pos (e : ExprP) : 0 < dp e := by cases e; rw [dp]; omega
def numR (z : Int) : Bool := Gu.inR z
def plain (b : Nat) : Bool := sameB b 0
def rangesR (r : List (Int × Int)) : Bool := r.all fun p => numR p.1 && numR p.2
def atomR (f : Int) (r : List (Int × Int)) (l h n : Nat) : Bool :=
  n == 0 && (decide (1 ≤ f) && (decide (f ≤ 6) && (if f = 6 then r.length == 0 && (tOk l && tOk h) else rangesR r && (!(r.length == 0) && (plain l && plain h)))))
/-- How many it may be of, by its kind. -/
def manyR (k : Int) (n : Nat) : Bool := if k = 0 then n == 0 else if k = 2 then n == 1 else if k = 3 ∨ k = 4 then decide (2 ≤ n) else false
mutual
def right : ExprP → Bool
  | .mk k f r l h o => if k = 1 then atomR f r l h o.length else (f == 0 && (r.length == 0 && (plain l && plain h))) && (manyR k o.length && rightL o)
def rightL : List ExprP → Bool
  | [] => true
  | e :: l => (!(kind e == 0) && right e) && rightL l
end
mutual
def same : ExprP → ExprP → Bool
  | .mk k f r l h o, .mk k' f' r' l' h' o' => k == k' && (f == f' && (decide (r = r') && (sameB l l' && (sameB h h' && sameL o o'))))
def sameL : List ExprP → List ExprP → Bool
  | [], [] => true
  | a :: l, b :: m => same a b && sameL l m
  | [], _ :: _ => false
  | _ :: _, [] => false
end
def inner (k : Int) : Bool := decide (2 ≤ k) && decide (k ≤ 4)
mutual
def atoms : ExprP → Nat
  | .mk k _ _ _ _ o => if k = 1 then 1 else if inner k then atomsL o else 0
def atomsL : List ExprP → Nat
  | [] => 0
  | e :: l => atoms e + atomsL l
end
mutual
def deep : ExprP → Nat
  | .mk k _ _ _ _ o => if inner k then max (deepL o) 1 else 0
def deepL : List ExprP → Nat
  | [] => 0
  | e :: l => max (deep e + 1) (deepL l)
end
mutual
def small : ExprP → Int → Bool
  | .mk _ _ r _ _ o, d => decide (0 ≤ d) && (decide (o.length ≤ 6) && (decide (r.length ≤ 8) && smallL o (d - 1)))
def smallL : List ExprP → Int → Bool
  | [], _ => true
  | e :: l, d => small e d && smallL l d
end
/-- Words. -/
def wAnd : List UInt8 := [32, 97, 110, 100, 32]
def wOr : List UInt8 := [32, 111, 114, 32]
def wNot : List UInt8 := [110, 111, 116, 32]
def wReal : List UInt8 := [114, 101, 97, 108, 32]
def wTo : List UInt8 := [32, 116, 111, 32]
def word (f : Int) : List UInt8 :=
  if f = 1 then [99, 108, 105, 101, 110, 116] else if f = 2 then [117, 110, 105, 116] else if f = 3 then [102, 117, 110, 99] else if f = 4 then [97, 100, 100, 114] else if f = 5 then [118, 97, 108, 117, 101] else []
def range1 (p : Int × Int) : List UInt8 := if p.2 = p.1 then Gu.put p.1 else Gu.put p.1 ++ (45 :: Gu.put p.2)
/-- Ranges, with a comma between. -/
def rng : List (Int × Int) → List UInt8
  | [] => []
  | [p] => range1 p
  | p :: q :: l => range1 p ++ (44 :: rng (q :: l))
def brack (t : List UInt8) (m : Bool) : List UInt8 := if m then 40 :: (t ++ [41]) else t
def must (k x : Int) : Bool := x == 4 || (x == 3 && (k == 2 || k == 3))
def sep (k : Int) : List UInt8 := if k = 3 then wAnd else wOr
mutual
def txt : ExprP → List UInt8
  | .mk k f r l h o => if k = 1 then (if f = 6 then wReal ++ (tL l ++ (wTo ++ tL h)) else word f ++ (32 :: rng r)) else if k = 2 then wNot ++ txtL 2 o else txtL k o
def txtL : Int → List ExprP → List UInt8
  | _, [] => []
  | k, e :: l => brack (txt e) (must k (kind e)) ++ (if l.isEmpty then [] else sep k ++ txtL k l)
end
def wDeny : List UInt8 := [100, 101, 110, 121]
def wAllow : List UInt8 := [97, 108, 108, 111, 119]
def wWhen : List UInt8 := [32, 119, 104, 101, 110, 32]
def wRate : List UInt8 := [32, 114, 97, 116, 101, 32]
def wPer : List UInt8 := [32, 112, 101, 114, 32]
def wBurst : List UInt8 := [32, 98, 117, 114, 115, 116, 32]
def ruleR (r : RuleP) : Bool := right r.when_ && (numR r.num && (numR r.per && (numR r.burst && (!(r.per == 0) || (r.num == 0 && r.burst == 0)))))
def rtxt (r : RuleP) : List UInt8 :=
  (if r.allow then wAllow else wDeny) ++ ((if kind r.when_ = 0 then [] else wWhen ++ txt r.when_) ++ ((if r.per = 0 then [] else wRate ++ (Gu.put r.num ++ (wPer ++ (Gu.put r.per ++ (wBurst ++ Gu.put r.burst))))) ++ [59, 10]))
def textOk (l : List RuleP) : Bool := l.all ruleR
def textsL (l : List RuleP) : List UInt8 := l.flatMap rtxt
def text (l : List RuleP) : List UInt8 := if textOk l then textsL l else []
def rule1 (a b : RuleP) : Bool := (a.allow == b.allow) && ((a.num == b.num && (a.per == b.per && a.burst == b.burst)) && same a.when_ b.when_)
def rules : List RuleP → List RuleP → Bool
  | [], [] => true
  | a :: l, b :: m => rule1 a b && rules l m
  | _, _ => false
def few (l : List RuleP) (n : Nat) : Bool := decide (l.length ≤ n) && l.all fun r => small r.when_ 4

theorem rightL_all (l : List ExprP) : rightL l = l.all fun e => !(kind e == 0) && right e := by
  induction l with
  | nil => rfl
  | cons e l ih => rw [rightL, List.all_cons, ih]
theorem smallL_all (l : List ExprP) (d : Int) : smallL l d = l.all fun e => small e d := by
  induction l with
  | nil => rfl
  | cons e l ih => rw [smallL, List.all_cons, ih]
theorem atomsL_snoc (l : List ExprP) (e : ExprP) : atomsL (l ++ [e]) = atomsL l + atoms e := by
  induction l with
  | nil => simp [atomsL]
  | cons a l ih => rw [List.cons_append, atomsL, atomsL, ih]; omega
theorem deepL_snoc (l : List ExprP) (e : ExprP) : deepL (l ++ [e]) = max (deepL l) (deep e + 1) := by
  induction l with
  | nil => simp [deepL]
  | cons a l ih => rw [List.cons_append, deepL, deepL, ih]; omega
theorem sameL_len : ∀ l m : List ExprP, l.length ≠ m.length → sameL l m = false
  | [], [], h => absurd rfl h
  | [], b :: m, _ => by rw [sameL]
  | a :: l, [], _ => by rw [sameL]
  | a :: l, b :: m, h => by rw [sameL, sameL_len l m (by simpa using h), Bool.and_false]
theorem sameL_at (z : ExprP) : ∀ (l m : List ExprP) (k : Nat), l.length = m.length → k < l.length → sameL (l.drop k) (m.drop k) = (same (l.getD k z) (m.getD k z) && sameL (l.drop (k + 1)) (m.drop (k + 1)))
  | a :: l, b :: m, 0, _, _ => by
    show sameL (a :: l) (b :: m) = _
    rw [sameL]; rfl
  | a :: l, b :: m, k + 1, h, hk => sameL_at z l m k (by simpa using h) (by simpa using hk)
theorem take_snoc {α : Type} (z : α) (l : List α) (k : Nat) (h : k < l.length) : l.take (k + 1) = l.take k ++ [l.getD k z] := by
  rw [List.take_succ_eq_append_getElem h, List.getD_eq_getElem?_getD, List.getElem?_eq_getElem h]; rfl
theorem all_snoc {α : Type} (p : α → Bool) (z : α) (l : List α) (k : Nat) (h : k < l.length) : (l.take (k + 1)).all p = ((l.take k).all p && p (l.getD k z)) := by
  rw [take_snoc z l k h]; simp
theorem all_no {α : Type} (p : α → Bool) (z : α) (l : List α) (k : Nat) (h : k < l.length) (hp : p (l.getD k z) = false) : l.all p = false := by
  rw [List.all_eq_false]
  refine ⟨l[k], List.getElem_mem _, ?_⟩
  rw [List.getD_eq_getElem?_getD, List.getElem?_eq_getElem h] at hp
  simpa using hp
theorem getD_mem {α : Type} (z : α) (l : List α) (k : Nat) (h : k < l.length) : l.getD k z ∈ l := by
  rw [List.getD_eq_getElem?_getD, List.getElem?_eq_getElem h]; exact List.getElem_mem _
end Go.Proofs.YtdkeibgfehblaaaGreatDoor.Tr
