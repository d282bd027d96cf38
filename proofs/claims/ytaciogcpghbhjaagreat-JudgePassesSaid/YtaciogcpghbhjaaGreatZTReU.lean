/- Of these texts: ReU, TrA, CpA, PaD, PaI, ChA. Conditions: as each part says. -/
import Derived.Test.YtaciogcpghbhjaaGreatZTFp
import Derived.Test.YtaciogcpghbhjaaGreatZTGuA
import Derived.Test.YtaciogcpghbhjaaGreatZTSpA
/- Layer 3's texts in plain words, there and back. Conditions: none. -/
namespace Go.Proofs.YtaciogcpghbhjaaGreat.Re
open Go.Proofs.YtaciogcpghbhjaaGreat.Fp Go.RowKit
def negL (l : List UInt8) : Bool := l.head? == some 45
def restL (l : List UInt8) : List UInt8 := if negL l then l.tail else l
def wholeB (v : Nat) : Bool := decide (v / un * un = v) && decide (v <= t53)
def infL : List UInt8 := [105, 110, 102]
def sizeOk (v : Nat) : Bool := decide (v = top) || wholeB v
def sizeL (v : Nat) : List UInt8 := if v = top then infL else if wholeB v then Gu.put ((v / un : Nat) : Int) else []
def vOf (b : Nat) : Nat := val (b % 9223372036854775808)
def tOk (b : Nat) : Bool := !nanB b && sizeOk (vOf b)
def tL (b : Nat) : List UInt8 := if tOk b then (if signB b then 45 :: sizeL (vOf b) else sizeL (vOf b)) else []
def rOk (l : List UInt8) : Bool := decide (l = infL) || Gu.getOk l
def rV (l : List UInt8) : Nat := if l = infL then top else (Gu.getN l).toNat * un
def rdOk (l : List UInt8) : Bool := rOk (restL l)
def rdF (l : List UInt8) : Nat := if rdOk l then fl (negL l) (rV (restL l)) else 0
theorem fl_mod (s : Bool) {v : Nat} (h : Ex v) : fl s v % 9223372036854775808 = fl false v := by
 have := rg_le h.2
 unfold fl
 cases s <;> simp only [Bool.false_eq_true, if_true, if_false] <;> omega
theorem vOf_fl (s : Bool) {v : Nat} (h : Ex v) : vOf (fl s v) = v := by
 unfold vOf
 rw [fl_mod s h]
 exact val_rg h
theorem tOk_fl (s : Bool) {v : Nat} (h : Ex v) : tOk (fl s v) = sizeOk v := by unfold tOk; rw [nanB_fl h, vOf_fl s h]; rfl
theorem tL_fl (s : Bool) {v : Nat} (h : Ex v) : tL (fl s v) = if sizeOk v then (if s then 45 :: sizeL v else sizeL v) else [] := by
 unfold tL
 rw [tOk_fl s h, vOf_fl s h, signB_fl h]
theorem tOk_nan {b : Nat} (h : nanB b = true) : tOk b = false := by unfold tOk; rw [h]; rfl
theorem tL_no {b : Nat} (h : tOk b = false) : tL b = [] := by unfold tL; rw [h]; rfl
theorem sizeL_len (v : Nat) : (sizeL v).length <= 16 := by
 unfold sizeL
 split
 ·decide
 ·split
  ·exact Gu.put_len _
  ·exact Nat.zero_le _
theorem tL_len (b : Nat) : (tL b).length <= 17 := by
 unfold tL
 have := sizeL_len (vOf b)
 split
 ·split
  ·rw [List.length_cons]; omega
  ·omega
 ·exact Nat.zero_le _
end Go.Proofs.YtaciogcpghbhjaaGreat.Re
/- Expressions and rules in plain words: which may be, which are the same, how many atoms, how deep, their texts. Conditions: none. -/
inductive Go.Proofs.YtaciogcpghbhjaaGreat.ExprP where
 | mk (kind field : Int) (rs : List (Int × Int)) (lo hi : Nat) (of : List Go.Proofs.YtaciogcpghbhjaaGreat.ExprP) : Go.Proofs.YtaciogcpghbhjaaGreat.ExprP
structure Go.Proofs.YtaciogcpghbhjaaGreat.RuleP where
 allow : Bool
 when_ : Go.Proofs.YtaciogcpghbhjaaGreat.ExprP
 num : Int
 per : Int
 burst : Int
 line : Int
namespace Go.Proofs.YtaciogcpghbhjaaGreat.Tr
set_option linter.unusedVariables false
open Go.RowKit
open Go.Proofs.YtaciogcpghbhjaaGreat.Fp (sameB)
open Go.Proofs.YtaciogcpghbhjaaGreat.Re (tOk tL)
def kind : ExprP -> Int | .mk k _ _ _ _ _ => k
def field : ExprP -> Int | .mk _ f _ _ _ _ => f
def rs : ExprP -> List (Int × Int) | .mk _ _ r _ _ _ => r
def lo : ExprP -> Nat | .mk _ _ _ l _ _ => l
def hi : ExprP -> Nat | .mk _ _ _ _ h _ => h
def of : ExprP -> List ExprP | .mk _ _ _ _ _ o => o
theorem eta (e : ExprP) : e = .mk (kind e) (field e) (rs e) (lo e) (hi e) (of e) := by cases e; rfl
def zero : ExprP := .mk 0 0 [] 0 0 []
mutual
def dp : ExprP -> Nat
 | .mk _ _ _ _ _ o => dpL o + 1
def dpL : List ExprP -> Nat
 | [] => 0
 | e :: l => max (dp e) (dpL l)
end
theorem dpL_mem : ∀ (l : List ExprP) (e : ExprP), e ∈ l -> dp e <= dpL l
 | [], e, h => by cases h
 | a :: l, e, h => by
   rw [dpL]
   rcases List.mem_cons.1 h with rfl | h
   ·exact Nat.le_max_left _ _
   ·exact Nat.le_trans (dpL_mem l e h) (Nat.le_max_right _ _)
theorem dp_of {x e : ExprP} (h : x ∈ of e) : dp x < dp e := by
 have := dpL_mem _ _ h
 obtain ⟨k, f, r, l, h', o⟩ := e
 rw [dp]
 exact Nat.lt_succ_of_le this
theorem dp_pos (e : ExprP) : 0 < dp e := by cases e; rw [dp]; omega
def numR (z : Int) : Bool := Gu.inR z
def plain (b : Nat) : Bool := sameB b 0
def rangesR (r : List (Int × Int)) : Bool := r.all fun p => numR p.1 && numR p.2
def atomR (f : Int) (r : List (Int × Int)) (l h n : Nat) : Bool :=
 n == 0 && (decide (1 <= f) && (decide (f <= 6) && (if f = 6 then r.length == 0 && (tOk l && tOk h) else rangesR r && (!(r.length == 0) && (plain l && plain h)))))
def manyR (k : Int) (n : Nat) : Bool := if k = 0 then n == 0 else if k = 2 then n == 1 else if k = 3 ∨ k = 4 then decide (2 <= n) else false
mutual
def right : ExprP -> Bool
 | .mk k f r l h o => if k = 1 then atomR f r l h o.length else (f == 0 && (r.length == 0 && (plain l && plain h))) && (manyR k o.length && rightL o)
def rightL : List ExprP -> Bool
 | [] => true
 | e :: l => (!(kind e == 0) && right e) && rightL l
end
mutual
def same : ExprP -> ExprP -> Bool
 | .mk k f r l h o, .mk k' f' r' l' h' o' => k == k' && (f == f' && (decide (r = r') && (sameB l l' && (sameB h h' && sameL o o'))))
def sameL : List ExprP -> List ExprP -> Bool
 | [], [] => true
 | a :: l, b :: m => same a b && sameL l m
 | [], _ :: _ => false
 | _ :: _, [] => false
end
def inner (k : Int) : Bool := decide (2 <= k) && decide (k <= 4)
mutual
def atoms : ExprP -> Nat
 | .mk k _ _ _ _ o => if k = 1 then 1 else if inner k then atomsL o else 0
def atomsL : List ExprP -> Nat
 | [] => 0
 | e :: l => atoms e + atomsL l
end
mutual
def deep : ExprP -> Nat
 | .mk k _ _ _ _ o => if inner k then max (deepL o) 1 else 0
def deepL : List ExprP -> Nat
 | [] => 0
 | e :: l => max (deep e + 1) (deepL l)
end
mutual
def small : ExprP -> Int -> Bool
 | .mk _ _ r _ _ o, d => decide (0 <= d) && (decide (o.length <= 6) && (decide (r.length <= 8) && smallL o (d - 1)))
def smallL : List ExprP -> Int -> Bool
 | [], _ => true
 | e :: l, d => small e d && smallL l d
end
def wAnd : List UInt8 := [32, 97, 110, 100, 32]
def wOr : List UInt8 := [32, 111, 114, 32]
def wNot : List UInt8 := [110, 111, 116, 32]
def wReal : List UInt8 := [114, 101, 97, 108, 32]
def wTo : List UInt8 := [32, 116, 111, 32]
def word (f : Int) : List UInt8 :=
 if f = 1 then [99, 108, 105, 101, 110, 116] else if f = 2 then [117, 110, 105, 116] else if f = 3 then [102, 117, 110, 99] else if f = 4 then [97, 100, 100, 114] else if f = 5 then [118, 97, 108, 117, 101] else []
def range1 (p : Int × Int) : List UInt8 := if p.2 = p.1 then Gu.put p.1 else Gu.put p.1 ++ (45 :: Gu.put p.2)
def rng : List (Int × Int) -> List UInt8
 | [] => []
 | [p] => range1 p
 | p :: q :: l => range1 p ++ (44 :: rng (q :: l))
def brack (t : List UInt8) (m : Bool) : List UInt8 := if m then 40 :: (t ++ [41]) else t
def must (k x : Int) : Bool := x == 4 || (x == 3 && (k == 2 || k == 3))
def sep (k : Int) : List UInt8 := if k = 3 then wAnd else wOr
mutual
def txt : ExprP -> List UInt8
 | .mk k f r l h o => if k = 1 then (if f = 6 then wReal ++ (tL l ++ (wTo ++ tL h)) else word f ++ (32 :: rng r)) else if k = 2 then wNot ++ txtL 2 o else txtL k o
def txtL : Int -> List ExprP -> List UInt8
 | _, [] => []
 | k, e :: l => brack (txt e) (must k (kind e)) ++ (if l.isEmpty then [] else sep k ++ txtL k l)
end
def wDeny : List UInt8 := [100, 101, 110, 121]
def wAllow : List UInt8 := [97, 108, 108, 111, 119]
def wWhen : List UInt8 := [32, 119, 104, 101, 110, 32]
def wRate : List UInt8 := [32, 114, 97, 116, 101, 32]
def wPer : List UInt8 := [32, 112, 101, 114, 32]
def wBurst : List UInt8 := [32, 98, 117, 114, 115, 116, 32]
def ruleR (r : RuleP) : Bool := right r.when_ && (numR r.num && (numR r.per && (numR r.burst && (!(r.per == 0) || (r.num == 0 && r.burst == 0)))))
def rtxt (r : RuleP) : List UInt8 :=
 (if r.allow then wAllow else wDeny) ++ ((if kind r.when_ = 0 then [] else wWhen ++ txt r.when_) ++ ((if r.per = 0 then [] else wRate ++ (Gu.put r.num ++ (wPer ++ (Gu.put r.per ++ (wBurst ++ Gu.put r.burst))))) ++ [59, 10]))
def textOk (l : List RuleP) : Bool := l.all ruleR
def textsL (l : List RuleP) : List UInt8 := l.flatMap rtxt
def text (l : List RuleP) : List UInt8 := if textOk l then textsL l else []
def rule1 (a b : RuleP) : Bool := (a.allow == b.allow) && ((a.num == b.num && (a.per == b.per && a.burst == b.burst)) && same a.when_ b.when_)
def rules : List RuleP -> List RuleP -> Bool
 | [], [] => true
 | a :: l, b :: m => rule1 a b && rules l m
 | _, _ => false
def few (l : List RuleP) (n : Nat) : Bool := decide (l.length <= n) && l.all fun r => small r.when_ 4
theorem rightL_all (l : List ExprP) : rightL l = l.all fun e => !(kind e == 0) && right e := by
 induction l with
 | nil => rfl
 | cons e l ih => rw [rightL, List.all_cons, ih]
theorem smallL_all (l : List ExprP) (d : Int) : smallL l d = l.all fun e => small e d := by
 induction l with
 | nil => rfl
 | cons e l ih => rw [smallL, List.all_cons, ih]
theorem take_snoc {α : Type} (z : α) (l : List α) (k : Nat) (h : k < l.length) : l.take (k + 1) = l.take k ++ [l.getD k z] := by
 rw [List.take_succ_eq_append_getElem h, List.getD_eq_getElem?_getD, List.getElem?_eq_getElem h]; rfl
theorem all_snoc {α : Type} (p : α -> Bool) (z : α) (l : List α) (k : Nat) (h : k < l.length) : (l.take (k + 1)).all p = ((l.take k).all p && p (l.getD k z)) := by
 rw [take_snoc z l k h]; simp
theorem all_no {α : Type} (p : α -> Bool) (z : α) (l : List α) (k : Nat) (h : k < l.length) (hp : p (l.getD k z) = false) : l.all p = false := by
 rw [List.all_eq_false]
 refine ⟨l[k], List.getElem_mem _, ?_⟩
 rw [List.getD_eq_getElem?_getD, List.getElem?_eq_getElem h] at hp
 simpa using hp
theorem getD_mem {α : Type} (z : α) (l : List α) (k : Nat) (h : k < l.length) : l.getD k z ∈ l := by
 rw [List.getD_eq_getElem?_getD, List.getElem?_eq_getElem h]; exact List.getElem_mem _
end Go.Proofs.YtaciogcpghbhjaaGreat.Tr
/- Rules laid as a tree, in plain words. Conditions: none. -/
namespace Go.Proofs.YtaciogcpghbhjaaGreat
structure NodeP where
 leaf : Bool
 rule : Int
 atom : ExprP
 yes : Int
 no : Int
namespace Cp
set_option linter.unusedVariables false
open Go.RowKit
open Tr (kind field rs lo hi of zero)
def leafP (i : Int) : NodeP := ⟨true, i, zero, 0, 0⟩
noncomputable def testP (f : Int) (r : List (Int × Int)) (l h : Nat) (y n : Int) : NodeP := ⟨false, 0, .mk 1 f (Sp.norm r) l h [], y, n⟩
mutual
noncomputable def lay (t : List NodeP) : ExprP -> Int -> Int -> List NodeP × Int
 | .mk k f r l h o, y, n => if k = 1 then (t ++ [testP f r l h y n], t.length) else if k = 2 then layN t o y n else if k = 3 then layA t o y n else if k = 4 then layO t o y n else (t, y)
noncomputable def layN (t : List NodeP) : List ExprP -> Int -> Int -> List NodeP × Int
 | [], y, n => (t, y)
 | e :: _, y, n => lay t e n y
noncomputable def layA (t : List NodeP) : List ExprP -> Int -> Int -> List NodeP × Int
 | [], y, n => (t, y)
 | e :: l, y, n => lay (layA t l y n).1 e (layA t l y n).2 n
noncomputable def layO (t : List NodeP) : List ExprP -> Int -> Int -> List NodeP × Int
 | [], y, n => (t, n)
 | e :: l, y, n => lay (layO t l y n).1 e y (layO t l y n).2
end
noncomputable def rulesF : List RuleP -> Int -> List NodeP × Int
 | [], i => ([leafP (-1)], 0)
 | r :: l, i => lay ((rulesF l (i + 1)).1 ++ [leafP i]) r.when_ (rulesF l (i + 1)).1.length (rulesF l (i + 1)).2
noncomputable def rules (l : List RuleP) : List NodeP := (rulesF l 0).1
mutual
theorem lay_pre : ∀ (e : ExprP) (t : List NodeP) (y n : Int), t <+: (lay t e y n).1
 | .mk k f r l h o, t, y, n => by
   rw [lay]
   split
   ·exact ⟨_, rfl⟩
   split
   ·exact layN_pre o t y n
   split
   ·exact layA_pre o t y n
   split
   ·exact layO_pre o t y n
   ·exact List.prefix_refl _
theorem layN_pre : ∀ (o : List ExprP) (t : List NodeP) (y n : Int), t <+: (layN t o y n).1
 | [], t, y, n => by rw [layN]; exact List.prefix_refl _
 | e :: _, t, y, n => by rw [layN]; exact lay_pre e t n y
theorem layA_pre : ∀ (o : List ExprP) (t : List NodeP) (y n : Int), t <+: (layA t o y n).1
 | [], t, y, n => by rw [layA]; exact List.prefix_refl _
 | e :: l, t, y, n => by rw [layA]; exact (layA_pre l t y n).trans (lay_pre e _ _ _)
theorem layO_pre : ∀ (o : List ExprP) (t : List NodeP) (y n : Int), t <+: (layO t o y n).1
 | [], t, y, n => by rw [layO]; exact List.prefix_refl _
 | e :: l, t, y, n => by rw [layO]; exact (layO_pre l t y n).trans (lay_pre e _ _ _)
end
def bare (x : NodeP) : Bool := decide (-1 <= x.rule) && x.yes == 0 && x.no == 0 && Tr.same x.atom zero
def test (x : NodeP) (i : Int) : Bool := !x.leaf && x.rule == 0 && decide (0 <= x.yes) && decide (x.yes < i) && decide (0 <= x.no) && decide (x.no < i) && kind x.atom == 1 && Tr.right x.atom
def rightF : List NodeP -> Int -> Bool
 | [], _ => true
 | x :: l, i => (if x.leaf then bare x else test x i) && rightF l (i + 1)
def right (l : List NodeP) : Bool := rightF l 0 && !l.isEmpty
end Cp
end Go.Proofs.YtaciogcpghbhjaaGreat
/- The policy's parser in plain words, and what is written is read as it was: four parts. Conditions: as each part says. -/
structure Go.Proofs.YtaciogcpghbhjaaGreat.PSt where
 toks : List Go.Proofs.YtaciogcpghbhjaaGreat.TokP
 atoms : Nat
namespace Go.Proofs.YtaciogcpghbhjaaGreat.Pa
set_option linter.unusedVariables false
open Go.RowKit
abbrev Rd (α : Type) := PSt -> Except (Int × Int) (α × PSt)
def bnd {α β : Type} (x : Except (Int × Int) (α × PSt)) (f : α -> Rd β) : Except (Int × Int) (β × PSt) :=
 match x with
 | .error e => .error e
 | .ok (a, s) => f a s
theorem bnd_ok {α β : Type} (a : α) (s : PSt) (f : α -> Rd β) : bnd (.ok (a, s)) f = f a s := rfl
theorem bnd_err {α β : Type} (e : Int × Int) (f : α -> Rd β) : bnd (.error e) f = .error e := rfl
def lineOf : List TokP -> Int
 | [] => 0
 | k :: _ => k.line
def failAt {α : Type} (e : Int) : Rd α := fun s => .error (lineOf s.toks, e)
def adv (s : PSt) : PSt := ⟨s.toks.tail, s.atoms⟩
def isW (t : List UInt8) : List TokP -> Bool
 | [] => false
 | k :: _ => !(k.kind == 2) && (bl k.text == t)
def wNot : List UInt8 := [110, 111, 116]
def wAnd : List UInt8 := [97, 110, 100]
def wOr : List UInt8 := [111, 114]
def wTo : List UInt8 := [116, 111]
def wReal : List UInt8 := [114, 101, 97, 108]
def wWhen : List UInt8 := [119, 104, 101, 110]
def wRate : List UInt8 := [114, 97, 116, 101]
def wPer : List UInt8 := [112, 101, 114]
def wBurst : List UInt8 := [98, 117, 114, 115, 116]
def mustR (t : List UInt8) : Rd Unit := fun s => if isW t s.toks then .ok ((), adv s) else failAt 7 s
def num : Rd Int := fun s =>
 match s.toks with
 | [] => failAt 7 s
 | k :: _ => if k.kind = 2 then .ok (k.num, adv s) else failAt 7 s
def fieldOf (w : List UInt8) : Int :=
 if w = Tr.word 1 then 1 else if w = Tr.word 2 then 2 else if w = Tr.word 3 then 3 else if w = Tr.word 4 then 4 else if w = Tr.word 5 then 5 else if w = wReal then 6 else 0
def headText : List TokP -> List UInt8
 | [] => []
 | k :: _ => bl k.text
def sgn (b : Bool) : List UInt8 := if b then [45] else []
def boundS (sg : Bool) : Rd Nat := fun s =>
 if isW Re.infL s.toks then .ok (Re.rdF (sgn sg ++ Re.infL), adv s) else bnd (num s) fun _ s2 => .ok (Re.rdF (sgn sg ++ headText s.toks), s2)
def bound : Rd Nat := fun s => if isW [45] s.toks then boundS true (adv s) else boundS false s
def range : Rd (Int × Int) := fun s => bnd (num s) fun a s1 => if isW [45] s1.toks then bnd (num (adv s1)) fun b s2 => .ok ((a, b), s2) else .ok ((a, a), s1)
def sepF {α : Type} (p : Rd α) (t : List UInt8) : Nat -> Rd (List α)
 | 0 => failAt 7
 | n + 1 => fun s => bnd (p s) fun a s1 => if isW t s1.toks then bnd (sepF p t n (adv s1)) fun l s2 => .ok (a :: l, s2) else .ok ([a], s1)
def sep {α : Type} (p : Rd α) (t : List UInt8) : Rd (List α) := fun s => sepF p t (s.toks.length + 1) s
def headField : List TokP -> Int
 | [] => 0
 | k :: _ => if k.kind = 1 then fieldOf (bl k.text) else 0
def atomOf (f : Int) : Rd ExprP := fun s =>
 if f = 6 then bnd (bound s) fun lo s2 => bnd (mustR wTo s2) fun _ s3 => bnd (bound s3) fun hi s4 => .ok (.mk 1 6 [] lo hi [], s4)
 else bnd (sep range [44] s) fun r s2 => .ok (.mk 1 f r 0 0 [], s2)
def atom (A : Nat) : Rd ExprP := fun s =>
 if headField s.toks = 0 then failAt 7 s else if s.atoms = A then failAt 9 s else atomOf (headField s.toks) ⟨s.toks.tail, s.atoms + 1⟩
def one (k : Int) : List ExprP -> ExprP
 | [e] => e
 | l => .mk k 0 [] 0 0 l
def lst (k : Int) (p : Rd ExprP) (t : List UInt8) : Rd ExprP := fun s => bnd (sep p t s) fun l s' => .ok (one k l, s')
def ands (p : Rd ExprP) : Rd ExprP := lst 3 p wAnd
def expr (p : Rd ExprP) : Rd ExprP := lst 4 (ands p) wOr
def part (A : Nat) : Nat -> Rd ExprP
 | 0 => fun s => if isW wNot s.toks || isW [40] s.toks then failAt 8 s else atom A s
 | k + 1 => fun s =>
   if isW wNot s.toks then bnd (part A k (adv s)) fun e s' => .ok (.mk 2 0 [] 0 0 [e], s')
   else if isW [40] s.toks then bnd (expr (part A k) (adv s)) fun e s1 => bnd (mustR [41] s1) fun _ s2 => .ok (e, s2)
   else atom A s
def perR : Rd Int := fun s =>
 match s.toks with
 | [] => failAt 7 s
 | k :: _ => if k.kind = 2 ∧ ¬ k.num = 0 then .ok (k.num, adv s) else failAt 7 s
def rateR : Rd (Int × Int × Int) := fun s => bnd (num s) fun a s1 => bnd (mustR wPer s1) fun _ s2 => bnd (perR s2) fun b s3 => bnd (mustR wBurst s3) fun _ s4 => bnd (num s4) fun c s5 => .ok ((a, b, c), s5)
def headR : Rd Bool := fun s => if isW Tr.wAllow s.toks then .ok (true, adv s) else bnd (mustR Tr.wDeny s) fun _ s1 => .ok (false, s1)
def whenR (D A : Nat) : Rd ExprP := fun s => if isW wWhen s.toks then expr (part A D) (adv s) else .ok (Tr.zero, s)
def rateO : Rd (Int × Int × Int) := fun s => if isW wRate s.toks then rateR (adv s) else .ok ((0, 0, 0), s)
def rule (D A : Nat) : Rd RuleP := fun s =>
 bnd (headR s) fun al s1 => bnd (whenR D A s1) fun e s2 => bnd (rateO s2) fun q s3 => bnd (mustR [59] s3) fun _ s4 => .ok (⟨al, e, q.1, q.2.1, q.2.2, lineOf s.toks⟩, s4)
def rulesF (D A R : Nat) : Nat -> Nat -> PSt -> Except (Int × Int) (List RuleP)
 | 0, _, _ => .ok []
 | n + 1, c, s =>
   if s.toks.isEmpty then .ok []
   else if c = R ∧ (isW Tr.wAllow s.toks || isW Tr.wDeny s.toks) = true then .error (lineOf s.toks, 9)
   else match rule D A s with
    | .error e => .error e
    | .ok (r, s') => (rulesF D A R n (c + 1) s').map (r :: ·)
def rules (D A R : Nat) (l : List TokP) : Except (Int × Int) (List RuleP) := rulesF D A R (l.length + 1) 0 ⟨l, 0⟩
def answer : Except (Int × Int) (List RuleP) -> List RuleP × Int × Int
 | .ok l => (l, 0, 0)
 | .error e => ([], e.1, e.2)
def tokens (l : List TokP) : List RuleP × Int × Int := answer (rules 16 512 64 l)
def text (s : List UInt8) : List RuleP × Int × Int :=
 if (Lx.split s).2.2 = 0 then tokens (Lx.split s).1 else ([], (Lx.split s).2.1, (Lx.split s).2.2)
theorem bnd_out {α β : Type} {x : Except (Int × Int) (α × PSt)} {f : α -> Rd β} {b : β} {s' : PSt} (h : bnd x f = .ok (b, s')) : ∃ a s, x = .ok (a, s) ∧ f a s = .ok (b, s') := by
 cases x with
 | error e => cases h
 | ok y => exact ⟨y.1, y.2, rfl, h⟩
end Go.Proofs.YtaciogcpghbhjaaGreat.Pa
namespace Go.Proofs.YtaciogcpghbhjaaGreat.Pa
set_option linter.unusedVariables false
open Go.RowKit
open Tr (kind field rs lo hi of dp dpL right rightL must range1 rng rangesR numR atomR manyR plain txt txtL brack inner atoms atomsL)
open Lx (low run go piece)
open Gu (dig)
open Re (tOk tL vOf sizeOk sizeL)
def tn (ln n : Int) : TokP := ⟨2, st (Gu.put n), n, ln⟩
def ts (ln : Int) : TokP := ⟨4, st [45], 0, ln⟩
def t1 (ln : Int) (p : Int × Int) : List TokP := if p.2 = p.1 then [tn ln p.1] else [tn ln p.1, ts ln, tn ln p.2]
end Go.Proofs.YtaciogcpghbhjaaGreat.Pa
namespace Go.Proofs.YtaciogcpghbhjaaGreat.Pa
set_option linter.unusedVariables false
open Go.RowKit
open Tr (kind field rs lo hi of dp dpL right rightL must range1 rng rangesR numR atomR manyR plain txt txtL brack inner atoms atomsL)
open Re (tOk tL vOf sizeOk sizeL)
open Fp (sameB)
def bump (k x : Int) : Nat := if must k x then 1 else 0
mutual
def bd : ExprP -> Nat
 | .mk k _ _ _ _ o => if k = 1 then 0 else if k = 2 then bdL 2 o + 1 else bdL k o
def bdL : Int -> List ExprP -> Nat
 | _, [] => 0
 | k, e :: l => max (bd e + bump k (kind e)) (bdL k l)
end
mutual
def bits : ExprP -> Prop
 | .mk _ _ _ l h o => (l < 18446744073709551616 ∧ h < 18446744073709551616) ∧ bitsL o
def bitsL : List ExprP -> Prop
 | [] => True
 | e :: l => bits e ∧ bitsL l
end
end Go.Proofs.YtaciogcpghbhjaaGreat.Pa
namespace Go.Proofs.YtaciogcpghbhjaaGreat.Pa
set_option linter.unusedVariables false
open Go.RowKit
open Tr (kind field rs lo hi of dp dpL right rightL must range1 rng rangesR numR atomR manyR plain txt txtL brack inner atoms atomsL same sameL ruleR textOk textsL rtxt rule1)
open Re (tOk tL vOf sizeOk sizeL)
open Fp (sameB)
end Go.Proofs.YtaciogcpghbhjaaGreat.Pa
/- Readings in plain words; what is read may be; texts, two behind one another, blanks, nots and brackets: five parts. Conditions: as each part says. -/
namespace Go.Proofs.YtaciogcpghbhjaaGreat.Pa
set_option linter.unusedVariables false
open Go.RowKit
def Like (T T' : List TokP) : Prop := T.map (Lx.at_ 0) = T'.map (Lx.at_ 0)
theorem Like.tail {T T' : List TokP} (h : Like T T') : Like T.tail T'.tail := by
 unfold Like at h ⊢
 rw [List.map_tail, List.map_tail, h]
theorem Like.cons {k : TokP} {l T' : List TokP} (h : Like (k :: l) T') : ∃ k' l', T' = k' :: l' ∧ k'.kind = k.kind ∧ k'.text = k.text ∧ k'.num = k.num ∧ Like l l' := by
 cases T' with
 | nil => cases h
 | cons k' l' =>
   unfold Like at h
   rw [List.map_cons, List.map_cons] at h
   injection h with h1 h2
   refine ⟨k', l', rfl, ?_, ?_, ?_, h2⟩
   ·exact (congrArg TokP.kind h1).symm
   ·exact (congrArg TokP.text h1).symm
   ·exact (congrArg TokP.num h1).symm
theorem Like.nil {T' : List TokP} (h : Like [] T') : T' = [] := by
 cases T' with
 | nil => rfl
 | cons a l => cases h
structure Nice {α : Type} (p : Rd α) : Prop where
 suf : ∀ s v s', p s = .ok (v, s') -> s'.toks <:+ s.toks
 ext : ∀ s v s' m, p s = .ok (v, s') -> s'.toks ≠ [] -> p ⟨s.toks ++ m, s.atoms⟩ = .ok (v, ⟨s'.toks ++ m, s'.atoms⟩)
 off : ∀ s v s' d, p s = .ok (v, s') -> p ⟨s.toks, s.atoms + d⟩ = .ok (v, ⟨s'.toks, s'.atoms + d⟩) ∨ ∃ ln, p ⟨s.toks, s.atoms + d⟩ = .error (ln, 9)
 any : ∀ s v s' T, p s = .ok (v, s') -> Like s.toks T -> ∃ T', Like s'.toks T' ∧ p ⟨T, s.atoms⟩ = .ok (v, ⟨T', s'.atoms⟩)
theorem suf_ne {T T' : List TokP} (h : T' <:+ T) (h' : T' ≠ []) : T ≠ [] := fun e => by
 subst e
 exact h' (List.suffix_nil.1 h)
theorem Nice.bnd {α β : Type} {p : Rd α} {f : α -> Rd β} (hp : Nice p) (hf : ∀ a, Nice (f a)) : Nice (fun s => Pa.bnd (p s) f) where
 suf s v s' h := by
  obtain ⟨a, s1, h1, h2⟩ := bnd_out h
  exact ((hf a).suf _ _ _ h2).trans (hp.suf _ _ _ h1)
 ext s v s' m h hn := by
  obtain ⟨a, s1, h1, h2⟩ := bnd_out h
  have h3 := (hf a).ext _ _ _ m h2 hn
  show Pa.bnd (p _) f = _
  rw [hp.ext _ _ _ m h1 (suf_ne ((hf a).suf _ _ _ h2) hn), bnd_ok]
  exact h3
 off s v s' d h := by
  obtain ⟨a, s1, h1, h2⟩ := bnd_out h
  rcases hp.off _ _ _ d h1 with h3 | ⟨ln, h3⟩
  ·rcases (hf a).off _ _ _ d h2 with h4 | ⟨ln, h4⟩
   ·left
    show Pa.bnd (p _) f = _
    rw [h3, bnd_ok]; exact h4
   ·right
    refine ⟨ln, ?_⟩
    show Pa.bnd (p _) f = _
    rw [h3, bnd_ok]; exact h4
  ·right
   refine ⟨ln, ?_⟩
   show Pa.bnd (p _) f = _
   rw [h3, bnd_err]
 any s v s' T h hl := by
  obtain ⟨a, s1, h1, h2⟩ := bnd_out h
  obtain ⟨T1, l1, h3⟩ := hp.any _ _ _ T h1 hl
  obtain ⟨T2, l2, h4⟩ := (hf a).any _ _ _ T1 h2 l1
  refine ⟨T2, l2, ?_⟩
  show Pa.bnd (p _) f = _
  rw [h3, bnd_ok]; exact h4
theorem tail_suf (T : List TokP) : T.tail <:+ T := List.tail_suffix T
end Go.Proofs.YtaciogcpghbhjaaGreat.Pa
namespace Go.Proofs.YtaciogcpghbhjaaGreat.Pa
set_option linter.unusedVariables false
open Go.RowKit
open Tr (kind field rs lo hi of dp dpL right rightL must range1 rng rangesR numR atomR manyR plain txt txtL brack inner atoms atomsL same sameL ruleR textOk textsL rtxt rule1)
open Re (tOk tL vOf sizeOk sizeL)
def TokG (T : List TokP) : Prop := ∀ k ∈ T, k.kind = 2 -> Gu.getOk (bl k.text) = true ∧ k.num = Gu.getN (bl k.text)
theorem TokG.suf {T T' : List TokP} (h : TokG T) (hs : T' <:+ T) : TokG T' := fun k hk => h k (hs.subset hk)
theorem TokG.tail {T : List TokP} (h : TokG T) : TokG T.tail := h.suf (tail_suf T)
end Go.Proofs.YtaciogcpghbhjaaGreat.Pa
namespace Go.Proofs.YtaciogcpghbhjaaGreat.Pa
set_option linter.unusedVariables false
open Go.RowKit
open Tr (kind field rs lo hi of dp dpL right rightL must range1 rng rangesR numR atomR manyR plain txt txtL brack inner atoms atomsL same sameL ruleR textOk textsL rtxt rule1)
open Re (tOk tL vOf sizeOk sizeL)
end Go.Proofs.YtaciogcpghbhjaaGreat.Pa
namespace Go.Proofs.YtaciogcpghbhjaaGreat.Pa
set_option linter.unusedVariables false
open Go.RowKit
open Tr (kind field rs lo hi of dp dpL right rightL must range1 rng rangesR numR atomR manyR plain txt txtL brack inner atoms atomsL same sameL ruleR textOk textsL rtxt rule1)
open Re (tOk tL vOf sizeOk sizeL)
def Err {α : Type} (p : Rd α) : Prop := ∀ s ln e, p s = .error (ln, e) -> e ≠ 0
theorem Err.bnd {α β : Type} {p : Rd α} {f : α -> Rd β} (hp : Err p) (hf : ∀ a, Err (f a)) : Err (fun s => Pa.bnd (p s) f) := fun s ln e h => by
 cases hx : p s with
 | error x =>
   obtain ⟨l2, e2⟩ := x
   simp only [hx] at h
   cases h
   exact hp s ln e hx
 | ok y =>
   obtain ⟨a, s1⟩ := y
   simp only [hx] at h
   exact hf a s1 ln e h
end Go.Proofs.YtaciogcpghbhjaaGreat.Pa
namespace Go.Proofs.YtaciogcpghbhjaaGreat.Pa
set_option linter.unusedVariables false
open Go.RowKit
open Tr (kind field rs lo hi of dp dpL right rightL must range1 rng rangesR numR atomR manyR plain txt txtL brack inner atoms atomsL same sameL ruleR textOk textsL rtxt rule1)
end Go.Proofs.YtaciogcpghbhjaaGreat.Pa
/- Which rules may be used, and policies of such, in plain words. Conditions: none. -/
namespace Go.Proofs.YtaciogcpghbhjaaGreat.Ck
set_option linter.unusedVariables false
open Go.RowKit
open Tr (kind field rs lo hi of ruleR textOk textsL)
def le (a b : Nat) : Bool := FloatKind.f64.format.order a b == some Ordering.lt || FloatKind.f64.format.order a b == some Ordering.eq
def most (f : Int) : Int := if f <= 3 then 255 else 65535
def rangesF (f : Int) (r : List (Int × Int)) : Bool := r.all fun p => decide (p.1 <= p.2) && decide (p.2 <= most f)
mutual
def fine : ExprP -> Bool
 | .mk k f r l h o => if k = 1 then (if f = 6 then le l h else rangesF f r) else fineL o
def fineL : List ExprP -> Bool
 | [] => true
 | e :: l => fine e && fineL l
end
theorem fineL_all (l : List ExprP) : fineL l = l.all fine := by
 induction l with
 | nil => rfl
 | cons e l ih => rw [fineL, List.all_cons, ih]
def small (n : Int) : Bool := decide (1 <= n) && decide (n <= 1048576)
def rule (r : RuleP) : Int :=
 if ruleR r then (if fine r.when_ then (if r.per = 0 then 0 else if r.allow then (if small r.num && (small r.per && small r.burst) then 0 else 10) else 7) else 10) else 1
def bad : List RuleP -> Option (Int × Int)
 | [] => none
 | r :: l => if rule r = 0 then bad l else some (r.line, rule r)
end Go.Proofs.YtaciogcpghbhjaaGreat.Ck
