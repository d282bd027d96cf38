/- Of these texts: FaA. Conditions: as each part says. -/
import Derived.Test.YtaciogcpghbhjaaGreatZTAskA
import Derived.Test.YtaciogcpghbhjaaGreatZTFp
/- Facts of a request in plain words; floats of numbers; the addresses that spans have. Conditions: none. -/
structure Go.Proofs.YtaciogcpghbhjaaGreat.FactsP where
 cl : Int
 un : Int
 fc : Int
 sp : List (Int × Int)
 vs : List Int
 rg : List Int
namespace Go.Proofs.YtaciogcpghbhjaaGreat.Fa
set_option linter.unusedVariables false
open Go.RowKit
open Re (okL ofB)
open Fp (IsN sameB)
def regs (a : AskP) : List Int := if a.fc = 6 ∨ a.fc = 16 ∨ a.fc = 23 then a.vs else []
def reads (a : AskP) : List (Int × Int) := if 0 < a.ct then [(a.rd, a.rd + a.ct - 1)] else []
def writes (a : AskP) : List (Int × Int) := if 0 < a.mn then [(a.wr, a.wr + a.mn - 1)] else []
def of (c u : Int) (a : AskP) : FactsP := ⟨c, u, a.fc, reads a ++ writes a, a.vs, regs a⟩
def same (f g : FactsP) : Bool := f.cl == g.cl && (f.un == g.un && (f.fc == g.fc && (decide (f.sp = g.sp) && (f.vs == g.vs && f.rg == g.rg))))
def reals : List Int -> Option (List Nat)
 | [] => some []
 | a :: b :: c :: d :: l => if okL [a, b, c, d] then (reals l).map (ofB [a, b, c, d] :: ·) else none
 | _ :: _ => none
def near (x b : Nat) : Prop := ((IsN b ∧ IsN x) ∨ x = b) ∧ x < 18446744073709551616
def Near : List Nat -> List Nat -> Prop
 | [], [] => True
 | x :: xs, b :: bs => near x b ∧ Near xs bs
 | _, _ => False
theorem Near.len : ∀ {xs bs : List Nat}, Near xs bs -> xs.length = bs.length
 | [], [], _ => rfl
 | x :: xs, b :: bs, h => by rw [List.length_cons, List.length_cons, Near.len h.2]
 | [], b :: bs, h => h.elim
 | x :: xs, [], h => h.elim
theorem Near.snoc : ∀ {xs bs : List Nat} {x b : Nat}, Near xs bs -> near x b -> Near (xs ++ [x]) (bs ++ [b])
 | [], [], x, b, _, h => ⟨h, trivial⟩
 | y :: xs, c :: bs, x, b, h, h' => ⟨h.1, Near.snoc h.2 h'⟩
 | [], c :: bs, _, _, h, _ => h.elim
 | y :: xs, [], _, _, h, _ => h.elim
theorem reals_app : ∀ (l m : List Int), l.length % 4 = 0 -> reals (l ++ m) = match reals l with
  | none => none
  | some bs => (reals m).map (bs ++ ·)
 | [], m, _ => by
   show reals m = (reals m).map _
   cases reals m <;> rfl
 | a :: b :: c :: d :: l, m, h => by
   show reals (a :: b :: c :: d :: (l ++ m)) = _
   rw [reals, reals]
   by_cases ho : okL [a, b, c, d] = true
   ·rw [if_pos ho, if_pos ho, reals_app l m (by simp at h; omega)]
    cases reals l with
    | none => rfl
    | some bs =>
      cases reals m with
      | none => rfl
      | some cs => rfl
   ·rw [if_neg ho, if_neg ho]
 | [a], m, h => by simp at h
 | [a, b], m, h => by simp at h
 | [a, b, c], m, h => by simp at h
theorem reals_mod : ∀ (l : List Int), l.length % 4 ≠ 0 -> reals l = none
 | [], h => absurd rfl h
 | a :: b :: c :: d :: l, h => by
   rw [reals, reals_mod l (by simp at h ⊢; omega)]
   split <;> rfl
 | [a], _ => rfl
 | [a, b], _ => rfl
 | [a, b, c], _ => rfl
theorem take4 (l : List Int) (i : Nat) (h : i + 4 <= l.length) : ∃ a b c d, (l.drop i).take 4 = [a, b, c, d] ∧ l.drop i = a :: b :: c :: d :: l.drop (i + 4) := by
 have e : l.drop i = l[i] :: l[i + 1] :: l[i + 2] :: l[i + 3] :: l.drop (i + 4) := by
  rw [List.drop_eq_getElem_cons (by omega), List.drop_eq_getElem_cons (by omega), List.drop_eq_getElem_cons (by omega), List.drop_eq_getElem_cons (by omega)]
 exact ⟨_, _, _, _, by rw [e]; rfl, e⟩
theorem reals_step (l : List Int) (i : Nat) (h : i + 4 <= l.length) (hi : i % 4 = 0) (bs : List Nat) (hb : reals (l.take i) = some bs) (hok : okL ((l.drop i).take 4) = true) : reals (l.take (i + 4)) = some (bs ++ [ofB ((l.drop i).take 4)]) := by
 obtain ⟨a, b, c, d, e1, e2⟩ := take4 l i h
 have e : l.take (i + 4) = l.take i ++ [a, b, c, d] := by
  rw [List.take_add, e1]
 rw [e, reals_app _ _ (by rw [List.length_take]; omega), hb, e1]
 rw [e1] at hok
 have e3 : reals [a, b, c, d] = some [ofB [a, b, c, d]] := by
  rw [reals, if_pos hok]; rfl
 rw [e3]; rfl
theorem reals_stop (l : List Int) (i : Nat) (h : i + 4 <= l.length) (hi : i % 4 = 0) (bs : List Nat) (hb : reals (l.take i) = some bs) (hok : okL ((l.drop i).take 4) = false) : reals l = none := by
 obtain ⟨a, b, c, d, e1, e2⟩ := take4 l i h
 have e : l = l.take i ++ (a :: b :: c :: d :: l.drop (i + 4)) := by rw [<- e2, List.take_append_drop]
 rw [e1] at hok
 rw [e, reals_app _ _ (by rw [List.length_take]; omega), hb]
 have e3 : reals (a :: b :: c :: d :: l.drop (i + 4)) = none := by
  rw [reals, hok]; rfl
 rw [e3]; rfl
end Go.Proofs.YtaciogcpghbhjaaGreat.Fa
