/- Which rules may be used, and policies of such, in plain words. Conditions: none. -/
import Derived.Test.YtmcgflpgkkophaaGreatDoorPaI
namespace Go.Proofs.YtmcgflpgkkophaaGreatDoor.Ck
set_option linter.unusedVariables false
open Go.RowKit
open Tr (kind field rs lo hi of ruleR textOk textsL)
def le (a b : Nat) : Bool := FloatKind.f64.format.order a b == some Ordering.lt || FloatKind.f64.format.order a b == some Ordering.eq
def most (f : Int) : Int := if f ≤ 3 then 255 else 65535
def rangesF (f : Int) (r : List (Int × Int)) : Bool := r.all fun p => decide (p.1 ≤ p.2) && decide (p.2 ≤ most f)
mutual
def fine : ExprP → Bool
  | .mk k f r l h o => if k = 1 then (if f = 6 then le l h else rangesF f r) else fineL o
def fineL : List ExprP → Bool
  | [] => true
  | e :: l => fine e && fineL l
end
theorem fineL_all (l : List ExprP) : fineL l = l.all fine := by
  induction l with
  | nil => rfl
  | cons e l ih => rw [fineL, List.all_cons, ih]
def small (n : Int) : Bool := decide (1 ≤ n) && decide (n ≤ 1048576)
/-- The error of a rule that may not be used; 0: it may. -/
def rule (r : RuleP) : Int :=
  if ruleR r then (if fine r.when_ then (if r.per = 0 then 0 else if r.allow then (if small r.num && (small r.per && small r.burst) then 0 else 10) else 7) else 10) else 1
/-- The first rule that may not be used: its line, its error. -/
def bad : List RuleP → Option (Int × Int)
  | [] => none
  | r :: l => if rule r = 0 then bad l else some (r.line, rule r)
def policy (s : List UInt8) : List RuleP × Int × Int :=
  if (Pa.text s).2.2 = 0 then (match bad (Pa.text s).1 with
    | none => ((Pa.text s).1, 0, 0)
    | some (ln, e) => ([], ln, e)) else ([], (Pa.text s).2.1, (Pa.text s).2.2)
theorem bad_none {l : List RuleP} (h : bad l = none) : ∀ r ∈ l, rule r = 0 := by
  induction l with
  | nil => intro r hr; cases hr
  | cons x l ih =>
    unfold bad at h
    split at h
    · rename_i h0
      intro r hr
      rcases List.mem_cons.1 hr with rfl | hr
      · exact h0
      · exact ih h r hr
    · cases h
theorem bad_some {l : List RuleP} {ln e : Int} (h : bad l = some (ln, e)) : e ≠ 0 := by
  induction l with
  | nil => cases h
  | cons x l ih =>
    unfold bad at h
    split at h
    · exact ih h
    · rename_i h0
      injection h with h; injection h with _ h
      rw [← h]; exact h0
theorem bad_mk {l : List RuleP} (h : ∀ r ∈ l, rule r = 0) : bad l = none := by
  induction l with
  | nil => rfl
  | cons x l ih =>
    unfold bad
    rw [if_pos (h x (List.mem_cons_self ..))]
    exact ih fun r hr => h r (List.mem_cons_of_mem _ hr)
theorem policy_ok {s : List UInt8} {l : List RuleP} {i : Int} (h : policy s = (l, i, 0)) : Pa.text s = (l, 0, 0) ∧ ∀ r ∈ l, rule r = 0 := by
  unfold policy at h
  obtain ⟨x, hx⟩ : ∃ x, Pa.text s = x := ⟨_, rfl⟩
  obtain ⟨a, j, e⟩ := x
  rw [hx] at h
  simp only at h
  split at h
  · rename_i h0
    subst h0
    have hj := (Pa.text_ok hx).2.1
    subst hj
    cases hb : bad a with
    | none =>
      rw [hb] at h
      injection h with h1 h2
      subst h1
      exact ⟨hx, bad_none hb⟩
    | some y =>
      obtain ⟨ln, e⟩ := y
      rw [hb] at h
      injection h with _ h; injection h with _ h
      exact absurd h (bad_some hb)
  · rename_i h0
    injection h with _ h; injection h with _ h
    exact absurd h h0
theorem policy_no {s : List UInt8} (h : (policy s).2.2 ≠ 0) : (policy s).1 = [] := by
  unfold policy at h ⊢
  split
  · rename_i h0
    rw [if_pos h0] at h
    cases hb : bad (Pa.text s).1 with
    | none => rw [hb] at h; exact absurd rfl h
    | some y => rfl
  · rfl
theorem policy_mk {s : List UInt8} {l : List RuleP} {i : Int} (h : Pa.text s = (l, i, 0)) (hr : ∀ r ∈ l, rule r = 0) : policy s = (l, 0, 0) := by
  unfold policy
  rw [h]
  simp only [if_true, bad_mk hr]
theorem rule_line (r : RuleP) (ln : Int) : rule (Pa.atLine ln r) = rule r := rfl
theorem rules_line : ∀ (l : List RuleP) (ln : Int), (∀ r ∈ l, rule r = 0) → ∀ r ∈ Pa.lines ln l, rule r = 0
  | [], _, _, r, h => by cases h
  | x :: l, ln, hl, r, h => by
    rw [Pa.lines] at h
    rcases List.mem_cons.1 h with rfl | h
    · exact hl x (List.mem_cons_self ..)
    · exact rules_line l (ln + 1) (fun y hy => hl y (List.mem_cons_of_mem _ hy)) r h
/-- A policy's text is a policy again. -/
theorem policy_back {s : List UInt8} {l : List RuleP} {i : Int} (h : policy s = (l, i, 0)) (hl : (textsL l).length ≤ 4096) : policy (textsL l) = (Pa.lines 1 l, 0, 0) := by
  obtain ⟨h1, h2⟩ := policy_ok h
  exact policy_mk (Pa.read_back h1 hl) (rules_line l 1 h2)
end Go.Proofs.YtmcgflpgkkophaaGreatDoor.Ck
