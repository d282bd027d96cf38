/- Of these texts: NtA, ChB. Conditions: as each part says. -/
import Derived.Test.YtaciogcpghbhjaaGreatZTNdA
import Derived.Test.YtaciogcpghbhjaaGreatZTTrRef
import Derived.Test.YtaciogcpghbhjaaGreatZTTrRu
import Derived.BigQuiet
import Derived.Test.YtaciogcpghbhjaaGreatZTReU
/- Several texts in one: Ns, Nt. Conditions: as each part says. -/
namespace Go.Proofs.YtaciogcpghbhjaaGreat.Nd
set_option linter.unusedVariables false
open Go.ChangeShapes Go.WideShapes Go.ChangeAt Go.RowKit
open Tr
def NodeAt (W : World) (x : NodeP) (RA OA : Option Addr) (rc oc b p : Nat) : Prop :=
 W.cell? ⟨b, p, none⟩ = some (.bool x.leaf) ∧ W.cell? ⟨b, p + 1, none⟩ = some (.int .i64 x.rule) ∧ W.cell? ⟨b, p + 2, none⟩ = some (.int .i64 (kind x.atom)) ∧ W.cell? ⟨b, p + 3, none⟩ = some (.int .i64 (field x.atom)) ∧
 W.cell? ⟨b, p + 4, none⟩ = some (.slice RA (rs x.atom).length rc) ∧ W.cell? ⟨b, p + 5, none⟩ = some (.float .f64 (lo x.atom)) ∧ W.cell? ⟨b, p + 6, none⟩ = some (.float .f64 (hi x.atom)) ∧
 W.cell? ⟨b, p + 7, none⟩ = some (.slice OA (of x.atom).length oc) ∧ W.cell? ⟨b, p + 8, none⟩ = some (.int .i64 x.yes) ∧ W.cell? ⟨b, p + 9, none⟩ = some (.int .i64 x.no)
theorem NodeAt.kept {W W' : World} {x : NodeP} {RA OA : Option Addr} {rc oc b p : Nat} (h : NodeAt W x RA OA rc oc b p) (hb : b < W.heap.size) (hk : Keep W W') : NodeAt W' x RA OA rc oc b p := by
 obtain ⟨h0, h1, h2, h3, h4, h5, h6, h7, h8, h9⟩ := h
 exact ⟨(Below.cell hk hb).trans h0, (Below.cell hk hb).trans h1, (Below.cell hk hb).trans h2, (Below.cell hk hb).trans h3, (Below.cell hk hb).trans h4, (Below.cell hk hb).trans h5,
  (Below.cell hk hb).trans h6, (Below.cell hk hb).trans h7, (Below.cell hk hb).trans h8, (Below.cell hk hb).trans h9⟩
theorem Nds.node {W : World} {b off n : Nat} {l : List NodeP} (h : Nds W (some ⟨b, off, none⟩) n l) (k : Nat) (hk : k < n) :
  b < W.heap.size ∧ ∃ RA OA rc oc, NodeAt W (l.getD k zeroN) RA OA rc oc b (off + k * 10) ∧ Ex W (l.getD k zeroN).atom RA OA := by
 obtain ⟨hb, RA, OA, rc, oc, hc, hE⟩ := h.elem k hk
 exact ⟨hb, RA, OA, rc, oc, ⟨hc 0 _ rfl, hc 1 _ rfl, hc 2 _ rfl, hc 3 _ rfl, hc 4 _ rfl, hc 5 _ rfl, hc 6 _ rfl, hc 7 _ rfl, hc 8 _ rfl, hc 9 _ rfl⟩, hE⟩
def smallB (l : List NodeP) (m : Nat) : Bool := decide (l.length <= m) && l.all fun x => small x.atom 3
mutual
def full : ExprP -> Bool
 | .mk _ _ r _ _ o => r.all (fun p => decide (p.1 <= p.2)) && fullL o
def fullL : List ExprP -> Bool
 | [] => true
 | e :: l => full e && fullL l
end
theorem fullL_all (l : List ExprP) : fullL l = l.all full := by
 induction l with
 | nil => rfl
 | cons e l ih => rw [fullL, List.all_cons, ih]
def laid (l : List RuleP) (n : Nat) : Bool := Tr.few l n && l.all fun r => right r.when_ && full r.when_
end Go.Proofs.YtaciogcpghbhjaaGreat.Nd
namespace Go.Proofs.YtaciogcpghbhjaaGreat.Nd
set_option linter.unusedVariables false
open Go.ChangeShapes Go.WideShapes Go.ChangeAt Go.RowKit
open Tr
end Go.Proofs.YtaciogcpghbhjaaGreat.Nd
/- Rules that may be used: what they are. Conditions: none. -/
namespace Go.Proofs.YtaciogcpghbhjaaGreat.Ck
set_option linter.unusedVariables false
open Go.RowKit
open Tr (ruleR atomR)
mutual
theorem fine_full : ∀ e : ExprP, Tr.right e = true -> fine e = true -> Nd.full e = true
 | .mk k f r l h o, hr, hf => by
   rw [Tr.right] at hr
   rw [fine] at hf
   rw [Nd.full, Bool.and_eq_true]
   by_cases k1 : k = 1
   ·rw [if_pos k1] at hr hf
    unfold atomR at hr
    simp only [Bool.and_eq_true, beq_iff_eq, decide_eq_true_eq] at hr
    obtain ⟨h0, _, _, h3⟩ := hr
    obtain rfl : o = [] := List.eq_nil_of_length_eq_zero h0
    refine ⟨?_, by rw [Nd.fullL]⟩
    by_cases f6 : f = 6
    ·rw [if_pos f6] at h3
     simp only [Bool.and_eq_true, beq_iff_eq] at h3
     obtain rfl : r = [] := List.eq_nil_of_length_eq_zero h3.1
     rfl
    ·rw [if_neg f6] at hf
     unfold Ck.rangesF at hf
     rw [List.all_eq_true] at hf ⊢
     intro p hp
     have := hf p hp
     rw [Bool.and_eq_true] at this
     exact this.1
   ·rw [if_neg k1] at hr hf
    simp only [Bool.and_eq_true, beq_iff_eq] at hr
    obtain ⟨⟨_, h2, _⟩, _, h5⟩ := hr
    obtain rfl : r = [] := List.eq_nil_of_length_eq_zero h2
    exact ⟨rfl, fineL_full o h5 hf⟩
theorem fineL_full : ∀ o : List ExprP, Tr.rightL o = true -> fineL o = true -> Nd.fullL o = true
 | [], _, _ => by rw [Nd.fullL]
 | e :: o, hr, hf => by
   rw [Tr.rightL, Bool.and_eq_true, Bool.and_eq_true] at hr
   rw [fineL, Bool.and_eq_true] at hf
   rw [Nd.fullL, fine_full e hr.1.2 hf.1, fineL_full o hr.2 hf.2]; rfl
end
theorem rule_zero {r : RuleP} (h : Ck.rule r = 0) : ruleR r = true ∧ fine r.when_ = true ∧ (r.per = 0 ∨ (Ck.small r.num && (Ck.small r.per && Ck.small r.burst)) = true) := by
 unfold Ck.rule at h
 cases h1 : ruleR r
 ·rw [h1] at h; simp at h
 ·rw [h1, if_pos rfl] at h
  cases h2 : fine r.when_
  ·rw [h2] at h; simp at h
  ·rw [h2, if_pos rfl] at h
   refine ⟨rfl, rfl, ?_⟩
   by_cases h3 : r.per = 0
   ·exact .inl h3
   ·rw [if_neg h3] at h
    cases h4 : r.allow
    ·rw [h4] at h; simp at h
    ·rw [h4, if_pos rfl] at h
     cases h5 : (Ck.small r.num && (Ck.small r.per && Ck.small r.burst))
     ·rw [h5] at h; simp at h
     ·exact .inr rfl
end Go.Proofs.YtaciogcpghbhjaaGreat.Ck
