/- Several texts in one: MeL, MeL2. Conditions: as each part says. -/
import Derived.Test.YtfdadlalnffdoaaMe
import Derived.Test.YtfdadlalnffdoaaOpen
import Derived.Test.YtfdadlalnffdoaaTrY
/- Layer 15's laws: the document's example, few facts. Conditions: none. -/
namespace Go.Proofs.Ytfdadlalnffdoaa.Mean
set_option linter.unusedVariables false
set_option linter.unusedSimpArgs false
set_option maxRecDepth 100000
open Go.ChangeShapes Go.WideShapes Go.ChangeAt Go.RowKit
open Tr (kind field rs lo hi of zero zeroR dp dp_of dp_pos Ex Exs ExIn ExsIn ElemAt Rus RuIn RuleAt wf wfL fits fitsL fitsL_mem getD_mem all_snoc all_no ret_bool small_fits)
open Fa (FaAt Near near encFl RetReals row_float)
open Re (withB leB)
open Me
theorem norm_09 : Sp.norm [(0, 9)] = [(0, 9)] := (Sp.norm_of (z := [(0, 9)]) ⟨fun r hr => by simp at hr; subst hr; decide, by simp⟩ fun _ => rfl).1
def eA : ExprP := .mk 1 4 [(0, 9)] 0 0 []
def fA : FactsP := ⟨0, 0, 0, [(3, 9)], [], []⟩
def fB : FactsP := ⟨0, 0, 0, [(3, 10)], [], []⟩
theorem hA : holds fA eA = true := by
  unfold eA
  rw [holds_k1, atom, if_neg (by decide), if_neg (by decide), if_neg (by decide), if_pos rfl, norm_09]
  rfl
theorem hB : holds fB eA = false := by
  unfold eA
  rw [holds_k1, atom, if_neg (by decide), if_neg (by decide), if_neg (by decide), if_pos rfl, norm_09]
  rfl
theorem fstB : first fB [⟨false, eA, 0, 0, 0, 0⟩, ⟨false, zero, 0, 0, 0, 0⟩] = 1 := by
  unfold first
  rw [firstF, hB, firstF, holds_zero]
  rfl
theorem small_short : ∀ (N : Nat) (e : ExprP) (d : Int), Tr.small e d = true → short N e
  | 0, _, _, _ => trivial
  | N + 1, e, d, h => by
    obtain ⟨k, f, r, l, hh, o⟩ := e
    rw [Tr.small, Tr.smallL_all] at h
    simp only [Bool.and_eq_true, decide_eq_true_eq, List.all_eq_true] at h
    obtain ⟨h0, h1, h2, h3⟩ := h
    exact ⟨by show r.length ≤ 100000; omega, fun y hy => small_short N y _ (h3 y hy)⟩
theorem okX_of {e : ExprP} {d : Int} (hw : wf e) (hs : Tr.small e d = true) (hr : Tr.right e = true) : okX e :=
  ⟨⟨hw, (small_fits (dp e) e d (Nat.le_refl _) hw hs).1⟩, fun N => small_short N e d hs, hr⟩
theorem okA : okX eA := okX_of (d := 3) (by
    unfold eA
    rw [wf]
    refine ⟨⟨by decide, by decide⟩, fun p hp => ?_, ⟨by decide, by decide⟩, ⟨by decide, by decide⟩, by rw [wfL]; trivial⟩
    simp at hp
    subst hp
    exact ⟨by decide, by decide⟩) (by decide) (by decide)
theorem okZ : okX zero := okX_of (d := 3) (by
    unfold zero
    rw [wf]
    exact ⟨⟨by decide, by decide⟩, fun p hp => by (cases hp), ⟨by decide, by decide⟩, ⟨by decide, by decide⟩, by rw [wfL]; trivial⟩) (by decide) (by decide)
theorem row_bx {W : World} {q : Nat} {a b : Int} {l : List Value} (h : Bx W q (.int .i64 a :: .int .i64 b :: l)) : Row encP 2 W W.heap.size (some ⟨q, 0, none⟩) 1 [(a, b)] :=
  ⟨rfl, fun _ => ⟨q, 0, rfl, h.1, fun j hj i v hv => by
    have : j = 0 := by simpa using hj
    subst this
    match i, hv with
    | 0, hv => injection hv with hv; rw [← hv]; exact h.2 0 _ rfl
    | 1, hv => injection hv with hv; rw [← hv]; exact h.2 1 _ rfl
    | i + 2, hv => cases hv⟩⟩
theorem ex_atom {W : World} {q : Nat} {a b k f : Int} {lo hi : Nat} (h : Bx W q [.int .i64 a, .int .i64 b]) : Ex W (.mk k f [(a, b)] lo hi []) (some ⟨q, 0, none⟩) none :=
  ⟨row_bx h, fun hn => absurd hn (by simp [of])⟩
theorem ex_zero (W : World) : Ex W zero none none := ⟨Row.none_ _ _ _, fun hn => absurd hn (by simp [of, zero])⟩
/-- A slice of rules that was just made. -/
theorem rus_new {W : World} {q : Nat} (l : List RuleP) (L : List Value) (h : Bx W q L) (hl : ∀ k (hk : k < l.length), ∃ cs : List Value, RuIn W W.heap.size l[k] cs ∧ ∀ j v, cs[j]? = some v → L[k * 11 + j]? = some v) : Rus W (some ⟨q, 0, none⟩) l := fun _ =>
  ⟨q, 0, rfl, h.1, fun k hk => by
    obtain ⟨cs, h1, h2⟩ := hl k hk
    refine ⟨cs, fun j v hv => ?_, h1⟩
    have := h.2 _ _ (h2 j v hv)
    rwa [Nat.zero_add]⟩
theorem fa_new {W : World} {q : Nat} {a b : Int} (h : Bx W q [.int .i64 a, .int .i64 b]) : FaAt W ⟨0, 0, 0, [(a, b)], [], []⟩ (some ⟨q, 0, none⟩) none none := ⟨row_bx h, Ints.none_ _ _ _ _, Ints.none_ _ _ _ _⟩
end Go.Proofs.Ytfdadlalnffdoaa.Mean
/- Layer 15's laws: arguments, few facts, MeanTells. Conditions: none beyond the law's own. -/
namespace Go.Proofs.Ytfdadlalnffdoaa.Mean
set_option linter.unusedVariables false
set_option linter.unusedSimpArgs false
set_option maxRecDepth 100000
open Go.ChangeShapes Go.WideShapes Go.ChangeAt Go.RowKit
open Tr (kind field rs lo hi of zero zeroR dp dp_of dp_pos Ex Exs ExIn ElemAt Rus RuleAt RulesIn ExprsIn wf fits wfR getD_mem all_snoc all_no ret_bool small_fits opens_expr)
open Fa (FaAt)
open Me
/-- An expression that came in. -/
theorem opens_ex : Opens Try.prog 39 fun W cs => ∃ (e : ExprP) (RA : Option Addr) (rc : Nat) (OA : Option Addr) (oc : Nat), cs = [.int .i64 (kind e), .int .i64 (field e), .slice RA (rs e).length rc, .float .f64 (lo e), .float .f64 (hi e), .slice OA (of e).length oc] ∧ Ex W e RA OA ∧ wf e :=
  opens_expr.mono fun W cs ⟨e, h, hw⟩ => by
    obtain ⟨RA, rc, OA, oc, hc, hx⟩ := h.out
    exact ⟨e, RA, rc, OA, oc, hc, hx, hw⟩
/-- Facts that came in. -/
def FIn (W : World) (x : FactsP) (SA VA QA : Option Addr) (c3 : Nat) : Prop := FaAt W x SA VA QA ∧ x.rg.length ≤ c3 ∧ c3 ≤ maxLen
theorem opens_facts : Opens Try.prog 26 fun W cs => ∃ (x : FactsP) (SA VA QA : Option Addr) (c1 c2 c3 : Nat), cs = [.int .i64 x.cl, .int .i64 x.un, .int .i64 x.fc, .slice SA x.sp.length c1, .slice VA x.vs.length c2, .slice QA x.rg.length c3] ∧ FIn W x SA VA QA c3 :=
  ((((((opens_field Try.underlying26 0 _ rfl 6 1 (by kernel_rfl) (by kernel_rfl) (opens_int Try.underlying3)).and (opens_field Try.underlying26 1 _ rfl 6 1 (by kernel_rfl) (by kernel_rfl) (opens_int Try.underlying3))).and (opens_field Try.underlying26 2 _ rfl 6 1 (by kernel_rfl) (by kernel_rfl) (opens_int Try.underlying3))).and (opens_field Try.underlying26 3 _ rfl 6 1 (by kernel_rfl) (by kernel_rfl) (opens_pairs Try.underlying23 Try.underlying53 Try.underlying3 (by kernel_rfl) (by kernel_rfl) _ _ rfl rfl rfl rfl rfl rfl))).and (opens_field Try.underlying26 4 _ rfl 6 1 (by kernel_rfl) (by kernel_rfl) (opens_ints Try.underlying24 Try.underlying3 (by kernel_rfl)))).and (opens_field Try.underlying26 5 _ rfl 6 1 (by kernel_rfl) (by kernel_rfl) (opens_ints Try.underlying24 Try.underlying3 (by kernel_rfl)))).mono
  fun W cs ⟨⟨⟨⟨⟨⟨hl, x0, e0, h0⟩, _, x1, e1, h1⟩, _, x2, e2, h2⟩, _, x3, x3n, x3c, x3z, e3, l3, m3, h3⟩, _, x4, x4n, x4c, x4z, e4, l4, m4, h4⟩, _, x5, x5n, x5c, x5z, e5, l5, m5, h5⟩ => by
    match cs, hl with
    | [c0, c1, c2, c3, c4, c5], _ =>
      simp at e0 e1 e2 e3 e4 e5
      subst e0 e1 e2 e3 e4 e5
      obtain rfl : x3z.length = x3n := h3.1.1
      obtain rfl : x4z.length = x4n := h4.1.1
      obtain rfl : x5z.length = x5n := h5.1.1
      exact ⟨⟨x0, x1, x2, x3z, x4z, x5z⟩, x3, x4, x5, x3c, x4c, x5c, rfl, ⟨h3.1, h4.1, h5.1⟩, l5, m5⟩
/-- Few numbers. -/
def fewB (x : FactsP) : Bool := decide (x.sp.length ≤ 20) && (decide (x.vs.length ≤ 300) && decide (x.rg.length ≤ 300))
theorem fewB_fewF {x : FactsP} (h : fewB x = true) : fewF x := by
  unfold fewB at h
  simp only [Bool.and_eq_true, decide_eq_true_eq] at h
  exact ⟨by omega, by omega, by omega⟩
end Go.Proofs.Ytfdadlalnffdoaa.Mean
