/- Layer 15's laws: the document's example, few facts. Conditions: none. -/
import Derived.Test.YtnbjhcemonkhhaaMe
import Derived.Test.YtnbjhcemonkhhaaOpen
import Derived.Test.YtnbjhcemonkhhaaTrY
namespace Go.Proofs.Ytnbjhcemonkhhaa.Mean
set_option linter.unusedVariables false
set_option linter.unusedSimpArgs false
set_option maxRecDepth 100000
open Go.ChangeShapes Go.WideShapes Go.ChangeAt Go.RowKit
open Tr (kind field rs lo hi of zero zeroR dp dp_of dp_pos Ex Exs ExIn ExsIn ElemAt Rus RuIn RuleAt wf wfL fits fitsL fitsL_mem getD_mem all_snoc all_no ret_bool small_fits)
open Fa (FaAt Near near encFl RetReals row_float)
open Re (withB leB)
open Me
theorem norm_09 : Sp.norm [(0, 9)] = [(0, 9)] := (Sp.norm_of (z := [(0, 9)]) ⟨fun r hr => by simp at hr; subst hr; decide, by simp⟩ fun _ => rfl).1
def eA : ExprP := .mk 1 4 [(0, 9)] 0 0 []
def fA : FactsP := ⟨0, 0, 0, [(3, 9)], [], []⟩
def fB : FactsP := ⟨0, 0, 0, [(3, 10)], [], []⟩
theorem hA : holds fA eA = true := by
  unfold eA
  rw [holds_k1, atom, if_neg (by decide), if_neg (by decide), if_neg (by decide), if_pos rfl, norm_09]
  rfl
theorem hB : holds fB eA = false := by
  unfold eA
  rw [holds_k1, atom, if_neg (by decide), if_neg (by decide), if_neg (by decide), if_pos rfl, norm_09]
  rfl
theorem fstB : first fB [⟨false, eA, 0, 0, 0, 0⟩, ⟨false, zero, 0, 0, 0, 0⟩] = 1 := by
  unfold first
  rw [firstF, hB, firstF, holds_zero]
  rfl
theorem small_short : ∀ (N : Nat) (e : ExprP) (d : Int), Tr.small e d = true → short N e
  | 0, _, _, _ => trivial
  | N + 1, e, d, h => by
    obtain ⟨k, f, r, l, hh, o⟩ := e
    rw [Tr.small, Tr.smallL_all] at h
    simp only [Bool.and_eq_true, decide_eq_true_eq, List.all_eq_true] at h
    obtain ⟨h0, h1, h2, h3⟩ := h
    exact ⟨by show r.length ≤ 100000; omega, fun y hy => small_short N y _ (h3 y hy)⟩
theorem okX_of {e : ExprP} {d : Int} (hw : wf e) (hs : Tr.small e d = true) (hr : Tr.right e = true) : okX e :=
  ⟨⟨hw, (small_fits (dp e) e d (Nat.le_refl _) hw hs).1⟩, fun N => small_short N e d hs, hr⟩
theorem okA : okX eA := okX_of (d := 3) (by
    unfold eA
    rw [wf]
    refine ⟨⟨by decide, by decide⟩, fun p hp => ?_, ⟨by decide, by decide⟩, ⟨by decide, by decide⟩, by rw [wfL]; trivial⟩
    simp at hp
    subst hp
    exact ⟨by decide, by decide⟩) (by decide) (by decide)
theorem okZ : okX zero := okX_of (d := 3) (by
    unfold zero
    rw [wf]
    exact ⟨⟨by decide, by decide⟩, fun p hp => by (cases hp), ⟨by decide, by decide⟩, ⟨by decide, by decide⟩, by rw [wfL]; trivial⟩) (by decide) (by decide)
theorem row_bx {W : World} {q : Nat} {a b : Int} {l : List Value} (h : Bx W q (.int .i64 a :: .int .i64 b :: l)) : Row encP 2 W W.heap.size (some ⟨q, 0, none⟩) 1 [(a, b)] :=
  ⟨rfl, fun _ => ⟨q, 0, rfl, h.1, fun j hj i v hv => by
    have : j = 0 := by simpa using hj
    subst this
    match i, hv with
    | 0, hv => injection hv with hv; rw [← hv]; exact h.2 0 _ rfl
    | 1, hv => injection hv with hv; rw [← hv]; exact h.2 1 _ rfl
    | i + 2, hv => cases hv⟩⟩
theorem ex_atom {W : World} {q : Nat} {a b k f : Int} {lo hi : Nat} (h : Bx W q [.int .i64 a, .int .i64 b]) : Ex W (.mk k f [(a, b)] lo hi []) (some ⟨q, 0, none⟩) none :=
  ⟨row_bx h, fun hn => absurd hn (by simp [of])⟩
theorem ex_zero (W : World) : Ex W zero none none := ⟨Row.none_ _ _ _, fun hn => absurd hn (by simp [of, zero])⟩
/-- A slice of rules that was just made. -/
theorem rus_new {W : World} {q : Nat} (l : List RuleP) (L : List Value) (h : Bx W q L) (hl : ∀ k (hk : k < l.length), ∃ cs : List Value, RuIn W W.heap.size l[k] cs ∧ ∀ j v, cs[j]? = some v → L[k * 11 + j]? = some v) : Rus W (some ⟨q, 0, none⟩) l := fun _ =>
  ⟨q, 0, rfl, h.1, fun k hk => by
    obtain ⟨cs, h1, h2⟩ := hl k hk
    refine ⟨cs, fun j v hv => ?_, h1⟩
    have := h.2 _ _ (h2 j v hv)
    rwa [Nat.zero_add]⟩
theorem fa_new {W : World} {q : Nat} {a b : Int} (h : Bx W q [.int .i64 a, .int .i64 b]) : FaAt W ⟨0, 0, 0, [(a, b)], [], []⟩ (some ⟨q, 0, none⟩) none none := ⟨row_bx h, Ints.none_ _ _ _ _, Ints.none_ _ _ _ _⟩
set_option maxHeartbeats 4000000 in
theorem awake_any (w : World) : Calls Try.prog 21 #[] w fun e w' => e = .returned (.bool true) ∧ Keep w w' := by
  obtain ⟨X, hX⟩ : ∃ X, X = (((((w.alloc (.cells #[.int .i64 0, .int .i64 9] 60)).alloc (.cells #[.int .i64 1, .int .i64 4, .slice (some ⟨w.heap.size, 0, none⟩) 1 1, .float .f64 0, .float .f64 0, .slice none 0 0] 43)).alloc (.cells #[.int .i64 3, .int .i64 9] 60)).alloc (.cells #[.int .i64 0, .int .i64 0, .int .i64 0, .slice (some ⟨w.heap.size + 1 + 1, 0, none⟩) 1 1, .slice none 0 0, .slice none 0 0] 36)).alloc (.cells #[.int .i64 3, .int .i64 10] 60)).alloc (.cells #[.int .i64 0, .int .i64 0, .int .i64 0, .slice (some ⟨w.heap.size + 1 + 1 + 1 + 1, 0, none⟩) 1 1, .slice none 0 0, .slice none 0 0] 36) := ⟨_, rfl⟩
  have kX : Keep w X := by rw [hX]; exact ((((((Keep.refl w).alloc _).alloc _).alloc _).alloc _).alloc _).alloc _
  have b0 : Bx X (w.heap.size) [.int .i64 0, .int .i64 9] := by rw [hX]; exact ((((((Bx.newq (by simp)).alloc _).alloc _).alloc _).alloc _).alloc _)
  have b1 : Bx X (w.heap.size + 1) [.int .i64 1, .int .i64 4, .slice (some ⟨w.heap.size, 0, none⟩) 1 1, .float .f64 0, .float .f64 0, .slice none 0 0] := by rw [hX]; exact (((((Bx.newq (by simp)).alloc _).alloc _).alloc _).alloc _)
  have b2 : Bx X (w.heap.size + 1 + 1) [.int .i64 3, .int .i64 9] := by rw [hX]; exact ((((Bx.newq (by simp)).alloc _).alloc _).alloc _)
  have b3 : Bx X (w.heap.size + 1 + 1 + 1) [.int .i64 0, .int .i64 0, .int .i64 0, .slice (some ⟨w.heap.size + 1 + 1, 0, none⟩) 1 1, .slice none 0 0, .slice none 0 0] := by rw [hX]; exact (((Bx.newq (by simp)).alloc _).alloc _)
  have b4 : Bx X (w.heap.size + 1 + 1 + 1 + 1) [.int .i64 3, .int .i64 10] := by rw [hX]; exact ((Bx.newq (by simp)).alloc _)
  have b5 : Bx X (w.heap.size + 1 + 1 + 1 + 1 + 1) [.int .i64 0, .int .i64 0, .int .i64 0, .slice (some ⟨w.heap.size + 1 + 1 + 1 + 1, 0, none⟩) 1 1, .slice none 0 0, .slice none 0 0] := by rw [hX]; exact (Bx.newq (by simp))
  have F6 := Lib.hid (fun W (hk : Keep X W) => (⟨(b1.kept hk).six, (b3.kept hk).six, (b5.kept hk).six⟩ : _ ∧ _ ∧ _))
  have CA := Lib.hid (fun W (hk : Keep X W) => (by
    have h := holdsN fA (some ⟨w.heap.size + 1 + 1, 0, none⟩) none none 1 0 0 (Nat.le_refl _) (Nat.zero_le _) ⟨by decide, by decide, by decide⟩ (dp eA) eA (some ⟨w.heap.size, 0, none⟩) none 1 0 W (Nat.le_refl _) okA.1 (okA.2.1 _) okA.2.2 (ex_atom (b0.kept hk)) (fa_new (b2.kept hk))
    rw [hA] at h
    exact h : Calls Try.prog 22 #[.agg #[.int .i64 1, .int .i64 4, .slice (some ⟨w.heap.size, 0, none⟩) 1 1, .float .f64 0, .float .f64 0, .slice none 0 0], .agg #[.int .i64 0, .int .i64 0, .int .i64 0, .slice (some ⟨w.heap.size + 1 + 1, 0, none⟩) 1 1, .slice none 0 0, .slice none 0 0]] W fun e w' => e = .returned (.bool true) ∧ Keep W w'))
  have CB := Lib.hid (fun W (hk : Keep X W) => (by
    have h := holdsN fB (some ⟨w.heap.size + 1 + 1 + 1 + 1, 0, none⟩) none none 1 0 0 (Nat.le_refl _) (Nat.zero_le _) ⟨by decide, by decide, by decide⟩ (dp eA) eA (some ⟨w.heap.size, 0, none⟩) none 1 0 W (Nat.le_refl _) okA.1 (okA.2.1 _) okA.2.2 (ex_atom (b0.kept hk)) (fa_new (b4.kept hk))
    rw [hB] at h
    exact h : Calls Try.prog 22 #[.agg #[.int .i64 1, .int .i64 4, .slice (some ⟨w.heap.size, 0, none⟩) 1 1, .float .f64 0, .float .f64 0, .slice none 0 0], .agg #[.int .i64 0, .int .i64 0, .int .i64 0, .slice (some ⟨w.heap.size + 1 + 1 + 1 + 1, 0, none⟩) 1 1, .slice none 0 0, .slice none 0 0]] W fun e w' => e = .returned (.bool false) ∧ Keep W w'))
  have CF := Lib.hid (fun W (hk : Keep X W) => (by
    have kW := (Keep.refl W).alloc (.cells #[.bool false, .int .i64 1, .int .i64 4, .slice (some ⟨w.heap.size, 0, none⟩) 1 1, .float .f64 0, .float .f64 0, .slice none 0 0, .int .i64 0, .int .i64 0, .int .i64 0, .int .i64 0, .bool false, .int .i64 0, .int .i64 0, .slice none 0 0, .float .f64 0, .float .f64 0, .slice none 0 0, .int .i64 0, .int .i64 0, .int .i64 0, .int .i64 0] 52)
    have hR : Rus (W.alloc (.cells #[.bool false, .int .i64 1, .int .i64 4, .slice (some ⟨w.heap.size, 0, none⟩) 1 1, .float .f64 0, .float .f64 0, .slice none 0 0, .int .i64 0, .int .i64 0, .int .i64 0, .int .i64 0, .bool false, .int .i64 0, .int .i64 0, .slice none 0 0, .float .f64 0, .float .f64 0, .slice none 0 0, .int .i64 0, .int .i64 0, .int .i64 0, .int .i64 0] 52)) (some ⟨W.heap.size, 0, none⟩) [⟨false, eA, 0, 0, 0, 0⟩, ⟨false, zero, 0, 0, 0, 0⟩] := rus_new _ [.bool false, .int .i64 1, .int .i64 4, .slice (some ⟨w.heap.size, 0, none⟩) 1 1, .float .f64 0, .float .f64 0, .slice none 0 0, .int .i64 0, .int .i64 0, .int .i64 0, .int .i64 0, .bool false, .int .i64 0, .int .i64 0, .slice none 0 0, .float .f64 0, .float .f64 0, .slice none 0 0, .int .i64 0, .int .i64 0, .int .i64 0, .int .i64 0] (Bx.newq rfl) (fun k hk' => by
      match k, hk' with
      | 0, _ => exact ⟨_, ⟨_, rfl, rfl, (ex_atom (k := 1) (f := 4) (lo := 0) (hi := 0) (b0.kept (hk.trans kW))).into 1 0⟩, fun j v hv => by
          match j, hv with
          | 0, hv => exact hv
          | 1, hv => exact hv
          | 2, hv => exact hv
          | 3, hv => exact hv
          | 4, hv => exact hv
          | 5, hv => exact hv
          | 6, hv => exact hv
          | 7, hv => exact hv
          | 8, hv => exact hv
          | 9, hv => exact hv
          | 10, hv => exact hv
          | j + 11, hv => cases hv⟩
      | 1, _ => exact ⟨_, ⟨_, rfl, rfl, (ex_zero _).into 0 0⟩, fun j v hv => by
          match j, hv with
          | 0, hv => exact hv
          | 1, hv => exact hv
          | 2, hv => exact hv
          | 3, hv => exact hv
          | 4, hv => exact hv
          | 5, hv => exact hv
          | 6, hv => exact hv
          | 7, hv => exact hv
          | 8, hv => exact hv
          | 9, hv => exact hv
          | 10, hv => exact hv
          | j + 11, hv => cases hv⟩)
    have h := first_any (some ⟨W.heap.size, 0, none⟩) 2 [⟨false, eA, 0, 0, 0, 0⟩, ⟨false, zero, 0, 0, 0, 0⟩] fB (some ⟨w.heap.size + 1 + 1 + 1 + 1, 0, none⟩) none none 1 0 0 _ (by decide) hR (fun r hr => by
      simp at hr
      rcases hr with rfl | rfl
      · exact okA
      · exact okZ) (Nat.le_refl _) (Nat.zero_le _) ⟨by decide, by decide, by decide⟩ (fa_new (b4.kept (hk.trans kW)))
    rw [fstB] at h
    exact h.mono fun e w' hh => ⟨hh.1, kW.trans hh.2⟩ : Calls Try.prog 24 #[.slice (some ⟨W.heap.size, 0, none⟩) 2 2, .agg #[.int .i64 0, .int .i64 0, .int .i64 0, .slice (some ⟨w.heap.size + 1 + 1 + 1 + 1, 0, none⟩) 1 1, .slice none 0 0, .slice none 0 0]] (W.alloc (.cells #[.bool false, .int .i64 1, .int .i64 4, .slice (some ⟨w.heap.size, 0, none⟩) 1 1, .float .f64 0, .float .f64 0, .slice none 0 0, .int .i64 0, .int .i64 0, .int .i64 0, .int .i64 0, .bool false, .int .i64 0, .int .i64 0, .slice none 0 0, .float .f64 0, .float .f64 0, .slice none 0 0, .int .i64 0, .int .i64 0, .int .i64 0, .int .i64 0] 52)) fun e w' => e = .returned (.int .i64 1) ∧ Keep W w'))
  clear b0 b1 b2 b3 b4 b5
  have hsf := Tr.store_float Try.prog
  go_enter Try.func21, Try.ntmps21
  go_wp2_with fail
  rw [← hX]
  clear hX
  refine (CA.out _ (Keep.refl _)).mono ?_
  rintro e w1 ⟨rfl, k1⟩
  obtain ⟨⟨a0, a1, a2, a3, a4, a5⟩, ⟨c0, c1, c2, c3, c4, c5⟩, ⟨d0, d1, d2, d3, d4, d5⟩⟩ := F6.out _ k1
  go_wp2_with fail
  refine (CB.out _ k1).mono ?_
  rintro e w2 ⟨rfl, k2⟩
  have k12 := k1.trans k2
  clear a0 a1 a2 a3 a4 a5 c0 c1 c2 c3 c4 c5 d0 d1 d2 d3 d4 d5
  obtain ⟨⟨a0, a1, a2, a3, a4, a5⟩, ⟨c0, c1, c2, c3, c4, c5⟩, ⟨d0, d1, d2, d3, d4, d5⟩⟩ := F6.out _ k12
  obtain ⟨x0, x1, x2, x3, x4, x5⟩ := (F6.out _ (k12.alloc (.cells #[.bool false, .int .i64 1, .int .i64 4, .slice (some ⟨w.heap.size, 0, none⟩) 1 1, .float .f64 0, .float .f64 0, .slice none 0 0, .int .i64 0, .int .i64 0, .int .i64 0, .int .i64 0, .bool false, .int .i64 0, .int .i64 0, .slice none 0 0, .float .f64 0, .float .f64 0, .slice none 0 0, .int .i64 0, .int .i64 0, .int .i64 0, .int .i64 0] 52))).2.2
  go_wp2_with fail
  refine (CF.out _ k12).mono ?_
  rintro e w3 ⟨rfl, k3⟩
  go_wp2
  go_ret
  exact ⟨rfl, (kX.trans k12).trans k3⟩
end Go.Proofs.Ytnbjhcemonkhhaa.Mean
