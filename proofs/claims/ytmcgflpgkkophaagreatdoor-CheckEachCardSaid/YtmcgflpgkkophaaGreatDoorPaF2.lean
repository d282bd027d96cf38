/- What rules that came in, and rules that were read, are. Conditions: none. -/
import Derived.Test.YtmcgflpgkkophaaGreatDoorPaR
namespace Go.Proofs.YtmcgflpgkkophaaGreatDoor.PaF2
set_option linter.unusedVariables false
open Go.ChangeShapes Go.WideShapes Go.ChangeAt Go.RowKit
open Tr
theorem wf_float {b : Nat} (h : (Lit.float .f64 b).wf = true) : b < 18446744073709551616 := by simpa [Lit.wf] using h
theorem wf_bits_all : ∀ N : Nat, (∀ e, dp e ≤ N → wf e → Pa.bits e) ∧ (∀ l, dpL l ≤ N → wfL l → Pa.bitsL l) := by
  intro N
  induction N with
  | zero =>
    refine ⟨fun e h => absurd (dp_pos e) (by omega), fun l h => ?_⟩
    cases l with
    | nil => intro _; rw [Pa.bitsL]; trivial
    | cons e l => rw [dpL] at h; have := dp_pos e; omega
  | succ N ih =>
    have h1 : ∀ e, dp e ≤ N + 1 → wf e → Pa.bits e := by
      intro e hd hb
      obtain ⟨k, f, r, l, h, o⟩ := e
      rw [dp] at hd
      rw [wf] at hb
      rw [Pa.bits]
      exact ⟨⟨wf_float hb.2.2.1.1, wf_float hb.2.2.1.2⟩, ih.2 o (by omega) hb.2.2.2.2⟩
    refine ⟨h1, fun l => ?_⟩
    induction l with
    | nil => intro _ _; rw [Pa.bitsL]; trivial
    | cons e l il =>
      intro hd hb
      rw [dpL] at hd
      rw [wfL] at hb
      rw [Pa.bitsL]
      exact ⟨h1 e (by omega) hb.1, il (by omega) hb.2⟩
theorem wf_bits {e : ExprP} (h : wf e) : Pa.bits e := (wf_bits_all _).1 e (Nat.le_refl _) h
theorem len_szL : ∀ l : List ExprP, l.length ≤ Pa.szL l
  | [] => Nat.zero_le _
  | e :: l => by
    have := Pa.sz_pos e
    have := len_szL l
    rw [Pa.szL, List.length_cons]; omega
theorem fits_sz_all : ∀ N : Nat, (∀ e, dp e ≤ N → Pa.bits e → Pa.sz e ≤ 1000000 → fits e) ∧ (∀ l, dpL l ≤ N → Pa.bitsL l → Pa.szL l ≤ 1000000 → fitsL l) := by
  intro N
  induction N with
  | zero =>
    refine ⟨fun e h => absurd (dp_pos e) (by omega), fun l h => ?_⟩
    cases l with
    | nil => intro _ _; rw [fitsL]; trivial
    | cons e l => rw [dpL] at h; have := dp_pos e; omega
  | succ N ih =>
    have h1 : ∀ e, dp e ≤ N + 1 → Pa.bits e → Pa.sz e ≤ 1000000 → fits e := by
      intro e hd hb hs
      obtain ⟨k, f, r, l, h, o⟩ := e
      rw [dp] at hd
      rw [Pa.bits] at hb
      rw [Pa.sz] at hs
      have := len_szL o
      rw [fits]
      exact ⟨⟨by omega, by omega⟩, hb.1, ih.2 o (by omega) hb.2 (by omega)⟩
    refine ⟨h1, fun l => ?_⟩
    induction l with
    | nil => intro _ _ _; rw [fitsL]; trivial
    | cons e l il =>
      intro hd hb hs
      rw [dpL] at hd
      rw [Pa.bitsL] at hb
      rw [Pa.szL] at hs
      rw [fitsL]
      exact ⟨h1 e (by omega) hb.1 (by omega), il (by omega) hb.2 (by omega)⟩
theorem fits_sz {e : ExprP} (hb : Pa.bits e) (hs : Pa.sz e ≤ 1000000) : fits e := (fits_sz_all _).1 e (Nat.le_refl _) hb hs
theorem fits_lines : ∀ (l : List RuleP) (i : Int), (∀ r ∈ l, fits r.when_) → ∀ r ∈ Pa.lines i l, fits r.when_
  | [], _, _, r, h => by cases h
  | x :: l, i, hf, r, h => by
    rw [Pa.lines] at h
    rcases List.mem_cons.1 h with rfl | h
    · exact hf x (List.mem_cons_self ..)
    · exact fits_lines l (i + 1) (fun y hy => hf y (List.mem_cons_of_mem _ hy)) r h
theorem lines_len : ∀ (l : List RuleP) (i : Int), (Pa.lines i l).length = l.length
  | [], _ => rfl
  | x :: l, i => by rw [Pa.lines, List.length_cons, List.length_cons, lines_len l]
/-- What few rules are. -/
theorem few_back {l : List RuleP} (hf : few l 6 = true) (hw : ∀ r ∈ l, wfR r) : l.length ≤ 6 ∧ (∀ r ∈ l, fits r.when_) ∧ (∀ r ∈ l, ruleR r = true → (rtxt r).length ≤ 3000000) ∧ (∀ r ∈ l, Pa.bits r.when_) := by
  have h0 := hf
  rw [few, Bool.and_eq_true, decide_eq_true_eq, List.all_eq_true] at hf
  refine ⟨hf.1, fun r hr => (small_fits _ _ 4 (Nat.le_refl _) (hw r hr).1 (hf.2 r hr)).1, fun r hr _ => ?_, fun r hr => wf_bits (hw r hr).1⟩
  have h1 := txt_len _ r.when_ 4 (Nat.le_refl _) (hf.2 r hr)
  have e4 : 7 ^ (4 : Int).toNat = 2401 := by decide
  rw [e4] at h1
  have h2 := Gu.put_len r.num
  have h3 := Gu.put_len r.per
  have h4 := Gu.put_len r.burst
  have w1 : wAllow.length = 5 := rfl
  have w2 : wDeny.length = 4 := rfl
  have w3 : wWhen.length = 6 := rfl
  have w4 : wRate.length = 6 := rfl
  have w5 : wPer.length = 5 := rfl
  have w6 : wBurst.length = 7 := rfl
  unfold rtxt
  rw [List.length_append, List.length_append, List.length_append]
  have a1 : (if r.allow then wAllow else wDeny).length ≤ 5 := by split <;> omega
  have a2 : (if kind r.when_ = 0 then [] else wWhen ++ txt r.when_).length ≤ 6 + 300 * 2401 := by
    split
    · simp
    · rw [List.length_append]; omega
  have a3 : (if r.per = 0 then [] else wRate ++ (Gu.put r.num ++ (wPer ++ (Gu.put r.per ++ (wBurst ++ Gu.put r.burst))))).length ≤ 66 := by
    split
    · simp
    · simp only [List.length_append]; omega
  have a4 : ([59, 10] : List UInt8).length = 2 := rfl
  omega
/-- What rules that were read are. -/
theorem read_facts {s : List UInt8} {a : List RuleP} {i : Int} (h : Pa.text s = (a, i, 0)) : a.length ≤ 64 ∧ (∀ r ∈ a, fits r.when_) ∧ (∀ r ∈ a, ruleR r = true → (rtxt r).length ≤ 3000000) ∧ (∀ r ∈ a, Pa.bits r.when_) ∧ textOk a = true := by
  obtain ⟨h1, h2, h3, h4⟩ := Pa.read_good h
  refine ⟨h4, fun r hr => fits_sz (h2 r hr).1 (by have := (h2 r hr).2.2; omega), fun r hr hR => ?_, fun r hr => (h2 r hr).1, h1⟩
  have := (Pa.rtxt_sz hR).1
  have := (h2 r hr).2.2
  omega
theorem texts_len : ∀ (l : List RuleP), textOk l = true → (∀ r ∈ l, ruleR r = true → (rtxt r).length ≤ 3000000) → (textsL l).length ≤ 3000000 * l.length
  | [], _, _ => by simp [textsL]
  | r :: l, h, hb => by
    unfold textOk at h
    rw [List.all_cons, Bool.and_eq_true] at h
    have h1 := hb r (List.mem_cons_self ..) h.1
    have h2 := texts_len l h.2 fun x hx => hb x (List.mem_cons_of_mem _ hx)
    have e2 : textsL (r :: l) = rtxt r ++ textsL l := by simp [textsL]
    rw [e2, List.length_append, List.length_cons]; omega
theorem ret_true {b : Bool} (h : b = true) : (Ending.returned (.bool b)) = .returned (.bool true) := by rw [h]
end Go.Proofs.YtmcgflpgkkophaaGreatDoor.PaF2
