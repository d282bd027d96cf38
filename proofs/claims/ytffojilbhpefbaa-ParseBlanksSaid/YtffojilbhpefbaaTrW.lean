/- Layer 11's reference: an expression's text. Conditions: lists at most a million. -/
import Derived.Test.YtffojilbhpefbaaTrV
import Derived.RegionTactic
namespace Go.Proofs.Ytffojilbhpefbaa.Tr
set_option linter.unusedVariables false
open Go.ChangeShapes Go.WideShapes Go.ChangeAt Go.RowKit
open Go.Proofs.Ytffojilbhpefbaa.Fp (sameB)
open Go.Proofs.Ytffojilbhpefbaa.Re (tOk tL)
theorem txtL_snoc (k : Int) : ∀ (l : List ExprP) (e : ExprP), txtL k (l ++ [e]) = if l.length = 0 then brack (txt e) (must k (kind e)) else txtL k l ++ (sep k ++ brack (txt e) (must k (kind e)))
  | [], e => by
    show txtL k [e] = brack (txt e) (must k (kind e))
    rw [txtL]; simp
  | a :: l, e => by
    rw [List.cons_append, txtL, txtL_snoc k l e, if_neg (by simp), txtL]
    cases l with
    | nil => simp
    | cons b l => simp
theorem brack_len (t : List UInt8) (m : Bool) : t.length ≤ (brack t m).length ∧ (brack t m).length ≤ t.length + 2 := by
  unfold brack; split <;> simp <;> omega
theorem txtL_take (k : Int) (l : List ExprP) (j : Nat) : (txtL k (l.take j)).length ≤ (txtL k l).length := by
  have h : ∀ (m a : List ExprP), (txtL k a).length ≤ (txtL k (a ++ m)).length := by
    intro m
    induction m with
    | nil => intro a; rw [List.append_nil]; exact Nat.le_refl _
    | cons x m ih =>
      intro a
      have h1 := ih (a ++ [x])
      rw [List.append_assoc, List.singleton_append] at h1
      refine Nat.le_trans ?_ h1
      rw [txtL_snoc]
      split
      · rename_i h0
        rw [List.eq_nil_of_length_eq_zero h0, txtL]; simp
      · rw [List.length_append]; omega
  have := h (l.drop j) (l.take j)
  rwa [List.take_append_drop] at this
theorem right_cases {k f : Int} {r : List (Int × Int)} {l h : Nat} {o : List ExprP} (hr : right (.mk k f r l h o) = true) :
    (k = 1 ∧ 1 ≤ f ∧ f ≤ 6) ∨ (k = 0 ∧ o = []) ∨ (k = 2 ∧ ∃ x, o = [x] ∧ kind x ≠ 0 ∧ right x = true) ∨ ((k = 3 ∨ k = 4) ∧ 2 ≤ o.length ∧ ∀ x ∈ o, kind x ≠ 0 ∧ right x = true) := by
  have hall : rightL o = true → ∀ x ∈ o, kind x ≠ 0 ∧ right x = true := by
    intro h x hx
    rw [rightL_all, List.all_eq_true] at h
    have := h x hx
    simp only [Bool.and_eq_true, Bool.not_eq_true', beq_eq_false_iff_ne] at this
    exact this
  rw [right] at hr
  by_cases k1 : k = 1
  · rw [if_pos k1, atomR] at hr
    simp only [Bool.and_eq_true, decide_eq_true_eq] at hr
    exact .inl ⟨k1, hr.2.1, hr.2.2.1⟩
  · rw [if_neg k1, Bool.and_eq_true] at hr
    obtain ⟨_, hr⟩ := hr
    rw [Bool.and_eq_true] at hr
    obtain ⟨hm, hR⟩ := hr
    rw [manyR] at hm
    by_cases k0 : k = 0
    · rw [if_pos k0] at hm
      exact .inr (.inl ⟨k0, List.eq_nil_of_length_eq_zero (by simpa using hm)⟩)
    · rw [if_neg k0] at hm
      by_cases k2 : k = 2
      · rw [if_pos k2] at hm
        have hm : o.length = 1 := by simpa using hm
        match o, hm with
        | [x], _ =>
          obtain ⟨h1, h2⟩ := hall hR x (List.mem_cons_self ..)
          exact .inr (.inr (.inl ⟨k2, x, rfl, h1, h2⟩))
      · rw [if_neg k2] at hm
        by_cases k3 : k = 3 ∨ k = 4
        · rw [if_pos k3] at hm
          exact .inr (.inr (.inr ⟨k3, by simpa using hm, hall hR⟩))
        · rw [if_neg k3] at hm; exact absurd hm (by decide)
set_option maxHeartbeats 4000000 in
theorem text_real (f : Int) (hf : f = 6) (RA OA : Option Addr) (rc oc : Nat) (r : List (Int × Int)) (l h : Nat) (o : List ExprP) (w : World) (hl64 : l < 18446744073709551616) (hh64 : h < 18446744073709551616) (hE : Ex w (.mk 1 f r l h o) RA OA) :
    Calls Try.prog 16 #[.agg #[.int .i64 1, .int .i64 f, .slice RA r.length rc, .float .f64 l, .float .f64 h, .slice OA o.length oc]] w fun e' w' => e' = .returned (.string (st (txt (.mk 1 f r l h o)))) ∧ Keep w w' := by
  subst hf
  obtain ⟨tl, htl⟩ : ∃ t, t = tL l := ⟨_, rfl⟩
  obtain ⟨th, hth⟩ : ∃ t, t = tL h := ⟨_, rfl⟩
  have n1 : tl.length ≤ 17 := by rw [htl]; exact Re.tL_len l
  have n2 : th.length ≤ 17 := by rw [hth]; exact Re.tL_len h
  have CL := Lib.hid (show ∀ W, Calls Try.prog 25 #[.float .f64 l] W fun e w' => e = .returned (.tuple #[.string (st tl), .bool (tOk l)]) ∧ Keep W w' from fun W => by rw [htl]; exact Ref3.text_any l hl64 W)
  have CH := Lib.hid (show ∀ W, Calls Try.prog 25 #[.float .f64 h] W fun e w' => e = .returned (.tuple #[.string (st th), .bool (tOk h)]) ∧ Keep W w' from fun W => by rw [hth]; exact Ref3.text_any h hh64 W)
  obtain ⟨q1, hq1⟩ : ∃ q, q = wReal ++ tl := ⟨_, rfl⟩
  obtain ⟨q2, hq2⟩ : ∃ q, q = q1 ++ wTo := ⟨_, rfl⟩
  obtain ⟨q3, hq3⟩ : ∃ q, q = q2 ++ th := ⟨_, rfl⟩
  have m1 : q1.length ≤ 22 := by rw [hq1, List.length_append]; have : wReal.length = 5 := rfl; omega
  have m2 : q2.length ≤ 26 := by rw [hq2, List.length_append]; have : wTo.length = 4 := rfl; omega
  have a1 : ∀ W : World, (Op.stringOp .add ⟨#[114, 101, 97, 108, 32]⟩ (st tl)).run Try.prog W = .ok (.string (st q1)) W := by rw [hq1]; exact add_st wReal tl (by have : wReal.length = 5 := rfl; omega)
  have a2 : ∀ W : World, (Op.stringOp .add (st q1) ⟨#[32, 116, 111, 32]⟩).run Try.prog W = .ok (.string (st q2)) W := by rw [hq2]; exact add_st q1 wTo (by have : wTo.length = 4 := rfl; omega)
  have a3 : ∀ W : World, (Op.stringOp .add (st q2) (st th)).run Try.prog W = .ok (.string (st q3)) W := by rw [hq3]; exact add_st q2 th (by omega)
  have HF := Lib.hid (show txt (.mk 1 6 r l h o) = q3 by rw [txt, if_pos rfl, if_pos rfl, hq3, hq2, hq1, htl, hth]; simp)
  clear hq1 hq2 hq3 htl hth m1 m2 n1 n2 hl64 hh64
  generalize tOk l = bl at *
  generalize tOk h = bh at *
  obtain ⟨X, hX⟩ : ∃ X, X = w.alloc (.cells #[.int .i64 1, .int .i64 6, .slice RA r.length rc, .float .f64 l, .float .f64 h, .slice OA o.length oc] 39) := ⟨_, rfl⟩
  have hkX : Keep w X := by rw [hX]; exact (Keep.refl w).alloc _
  have hltX : w.heap.size < X.heap.size := by rw [hX]; simp
  have hEl : ElemAt X (.mk 1 6 r l h o) RA OA rc oc w.heap.size 0 := by rw [hX]; exact ElemAt.new w (.mk 1 6 r l h o) RA OA rc oc 39
  have HB := Lib.hid (show ∀ W, Keep X W → W.cell? ⟨w.heap.size, 0, none⟩ = some (.int .i64 1) ∧ W.cell? ⟨w.heap.size, 1, none⟩ = some (.int .i64 6) ∧ W.cell? ⟨w.heap.size, 2, none⟩ = some (.slice RA r.length rc) ∧ W.cell? ⟨w.heap.size, 3, none⟩ = some (.float .f64 l) ∧ W.cell? ⟨w.heap.size, 4, none⟩ = some (.float .f64 h) ∧ W.cell? ⟨w.heap.size, 5, none⟩ = some (.slice OA o.length oc) from fun W hk => hEl.kept hltX hk)
  have hEX := hE.kept hkX
  clear hEl hE hltX
  clear hEX
  go_enter Try.func16, Try.ntmps16
  go_wp2_with fail
  rw [← hX]
  clear hX
  refine (CL.out _).mono ?_
  rintro e w1 ⟨rfl, k1⟩
  obtain ⟨b0, b1, b2, b3, b4, b5⟩ := HB.out _ k1
  go_wp2_with fail
  refine (CH.out _).mono ?_
  rintro e w2 ⟨rfl, k2⟩
  go_wp2
  go_ret
  exact ⟨ret_str (by rw [HF.out]), (hkX.trans k1).trans k2⟩

theorem keep_drew' {a b : World} (h : Keep a b) : Keep a b.drew := h.trans ((Quiet.refl b).drew).keep
theorem word_len (f : Int) : (word f).length ≤ 6 := by
  unfold word
  repeat' split
  all_goals decide
set_option maxHeartbeats 4000000 in
theorem text_word (f : Int) (hf1 : 1 ≤ f) (hf5 : f ≤ 5) (RA OA : Option Addr) (rc oc : Nat) (r : List (Int × Int)) (l h : Nat) (o : List ExprP) (w : World) (hrl : r.length ≤ 1000000) (hE : Ex w (.mk 1 f r l h o) RA OA) :
    Calls Try.prog 16 #[.agg #[.int .i64 1, .int .i64 f, .slice RA r.length rc, .float .f64 l, .float .f64 h, .slice OA o.length oc]] w fun e' w' => e' = .returned (.string (st (txt (.mk 1 f r l h o)))) ∧ Keep w w' := by
  obtain ⟨rt, hrt⟩ : ∃ t, t = rng r := ⟨_, rfl⟩
  have n1 : rt.length ≤ 34000000 := by rw [hrt]; have := rng_len r; omega
  obtain ⟨q1, hq1⟩ : ∃ q, q = word f ++ [32] := ⟨_, rfl⟩
  obtain ⟨q2, hq2⟩ : ∃ q, q = q1 ++ rt := ⟨_, rfl⟩
  have n2 : q1.length ≤ 10 := by rw [hq1, List.length_append]; have := word_len f; simp; omega
  have a1 : ∀ W : World, (Op.stringOp .add (st (word f)) ⟨#[32]⟩).run Try.prog W = .ok (.string (st q1)) W := by rw [hq1]; exact add_st (word f) [32] (by have := word_len f; simp; omega)
  have a2 : ∀ W : World, (Op.stringOp .add (st q1) (st rt)).run Try.prog W = .ok (.string (st q2)) W := by rw [hq2]; exact add_st q1 rt (by omega)
  have HT := Lib.hid (show txt (.mk 1 f r l h o) = q2 by rw [txt, if_pos rfl, if_neg (by omega), hq2, hq1, hrt]; simp)
  have CR := Lib.hid (show ∀ W, Keep w W → Calls Try.prog 26 #[.slice RA r.length rc] W fun e w' => e = .returned (.string (st rt)) ∧ Keep W w' from fun W hW => by rw [hrt]; exact ranges_any RA rc r W hrl (hE.1.kept hW))
  have hd6 : (f == 6) = false := by rw [beq_eq_false_iff_ne]; omega
  have hf0 : (0 : Int) ≤ f := by omega
  have hf6 : f < 6 := by omega
  have hel0 : ∀ (W V : World), (∀ j, V.cell? ⟨W.heap.size, j, none⟩ = (W.alloc (.cells #[.string ⟨#[]⟩, .string ⟨#[99, 108, 105, 101, 110, 116]⟩, .string ⟨#[117, 110, 105, 116]⟩, .string ⟨#[102, 117, 110, 99]⟩, .string ⟨#[97, 100, 100, 114]⟩, .string ⟨#[118, 97, 108, 117, 101]⟩] 9)).cell? ⟨W.heap.size, j, none⟩) → V.cell? ⟨W.heap.size, f.toNat, none⟩ = some (.string (st (word f))) := fun W V hV => by
    rw [hV, World.cell?_alloc_at (hn := rfl)]
    obtain rfl | rfl | rfl | rfl | rfl : f = 1 ∨ f = 2 ∨ f = 3 ∨ f = 4 ∨ f = 5 := by omega
    all_goals rfl
  have hel1 : ∀ W : World, (W.alloc (.cells #[.string ⟨#[]⟩, .string ⟨#[99, 108, 105, 101, 110, 116]⟩, .string ⟨#[117, 110, 105, 116]⟩, .string ⟨#[102, 117, 110, 99]⟩, .string ⟨#[97, 100, 100, 114]⟩, .string ⟨#[118, 97, 108, 117, 101]⟩] 9)).cell? ⟨W.heap.size, f.toNat, none⟩ = some (.string (st (word f))) := fun W => hel0 W _ fun _ => rfl
  clear hq1 hq2 hrt n1 n2 hf1 hf5
  obtain ⟨wd, hwd⟩ : ∃ t, t = st (word f) := ⟨_, rfl⟩
  rw [← hwd] at a1 hel0 hel1
  clear hwd
  obtain ⟨X, hX⟩ : ∃ X, X = w.alloc (.cells #[.int .i64 1, .int .i64 f, .slice RA r.length rc, .float .f64 l, .float .f64 h, .slice OA o.length oc] 39) := ⟨_, rfl⟩
  have hkX : Keep w X := by rw [hX]; exact (Keep.refl w).alloc _
  have hltX : w.heap.size < X.heap.size := by rw [hX]; simp
  have hEl : ElemAt X (.mk 1 f r l h o) RA OA rc oc w.heap.size 0 := by rw [hX]; exact ElemAt.new w (.mk 1 f r l h o) RA OA rc oc 39
  have HB := Lib.hid (show ∀ W, Keep X W → W.cell? ⟨w.heap.size, 0, none⟩ = some (.int .i64 1) ∧ W.cell? ⟨w.heap.size, 1, none⟩ = some (.int .i64 f) ∧ W.cell? ⟨w.heap.size, 2, none⟩ = some (.slice RA r.length rc) ∧ W.cell? ⟨w.heap.size, 3, none⟩ = some (.float .f64 l) ∧ W.cell? ⟨w.heap.size, 4, none⟩ = some (.float .f64 h) ∧ W.cell? ⟨w.heap.size, 5, none⟩ = some (.slice OA o.length oc) from fun W hk => hEl.kept hltX hk)
  have hEX := hE.kept hkX
  clear hEl hE hltX
  have hltX : w.heap.size < X.heap.size := by rw [hX]; simp
  have hneX : w.heap.size ≠ X.heap.size := by omega
  have bA : ∀ O, (X.alloc O).cell? ⟨w.heap.size, 1, none⟩ = some (.int .i64 f) ∧ (X.alloc O).cell? ⟨w.heap.size, 2, none⟩ = some (.slice RA r.length rc) := fun O => ⟨(HB.out _ ((Keep.refl X).alloc O)).2.1, (HB.out _ ((Keep.refl X).alloc O)).2.2.1⟩
  have bA1 := fun O => (bA O).1
  have bA2 := fun O => (bA O).2
  clear hEX bA hltX
  obtain ⟨b0, b1, b2, b3, b4, b5⟩ := HB.out _ (Keep.refl X)
  go_enter Try.func16, Try.ntmps16
  go_wp2
  rw [← hX]
  clear hX
  have kX := Keep.refl X
  have kD := keep_drew' (Keep.refl X)
  go_region_with (first
      | (go_at_call 26; refine (CR.out _ (hkX.trans (keep_drew' (kX.alloc _)))).mono ?_; rintro e w5 ⟨rfl, hb5⟩; have hw : Keep X w5 := Keep.trans (keep_drew' (kX.alloc _)) hb5; obtain ⟨g0, g1, g2, g3, g4, g5⟩ := HB.out _ hw; clear g0 g3 g4 g5; have hel := hel0 X w5 (fun j => Below.cell hb5 (by simp)))
      | (go_at_call 26; refine (CR.out _ (hkX.trans (kD.alloc _))).mono ?_; rintro e w5 ⟨rfl, hb5⟩; have hw : Keep X w5 := Keep.trans (kD.alloc _) hb5; obtain ⟨g0, g1, g2, g3, g4, g5⟩ := HB.out _ hw; clear g0 g3 g4 g5; have hel := hel0 X w5 (fun j => Below.cell hb5 (by simp)))
      | (go_at_call 26; refine (CR.out _ (hkX.trans kX)).mono ?_; rintro e w5 ⟨rfl, hb5⟩; have hw : Keep X w5 := Keep.trans kX hb5; obtain ⟨g0, g1, g2, g3, g4, g5⟩ := HB.out _ hw; clear g0 g3 g4 g5; have bB1 := fun O => (HB.out _ (hw.alloc O)).2.1; have bB2 := fun O => (HB.out _ (hw.alloc O)).2.2.1)
      | (go_at_call 26; refine (CR.out _ (hkX.trans kD)).mono ?_; rintro e w5 ⟨rfl, hb5⟩; have hw : Keep X w5 := Keep.trans kD hb5; obtain ⟨g0, g1, g2, g3, g4, g5⟩ := HB.out _ hw; clear g0 g3 g4 g5; have bB1 := fun O => (HB.out _ (hw.alloc O)).2.1; have bB2 := fun O => (HB.out _ (hw.alloc O)).2.2.1)
      | fail)
  all_goals (
    go_simp
    go_wp2
    go_ret
    exact ⟨ret_str (by rw [HT.out]), hkX.trans (by first | exact hw | exact hw.alloc _)⟩)

end Go.Proofs.Ytffojilbhpefbaa.Tr
