/- Layer 10's law LexTexts. Conditions: none beyond the law's own. -/
import Derived.Test.YtnchpmpamikgkaaLxL2
import Derived.BigQuiet
namespace Go.Proofs.Ytnchpmpamikgkaa.Lexs
set_option linter.unusedVariables false
open Go.ChangeShapes Go.WideShapes Go.ChangeAt Go.RowKit
open Ref10 (encT encT_len encT_one info_tok RetToks sameT sameT_self eqT guardT row_tok own_keep2 oneT)

theorem texts_words (l : List UInt8) (h : l.length ≤ 1000) {r : List TokP} {i e : Int} (hx : (r, i, e) = Lx.split l) (he : e = 0) :
    Lx.split (Lx.texts r) = (r.map (Lx.at_ 1), 0, 0) ∧ (Lx.texts r).length ≤ 2000 := by
  unfold Lx.split at hx
  rw [if_neg (by omega)] at hx
  cases hg : Lx.go l 1 with
  | error e' => rw [hg] at hx; cases hx; exact absurd he (by decide)
  | ok q =>
    rw [hg] at hx
    obtain rfl : r = q := by injection hx
    obtain ⟨_, h2⟩ := Lx.go_size _ l 1 r (Nat.le_refl _) hg
    have h3 := Lx.go_texts r 1 rfl (Lx.go_good _ l 1 r (Nat.le_refl _) hg)
    refine ⟨?_, by omega⟩
    unfold Lx.split
    rw [if_neg (by omega), h3]
theorem split_cases (l : List UInt8) {r : List TokP} {i e : Int} (hx : (r, i, e) = Lx.split l) : e = 0 ∨ e = 6 ∨ e = 9 := by
  unfold Lx.split at hx
  by_cases h : 4096 < l.length
  · rw [if_pos h] at hx; cases hx; exact .inr (.inr rfl)
  · rw [if_neg h] at hx
    cases hg : Lx.go l 1 with
    | error e' => rw [hg] at hx; cases hx; exact .inr (.inl rfl)
    | ok q => rw [hg] at hx; cases hx; exact .inl rfl
theorem texts_take (r : List TokP) (k : Nat) (h : k < r.length) : Lx.texts (r.take (k + 1)) = Lx.texts (r.take k) ++ (bl (r.getD k Lx.none_).text ++ [32]) := by
  rw [List.take_succ_eq_append_getElem h, Lx.texts_snoc, List.getD_eq_getElem?_getD, List.getElem?_eq_getElem h]; rfl
theorem texts_le (r : List TokP) (k : Nat) : (Lx.texts (r.take k)).length ≤ (Lx.texts r).length := by
  have h : Lx.texts r = Lx.texts (r.take k) ++ Lx.texts (r.drop k) := by
    unfold Lx.texts
    rw [← List.flatMap_append, List.take_append_drop]
  rw [h, List.length_append]; omega
def TextRel (w : World) (r : List TokP) (tv iv : Value) (wr : World) : Prop :=
  ∃ k : Nat, k ≤ r.length ∧ iv = .int .i64 k ∧ tv = .string (st (Lx.texts (r.take k))) ∧ Quiet w wr
def EachRel (w : World) (r : List TokP) (iv : Value) (wr : World) : Prop :=
  ∃ k : Nat, k ≤ r.length ∧ iv = .int .i64 k ∧ Keep w wr
set_option maxHeartbeats 4000000 in
theorem texts_any (s : ByteArray) (w : World) (hs : s.size ≤ maxLen) :
    Calls Try.prog 5 #[.string s] w fun e w' => e = .returned (.bool true) ∧ Keep w w' := by
  unfold maxLen at hs
  by_cases h1 : (s.size : Int) > 1000
  · go_enter Try.func5, Try.ntmps5
    go_wp2_with fail
    refine (awake_any _).mono ?_
    rintro e w1 ⟨rfl, k1⟩
    go_wp2
    go_ret
    exact ⟨rfl, k1⟩
  obtain ⟨⟨xs, l1, e1⟩, hx⟩ : ∃ x, x = Lx.split (bl s) := ⟨_, rfl⟩
  have HX := Lib.hid hx
  have HLX := Lib.hid (show xs.length ≤ 4096 by have h := split_len (bl s); rwa [← hx] at h)
  rcases split_cases _ hx with he | he
  · subst he
    obtain ⟨hw1, hw2⟩ := texts_words (bl s) (by rw [bl_length]; omega) hx rfl
    have HW1 := Lib.hid hw1
    clear hw1 hx
    go_enter Try.func5, Try.ntmps5
    go_wp2_with fail
    refine (split_any s _ (by omega)).mono ?_
    rw [← HX.out]
    rintro e w1 ⟨A1, n1, c1, rfl, i1, k1, _⟩
    simp only at i1
    obtain rfl : xs.length = n1 := i1.1
    have hn1 := HLX.out
    go_wp2
    go_loopw [6, 7] (fun tv iv wr => TextRel w1 xs tv iv wr) (fun _ iv _ => xs.length - (intOf iv).toNat)
    case atStart => exact ⟨0, Nat.zero_le _, rfl, rfl, Quiet.refl _⟩
    case round =>
      obtain ⟨k, hk, rfl, rfl, hq⟩ := hrel
      by_cases hlt : k < xs.length
      · have hi1 : (k : Int) < xs.length := by omega
        have hk0 : (0 : Int) ≤ k := by omega
        obtain ⟨b, off, rfl, hbb⟩ := i1.addr (by omega)
        obtain ⟨_, _, x1, _⟩ := row_tok i1 k hlt
        replace x1 := (hq.cell _).trans x1
        have hle := texts_le xs (k + 1)
        have htk := texts_take xs k hlt
        have HTK := Lib.hid htk
        rw [htk, List.length_append, List.length_append] at hle
        clear htk
        generalize (xs.getD k Lx.none_).text = tt at *
        generalize Lx.texts (xs.take k) = p at *
        obtain ⟨q, hq1⟩ : ∃ q, q = p ++ bl tt := ⟨_, rfl⟩
        obtain ⟨q2, hq2⟩ : ∃ q2, q2 = q ++ [32] := ⟨_, rfl⟩
        have a1 : ∀ W : World, (Op.stringOp .add (st p) tt).run Try.prog W = .ok (.string (st q)) W := fun W => by
          have h := add_st (P := Try.prog) p (bl tt) (by omega) W
          rw [hq1, ← h, st_bl]
        have a2 : ∀ W : World, (Op.stringOp .add (st q) ⟨#[32]⟩).run Try.prog W = .ok (.string (st q2)) W := fun W => by
          have h := add_st (P := Try.prog) q [32] (by rw [hq1, List.length_append]; simp; simp at hle; omega) W
          rw [hq2, ← h]; rfl
        have HQ := Lib.hid (show q2 = Lx.texts (xs.take (k + 1)) by rw [hq2, hq1, HTK.out, List.append_assoc])
        clear hq1 hq2 hle
        go_wp2
        go_roundw
        case rel => exact ⟨k + 1, by omega, by go_num, by rw [HQ.out], hq⟩
        case measure => simp [intOf]; omega
      · obtain rfl : k = xs.length := by omega
        rw [List.take_length]
        have i2 := i1.kept hq.keep
        have k2 := k1.trans hq.keep
        obtain ⟨t, ht⟩ : ∃ t, t = st (Lx.texts xs) := ⟨_, rfl⟩
        have HT := Lib.hid (show bl t = Lx.texts xs by rw [ht]; rfl)
        have HTL := Lib.hid (show t.size ≤ 100000 by rw [ht, st_size]; omega)
        rw [← ht]
        clear ht i1 k1 hq
        go_wp2_with fail
        refine (split_any t _ HTL.out).mono ?_
        rw [HT.out, HW1.out]
        rintro e w3 ⟨A3, n3, c3, rfl, i3, k3, _⟩
        simp only at i3
        obtain rfl : xs.length = n3 := by have := i3.1; simpa using this
        replace i2 := i2.kept k3
        replace k2 := k2.trans k3
        clear k3
        have hgd := guardT
        have dn : ((xs.length : Int) != (xs.length : Int)) = false := by simp
        go_wp2
        go_loopw [11, 12] (fun iv _ wr => EachRel w3 xs iv wr) (fun iv _ _ => xs.length - (intOf iv).toNat)
        case atStart => exact ⟨0, Nat.zero_le _, rfl, Keep.refl _⟩
        case round =>
          obtain ⟨k, hk, rfl, hkY⟩ := hrel
          by_cases hlt : k < xs.length
          · have hi1 : (k : Int) < xs.length := by omega
            have hk0 : (0 : Int) ≤ k := by omega
            have i2w := i2.kept hkY
            have i3w := i3.kept hkY
            obtain ⟨b, off, rfl, hbb⟩ := i2w.addr (by omega)
            obtain ⟨b', off', rfl, hbb'⟩ := i3w.addr (by omega)
            obtain ⟨_, x0, x1, x2, x3⟩ := row_tok i2w k hlt
            obtain ⟨_, y0, y1, y2, y3⟩ := row_tok i3w k hlt
            have hmp : (xs.map (Lx.at_ 1)).getD k Lx.none_ = Lx.at_ 1 (xs.getD k Lx.none_) := by
              rw [List.getD_eq_getElem?_getD, List.getElem?_eq_getElem (by simpa using hlt), List.getElem_map, List.getD_eq_getElem?_getD, List.getElem?_eq_getElem hlt]; rfl
            rw [hmp] at y0 y1 y2 y3
            obtain ⟨⟨tk, tt, tn, tl⟩, htok⟩ : ∃ x, x = xs.getD k Lx.none_ := ⟨_, rfl⟩
            rw [← htok] at x0 x1 x2 x3 y0 y1 y2 y3
            simp only [Lx.at_] at x0 x1 x2 x3 y0 y1 y2 y3
            clear htok hmp
            have he := eqT ⟨tk, tt, tn, 1⟩ ⟨tk, tt, tn, 1⟩
            rw [show oneT ⟨tk, tt, tn, 1⟩ ⟨tk, tt, tn, 1⟩ = true from (Ref10.oneT_iff _ _).2 rfl] at he
            simp only at he
            go_wp2
            have kX := (Keep.refl wr).alloc (.cells #[.int .i64 tk, .string tt, .int .i64 tn, .int .i64 1] 30)
            obtain ⟨X, hX⟩ : ∃ X, X = wr.alloc (.cells #[.int .i64 tk, .string tt, .int .i64 tn, .int .i64 1] 30) := ⟨_, rfl⟩
            have hcX : X.cell? ⟨wr.heap.size, 0, none⟩ = some (.int .i64 tk) ∧ X.cell? ⟨wr.heap.size, 1, none⟩ = some (.string tt) ∧ X.cell? ⟨wr.heap.size, 2, none⟩ = some (.int .i64 tn) ∧ X.cell? ⟨wr.heap.size, 3, none⟩ = some (.int .i64 1) := by
              rw [hX]; exact ⟨by go_simp, by go_simp, by go_simp, by go_simp⟩
            obtain ⟨z0, z1, z2, z3⟩ := hcX
            rw [← hX] at kX ⊢
            replace y0 := (Below.cell kX hbb').trans y0
            replace y1 := (Below.cell kX hbb').trans y1
            replace y2 := (Below.cell kX hbb').trans y2
            replace y3 := (Below.cell kX hbb').trans y3
            clear hX x0 x1 x2 x3
            go_quiet (fail)
            go_wp2
            refine ⟨⟨k + 1, by omega, by go_num, (hkY.trans kX).trans ⟨rfl, rfl, rfl, Nat.le_refl _, fun _ _ => rfl⟩⟩, by simp [intOf]; omega⟩
          · obtain rfl : k = xs.length := by omega
            go_wp2_with fail
            refine (awake_any _).mono ?_
            rintro e w4 ⟨rfl, k4⟩
            go_wp2
            go_ret
            exact ⟨rfl, (k2.trans hkY).trans k4⟩
  · have d : (e1 != 0) = true := by rcases he with rfl | rfl <;> rfl
    clear he hx
    go_enter Try.func5, Try.ntmps5
    go_wp2_with fail
    refine (split_any s _ (by omega)).mono ?_
    rw [← HX.out]
    rintro e w1 ⟨A1, n1, c1, rfl, i1, k1, _⟩
    go_wp2_with fail
    refine (awake_any _).mono ?_
    rintro e w2 ⟨rfl, k2⟩
    go_wp2
    go_ret
    exact ⟨rfl, k1.trans k2⟩
end Go.Proofs.Ytnchpmpamikgkaa.Lexs
