/- Layer 10's laws: awake, LexTells. Conditions: none. -/
import Derived.Test.YtnchpmpamikgkaaLx
namespace Go.Proofs.Ytnchpmpamikgkaa.Lexs
set_option linter.unusedVariables false
open Go.ChangeShapes Go.WideShapes Go.ChangeAt Go.RowKit
open Ref10 (encT RetToks sameT sameT_self eqT guardT row_tok)
theorem split_one : Lx.split [97, 108, 108, 111, 119, 32, 102, 117, 110, 99, 32, 51, 59, 32, 35, 32, 114, 101, 97, 100, 105, 110, 103] = ([⟨1, st [97, 108, 108, 111, 119], 0, 1⟩, ⟨1, st [102, 117, 110, 99], 0, 1⟩, ⟨2, st [51], 3, 1⟩, ⟨3, st [59], 0, 1⟩], 0, 0) := by
  unfold Lx.split
  rw [if_neg (by decide), Lx.goF_eq 30 _ _ (by decide)]
  rfl
theorem split_two : Lx.split [97, 108, 108, 111, 119, 10, 102, 117, 110, 99, 32, 48, 51, 59] = ([], 2, 6) := by
  unfold Lx.split
  rw [if_neg (by decide), Lx.goF_eq 30 _ _ (by decide)]
  rfl
theorem split_to (s : ByteArray) (x : List TokP × Int × Int) (w : World) (hs : s.size ≤ 100000) (h : Lx.split (bl s) = x) : Calls Try.prog 7 #[.string s] w (RetToks x w) := by
  subst h; exact split_any s w hs
theorem split_len (l : List UInt8) : (Lx.split l).1.length ≤ 4096 := by
  unfold Lx.split
  by_cases h : 4096 < l.length
  · rw [if_pos h]; simp
  · rw [if_neg h]
    cases hg : Lx.go l 1 with
    | error e => simp
    | ok r => have := (Lx.go_size _ l 1 r (Nat.le_refl _) hg).1; simp only; omega
set_option maxHeartbeats 2000000 in
theorem awake_any (w : World) : Calls Try.prog 6 #[] w fun e w' => e = .returned (.bool true) ∧ Keep w w' := by
  have P1 := Lib.hid (fun W => split_to ⟨#[97, 108, 108, 111, 119, 32, 102, 117, 110, 99, 32, 51, 59, 32, 35, 32, 114, 101, 97, 100, 105, 110, 103]⟩ _ W (by decide) split_one)
  have P2 := Lib.hid (fun W => split_to ⟨#[97, 108, 108, 111, 119, 10, 102, 117, 110, 99, 32, 48, 51, 59]⟩ _ W (by decide) split_two)
  have hgd := guardT
  have e1 := eqT ⟨2, ⟨#[51]⟩, 3, 1⟩ ⟨2, ⟨#[51]⟩, 3, 1⟩
  rw [show Ref10.oneT ⟨2, ⟨#[51]⟩, 3, 1⟩ ⟨2, ⟨#[51]⟩, 3, 1⟩ = true from (Ref10.oneT_iff _ _).2 rfl] at e1
  simp only at e1
  go_enter Try.func6, Try.ntmps6
  go_wp2_with fail
  refine (P1.out _).mono ?_
  rintro e w1 ⟨A1, n1, c1, rfl, i1, h1, _⟩
  obtain rfl : 4 = n1 := i1.1
  go_wp2_with fail
  refine (P2.out _).mono ?_
  rintro e w2 ⟨A2, n2, c2, rfl, i2, h2, _⟩
  obtain rfl : 0 = n2 := i2.1
  have i := i1.kept h2
  obtain ⟨b, off, rfl, _⟩ := i.addr (by omega)
  obtain ⟨_, x0, x1, x2, x3⟩ := row_tok i 2 (by omega)
  simp only [List.getD_cons_succ, List.getD_cons_zero] at x0 x1 x2 x3
  replace x1 : w2.cell? ⟨b, off + 2 * 4 + 1, none⟩ = some (.string ⟨#[51]⟩) := x1
  have k := h1.trans h2
  clear h1 h2 i1 i2 i P1 P2
  simp only
  go_wp2
  go_ret
  exact ⟨rfl, k⟩
set_option maxHeartbeats 2000000 in
theorem tells_any (s t : ByteArray) (w : World) (hs : s.size ≤ maxLen) (ht : t.size ≤ maxLen) :
    Calls Try.prog 3 #[.string s, .string t] w fun e w' => e = .returned (.bool true) ∧ Keep w w' := by
  unfold maxLen at hs ht
  by_cases h1 : (s.size : Int) > 1000
  · go_enter Try.func3, Try.ntmps3
    go_wp2_with fail
    refine (awake_any _).mono ?_
    rintro e w1 ⟨rfl, k1⟩
    go_wp2
    go_ret
    exact ⟨rfl, k1⟩
  · by_cases h2 : (t.size : Int) > 1000
    · go_enter Try.func3, Try.ntmps3
      go_wp2_with fail
      refine (awake_any _).mono ?_
      rintro e w1 ⟨rfl, k1⟩
      go_wp2
      go_ret
      exact ⟨rfl, k1⟩
    · obtain ⟨⟨xs, l1, e1⟩, hx⟩ : ∃ x, x = Lx.split (bl s) := ⟨_, rfl⟩
      obtain ⟨⟨ys, l2, e2⟩, hy⟩ : ∃ x, x = Lx.split (bl t) := ⟨_, rfl⟩
      have HX := Lib.hid hx
      have HY := Lib.hid hy
      have HLX := Lib.hid (show xs.length ≤ 4096 by have h := split_len (bl s); rwa [← hx] at h)
      have HLY := Lib.hid (show ys.length ≤ 4096 by have h := split_len (bl t); rwa [← hy] at h)
      clear hx hy
      go_enter Try.func3, Try.ntmps3
      go_wp2_with fail
      refine (split_any s _ (by omega)).mono ?_
      rw [← HX.out]
      rintro e w1 ⟨A1, n1, c1, rfl, i1, k1, _⟩
      go_wp2_with fail
      refine (Ref10.split_any s _ (by omega)).mono ?_
      rw [← HX.out]
      rintro e w2 ⟨A2, n2, c2, rfl, i2, k2, _⟩
      replace i1 := i1.kept k2
      go_wp2_with fail
      refine (Ref10.split_any t _ (by omega)).mono ?_
      rw [← HY.out]
      rintro e w3 ⟨A3, n3, c3, rfl, i3, k3, _⟩
      simp only at i1 i2 i3
      replace i1 := i1.kept k3
      replace i2 := i2.kept k3
      have K := (k1.trans k2).trans k3
      go_wp2_with fail
      refine (awake_any _).mono ?_
      rintro e w4 ⟨rfl, k4⟩
      have g1 := i1.kept k4
      have g2 := i2.kept k4
      have g3 := i3.kept k4
      replace K := K.trans k4
      clear i1 i2 i3 k1 k2 k3 k4
      have z1 : n1 ≤ 1000000 := by have := g1.1; have := HLX.out; omega
      have z2 : n2 ≤ 1000000 := by have := g2.1; have := HLX.out; omega
      have z3 : n3 ≤ 1000000 := by have := g3.1; have := HLY.out; omega
      go_wp2_with fail
      refine (Ref10.same_any A1 A2 n1 n2 c1 c2 xs xs _ z1 z2 g1 g2).mono ?_
      rintro e w5 ⟨rfl, k5⟩
      rw [sameT_self]
      replace g2 := g2.kept k5
      replace g3 := g3.kept k5
      replace K := K.trans k5
      clear k5 g1
      go_wp2_with fail
      refine (same_any A2 A3 n2 n3 c2 c3 xs ys _ z2 z3 g2 g3).mono ?_
      rintro e w6 ⟨rfl, k6⟩
      replace g2 := g2.kept k6
      replace g3 := g3.kept k6
      replace K := K.trans k6
      clear k6
      go_wp2_with fail
      refine (Ref10.same_any A2 A3 n2 n3 c2 c3 xs ys _ z2 z3 g2 g3).mono ?_
      rintro e w7 ⟨rfl, k7⟩
      replace K := K.trans k7
      clear k7 g2 g3
      generalize sameT xs ys = bb
      cases bb <;> (go_wp2; go_ret; exact ⟨rfl, K⟩)
end Go.Proofs.Ytnchpmpamikgkaa.Lexs
