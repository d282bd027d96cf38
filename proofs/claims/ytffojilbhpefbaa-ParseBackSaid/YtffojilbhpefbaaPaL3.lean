/- Layer 12's law ParseBack. Conditions: none beyond the law's own. -/
import Derived.Test.YtffojilbhpefbaaPaL
import Derived.Test.YtffojilbhpefbaaPaF2
namespace Go.Proofs.Ytffojilbhpefbaa.Parse
set_option linter.unusedVariables false
open Go.ChangeShapes Go.WideShapes Go.ChangeAt Go.RowKit
open Tr
open PaF2 (few_back read_facts texts_len fits_lines lines_len)
set_option maxHeartbeats 8000000 in
theorem back_any (A : Option Addr) (n c : Nat) (xs : List RuleP) (s : ByteArray) (w : World) (hs : s.size ≤ maxLen) (hA : RulesIn w A n xs) :
    Calls Try.prog 3 #[.slice A n c, .string s] w fun e w' => e = .returned (.bool true) ∧ Keep w w' := by
  obtain ⟨rfl, rA, wA⟩ := hA
  have CW := Lib.hid (fun W => awake_any W)
  have CF := Lib.hid (few_any A c xs 6 w (by omega) rA)
  cases hf : few xs 6
  · rw [hf] at CF
    clear rA wA
    go_enter Try.func3, Try.ntmps3
    go_wp2_with fail
    refine CF.out.mono ?_
    rintro e w1 ⟨rfl, k1⟩
    go_wp2_with fail
    refine (CW.out _).mono ?_
    rintro e w2 ⟨rfl, k2⟩
    go_wp2
    go_ret
    exact ⟨rfl, k1.trans k2⟩
  rw [hf] at CF
  by_cases h42 : 4200 < s.size
  · have d : decide ((s.size : Int) > 4200) = true := by simp; omega
    clear rA wA
    go_enter Try.func3, Try.ntmps3
    go_wp2_with fail
    refine CF.out.mono ?_
    rintro e w1 ⟨rfl, k1⟩
    go_wp2_with fail
    refine (CW.out _).mono ?_
    rintro e w2 ⟨rfl, k2⟩
    go_wp2
    go_ret
    exact ⟨rfl, k1.trans k2⟩
  have d42 : decide ((s.size : Int) > 4200) = false := by simp; omega
  clear h42
  obtain ⟨f1, f2, f3, f4⟩ := few_back hf wA
  have CT := (fun (W : World) (hW : Keep w W) => texts_any A c xs W (by omega) f2 f3 (rA.kept hW))
  obtain ⟨x, hx⟩ : ∃ x, Pa.text (bl s) = x := ⟨_, rfl⟩
  obtain ⟨a, i, er⟩ := x
  have CS := Lib.hid (fun W => parse_to s (a, i, er) hx W hs)
  have first : textOk xs = true → (text xs).length ≤ 4096 → ∀ W : World, Calls Try.prog 10 #[.string (st (text xs))] W (Pa.RetRules (Pa.lines 1 xs, 0, 0) W) := fun h1 h2 W => by
    have e : text xs = textsL xs := by unfold text; rw [h1, if_pos rfl]
    rw [e] at h2 ⊢
    exact parse_to (st (textsL xs)) _ (Pa.few_back xs hf h1 f4 h2) W (by rw [st_size]; unfold maxLen; omega)
  have same : ∀ (W : World) (B : Option Addr) (d : Nat), Keep w W → Rus W B (Pa.lines 1 xs) → Calls Try.prog 11 #[.slice A xs.length c, .slice B (Pa.lines 1 xs).length d] W fun e' w' => e' = .returned (.bool true) ∧ Keep W w' := fun W B d hW hB => by
    have := rules_any A c xs B d (Pa.lines 1 xs) W (by omega) (by rw [lines_len]; omega) f2 (fits_lines xs 1 f2) (rA.kept hW) hB
    rwa [Pa.rules_lines xs 1 f4] at this
  obtain ⟨tx, htx⟩ : ∃ t, t = text xs := ⟨_, rfl⟩
  rw [← htx] at CT first
  have HF := Lib.hid first
  have HS := Lib.hid same
  clear first same f1 f2 f3 f4 rA wA hf htx
  generalize Pa.lines 1 xs = ys at *
  generalize textOk xs = ok at *
  replace CT := Lib.hid CT
  by_cases he : er = 0
  · subst he
    obtain ⟨g1, g2, g3, g4, g5⟩ := read_facts hx
    have CU := Lib.hid (fun (W : World) (B : Option Addr) (d : Nat) (hB : Rus W B a) => texts_any B d a W (by omega) g2 g3 hB)
    rw [g5] at CU
    have etx : text a = textsL a := by unfold text; rw [g5, if_pos rfl]
    have hul := texts_len a g5 g3
    obtain ⟨y, hy⟩ : ∃ y, Pa.text (text a) = y := ⟨_, rfl⟩
    obtain ⟨b, j, ev⟩ := y
    have CV := (fun W => parse_to (st (text a)) (b, j, ev) hy W (by rw [st_size, etx]; unfold maxLen; omega))
    by_cases hl2 : (text a).length ≤ 4096
    · have d2 : decide (((st (text a)).size : Int) > 4096) = false := by rw [st_size]; simp; omega
      have hb2 := Pa.read_back hx (by rw [← etx]; exact hl2)
      rw [← etx, hy] at hb2
      injection hb2 with b1 hb2
      injection hb2 with b2 b3
      subst b1 b2 b3
      have CR := Lib.hid (fun (W : World) (B : Option Addr) (d : Nat) (C : Option Addr) (f : Nat) (hB : Rus W B a) (hC : Rus W C (Pa.lines 1 a)) => rules_any B d a C f (Pa.lines 1 a) W (by omega) (by rw [lines_len]; omega) g2 (fits_lines a 1 g2) hB hC)
      rw [Pa.rules_lines a 1 g4] at CR
      clear g1 g2 g3 g4 g5 etx hul hx hy hl2
      generalize Pa.lines 1 a = bs at *
      generalize text a = ta at *
      replace CV := Lib.hid CV
      cases ok
      · clear HF HS
        go_enter Try.func3, Try.ntmps3
        go_wp2_with fail
        refine CF.out.mono ?_
        rintro e w1 ⟨rfl, k1⟩
        go_wp2_with fail
        refine (CT.out _ k1).mono ?_
        rintro e w2 ⟨rfl, k2⟩
        replace k1 := k1.trans k2
        go_wp2_with fail
        refine (CS.out _).mono ?_
        rintro e w3 ⟨B, bc, rfl, hB, k3⟩
        replace k1 := k1.trans k3
        go_wp2_with fail
        refine (CU.out _ B bc hB).mono ?_
        rintro e w4 ⟨rfl, k4⟩
        replace hB := hB.kept k4
        replace k1 := k1.trans k4
        go_wp2_with fail
        refine (CV.out _).mono ?_
        rintro e w5 ⟨C, cc, rfl, hC, k5⟩
        replace hB := hB.kept k5
        replace k1 := k1.trans k5
        go_wp2_with fail
        refine (CW.out _).mono ?_
        rintro e w6 ⟨rfl, k6⟩
        replace hB := hB.kept k6
        replace hC := hC.kept k6
        replace k1 := k1.trans k6
        go_wp2_with fail
        refine (CR.out _ B bc C cc hB hC).mono ?_
        rintro e w7 ⟨rfl, k7⟩
        replace k1 := k1.trans k7
        go_wp2
        go_ret
        exact ⟨rfl, k1⟩
      · by_cases hl1 : tx.length ≤ 4096
        · have d1 : decide (((st tx).size : Int) ≤ 4096) = true := by rw [st_size]; simp; omega
          go_enter Try.func3, Try.ntmps3
          go_wp2_with fail
          refine CF.out.mono ?_
          rintro e w1 ⟨rfl, k1⟩
          go_wp2_with fail
          refine (CT.out _ k1).mono ?_
          rintro e w2 ⟨rfl, k2⟩
          replace k1 := k1.trans k2
          go_wp2_with fail
          refine (HF.out (by simp) hl1 w2).mono ?_
          rintro e v1 ⟨Y, yc, rfl, hY, q1⟩
          replace k1 := k1.trans q1
          go_wp2_with fail
          refine (HS.out v1 Y yc k1 hY).mono ?_
          rintro e v2 ⟨rfl, q2⟩
          replace k1 := k1.trans q2
          go_wp2_with fail
          refine (CS.out _).mono ?_
          rintro e w3 ⟨B, bc, rfl, hB, k3⟩
          replace k1 := k1.trans k3
          go_wp2_with fail
          refine (CU.out _ B bc hB).mono ?_
          rintro e w4 ⟨rfl, k4⟩
          replace hB := hB.kept k4
          replace k1 := k1.trans k4
          go_wp2_with fail
          refine (CV.out _).mono ?_
          rintro e w5 ⟨C, cc, rfl, hC, k5⟩
          replace hB := hB.kept k5
          replace k1 := k1.trans k5
          go_wp2_with fail
          refine (CW.out _).mono ?_
          rintro e w6 ⟨rfl, k6⟩
          replace hB := hB.kept k6
          replace hC := hC.kept k6
          replace k1 := k1.trans k6
          go_wp2_with fail
          refine (CR.out _ B bc C cc hB hC).mono ?_
          rintro e w7 ⟨rfl, k7⟩
          replace k1 := k1.trans k7
          go_wp2
          go_ret
          exact ⟨rfl, k1⟩
        · have d1 : decide (((st tx).size : Int) ≤ 4096) = false := by rw [st_size]; simp; omega
          clear HF HS hl1
          go_enter Try.func3, Try.ntmps3
          go_wp2_with fail
          refine CF.out.mono ?_
          rintro e w1 ⟨rfl, k1⟩
          go_wp2_with fail
          refine (CT.out _ k1).mono ?_
          rintro e w2 ⟨rfl, k2⟩
          replace k1 := k1.trans k2
          go_wp2_with fail
          refine (CS.out _).mono ?_
          rintro e w3 ⟨B, bc, rfl, hB, k3⟩
          replace k1 := k1.trans k3
          go_wp2_with fail
          refine (CU.out _ B bc hB).mono ?_
          rintro e w4 ⟨rfl, k4⟩
          replace hB := hB.kept k4
          replace k1 := k1.trans k4
          go_wp2_with fail
          refine (CV.out _).mono ?_
          rintro e w5 ⟨C, cc, rfl, hC, k5⟩
          replace hB := hB.kept k5
          replace k1 := k1.trans k5
          go_wp2_with fail
          refine (CW.out _).mono ?_
          rintro e w6 ⟨rfl, k6⟩
          replace hB := hB.kept k6
          replace hC := hC.kept k6
          replace k1 := k1.trans k6
          go_wp2_with fail
          refine (CR.out _ B bc C cc hB hC).mono ?_
          rintro e w7 ⟨rfl, k7⟩
          replace k1 := k1.trans k7
          go_wp2
          go_ret
          exact ⟨rfl, k1⟩
    · have d2 : decide (((st (text a)).size : Int) > 4096) = true := by rw [st_size]; simp; omega
      clear g1 g2 g3 g4 g5 etx hul hx hy hl2
      generalize text a = ta at *
      replace CV := Lib.hid CV
      cases ok
      · clear HF HS
        go_enter Try.func3, Try.ntmps3
        go_wp2_with fail
        refine CF.out.mono ?_
        rintro e w1 ⟨rfl, k1⟩
        go_wp2_with fail
        refine (CT.out _ k1).mono ?_
        rintro e w2 ⟨rfl, k2⟩
        replace k1 := k1.trans k2
        go_wp2_with fail
        refine (CS.out _).mono ?_
        rintro e w3 ⟨B, bc, rfl, hB, k3⟩
        replace k1 := k1.trans k3
        go_wp2_with fail
        refine (CU.out _ B bc hB).mono ?_
        rintro e w4 ⟨rfl, k4⟩
        replace hB := hB.kept k4
        replace k1 := k1.trans k4
        go_wp2_with fail
        refine (CV.out _).mono ?_
        rintro e w5 ⟨C, cc, rfl, hC, k5⟩
        replace hB := hB.kept k5
        replace k1 := k1.trans k5
        go_wp2_with fail
        refine (CW.out _).mono ?_
        rintro e w6 ⟨rfl, k6⟩
        replace hB := hB.kept k6
        replace hC := hC.kept k6
        replace k1 := k1.trans k6
        go_wp2
        go_ret
        exact ⟨rfl, k1⟩
      · by_cases hl1 : tx.length ≤ 4096
        · have d1 : decide (((st tx).size : Int) ≤ 4096) = true := by rw [st_size]; simp; omega
          go_enter Try.func3, Try.ntmps3
          go_wp2_with fail
          refine CF.out.mono ?_
          rintro e w1 ⟨rfl, k1⟩
          go_wp2_with fail
          refine (CT.out _ k1).mono ?_
          rintro e w2 ⟨rfl, k2⟩
          replace k1 := k1.trans k2
          go_wp2_with fail
          refine (HF.out (by simp) hl1 w2).mono ?_
          rintro e v1 ⟨Y, yc, rfl, hY, q1⟩
          replace k1 := k1.trans q1
          go_wp2_with fail
          refine (HS.out v1 Y yc k1 hY).mono ?_
          rintro e v2 ⟨rfl, q2⟩
          replace k1 := k1.trans q2
          go_wp2_with fail
          refine (CS.out _).mono ?_
          rintro e w3 ⟨B, bc, rfl, hB, k3⟩
          replace k1 := k1.trans k3
          go_wp2_with fail
          refine (CU.out _ B bc hB).mono ?_
          rintro e w4 ⟨rfl, k4⟩
          replace hB := hB.kept k4
          replace k1 := k1.trans k4
          go_wp2_with fail
          refine (CV.out _).mono ?_
          rintro e w5 ⟨C, cc, rfl, hC, k5⟩
          replace hB := hB.kept k5
          replace k1 := k1.trans k5
          go_wp2_with fail
          refine (CW.out _).mono ?_
          rintro e w6 ⟨rfl, k6⟩
          replace hB := hB.kept k6
          replace hC := hC.kept k6
          replace k1 := k1.trans k6
          go_wp2
          go_ret
          exact ⟨rfl, k1⟩
        · have d1 : decide (((st tx).size : Int) ≤ 4096) = false := by rw [st_size]; simp; omega
          clear HF HS hl1
          go_enter Try.func3, Try.ntmps3
          go_wp2_with fail
          refine CF.out.mono ?_
          rintro e w1 ⟨rfl, k1⟩
          go_wp2_with fail
          refine (CT.out _ k1).mono ?_
          rintro e w2 ⟨rfl, k2⟩
          replace k1 := k1.trans k2
          go_wp2_with fail
          refine (CS.out _).mono ?_
          rintro e w3 ⟨B, bc, rfl, hB, k3⟩
          replace k1 := k1.trans k3
          go_wp2_with fail
          refine (CU.out _ B bc hB).mono ?_
          rintro e w4 ⟨rfl, k4⟩
          replace hB := hB.kept k4
          replace k1 := k1.trans k4
          go_wp2_with fail
          refine (CV.out _).mono ?_
          rintro e w5 ⟨C, cc, rfl, hC, k5⟩
          replace hB := hB.kept k5
          replace k1 := k1.trans k5
          go_wp2_with fail
          refine (CW.out _).mono ?_
          rintro e w6 ⟨rfl, k6⟩
          replace hB := hB.kept k6
          replace hC := hC.kept k6
          replace k1 := k1.trans k6
          go_wp2
          go_ret
          exact ⟨rfl, k1⟩
  · have d0 : (er != 0) = true := by simpa using he
    have ha : a = [] := by
      have := Pa.text_no (s := bl s) (by rw [hx]; exact he)
      rwa [hx] at this
    subst ha
    clear hx he
    cases ok
    · clear HF HS
      go_enter Try.func3, Try.ntmps3
      go_wp2_with fail
      refine CF.out.mono ?_
      rintro e w1 ⟨rfl, k1⟩
      go_wp2_with fail
      refine (CT.out _ k1).mono ?_
      rintro e w2 ⟨rfl, k2⟩
      replace k1 := k1.trans k2
      go_wp2_with fail
      refine (CS.out _).mono ?_
      rintro e w3 ⟨B, bc, rfl, hB, k3⟩
      replace k1 := k1.trans k3
      go_wp2_with fail
      refine (CW.out _).mono ?_
      rintro e w4 ⟨rfl, k4⟩
      go_wp2
      go_ret
      exact ⟨rfl, k1.trans k4⟩
    · by_cases hl1 : tx.length ≤ 4096
      · have d1 : decide (((st tx).size : Int) ≤ 4096) = true := by rw [st_size]; simp; omega
        go_enter Try.func3, Try.ntmps3
        go_wp2_with fail
        refine CF.out.mono ?_
        rintro e w1 ⟨rfl, k1⟩
        go_wp2_with fail
        refine (CT.out _ k1).mono ?_
        rintro e w2 ⟨rfl, k2⟩
        replace k1 := k1.trans k2
        go_wp2_with fail
        refine (HF.out (by simp) hl1 w2).mono ?_
        rintro e v1 ⟨Y, yc, rfl, hY, q1⟩
        replace k1 := k1.trans q1
        go_wp2_with fail
        refine (HS.out v1 Y yc k1 hY).mono ?_
        rintro e v2 ⟨rfl, q2⟩
        replace k1 := k1.trans q2
        go_wp2_with fail
        refine (CS.out _).mono ?_
        rintro e w3 ⟨B, bc, rfl, hB, k3⟩
        replace k1 := k1.trans k3
        go_wp2_with fail
        refine (CW.out _).mono ?_
        rintro e w4 ⟨rfl, k4⟩
        go_wp2
        go_ret
        exact ⟨rfl, k1.trans k4⟩
      · have d1 : decide (((st tx).size : Int) ≤ 4096) = false := by rw [st_size]; simp; omega
        clear HF HS hl1
        go_enter Try.func3, Try.ntmps3
        go_wp2_with fail
        refine CF.out.mono ?_
        rintro e w1 ⟨rfl, k1⟩
        go_wp2_with fail
        refine (CT.out _ k1).mono ?_
        rintro e w2 ⟨rfl, k2⟩
        replace k1 := k1.trans k2
        go_wp2_with fail
        refine (CS.out _).mono ?_
        rintro e w3 ⟨B, bc, rfl, hB, k3⟩
        replace k1 := k1.trans k3
        go_wp2_with fail
        refine (CW.out _).mono ?_
        rintro e w4 ⟨rfl, k4⟩
        go_wp2
        go_ret
        exact ⟨rfl, k1.trans k4⟩
end Go.Proofs.Ytffojilbhpefbaa.Parse
