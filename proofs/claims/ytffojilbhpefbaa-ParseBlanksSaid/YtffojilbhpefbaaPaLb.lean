/- Several texts in one: PaL3, PaL2. Conditions: as each part says. -/
import Derived.Test.YtffojilbhpefbaaPaL
import Derived.Test.YtffojilbhpefbaaPaF2
import Derived.Test.YtffojilbhpefbaaLxS
/- Layer 12's law ParseBack. Conditions: none beyond the law's own. -/
namespace Go.Proofs.Ytffojilbhpefbaa.Parse
set_option linter.unusedVariables false
open Go.ChangeShapes Go.WideShapes Go.ChangeAt Go.RowKit
open Tr
open PaF2 (few_back read_facts texts_len fits_lines lines_len)
set_option maxHeartbeats 8000000 in
theorem back_any (A : Option Addr) (n c : Nat) (xs : List RuleP) (s : ByteArray) (w : World) (hs : s.size ≤ maxLen) (hA : RulesIn w A n xs) :
    Calls Try.prog 3 #[.slice A n c, .string s] w fun e w' => e = .returned (.bool true) ∧ Keep w w' := by
  obtain ⟨rfl, rA, wA⟩ := hA
  have CW := Lib.hid (fun W => awake_any W)
  have CF := Lib.hid (few_any A c xs 6 w (by omega) rA)
  cases hf : few xs 6
  · rw [hf] at CF
    clear rA wA
    go_enter Try.func3, Try.ntmps3
    go_wp2_with fail
    refine CF.out.mono ?_
    rintro e w1 ⟨rfl, k1⟩
    go_wp2_with fail
    refine (CW.out _).mono ?_
    rintro e w2 ⟨rfl, k2⟩
    go_wp2
    go_ret
    exact ⟨rfl, k1.trans k2⟩
  rw [hf] at CF
  by_cases h42 : 4200 < s.size
  · have d : decide ((s.size : Int) > 4200) = true := by simp; omega
    clear rA wA
    go_enter Try.func3, Try.ntmps3
    go_wp2_with fail
    refine CF.out.mono ?_
    rintro e w1 ⟨rfl, k1⟩
    go_wp2_with fail
    refine (CW.out _).mono ?_
    rintro e w2 ⟨rfl, k2⟩
    go_wp2
    go_ret
    exact ⟨rfl, k1.trans k2⟩
  have d42 : decide ((s.size : Int) > 4200) = false := by simp; omega
  clear h42
  obtain ⟨f1, f2, f3, f4⟩ := few_back hf wA
  have CT := (fun (W : World) (hW : Keep w W) => texts_any A c xs W (by omega) f2 f3 (rA.kept hW))
  obtain ⟨x, hx⟩ : ∃ x, Pa.text (bl s) = x := ⟨_, rfl⟩
  obtain ⟨a, i, er⟩ := x
  have CS := Lib.hid (fun W => parse_to s (a, i, er) hx W hs)
  have first : textOk xs = true → (text xs).length ≤ 4096 → ∀ W : World, Calls Try.prog 10 #[.string (st (text xs))] W (Pa.RetRules (Pa.lines 1 xs, 0, 0) W) := fun h1 h2 W => by
    have e : text xs = textsL xs := by unfold text; rw [h1, if_pos rfl]
    rw [e] at h2 ⊢
    exact parse_to (st (textsL xs)) _ (Pa.few_back xs hf h1 f4 h2) W (by rw [st_size]; unfold maxLen; omega)
  have same : ∀ (W : World) (B : Option Addr) (d : Nat), Keep w W → Rus W B (Pa.lines 1 xs) → Calls Try.prog 11 #[.slice A xs.length c, .slice B (Pa.lines 1 xs).length d] W fun e' w' => e' = .returned (.bool true) ∧ Keep W w' := fun W B d hW hB => by
    have := rules_any A c xs B d (Pa.lines 1 xs) W (by omega) (by rw [lines_len]; omega) f2 (fits_lines xs 1 f2) (rA.kept hW) hB
    rwa [Pa.rules_lines xs 1 f4] at this
  obtain ⟨tx, htx⟩ : ∃ t, t = text xs := ⟨_, rfl⟩
  rw [← htx] at CT first
  have HF := Lib.hid first
  have HS := Lib.hid same
  clear first same f1 f2 f3 f4 rA wA hf htx
  generalize Pa.lines 1 xs = ys at *
  generalize textOk xs = ok at *
  replace CT := Lib.hid CT
  by_cases he : er = 0
  · subst he
    obtain ⟨g1, g2, g3, g4, g5⟩ := read_facts hx
    have CU := Lib.hid (fun (W : World) (B : Option Addr) (d : Nat) (hB : Rus W B a) => texts_any B d a W (by omega) g2 g3 hB)
    rw [g5] at CU
    have etx : text a = textsL a := by unfold text; rw [g5, if_pos rfl]
    have hul := texts_len a g5 g3
    obtain ⟨y, hy⟩ : ∃ y, Pa.text (text a) = y := ⟨_, rfl⟩
    obtain ⟨b, j, ev⟩ := y
    have CV := (fun W => parse_to (st (text a)) (b, j, ev) hy W (by rw [st_size, etx]; unfold maxLen; omega))
    by_cases hl2 : (text a).length ≤ 4096
    · have d2 : decide (((st (text a)).size : Int) > 4096) = false := by rw [st_size]; simp; omega
      have hb2 := Pa.read_back hx (by rw [← etx]; exact hl2)
      rw [← etx, hy] at hb2
      injection hb2 with b1 hb2
      injection hb2 with b2 b3
      subst b1 b2 b3
      have CR := Lib.hid (fun (W : World) (B : Option Addr) (d : Nat) (C : Option Addr) (f : Nat) (hB : Rus W B a) (hC : Rus W C (Pa.lines 1 a)) => rules_any B d a C f (Pa.lines 1 a) W (by omega) (by rw [lines_len]; omega) g2 (fits_lines a 1 g2) hB hC)
      rw [Pa.rules_lines a 1 g4] at CR
      clear g1 g2 g3 g4 g5 etx hul hx hy hl2
      generalize Pa.lines 1 a = bs at *
      generalize text a = ta at *
      replace CV := Lib.hid CV
      cases ok
      · clear HF HS
        go_enter Try.func3, Try.ntmps3
        go_wp2_with fail
        refine CF.out.mono ?_
        rintro e w1 ⟨rfl, k1⟩
        go_wp2_with fail
        refine (CT.out _ k1).mono ?_
        rintro e w2 ⟨rfl, k2⟩
        replace k1 := k1.trans k2
        go_wp2_with fail
        refine (CS.out _).mono ?_
        rintro e w3 ⟨B, bc, rfl, hB, k3⟩
        replace k1 := k1.trans k3
        go_wp2_with fail
        refine (CU.out _ B bc hB).mono ?_
        rintro e w4 ⟨rfl, k4⟩
        replace hB := hB.kept k4
        replace k1 := k1.trans k4
        go_wp2_with fail
        refine (CV.out _).mono ?_
        rintro e w5 ⟨C, cc, rfl, hC, k5⟩
        replace hB := hB.kept k5
        replace k1 := k1.trans k5
        go_wp2_with fail
        refine (CW.out _).mono ?_
        rintro e w6 ⟨rfl, k6⟩
        replace hB := hB.kept k6
        replace hC := hC.kept k6
        replace k1 := k1.trans k6
        go_wp2_with fail
        refine (CR.out _ B bc C cc hB hC).mono ?_
        rintro e w7 ⟨rfl, k7⟩
        replace k1 := k1.trans k7
        go_wp2
        go_ret
        exact ⟨rfl, k1⟩
      · by_cases hl1 : tx.length ≤ 4096
        · have d1 : decide (((st tx).size : Int) ≤ 4096) = true := by rw [st_size]; simp; omega
          go_enter Try.func3, Try.ntmps3
          go_wp2_with fail
          refine CF.out.mono ?_
          rintro e w1 ⟨rfl, k1⟩
          go_wp2_with fail
          refine (CT.out _ k1).mono ?_
          rintro e w2 ⟨rfl, k2⟩
          replace k1 := k1.trans k2
          go_wp2_with fail
          refine (HF.out (by simp) hl1 w2).mono ?_
          rintro e v1 ⟨Y, yc, rfl, hY, q1⟩
          replace k1 := k1.trans q1
          go_wp2_with fail
          refine (HS.out v1 Y yc k1 hY).mono ?_
          rintro e v2 ⟨rfl, q2⟩
          replace k1 := k1.trans q2
          go_wp2_with fail
          refine (CS.out _).mono ?_
          rintro e w3 ⟨B, bc, rfl, hB, k3⟩
          replace k1 := k1.trans k3
          go_wp2_with fail
          refine (CU.out _ B bc hB).mono ?_
          rintro e w4 ⟨rfl, k4⟩
          replace hB := hB.kept k4
          replace k1 := k1.trans k4
          go_wp2_with fail
          refine (CV.out _).mono ?_
          rintro e w5 ⟨C, cc, rfl, hC, k5⟩
          replace hB := hB.kept k5
          replace k1 := k1.trans k5
          go_wp2_with fail
          refine (CW.out _).mono ?_
          rintro e w6 ⟨rfl, k6⟩
          replace hB := hB.kept k6
          replace hC := hC.kept k6
          replace k1 := k1.trans k6
          go_wp2_with fail
          refine (CR.out _ B bc C cc hB hC).mono ?_
          rintro e w7 ⟨rfl, k7⟩
          replace k1 := k1.trans k7
          go_wp2
          go_ret
          exact ⟨rfl, k1⟩
        · have d1 : decide (((st tx).size : Int) ≤ 4096) = false := by rw [st_size]; simp; omega
          clear HF HS hl1
          go_enter Try.func3, Try.ntmps3
          go_wp2_with fail
          refine CF.out.mono ?_
          rintro e w1 ⟨rfl, k1⟩
          go_wp2_with fail
          refine (CT.out _ k1).mono ?_
          rintro e w2 ⟨rfl, k2⟩
          replace k1 := k1.trans k2
          go_wp2_with fail
          refine (CS.out _).mono ?_
          rintro e w3 ⟨B, bc, rfl, hB, k3⟩
          replace k1 := k1.trans k3
          go_wp2_with fail
          refine (CU.out _ B bc hB).mono ?_
          rintro e w4 ⟨rfl, k4⟩
          replace hB := hB.kept k4
          replace k1 := k1.trans k4
          go_wp2_with fail
          refine (CV.out _).mono ?_
          rintro e w5 ⟨C, cc, rfl, hC, k5⟩
          replace hB := hB.kept k5
          replace k1 := k1.trans k5
          go_wp2_with fail
          refine (CW.out _).mono ?_
          rintro e w6 ⟨rfl, k6⟩
          replace hB := hB.kept k6
          replace hC := hC.kept k6
          replace k1 := k1.trans k6
          go_wp2_with fail
          refine (CR.out _ B bc C cc hB hC).mono ?_
          rintro e w7 ⟨rfl, k7⟩
          replace k1 := k1.trans k7
          go_wp2
          go_ret
          exact ⟨rfl, k1⟩
    · have d2 : decide (((st (text a)).size : Int) > 4096) = true := by rw [st_size]; simp; omega
      clear g1 g2 g3 g4 g5 etx hul hx hy hl2
      generalize text a = ta at *
      replace CV := Lib.hid CV
      cases ok
      · clear HF HS
        go_enter Try.func3, Try.ntmps3
        go_wp2_with fail
        refine CF.out.mono ?_
        rintro e w1 ⟨rfl, k1⟩
        go_wp2_with fail
        refine (CT.out _ k1).mono ?_
        rintro e w2 ⟨rfl, k2⟩
        replace k1 := k1.trans k2
        go_wp2_with fail
        refine (CS.out _).mono ?_
        rintro e w3 ⟨B, bc, rfl, hB, k3⟩
        replace k1 := k1.trans k3
        go_wp2_with fail
        refine (CU.out _ B bc hB).mono ?_
        rintro e w4 ⟨rfl, k4⟩
        replace hB := hB.kept k4
        replace k1 := k1.trans k4
        go_wp2_with fail
        refine (CV.out _).mono ?_
        rintro e w5 ⟨C, cc, rfl, hC, k5⟩
        replace hB := hB.kept k5
        replace k1 := k1.trans k5
        go_wp2_with fail
        refine (CW.out _).mono ?_
        rintro e w6 ⟨rfl, k6⟩
        replace hB := hB.kept k6
        replace hC := hC.kept k6
        replace k1 := k1.trans k6
        go_wp2
        go_ret
        exact ⟨rfl, k1⟩
      · by_cases hl1 : tx.length ≤ 4096
        · have d1 : decide (((st tx).size : Int) ≤ 4096) = true := by rw [st_size]; simp; omega
          go_enter Try.func3, Try.ntmps3
          go_wp2_with fail
          refine CF.out.mono ?_
          rintro e w1 ⟨rfl, k1⟩
          go_wp2_with fail
          refine (CT.out _ k1).mono ?_
          rintro e w2 ⟨rfl, k2⟩
          replace k1 := k1.trans k2
          go_wp2_with fail
          refine (HF.out (by simp) hl1 w2).mono ?_
          rintro e v1 ⟨Y, yc, rfl, hY, q1⟩
          replace k1 := k1.trans q1
          go_wp2_with fail
          refine (HS.out v1 Y yc k1 hY).mono ?_
          rintro e v2 ⟨rfl, q2⟩
          replace k1 := k1.trans q2
          go_wp2_with fail
          refine (CS.out _).mono ?_
          rintro e w3 ⟨B, bc, rfl, hB, k3⟩
          replace k1 := k1.trans k3
          go_wp2_with fail
          refine (CU.out _ B bc hB).mono ?_
          rintro e w4 ⟨rfl, k4⟩
          replace hB := hB.kept k4
          replace k1 := k1.trans k4
          go_wp2_with fail
          refine (CV.out _).mono ?_
          rintro e w5 ⟨C, cc, rfl, hC, k5⟩
          replace hB := hB.kept k5
          replace k1 := k1.trans k5
          go_wp2_with fail
          refine (CW.out _).mono ?_
          rintro e w6 ⟨rfl, k6⟩
          replace hB := hB.kept k6
          replace hC := hC.kept k6
          replace k1 := k1.trans k6
          go_wp2
          go_ret
          exact ⟨rfl, k1⟩
        · have d1 : decide (((st tx).size : Int) ≤ 4096) = false := by rw [st_size]; simp; omega
          clear HF HS hl1
          go_enter Try.func3, Try.ntmps3
          go_wp2_with fail
          refine CF.out.mono ?_
          rintro e w1 ⟨rfl, k1⟩
          go_wp2_with fail
          refine (CT.out _ k1).mono ?_
          rintro e w2 ⟨rfl, k2⟩
          replace k1 := k1.trans k2
          go_wp2_with fail
          refine (CS.out _).mono ?_
          rintro e w3 ⟨B, bc, rfl, hB, k3⟩
          replace k1 := k1.trans k3
          go_wp2_with fail
          refine (CU.out _ B bc hB).mono ?_
          rintro e w4 ⟨rfl, k4⟩
          replace hB := hB.kept k4
          replace k1 := k1.trans k4
          go_wp2_with fail
          refine (CV.out _).mono ?_
          rintro e w5 ⟨C, cc, rfl, hC, k5⟩
          replace hB := hB.kept k5
          replace k1 := k1.trans k5
          go_wp2_with fail
          refine (CW.out _).mono ?_
          rintro e w6 ⟨rfl, k6⟩
          replace hB := hB.kept k6
          replace hC := hC.kept k6
          replace k1 := k1.trans k6
          go_wp2
          go_ret
          exact ⟨rfl, k1⟩
  · have d0 : (er != 0) = true := by simpa using he
    have ha : a = [] := by
      have := Pa.text_no (s := bl s) (by rw [hx]; exact he)
      rwa [hx] at this
    subst ha
    clear hx he
    cases ok
    · clear HF HS
      go_enter Try.func3, Try.ntmps3
      go_wp2_with fail
      refine CF.out.mono ?_
      rintro e w1 ⟨rfl, k1⟩
      go_wp2_with fail
      refine (CT.out _ k1).mono ?_
      rintro e w2 ⟨rfl, k2⟩
      replace k1 := k1.trans k2
      go_wp2_with fail
      refine (CS.out _).mono ?_
      rintro e w3 ⟨B, bc, rfl, hB, k3⟩
      replace k1 := k1.trans k3
      go_wp2_with fail
      refine (CW.out _).mono ?_
      rintro e w4 ⟨rfl, k4⟩
      go_wp2
      go_ret
      exact ⟨rfl, k1.trans k4⟩
    · by_cases hl1 : tx.length ≤ 4096
      · have d1 : decide (((st tx).size : Int) ≤ 4096) = true := by rw [st_size]; simp; omega
        go_enter Try.func3, Try.ntmps3
        go_wp2_with fail
        refine CF.out.mono ?_
        rintro e w1 ⟨rfl, k1⟩
        go_wp2_with fail
        refine (CT.out _ k1).mono ?_
        rintro e w2 ⟨rfl, k2⟩
        replace k1 := k1.trans k2
        go_wp2_with fail
        refine (HF.out (by simp) hl1 w2).mono ?_
        rintro e v1 ⟨Y, yc, rfl, hY, q1⟩
        replace k1 := k1.trans q1
        go_wp2_with fail
        refine (HS.out v1 Y yc k1 hY).mono ?_
        rintro e v2 ⟨rfl, q2⟩
        replace k1 := k1.trans q2
        go_wp2_with fail
        refine (CS.out _).mono ?_
        rintro e w3 ⟨B, bc, rfl, hB, k3⟩
        replace k1 := k1.trans k3
        go_wp2_with fail
        refine (CW.out _).mono ?_
        rintro e w4 ⟨rfl, k4⟩
        go_wp2
        go_ret
        exact ⟨rfl, k1.trans k4⟩
      · have d1 : decide (((st tx).size : Int) ≤ 4096) = false := by rw [st_size]; simp; omega
        clear HF HS hl1
        go_enter Try.func3, Try.ntmps3
        go_wp2_with fail
        refine CF.out.mono ?_
        rintro e w1 ⟨rfl, k1⟩
        go_wp2_with fail
        refine (CT.out _ k1).mono ?_
        rintro e w2 ⟨rfl, k2⟩
        replace k1 := k1.trans k2
        go_wp2_with fail
        refine (CS.out _).mono ?_
        rintro e w3 ⟨B, bc, rfl, hB, k3⟩
        replace k1 := k1.trans k3
        go_wp2_with fail
        refine (CW.out _).mono ?_
        rintro e w4 ⟨rfl, k4⟩
        go_wp2
        go_ret
        exact ⟨rfl, k1.trans k4⟩
end Go.Proofs.Ytffojilbhpefbaa.Parse
/- Layer 12's law ParseBlanks. Conditions: none beyond the law's own. -/
namespace Go.Proofs.Ytffojilbhpefbaa.Parse
set_option linter.unusedVariables false
open Go.ChangeShapes Go.WideShapes Go.ChangeAt Go.RowKit
open Tr
open PaF2 (few_back read_facts texts_len fits_lines lines_len)
open Ref10 (encT RetToks)
theorem spread_len (T : List TokP) : (Pa.spread T).length = (Lx.texts T).length + 5 * T.length := by
  induction T with
  | nil => rfl
  | cons k l ih =>
    show ((bl k.text ++ Pa.gap) ++ Pa.spread l).length = ((bl k.text ++ [32]) ++ Lx.texts l).length + _
    have : Pa.gap.length = 6 := rfl
    simp only [List.length_append, List.length_cons, List.length_nil]
    omega
theorem spread_app (T S : List TokP) : Pa.spread (T ++ S) = Pa.spread T ++ Pa.spread S := by simp [Pa.spread]
theorem spread_take (T : List TokP) (k : Nat) (h : k < T.length) (z : TokP) (hz : T[k] = z) : Pa.spread (T.take (k + 1)) = (Pa.spread (T.take k) ++ bl z.text) ++ Pa.gap := by
  rw [List.take_succ_eq_append_getElem h, hz, spread_app, List.append_assoc]
  simp [Pa.spread]
theorem take_le (T : List TokP) (k : Nat) : (Pa.spread (T.take k)).length ≤ (Pa.spread T).length := by
  have := congrArg List.length (spread_app (T.take k) (T.drop k))
  rw [List.take_append_drop, List.length_append] at this
  omega
set_option maxHeartbeats 8000000 in
theorem blanks_any (s : ByteArray) (w : World) (hs : s.size ≤ maxLen) :
    Calls Try.prog 6 #[.string s] w fun e w' => e = .returned (.bool true) ∧ Keep w w' := by
  have CW := Lib.hid (fun W => awake_any W)
  by_cases h4 : 400 < s.size
  · have d : decide ((s.size : Int) > 400) = true := by simp; omega
    go_enter Try.func6, Try.ntmps6
    go_wp2_with fail
    refine (CW.out _).mono ?_
    rintro e w2 ⟨rfl, k2⟩
    go_wp2
    go_ret
    exact ⟨rfl, k2⟩
  have d4 : decide ((s.size : Int) > 400) = false := by simp; omega
  obtain ⟨x, hx⟩ : ∃ x, Pa.text (bl s) = x := ⟨_, rfl⟩
  obtain ⟨a, i, er⟩ := x
  have CS := Lib.hid (fun W => parse_to s (a, i, er) hx W hs)
  have CL := (fun W => Ref10.split_any s W (by omega))
  obtain ⟨y, hy⟩ : ∃ y, Lx.split (bl s) = y := ⟨_, rfl⟩
  rw [hy] at CL
  by_cases he : er = 0
  · subst he
    obtain ⟨hl, _, T, hg, _⟩ := Pa.text_ok hx
    have hyT : y = (T, 0, 0) := by
      rw [← hy, Lx.split, if_neg (by omega), hg]
    subst hyT
    obtain ⟨f1, f2, f3, f4, f5⟩ := read_facts hx
    have hT := Lx.go_size _ (bl s) 1 T (Nat.le_refl _) hg
    rw [bl_length] at hT
    have hsp := spread_len T
    obtain ⟨b, hb, hab⟩ := Pa.blanks hx hg (by omega)
    obtain ⟨g1, g2, g3, g4, g5⟩ := read_facts hb
    have CB := Lib.hid (fun W => parse_to (st (Pa.spread T)) (b, 0, 0) hb W (by rw [st_size]; unfold maxLen; omega))
    have CR := Lib.hid (fun (W : World) (B : Option Addr) (d : Nat) (C : Option Addr) (f : Nat) (hB : Rus W B a) (hC : Rus W C b) => rules_any B d a C f b W (by omega) (by omega) f2 g2 hB hC)
    rw [hab] at CR
    have hTl : T.length ≤ 400 := by omega
    have hSl : (Pa.spread T).length ≤ 3000 := by omega
    have d5 : decide (((st (Pa.spread T)).size : Int) > 4096) = false := by rw [st_size]; simp; omega
    replace CL := Lib.hid CL
    clear f1 f2 f3 f4 f5 g1 g2 g3 g4 g5 hT hsp hab hb hx hy hl hg
    go_enter Try.func6, Try.ntmps6
    go_wp2_with fail
    refine (CS.out _).mono ?_
    rintro e w1 ⟨A, c, rfl, hA, k1⟩
    go_wp2_with fail
    refine (CL.out _).mono ?_
    rintro e w2 ⟨B, n, d, rfl, hB, k2, _⟩
    replace hA := hA.kept k2
    replace k1 := k1.trans k2
    have hn : T.length = n := hB.1
    go_wp2
    go_loopw [9, 10] (fun uv iv wr => ∃ k : Nat, k ≤ n ∧ iv = .int .i64 k ∧ uv = .string (st (Pa.spread (T.take k))) ∧ Quiet w2 wr) (fun _ iv _ => n - (intOf iv).toNat)
    case atStart => exact ⟨0, Nat.zero_le _, rfl, rfl, Quiet.refl _⟩
    case round =>
      obtain ⟨k, hk, rfl, rfl, hq⟩ := hrel
      by_cases hlt : k < n
      · have hltz : (k : Int) < n := by omega
        have hk0 : (0 : Int) ≤ k := by omega
        obtain ⟨b', off, rfl, _⟩ := hB.addr (by omega)
        obtain ⟨_, hc⟩ := hB.cells (by omega)
        obtain ⟨z, hz⟩ : ∃ z, T[k] = z := ⟨_, rfl⟩
        have x0 : wr.cell? ⟨b', off + k * 4 + 1, none⟩ = some (.string z.text) := by
          have := hc k (by omega) 1 (.string z.text) (by rw [hz]; rfl)
          exact (hq.cell _).trans this
        have o1 := spread_take T k (by omega) z hz
        have l1 := take_le T (k + 1)
        obtain ⟨po, hpo⟩ : ∃ p, p = Pa.spread (T.take k) := ⟨_, rfl⟩
        rw [← hpo] at o1
        rw [← hpo]
        obtain ⟨tx, htx⟩ : ∃ t, t = z.text := ⟨_, rfl⟩
        rw [← htx] at x0 o1
        have hlen : po.length + tx.size + 6 ≤ 3000 := by
          have := congrArg List.length o1
          rw [List.length_append, List.length_append, bl_length] at this
          have : Pa.gap.length = 6 := rfl
          omega
        obtain ⟨qo, hqo⟩ : ∃ p, p = po ++ bl tx := ⟨_, rfl⟩
        have a1 : ∀ W : World, (Op.stringOp .add (st po) tx).run Try.prog W = .ok (.string (st qo)) W := fun W => by
          have := add_st (P := Try.prog) po (bl tx) (by rw [bl_length]; omega) W
          rw [st_bl] at this
          rw [hqo]; exact this
        obtain ⟨ro, hro⟩ : ∃ p, p = qo ++ Pa.gap := ⟨_, rfl⟩
        have a2 : ∀ W : World, (Op.stringOp .add (st qo) ⟨#[10, 9, 35, 32, 120, 10]⟩).run Try.prog W = .ok (.string (st ro)) W := by
          rw [hro]
          exact add_st qo Pa.gap (by rw [hqo, List.length_append, bl_length]; have : Pa.gap.length = 6 := rfl; omega)
        have HO := Lib.hid (show Pa.spread (T.take (k + 1)) = ro by rw [o1, hro, hqo])
        clear o1 l1 hpo htx hqo hro hz hc hlen
        go_wp2
        refine ⟨⟨k + 1, by omega, by go_num, by rw [HO.out], by first | exact hq | exact hq.drewN _ | exact hq.drew⟩, by simp [intOf]; omega⟩
      · obtain rfl : k = n := by omega
        rw [List.take_of_length_le (by omega)]
        replace hA := hA.kept hq.keep
        replace k1 := k1.trans hq.keep
        generalize Pa.spread T = po at *
        go_wp2_with fail
        refine (CB.out _).mono ?_
        rintro e w3 ⟨C, cc, rfl, hC, k3⟩
        replace hA := hA.kept k3
        replace k1 := k1.trans k3
        go_wp2_with fail
        refine (CW.out _).mono ?_
        rintro e w4 ⟨rfl, k4⟩
        replace hA := hA.kept k4
        replace hC := hC.kept k4
        replace k1 := k1.trans k4
        go_wp2_with fail
        refine (CR.out _ A c C cc hA hC).mono ?_
        rintro e w5 ⟨rfl, k5⟩
        go_wp2
        go_ret
        exact ⟨rfl, k1.trans k5⟩
  · have d0 : (er != 0) = true := by simpa using he
    replace CL := Lib.hid CL
    obtain ⟨y1, y2, y3⟩ := y
    clear hx hy he h4
    go_enter Try.func6, Try.ntmps6
    go_wp2_with fail
    refine (CS.out _).mono ?_
    rintro e w1 ⟨A, c, rfl, _, k1⟩
    go_wp2_with fail
    refine (CL.out _).mono ?_
    rintro e w2 ⟨B, n, d, rfl, _, k2, _⟩
    go_wp2_with fail
    refine (CW.out _).mono ?_
    rintro e w3 ⟨rfl, k3⟩
    go_wp2
    go_ret
    exact ⟨rfl, (k1.trans k2).trans k3⟩
end Go.Proofs.Ytffojilbhpefbaa.Parse
