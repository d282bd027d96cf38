/- Several texts in one: PaL3, PaL4. Conditions: as each part says. -/
import Derived.Test.YtffojilbhpefbaaPaL
import Derived.Test.YtffojilbhpefbaaPaF2
import Derived.Test.YtffojilbhpefbaaRow2
/- Layer 12's law ParseBack. Conditions: none beyond the law's own. -/
namespace Go.Proofs.Ytffojilbhpefbaa.Parse
set_option linter.unusedVariables false
open Go.ChangeShapes Go.WideShapes Go.ChangeAt Go.RowKit
open Tr
open PaF2 (few_back read_facts texts_len fits_lines lines_len)
set_option maxHeartbeats 8000000 in
theorem back_any (A : Option Addr) (n c : Nat) (xs : List RuleP) (s : ByteArray) (w : World) (hs : s.size ≤ maxLen) (hA : RulesIn w A n xs) :
    Calls Try.prog 3 #[.slice A n c, .string s] w fun e w' => e = .returned (.bool true) ∧ Keep w w' := by
  obtain ⟨rfl, rA, wA⟩ := hA
  have CW := Lib.hid (fun W => awake_any W)
  have CF := Lib.hid (few_any A c xs 6 w (by omega) rA)
  cases hf : few xs 6
  · rw [hf] at CF
    clear rA wA
    go_enter Try.func3, Try.ntmps3
    go_wp2_with fail
    refine CF.out.mono ?_
    rintro e w1 ⟨rfl, k1⟩
    go_wp2_with fail
    refine (CW.out _).mono ?_
    rintro e w2 ⟨rfl, k2⟩
    go_wp2
    go_ret
    exact ⟨rfl, k1.trans k2⟩
  rw [hf] at CF
  by_cases h42 : 4200 < s.size
  · have d : decide ((s.size : Int) > 4200) = true := by simp; omega
    clear rA wA
    go_enter Try.func3, Try.ntmps3
    go_wp2_with fail
    refine CF.out.mono ?_
    rintro e w1 ⟨rfl, k1⟩
    go_wp2_with fail
    refine (CW.out _).mono ?_
    rintro e w2 ⟨rfl, k2⟩
    go_wp2
    go_ret
    exact ⟨rfl, k1.trans k2⟩
  have d42 : decide ((s.size : Int) > 4200) = false := by simp; omega
  clear h42
  obtain ⟨f1, f2, f3, f4⟩ := few_back hf wA
  have CT := (fun (W : World) (hW : Keep w W) => texts_any A c xs W (by omega) f2 f3 (rA.kept hW))
  obtain ⟨x, hx⟩ : ∃ x, Pa.text (bl s) = x := ⟨_, rfl⟩
  obtain ⟨a, i, er⟩ := x
  have CS := Lib.hid (fun W => parse_to s (a, i, er) hx W hs)
  have first : textOk xs = true → (text xs).length ≤ 4096 → ∀ W : World, Calls Try.prog 10 #[.string (st (text xs))] W (Pa.RetRules (Pa.lines 1 xs, 0, 0) W) := fun h1 h2 W => by
    have e : text xs = textsL xs := by unfold text; rw [h1, if_pos rfl]
    rw [e] at h2 ⊢
    exact parse_to (st (textsL xs)) _ (Pa.few_back xs hf h1 f4 h2) W (by rw [st_size]; unfold maxLen; omega)
  have same : ∀ (W : World) (B : Option Addr) (d : Nat), Keep w W → Rus W B (Pa.lines 1 xs) → Calls Try.prog 11 #[.slice A xs.length c, .slice B (Pa.lines 1 xs).length d] W fun e' w' => e' = .returned (.bool true) ∧ Keep W w' := fun W B d hW hB => by
    have := rules_any A c xs B d (Pa.lines 1 xs) W (by omega) (by rw [lines_len]; omega) f2 (fits_lines xs 1 f2) (rA.kept hW) hB
    rwa [Pa.rules_lines xs 1 f4] at this
  obtain ⟨tx, htx⟩ : ∃ t, t = text xs := ⟨_, rfl⟩
  rw [← htx] at CT first
  have HF := Lib.hid first
  have HS := Lib.hid same
  clear first same f1 f2 f3 f4 rA wA hf htx
  generalize Pa.lines 1 xs = ys at *
  generalize textOk xs = ok at *
  replace CT := Lib.hid CT
  by_cases he : er = 0
  · subst he
    obtain ⟨g1, g2, g3, g4, g5⟩ := read_facts hx
    have CU := Lib.hid (fun (W : World) (B : Option Addr) (d : Nat) (hB : Rus W B a) => texts_any B d a W (by omega) g2 g3 hB)
    rw [g5] at CU
    have etx : text a = textsL a := by unfold text; rw [g5, if_pos rfl]
    have hul := texts_len a g5 g3
    obtain ⟨y, hy⟩ : ∃ y, Pa.text (text a) = y := ⟨_, rfl⟩
    obtain ⟨b, j, ev⟩ := y
    have CV := (fun W => parse_to (st (text a)) (b, j, ev) hy W (by rw [st_size, etx]; unfold maxLen; omega))
    by_cases hl2 : (text a).length ≤ 4096
    · have d2 : decide (((st (text a)).size : Int) > 4096) = false := by rw [st_size]; simp; omega
      have hb2 := Pa.read_back hx (by rw [← etx]; exact hl2)
      rw [← etx, hy] at hb2
      injection hb2 with b1 hb2
      injection hb2 with b2 b3
      subst b1 b2 b3
      have CR := Lib.hid (fun (W : World) (B : Option Addr) (d : Nat) (C : Option Addr) (f : Nat) (hB : Rus W B a) (hC : Rus W C (Pa.lines 1 a)) => rules_any B d a C f (Pa.lines 1 a) W (by omega) (by rw [lines_len]; omega) g2 (fits_lines a 1 g2) hB hC)
      rw [Pa.rules_lines a 1 g4] at CR
      clear g1 g2 g3 g4 g5 etx hul hx hy hl2
      generalize Pa.lines 1 a = bs at *
      generalize text a = ta at *
      replace CV := Lib.hid CV
      cases ok
      · clear HF HS
        go_enter Try.func3, Try.ntmps3
        go_wp2_with fail
        refine CF.out.mono ?_
        rintro e w1 ⟨rfl, k1⟩
        go_wp2_with fail
        refine (CT.out _ k1).mono ?_
        rintro e w2 ⟨rfl, k2⟩
        replace k1 := k1.trans k2
        go_wp2_with fail
        refine (CS.out _).mono ?_
        rintro e w3 ⟨B, bc, rfl, hB, k3⟩
        replace k1 := k1.trans k3
        go_wp2_with fail
        refine (CU.out _ B bc hB).mono ?_
        rintro e w4 ⟨rfl, k4⟩
        replace hB := hB.kept k4
        replace k1 := k1.trans k4
        go_wp2_with fail
        refine (CV.out _).mono ?_
        rintro e w5 ⟨C, cc, rfl, hC, k5⟩
        replace hB := hB.kept k5
        replace k1 := k1.trans k5
        go_wp2_with fail
        refine (CW.out _).mono ?_
        rintro e w6 ⟨rfl, k6⟩
        replace hB := hB.kept k6
        replace hC := hC.kept k6
        replace k1 := k1.trans k6
        go_wp2_with fail
        refine (CR.out _ B bc C cc hB hC).mono ?_
        rintro e w7 ⟨rfl, k7⟩
        replace k1 := k1.trans k7
        go_wp2
        go_ret
        exact ⟨rfl, k1⟩
      · by_cases hl1 : tx.length ≤ 4096
        · have d1 : decide (((st tx).size : Int) ≤ 4096) = true := by rw [st_size]; simp; omega
          go_enter Try.func3, Try.ntmps3
          go_wp2_with fail
          refine CF.out.mono ?_
          rintro e w1 ⟨rfl, k1⟩
          go_wp2_with fail
          refine (CT.out _ k1).mono ?_
          rintro e w2 ⟨rfl, k2⟩
          replace k1 := k1.trans k2
          go_wp2_with fail
          refine (HF.out (by simp) hl1 w2).mono ?_
          rintro e v1 ⟨Y, yc, rfl, hY, q1⟩
          replace k1 := k1.trans q1
          go_wp2_with fail
          refine (HS.out v1 Y yc k1 hY).mono ?_
          rintro e v2 ⟨rfl, q2⟩
          replace k1 := k1.trans q2
          go_wp2_with fail
          refine (CS.out _).mono ?_
          rintro e w3 ⟨B, bc, rfl, hB, k3⟩
          replace k1 := k1.trans k3
          go_wp2_with fail
          refine (CU.out _ B bc hB).mono ?_
          rintro e w4 ⟨rfl, k4⟩
          replace hB := hB.kept k4
          replace k1 := k1.trans k4
          go_wp2_with fail
          refine (CV.out _).mono ?_
          rintro e w5 ⟨C, cc, rfl, hC, k5⟩
          replace hB := hB.kept k5
          replace k1 := k1.trans k5
          go_wp2_with fail
          refine (CW.out _).mono ?_
          rintro e w6 ⟨rfl, k6⟩
          replace hB := hB.kept k6
          replace hC := hC.kept k6
          replace k1 := k1.trans k6
          go_wp2_with fail
          refine (CR.out _ B bc C cc hB hC).mono ?_
          rintro e w7 ⟨rfl, k7⟩
          replace k1 := k1.trans k7
          go_wp2
          go_ret
          exact ⟨rfl, k1⟩
        · have d1 : decide (((st tx).size : Int) ≤ 4096) = false := by rw [st_size]; simp; omega
          clear HF HS hl1
          go_enter Try.func3, Try.ntmps3
          go_wp2_with fail
          refine CF.out.mono ?_
          rintro e w1 ⟨rfl, k1⟩
          go_wp2_with fail
          refine (CT.out _ k1).mono ?_
          rintro e w2 ⟨rfl, k2⟩
          replace k1 := k1.trans k2
          go_wp2_with fail
          refine (CS.out _).mono ?_
          rintro e w3 ⟨B, bc, rfl, hB, k3⟩
          replace k1 := k1.trans k3
          go_wp2_with fail
          refine (CU.out _ B bc hB).mono ?_
          rintro e w4 ⟨rfl, k4⟩
          replace hB := hB.kept k4
          replace k1 := k1.trans k4
          go_wp2_with fail
          refine (CV.out _).mono ?_
          rintro e w5 ⟨C, cc, rfl, hC, k5⟩
          replace hB := hB.kept k5
          replace k1 := k1.trans k5
          go_wp2_with fail
          refine (CW.out _).mono ?_
          rintro e w6 ⟨rfl, k6⟩
          replace hB := hB.kept k6
          replace hC := hC.kept k6
          replace k1 := k1.trans k6
          go_wp2_with fail
          refine (CR.out _ B bc C cc hB hC).mono ?_
          rintro e w7 ⟨rfl, k7⟩
          replace k1 := k1.trans k7
          go_wp2
          go_ret
          exact ⟨rfl, k1⟩
    · have d2 : decide (((st (text a)).size : Int) > 4096) = true := by rw [st_size]; simp; omega
      clear g1 g2 g3 g4 g5 etx hul hx hy hl2
      generalize text a = ta at *
      replace CV := Lib.hid CV
      cases ok
      · clear HF HS
        go_enter Try.func3, Try.ntmps3
        go_wp2_with fail
        refine CF.out.mono ?_
        rintro e w1 ⟨rfl, k1⟩
        go_wp2_with fail
        refine (CT.out _ k1).mono ?_
        rintro e w2 ⟨rfl, k2⟩
        replace k1 := k1.trans k2
        go_wp2_with fail
        refine (CS.out _).mono ?_
        rintro e w3 ⟨B, bc, rfl, hB, k3⟩
        replace k1 := k1.trans k3
        go_wp2_with fail
        refine (CU.out _ B bc hB).mono ?_
        rintro e w4 ⟨rfl, k4⟩
        replace hB := hB.kept k4
        replace k1 := k1.trans k4
        go_wp2_with fail
        refine (CV.out _).mono ?_
        rintro e w5 ⟨C, cc, rfl, hC, k5⟩
        replace hB := hB.kept k5
        replace k1 := k1.trans k5
        go_wp2_with fail
        refine (CW.out _).mono ?_
        rintro e w6 ⟨rfl, k6⟩
        replace hB := hB.kept k6
        replace hC := hC.kept k6
        replace k1 := k1.trans k6
        go_wp2
        go_ret
        exact ⟨rfl, k1⟩
      · by_cases hl1 : tx.length ≤ 4096
        · have d1 : decide (((st tx).size : Int) ≤ 4096) = true := by rw [st_size]; simp; omega
          go_enter Try.func3, Try.ntmps3
          go_wp2_with fail
          refine CF.out.mono ?_
          rintro e w1 ⟨rfl, k1⟩
          go_wp2_with fail
          refine (CT.out _ k1).mono ?_
          rintro e w2 ⟨rfl, k2⟩
          replace k1 := k1.trans k2
          go_wp2_with fail
          refine (HF.out (by simp) hl1 w2).mono ?_
          rintro e v1 ⟨Y, yc, rfl, hY, q1⟩
          replace k1 := k1.trans q1
          go_wp2_with fail
          refine (HS.out v1 Y yc k1 hY).mono ?_
          rintro e v2 ⟨rfl, q2⟩
          replace k1 := k1.trans q2
          go_wp2_with fail
          refine (CS.out _).mono ?_
          rintro e w3 ⟨B, bc, rfl, hB, k3⟩
          replace k1 := k1.trans k3
          go_wp2_with fail
          refine (CU.out _ B bc hB).mono ?_
          rintro e w4 ⟨rfl, k4⟩
          replace hB := hB.kept k4
          replace k1 := k1.trans k4
          go_wp2_with fail
          refine (CV.out _).mono ?_
          rintro e w5 ⟨C, cc, rfl, hC, k5⟩
          replace hB := hB.kept k5
          replace k1 := k1.trans k5
          go_wp2_with fail
          refine (CW.out _).mono ?_
          rintro e w6 ⟨rfl, k6⟩
          replace hB := hB.kept k6
          replace hC := hC.kept k6
          replace k1 := k1.trans k6
          go_wp2
          go_ret
          exact ⟨rfl, k1⟩
        · have d1 : decide (((st tx).size : Int) ≤ 4096) = false := by rw [st_size]; simp; omega
          clear HF HS hl1
          go_enter Try.func3, Try.ntmps3
          go_wp2_with fail
          refine CF.out.mono ?_
          rintro e w1 ⟨rfl, k1⟩
          go_wp2_with fail
          refine (CT.out _ k1).mono ?_
          rintro e w2 ⟨rfl, k2⟩
          replace k1 := k1.trans k2
          go_wp2_with fail
          refine (CS.out _).mono ?_
          rintro e w3 ⟨B, bc, rfl, hB, k3⟩
          replace k1 := k1.trans k3
          go_wp2_with fail
          refine (CU.out _ B bc hB).mono ?_
          rintro e w4 ⟨rfl, k4⟩
          replace hB := hB.kept k4
          replace k1 := k1.trans k4
          go_wp2_with fail
          refine (CV.out _).mono ?_
          rintro e w5 ⟨C, cc, rfl, hC, k5⟩
          replace hB := hB.kept k5
          replace k1 := k1.trans k5
          go_wp2_with fail
          refine (CW.out _).mono ?_
          rintro e w6 ⟨rfl, k6⟩
          replace hB := hB.kept k6
          replace hC := hC.kept k6
          replace k1 := k1.trans k6
          go_wp2
          go_ret
          exact ⟨rfl, k1⟩
  · have d0 : (er != 0) = true := by simpa using he
    have ha : a = [] := by
      have := Pa.text_no (s := bl s) (by rw [hx]; exact he)
      rwa [hx] at this
    subst ha
    clear hx he
    cases ok
    · clear HF HS
      go_enter Try.func3, Try.ntmps3
      go_wp2_with fail
      refine CF.out.mono ?_
      rintro e w1 ⟨rfl, k1⟩
      go_wp2_with fail
      refine (CT.out _ k1).mono ?_
      rintro e w2 ⟨rfl, k2⟩
      replace k1 := k1.trans k2
      go_wp2_with fail
      refine (CS.out _).mono ?_
      rintro e w3 ⟨B, bc, rfl, hB, k3⟩
      replace k1 := k1.trans k3
      go_wp2_with fail
      refine (CW.out _).mono ?_
      rintro e w4 ⟨rfl, k4⟩
      go_wp2
      go_ret
      exact ⟨rfl, k1.trans k4⟩
    · by_cases hl1 : tx.length ≤ 4096
      · have d1 : decide (((st tx).size : Int) ≤ 4096) = true := by rw [st_size]; simp; omega
        go_enter Try.func3, Try.ntmps3
        go_wp2_with fail
        refine CF.out.mono ?_
        rintro e w1 ⟨rfl, k1⟩
        go_wp2_with fail
        refine (CT.out _ k1).mono ?_
        rintro e w2 ⟨rfl, k2⟩
        replace k1 := k1.trans k2
        go_wp2_with fail
        refine (HF.out (by simp) hl1 w2).mono ?_
        rintro e v1 ⟨Y, yc, rfl, hY, q1⟩
        replace k1 := k1.trans q1
        go_wp2_with fail
        refine (HS.out v1 Y yc k1 hY).mono ?_
        rintro e v2 ⟨rfl, q2⟩
        replace k1 := k1.trans q2
        go_wp2_with fail
        refine (CS.out _).mono ?_
        rintro e w3 ⟨B, bc, rfl, hB, k3⟩
        replace k1 := k1.trans k3
        go_wp2_with fail
        refine (CW.out _).mono ?_
        rintro e w4 ⟨rfl, k4⟩
        go_wp2
        go_ret
        exact ⟨rfl, k1.trans k4⟩
      · have d1 : decide (((st tx).size : Int) ≤ 4096) = false := by rw [st_size]; simp; omega
        clear HF HS hl1
        go_enter Try.func3, Try.ntmps3
        go_wp2_with fail
        refine CF.out.mono ?_
        rintro e w1 ⟨rfl, k1⟩
        go_wp2_with fail
        refine (CT.out _ k1).mono ?_
        rintro e w2 ⟨rfl, k2⟩
        replace k1 := k1.trans k2
        go_wp2_with fail
        refine (CS.out _).mono ?_
        rintro e w3 ⟨B, bc, rfl, hB, k3⟩
        replace k1 := k1.trans k3
        go_wp2_with fail
        refine (CW.out _).mono ?_
        rintro e w4 ⟨rfl, k4⟩
        go_wp2
        go_ret
        exact ⟨rfl, k1.trans k4⟩
end Go.Proofs.Ytffojilbhpefbaa.Parse
/- Layer 12's law ParseSplits. Conditions: none beyond the law's own. -/
namespace Go.Proofs.Ytffojilbhpefbaa.Parse
set_option linter.unusedVariables false
open Go.ChangeShapes Go.WideShapes Go.ChangeAt Go.RowKit
open Tr
open PaF2 (few_back read_facts texts_len fits_lines lines_len)
/-- A rule as it lies in memory. -/
structure RawR where
  r : RuleP
  RA : Option Addr
  rc : Nat
  OA : Option Addr
  oc : Nat
def encR (x : RawR) : List Value := [.bool x.r.allow, .int .i64 (kind x.r.when_), .int .i64 (field x.r.when_), .slice x.RA (rs x.r.when_).length x.rc, .float .f64 (lo x.r.when_), .float .f64 (hi x.r.when_), .slice x.OA (of x.r.when_).length x.oc, .int .i64 x.r.num, .int .i64 x.r.per, .int .i64 x.r.burst, .int .i64 x.r.line]
theorem encR_len (x : RawR) : (encR x).length = 11 := rfl
theorem encR_one (x : RawR) : ∀ v ∈ encR x, v.oneCell' = true := by
  intro v hv
  simp [encR] at hv
  rcases hv with rfl | rfl | rfl | rfl | rfl | rfl | rfl | rfl | rfl | rfl | rfl <;> rfl
theorem info_rule : (Try.prog.info? 43).map (fun i => (i.zero, i.size, i.bytes)) = some (some (.agg #[.bool false, .int .i64 0, .int .i64 0, .slice none 0 0, .float .f64 0, .float .f64 0, .slice none 0 0, .int .i64 0, .int .i64 0, .int .i64 0, .int .i64 0]), 11, 120) := by kernel_rfl
theorem raws_of {W : World} {A : Option Addr} {l : List RuleP} (h : Rus W A l) : ∃ raws : List RawR, raws.map RawR.r = l ∧ Row encR 11 W W.heap.size A l.length raws ∧ ∀ x ∈ raws, Ex W x.r.when_ x.RA x.OA := by
  rcases Nat.eq_zero_or_pos l.length with h0 | hp
  · obtain rfl := List.eq_nil_of_length_eq_zero h0
    exact ⟨[], rfl, Row.none_ _ _ _, fun x hx => by cases hx⟩
  · obtain ⟨b, off, rfl, hb⟩ := h.addr hp
    obtain ⟨raws, hl, hr⟩ := choose_list l.length (fun i (x : RawR) => x.r = l.getD i zeroR ∧ RuleAt W x.r x.RA x.OA x.rc x.oc b (off + i * 11) ∧ Ex W x.r.when_ x.RA x.OA) (fun i hi => by
      obtain ⟨_, RA, OA, rc, oc, hat, hx⟩ := h.elem i hi
      exact ⟨⟨l.getD i zeroR, RA, rc, OA, oc⟩, rfl, hat, hx⟩)
    refine ⟨raws, ?_, ⟨hl, fun _ => ⟨b, off, rfl, hb, fun j hj i v hv => ?_⟩⟩, fun x hx => ?_⟩
    · refine List.ext_getElem (by rw [List.length_map, hl]) fun i h1 h2 => ?_
      have := (hr i _ (List.getElem?_eq_getElem (by omega))).1
      rw [List.getElem_map, this, List.getD_eq_getElem?_getD, List.getElem?_eq_getElem h2]; rfl
    · obtain ⟨_, ⟨a0, a1, a2, a3, a4, a5, a6, a7, a8, a9, a10⟩, _⟩ := hr j _ (List.getElem?_eq_getElem hj)
      match i, hv with
      | 0, hv => simp [encR] at hv; subst hv; exact a0
      | 1, hv => simp [encR] at hv; subst hv; exact a1
      | 2, hv => simp [encR] at hv; subst hv; exact a2
      | 3, hv => simp [encR] at hv; subst hv; exact a3
      | 4, hv => simp [encR] at hv; subst hv; exact a4
      | 5, hv => simp [encR] at hv; subst hv; exact a5
      | 6, hv => simp [encR] at hv; subst hv; exact a6
      | 7, hv => simp [encR] at hv; subst hv; exact a7
      | 8, hv => simp [encR] at hv; subst hv; exact a8
      | 9, hv => simp [encR] at hv; subst hv; exact a9
      | 10, hv => simp [encR] at hv; subst hv; exact a10
      | i + 11, hv => simp [encR] at hv
    · obtain ⟨j, hj, rfl⟩ := List.mem_iff_getElem.1 hx
      exact (hr j _ (List.getElem?_eq_getElem hj)).2.2
theorem rus_of {W : World} {A : Option Addr} {n : Nat} {raws : List RawR} (h : Row encR 11 W W.heap.size A n raws) (hx : ∀ x ∈ raws, Ex W x.r.when_ x.RA x.OA) : Rus W A (raws.map RawR.r) := fun hn => by
  rw [List.length_map] at hn
  have hl := h.1
  obtain ⟨b, off, rfl, hb⟩ := h.addr (by omega)
  obtain ⟨_, hc⟩ := h.cells (by omega)
  refine ⟨b, off, rfl, hb, fun k hk => ?_⟩
  rw [List.length_map] at hk
  rw [List.getElem_map]
  have he := hx _ (List.getElem_mem (h := hk))
  exact ⟨encR raws[k], fun j v hv => hc k (by omega) j v hv, _, rfl, rfl, he.into _ _⟩
theorem atomsR_app : ∀ (l m : List RuleP), Pa.atomsR (l ++ m) = Pa.atomsR l + Pa.atomsR m
  | [], m => by simp [Pa.atomsR]
  | x :: l, m => by
    have := atomsR_app l m
    simp only [Pa.atomsR] at this ⊢
    simp only [List.cons_append, List.map_cons, List.sum_cons]
    omega
theorem atomsR_take (c : List RuleP) (k : Nat) (h : k < c.length) : Pa.atomsR (c.take (k + 1)) = Pa.atomsR (c.take k) + atoms (c.getD k zeroR).when_ := by
  rw [List.take_succ_eq_append_getElem h, List.getD_eq_getElem?_getD, List.getElem?_eq_getElem h, atomsR_app]
  simp [Pa.atomsR]
theorem atomsR_le (c : List RuleP) (k : Nat) : Pa.atomsR (c.take k) ≤ Pa.atomsR c := by
  have h := atomsR_app (c.take k) (c.drop k)
  rw [List.take_append_drop] at h
  omega
/-- What the sum of atoms is, and what comes of the lists. -/
def SumRel (c : List RuleP) (w3 : World) (nv iv : Value) (wr : World) : Prop := ∃ k : Nat, k ≤ c.length ∧ iv = .int .i64 k ∧ nv = .int .i64 (Pa.atomsR (c.take k) : Nat) ∧ Keep w3 wr
set_option maxHeartbeats 8000000 in
theorem splits_any (s t : ByteArray) (w : World) (hs : s.size ≤ maxLen) (ht : t.size ≤ maxLen) :
    Calls Try.prog 5 #[.string s, .string t] w fun e w' => e = .returned (.bool true) ∧ Keep w w' := by
  have CW := Lib.hid (fun W => awake_any W)
  by_cases h1 : 1000 < s.size
  · have d : decide ((s.size : Int) > 1000) = true := by simp; omega
    go_enter Try.func5, Try.ntmps5
    go_wp2_with fail
    refine (CW.out _).mono ?_
    rintro e w9 ⟨rfl, k9⟩
    go_wp2
    go_ret
    exact ⟨rfl, k9⟩
  have d1 : decide ((s.size : Int) > 1000) = false := by simp; omega
  by_cases h2 : 1000 < t.size
  · have d : decide ((t.size : Int) > 1000) = true := by simp; omega
    go_enter Try.func5, Try.ntmps5
    go_wp2_with fail
    refine (CW.out _).mono ?_
    rintro e w9 ⟨rfl, k9⟩
    go_wp2
    go_ret
    exact ⟨rfl, k9⟩
  have d2 : decide ((t.size : Int) > 1000) = false := by simp; omega
  obtain ⟨x, hx⟩ : ∃ x, Pa.text (bl s) = x := ⟨_, rfl⟩
  obtain ⟨a, i, ea⟩ := x
  obtain ⟨y, hy⟩ : ∃ y, Pa.text (bl t) = y := ⟨_, rfl⟩
  obtain ⟨b, j, eb⟩ := y
  obtain ⟨z, hz⟩ : ∃ z, Pa.text (bl s ++ 10 :: bl t) = z := ⟨_, rfl⟩
  obtain ⟨c, l, ec⟩ := z
  have C1 := Lib.hid (fun W => parse_to s (a, i, ea) hx W hs)
  have C2 := Lib.hid (fun W => parse_to t (b, j, eb) hy W ht)
  obtain ⟨p1, hp1⟩ : ∃ p, p = bl s ++ [10] := ⟨_, rfl⟩
  obtain ⟨p2, hp2⟩ : ∃ p, p = bl s ++ 10 :: bl t := ⟨_, rfl⟩
  have l1 : p1.length = s.size + 1 := by rw [hp1, List.length_append, bl_length]; rfl
  have l2 : p2.length = s.size + t.size + 1 := by rw [hp2, List.length_append, List.length_cons, bl_length, bl_length]; omega
  have a1 : ∀ W : World, (Op.stringOp .add s ⟨#[10]⟩).run Try.prog W = .ok (.string (st p1)) W := fun W => by
    have := add_st (P := Try.prog) (bl s) [10] (by rw [bl_length]; simp; omega) W
    rw [st_bl] at this
    rw [hp1]; exact this
  have a2 : ∀ W : World, (Op.stringOp .add (st p1) t).run Try.prog W = .ok (.string (st p2)) W := fun W => by
    have := add_st (P := Try.prog) p1 (bl t) (by rw [bl_length]; omega) W
    rw [st_bl] at this
    rw [this, hp2, hp1, List.append_assoc]; rfl
  have C3 := Lib.hid (fun W => parse_to (st p2) (c, l, ec) (by show Pa.text p2 = _; rw [hp2]; exact hz) W (by rw [st_size]; unfold maxLen; omega))
  rw [← hp2] at hz
  have hpp := Lib.hid hp2
  clear hp1 hp2 l1
  by_cases e1 : ea = 0
  · subst e1
    by_cases e2 : eb = 0
    · subst e2
      by_cases h64 : a.length + b.length ≤ 64
      · have d3 : decide ((a.length : Int) + (b.length : Int) > 64) = false := by simp; omega
        have hw64 : IntKind.i64.wrap ((a.length : Int) + (b.length : Int)) = (a.length : Int) + (b.length : Int) := by rw [IntKind.wrap_i64]; omega
        obtain ⟨f1, f2, _⟩ := read_facts hx
        obtain ⟨g1, g2, _⟩ := read_facts hy
        have hsp := Pa.splits hx hy (by rw [bl_length, bl_length]; omega) h64
        rw [← hpp.out, hz] at hsp
        rcases hsp with ⟨c', hc', hr, hat⟩ | ⟨ln, hc'⟩
        · injection hc' with q1 hc'
          injection hc' with q2 q3
          subst q1 q2 q3
          obtain ⟨m1, m2, _⟩ := read_facts hz
          have CA := Lib.hid (fun (k : Nat) (hk : k < c.length) (W : World) (RA OA : Option Addr) (rc oc : Nat) (hX : Ex W (c.getD k zeroR).when_ RA OA) => atoms_any _ (c.getD k zeroR).when_ RA OA rc oc W (Nat.le_refl _) (m2 _ (by rw [List.getD_eq_getElem?_getD, List.getElem?_eq_getElem hk]; exact List.getElem_mem _)) (by have := atomsR_take c k hk; have := atomsR_le c (k + 1); omega) hX)
          have CR := Lib.hid (fun (W : World) (B : Option Addr) (d : Nat) (C : Option Addr) (f m : Nat) (hm : m = (a ++ b).length) (hB : Rus W B c) (hC : Rus W C (a ++ b)) => (by
            have h := rules_any B d c C f (a ++ b) W (by omega) (by rw [List.length_append]; omega) m2 (fun r hr => by rcases List.mem_append.1 hr with h | h; exact f2 r h; exact g2 r h) hB hC
            rw [hr] at h
            rw [hm]
            exact h : Calls Try.prog 11 #[.slice B c.length d, .slice C m f] W fun e' w' => e' = .returned (.bool true) ∧ Keep W w'))
          clear hx hy hz hr m2 f2 g2
          have HAT := Lib.hid hat
          clear hat
          go_enter Try.func5, Try.ntmps5
          go_wp2_with fail
          refine (C1.out _).mono ?_
          rintro e w1 ⟨A1, c1, rfl, h1, k1⟩
          go_wp2_with fail
          refine (C2.out _).mono ?_
          rintro e w2 ⟨A2, c2, rfl, h2, k2⟩
          replace h1 := h1.kept k2
          replace k1 := k1.trans k2
          go_wp2_with fail
          refine (C3.out _).mono ?_
          rintro e w3 ⟨A3, c3, rfl, h3, k3⟩
          replace h1 := h1.kept k3
          replace h2 := h2.kept k3
          replace k1 := k1.trans k3
          go_wp2
          go_loopw [14, 15] (fun nv iv wr => SumRel c w3 nv iv wr) (fun _ iv _ => c.length - (intOf iv).toNat)
          case atStart => exact ⟨0, Nat.zero_le _, rfl, rfl, Keep.refl _⟩
          case round =>
            obtain ⟨k, hk, rfl, rfl, hq⟩ := hrel
            by_cases hlt : k < c.length
            · have hltz : (k : Int) < (c.length : Int) := by omega
              have hk0 : (0 : Int) ≤ k := by omega
              obtain ⟨b', off, rfl, _⟩ := h3.addr (by omega)
              obtain ⟨_, RA, OA, rc, oc, ⟨_, x1, x2, x3, x4, x5, x6, _⟩, hX⟩ := (h3.kept hq).elem k hlt
              have ht := atomsR_take c k hlt
              have hle := atomsR_le c (k + 1)
              have hb := HAT.out
              obtain ⟨e, he⟩ : ∃ e, e = (c.getD k zeroR).when_ := ⟨_, rfl⟩
              have C := CA.out k hlt wr RA OA rc oc hX
              rw [← he] at x1 x2 x3 x4 x5 x6 C ht
              have HT := Lib.hid ht
              obtain ⟨na, hna⟩ : ∃ n, n = Pa.atomsR (c.take k) := ⟨_, rfl⟩
              have hsum : IntKind.i64.wrap ((na : Int) + (atoms e : Nat)) = ((na + atoms e : Nat) : Int) := by rw [IntKind.wrap_i64]; omega
              rw [← hna]
              have HN := Lib.hid hna
              clear ht hle hb he hna hX
              go_wp2_with fail
              refine C.mono ?_
              rintro e' w4 ⟨rfl, k4⟩
              go_wp2
              refine ⟨⟨k + 1, by omega, by go_num, by rw [HT.out, ← HN.out]; simp, hq.trans k4⟩, by simp [intOf]; omega⟩
            · obtain rfl : k = c.length := by omega
              rw [List.take_of_length_le (Nat.le_refl _)]
              have d5 : decide (((Pa.atomsR c : Nat) : Int) ≤ 512) = true := by have := HAT.out; simp; omega
              replace h1 := h1.kept hq
              replace h2 := h2.kept hq
              replace h3 := h3.kept hq
              replace k1 := k1.trans hq
              clear hq CA
              go_wp2_with fail
              refine (CW.out _).mono ?_
              rintro e w4 ⟨rfl, k4⟩
              replace h1 := h1.kept k4
              replace h2 := h2.kept k4
              replace h3 := h3.kept k4
              replace k1 := k1.trans k4
              obtain ⟨ra, hra, ria, hxa⟩ := raws_of h1
              obtain ⟨rb, hrb, rib, hxb⟩ := raws_of h2
              have la : ra.length = a.length := by rw [← hra, List.length_map]
              have lb : rb.length = b.length := by rw [← hrb, List.length_map]
              have hO : (w4.alloc (.cells #[] 43)).ownsRow w4.heap.size 43 11 (.slice (some ⟨w4.heap.size, 0, none⟩) 0 0) 0 (flat encR []) := World.ownsRow_lit w4 #[] 0 (Nat.le_refl _) (Nat.zero_le _) rfl
              have kB := (Keep.refl w4).alloc (.cells #[] 43)
              have ria' := ria.kept kB
              go_wp2_with (at_builtin; refine append_rows_w (by rfl) _ _ 22 rfl w4.heap.size 43 _ 120 Try.underlying22 info_rule rfl (by omega) encR_len encR_one (.slice (some ⟨w4.heap.size, 0, none⟩) 0 0) 0 [] rfl hO (by simp) _ A1 a.length c1 ra rfl ria' (by unfold maxLen; omega) (by omega) ?_)
              intro v5 w5 hown5 hb5
              obtain ⟨B5, d5', rfl⟩ := own_slice hown5
              have kk5 : Keep w4 w5 := Below.trans kB hb5
              have rib' := rib.kept kk5
              have hs5 := kk5.size
              go_wp2_with (at_builtin; refine append_rows_w (by rfl) _ _ 22 rfl w4.heap.size 43 _ 120 Try.underlying22 info_rule rfl (by omega) encR_len encR_one (.slice B5 a.length d5') a.length ra rfl hown5 hs5 _ A2 b.length c2 rb rfl rib' (by unfold maxLen; omega) (by omega) ?_)
              intro v6 w6 hown6 hb6
              obtain ⟨B6, d6', rfl⟩ := own_slice hown6
              have kk6 : Keep w4 w6 := Below.trans kk5 hb6
              have hr6 := Row.of_own encR_len hown6 (by omega)
              have hR : Rus w6 B6 (a ++ b) := by
                have := rus_of hr6 fun x hx => by
                  rcases List.mem_append.1 hx with hx | hx
                  · exact (hxa x hx).kept kk6
                  · exact (hxb x hx).kept kk6
                rw [List.map_append, hra, hrb] at this
                exact this
              replace h3 := h3.kept kk6
              have kw := k1.trans kk6
              go_wp2_with fail
              refine (CR.out w6 A3 c3 B6 d6' _ (by rw [List.length_append]) h3 hR).mono ?_
              rintro e w7 ⟨rfl, k7⟩
              go_wp2
              go_ret
              exact ⟨rfl, kw.trans k7⟩
        · injection hc' with q1 hc'
          injection hc' with q2 q3
          subst q1 q2 q3
          clear hx hy hz f1 f2 g1 g2
          go_enter Try.func5, Try.ntmps5
          go_wp2_with fail
          refine (C1.out _).mono ?_
          rintro e w1 ⟨A1, c1, rfl, h1, k1⟩
          go_wp2_with fail
          refine (C2.out _).mono ?_
          rintro e w2 ⟨A2, c2, rfl, h2, k2⟩
          replace h1 := h1.kept k2
          replace k1 := k1.trans k2
          go_wp2_with fail
          refine (C3.out _).mono ?_
          rintro e w3 ⟨A3, c3, rfl, h3, k3⟩
          replace h1 := h1.kept k3
          replace h2 := h2.kept k3
          replace k1 := k1.trans k3
          go_wp2
          go_loopw [14, 15] (fun nv iv wr => SumRel [] w3 nv iv wr) (fun _ iv _ => 0)
          case atStart => exact ⟨0, Nat.zero_le _, rfl, rfl, Keep.refl _⟩
          case round =>
            obtain ⟨k, hk, rfl, rfl, hq⟩ := hrel
            have hk : k ≤ 0 := hk
            obtain rfl : k = 0 := by omega
            go_wp2_with fail
            refine (CW.out _).mono ?_
            rintro e w4 ⟨rfl, k4⟩
            go_wp2
            go_ret
            exact ⟨rfl, (k1.trans hq).trans k4⟩
      · have d3 : decide ((a.length : Int) + (b.length : Int) > 64) = true := by simp; omega
        have la := (read_facts hx).1
        have lb := (read_facts hy).1
        have hw64 : IntKind.i64.wrap ((a.length : Int) + (b.length : Int)) = (a.length : Int) + (b.length : Int) := by rw [IntKind.wrap_i64]; omega
        clear hx hy hz h64 la lb
        go_enter Try.func5, Try.ntmps5
        go_wp2_with fail
        refine (C1.out _).mono ?_
        rintro e w1 ⟨A1, c1, rfl, h1, k1⟩
        go_wp2_with fail
        refine (C2.out _).mono ?_
        rintro e w2 ⟨A2, c2, rfl, h2, k2⟩
        replace h1 := h1.kept k2
        replace k1 := k1.trans k2
        go_wp2_with fail
        refine (C3.out _).mono ?_
        rintro e w3 ⟨A3, c3, rfl, h3, k3⟩
        replace h1 := h1.kept k3
        replace h2 := h2.kept k3
        replace k1 := k1.trans k3
        go_wp2_with fail
        refine (CW.out _).mono ?_
        rintro e w9 ⟨rfl, k9⟩
        go_wp2
        go_ret
        exact ⟨rfl, k1.trans k9⟩
    · have d : (eb != 0) = true := by simpa using e2
      clear hx hy hz e2
      go_enter Try.func5, Try.ntmps5
      go_wp2_with fail
      refine (C1.out _).mono ?_
      rintro e w1 ⟨A1, c1, rfl, h1, k1⟩
      go_wp2_with fail
      refine (C2.out _).mono ?_
      rintro e w2 ⟨A2, c2, rfl, h2, k2⟩
      replace h1 := h1.kept k2
      replace k1 := k1.trans k2
      go_wp2_with fail
      refine (C3.out _).mono ?_
      rintro e w3 ⟨A3, c3, rfl, h3, k3⟩
      replace h1 := h1.kept k3
      replace h2 := h2.kept k3
      replace k1 := k1.trans k3
      go_wp2_with fail
      refine (CW.out _).mono ?_
      rintro e w9 ⟨rfl, k9⟩
      go_wp2
      go_ret
      exact ⟨rfl, k1.trans k9⟩
  · have d : (ea != 0) = true := by simpa using e1
    clear hx hy hz e1
    go_enter Try.func5, Try.ntmps5
    go_wp2_with fail
    refine (C1.out _).mono ?_
    rintro e w1 ⟨A1, c1, rfl, h1, k1⟩
    go_wp2_with fail
    refine (C2.out _).mono ?_
    rintro e w2 ⟨A2, c2, rfl, h2, k2⟩
    replace h1 := h1.kept k2
    replace k1 := k1.trans k2
    go_wp2_with fail
    refine (C3.out _).mono ?_
    rintro e w3 ⟨A3, c3, rfl, h3, k3⟩
    replace h1 := h1.kept k3
    replace h2 := h2.kept k3
    replace k1 := k1.trans k3
    go_wp2_with fail
    refine (CW.out _).mono ?_
    rintro e w9 ⟨rfl, k9⟩
    go_wp2
    go_ret
    exact ⟨rfl, k1.trans k9⟩
end Go.Proofs.Ytffojilbhpefbaa.Parse
