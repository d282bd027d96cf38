/- Layer 13's law CheckEach. Conditions: none beyond the law's own. -/
import Derived.Test.YtmcgflpgkkophaaGreatDoorCh
import Derived.Test.YtmcgflpgkkophaaGreatDoorPaF2
import Derived.Test.YtmcgflpgkkophaaGreatDoorOpen
namespace Go.Proofs.YtmcgflpgkkophaaGreatDoor.Check
set_option linter.unusedVariables false
open Go.ChangeShapes Go.WideShapes Go.ChangeAt Go.RowKit
open Tr
open PaF2 (read_facts texts_len fits_lines lines_len)
def ex1 : List UInt8 := [100, 101, 110, 121, 59, 10, 97, 108, 108, 111, 119, 32, 119, 104, 101, 110, 32, 102, 117, 110, 99, 32, 51, 48, 48, 59]
def ex2 : List UInt8 := [97, 108, 108, 111, 119, 32, 119, 104, 101, 110, 32, 102, 117, 110, 99, 32, 51, 32, 114, 97, 116, 101, 32, 49, 32, 112, 101, 114, 32, 49, 32, 98, 117, 114, 115, 116, 32, 49, 59]
theorem ex1_toks : Lx.go ex1 1 = .ok [Pa.tw 1 [100, 101, 110, 121], Pa.tm 1 59, Pa.tw 2 [97, 108, 108, 111, 119], Pa.tw 2 [119, 104, 101, 110], Pa.tw 2 [102, 117, 110, 99], ⟨2, st [51, 48, 48], 300, 2⟩, Pa.tm 2 59] := by
  rw [Lx.goF_eq 60 _ _ (by decide)]; rfl
theorem ex2_toks : Lx.go ex2 1 = .ok [Pa.tw 1 [97, 108, 108, 111, 119], Pa.tw 1 [119, 104, 101, 110], Pa.tw 1 [102, 117, 110, 99], ⟨2, st [51], 3, 1⟩, Pa.tw 1 [114, 97, 116, 101], ⟨2, st [49], 1, 1⟩, Pa.tw 1 [112, 101, 114], ⟨2, st [49], 1, 1⟩, Pa.tw 1 [98, 117, 114, 115, 116], ⟨2, st [49], 1, 1⟩, Pa.tm 1 59] := by
  rw [Lx.goF_eq 60 _ _ (by decide)]; rfl
def r1a : RuleP := ⟨false, zero, 0, 0, 0, 1⟩
def r1b : RuleP := ⟨true, .mk 1 3 [(300, 300)] 0 0 [], 0, 0, 0, 2⟩
def r2a : RuleP := ⟨true, .mk 1 3 [(3, 3)] 0 0 [], 1, 1, 1, 1⟩
theorem ex1_text : Pa.text ex1 = ([r1a, r1b], 0, 0) := by
  rw [Pa.text_mk (by decide) ex1_toks]; rfl
theorem ex2_text : Pa.text ex2 = ([r2a], 0, 0) := by
  rw [Pa.text_mk (by decide) ex2_toks]; rfl
theorem plain0 : plain 0 = true := Fp.sameB_self (by decide)
theorem ex1_policy : Ck.policy ex1 = ([], 2, 10) := by
  unfold Ck.policy
  rw [ex1_text]
  have h1 : ruleR r1a = true := by simp [ruleR, r1a, right, zero, rightL, manyR, plain0, numR, Gu.inR]
  have h2 : ruleR r1b = true := by simp [ruleR, r1b, right, atomR, rangesR, plain0, numR, Gu.inR]
  have e1 : Ck.rule r1a = 0 := by
    unfold Ck.rule
    rw [if_pos h1]; rfl
  have e2 : Ck.rule r1b = 10 := by
    unfold Ck.rule
    rw [if_pos h2]; rfl
  simp only [if_true, Ck.bad, e1, e2]
  rfl
theorem ex2_policy : Ck.policy ex2 = ([r2a], 0, 0) := by
  refine Ck.policy_mk ex2_text fun r hr => ?_
  rw [List.mem_singleton] at hr
  subst hr
  have h1 : ruleR r2a = true := by simp [ruleR, r2a, right, atomR, rangesR, plain0, numR, Gu.inR]
  unfold Ck.rule
  rw [if_pos h1]; rfl
theorem policy_to (s : ByteArray) (x : List RuleP × Int × Int) (h : Ck.policy (bl s) = x) (w : World) (ht : TB w) (hs : s.size ≤ maxLen) : Calls Tryz.prog 5 #[.string s] w (Pa.RetRules x w) := h ▸ policy_any s w ht hs
set_option maxHeartbeats 2000000 in
theorem awake_any (w : World) (ht : TB w) : Calls Tryz.prog 4 #[] w fun e w' => e = .returned (.bool true) ∧ Keep w w' := by
  have C1 := Lib.hid (fun W (hW : Keep w W) => policy_to (st ex1) _ ex1_policy W (ht.keep hW) (by decide))
  have C2 := Lib.hid (fun W (hW : Keep w W) => policy_to (st ex2) _ ex2_policy W (ht.keep hW) (by decide))
  go_enter Tryz.func4, Tryz.ntmps4
  go_wp2_with fail
  refine (C1.out w (Keep.refl w)).mono ?_
  rintro e w1 ⟨A, c, rfl, _, k1⟩
  go_wp2_with fail
  refine (C2.out w1 k1).mono ?_
  rintro e w2 ⟨A2, c2, rfl, _, k2⟩
  go_wp2
  go_ret
  exact ⟨rfl, k1.trans k2⟩
set_option maxHeartbeats 8000000 in
theorem each_any (s : ByteArray) (w : World) (ht : TB w) (hs : s.size ≤ maxLen) :
    Calls Tryz.prog 3 #[.string s] w fun e w' => e = .returned (.bool true) ∧ Keep w w' := by
  have CW := Lib.hid (fun W (hW : Keep w W) => awake_any W (ht.keep hW))
  by_cases h42 : 4200 < s.size
  · have d : decide ((s.size : Int) > 4200) = true := by simp; omega
    go_enter Tryz.func3, Tryz.ntmps3
    go_wp2_with fail
    refine (CW.out _ (Keep.refl w)).mono ?_
    rintro e w2 ⟨rfl, k2⟩
    go_wp2
    go_ret
    exact ⟨rfl, k2⟩
  have d42 : decide ((s.size : Int) > 4200) = false := by simp; omega
  obtain ⟨x, hx⟩ : ∃ x, Ck.policy (bl s) = x := ⟨_, rfl⟩
  obtain ⟨a, i, er⟩ := x
  have CP := Lib.hid (fun W (hW : Keep w W) => policy_to s (a, i, er) hx W (ht.keep hW) hs)
  by_cases he : er = 0
  · subst he
    obtain ⟨hp, hr⟩ := Ck.policy_ok hx
    obtain ⟨g1, g2, g3, g4, g5⟩ := read_facts hp
    have hal := g1
    have CU := Lib.hid (fun (W : World) (B : Option Addr) (d : Nat) (hB : Rus W B a) => texts_any B d a W (by omega) g2 g3 hB)
    rw [g5] at CU
    have CK := Lib.hid (fun (k : Nat) (hk : k < a.length) (W : World) (hW : Keep w W) (RA OA : Option Addr) (rc oc : Nat) (hX : Ex W (a.getD k zeroR).when_ RA OA) => (by
      have hm : a.getD k zeroR ∈ a := by rw [List.getD_eq_getElem?_getD, List.getElem?_eq_getElem hk]; exact List.getElem_mem _
      have h := rule_any (a.getD k zeroR) RA OA rc oc W (ht.keep hW) (g2 _ hm) (g3 _ hm) hX
      rw [hr _ hm] at h
      exact h))
    have etx : text a = textsL a := by unfold text; rw [g5, if_pos rfl]
    have hul := texts_len a g5 g3
    obtain ⟨y, hy⟩ : ∃ y, Ck.policy (text a) = y := ⟨_, rfl⟩
    obtain ⟨b, j, ev⟩ := y
    have CV := (fun W (hW : Keep w W) => policy_to (st (text a)) (b, j, ev) hy W (ht.keep hW) (by rw [st_size, etx]; unfold maxLen; omega))
    by_cases hl2 : (text a).length ≤ 4096
    · have d2 : decide (((st (text a)).size : Int) > 4096) = false := by rw [st_size]; simp; omega
      have hb2 := Ck.policy_back hx (by rw [← etx]; exact hl2)
      rw [← etx, hy] at hb2
      injection hb2 with b1 hb2
      injection hb2 with b2 b3
      subst b1 b2 b3
      have CR := Lib.hid (fun (W : World) (B : Option Addr) (d : Nat) (C : Option Addr) (f : Nat) (hB : Rus W B a) (hC : Rus W C (Pa.lines 1 a)) => rules_any B d a C f (Pa.lines 1 a) W (by omega) (by rw [lines_len]; omega) g2 (fits_lines a 1 g2) hB hC)
      rw [Pa.rules_lines a 1 g4] at CR
      clear g1 g2 g3 g4 g5 etx hul hx hy hl2 hp hr
      generalize Pa.lines 1 a = bs at *
      generalize text a = ta at *
      replace CV := Lib.hid CV
      go_enter Tryz.func3, Tryz.ntmps3
      go_wp2_with fail
      refine (CP.out _ (Keep.refl w)).mono ?_
      rintro e w1 ⟨A, c, rfl, hA, k1⟩
      go_wp2
      go_loopw [6] (fun iv wr => ∃ k : Nat, k ≤ a.length ∧ iv = .int .i64 k ∧ Keep w1 wr) (fun iv _ => a.length - (intOf iv).toNat)
      case atStart => exact ⟨0, Nat.zero_le _, rfl, Keep.refl _⟩
      case round =>
        obtain ⟨k, hk, rfl, hq⟩ := hrel
        by_cases hlt : k < a.length
        · have hltz : (k : Int) < (a.length : Int) := by omega
          have hk0 : (0 : Int) ≤ k := by omega
          obtain ⟨b', off, rfl, _⟩ := hA.addr (by omega)
          obtain ⟨_, RA, OA, rc, oc, ⟨x0, x1, x2, x3, x4, x5, x6, x7, x8, x9, x10⟩, hX⟩ := (hA.kept hq).elem k hlt
          obtain ⟨r, hr⟩ : ∃ r, r = a.getD k zeroR := ⟨_, rfl⟩
          have C := CK.out k hlt wr (k1.trans hq) RA OA rc oc hX
          rw [← hr] at x0 x1 x2 x3 x4 x5 x6 x7 x8 x9 x10 C
          clear hr hX
          go_wp2_with fail
          refine C.mono ?_
          rintro e' w4 ⟨rfl, k4⟩
          go_wp2
          refine ⟨⟨k + 1, by omega, by go_num, hq.trans k4⟩, by simp [intOf]; omega⟩
        · obtain rfl : k = a.length := by omega
          replace hA := hA.kept hq
          replace k1 := k1.trans hq
          go_wp2_with fail
          refine (CU.out _ A c hA).mono ?_
          rintro e w4 ⟨rfl, k4⟩
          replace hA := hA.kept k4
          replace k1 := k1.trans k4
          go_wp2_with fail
          refine (CV.out _ k1).mono ?_
          rintro e w5 ⟨C, cc, rfl, hC, k5⟩
          replace hA := hA.kept k5
          replace k1 := k1.trans k5
          go_wp2_with fail
          refine (CW.out _ k1).mono ?_
          rintro e w6 ⟨rfl, k6⟩
          replace hA := hA.kept k6
          replace hC := hC.kept k6
          replace k1 := k1.trans k6
          go_wp2_with fail
          refine (CR.out _ A c C cc hA hC).mono ?_
          rintro e w7 ⟨rfl, k7⟩
          replace k1 := k1.trans k7
          go_wp2
          go_ret
          exact ⟨rfl, k1⟩
    · have d2 : decide (((st (text a)).size : Int) > 4096) = true := by rw [st_size]; simp; omega
      clear g1 g2 g3 g4 g5 etx hul hx hy hl2 hp hr
      generalize text a = ta at *
      replace CV := Lib.hid CV
      go_enter Tryz.func3, Tryz.ntmps3
      go_wp2_with fail
      refine (CP.out _ (Keep.refl w)).mono ?_
      rintro e w1 ⟨A, c, rfl, hA, k1⟩
      go_wp2
      go_loopw [6] (fun iv wr => ∃ k : Nat, k ≤ a.length ∧ iv = .int .i64 k ∧ Keep w1 wr) (fun iv _ => a.length - (intOf iv).toNat)
      case atStart => exact ⟨0, Nat.zero_le _, rfl, Keep.refl _⟩
      case round =>
        obtain ⟨k, hk, rfl, hq⟩ := hrel
        by_cases hlt : k < a.length
        · have hltz : (k : Int) < (a.length : Int) := by omega
          have hk0 : (0 : Int) ≤ k := by omega
          obtain ⟨b', off, rfl, _⟩ := hA.addr (by omega)
          obtain ⟨_, RA, OA, rc, oc, ⟨x0, x1, x2, x3, x4, x5, x6, x7, x8, x9, x10⟩, hX⟩ := (hA.kept hq).elem k hlt
          obtain ⟨r, hr⟩ : ∃ r, r = a.getD k zeroR := ⟨_, rfl⟩
          have C := CK.out k hlt wr (k1.trans hq) RA OA rc oc hX
          rw [← hr] at x0 x1 x2 x3 x4 x5 x6 x7 x8 x9 x10 C
          clear hr hX
          go_wp2_with fail
          refine C.mono ?_
          rintro e' w4 ⟨rfl, k4⟩
          go_wp2
          refine ⟨⟨k + 1, by omega, by go_num, hq.trans k4⟩, by simp [intOf]; omega⟩
        · obtain rfl : k = a.length := by omega
          replace hA := hA.kept hq
          replace k1 := k1.trans hq
          go_wp2_with fail
          refine (CU.out _ A c hA).mono ?_
          rintro e w4 ⟨rfl, k4⟩
          replace hA := hA.kept k4
          replace k1 := k1.trans k4
          go_wp2_with fail
          refine (CV.out _ k1).mono ?_
          rintro e w5 ⟨C, cc, rfl, hC, k5⟩
          replace hA := hA.kept k5
          replace k1 := k1.trans k5
          go_wp2_with fail
          refine (CW.out _ k1).mono ?_
          rintro e w6 ⟨rfl, k6⟩
          replace hA := hA.kept k6
          replace hC := hC.kept k6
          replace k1 := k1.trans k6
          go_wp2
          go_ret
          exact ⟨rfl, k1⟩
  · have d0 : (er != 0) = true := by simpa using he
    have ha : a = [] := by
      have := Ck.policy_no (s := bl s) (by rw [hx]; exact he)
      rwa [hx] at this
    subst ha
    clear hx he
    go_enter Tryz.func3, Tryz.ntmps3
    go_wp2_with fail
    refine (CP.out _ (Keep.refl w)).mono ?_
    rintro e w1 ⟨A, c, rfl, _, k1⟩
    go_wp2_with fail
    refine (CW.out _ k1).mono ?_
    rintro e w2 ⟨rfl, k2⟩
    go_wp2
    go_ret
    exact ⟨rfl, k1.trans k2⟩
end Go.Proofs.YtmcgflpgkkophaaGreatDoor.Check
