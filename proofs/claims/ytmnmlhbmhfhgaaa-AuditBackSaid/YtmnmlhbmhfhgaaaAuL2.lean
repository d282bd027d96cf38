/- Layer 23's laws: AuditBack. Conditions: none beyond the law's own. Written by genAuL2.py. -/
import Derived.Test.YtmnmlhbmhfhgaaaAuL
namespace Go.Proofs.Ytmnmlhbmhfhgaaa.Audit
set_option linter.unusedVariables false
set_option linter.unusedSimpArgs false
set_option maxRecDepth 100000
open Go.ChangeShapes Go.WideShapes Go.ChangeAt Go.RowKit
open Au
open Ref23 (aggR encR bx9 cellsR RetAll row_rec)
theorem put_le (r : RecP) : (put r).length ≤ 20 := by
  unfold put; split
  · exact Nat.le_of_eq (bytes_len r)
  · exact Nat.zero_le _
theorem puts_le (l : List RecP) : (puts l).length ≤ 20 * l.length := by
  induction l with
  | nil => exact Nat.zero_le _
  | cons r l ih =>
    show (put r ++ puts l).length ≤ _
    have := put_le r
    rw [List.length_append, List.length_cons]; omega
theorem puts_snoc (l : List RecP) (k : Nat) (h : k < l.length) : puts (l.take (k + 1)) = puts (l.take k) ++ put (l.getD k Au.zero) := by
  have e : l.getD k Au.zero = l[k] := by simp [List.getD, List.getElem?_eq_getElem h]
  rw [e, List.take_succ_eq_append_getElem h]
  unfold puts
  rw [List.flatMap_append]; simp
theorem all_snoc (l : List RecP) (k : Nat) (h : k < l.length) : (l.take (k + 1)).all right = ((l.take k).all right && right (l.getD k Au.zero)) := by
  have e : l.getD k Au.zero = l[k] := by simp [List.getD, List.getElem?_eq_getElem h]
  rw [e, List.take_succ_eq_append_getElem h, List.all_append]; simp
theorem all_facts (s : ByteArray) : (allOk s = false → all s = []) ∧ 20 * (all s).length ≤ s.size ∧ (allOk s = true → st (puts (all s)) = s) := by
  unfold allOk Au.all
  cases h : allOf s with
  | none => exact ⟨fun _ => rfl, Nat.zero_le _, fun h => by cases h⟩
  | some l =>
    obtain ⟨h1, h2, h3⟩ := all_back h
    exact ⟨fun h => (by cases h), Nat.le_of_eq h3, fun _ => h1⟩
theorem all_of_puts (l : List RecP) (h : l.all right = true) : all (st (puts l)) = l ∧ allOk (st (puts l)) = true := by
  unfold allOk Au.all
  rw [all_puts l h]; exact ⟨rfl, rfl⟩
set_option maxHeartbeats 16000000 in
theorem back_any (A : Option Addr) (n c : Nat) (zs : List RecP) (s : ByteArray) (w : World) (hc : n ≤ c) (hcm : c ≤ maxLen) (hs : s.size ≤ maxLen) (hA : Row encR 9 w w.heap.size A n zs) :
    Calls Try.prog 4 #[.slice A n c, .string s] w fun e w' => e = .returned (.bool true) ∧ Keep w w' := by
  have hl := Lib.hid hA.1
  by_cases h1 : 30 < n
  · have d1 : decide ((30 : Int) < (n : Int)) = true := by simp; omega
    clear h1 hA
    go_enter Try.func4, Try.ntmps4
    go_wp2_with fail
    refine (awake_any _).mono ?_
    rintro e W2 ⟨rfl, hb2⟩
    go_wp2
    go_ret
    exact ⟨rfl, hb2⟩
  by_cases h2 : 1000 < s.size
  · have d1 : decide ((30 : Int) < (n : Int)) = false := by simp; omega
    have d2 : decide ((1000 : Int) < (s.size : Int)) = true := by simp; omega
    clear h1 h2 hA
    go_enter Try.func4, Try.ntmps4
    go_wp2_with fail
    refine (awake_any _).mono ?_
    rintro e W2 ⟨rfl, hb2⟩
    go_wp2
    go_ret
    exact ⟨rfl, hb2⟩
  have d1 : decide ((30 : Int) < (n : Int)) = false := by simp; omega
  have d2 : decide ((1000 : Int) < (s.size : Int)) = false := by simp; omega
  have hn : n ≤ 30 := by omega
  have hs1 : s.size ≤ 100000 := by omega
  have A2 := Lib.hid fun W => all_any s W hs1
  have hms := all_facts s
  obtain ⟨ms, hm⟩ : ∃ l, l = all s := ⟨_, rfl⟩
  obtain ⟨ob, ho⟩ : ∃ b, b = allOk s := ⟨_, rfl⟩
  rw [← hm, ← ho] at A2 hms
  have HMS := Lib.hid (And.intro hms.1 (And.intro (show 20 * ms.length ≤ 1000 by omega) hms.2.2))
  have HA := Lib.hid hA
  clear h1 h2 hA hms hm ho hs hs1 hc hcm
  go_enter Try.func4, Try.ntmps4
  go_wp2
  go_loopw [5, 6, 7] (fun tv av iv wr => ∃ (k : Nat) (p : List UInt8) (b : Bool), k ≤ n ∧ tv = .string (st p) ∧ av = .bool b ∧ iv = .int .i64 k ∧ Hid (p = puts (zs.take k)) ∧ Hid (b = (zs.take k).all right) ∧ Keep w wr) (fun _ _ iv _ => n - (intOf iv).toNat)
  case atStart => exact ⟨0, [], true, Nat.zero_le _, rfl, rfl, rfl, Lib.hid rfl, Lib.hid rfl, Keep.refl _⟩
  case round =>
    obtain ⟨k, p, ab, hk, rfl, rfl, rfl, HP, HB, hK⟩ := hrel
    by_cases hlt : k < n
    · obtain ⟨b, off, rfl, _⟩ := HA.out.addr (by omega)
      have hrow := row_rec (HA.out.kept hK) k hlt
      obtain ⟨q, hq⟩ : ∃ q, q = zs.getD k Au.zero := ⟨_, rfl⟩
      rw [← hq] at hrow
      have HQ := Lib.hid hq
      have HR := Lib.hid hrow
      obtain ⟨_, x0, x1, x2, x3, x4, x5, x6, x7, x8⟩ := hrow
      have hltz : (k : Int) < n := by omega
      have hk0 : (0 : Int) ≤ k := by omega
      have hcall := put_any q wr
      have hcal2 := fun W => right_any q W
      obtain ⟨pl, hpl⟩ : ∃ b, b = put q := ⟨_, rfl⟩
      obtain ⟨rb, hrb⟩ : ∃ b, b = right q := ⟨_, rfl⟩
      rw [← hpl, ← hrb] at hcall
      simp only [← hrb] at hcal2
      have hadd := add_st (P := Try.prog) p pl (by
        have h1 := puts_le (zs.take k)
        have h2 := put_le q
        rw [← HP.out] at h1
        rw [← hpl] at h2
        rw [List.length_take] at h1
        omega)
      have HC := Lib.hid hcall
      have HC2 := Lib.hid hcal2
      have HPL := Lib.hid hpl
      have HRB := Lib.hid hrb
      have hne : (rb != rb) = false := by simp
      clear hq hpl hrb hcall hcal2
      go_wp2_with fail
      refine HC.out.mono ?_
      rintro e w5 ⟨rfl, k5⟩
      obtain ⟨_, y0, y1, y2, y3, y4, y5, y6, y7, y8⟩ : _ ∧ _ := ⟨True.intro, HR.out.2⟩
      replace y0 := (Below.cell k5 HR.out.1).trans y0
      replace y1 := (Below.cell k5 HR.out.1).trans y1
      replace y2 := (Below.cell k5 HR.out.1).trans y2
      replace y3 := (Below.cell k5 HR.out.1).trans y3
      replace y4 := (Below.cell k5 HR.out.1).trans y4
      replace y5 := (Below.cell k5 HR.out.1).trans y5
      replace y6 := (Below.cell k5 HR.out.1).trans y6
      replace y7 := (Below.cell k5 HR.out.1).trans y7
      replace y8 := (Below.cell k5 HR.out.1).trans y8
      clear x0 x1 x2 x3 x4 x5 x6 x7 x8
      go_wp2_with fail
      refine (HC2.out _).mono ?_
      rintro e w6 ⟨rfl, k6⟩
      have kk := hK.trans (k5.trans k6)
      clear y0 y1 y2 y3 y4 y5 y6 y7 y8 k5 k6
      have HN := Lib.hid (show p ++ pl = puts (zs.take (k + 1)) by rw [HP.out, HPL.out, HQ.out, puts_snoc zs k (by rw [hl.out]; exact hlt)])
      have HN2 := Lib.hid (show (ab && rb) = (zs.take (k + 1)).all right by rw [HB.out, HRB.out, HQ.out, all_snoc zs k (by rw [hl.out]; exact hlt)])
      cases ab
      · go_wp2
        exact ⟨⟨k + 1, p ++ pl, false, by omega, rfl, rfl, by go_num, HN, HN2, kk⟩, by simp [intOf]; omega⟩
      · go_wp2
        exact ⟨⟨k + 1, p ++ pl, rb, by omega, rfl, rfl, by go_num, HN, HN2, kk⟩, by simp [intOf]; omega⟩
    · obtain rfl : k = n := by omega
      have hp : p = puts zs := by rw [HP.out, List.take_of_length_le (by rw [hl.out]; omega)]
      have hb : ab = zs.all right := by rw [HB.out, List.take_of_length_le (by rw [hl.out]; omega)]
      have hple : p.length ≤ 20 * k := by rw [hp, ← hl.out]; exact puts_le zs
      have HC := Lib.hid (all_any (st p) wr (by rw [st_size]; omega))
      cases hab : ab
      · subst hab
        have HP2 := Lib.hid hp
        clear hp hb hple
        go_wp2_with fail
        refine HC.out.mono ?_
        rintro e w3 ⟨A1, n1, f1, rfl, l1, m1, r1, k3⟩
        have KK := Lib.hid (hK.trans k3)
        clear l1 m1 r1 k3
        go_wp2_with fail
        refine (A2.out _).mono ?_
        rintro e w4 ⟨D, m2, f2, rfl, g1, g2, g3, k4⟩
        replace k4 := KK.out.trans k4
        have hml := g3.1
        have hmm : m2 ≤ 1000 := by
          have := HMS.out
          omega
        have HM := Lib.hid hml
        clear hml g1
        go_wp2
        go_loopw [14, 15] (fun uv iv wr => ∃ (k : Nat) (p : List UInt8), k ≤ m2 ∧ uv = .string (st p) ∧ iv = .int .i64 k ∧ Hid (p = puts (ms.take k)) ∧ Keep w4 wr) (fun _ iv _ => m2 - (intOf iv).toNat)
        case atStart => exact ⟨0, [], Nat.zero_le _, rfl, rfl, Lib.hid rfl, Keep.refl _⟩
        case round =>
          obtain ⟨k, p, hk, rfl, rfl, HP, hK⟩ := hrel
          by_cases hlt : k < m2
          · obtain ⟨b, off, rfl, _⟩ := g3.addr (by omega)
            have hrow := row_rec (g3.kept hK) k hlt
            obtain ⟨q, hq⟩ : ∃ q, q = ms.getD k Au.zero := ⟨_, rfl⟩
            rw [← hq] at hrow
            have HQ := Lib.hid hq
            obtain ⟨_, x0, x1, x2, x3, x4, x5, x6, x7, x8⟩ := hrow
            have hltz : (k : Int) < m2 := by omega
            have hk0 : (0 : Int) ≤ k := by omega
            have hcall := put_any q wr
            obtain ⟨pl, hpl⟩ : ∃ b, b = put q := ⟨_, rfl⟩
            obtain ⟨rb, hrb⟩ : ∃ b, b = right q := ⟨_, rfl⟩
            rw [← hpl, ← hrb] at hcall
            have hadd := add_st (P := Try.prog) p pl (by
              have h1 := puts_le (ms.take k)
              have h2 := put_le q
              rw [← HP.out] at h1
              rw [← hpl] at h2
              rw [List.length_take] at h1
              omega)
            have HC := Lib.hid hcall
            have HPL := Lib.hid hpl
            clear hq hpl hrb hcall
            go_wp2_with fail
            refine HC.out.mono ?_
            rintro e w5 ⟨rfl, k5⟩
            go_wp2
            refine ⟨⟨k + 1, p ++ pl, by omega, rfl, by go_num, Lib.hid ?_, hK.trans k5⟩, by simp [intOf]; omega⟩
            rw [HP.out, HPL.out, HQ.out, puts_snoc ms k (by rw [HM.out]; exact hlt)]
          · obtain rfl : k = m2 := by omega
            have hp : p = puts ms := by rw [HP.out, List.take_of_length_le (by rw [HM.out]; omega)]
            have HPP := Lib.hid hp
            clear hp
            cases hob : ob
            · have e0 : k = 0 := by rw [← HM.out, HMS.out.1 hob]; rfl
              subst e0
              subst hob
              go_wp2_with fail
              refine (awake_any _).mono ?_
              rintro e w6 ⟨rfl, k6⟩
              go_wp2
              go_ret
              exact ⟨rfl, (k4.trans hK).trans k6⟩
            · have e0 : st p = s := by rw [HPP.out]; exact (HMS.out.2.2 hob)
              subst hob
              rw [e0]
              go_wp2_with fail
              refine (awake_any _).mono ?_
              rintro e w6 ⟨rfl, k6⟩
              go_wp2
              go_ret
              exact ⟨rfl, (k4.trans hK).trans k6⟩
      · subst hab
        obtain ⟨g1, g2⟩ := all_of_puts zs hb.symm
        rw [← hp] at g1 g2
        rw [g1, g2] at HC
        have hz : (st p).size = 20 * k := by rw [st_size, hp, puts_len zs hb.symm, hl.out]
        have dz : (((st p).size : Int) != 20 * (k : Int)) = false := by rw [hz]; simp
        have HZ := Lib.hid hz
        have HDZ := Lib.hid dz
        clear g1 g2 hp hb hple hz dz
        go_wp2_with fail
        refine HC.out.mono ?_
        rintro e w3 ⟨A1, n1, f1, rfl, l1, m1, r1, k3⟩
        have HS := Lib.hid (Ref23.same_any A A1 k n1 c f1 zs w3 (by unfold maxLen; omega) (HA.out.kept (hK.trans k3)) r1)
        have K3 := Lib.hid (hK.trans k3)
        have dz := HDZ.out
        clear l1 m1 r1 k3
        go_wp2_with fail
        refine HS.out.mono ?_
        rintro e w7 ⟨rfl, k7⟩
        have KK := Lib.hid (K3.out.trans k7.keep)
        clear k7
        go_wp2_with fail
        refine (A2.out _).mono ?_
        rintro e w4 ⟨D, m2, f2, rfl, g1, g2, g3, k4⟩
        replace k4 := KK.out.trans k4
        have hml := g3.1
        have hmm : m2 ≤ 1000 := by
          have := HMS.out
          omega
        have HM := Lib.hid hml
        clear hml g1
        go_wp2
        go_loopw [14, 15] (fun uv iv wr => ∃ (k : Nat) (p : List UInt8), k ≤ m2 ∧ uv = .string (st p) ∧ iv = .int .i64 k ∧ Hid (p = puts (ms.take k)) ∧ Keep w4 wr) (fun _ iv _ => m2 - (intOf iv).toNat)
        case atStart => exact ⟨0, [], Nat.zero_le _, rfl, rfl, Lib.hid rfl, Keep.refl _⟩
        case round =>
          obtain ⟨k, p, hk, rfl, rfl, HP, hK⟩ := hrel
          by_cases hlt : k < m2
          · obtain ⟨b, off, rfl, _⟩ := g3.addr (by omega)
            have hrow := row_rec (g3.kept hK) k hlt
            obtain ⟨q, hq⟩ : ∃ q, q = ms.getD k Au.zero := ⟨_, rfl⟩
            rw [← hq] at hrow
            have HQ := Lib.hid hq
            obtain ⟨_, x0, x1, x2, x3, x4, x5, x6, x7, x8⟩ := hrow
            have hltz : (k : Int) < m2 := by omega
            have hk0 : (0 : Int) ≤ k := by omega
            have hcall := put_any q wr
            obtain ⟨pl, hpl⟩ : ∃ b, b = put q := ⟨_, rfl⟩
            obtain ⟨rb, hrb⟩ : ∃ b, b = right q := ⟨_, rfl⟩
            rw [← hpl, ← hrb] at hcall
            have hadd := add_st (P := Try.prog) p pl (by
              have h1 := puts_le (ms.take k)
              have h2 := put_le q
              rw [← HP.out] at h1
              rw [← hpl] at h2
              rw [List.length_take] at h1
              omega)
            have HC := Lib.hid hcall
            have HPL := Lib.hid hpl
            clear hq hpl hrb hcall
            go_wp2_with fail
            refine HC.out.mono ?_
            rintro e w5 ⟨rfl, k5⟩
            go_wp2
            refine ⟨⟨k + 1, p ++ pl, by omega, rfl, by go_num, Lib.hid ?_, hK.trans k5⟩, by simp [intOf]; omega⟩
            rw [HP.out, HPL.out, HQ.out, puts_snoc ms k (by rw [HM.out]; exact hlt)]
          · obtain rfl : k = m2 := by omega
            have hp : p = puts ms := by rw [HP.out, List.take_of_length_le (by rw [HM.out]; omega)]
            have HPP := Lib.hid hp
            clear hp
            cases hob : ob
            · have e0 : k = 0 := by rw [← HM.out, HMS.out.1 hob]; rfl
              subst e0
              subst hob
              go_wp2_with fail
              refine (awake_any _).mono ?_
              rintro e w6 ⟨rfl, k6⟩
              go_wp2
              go_ret
              exact ⟨rfl, (k4.trans hK).trans k6⟩
            · have e0 : st p = s := by rw [HPP.out]; exact (HMS.out.2.2 hob)
              subst hob
              rw [e0]
              go_wp2_with fail
              refine (awake_any _).mono ?_
              rintro e w6 ⟨rfl, k6⟩
              go_wp2
              go_ret
              exact ⟨rfl, (k4.trans hK).trans k6⟩
end Go.Proofs.Ytmnmlhbmhfhgaaa.Audit
