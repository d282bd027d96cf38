/- Layer 22's laws: the example, ConnsOthers. Conditions: none beyond the law's own. -/
import Derived.Test.YtdgnmoebahaaeaaCs
import Derived.Test.YtdgnmoebahaaeaaOpen
namespace Go.Proofs.Ytdgnmoebahaaeaa.Conns
set_option linter.unusedVariables false
set_option linter.unusedSimpArgs false
set_option maxRecDepth 100000
open Go.ChangeShapes Go.WideShapes Go.ChangeAt Go.RowKit
open Cs
theorem right_texts {zs : List ConnP} (h : right zs = true) : Texts zs := fun c hc => by
  have h1 := (rightC_iff c).1 (List.all_eq_true.1 h c hc)
  have := Sm.right_len _ h1.2.1
  simp only [bl_length] at this
  unfold maxLen; omega
def l1 : List ConnP := [⟨true, 7, 1, ⟨#[]⟩, false⟩, zero]
def l2 : List ConnP := [⟨true, 7, 1, ⟨#[]⟩, false⟩, ⟨true, 8, 1, ⟨#[]⟩, false⟩]
theorem e_new : Cs.new 2 = [zero, zero] := rfl
theorem e_a1 : accept [zero, zero] 7 = l1 ∧ acceptAt [zero, zero] = 0 ∧ hasFree [zero, zero] = true := ⟨rfl, rfl, rfl⟩
theorem e_a2 : accept l1 8 = l2 ∧ acceptAt l1 = 1 ∧ hasFree l1 = true := ⟨rfl, rfl, rfl⟩
theorem e_a3 : hasFree l2 = false := rfl
theorem r_0 : right [zero, zero] = true := by decide
theorem r_1 : right l1 = true := by decide
theorem r_2 : right l2 = true := by decide
theorem lf_0 : ∀ c ∈ [zero, zero], c.lf < 1099511627776 := fun c hc => by
  simp at hc; rw [hc]; decide
theorem lf_1 : ∀ c ∈ l1, c.lf < 1099511627776 := fun c hc => by
  unfold l1 at hc
  rcases List.mem_cons.1 hc with rfl | hc
  · decide
  · rw [List.mem_singleton.1 hc]; decide
theorem lf_2 : ∀ c ∈ l2, c.lf < 1099511627776 := fun c hc => by
  unfold l2 at hc
  rcases List.mem_cons.1 hc with rfl | hc
  · decide
  · rw [List.mem_singleton.1 hc]; decide
set_option maxHeartbeats 2000000 in
theorem awake_any (w : World) : Calls Try.prog 5 #[] w fun e w' => e = .returned (.bool true) ∧ Keep w w' := by
  go_enter Try.func5, Try.ntmps5
  go_wp2_with fail
  refine (new_any 2 w (by decide)).mono ?_
  rintro e w1 ⟨A1, n1, c1, rfl, h1, h1', r1, k1⟩
  rw [e_new] at r1
  obtain rfl : 2 = n1 := r1.1
  go_wp2_with fail
  refine (accept_any A1 2 c1 [zero, zero] 7 w1 (by omega) h1 h1' r1 r_0 lf_0).mono ?_
  rintro e w2 ⟨A2, n2, c2, rfl, h2, h2', r2, k2⟩
  rw [e_a1.1] at r2
  rw [e_a1.2.1, e_a1.2.2]
  obtain rfl : 2 = n2 := r2.1
  replace k2 := k1.trans k2
  clear k1 r1
  go_wp2_with fail
  refine (accept_any A2 2 c2 l1 8 w2 (by omega) h2 h2' r2 r_1 lf_1).mono ?_
  rintro e w3 ⟨A3, n3, c3, rfl, h3, h3', r3, k3⟩
  rw [e_a2.1] at r3
  rw [e_a2.2.1, e_a2.2.2]
  obtain rfl : 2 = n3 := r3.1
  replace k3 := k2.trans k3
  clear k2 r2
  go_wp2_with fail
  refine (accept_any A3 2 c3 l2 9 w3 (by omega) h3 h3' r3 r_2 lf_2).mono ?_
  rintro e w4 ⟨A4, n4, c4, rfl, _, _, _, k4⟩
  rw [e_a3]
  have r4 := r3.kept k4
  replace k4 := k3.trans k4
  clear k3 r3
  obtain ⟨b, off, rfl, _⟩ := r4.addr (by omega)
  have hc := (row_conn r4 1 (by omega)).2.2.1
  replace hc : w4.cell? ⟨b, off + 1 * 5 + 1, none⟩ = some (.int .i64 8) := hc
  have H5 := Lib.hid fun (W : World) (h : Keep w4 W) => open_any (some ⟨b, off, none⟩) 2 c3 l2 0 W (by omega) h3 h3' (r4.kept h) r_2
  have H6 := Lib.hid fun (W : World) (h : Keep w4 W) => open_any (some ⟨b, off, none⟩) 2 c3 l2 2 W (by omega) h3 h3' (r4.kept h) r_2
  rw [show isOpen l2 0 = true from rfl] at H5
  rw [show isOpen l2 2 = false from rfl] at H6
  obtain ⟨z4, hz4⟩ : ∃ z, z = acceptAt l2 := ⟨_, rfl⟩
  rw [← hz4]
  clear r4 hz4
  go_wp2_with fail
  refine (H5.out w4 (Keep.refl w4)).mono ?_
  rintro e w5 ⟨rfl, k5⟩
  go_wp2_with fail
  refine (H6.out w5 k5).mono ?_
  rintro e w6 ⟨rfl, k6⟩
  go_wp2
  go_ret
  exact ⟨rfl, (k4.trans k5).trans k6⟩
set_option maxHeartbeats 8000000 in
theorem others_any (A : Option Addr) (n c : Nat) (zs : List ConnP) (k : Int) (b : ByteArray) (w : World) (hc : n ≤ c) (hcm : c ≤ maxLen) (hA : Row encC 5 w w.heap.size A n zs) (hT : Texts zs) (hb : b.size ≤ maxLen) :
    Calls Try.prog 4 #[.slice A n c, .int .i64 k, .string b] w fun e w' => e = .returned (.bool true) ∧ Keep w w' := by
  have hl := Lib.hid hA.1
  have HA := Lib.hid hA
  have HW := Lib.hid (And.intro hc hcm)
  have HT := Lib.hid hT
  have HFEW := Lib.hid (few_any A n c zs w (Nat.le_trans hc hcm) hA)
  obtain ⟨fb, hfb⟩ : ∃ b, b = fewB zs := ⟨_, rfl⟩
  rw [← hfb] at HFEW
  have HFB := Lib.hid hfb
  clear hA hT hfb
  cases fb
  · go_enter Try.func4, Try.ntmps4
    go_wp2_with fail
    refine HFEW.out.mono ?_
    rintro e w1 ⟨rfl, hq⟩
    go_wp2_with fail
    refine (awake_any _).mono ?_
    rintro e w2 ⟨rfl, k2⟩
    go_wp2
    go_ret
    exact ⟨rfl, hq.keep.trans k2⟩
  · have hfew := (few_iff zs).1 HFB.out.symm
    have hn40 : n ≤ 40 := by rw [← hl.out]; exact hfew.1
    have hn1 : n ≤ 1000000 := by omega
    have HS := Lib.hid hfew.2
    clear hfew hc hcm
    by_cases h3 : 1000 < b.size
    · have d3 : decide ((1000 : Int) < (b.size : Int)) = true := by simp; omega
      clear h3
      go_enter Try.func4, Try.ntmps4
      go_wp2_with fail
      refine HFEW.out.mono ?_
      rintro e w1 ⟨rfl, hq⟩
      go_wp2_with fail
      refine (awake_any _).mono ?_
      rintro e w2 ⟨rfl, k2⟩
      go_wp2
      go_ret
      exact ⟨rfl, hq.keep.trans k2⟩
    · have d3 : decide ((1000 : Int) < (b.size : Int)) = false := by simp; omega
      have hb1 : b.size ≤ 100000 := by omega
      obtain ⟨rb, hrb⟩ : ∃ b, b = right zs := ⟨_, rfl⟩
      have HR := Lib.hid fun (W : World) (h : Keep w W) => ref_right_any A n c zs W (by unfold maxLen; omega) (HA.out.kept h) HT.out
      rw [← hrb] at HR
      have HRB := Lib.hid hrb
      clear hrb h3
      go_enter Try.func4, Try.ntmps4
      go_wp2_with fail
      refine HFEW.out.mono ?_
      rintro e w1 ⟨rfl, hq⟩
      have k1 := hq.keep
      clear hq
      go_wp2_with fail
      refine (HR.out _ k1).mono ?_
      rintro e w2 ⟨rfl, k2⟩
      replace k2 := k1.trans k2
      clear k1
      cases rb
      · go_wp2_with fail
        refine (awake_any _).mono ?_
        rintro e w3 ⟨rfl, k3⟩
        go_wp2
        go_ret
        exact ⟨rfl, k2.trans k3⟩
      · have HRT := Lib.hid HRB.out.symm
        go_wp2_with fail
        refine (push_any A n c zs k b w2 hn1 HW.out.1 HW.out.2 (HA.out.kept k2) HRT.out hb1).mono ?_
        rintro e w3 ⟨A1, n1, c1, B1, m1, d1, rfl, l1, r1, r1', k3⟩
        replace k3 := k2.trans k3
        clear k2 r1'
        go_wp2_with fail
        refine (close_any A n c zs k w3 hn1 HW.out.1 HW.out.2 (HA.out.kept k3) HRT.out).mono ?_
        rintro e w4 ⟨A2, n2, c2, rfl, l2, m2, r2, k4⟩
        replace r1 := r1.kept k4
        replace k4 := k3.trans k4
        clear k3
        go_wp2_with fail
        refine (accept_any A n c zs 7 w4 hn1 HW.out.1 HW.out.2 (HA.out.kept k4) HRT.out (fun c hc => (HS.out c hc).2)).mono ?_
        rintro e w5 ⟨A3, n3, c3, rfl, l3, m3, r3, k5⟩
        replace r1 := r1.kept k5
        replace r2 := r2.kept k5
        replace k5 := k4.trans k5
        clear k4
        obtain rfl : n = n1 := by rw [← r1.1, push_len]; exact hl.out.symm
        obtain rfl : n = n2 := by rw [← r2.1, close_len]; exact hl.out.symm
        obtain rfl : n = n3 := by rw [← r3.1, accept_len]; exact hl.out.symm
        obtain ⟨ok, hok⟩ : ∃ b, b = hasFree zs := ⟨_, rfl⟩
        obtain ⟨pl, hpl⟩ : ∃ b, b = acceptAt zs := ⟨_, rfl⟩
        rw [← hok, ← hpl]
        have HOK := Lib.hid (And.intro hok hpl)
        have R1 := Lib.hid r1
        have R2 := Lib.hid r2
        have R3 := Lib.hid r3
        have HL := Lib.hid (And.intro l1 (And.intro l2 (And.intro m2 (And.intro l3 m3))))
        clear hok hpl r1 r2 r3 l1 l2 m2 l3 m3
        go_wp2
        go_loopw [13] (fun iv wr => ∃ i : Nat, i ≤ n ∧ iv = .int .i64 i ∧ Keep w5 wr) (fun iv _ => n - (intOf iv).toNat)
        case atStart => exact ⟨0, Nat.zero_le _, rfl, Keep.refl _⟩
        case round =>
          obtain ⟨i, hi, rfl, hK⟩ := hrel
          by_cases hlt : i < n
          · have hltz : (i : Int) < n := by omega
            have hi0 : (0 : Int) ≤ i := by omega
            have hiz : i < zs.length := by rw [hl.out]; exact hlt
            obtain ⟨b0, o0, rfl, _⟩ := HA.out.addr (by omega)
            obtain ⟨b1, o1, rfl, _⟩ := R1.out.addr (by omega)
            obtain ⟨b2, o2, rfl, _⟩ := R2.out.addr (by omega)
            obtain ⟨b3, o3, rfl, _⟩ := R3.out.addr (by omega)
            obtain ⟨q0, p0⟩ := row_conn HA.out i hlt
            obtain ⟨q1, p1⟩ := row_conn R1.out i hlt
            obtain ⟨q2, p2⟩ := row_conn R2.out i hlt
            obtain ⟨q3, p3⟩ := row_conn R3.out i hlt
            replace p0 := p0.kept q0 (k5.trans hK)
            replace p1 := p1.kept q1 hK
            replace p2 := p2.kept q2 hK
            replace p3 := p3.kept q3 hK
            have e12 := fun h : k ≠ i => And.intro (push_other zs k b i hiz h) (close_other zs k i hiz h)
            have e3 := fun h : ok = false ∨ pl ≠ i => accept_other zs 7 i hiz (by rw [← HOK.out.1, ← HOK.out.2]; exact h)
            obtain ⟨x0, hx0⟩ : ∃ x, x = zs.getD i zero := ⟨_, rfl⟩
            obtain ⟨x1, hx1⟩ : ∃ x, x = (push zs k b).getD i zero := ⟨_, rfl⟩
            obtain ⟨x2, hx2⟩ : ∃ x, x = (close zs k).getD i zero := ⟨_, rfl⟩
            obtain ⟨x3, hx3⟩ : ∃ x, x = (accept zs 7).getD i zero := ⟨_, rfl⟩
            rw [← hx0] at p0
            rw [← hx1] at p1
            rw [← hx2] at p2
            rw [← hx3] at p3
            rw [← hx0, ← hx1, ← hx2] at e12
            rw [← hx0, ← hx3] at e3
            clear hx0 hx1 hx2 hx3 q0 q1 q2 q3 hiz
            have he := eqC x0
            have hgd := guardC
            have fin : ∀ W, Keep wr W → ∃ i' : Nat, i' ≤ n ∧ Value.int .i64 ((i : Int) + 1) = .int .i64 i' ∧ Keep w5 W := fun W h => ⟨i + 1, by omega, by simp, hK.trans h⟩
            have HK := Lib.hid hK
            have HK5 := Lib.hid k5
            clear hK k5 fin
            have hz : (ok = false ∨ pl ≠ i) ∨ (ok = true ∧ pl = i) := by
              cases ok
              · exact .inl (.inl rfl)
              · by_cases h : pl = i
                · exact .inr ⟨rfl, h⟩
                · exact .inl (.inr h)
            by_cases hik : k = i
            · have d1 : ((i : Int) != k) = false := by simp [hik]
              clear hik e12 p1 p2
              rcases hz with hz | ⟨rfl, hz⟩
              · rw [e3 hz] at p3
                obtain ⟨a0, a1, a2, a3, a4⟩ := p0
                obtain ⟨c0, c1', c2', c3', c4⟩ := p3
                rcases hz with rfl | hz
                · clear e3
                  go_wp2
                  go_quiet (fail)
                  go_wp2
                  exact ⟨⟨i + 1, by omega, by go_num, HK.out.trans (((Quiet.refl _).drewN _).keep)⟩, by simp [intOf]; omega⟩
                · have d2 : ((i : Int) != pl) = true := by simp; exact fun e => hz e.symm
                  clear hz e3
                  cases ok <;> (
                    go_wp2
                    go_quiet (fail)
                    go_wp2
                    exact ⟨⟨i + 1, by omega, by go_num, HK.out.trans (((Quiet.refl _).drewN _).keep)⟩, by simp [intOf]; omega⟩)
              · have d2 : ((i : Int) != pl) = false := by simp [hz]
                clear hz e3
                go_wp2
                go_quiet (fail)
                go_wp2
                exact ⟨⟨i + 1, by omega, by go_num, HK.out.trans (((Quiet.refl _).drewN _).keep)⟩, by simp [intOf]; omega⟩
            · have d1 : ((i : Int) != k) = true := by simp; exact fun e => hik e.symm
              obtain ⟨u1, u2⟩ := e12 hik
              rw [u1] at p1
              rw [u2] at p2
              obtain ⟨g0, g1, g2, g3, g4⟩ := p1
              obtain ⟨h0, h1, h2, h3, h4⟩ := p2
              clear hik e12 u1 u2
              rcases hz with hz | ⟨rfl, hz⟩
              · rw [e3 hz] at p3
                obtain ⟨a0, a1, a2, a3, a4⟩ := p0
                obtain ⟨c0, c1', c2', c3', c4⟩ := p3
                rcases hz with rfl | hz
                · clear e3
                  go_wp2
                  go_quiet (fail)
                  go_wp2
                  exact ⟨⟨i + 1, by omega, by go_num, HK.out.trans (((Quiet.refl _).drewN _).keep)⟩, by simp [intOf]; omega⟩
                · have d2 : ((i : Int) != pl) = true := by simp; exact fun e => hz e.symm
                  clear hz e3
                  cases ok <;> (
                    go_wp2
                    go_quiet (fail)
                    go_wp2
                    exact ⟨⟨i + 1, by omega, by go_num, HK.out.trans (((Quiet.refl _).drewN _).keep)⟩, by simp [intOf]; omega⟩)
              · have d2 : ((i : Int) != pl) = false := by simp [hz]
                obtain ⟨a0, a1, a2, a3, a4⟩ := p0
                clear hz e3
                go_wp2
                go_quiet (fail)
                go_wp2
                exact ⟨⟨i + 1, by omega, by go_num, HK.out.trans (((Quiet.refl _).drewN _).keep)⟩, by simp [intOf]; omega⟩
          · obtain rfl : i = n := by omega
            have HK := Lib.hid hK
            have HK5 := Lib.hid (k5.trans hK)
            clear hK k5
            have H1 := Lib.hid fun (W : World) (h : Keep w5 W) => right_any A1 i c1 (push zs k b) W hn1 HL.out.1.1 HL.out.1.2 (R1.out.kept h) (right_texts (right_push HRT.out k b))
            have H2 := Lib.hid fun (W : World) (h : Keep w5 W) => right_any A2 i c2 (close zs k) W hn1 HL.out.2.1 HL.out.2.2.1 (R2.out.kept h) (right_texts (right_close HRT.out k))
            have H3 := Lib.hid fun (W : World) (h : Keep w5 W) => right_any A3 i c3 (accept zs 7) W hn1 HL.out.2.2.2.1 HL.out.2.2.2.2 (R3.out.kept h) (right_texts (right_accept HRT.out 7))
            rw [right_push HRT.out k b] at H1
            rw [right_close HRT.out k] at H2
            rw [right_accept HRT.out 7] at H3
            go_wp2_with fail
            refine (awake_any _).mono ?_
            rintro e v1 ⟨rfl, t1⟩
            go_wp2_with fail
            refine (H1.out _ (HK.out.trans t1)).mono ?_
            rintro e v2 ⟨rfl, t2⟩
            replace t2 := t1.trans t2
            go_wp2_with fail
            refine (H2.out _ (HK.out.trans t2)).mono ?_
            rintro e v3 ⟨rfl, t3⟩
            replace t3 := t2.trans t3
            go_wp2_with fail
            refine (H3.out _ (HK.out.trans t3)).mono ?_
            rintro e v4 ⟨rfl, t4⟩
            go_wp2
            go_ret
            exact ⟨rfl, (HK5.out.trans t3).trans t4⟩
end Go.Proofs.Ytdgnmoebahaaeaa.Conns
