/- Layer 20's law PendParts. Conditions: none beyond the law's own. -/
import Derived.Test.YtecajacpfikpcaaPnL
namespace Go.Proofs.Ytecajacpfikpcaa.Pend
set_option linter.unusedVariables false
set_option linter.unusedSimpArgs false
set_option maxRecDepth 100000
open Go.ChangeShapes Go.WideShapes Go.ChangeAt Go.RowKit
open Pn
theorem at_due {zs : List PendP} (t : Int) (h : right zs = true) (i : Nat) (hi : i < zs.length) : decide (0 ≤ find (Pn.due zs t) (zs.getD i zero).o) = decide ((zs.getD i zero).due ≤ t) := by
  have h1 := has_filter (isDue t) h i hi
  rw [Bool.eq_iff_iff, decide_eq_true_iff, find_has]
  unfold Pn.due
  rw [h1]; rfl
theorem at_rest {zs : List PendP} (t : Int) (h : right zs = true) (i : Nat) (hi : i < zs.length) : decide (0 ≤ find (rest zs t) (zs.getD i zero).o) = !decide ((zs.getD i zero).due ≤ t) := by
  have h1 := has_filter (fun p => !isDue t p) h i hi
  rw [Bool.eq_iff_iff, decide_eq_true_iff, find_has]
  unfold rest
  rw [h1]; rfl
theorem at_leave {zs : List PendP} (c : Int) (h : right zs = true) (i : Nat) (hi : i < zs.length) : decide (0 ≤ find (leave zs c) (zs.getD i zero).o) = !((zs.getD i zero).cn == c) := by
  have h1 := has_filter (fun p => !(p.cn == c)) h i hi
  rw [Bool.eq_iff_iff, decide_eq_true_iff, find_has]
  unfold leave
  rw [h1]
theorem count_snoc (zs : List PendP) (c : Int) (k : Nat) (hk : k < zs.length) : ((zs.take (k + 1)).filter fun p => p.cn == c).length = ((zs.take k).filter fun p => p.cn == c).length + (if (zs.getD k zero).cn == c then 1 else 0) := by
  rw [filter_snoc _ zs k hk, List.length_append]
  cases (zs.getD k zero).cn == c <;> rfl
set_option maxHeartbeats 8000000 in
theorem parts_any (A : Option Addr) (n c : Nat) (zs : List PendP) (x y : Int) (w : World) (hc : n ≤ c) (hcm : c ≤ maxLen) (hA : Row encQ 12 w w.heap.size A n zs) (hV : Vals w zs) (hS : SmV zs) :
    Calls Try.prog 5 #[.slice A n c, .int .i64 x, .int .i64 y] w fun e w' => e = .returned (.bool true) ∧ Keep w w' := by
  have hl := Lib.hid hA.1
  have HV := Lib.hid hV
  have SM := Lib.hid hS
  clear hV hS
  by_cases h1 : 80 < n
  · have d1 : decide ((80 : Int) < (n : Int)) = true := by simp; omega
    clear h1 hA
    go_enter Try.func5, Try.ntmps5
    go_wp2_with fail
    refine (awake_any _).mono ?_
    rintro e w1 ⟨rfl, k1⟩
    go_wp2
    go_ret
    exact ⟨rfl, k1⟩
  · have d1 : decide ((80 : Int) < (n : Int)) = false := by simp; omega
    have hn80 : n ≤ 80 := by omega
    have hn1 : n ≤ 1000000 := by omega
    have HA := Lib.hid hA
    have HW := Lib.hid (And.intro hc hcm)
    obtain ⟨rb, hrb⟩ : ∃ b, b = right zs := ⟨_, rfl⟩
    have HR := Lib.hid (Ref20.right_any A n c zs w (by unfold maxLen; omega) hA)
    rw [← hrb] at HR
    have HB := Lib.hid hrb
    clear h1 hA hrb
    cases rb
    · go_enter Try.func5, Try.ntmps5
      go_wp2_with fail
      refine HR.out.mono ?_
      rintro e w0 ⟨rfl, k0⟩
      go_wp2_with fail
      refine (awake_any _).mono ?_
      rintro e w1 ⟨rfl, k1⟩
      go_wp2
      go_ret
      exact ⟨rfl, k0.keep.trans k1⟩
    · have HT := Lib.hid HB.out.symm
      go_enter Try.func5, Try.ntmps5
      go_wp2_with fail
      refine HR.out.mono ?_
      rintro e w0 ⟨rfl, k0⟩
      replace k0 := k0.keep
      go_wp2_with fail
      refine (due_any A n c zs x _ hn1 HW.out.1 HW.out.2 (HA.out.kept k0) (HV.out.kept k0) SM.out).mono ?_
      rintro e w1 ⟨A1, n1, f1, A2, n2, f2, u1, u2, rfl, l1, l2, r1, r2, lk1, lk2, v1, v2, k1⟩
      have LK1 := Lib.hid lk1
      have LK2 := Lib.hid lk2
      clear lk1 lk2 v1 v2
      replace k1 := k0.trans k1
      clear k0
      go_wp2_with fail
      refine (leave_any A n c zs y _ hn1 HW.out.1 HW.out.2 (HA.out.kept k1) (HV.out.kept k1) SM.out).mono ?_
      rintro e w2 ⟨A3, n3, f3, u3, rfl, l3, m3, r3, lk3, v3, k2⟩
      have LK3 := Lib.hid lk3
      clear lk3 v3
      replace r1 := Lib.hid (r1.kept k2)
      replace r2 := Lib.hid (r2.kept k2)
      replace r3 := Lib.hid r3
      replace k2 := k1.trans k2
      clear k1
      have HL := Lib.hid (And.intro l1 (And.intro l2 (And.intro l3 m3)))
      have HN := Lib.hid (show n1 ≤ 1000000 ∧ n2 ≤ 1000000 ∧ n3 ≤ 1000000 ∧ n1 + n2 = n ∧ n3 + ((zs.filter fun p => p.cn == y).length) = n from by
        have e1 := r1.out.1
        have e2 := r2.out.1
        have e3 := r3.out.1
        have e6 := LK1.out.len
        have e7 := LK2.out.len
        have e8 := LK3.out.len
        have e4 := parts_len zs x
        have e5 := leave_len zs y
        have := hl.out
        omega)
      clear l1 l2 l3 m3
      go_wp2
      go_loopw [10, 11] (fun cv iv wr => ∃ k q : Nat, k ≤ n ∧ iv = .int .i64 k ∧ cv = .int .i64 q ∧ q ≤ k ∧ Hid (q = ((zs.take k).filter fun p => p.cn == y).length) ∧ Keep w2 wr) (fun _ iv _ => n - (intOf iv).toNat)
      case atStart => exact ⟨0, 0, Nat.zero_le _, rfl, rfl, Nat.zero_le _, rfl, Keep.refl _⟩
      case round =>
        obtain ⟨k, q, hk, rfl, rfl, hqk, HQ, hK⟩ := hrel
        by_cases hlt : k < n
        · have hltz : (k : Int) < n := by omega
          have hk0 : (0 : Int) ≤ k := by omega
          have hkz : k < zs.length := by rw [hl.out]; exact hlt
          obtain ⟨b, off, rfl, _⟩ := HA.out.addr (by omega)
          obtain ⟨hb, hp⟩ := row_pend HA.out k hlt
          have hp' := hp.kept hb (k2.trans hK)
          have hb2 : b < wr.heap.size := Nat.lt_of_lt_of_le hb (k2.trans hK).size
          have HD := Lib.hid (at_due x HT.out k hkz)
          have HD2 := Lib.hid (at_rest x HT.out k hkz)
          have HD3 := Lib.hid (at_leave y HT.out k hkz)
          have HC := Lib.hid (count_snoc zs y k hkz)
          obtain ⟨p, hpe⟩ : ∃ p, p = zs.getD k zero := ⟨_, rfl⟩
          rw [← hpe] at hp' HD HD2 HD3 HC
          obtain ⟨v1, hv1⟩ : ∃ v, v = find (Pn.due zs x) p.o := ⟨_, rfl⟩
          obtain ⟨v2, hv2⟩ : ∃ v, v = find (rest zs x) p.o := ⟨_, rfl⟩
          obtain ⟨v3, hv3⟩ : ∃ v, v = find (leave zs y) p.o := ⟨_, rfl⟩
          have HF1 := Lib.hid fun (W : World) (h : Keep wr W) => find_any A1 n1 f1 u1 p.o W HN.out.1 HL.out.1.1 HL.out.1.2 (r1.out.kept (hK.trans h))
          have HF2 := Lib.hid fun (W : World) (h : Keep wr W) => find_any A2 n2 f2 u2 p.o W HN.out.2.1 HL.out.2.1.1 HL.out.2.1.2 (r2.out.kept (hK.trans h))
          have HF3 := Lib.hid fun (W : World) (h : Keep wr W) => find_any A3 n3 f3 u3 p.o W HN.out.2.2.1 HL.out.2.2.1 HL.out.2.2.2 (r3.out.kept (hK.trans h))
          rw [← hv1] at HD
          rw [LK1.out.find, ← hv1] at HF1
          rw [← hv2] at HD2
          rw [LK2.out.find, ← hv2] at HF2
          rw [← hv3] at HD3
          rw [LK3.out.find, ← hv3] at HF3
          have hc0 := fun W : KeptOf wr => (hp'.kept hb2 W.h).1
          have hc1 := fun W : KeptOf wr => (hp'.kept hb2 W.h).2.1
          have hc11 := fun W : KeptOf wr => (hp'.kept hb2 W.h).2.2.2.2.2.2.2.2.2.2.2
          have c1 := hp'.2.1
          have hF1 := fun W : KeptOf wr => HF1.out W.w W.h
          have hF2 := fun W : KeptOf wr => HF2.out W.w W.h
          have hF3 := fun W : KeptOf wr => HF3.out W.w W.h
          have HK2 := Lib.hid k2
          have HKR := Lib.hid hK
          clear hpe hv1 hv2 hv3 hp hp' hb hb2 hkz k2 hK
          have hfin : ∀ (b1 b2 : Bool), decide (p.due ≤ x) = b1 → (p.cn == y) = b2 → (decide (0 ≤ v1) = b1 ∧ decide (0 ≤ v2) = (!b1) ∧ decide (x < p.due) = (!b1) ∧ decide (0 ≤ v3) = (!b2) ∧ (p.cn != y) = (!b2)) := fun b1 b2 e1 e2 => by
            rw [HD.out, HD2.out, HD3.out, e1, e2]
            refine ⟨rfl, rfl, ?_, rfl, by rw [bne, e2]⟩
            rw [← e1]
            by_cases h : p.due ≤ x
            · simp [h]
            · simp [h]; omega
          have HFIN := Lib.hid hfin
          clear hfin
          cases e1 : decide (p.due ≤ x) <;> cases e2 : (p.cn == y) <;> (
            obtain ⟨g1, g2, g3, g4, g5⟩ := HFIN.out _ _ e1 e2
            simp only [Bool.not_true, Bool.not_false] at g2 g3 g4 g5
            have HE2 := Lib.hid e2
            go_wp2_with fail
            refine wp_region_kept (by kernel_rfl) (by kernel_rfl) ?_
            repeat (go_big_quiet_step (first | with_reducible exact KeptOf.of (hF1 _) | with_reducible exact KeptOf.of (hF2 _) | with_reducible exact KeptOf.of (hF3 _)))
            refine Go.wpQuiet_nil ?_
            intro _ hw'
            obtain ⟨⟨W, hw⟩, hw''⟩ := hw'
            subst hw''
            go_wp2
            first
              | exact ⟨⟨k + 1, q + 1, by omega, by go_num, by go_num, by omega, Lib.hid (by rw [HC.out, HE2.out, HQ.out]; rfl), HKR.out.trans hw⟩, by simp [intOf]; omega⟩
              | exact ⟨⟨k + 1, q, by omega, by go_num, rfl, by omega, Lib.hid (by rw [HC.out, HE2.out, HQ.out]; rfl), HKR.out.trans hw⟩, by simp [intOf]; omega⟩)
        · obtain rfl : k = n := by omega
          have hq := HQ.out
          rw [List.take_of_length_le (by rw [hl.out]; omega)] at hq
          have g1 : (((n1 : Int) + (n2 : Int)) == (k : Int)) = true := by have := HN.out.2.2.2.1; simp; omega
          have g2 : (((n3 : Int) + (q : Int)) == (k : Int)) = true := by have := HN.out.2.2.2.2; simp; omega
          have hn12 : n1 ≤ 80 ∧ n2 ≤ 80 ∧ n3 ≤ 80 := by have := HN.out; omega
          obtain ⟨b1, b2, b3⟩ := hn12
          clear hq
          go_wp2_with fail
          refine (awake_any _).mono ?_
          rintro e w3 ⟨rfl, k3⟩
          go_wp2_with fail
          refine (outers_any A k c zs _ hn1 HW.out.1 HW.out.2 (HA.out.kept ((k2.trans hK).trans k3))).mono ?_
          rintro e w4 ⟨A4, n4, f4, rfl, _, _, r4, k4⟩
          obtain rfl : n4 = k := by
            have := r4.1
            rw [← this]; show (List.map _ _).length = _
            rw [List.length_map]; exact hl.out
          go_wp2
          go_ret
          exact ⟨rfl, ((k2.trans hK).trans k3).trans k4⟩
end Go.Proofs.Ytecajacpfikpcaa.Pend
