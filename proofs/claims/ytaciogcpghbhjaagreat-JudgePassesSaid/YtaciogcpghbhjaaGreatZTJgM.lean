/- Of these texts: JgM. Conditions: as each part says. -/
import Derived.Test.YtaciogcpghbhjaaGreatZTChR
import Derived.Test.YtaciogcpghbhjaaGreatZTNtA
import Derived.Test.YtaciogcpghbhjaaGreatZTTrRu
import Derived.Test.YtaciogcpghbhjaaGreatZTWkAll
/- Layer 24's law: may, and what rules that may be used are. Conditions: rules as they are read. -/
namespace Go.Proofs.YtaciogcpghbhjaaGreat.JgM
set_option linter.unusedVariables false
set_option linter.unusedSimpArgs false
set_option maxRecDepth 100000
open Go.ChangeShapes Go.WideShapes Go.ChangeAt Go.RowKit
open Tr
open Ck (fine fineL fine_full rule_zero)
open Nd (okRs okL)
open Wk (okF)
open Jg (okJ rate)
theorem few_facts {l : List RuleP} (hf : few l 6 = true) (hw : ∀ r ∈ l, wfR r) : l.length <= 6 ∧ (∀ r ∈ l, fits r.when_) ∧ ∀ r ∈ l, ruleR r = true -> (rtxt r).length <= 3000000 := by
 rw [few, Bool.and_eq_true, decide_eq_true_eq, List.all_eq_true] at hf
 refine ⟨hf.1, fun r hr => (small_fits _ _ 4 (Nat.le_refl _) (hw r hr).1 (hf.2 r hr)).1, fun r hr _ => ?_⟩
 have h1 := txt_len _ r.when_ 4 (Nat.le_refl _) (hf.2 r hr)
 have e4 : 7 ^ (4 : Int).toNat = 2401 := by decide
 rw [e4] at h1
 have h2 := Gu.put_len r.num
 have h3 := Gu.put_len r.per
 have h4 := Gu.put_len r.burst
 have w1 : wAllow.length = 5 := rfl
 have w2 : wDeny.length = 4 := rfl
 have w3 : wWhen.length = 6 := rfl
 have w4 : wRate.length = 6 := rfl
 have w5 : wPer.length = 5 := rfl
 have w6 : wBurst.length = 7 := rfl
 unfold rtxt
 rw [List.length_append, List.length_append, List.length_append]
 have a1 : (if r.allow then wAllow else wDeny).length <= 5 := by split <;> omega
 have a2 : (if kind r.when_ = 0 then [] else wWhen ++ txt r.when_).length <= 6 + 300 * 2401 := by
  split
  ·simp
  ·rw [List.length_append]; omega
 have a3 : (if r.per = 0 then [] else wRate ++ (Gu.put r.num ++ (wPer ++ (Gu.put r.per ++ (wBurst ++ Gu.put r.burst))))).length <= 66 := by
  split
  ·simp
  ·simp only [List.length_append]; omega
 have a4 : ([59, 10] : List UInt8).length = 2 := rfl
 omega
def mayB (l : List RuleP) : Bool := few l 6 && l.all fun r => decide (Ck.rule r = 0)
theorem may_facts {l : List RuleP} (hw : ∀ r ∈ l, wfR r) (h : mayB l = true) : l.length <= 6 ∧ okRs l ∧ (∀ r ∈ l, okF r.when_) ∧ okJ l := by
 unfold mayB at h
 rw [Bool.and_eq_true, List.all_eq_true] at h
 obtain ⟨hf, ha⟩ := h
 unfold few at hf
 rw [Bool.and_eq_true, decide_eq_true_eq, List.all_eq_true] at hf
 have hL : ∀ r ∈ l, okL r.when_ ∧ atoms r.when_ <= 15000 := fun r hr => by
  have h0 := rule_zero (of_decide_eq_true (ha r hr))
  have h1 := h0.1
  unfold ruleR at h1
  rw [Bool.and_eq_true] at h1
  exact ⟨⟨(hw r hr).1, Nd.roomy_small (hf.2 r hr), h1.1⟩, Nd.small_atoms4 (hf.2 r hr)⟩
 refine ⟨hf.1, ⟨by omega, hL⟩, fun r hr => ⟨(hL r hr).1, ?_⟩, fun r hr => ?_⟩
 ·exact fine_full _ (hL r hr).1.2.2 (rule_zero (of_decide_eq_true (ha r hr))).2.1
 ·obtain ⟨h1, _, h3⟩ := rule_zero (of_decide_eq_true (ha r hr))
  rcases h3 with h3 | h3
  ·unfold ruleR at h1
   simp only [Bool.and_eq_true, Bool.or_eq_true, Bool.not_eq_true', beq_iff_eq] at h1
   obtain ⟨_, _, _, _, h5⟩ := h1
   rcases h5 with h5 | h5
   ·rw [h3] at h5; simp at h5
   ·exact .inl ⟨h3, h5.1, h5.2⟩
  ·unfold Ck.small at h3
   simp only [Bool.and_eq_true, decide_eq_true_eq] at h3
   exact .inr ((Bu.right_iff _).2 ⟨h3.1.1, h3.1.2, h3.2.1.1, h3.2.1.2, h3.2.2.1, h3.2.2.2⟩)
set_option maxHeartbeats 1500000 in
theorem may_any (A : Option Addr) (c : Nat) (l : List RuleP) (w : World) (hR : Rus w A l) (hw : ∀ r ∈ l, wfR r) :
  Calls Tryz.prog 5 #[.slice A l.length c] w fun e w' => e = .returned (.bool (mayB l)) ∧ Keep w w' := by
 have HFW := Lib.hid (few_any A c l 6 w (by omega) hR)
 have HMB := Lib.hid (show mayB l = (few l 6 && l.all fun r => decide (Ck.rule r = 0)) from rfl)
 cases hfew : few l 6
 ·have HS := Lib.hid (show mayB l = false by rw [HMB.out, hfew]; rfl)
  rw [hfew] at HFW
  clear hfew HMB
  go_enter Tryz.func5, Tryz.ntmps5
  go_wp2_with fail
  refine HFW.out.mono ?_
  rintro e w1 ⟨rfl, k1⟩
  go_wp2
  go_ret
  exact ⟨ret_bool HS.out.symm, k1⟩
 ·have HS := Lib.hid (show mayB l = l.all fun r => decide (Ck.rule r = 0) by rw [HMB.out, hfew]; rfl)
  obtain ⟨hl6, hfit, hlen⟩ := few_facts hfew hw
  have hll : l.length <= 1000000 := by omega
  have HRL := Lib.hid (fun (W : World) (r : RuleP) (hr : r ∈ l) (RA OA : Option Addr) (rc oc : Nat) (hE : Ex W r.when_ RA OA) => Ref13.rule_any r RA OA rc oc W (hfit r hr) (hlen r hr) hE)
  rw [hfew] at HFW
  clear hfew HMB hfit hlen hw
  go_enter Tryz.func5, Tryz.ntmps5
  go_wp2_with fail
  refine HFW.out.mono ?_
  rintro e w1 ⟨rfl, k1⟩
  go_wp2
  go_loopw [3] (fun iv wr => ∃ j : Nat, j <= l.length ∧ iv = .int .i64 j ∧ Hid ((l.take j).all (fun r => decide (Ck.rule r = 0)) = true) ∧ Keep w wr) (fun iv _ => l.length - (intOf iv).toNat)
  case atStart => exact ⟨0, Nat.zero_le _, rfl, rfl, k1⟩
  case round =>
   obtain ⟨j, hj, rfl, hall, hk⟩ := hrel
   by_cases hlt : j < l.length
   ·have hi1 : (j : Int) < l.length := by omega
    have hj0 : (0 : Int) <= j := by omega
    have hRw := hR.kept hk
    obtain ⟨b, off, rfl, hbb⟩ := hRw.addr (by omega)
    obtain ⟨_, RA, OA, rc, oc, hx6, hx⟩ := hRw.elem j hlt
    have HA := Lib.hid (Ref13.all_snoc' (fun r : RuleP => decide (Ck.rule r = 0)) zeroR l j hlt)
    have HNo := Lib.hid (Ref13.all_no' (fun r : RuleP => decide (Ck.rule r = 0)) zeroR l j hlt)
    have hmem : l.getD j zeroR ∈ l := Jg.memR l j hlt
    have HC := HRL.out wr _ hmem RA OA rc oc hx
    generalize l.getD j zeroR = r at hx6 hx HA HNo HC hmem
    obtain ⟨x0, x1, x2, x3, x4, x5, x6, x7, x8, x9, x10⟩ := hx6
    obtain ⟨z, hz⟩ : ∃ z, z = Ck.rule r := ⟨_, rfl⟩
    rw [<- hz] at HC HA HNo
    have HC1 := Lib.hid HC
    clear hx hRw hmem hz HC
    by_cases hz0 : z = 0
    ·have dz : (z != 0) = false := by simp [hz0]
     have HT : Hid ((l.take (j + 1)).all (fun r => decide (Ck.rule r = 0)) = true) := by
      refine Lib.hid ?_
      rw [HA.out, hall.out, decide_eq_true hz0]; rfl
     clear HA HNo hz0
     go_wp2_with fail
     refine HC1.out.mono ?_
     rintro e w2 ⟨rfl, k2⟩
     go_wp2
     exact ⟨⟨j + 1, by omega, by go_num, HT, hk.trans k2⟩, by simp [intOf]; omega⟩
    ·have dz : (z != 0) = true := by simp [hz0]
     have HF := Lib.hid (HNo.out (by simp [hz0]))
     clear HA HNo hz0
     go_wp2_with fail
     refine HC1.out.mono ?_
     rintro e w2 ⟨rfl, k2⟩
     go_wp2
     go_ret
     exact ⟨ret_bool (by rw [HS.out, HF.out]), hk.trans k2⟩
   ·obtain rfl : j = l.length := by omega
    have h := hall.out
    rw [List.take_of_length_le (Nat.le_refl _)] at h
    have H := Lib.hid h
    clear h
    go_wp2
    go_ret
    exact ⟨ret_bool (by rw [HS.out, H.out]), hk⟩
end Go.Proofs.YtaciogcpghbhjaaGreat.JgM
