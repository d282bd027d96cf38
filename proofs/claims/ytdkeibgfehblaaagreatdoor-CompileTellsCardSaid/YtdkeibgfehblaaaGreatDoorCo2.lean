/- Layer 16's law: CompileTells. Conditions: none beyond the law's own. -/
import Derived.Test.YtdkeibgfehblaaaGreatDoorCo
namespace Go.Proofs.YtdkeibgfehblaaaGreatDoor.Cm
set_option linter.unusedVariables false
set_option linter.unusedSimpArgs false
set_option maxRecDepth 100000
open Go.ChangeShapes Go.WideShapes Go.ChangeAt Go.RowKit
open Tr (kind field rs lo hi of zero zeroR dp dpL dp_of Ex Exs ExIn Rus RuIn RuleAt RulesIn wf wfL fits fitsL wfR getD_mem ret_bool ret_int store_float small_fits atoms atomsL)
open Nd (Nds NodeAt zeroN okL okRs full RetNodes NOwn NodesIn wfN smallB laid)
open Cp (sameN testP leafP lay layN layA layO rulesF rules)
open Wk (okF rules_right norm_okl norm_ok)
open Tree (eqL)
theorem smallB_out {l : List NodeP} {n : Nat} (h : smallB l n = true) : l.length ≤ n ∧ ∀ x ∈ l, Tr.small x.atom 3 = true := by
  unfold smallB at h
  simp only [Bool.and_eq_true, decide_eq_true_eq, List.all_eq_true] at h
  exact h
set_option maxHeartbeats 8000000 in
theorem tells_any (A : Option Addr) (n c : Nat) (l : List RuleP) (B : Option Addr) (m d : Nat) (a : List NodeP) (E : Option Addr) (k g : Nat) (b : List NodeP) (w : World) (ht : Tab w) (hR : RulesIn w A n l) (hA : NodesIn w B m a) (hB : NodesIn w E k b) :
    Calls Tryz.prog 3 #[.slice A n c, .slice B m d, .slice E k g] w fun e w' => e = .returned (.bool true) ∧ Keep w w' := by
  obtain ⟨rfl, hRu, hwR⟩ := hR
  obtain ⟨hNa, hwA⟩ := hA
  obtain ⟨hNb, hwB⟩ := hB
  obtain rfl := hNa.len
  obtain rfl := hNb.len
  have CW := Lib.hid (fun W (hk : Keep w W) => awake16_any W (ht.keep hk))
  have CM := Lib.hid (fun W (hk : Keep w W) => may_any A c l W hwR (hRu.kept hk))
  have CA := Lib.hid (fun W (hk : Keep w W) => Nd.ref_small_any B d a 60 W (by omega) (hNa.kept hk))
  have CB := Lib.hid (fun W (hk : Keep w W) => Nd.ref_small_any E g b 60 W (by omega) (hNb.kept hk))
  cases hm : laid l 6
  · rw [hm] at CM
    clear hm hRu hwR hNa hwA hNb hwB ht
    go_enter Tryz.func3, Tryz.ntmps3
    go_wp2_with fail
    refine (CM.out _ (Keep.refl _)).mono ?_
    rintro e1 w1 ⟨rfl, k1⟩
    go_wp2_with fail
    refine (CW.out _ (k1)).mono ?_
    rintro e9 w9 ⟨rfl, k9⟩
    go_wp2
    go_ret
    exact ⟨rfl, (k1).trans k9⟩
  rw [hm] at CM
  obtain ⟨hl6, hall⟩ := laid_ok hwR hm
  clear hm
  cases hsa : smallB a 60
  · rw [hsa] at CA
    clear hsa hRu hwR hNa hwA hNb hwB hall ht
    go_enter Tryz.func3, Tryz.ntmps3
    go_wp2_with fail
    refine (CM.out _ (Keep.refl _)).mono ?_
    rintro e1 w1 ⟨rfl, k1⟩
    go_wp2_with fail
    refine (CA.out _ k1).mono ?_
    rintro e2 w2 ⟨rfl, k2⟩
    go_wp2_with fail
    refine (CW.out _ (k1.trans k2)).mono ?_
    rintro e9 w9 ⟨rfl, k9⟩
    go_wp2
    go_ret
    exact ⟨rfl, (k1.trans k2).trans k9⟩
  rw [hsa] at CA
  obtain ⟨ha60, hsA⟩ := smallB_out hsa
  have hfA : ∀ y ∈ a, fits y.atom := fun y hy => (small_fits (dp y.atom) y.atom 3 (Nat.le_refl _) (hwA y hy).1 (hsA y hy)).1
  clear hsa hsA hwA
  cases hsb : smallB b 60
  · rw [hsb] at CB
    clear hsb hRu hwR hNa hNb hwB hall ht hfA
    go_enter Tryz.func3, Tryz.ntmps3
    go_wp2_with fail
    refine (CM.out _ (Keep.refl _)).mono ?_
    rintro e1 w1 ⟨rfl, k1⟩
    go_wp2_with fail
    refine (CA.out _ k1).mono ?_
    rintro e2 w2 ⟨rfl, k2⟩
    go_wp2_with fail
    refine (CB.out _ (k1.trans k2)).mono ?_
    rintro e3 w3 ⟨rfl, k3⟩
    go_wp2_with fail
    refine (CW.out _ ((k1.trans k2).trans k3)).mono ?_
    rintro e9 w9 ⟨rfl, k9⟩
    go_wp2
    go_ret
    exact ⟨rfl, ((k1.trans k2).trans k3).trans k9⟩
  rw [hsb] at CB
  obtain ⟨hb60, hsB⟩ := smallB_out hsb
  have hfB : ∀ y ∈ b, fits y.atom := fun y hy => (small_fits (dp y.atom) y.atom 3 (Nat.le_refl _) (hwB y hy).1 (hsB y hy)).1
  clear hsb hsB hwB hwR
  have ho12 : okR12 l := ⟨by omega, fun r hr => ⟨(hall r hr).1, (hall r hr).2.1, (hall r hr).2.2.1⟩⟩
  have hoRs : Nd.okRs l := ⟨by omega, fun r hr => ⟨(hall r hr).1, (hall r hr).2.1⟩⟩
  have hTl := rules_len (fun r hr => ⟨(hall r hr).1, (hall r hr).2.1⟩) (by omega : l.length ≤ 12)
  have hTf := rulesF_fits l 0 fun r hr => (hall r hr).1
  have CR := Lib.hid (fun W (hk : Keep w W) => rules_any A c l W ho12 (hRu.kept hk))
  have CQ := Lib.hid (fun W (hk : Keep w W) => Nd.ref_rules_any A c l W hoRs (hRu.kept hk))
  have HSELF := Lib.hid (eqL_self (l := rules l) hTf)
  have C1 := Lib.hid (fun W (hk : Keep w W) => right_any B d a W (ht.keep hk) (by omega) hfA (hNa.kept hk))
  have C2 := Lib.hid (fun W (hk : Keep w W) => Nd.ref_right_any B d a W (by omega) hfA (hNa.kept hk))
  have C3 := Lib.hid (fun W (hk : Keep w W) => same_any B d a E g b W (ht.keep hk) (by omega) (by omega) hfA hfB (hNa.kept hk) (hNb.kept hk))
  have C4 := Lib.hid (fun W (hk : Keep w W) => ref_same_any B d a E g b W (by omega) (by omega) hfA hfB (hNa.kept hk) (hNb.kept hk))
  have CS := Lib.hid (fun (A1 : Option Addr) (c1 : Nat) (A2 : Option Addr) (c2 : Nat) (W : World) (h1 : Nds W A1 (rules l).length (rules l)) (h2 : Nds W A2 (rules l).length (rules l)) => ref_same_any A1 c1 (rules l) A2 c2 (rules l) W (by omega) (by omega) hTf hTf h1 h2)
  rw [HSELF.out] at CS
  obtain ⟨ri, hri⟩ : ∃ ri, Cp.right a = ri := ⟨_, rfl⟩
  obtain ⟨sa, hsa⟩ : ∃ sa, eqL sameN a b = sa := ⟨_, rfl⟩
  rw [hri] at C1 C2
  rw [hsa] at C3 C4
  obtain ⟨T, hT⟩ : ∃ T, T = rules l := ⟨_, rfl⟩
  rw [← hT] at CR CQ CS
  clear hri hsa hRu hNa hNb hall ht hfA hfB ho12 hoRs hTl hTf hT HSELF
  go_enter Tryz.func3, Tryz.ntmps3
  go_wp2_with fail
  refine (CM.out _ (Keep.refl _)).mono ?_
  rintro e1 w1 ⟨rfl, k1⟩
  go_wp2_with fail
  refine (CA.out _ k1).mono ?_
  rintro e2 w2 ⟨rfl, k2⟩
  go_wp2_with fail
  refine (CB.out _ (k1.trans k2)).mono ?_
  rintro e3 w3 ⟨rfl, k3⟩
  have k13 := (k1.trans k2).trans k3
  clear k1 k2 k3
  go_wp2_with fail
  refine (CW.out _ k13).mono ?_
  rintro e4 w4 ⟨rfl, k4⟩
  have k14 := k13.trans k4
  clear k13 k4
  go_wp2_with fail
  refine (CR.out _ k14).mono ?_
  rintro e5 w5 ⟨A1, c1, rfl, _, _, n1, k5⟩
  have k15 := k14.trans k5
  have HN1 := Lib.hid n1
  clear k14 k5 n1
  go_wp2_with fail
  refine (CQ.out _ k15).mono ?_
  rintro e6 w6 ⟨A2, c2, rfl, n2, k6⟩
  have k16 := k15.trans k6
  have hCS := CS.out A1 c1 A2 c2 w6 (HN1.out.kept k6) n2.nds
  clear k15 k6 n2
  go_wp2_with fail
  refine hCS.mono ?_
  rintro e7 w7 ⟨rfl, k7⟩
  have k17 := k16.trans k7
  clear k16 k7 hCS
  go_wp2_with fail
  refine (C1.out _ k17).mono ?_
  rintro e8 w8 ⟨rfl, k8⟩
  have k18 := k17.trans k8
  clear k17 k8
  go_wp2_with fail
  refine (C2.out _ k18).mono ?_
  rintro e9 w9 ⟨rfl, k9⟩
  have k19 := k18.trans k9
  clear k18 k9
  have r1 : (ri == ri) = true := by simp
  go_wp2_with fail
  refine (C3.out _ k19).mono ?_
  rintro e10 w10 ⟨rfl, k10⟩
  have k20 := k19.trans k10
  clear k19 k10
  go_wp2_with fail
  refine (C4.out _ k20).mono ?_
  rintro e11 w11 ⟨rfl, k11⟩
  have r2 : (sa == sa) = true := by simp
  go_wp2
  go_ret
  exact ⟨rfl, k20.trans k11⟩
end Go.Proofs.YtdkeibgfehblaaaGreatDoor.Cm
