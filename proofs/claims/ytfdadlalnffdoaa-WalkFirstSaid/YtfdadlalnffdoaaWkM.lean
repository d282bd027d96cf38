/- Layer 17's law: WalkFirst. Conditions: none beyond the law's own. -/
import Derived.Test.YtfdadlalnffdoaaWkAll
namespace Go.Proofs.Ytfdadlalnffdoaa.Wk
set_option linter.unusedVariables false
set_option linter.unusedSimpArgs false
set_option maxRecDepth 100000
open Go.ChangeShapes Go.WideShapes Go.ChangeAt Go.RowKit
open Tr (kind field rs lo hi of zero zeroR dp Ex Exs ExIn Rus RuIn RuleAt RulesIn wf wfL fits fitsL wfR getD_mem ret_bool ret_int store_float small_fits atoms atomsL)
open Fa (FaAt)
open Me (fewF okE short holds)
open Mean (FIn fewB fewB_fewF)
open Nd (Nds NodeAt zeroN okL okRs full RetNodes NOwn NodesIn wfN smallB laid)
open Cp (testP leafP lay layN layA layO rulesF rules)
theorem laid_out {l : List RuleP} (hw : ∀ r ∈ l, wfR r) (h : laid l 6 = true) : l.length ≤ 6 ∧ okRs l ∧ (∀ r ∈ l, okF r.when_) ∧ ∀ r ∈ l, Me.okX r.when_ := by
  unfold laid Tr.few at h
  simp only [Bool.and_eq_true, decide_eq_true_eq, List.all_eq_true] at h
  obtain ⟨⟨h1, h2⟩, h3⟩ := h
  have hf := fun r hr => small_fits (dp r.when_) r.when_ 4 (Nat.le_refl _) (hw r hr).1 (h2 r hr)
  have hL := fun r hr => (⟨(hw r hr).1, ⟨4, h2 r hr⟩, (h3 r hr).1⟩ : okL r.when_)
  refine ⟨h1, ⟨by omega, fun r hr => ⟨hL r hr, ?_⟩⟩, fun r hr => ⟨hL r hr, (h3 r hr).2⟩, fun r hr => Mean.okX_of (hw r hr).1 (h2 r hr) (h3 r hr).1⟩
  have := (hf r hr).2.2
  have e : (7 : Nat) ^ ((4 : Int) + 1).toNat = 16807 := by decide
  omega
theorem sumA_app (a b : List RuleP) : sumA (a ++ b) = sumA a + sumA b := by
  induction a with
  | nil => simp [sumA]
  | cons r a ih => rw [List.cons_append, sumA, sumA, ih]; omega
theorem sumA_snoc (l : List RuleP) (j : Nat) (h : j < l.length) : sumA (l.take (j + 1)) = sumA (l.take j) + atoms (l.getD j zeroR).when_ := by
  rw [Tr.take_snoc zeroR l j h, sumA_app]
  simp [sumA]
theorem sumA_le {l : List RuleP} (h : ∀ r ∈ l, atoms r.when_ ≤ 20000) : sumA l ≤ l.length * 20000 := by
  induction l with
  | nil => exact Nat.zero_le _
  | cons r l ih =>
    rw [sumA, List.length_cons]
    have := ih fun r hr => h r (List.mem_cons_of_mem _ hr)
    have := h r (List.mem_cons_self ..)
    omega
set_option maxHeartbeats 8000000 in
theorem first_any (A : Option Addr) (n c : Nat) (l : List RuleP) (x : FactsP) (SA VA QA : Option Addr) (c1 c2 c3 : Nat) (w : World) (hR : RulesIn w A n l) (hF : FIn w x SA VA QA c3) :
    Calls Try.prog 4 #[.slice A n c, .agg #[.int .i64 x.cl, .int .i64 x.un, .int .i64 x.fc, .slice SA x.sp.length c1, .slice VA x.vs.length c2, .slice QA x.rg.length c3]] w fun e w' => e = .returned (.bool true) ∧ Keep w w' := by
  obtain ⟨rfl, hRu, hwR⟩ := hR
  obtain ⟨hFa, h3, h3m⟩ := hF
  have CW := Lib.hid (fun W => awake17_any W)
  obtain ⟨X, hX⟩ : ∃ X, X = w.alloc (.cells #[.int .i64 x.cl, .int .i64 x.un, .int .i64 x.fc, .slice SA x.sp.length c1, .slice VA x.vs.length c2, .slice QA x.rg.length c3] 26) := ⟨_, rfl⟩
  have hkX : Keep w X := by rw [hX]; exact (Keep.refl w).alloc _
  have bF : Bx X w.heap.size [.int .i64 x.cl, .int .i64 x.un, .int .i64 x.fc, .slice SA x.sp.length c1, .slice VA x.vs.length c2, .slice QA x.rg.length c3] := by rw [hX]; exact Bx.newq rfl
  have HF := Lib.hid (show ∀ W, Keep X W → Bx W w.heap.size [.int .i64 x.cl, .int .i64 x.un, .int .i64 x.fc, .slice SA x.sp.length c1, .slice VA x.vs.length c2, .slice QA x.rg.length c3] from fun W hk => bF.kept hk)
  have hFX := hFa.kept hkX
  have CFF := Lib.hid (fun W => few17_any x SA VA QA c1 c2 c3 W)
  have hRX := hRu.kept hkX
  have CL := Lib.hid (fun W (hk : Keep X W) => Nd.laid_any A c l 6 W (by omega) hwR (hRX.kept hk))
  clear bF hFa hRu
  cases hs : laid l 6
  · rw [hs] at CL
    clear hs
    go_enter Try.func4, Try.ntmps4
    go_wp2_with fail
    rw [← hX]
    clear hX
    refine (CL.out _ (Keep.refl _)).mono ?_
    rintro e1 w1 ⟨rfl, k1⟩
    go_wp2_with fail
    refine (CW.out _).mono ?_
    rintro e9 w9 ⟨rfl, k9⟩
    go_wp2
    go_ret
    exact ⟨rfl, (hkX.trans k1).trans k9⟩
  rw [hs] at CL
  obtain ⟨hl6, hok, hoF, hoX⟩ := laid_out hwR hs
  clear hs
  cases hg : fewB x
  · rw [hg] at CFF
    clear hg hok hoF hoX
    go_enter Try.func4, Try.ntmps4
    go_wp2_with fail
    rw [← hX]
    clear hX
    refine (CL.out _ (Keep.refl _)).mono ?_
    rintro e1 w1 ⟨rfl, k1⟩
    obtain ⟨b0, b1, b2, b3, b4, b5⟩ := (HF.out _ k1).six
    go_wp2_with fail
    refine (CFF.out _).mono ?_
    rintro e3 w3 ⟨rfl, k3⟩
    go_wp2_with fail
    refine (CW.out _).mono ?_
    rintro e9 w9 ⟨rfl, k9⟩
    go_wp2
    go_ret
    exact ⟨rfl, ((hkX.trans k1).trans k3).trans k9⟩
  rw [hg] at CFF
  have hx := fewB_fewF hg
  have HSA := Lib.hid (sumA_le fun r hr => (hok.2 r hr).2)
  have HTR := Lib.hid (top_rules l hoF x)
  have HRI := Lib.hid (rules_right l hoF)
  have HNS := Lib.hid (rules_ok hok)
  have HCA := Lib.hid (fun (r : RuleP) (hr : r ∈ l) (RA OA : Option Addr) (rc oc : Nat) (W : World) (hE : Ex W r.when_ RA OA) => Tr.atoms_any _ r.when_ RA OA rc oc W (Nat.le_refl _) (hoX r hr).1.2 (by have := (hok.2 r hr).2; omega) hE)
  have HCR := Lib.hid (fun W (hk : Keep X W) => Nd.ref_rules_any A c l W hok (hRX.kept hk))
  have HCF := Lib.hid (fun W (hk : Keep X W) => Me.ref_first_any A c l x SA VA QA c1 c2 c3 W (by omega) (hRX.kept hk) hoX h3 h3m hx (hFX.kept hk))
  have HFX := Lib.hid hFX
  have HX3 := Lib.hid (And.intro h3 (And.intro h3m hx))
  clear hg hok hoF hoX hFX h3 h3m hx hwR
  go_enter Try.func4, Try.ntmps4
  go_wp2_with fail
  rw [← hX]
  clear hX
  refine (CL.out _ (Keep.refl _)).mono ?_
  rintro e1 w1 ⟨rfl, k1⟩
  obtain ⟨b0, b1, b2, b3, b4, b5⟩ := (HF.out _ k1).six
  go_wp2_with fail
  refine (CFF.out _).mono ?_
  rintro e3 w3 ⟨rfl, k3⟩
  have k13 := k1.trans k3
  clear b0 b1 b2 b3 b4 b5 k1 k3 CL CFF
  go_wp2
  go_loopw [5, 6] (fun s5 s6 wr => ∃ j : Nat, j ≤ l.length ∧ s6 = .int .i64 j ∧ s5 = .int .i64 (sumA (l.take j) : Nat) ∧ Keep X wr) (fun _ s6 _ => l.length - (intOf s6).toNat)
  case atStart => exact ⟨0, Nat.zero_le _, rfl, by rw [List.take_zero, sumA]; rfl, k13⟩
  case round =>
    obtain ⟨j, hj, rfl, rfl, hk⟩ := hrel
    by_cases hlt : j < l.length
    · have hi1 : (j : Int) < l.length := by omega
      have hj0 : (0 : Int) ≤ j := by omega
      have hOw := hRX.kept hk
      obtain ⟨b, off, rfl, _⟩ := hOw.addr (by omega)
      obtain ⟨hbb, RA', OA', rc', oc', ⟨r0, r1, r2, r3, r4, r5, r6, r7⟩, hy⟩ := hOw.elem j hlt
      have hm := getD_mem zeroR l j hlt
      have HSN := Lib.hid (sumA_snoc l j hlt)
      have HA6 := Lib.hid (show sumA (l.take (j + 1)) ≤ 120000 by
        have h1 := sumA_app (l.take (j + 1)) (l.drop (j + 1))
        rw [List.take_append_drop] at h1
        have := HSA.out
        omega)
      obtain ⟨r, hu⟩ : ∃ r, l.getD j zeroR = r := ⟨_, rfl⟩
      rw [hu] at r1 r2 r3 r4 r5 r6 hm HSN hy
      have hC := HCA.out r hm RA' OA' rc' oc' wr hy
      obtain ⟨y, hwy⟩ : ∃ y, y = r.when_ := ⟨_, rfl⟩
      rw [← hwy] at r1 r2 r3 r4 r5 r6 hC HSN
      clear r0 r7 hy hm hOw hu hwy
      obtain ⟨p, hp⟩ : ∃ p, sumA (l.take j) = p := ⟨_, rfl⟩
      obtain ⟨q, hq⟩ : ∃ q, atoms y = q := ⟨_, rfl⟩
      obtain ⟨s, hs⟩ : ∃ s, sumA (l.take (j + 1)) = s := ⟨_, rfl⟩
      rw [hp, hq, hs] at HSN
      rw [hs] at HA6
      rw [hq] at hC
      rw [hp]
      have hpq := HSN.out
      have hs6 := HA6.out
      have HS2 := Lib.hid hs
      replace hC := Lib.hid hC
      clear hp hq hs HSN HA6
      go_wp2_with fail
      refine hC.out.mono ?_
      rintro e5 w5 ⟨rfl, k5⟩
      go_wp2
      go_roundw
      case rel => exact ⟨j + 1, by omega, by go_num, by rw [HS2.out]; go_num, hk.trans k5⟩
      case measure => simp [intOf]; omega
    · obtain rfl : j = l.length := by omega
      rw [List.take_length]
      go_wp2_with fail
      refine (HCR.out _ hk).mono ?_
      rintro e5 w5 ⟨A5, c5, rfl, hn5, k5⟩
      have HN5 := Lib.hid hn5.nds
      have k15 := hk.trans k5
      obtain ⟨T, hT⟩ : ∃ T, rules l = T := ⟨_, rfl⟩
      rw [hT] at HTR HRI HNS HN5
      have hC1 := fun p : KeptOf w5 => (CW.out p.w).mono fun e w' h => (h : e = .returned (.bool true) ∧ Keep p.w w')
      have hC2 := fun p : KeptOf w5 => rule_any A5 c5 T x SA VA QA c1 c2 c3 p.w HNS.out HRI.out HX3.out.1 HX3.out.2.1 HX3.out.2.2 (HN5.out.kept p.h) (HFX.out.kept (k15.trans p.h))
      have hC3 := fun p : KeptOf w5 => tests_any A5 c5 T x SA VA QA c1 c2 c3 p.w HNS.out HRI.out HX3.out.1 HX3.out.2.1 HX3.out.2.2 (HN5.out.kept p.h) (HFX.out.kept (k15.trans p.h))
      have hC4 := fun p : KeptOf w5 => HCF.out p.w (k15.trans p.h)
      rw [HTR.out.1] at hC2
      have hle := HTR.out.2
      generalize (top T x).2 = te at hC3 hle
      generalize Me.first x l = fi at hC2 hC4
      generalize sumA l = su at hle ⊢
      have z0 := fun p : KeptOf w5 => (HF.out _ (k15.trans p.h)).six.1
      have z1 := fun p : KeptOf w5 => (HF.out _ (k15.trans p.h)).six.2.1
      have z2 := fun p : KeptOf w5 => (HF.out _ (k15.trans p.h)).six.2.2.1
      have z3 := fun p : KeptOf w5 => (HF.out _ (k15.trans p.h)).six.2.2.2.1
      have z4 := fun p : KeptOf w5 => (HF.out _ (k15.trans p.h)).six.2.2.2.2.1
      have z5 := fun p : KeptOf w5 => (HF.out _ (k15.trans p.h)).six.2.2.2.2.2
      have dn : decide ((te : Int) ≤ (su : Int)) = true := by simp; omega
      have dn' : decide (te ≤ su) = true := by simpa using hle
      rw [hT]
      clear hn5 HCR HCA HCF HTR HRI HNS HSA CW hle HN5 hT
      go_wp2_with fail
      refine wp_region_kept (by kernel_rfl) (by kernel_rfl) ?_
      repeat (go_big_quiet_step (first | with_reducible exact KeptOf.of (hC1 _) | with_reducible exact KeptOf.of (hC2 _) | with_reducible exact KeptOf.of (hC3 _) | with_reducible exact KeptOf.of (hC4 _)))
      refine Go.wpQuiet_nil ?_
      intro _ hw'
      obtain ⟨p, rfl⟩ := hw'
      obtain ⟨V, hw⟩ := p
      dsimp only
      go_wp2
      go_ret
      exact ⟨rfl, (hkX.trans k15).trans hw⟩
end Go.Proofs.Ytfdadlalnffdoaa.Wk
