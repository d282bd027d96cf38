/- Layer 15's laws: arguments, few facts, MeanTells. Conditions: none beyond the law's own. -/
import Derived.Test.YtnbjhcemonkhhaaMeL
namespace Go.Proofs.Ytnbjhcemonkhhaa.Mean
set_option linter.unusedVariables false
set_option linter.unusedSimpArgs false
set_option maxRecDepth 100000
open Go.ChangeShapes Go.WideShapes Go.ChangeAt Go.RowKit
open Tr (kind field rs lo hi of zero zeroR dp dp_of dp_pos Ex Exs ExIn ElemAt Rus RuleAt RulesIn ExprsIn wf fits wfR getD_mem all_snoc all_no ret_bool small_fits opens_expr)
open Fa (FaAt)
open Me
/-- An expression that came in. -/
theorem opens_ex : Opens Try.prog 43 fun W cs => ∃ (e : ExprP) (RA : Option Addr) (rc : Nat) (OA : Option Addr) (oc : Nat), cs = [.int .i64 (kind e), .int .i64 (field e), .slice RA (rs e).length rc, .float .f64 (lo e), .float .f64 (hi e), .slice OA (of e).length oc] ∧ Ex W e RA OA ∧ wf e :=
  opens_expr.mono fun W cs ⟨e, h, hw⟩ => by
    obtain ⟨RA, rc, OA, oc, hc, hx⟩ := h.out
    exact ⟨e, RA, rc, OA, oc, hc, hx, hw⟩
/-- Facts that came in. -/
def FIn (W : World) (x : FactsP) (SA VA QA : Option Addr) (c3 : Nat) : Prop := FaAt W x SA VA QA ∧ x.rg.length ≤ c3 ∧ c3 ≤ maxLen
theorem opens_facts : Opens Try.prog 36 fun W cs => ∃ (x : FactsP) (SA VA QA : Option Addr) (c1 c2 c3 : Nat), cs = [.int .i64 x.cl, .int .i64 x.un, .int .i64 x.fc, .slice SA x.sp.length c1, .slice VA x.vs.length c2, .slice QA x.rg.length c3] ∧ FIn W x SA VA QA c3 :=
  ((((((opens_field Try.underlying36 0 _ rfl 6 1 (by kernel_rfl) (by kernel_rfl) (opens_int Try.underlying3)).and (opens_field Try.underlying36 1 _ rfl 6 1 (by kernel_rfl) (by kernel_rfl) (opens_int Try.underlying3))).and (opens_field Try.underlying36 2 _ rfl 6 1 (by kernel_rfl) (by kernel_rfl) (opens_int Try.underlying3))).and (opens_field Try.underlying36 3 _ rfl 6 1 (by kernel_rfl) (by kernel_rfl) (opens_pairs Try.underlying34 Try.underlying60 Try.underlying3 (by kernel_rfl) (by kernel_rfl) _ _ rfl rfl rfl rfl rfl rfl))).and (opens_field Try.underlying36 4 _ rfl 6 1 (by kernel_rfl) (by kernel_rfl) (opens_ints Try.underlying23 Try.underlying3 (by kernel_rfl)))).and (opens_field Try.underlying36 5 _ rfl 6 1 (by kernel_rfl) (by kernel_rfl) (opens_ints Try.underlying23 Try.underlying3 (by kernel_rfl)))).mono
  fun W cs ⟨⟨⟨⟨⟨⟨hl, x0, e0, h0⟩, _, x1, e1, h1⟩, _, x2, e2, h2⟩, _, x3, x3n, x3c, x3z, e3, l3, m3, h3⟩, _, x4, x4n, x4c, x4z, e4, l4, m4, h4⟩, _, x5, x5n, x5c, x5z, e5, l5, m5, h5⟩ => by
    match cs, hl with
    | [c0, c1, c2, c3, c4, c5], _ =>
      simp at e0 e1 e2 e3 e4 e5
      subst e0 e1 e2 e3 e4 e5
      obtain rfl : x3z.length = x3n := h3.1.1
      obtain rfl : x4z.length = x4n := h4.1.1
      obtain rfl : x5z.length = x5n := h5.1.1
      exact ⟨⟨x0, x1, x2, x3z, x4z, x5z⟩, x3, x4, x5, x3c, x4c, x5c, rfl, ⟨h3.1, h4.1, h5.1⟩, l5, m5⟩
/-- Few numbers. -/
def fewB (x : FactsP) : Bool := decide (x.sp.length ≤ 20) && (decide (x.vs.length ≤ 300) && decide (x.rg.length ≤ 300))
theorem fewB_fewF {x : FactsP} (h : fewB x = true) : fewF x := by
  unfold fewB at h
  simp only [Bool.and_eq_true, decide_eq_true_eq] at h
  exact ⟨by omega, by omega, by omega⟩
set_option maxHeartbeats 1000000 in
theorem few_any (x : FactsP) (SA VA QA : Option Addr) (c1 c2 c3 : Nat) (w : World) : Calls Try.prog 20 #[.agg #[.int .i64 x.cl, .int .i64 x.un, .int .i64 x.fc, .slice SA x.sp.length c1, .slice VA x.vs.length c2, .slice QA x.rg.length c3]] w fun e' w' => e' = .returned (.bool (fewB x)) ∧ Keep w w' := by
  by_cases h1 : x.sp.length ≤ 20
  · have d1 : decide ((x.sp.length : Int) ≤ 20) = true := by simp; omega
    by_cases h2 : x.vs.length ≤ 300
    · have d2 : decide ((x.vs.length : Int) ≤ 300) = true := by simp; omega
      by_cases h3 : x.rg.length ≤ 300
      · have d3 : decide ((x.rg.length : Int) ≤ 300) = true := by simp; omega
        have HS := Lib.hid (show true = fewB x by unfold fewB; rw [decide_eq_true h1, decide_eq_true h2, decide_eq_true h3]; rfl)
        clear h1 h2 h3
        go_enter Try.func20, Try.ntmps20
        go_wp2
        go_ret
        exact ⟨ret_bool HS.out, (Keep.refl w).alloc _⟩
      · have d3 : decide ((x.rg.length : Int) ≤ 300) = false := by simp; omega
        have HS := Lib.hid (show false = fewB x by unfold fewB; rw [decide_eq_true h1, decide_eq_true h2, decide_eq_false h3]; rfl)
        clear h1 h2 h3
        go_enter Try.func20, Try.ntmps20
        go_wp2
        go_ret
        exact ⟨ret_bool HS.out, (Keep.refl w).alloc _⟩
    · have d2 : decide ((x.vs.length : Int) ≤ 300) = false := by simp; omega
      have HS := Lib.hid (show false = fewB x by unfold fewB; rw [decide_eq_true h1, decide_eq_false h2]; rfl)
      clear h1 h2
      go_enter Try.func20, Try.ntmps20
      go_wp2
      go_ret
      exact ⟨ret_bool HS.out, (Keep.refl w).alloc _⟩
  · have d1 : decide ((x.sp.length : Int) ≤ 20) = false := by simp; omega
    have HS := Lib.hid (show false = fewB x by unfold fewB; rw [decide_eq_false h1]; rfl)
    clear h1
    go_enter Try.func20, Try.ntmps20
    go_wp2
    go_ret
    exact ⟨ret_bool HS.out, (Keep.refl w).alloc _⟩
set_option maxHeartbeats 8000000 in
theorem tells_any (e : ExprP) (RA OA : Option Addr) (rc oc : Nat) (A : Option Addr) (n c : Nat) (ls : List RuleP) (x : FactsP) (SA VA QA : Option Addr) (c1 c2 c3 : Nat) (w : World) (hE : Ex w e RA OA) (hw : wf e) (hR : RulesIn w A n ls) (hF : FIn w x SA VA QA c3) :
    Calls Try.prog 4 #[.agg #[.int .i64 (kind e), .int .i64 (field e), .slice RA (rs e).length rc, .float .f64 (lo e), .float .f64 (hi e), .slice OA (of e).length oc], .slice A n c, .agg #[.int .i64 x.cl, .int .i64 x.un, .int .i64 x.fc, .slice SA x.sp.length c1, .slice VA x.vs.length c2, .slice QA x.rg.length c3]] w fun e' w' => e' = .returned (.bool true) ∧ Keep w w' := by
  obtain ⟨rfl, hRu, hwR⟩ := hR
  obtain ⟨hFa, h3, h3m⟩ := hF
  have CW := Lib.hid (fun W => awake_any W)
  obtain ⟨X, hX⟩ : ∃ X, X = (w.alloc (.cells #[.int .i64 (kind e), .int .i64 (field e), .slice RA (rs e).length rc, .float .f64 (lo e), .float .f64 (hi e), .slice OA (of e).length oc] 43)).alloc (.cells #[.int .i64 x.cl, .int .i64 x.un, .int .i64 x.fc, .slice SA x.sp.length c1, .slice VA x.vs.length c2, .slice QA x.rg.length c3] 36) := ⟨_, rfl⟩
  have hkX : Keep w X := by rw [hX]; exact ((Keep.refl w).alloc _).alloc _
  have bE : Bx X w.heap.size [.int .i64 (kind e), .int .i64 (field e), .slice RA (rs e).length rc, .float .f64 (lo e), .float .f64 (hi e), .slice OA (of e).length oc] := by rw [hX]; exact (Bx.newq rfl).alloc _
  have bF : Bx X (w.heap.size + 1) [.int .i64 x.cl, .int .i64 x.un, .int .i64 x.fc, .slice SA x.sp.length c1, .slice VA x.vs.length c2, .slice QA x.rg.length c3] := by rw [hX]; exact Bx.newq (by simp)
  have HE := Lib.hid (show ∀ W, Keep X W → Bx W w.heap.size [.int .i64 (kind e), .int .i64 (field e), .slice RA (rs e).length rc, .float .f64 (lo e), .float .f64 (hi e), .slice OA (of e).length oc] from fun W hk => bE.kept hk)
  have HF := Lib.hid (show ∀ W, Keep X W → Bx W (w.heap.size + 1) [.int .i64 x.cl, .int .i64 x.un, .int .i64 x.fc, .slice SA x.sp.length c1, .slice VA x.vs.length c2, .slice QA x.rg.length c3] from fun W hk => bF.kept hk)
  have hEX := hE.kept hkX
  have hFX := hFa.kept hkX
  have hRX := hRu.kept hkX
  have CS := Lib.hid (fun W (hk : Keep X W) => Tr.small_any (dp e) e RA OA rc oc 5 W (Nat.le_refl _) (by omega) (by omega) (hEX.kept hk))
  have CFR := Lib.hid (fun W (hk : Keep X W) => Tr.few_any A c ls 6 W (by omega) (hRX.kept hk))
  have CFF := Lib.hid (fun W => few_any x SA VA QA c1 c2 c3 W)
  clear bE bF hE hFa hRu
  cases hs : Tr.small e 5
  · rw [hs] at CS
    clear hs
    go_enter Try.func4, Try.ntmps4
    go_wp2_with fail
    rw [← hX]
    clear hX
    refine (CS.out _ (Keep.refl _)).mono ?_
    rintro e1 w1 ⟨rfl, k1⟩
    go_wp2_with fail
    refine (CW.out _).mono ?_
    rintro e9 w9 ⟨rfl, k9⟩
    go_wp2
    go_ret
    exact ⟨rfl, (hkX.trans k1).trans k9⟩
  have hfit := (small_fits (dp e) e 5 (Nat.le_refl _) hw hs).1
  have CR := Lib.hid (fun W (hk : Keep X W) => Tr.right_any (dp e) e RA OA rc oc W (Nat.le_refl _) hfit (hEX.kept hk))
  rw [hs] at CS
  cases hr : Tr.right e
  · rw [hr] at CR
    clear hs hr
    go_enter Try.func4, Try.ntmps4
    go_wp2_with fail
    rw [← hX]
    clear hX
    refine (CS.out _ (Keep.refl _)).mono ?_
    rintro e1 w1 ⟨rfl, k1⟩
    obtain ⟨a0, a1, a2, a3, a4, a5⟩ := (HE.out _ k1).six
    go_wp2_with fail
    refine (CR.out _ k1).mono ?_
    rintro e2 w2 ⟨rfl, k2⟩
    go_wp2_with fail
    refine (CW.out _).mono ?_
    rintro e9 w9 ⟨rfl, k9⟩
    go_wp2
    go_ret
    exact ⟨rfl, ((hkX.trans k1).trans k2).trans k9⟩
  rw [hr] at CR
  have hok := okX_of hw hs hr
  cases hf : Tr.few ls 6
  · rw [hf] at CFR
    clear hs hr hf
    go_enter Try.func4, Try.ntmps4
    go_wp2_with fail
    rw [← hX]
    clear hX
    refine (CS.out _ (Keep.refl _)).mono ?_
    rintro e1 w1 ⟨rfl, k1⟩
    obtain ⟨a0, a1, a2, a3, a4, a5⟩ := (HE.out _ k1).six
    go_wp2_with fail
    refine (CR.out _ k1).mono ?_
    rintro e2 w2 ⟨rfl, k2⟩
    go_wp2_with fail
    refine (CFR.out _ (k1.trans k2)).mono ?_
    rintro e3 w3 ⟨rfl, k3⟩
    go_wp2_with fail
    refine (CW.out _).mono ?_
    rintro e9 w9 ⟨rfl, k9⟩
    go_wp2
    go_ret
    exact ⟨rfl, (((hkX.trans k1).trans k2).trans k3).trans k9⟩
  rw [hf] at CFR
  cases hg : fewB x
  · rw [hg] at CFF
    clear hs hr hf hg
    go_enter Try.func4, Try.ntmps4
    go_wp2_with fail
    rw [← hX]
    clear hX
    refine (CS.out _ (Keep.refl _)).mono ?_
    rintro e1 w1 ⟨rfl, k1⟩
    obtain ⟨a0, a1, a2, a3, a4, a5⟩ := (HE.out _ k1).six
    go_wp2_with fail
    refine (CR.out _ k1).mono ?_
    rintro e2 w2 ⟨rfl, k2⟩
    go_wp2_with fail
    refine (CFR.out _ (k1.trans k2)).mono ?_
    rintro e3 w3 ⟨rfl, k3⟩
    obtain ⟨b0, b1, b2, b3, b4, b5⟩ := (HF.out _ ((k1.trans k2).trans k3)).six
    go_wp2_with fail
    refine (CFF.out _).mono ?_
    rintro e4 w4 ⟨rfl, k4⟩
    go_wp2_with fail
    refine (CW.out _).mono ?_
    rintro e9 w9 ⟨rfl, k9⟩
    go_wp2
    go_ret
    exact ⟨rfl, ((((hkX.trans k1).trans k2).trans k3).trans k4).trans k9⟩
  rw [hg] at CFF
  have hx := fewB_fewF hg
  have hfl : ls.length ≤ 6 ∧ ∀ r ∈ ls, Tr.small r.when_ 4 = true := by
    unfold Tr.few at hf
    simp only [Bool.and_eq_true, decide_eq_true_eq, List.all_eq_true] at hf
    exact hf
  have hll := hfl.1
  have CRR := Lib.hid (fun (W : World) (r : RuleP) (RA' OA' : Option Addr) (rc' oc' : Nat) (hm : r ∈ ls) (hy : Ex W r.when_ RA' OA') => Tr.right_any (dp r.when_) r.when_ RA' OA' rc' oc' W (Nat.le_refl _) (small_fits (dp r.when_) r.when_ 4 (Nat.le_refl _) (hwR r hm).1 (hfl.2 r hm)).1 hy)
  have HOK := Lib.hid (fun (hall : (ls.all fun r => Tr.right r.when_) = true) (r : RuleP) (hm : r ∈ ls) => okX_of (hwR r hm).1 (hfl.2 r hm) (List.all_eq_true.1 hall r hm))
  clear hs hr hf hg hfl hwR hfit hw
  go_enter Try.func4, Try.ntmps4
  go_wp2_with fail
  rw [← hX]
  clear hX
  refine (CS.out _ (Keep.refl _)).mono ?_
  rintro e1 w1 ⟨rfl, k1⟩
  obtain ⟨a0, a1, a2, a3, a4, a5⟩ := (HE.out _ k1).six
  go_wp2_with fail
  refine (CR.out _ k1).mono ?_
  rintro e2 w2 ⟨rfl, k2⟩
  go_wp2_with fail
  refine (CFR.out _ (k1.trans k2)).mono ?_
  rintro e3 w3 ⟨rfl, k3⟩
  obtain ⟨b0, b1, b2, b3, b4, b5⟩ := (HF.out _ ((k1.trans k2).trans k3)).six
  go_wp2_with fail
  refine (CFF.out _).mono ?_
  rintro e4 w4 ⟨rfl, k4⟩
  have k14 := ((k1.trans k2).trans k3).trans k4
  clear k1 k2 k3 k4 a0 a1 a2 a3 a4 a5 b0 b1 b2 b3 b4 b5 CS CR CFR CFF
  go_wp2
  go_loopw [7] (fun iv wr => ∃ j : Nat, j ≤ ls.length ∧ iv = .int .i64 j ∧ Hid ((ls.take j).all (fun r => Tr.right r.when_) = true) ∧ Keep X wr) (fun iv _ => ls.length - (intOf iv).toNat)
  case atStart => exact ⟨0, Nat.zero_le _, rfl, rfl, k14⟩
  case round =>
    obtain ⟨j, hj, rfl, hall, hk⟩ := hrel
    by_cases hlt : j < ls.length
    · have hi1 : (j : Int) < ls.length := by omega
      have hj0 : (0 : Int) ≤ j := by omega
      have hOw := hRX.kept hk
      obtain ⟨b, off, rfl, _⟩ := hOw.addr (by omega)
      obtain ⟨hbb, RA', OA', rc', oc', ⟨r0, r1, r2, r3, r4, r5, r6, r7⟩, hy⟩ := hOw.elem j hlt
      have hm := getD_mem zeroR ls j hlt
      have HN := Lib.hid (all_snoc (fun r : RuleP => Tr.right r.when_) zeroR ls j hlt)
      obtain ⟨r, hu⟩ : ∃ r, ls.getD j zeroR = r := ⟨_, rfl⟩
      rw [hu] at r1 r2 r3 r4 r5 r6 hm HN hy
      have hC := CRR.out wr r RA' OA' rc' oc' hm hy
      obtain ⟨y, hwy⟩ : ∃ y, y = r.when_ := ⟨_, rfl⟩
      rw [← hwy] at r1 r2 r3 r4 r5 r6 hC HN
      clear r0 r7 hy hm hOw hu hwy
      cases hv : Tr.right y
      · rw [hv] at hC
        replace hC := Lib.hid hC
        clear hv HN hlt
        go_wp2_with fail
        refine hC.out.mono ?_
        rintro e5 w5 ⟨rfl, k5⟩
        go_wp2_with fail
        refine (CW.out _).mono ?_
        rintro e9 w9 ⟨rfl, k9⟩
        go_wp2
        go_ret
        exact ⟨rfl, ((hkX.trans hk).trans k5).trans k9⟩
      · rw [hv] at hC
        replace hC := Lib.hid hC
        have HFF := Lib.hid (show (ls.take (j + 1)).all (fun r => Tr.right r.when_) = true by rw [HN.out, hall.out]; exact hv)
        clear hv HN hlt
        go_wp2_with fail
        refine hC.out.mono ?_
        rintro e5 w5 ⟨rfl, k5⟩
        go_wp2
        go_roundw
        case rel => exact ⟨j + 1, by omega, by go_num, HFF, hk.trans k5⟩
        case measure => simp [intOf]; omega
    · obtain rfl : j = ls.length := by omega
      have hl := HOK.out (by have := hall.out; rwa [List.take_length] at this)
      have hC1 := fun p : KeptOf wr => (CW.out p.w).mono fun e w' h => (h : e = .returned (.bool true) ∧ Keep p.w w')
      have hC2 := fun p : KeptOf wr => holdsN x SA VA QA c1 c2 c3 h3 h3m hx (dp e) e RA OA rc oc p.w (Nat.le_refl _) hok.1 (hok.2.1 _) hok.2.2 (hEX.kept (hk.trans p.h)) (hFX.kept (hk.trans p.h))
      have hC3 := fun p : KeptOf wr => ref_holdsN x SA VA QA c1 c2 c3 h3 h3m hx (dp e) e RA OA rc oc p.w (Nat.le_refl _) hok.1 (hok.2.1 _) hok.2.2 (hEX.kept (hk.trans p.h)) (hFX.kept (hk.trans p.h))
      have hC4 := fun p : KeptOf wr => first_any A c ls x SA VA QA c1 c2 c3 p.w (by omega) (hRX.kept (hk.trans p.h)) hl h3 h3m hx (hFX.kept (hk.trans p.h))
      have hC5 := fun p : KeptOf wr => ref_first_any A c ls x SA VA QA c1 c2 c3 p.w (by omega) (hRX.kept (hk.trans p.h)) hl h3 h3m hx (hFX.kept (hk.trans p.h))
      generalize holds x e = v at hC2 hC3
      generalize first x ls = i at hC4 hC5
      have y0 := fun p : KeptOf wr => (HE.out _ (hk.trans p.h)).six.1
      have z0 := fun p : KeptOf wr => (HF.out _ (hk.trans p.h)).six.1
      have y1 := fun p : KeptOf wr => (HE.out _ (hk.trans p.h)).six.2.1
      have z1 := fun p : KeptOf wr => (HF.out _ (hk.trans p.h)).six.2.1
      have y2 := fun p : KeptOf wr => (HE.out _ (hk.trans p.h)).six.2.2.1
      have z2 := fun p : KeptOf wr => (HF.out _ (hk.trans p.h)).six.2.2.1
      have y3 := fun p : KeptOf wr => (HE.out _ (hk.trans p.h)).six.2.2.2.1
      have z3 := fun p : KeptOf wr => (HF.out _ (hk.trans p.h)).six.2.2.2.1
      have y4 := fun p : KeptOf wr => (HE.out _ (hk.trans p.h)).six.2.2.2.2.1
      have z4 := fun p : KeptOf wr => (HF.out _ (hk.trans p.h)).six.2.2.2.2.1
      have y5 := fun p : KeptOf wr => (HE.out _ (hk.trans p.h)).six.2.2.2.2.2
      have z5 := fun p : KeptOf wr => (HF.out _ (hk.trans p.h)).six.2.2.2.2.2
      clear hl hall hok hEX hFX hRX h3 h3m hx k14 CRR HOK HE HF
      cases v
      · go_wp2_with fail
        refine wp_region_kept (by kernel_rfl) (by kernel_rfl) ?_
        repeat (go_big_quiet_step (first | with_reducible exact KeptOf.of (hC1 _) | with_reducible exact KeptOf.of (hC2 _) | with_reducible exact KeptOf.of (hC3 _) | with_reducible exact KeptOf.of (hC4 _) | with_reducible exact KeptOf.of (hC5 _)))
        refine Go.wpQuiet_nil ?_
        intro _ hw'
        obtain ⟨⟨V, hw⟩, hw''⟩ := hw'
        subst hw''
        go_wp2
        go_ret
        exact ⟨rfl, (hkX.trans hk).trans hw⟩
      · go_wp2_with fail
        refine wp_region_kept (by kernel_rfl) (by kernel_rfl) ?_
        repeat (go_big_quiet_step (first | with_reducible exact KeptOf.of (hC1 _) | with_reducible exact KeptOf.of (hC2 _) | with_reducible exact KeptOf.of (hC3 _) | with_reducible exact KeptOf.of (hC4 _) | with_reducible exact KeptOf.of (hC5 _)))
        refine Go.wpQuiet_nil ?_
        intro _ hw'
        obtain ⟨⟨V, hw⟩, hw''⟩ := hw'
        subst hw''
        go_wp2
        go_ret
        exact ⟨rfl, (hkX.trans hk).trans hw⟩
end Go.Proofs.Ytnbjhcemonkhhaa.Mean
