/- Layer 15's law MeanFirst. Conditions: none beyond the law's own. -/
import Derived.Test.YtnbjhcemonkhhaaMeL2
import Derived.Test.YtnbjhcemonkhhaaRaw
import Derived.Deep.RegionHeld3
import Derived.Deep.Cut
namespace Go.Proofs.Ytnbjhcemonkhhaa.Mean
set_option linter.unusedVariables false
set_option linter.unusedSimpArgs false
set_option maxRecDepth 100000
open Go.ChangeShapes Go.WideShapes Go.ChangeAt Go.RowKit
open Tr (kind field rs lo hi of zero zeroR dp dp_of dp_pos Ex Exs ExIn ElemAt Rus RuleAt RulesIn ExprsIn wf fits wfR getD_mem all_snoc all_no ret_bool small_fits opens_expr)
open Fa (FaAt)
open Raw
open Me
def zr : RawR := ⟨zeroR, none, 0, none, 0⟩
/-- What the first one is, and what it is with one more behind. -/
theorem first_forms (x : FactsP) (ls : List RuleP) : (first x ls = -1 ∧ first x (ls ++ [zeroR]) = ls.length ∧ ∀ j, j < ls.length → holds x (ls.getD j zeroR).when_ = false) ∨
    ∃ k : Nat, k < ls.length ∧ first x ls = k ∧ first x (ls ++ [zeroR]) = k ∧ holds x (ls.getD k zeroR).when_ = true ∧ ∀ j, j < k → holds x (ls.getD j zeroR).when_ = false := by
  have hz : holds x zeroR.when_ = true := holds_zero x
  have happ := firstF_app x zeroR ls 0 (Int.le_refl 0) hz
  have hr := firstF_range x ls 0
  unfold first
  rcases hr with hr | ⟨h1, h2⟩
  · left
    rw [if_pos hr] at happ
    refine ⟨hr, by rw [happ]; omega, fun j hj => ?_⟩
    cases hh : holds x (ls.getD j zeroR).when_ with
    | false => rfl
    | true => exact absurd hr ((firstF_is x zeroR ls 0 j (Int.le_refl 0) hj).1 hh).1
  · right
    rw [if_neg (by omega)] at happ
    refine ⟨(firstF x ls 0).toNat, by omega, by omega, by omega, (firstF_is x zeroR ls 0 _ (Int.le_refl 0) (by omega)).2 (by omega), fun j hj => ?_⟩
    cases hh : holds x (ls.getD j zeroR).when_ with
    | false => rfl
    | true => 
      have := ((firstF_is x zeroR ls 0 j (Int.le_refl 0) (by omega)).1 hh).2
      omega
set_option maxHeartbeats 16000000 in
theorem firstlaw_any (A : Option Addr) (n c : Nat) (ls : List RuleP) (x : FactsP) (SA VA QA : Option Addr) (c1 c2 c3 : Nat) (w : World) (hR : RulesIn w A n ls) (hF : FIn w x SA VA QA c3) :
    Calls Try.prog 6 #[.slice A n c, .agg #[.int .i64 x.cl, .int .i64 x.un, .int .i64 x.fc, .slice SA x.sp.length c1, .slice VA x.vs.length c2, .slice QA x.rg.length c3]] w fun e' w' => e' = .returned (.bool true) ∧ Keep w w' := by
  obtain ⟨rfl, hRu, hwR⟩ := hR
  obtain ⟨hFa, h3, h3m⟩ := hF
  have CW := Lib.hid (fun W => awake_any W)
  obtain ⟨X, hX⟩ : ∃ X, X = w.alloc (.cells #[.int .i64 x.cl, .int .i64 x.un, .int .i64 x.fc, .slice SA x.sp.length c1, .slice VA x.vs.length c2, .slice QA x.rg.length c3] 36) := ⟨_, rfl⟩
  have hkX : Keep w X := by rw [hX]; exact (Keep.refl w).alloc _
  have bF : Bx X w.heap.size [.int .i64 x.cl, .int .i64 x.un, .int .i64 x.fc, .slice SA x.sp.length c1, .slice VA x.vs.length c2, .slice QA x.rg.length c3] := by rw [hX]; exact Bx.newq rfl
  have HF := Lib.hid (show ∀ W, Keep X W → Bx W w.heap.size [.int .i64 x.cl, .int .i64 x.un, .int .i64 x.fc, .slice SA x.sp.length c1, .slice VA x.vs.length c2, .slice QA x.rg.length c3] from fun W hk => bF.kept hk)
  have hFX := hFa.kept hkX
  have hRX := hRu.kept hkX
  have CFR := Lib.hid (fun W (hk : Keep X W) => Tr.few_any A c ls 6 W (by omega) (hRX.kept hk))
  have CFF := Lib.hid (fun W => few_any x SA VA QA c1 c2 c3 W)
  clear bF hFa hRu
  cases hf : Tr.few ls 6
  · rw [hf] at CFR
    clear hf
    go_enter Try.func6, Try.ntmps6
    go_wp2_with fail
    rw [← hX]
    clear hX
    refine (CFR.out _ (Keep.refl _)).mono ?_
    rintro e3 w3 ⟨rfl, k3⟩
    go_wp2_with fail
    refine (CW.out _).mono ?_
    rintro e9 w9 ⟨rfl, k9⟩
    go_wp2
    go_ret
    exact ⟨rfl, (hkX.trans k3).trans k9⟩
  rw [hf] at CFR
  cases hg : fewB x
  · rw [hg] at CFF
    clear hf hg
    go_enter Try.func6, Try.ntmps6
    go_wp2_with fail
    rw [← hX]
    clear hX
    refine (CFR.out _ (Keep.refl _)).mono ?_
    rintro e3 w3 ⟨rfl, k3⟩
    obtain ⟨b0, b1, b2, b3, b4, b5⟩ := (HF.out _ k3).six
    go_wp2_with fail
    refine (CFF.out _).mono ?_
    rintro e4 w4 ⟨rfl, k4⟩
    go_wp2_with fail
    refine (CW.out _).mono ?_
    rintro e9 w9 ⟨rfl, k9⟩
    go_wp2
    go_ret
    exact ⟨rfl, ((hkX.trans k3).trans k4).trans k9⟩
  rw [hg] at CFF
  have hx := fewB_fewF hg
  have hfl : ls.length ≤ 6 ∧ ∀ r ∈ ls, Tr.small r.when_ 4 = true := by
    unfold Tr.few at hf
    simp only [Bool.and_eq_true, decide_eq_true_eq, List.all_eq_true] at hf
    exact hf
  have hll := hfl.1
  have CRR := Lib.hid (fun (W : World) (r : RuleP) (RA' OA' : Option Addr) (rc' oc' : Nat) (hm : r ∈ ls) (hy : Ex W r.when_ RA' OA') => Tr.right_any (dp r.when_) r.when_ RA' OA' rc' oc' W (Nat.le_refl _) (small_fits (dp r.when_) r.when_ 4 (Nat.le_refl _) (hwR r hm).1 (hfl.2 r hm)).1 hy)
  have HOK := Lib.hid (fun (hall : (ls.all fun r => Tr.right r.when_) = true) (r : RuleP) (hm : r ∈ ls) => okX_of (hwR r hm).1 (hfl.2 r hm) (List.all_eq_true.1 hall r hm))
  clear hf hg hfl hwR
  go_enter Try.func6, Try.ntmps6
  go_wp2_with fail
  rw [← hX]
  clear hX
  refine (CFR.out _ (Keep.refl _)).mono ?_
  rintro e3 w3 ⟨rfl, k3⟩
  obtain ⟨b0, b1, b2, b3, b4, b5⟩ := (HF.out _ k3).six
  go_wp2_with fail
  refine (CFF.out _).mono ?_
  rintro e4 w4 ⟨rfl, k4⟩
  have k14 := k3.trans k4
  clear k3 k4 b0 b1 b2 b3 b4 b5 CFR CFF
  go_wp2
  go_loopw [5] (fun iv wr => ∃ j : Nat, j ≤ ls.length ∧ iv = .int .i64 j ∧ Hid ((ls.take j).all (fun r => Tr.right r.when_) = true) ∧ Keep X wr) (fun iv _ => ls.length - (intOf iv).toNat)
  case atStart => exact ⟨0, Nat.zero_le _, rfl, rfl, k14⟩
  case round =>
    obtain ⟨j, hj, rfl, hall, hk⟩ := hrel
    by_cases hlt : j < ls.length
    · have hi1 : (j : Int) < ls.length := by omega
      have hj0 : (0 : Int) ≤ j := by omega
      have hOw := hRX.kept hk
      obtain ⟨b, off, rfl, _⟩ := hOw.addr (by omega)
      obtain ⟨hbb, RA', OA', rc', oc', ⟨r0, r1, r2, r3, r4, r5, r6, r7⟩, hy⟩ := hOw.elem j hlt
      have hm := getD_mem zeroR ls j hlt
      have HN := Lib.hid (all_snoc (fun r : RuleP => Tr.right r.when_) zeroR ls j hlt)
      obtain ⟨r, hu⟩ : ∃ r, ls.getD j zeroR = r := ⟨_, rfl⟩
      rw [hu] at r1 r2 r3 r4 r5 r6 hm HN hy
      have hC := CRR.out wr r RA' OA' rc' oc' hm hy
      obtain ⟨y, hwy⟩ : ∃ y, y = r.when_ := ⟨_, rfl⟩
      rw [← hwy] at r1 r2 r3 r4 r5 r6 hC HN
      clear r0 r7 hy hm hOw hu hwy
      cases hv : Tr.right y
      · rw [hv] at hC
        replace hC := Lib.hid hC
        clear hv HN hlt
        go_wp2_with fail
        refine hC.out.mono ?_
        rintro e5 w5 ⟨rfl, k5⟩
        go_wp2_with fail
        refine (CW.out _).mono ?_
        rintro e9 w9 ⟨rfl, k9⟩
        go_wp2
        go_ret
        exact ⟨rfl, ((hkX.trans hk).trans k5).trans k9⟩
      · rw [hv] at hC
        replace hC := Lib.hid hC
        have HFF := Lib.hid (show (ls.take (j + 1)).all (fun r => Tr.right r.when_) = true by rw [HN.out, hall.out]; exact hv)
        clear hv HN hlt
        go_wp2_with fail
        refine hC.out.mono ?_
        rintro e5 w5 ⟨rfl, k5⟩
        go_wp2
        go_roundw
        case rel => exact ⟨j + 1, by omega, by go_num, HFF, hk.trans k5⟩
        case measure => simp [intOf]; omega
    · obtain rfl : j = ls.length := by omega
      have hl := HOK.out (by have := hall.out; rwa [List.take_length] at this)
      clear hall CRR HOK k14
      have CF1 := Lib.hid (fun W (hk : Keep X W) => first_any A c ls x SA VA QA c1 c2 c3 W (by omega) (hRX.kept hk) hl h3 h3m hx (hFX.kept hk))
      have CHo := Lib.hid (fun (W : World) (r : RuleP) (RA' OA' : Option Addr) (rc' oc' : Nat) (hk : Keep X W) (hm : r ∈ ls) (hy : Ex W r.when_ RA' OA') => holdsN x SA VA QA c1 c2 c3 h3 h3m hx (dp r.when_) r.when_ RA' OA' rc' oc' W (Nat.le_refl _) (hl r hm).1 ((hl r hm).2.1 _) (hl r hm).2.2 hy (hFX.kept hk))
      have CF2 := Lib.hid (fun (W : World) (A' : Option Addr) (c' : Nat) (hk : Keep X W) (hR' : Rus W A' (ls ++ [zeroR])) => first_any A' c' (ls ++ [zeroR]) x SA VA QA c1 c2 c3 W (by rw [List.length_append]; simp; omega) hR' (fun r hr => by
        rcases List.mem_append.1 hr with hr | hr
        · exact hl r hr
        · simp at hr; subst hr; exact okZ) h3 h3m hx (hFX.kept hk))
      have HFM := Lib.hid (first_forms x ls)
      clear hl hFX h3 h3m hx
      obtain ⟨b0, b1, b2, b3, b4, b5⟩ := (HF.out _ hk).six
      rcases HFM.out with ⟨h1, h2, h4⟩ | ⟨k, hkl, h1, h2, h3, h4⟩
      · have CF1 := CF1.out _ hk
        rw [h1] at CF1
        replace CF1 := Lib.hid CF1
        have CF2 := Lib.hid (fun (W : World) (A' : Option Addr) (c' : Nat) (hk : Keep X W) (hR' : Rus W A' (ls ++ [zeroR])) => (by have := CF2.out W A' c' hk hR'; rwa [h2] at this : Calls Try.prog 24 #[.slice A' (ls ++ [zeroR]).length c', .agg #[.int .i64 x.cl, .int .i64 x.un, .int .i64 x.fc, .slice SA x.sp.length c1, .slice VA x.vs.length c2, .slice QA x.rg.length c3]] W fun e' w' => e' = .returned (.int .i64 (ls.length : Int)) ∧ Keep W w'))
        clear h1 h2
        have g2 : decide ((-1 : Int) ≥ (ls.length : Int)) = false := by first | (simp; done) | (simp; omega)
        go_wp2_with fail
        refine CF1.out.mono ?_
        rintro e5 w5 ⟨rfl, k5⟩
        have k15 := hk.trans k5
        clear b0 b1 b2 b3 b4 b5 k5
        go_wp2
        go_loopw [7, 8] (fun iv hv wr => ∃ j : Nat, j ≤ ls.length ∧ iv = .int .i64 j ∧ Keep X wr) (fun iv _ _ => ls.length - (intOf iv).toNat)
        case atStart => exact ⟨0, Nat.zero_le _, rfl, k15⟩
        case round =>
          obtain ⟨i, hi, rfl, hk2⟩ := hrel
          by_cases hlt : i < ls.length
          · have hi1 : (i : Int) < ls.length := by omega
            have hi0 : (0 : Int) ≤ i := by omega
            have hOw := hRX.kept hk2
            obtain ⟨b, off, rfl, _⟩ := hOw.addr (by omega)
            obtain ⟨hbb, RA', OA', rc', oc', hx11, hy⟩ := hOw.elem i hlt
            have he := fun p : KeptOf wr => hx11.kept hbb p.h
            have hm := getD_mem zeroR ls i hlt
            have HVV := Lib.hid (h4 i hlt)
            obtain ⟨r, hu⟩ : ∃ r, ls.getD i zeroR = r := ⟨_, rfl⟩
            rw [hu] at he hm hy HVV
            obtain ⟨y, hwy⟩ : ∃ y, y = r.when_ := ⟨_, rfl⟩
            have x0 := fun p : KeptOf wr => (he p).2.1
            have x1 := fun p : KeptOf wr => (he p).2.2.1
            have x2 := fun p : KeptOf wr => (he p).2.2.2.1
            have x3 := fun p : KeptOf wr => (he p).2.2.2.2.1
            have x4 := fun p : KeptOf wr => (he p).2.2.2.2.2.1
            have x5 := fun p : KeptOf wr => (he p).2.2.2.2.2.2.1
            have g0 := fun p : KeptOf wr => (HF.out _ (hk2.trans p.h)).six
            have f0 := fun p => (g0 p).1
            have f1 := fun p => (g0 p).2.1
            have f2 := fun p => (g0 p).2.2.1
            have f3 := fun p => (g0 p).2.2.2.1
            have f4 := fun p => (g0 p).2.2.2.2.1
            have f5 := fun p => (g0 p).2.2.2.2.2
            have hC := fun p : KeptOf wr => CHo.out p.w r RA' OA' rc' oc' (hk2.trans p.h) hm (hy.kept p.h)
            rw [← hwy] at x0 x1 x2 x3 x4 x5 hC HVV
            clear he hx11 hy hm hOw hwy hu g0 hbb
            rw [HVV.out] at hC
            have q1 : ((i : Int) == -1) = false := by first | (simp; done) | (simp; omega)
            clear hlt
            go_wp2
            refine wp_region_kept (by kernel_rfl) (by kernel_rfl) ?_
            repeat (go_big_quiet_step (first | with_reducible exact KeptOf.of (hC _)))
            refine Go.wpQuiet_nil ?_
            intro _ hw'
            obtain ⟨⟨V, hw⟩, hw''⟩ := hw'
            subst hw''
            go_wp2
            go_roundw
            case rel => exact ⟨i + 1, by omega, by go_num, hk2.trans hw⟩
            case measure => simp [intOf]; omega
          · obtain rfl : i = ls.length := by omega
            have hRw := hRX.kept hk2
            obtain ⟨raws, hmap, hrow, hex⟩ := raws_of hRw
            have hn6 : ls.length ≤ 6 := hll
            have CF3 := Lib.hid (fun (W : World) (v : Value) (hk : Keep wr W) (hown : W.ownsRow wr.heap.size 52 11 v (ls.length + 1) (flat encR (raws ++ [zr]))) => (by
              obtain ⟨A6, c6, rfl⟩ := own_slice hown
              have hr := Row.of_own encR_len hown (by omega)
              have hR' : Rus W A6 (ls ++ [zeroR]) := by
                have := rus_of hr (fun y hy => by
                  rcases List.mem_append.1 hy with hy | hy
                  · exact (hex y hy).kept hk
                  · simp at hy; subst hy; exact ex_zero _)
                rw [List.map_append, hmap] at this
                exact this
              have h := CF2.out W A6 c6 (hk2.trans hk) hR'
              rw [List.length_append] at h
              exact ⟨A6, c6, rfl, h⟩ : ∃ A6 c6, v = .slice A6 (ls.length + 1) c6 ∧ Calls Try.prog 24 #[.slice A6 (ls.length + 1) c6, .agg #[.int .i64 x.cl, .int .i64 x.un, .int .i64 x.fc, .slice SA x.sp.length c1, .slice VA x.vs.length c2, .slice QA x.rg.length c3]] W fun e' w' => e' = .returned (.int .i64 (ls.length : Int)) ∧ Keep W w'))
            have hR0 : ∀ W, Keep wr W → Row encR 11 W W.heap.size A ls.length raws := fun W h => hrow.kept h
            have hS : ∀ W, Keep wr W → W.cell? ⟨w.heap.size, 0, none⟩ = some (.int .i64 x.cl) ∧ W.cell? ⟨w.heap.size, 1, none⟩ = some (.int .i64 x.un) ∧ W.cell? ⟨w.heap.size, 2, none⟩ = some (.int .i64 x.fc) ∧ W.cell? ⟨w.heap.size, 3, none⟩ = some (.slice SA x.sp.length c1) ∧ W.cell? ⟨w.heap.size, 4, none⟩ = some (.slice VA x.vs.length c2) ∧ W.cell? ⟨w.heap.size, 5, none⟩ = some (.slice QA x.rg.length c3) := fun W h => (HF.out _ (hk2.trans h)).six
            clear hrow hRw
            have hO0 : ∀ W, Keep wr W → (W.alloc (.cells #[] 52)).ownsRow wr.heap.size 52 11 (.slice (some ⟨W.heap.size, 0, none⟩) 0 0) 0 (flat encR []) := fun W h => World.ownsRow_lit W #[] 0 h.size (Nat.zero_le _) rfl
            have kX := Keep.refl wr
            have kD := keep_drew (Keep.refl wr)
            have hN : ∀ W : World, Row encR 11 (W.alloc (.cells #[.bool false, .int .i64 0, .int .i64 0, .slice none 0 0, .float .f64 0, .float .f64 0, .slice none 0 0, .int .i64 0, .int .i64 0, .int .i64 0, .int .i64 0] 52)) (W.heap.size + 1) (some ⟨W.heap.size, 0, none⟩) 1 [zr] := fun W => Row.new encR_len W 52 [zr] #[.bool false, .int .i64 0, .int .i64 0, .slice none 0 0, .float .f64 0, .float .f64 0, .slice none 0 0, .int .i64 0, .int .i64 0, .int .i64 0, .int .i64 0] rfl
            have hNbD : Row encR 11 ((wr.drew.alloc (.cells #[] 52)).alloc (.cells #[.bool false, .int .i64 0, .int .i64 0, .slice none 0 0, .float .f64 0, .float .f64 0, .slice none 0 0, .int .i64 0, .int .i64 0, .int .i64 0, .int .i64 0] 52)) (wr.heap.size + 2) (some ⟨wr.heap.size + 1, 0, none⟩) 1 [zr] := (by simpa using hN (wr.drew.alloc (.cells #[] 52)))
            have hNcD : Row encR 11 ((wr.drew.alloc (.cells #[.bool false, .int .i64 0, .int .i64 0, .slice none 0 0, .float .f64 0, .float .f64 0, .slice none 0 0, .int .i64 0, .int .i64 0, .int .i64 0, .int .i64 0] 52)).alloc (.cells #[] 52)) (wr.heap.size + 1) (some ⟨wr.heap.size, 0, none⟩) 1 [zr] := (hN wr.drew).below ((Below.refl _ _).alloc (by simp) _)
            have hOa : (wr.drew.alloc (.cells #[] 52)).ownsRow wr.heap.size 52 11 (.slice (some ⟨wr.heap.size, 0, none⟩) 0 0) 0 (flat encR []) := hO0 wr.drew kD
            have hOc : ((wr.drew.alloc (.cells #[.bool false, .int .i64 0, .int .i64 0, .slice none 0 0, .float .f64 0, .float .f64 0, .slice none 0 0, .int .i64 0, .int .i64 0, .int .i64 0, .int .i64 0] 52)).alloc (.cells #[] 52)).ownsRow wr.heap.size 52 11 (.slice (some ⟨wr.heap.size + 1, 0, none⟩) 0 0) 0 (flat encR []) := (by simpa using hO0 (wr.drew.alloc (.cells #[.bool false, .int .i64 0, .int .i64 0, .slice none 0 0, .float .f64 0, .float .f64 0, .slice none 0 0, .int .i64 0, .int .i64 0, .int .i64 0, .int .i64 0] 52)) (kD.alloc _))
            go_wp2_with fail
            go_cut [9] from 76 (fun mv W => mv = .int .i64 (ls.length : Int) ∧ Keep wr W)
            case first =>
              go_region_held3 (fun W => W.cell? ⟨w.heap.size, 0, none⟩ = some (.int .i64 x.cl) ∧ W.cell? ⟨w.heap.size, 1, none⟩ = some (.int .i64 x.un) ∧ W.cell? ⟨w.heap.size, 2, none⟩ = some (.int .i64 x.fc) ∧ W.cell? ⟨w.heap.size, 3, none⟩ = some (.slice SA x.sp.length c1) ∧ W.cell? ⟨w.heap.size, 4, none⟩ = some (.slice VA x.vs.length c2) ∧ W.cell? ⟨w.heap.size, 5, none⟩ = some (.slice QA x.rg.length c3))
                (first
                  | exact hS _ hw7
                  | exact hS _ hw6
                  | exact hS _ (hw5.alloc _)
                  | exact hS _ hw5
                  | exact hS _ kX
                  | exact hS _ kD
                  | exact hS _ (kD.alloc _)
                  | exact hS _ ((kD.alloc _).alloc _)
                  | exact hS _ (kX.alloc _)
                  | exact hS _ ((kX.alloc _).alloc _)
                  | fail)
                ((first
                  | (go_at_call 24; refine (hC6).mono ?_; rintro e w7 ⟨rfl, k7⟩; have hw7 := Keep.trans hw6 k7)
                  | (refine step_append_rows (by rfl) _ _ 44 (by rfl) wr.heap.size 52 _ 120 Try.underlying44 info_rule rfl (by omega) encR_len encR_one _ ls.length raws (by rfl) (hown5.alloc _) (by first | omega | (simp; done) | (simp; omega)) _ (some ⟨w5.heap.size, 0, none⟩) 1 1 [zr] (by rfl) (hN w5) (by unfold maxLen; omega) (by omega) ?_; intro v6 w6 hown6 hg6 hat6 hb6; have hw6 : Keep wr w6 := Below.trans (hw5.alloc _) hb6; obtain ⟨A6, c6, rfl, hC6⟩ := CF3.out _ _ hw6 hown6)
                  | (refine step_append_rows (by rfl) _ _ 44 (by rfl) wr.heap.size 52 _ 120 Try.underlying44 info_rule rfl (by omega) encR_len encR_one _ ls.length raws (by rfl) (hown5) (by first | omega | (simp; done) | (simp; omega)) _ _ 1 1 [zr] (by rfl) (hx5) (by unfold maxLen; omega) (by omega) ?_; intro v6 w6 hown6 hg6 hat6 hb6; have hw6 : Keep wr w6 := Below.trans (hw5) hb6; obtain ⟨A6, c6, rfl, hC6⟩ := CF3.out _ _ hw6 hown6)
                  | (refine step_append_rows (by rfl) _ _ 44 (by rfl) wr.heap.size 52 _ 120 Try.underlying44 info_rule rfl (by omega) encR_len encR_one _ 0 [] (by rfl) (hOa) (by first | omega | (simp; done) | (simp; omega)) _ A ls.length c raws (by rfl) (hR0 _ (kD.alloc _)) (by unfold maxLen; omega) (by omega) ?_; intro v5 w5 hown5 hg5 hat5 hb5; have hw5 : Keep wr w5 := Below.trans (kD.alloc _) hb5; have hs5 := hw5.size; replace hown5 : w5.ownsRow wr.heap.size 52 11 v5 ls.length (flat encR raws) := (by simpa using hown5))
                  | (refine step_append_rows (by rfl) _ _ 44 (by rfl) wr.heap.size 52 _ 120 Try.underlying44 info_rule rfl (by omega) encR_len encR_one _ 0 [] (by rfl) (hOa.alloc _) (by first | omega | (simp; done) | (simp; omega)) _ A ls.length c raws (by rfl) (hR0 _ ((kD.alloc _).alloc _)) (by unfold maxLen; omega) (by omega) ?_; intro v5 w5 hown5 hg5 hat5 hb5; have hw5 : Keep wr w5 := Below.trans ((kD.alloc _).alloc _) hb5; have hs5 := hw5.size; replace hown5 : w5.ownsRow wr.heap.size 52 11 v5 ls.length (flat encR raws) := (by simpa using hown5); have hx5 := Row.far hNbD hg5 (by first | (simp; done) | (simp; omega)) (by simp [Value.ownBlock]))
                  | (refine step_append_rows (by rfl) _ _ 44 (by rfl) wr.heap.size 52 _ 120 Try.underlying44 info_rule rfl (by omega) encR_len encR_one _ 0 [] (by rfl) (hOc) (by first | omega | (simp; done) | (simp; omega)) _ A ls.length c raws (by rfl) (hR0 _ ((kD.alloc _).alloc _)) (by unfold maxLen; omega) (by omega) ?_; intro v5 w5 hown5 hg5 hat5 hb5; have hw5 : Keep wr w5 := Below.trans ((kD.alloc _).alloc _) hb5; have hs5 := hw5.size; replace hown5 : w5.ownsRow wr.heap.size 52 11 v5 ls.length (flat encR raws) := (by simpa using hown5); have hx5 := Row.far hNcD hg5 (by first | (simp; done) | (simp; omega)) (by simp [Value.ownBlock]))
                  | fail))
              all_goals (
                go_wp2_with fail
                go_meet
                exact ⟨rfl, hw7⟩)
            case rest =>
              obtain ⟨rfl, kZ⟩ := hcut
              go_wp2_with fail
              refine (CW.out _).mono ?_
              rintro e8 w8 ⟨rfl, k8⟩
              go_wp2
              go_ret
              exact ⟨rfl, ((hkX.trans hk2).trans kZ).trans k8⟩
      · have CF1 := CF1.out _ hk
        rw [h1] at CF1
        replace CF1 := Lib.hid CF1
        have CF2 := Lib.hid (fun (W : World) (A' : Option Addr) (c' : Nat) (hk : Keep X W) (hR' : Rus W A' (ls ++ [zeroR])) => (by have := CF2.out W A' c' hk hR'; rwa [h2] at this : Calls Try.prog 24 #[.slice A' (ls ++ [zeroR]).length c', .agg #[.int .i64 x.cl, .int .i64 x.un, .int .i64 x.fc, .slice SA x.sp.length c1, .slice VA x.vs.length c2, .slice QA x.rg.length c3]] W fun e' w' => e' = .returned (.int .i64 (k : Int)) ∧ Keep W w'))
        clear h1 h2
        have g1 : decide ((k : Int) < -1) = false := by first | (simp; done) | (simp; omega)
        have g2 : decide ((k : Int) ≥ (ls.length : Int)) = false := by first | (simp; done) | (simp; omega)
        have g3 : decide ((k : Int) < 0) = false := by first | (simp; done) | (simp; omega)
        have g5 : decide (ls.length ≤ k) = false := by first | (simp; done) | (simp; omega)
        have g6 : decide (k < ls.length) = true := by first | (simp; done) | (simp; omega)
        have g4 : decide ((k : Int) ≥ 0) = true := by first | (simp; done) | (simp; omega)
        have HKL := Lib.hid hkl
        clear hkl
        go_wp2_with fail
        refine CF1.out.mono ?_
        rintro e5 w5 ⟨rfl, k5⟩
        have k15 := hk.trans k5
        clear b0 b1 b2 b3 b4 b5 k5
        go_wp2
        go_loopw [7, 8] (fun iv hv wr => ∃ j : Nat, j ≤ ls.length ∧ iv = .int .i64 j ∧ Keep X wr) (fun iv _ _ => ls.length - (intOf iv).toNat)
        case atStart => exact ⟨0, Nat.zero_le _, rfl, k15⟩
        case round =>
          obtain ⟨i, hi, rfl, hk2⟩ := hrel
          by_cases hlt : i < ls.length
          · have hi1 : (i : Int) < ls.length := by omega
            have hi0 : (0 : Int) ≤ i := by omega
            have hOw := hRX.kept hk2
            obtain ⟨b, off, rfl, _⟩ := hOw.addr (by omega)
            obtain ⟨hbb, RA', OA', rc', oc', hx11, hy⟩ := hOw.elem i hlt
            have he := fun p : KeptOf wr => hx11.kept hbb p.h
            have hm := getD_mem zeroR ls i hlt
            have HVV := Lib.hid ((⟨fun e => by subst e; exact h3, h4 i⟩ : (i = k → holds x (ls.getD i zeroR).when_ = true) ∧ (i < k → holds x (ls.getD i zeroR).when_ = false)))
            obtain ⟨r, hu⟩ : ∃ r, ls.getD i zeroR = r := ⟨_, rfl⟩
            rw [hu] at he hm hy HVV
            obtain ⟨y, hwy⟩ : ∃ y, y = r.when_ := ⟨_, rfl⟩
            have x0 := fun p : KeptOf wr => (he p).2.1
            have x1 := fun p : KeptOf wr => (he p).2.2.1
            have x2 := fun p : KeptOf wr => (he p).2.2.2.1
            have x3 := fun p : KeptOf wr => (he p).2.2.2.2.1
            have x4 := fun p : KeptOf wr => (he p).2.2.2.2.2.1
            have x5 := fun p : KeptOf wr => (he p).2.2.2.2.2.2.1
            have g0 := fun p : KeptOf wr => (HF.out _ (hk2.trans p.h)).six
            have f0 := fun p => (g0 p).1
            have f1 := fun p => (g0 p).2.1
            have f2 := fun p => (g0 p).2.2.1
            have f3 := fun p => (g0 p).2.2.2.1
            have f4 := fun p => (g0 p).2.2.2.2.1
            have f5 := fun p => (g0 p).2.2.2.2.2
            have hC := fun p : KeptOf wr => CHo.out p.w r RA' OA' rc' oc' (hk2.trans p.h) hm (hy.kept p.h)
            rw [← hwy] at x0 x1 x2 x3 x4 x5 hC HVV
            clear he hx11 hy hm hOw hwy hu g0 hbb
            by_cases hik : i = k
            · have q1 : ((i : Int) == (k : Int)) = true := by subst hik; simp
              have q2 : decide ((i : Int) < (k : Int)) = false := by simp; omega
              have q3 : decide (i < k) = false := by simp; omega
              have q4 : (i == k) = true := by simpa using hik
              rw [HVV.out.1 hik] at hC
              clear hlt hik
              go_wp2
              refine wp_region_kept (by kernel_rfl) (by kernel_rfl) ?_
              repeat (go_big_quiet_step (first | with_reducible exact KeptOf.of (hC _)))
              refine Go.wpQuiet_nil ?_
              intro _ hw'
              obtain ⟨⟨V, hw⟩, hw''⟩ := hw'
              subst hw''
              go_wp2
              go_roundw
              case rel => exact ⟨i + 1, by omega, by go_num, hk2.trans hw⟩
              case measure => simp [intOf]; omega
            · have q1 : ((i : Int) == (k : Int)) = false := by first | (simp; done) | (simp; omega)
              have q4 : (i == k) = false := by simpa using hik
              by_cases hjk : i < k
              · have q2 : decide ((i : Int) < (k : Int)) = true := by simp; omega
                have q3 : decide (i < k) = true := by simp; omega
                rw [HVV.out.2 hjk] at hC
                clear hlt hik hjk
                go_wp2
                refine wp_region_kept (by kernel_rfl) (by kernel_rfl) ?_
                repeat (go_big_quiet_step (first | with_reducible exact KeptOf.of (hC _)))
                refine Go.wpQuiet_nil ?_
                intro _ hw'
                obtain ⟨⟨V, hw⟩, hw''⟩ := hw'
                subst hw''
                go_wp2
                go_roundw
                case rel => exact ⟨i + 1, by omega, by go_num, hk2.trans hw⟩
                case measure => simp [intOf]; omega
              · have q2 : decide ((i : Int) < (k : Int)) = false := by simp; omega
                have q3 : decide (i < k) = false := by simp; omega
                clear hlt hik hjk
                generalize holds x y = v at hC
                cases v
                · go_wp2
                  refine wp_region_kept (by kernel_rfl) (by kernel_rfl) ?_
                  repeat (go_big_quiet_step (first | with_reducible exact KeptOf.of (hC _)))
                  refine Go.wpQuiet_nil ?_
                  intro _ hw'
                  obtain ⟨⟨V, hw⟩, hw''⟩ := hw'
                  subst hw''
                  go_wp2
                  go_roundw
                  case rel => exact ⟨i + 1, by omega, by go_num, hk2.trans hw⟩
                  case measure => simp [intOf]; omega
                · go_wp2
                  refine wp_region_kept (by kernel_rfl) (by kernel_rfl) ?_
                  repeat (go_big_quiet_step (first | with_reducible exact KeptOf.of (hC _)))
                  refine Go.wpQuiet_nil ?_
                  intro _ hw'
                  obtain ⟨⟨V, hw⟩, hw''⟩ := hw'
                  subst hw''
                  go_wp2
                  go_roundw
                  case rel => exact ⟨i + 1, by omega, by go_num, hk2.trans hw⟩
                  case measure => simp [intOf]; omega
          · obtain rfl : i = ls.length := by omega
            have hRw := hRX.kept hk2
            obtain ⟨raws, hmap, hrow, hex⟩ := raws_of hRw
            have hn6 : ls.length ≤ 6 := hll
            have CF3 := Lib.hid (fun (W : World) (v : Value) (hk : Keep wr W) (hown : W.ownsRow wr.heap.size 52 11 v (ls.length + 1) (flat encR (raws ++ [zr]))) => (by
              obtain ⟨A6, c6, rfl⟩ := own_slice hown
              have hr := Row.of_own encR_len hown (by omega)
              have hR' : Rus W A6 (ls ++ [zeroR]) := by
                have := rus_of hr (fun y hy => by
                  rcases List.mem_append.1 hy with hy | hy
                  · exact (hex y hy).kept hk
                  · simp at hy; subst hy; exact ex_zero _)
                rw [List.map_append, hmap] at this
                exact this
              have h := CF2.out W A6 c6 (hk2.trans hk) hR'
              rw [List.length_append] at h
              exact ⟨A6, c6, rfl, h⟩ : ∃ A6 c6, v = .slice A6 (ls.length + 1) c6 ∧ Calls Try.prog 24 #[.slice A6 (ls.length + 1) c6, .agg #[.int .i64 x.cl, .int .i64 x.un, .int .i64 x.fc, .slice SA x.sp.length c1, .slice VA x.vs.length c2, .slice QA x.rg.length c3]] W fun e' w' => e' = .returned (.int .i64 (k : Int)) ∧ Keep W w'))
            have hR0 : ∀ W, Keep wr W → Row encR 11 W W.heap.size A ls.length raws := fun W h => hrow.kept h
            have hS : ∀ W, Keep wr W → W.cell? ⟨w.heap.size, 0, none⟩ = some (.int .i64 x.cl) ∧ W.cell? ⟨w.heap.size, 1, none⟩ = some (.int .i64 x.un) ∧ W.cell? ⟨w.heap.size, 2, none⟩ = some (.int .i64 x.fc) ∧ W.cell? ⟨w.heap.size, 3, none⟩ = some (.slice SA x.sp.length c1) ∧ W.cell? ⟨w.heap.size, 4, none⟩ = some (.slice VA x.vs.length c2) ∧ W.cell? ⟨w.heap.size, 5, none⟩ = some (.slice QA x.rg.length c3) := fun W h => (HF.out _ (hk2.trans h)).six
            clear hrow hRw
            have hO0 : ∀ W, Keep wr W → (W.alloc (.cells #[] 52)).ownsRow wr.heap.size 52 11 (.slice (some ⟨W.heap.size, 0, none⟩) 0 0) 0 (flat encR []) := fun W h => World.ownsRow_lit W #[] 0 h.size (Nat.zero_le _) rfl
            have kX := Keep.refl wr
            have kD := keep_drew (Keep.refl wr)
            have hN : ∀ W : World, Row encR 11 (W.alloc (.cells #[.bool false, .int .i64 0, .int .i64 0, .slice none 0 0, .float .f64 0, .float .f64 0, .slice none 0 0, .int .i64 0, .int .i64 0, .int .i64 0, .int .i64 0] 52)) (W.heap.size + 1) (some ⟨W.heap.size, 0, none⟩) 1 [zr] := fun W => Row.new encR_len W 52 [zr] #[.bool false, .int .i64 0, .int .i64 0, .slice none 0 0, .float .f64 0, .float .f64 0, .slice none 0 0, .int .i64 0, .int .i64 0, .int .i64 0, .int .i64 0] rfl
            have hNbD : Row encR 11 ((wr.drew.alloc (.cells #[] 52)).alloc (.cells #[.bool false, .int .i64 0, .int .i64 0, .slice none 0 0, .float .f64 0, .float .f64 0, .slice none 0 0, .int .i64 0, .int .i64 0, .int .i64 0, .int .i64 0] 52)) (wr.heap.size + 2) (some ⟨wr.heap.size + 1, 0, none⟩) 1 [zr] := (by simpa using hN (wr.drew.alloc (.cells #[] 52)))
            have hNcD : Row encR 11 ((wr.drew.alloc (.cells #[.bool false, .int .i64 0, .int .i64 0, .slice none 0 0, .float .f64 0, .float .f64 0, .slice none 0 0, .int .i64 0, .int .i64 0, .int .i64 0, .int .i64 0] 52)).alloc (.cells #[] 52)) (wr.heap.size + 1) (some ⟨wr.heap.size, 0, none⟩) 1 [zr] := (hN wr.drew).below ((Below.refl _ _).alloc (by simp) _)
            have hOa : (wr.drew.alloc (.cells #[] 52)).ownsRow wr.heap.size 52 11 (.slice (some ⟨wr.heap.size, 0, none⟩) 0 0) 0 (flat encR []) := hO0 wr.drew kD
            have hOc : ((wr.drew.alloc (.cells #[.bool false, .int .i64 0, .int .i64 0, .slice none 0 0, .float .f64 0, .float .f64 0, .slice none 0 0, .int .i64 0, .int .i64 0, .int .i64 0, .int .i64 0] 52)).alloc (.cells #[] 52)).ownsRow wr.heap.size 52 11 (.slice (some ⟨wr.heap.size + 1, 0, none⟩) 0 0) 0 (flat encR []) := (by simpa using hO0 (wr.drew.alloc (.cells #[.bool false, .int .i64 0, .int .i64 0, .slice none 0 0, .float .f64 0, .float .f64 0, .slice none 0 0, .int .i64 0, .int .i64 0, .int .i64 0, .int .i64 0] 52)) (kD.alloc _))
            go_wp2_with fail
            go_cut [9] from 76 (fun mv W => mv = .int .i64 (k : Int) ∧ Keep wr W)
            case first =>
              go_region_held3 (fun W => W.cell? ⟨w.heap.size, 0, none⟩ = some (.int .i64 x.cl) ∧ W.cell? ⟨w.heap.size, 1, none⟩ = some (.int .i64 x.un) ∧ W.cell? ⟨w.heap.size, 2, none⟩ = some (.int .i64 x.fc) ∧ W.cell? ⟨w.heap.size, 3, none⟩ = some (.slice SA x.sp.length c1) ∧ W.cell? ⟨w.heap.size, 4, none⟩ = some (.slice VA x.vs.length c2) ∧ W.cell? ⟨w.heap.size, 5, none⟩ = some (.slice QA x.rg.length c3))
                (first
                  | exact hS _ hw7
                  | exact hS _ hw6
                  | exact hS _ (hw5.alloc _)
                  | exact hS _ hw5
                  | exact hS _ kX
                  | exact hS _ kD
                  | exact hS _ (kD.alloc _)
                  | exact hS _ ((kD.alloc _).alloc _)
                  | exact hS _ (kX.alloc _)
                  | exact hS _ ((kX.alloc _).alloc _)
                  | fail)
                ((first
                  | (go_at_call 24; refine (hC6).mono ?_; rintro e w7 ⟨rfl, k7⟩; have hw7 := Keep.trans hw6 k7)
                  | (refine step_append_rows (by rfl) _ _ 44 (by rfl) wr.heap.size 52 _ 120 Try.underlying44 info_rule rfl (by omega) encR_len encR_one _ ls.length raws (by rfl) (hown5.alloc _) (by first | omega | (simp; done) | (simp; omega)) _ (some ⟨w5.heap.size, 0, none⟩) 1 1 [zr] (by rfl) (hN w5) (by unfold maxLen; omega) (by omega) ?_; intro v6 w6 hown6 hg6 hat6 hb6; have hw6 : Keep wr w6 := Below.trans (hw5.alloc _) hb6; obtain ⟨A6, c6, rfl, hC6⟩ := CF3.out _ _ hw6 hown6)
                  | (refine step_append_rows (by rfl) _ _ 44 (by rfl) wr.heap.size 52 _ 120 Try.underlying44 info_rule rfl (by omega) encR_len encR_one _ ls.length raws (by rfl) (hown5) (by first | omega | (simp; done) | (simp; omega)) _ _ 1 1 [zr] (by rfl) (hx5) (by unfold maxLen; omega) (by omega) ?_; intro v6 w6 hown6 hg6 hat6 hb6; have hw6 : Keep wr w6 := Below.trans (hw5) hb6; obtain ⟨A6, c6, rfl, hC6⟩ := CF3.out _ _ hw6 hown6)
                  | (refine step_append_rows (by rfl) _ _ 44 (by rfl) wr.heap.size 52 _ 120 Try.underlying44 info_rule rfl (by omega) encR_len encR_one _ 0 [] (by rfl) (hOa) (by first | omega | (simp; done) | (simp; omega)) _ A ls.length c raws (by rfl) (hR0 _ (kD.alloc _)) (by unfold maxLen; omega) (by omega) ?_; intro v5 w5 hown5 hg5 hat5 hb5; have hw5 : Keep wr w5 := Below.trans (kD.alloc _) hb5; have hs5 := hw5.size; replace hown5 : w5.ownsRow wr.heap.size 52 11 v5 ls.length (flat encR raws) := (by simpa using hown5))
                  | (refine step_append_rows (by rfl) _ _ 44 (by rfl) wr.heap.size 52 _ 120 Try.underlying44 info_rule rfl (by omega) encR_len encR_one _ 0 [] (by rfl) (hOa.alloc _) (by first | omega | (simp; done) | (simp; omega)) _ A ls.length c raws (by rfl) (hR0 _ ((kD.alloc _).alloc _)) (by unfold maxLen; omega) (by omega) ?_; intro v5 w5 hown5 hg5 hat5 hb5; have hw5 : Keep wr w5 := Below.trans ((kD.alloc _).alloc _) hb5; have hs5 := hw5.size; replace hown5 : w5.ownsRow wr.heap.size 52 11 v5 ls.length (flat encR raws) := (by simpa using hown5); have hx5 := Row.far hNbD hg5 (by first | (simp; done) | (simp; omega)) (by simp [Value.ownBlock]))
                  | (refine step_append_rows (by rfl) _ _ 44 (by rfl) wr.heap.size 52 _ 120 Try.underlying44 info_rule rfl (by omega) encR_len encR_one _ 0 [] (by rfl) (hOc) (by first | omega | (simp; done) | (simp; omega)) _ A ls.length c raws (by rfl) (hR0 _ ((kD.alloc _).alloc _)) (by unfold maxLen; omega) (by omega) ?_; intro v5 w5 hown5 hg5 hat5 hb5; have hw5 : Keep wr w5 := Below.trans ((kD.alloc _).alloc _) hb5; have hs5 := hw5.size; replace hown5 : w5.ownsRow wr.heap.size 52 11 v5 ls.length (flat encR raws) := (by simpa using hown5); have hx5 := Row.far hNcD hg5 (by first | (simp; done) | (simp; omega)) (by simp [Value.ownBlock]))
                  | fail))
              all_goals (
                go_wp2_with fail
                go_meet
                exact ⟨rfl, hw7⟩)
            case rest =>
              obtain ⟨rfl, kZ⟩ := hcut
              go_wp2_with fail
              refine (CW.out _).mono ?_
              rintro e8 w8 ⟨rfl, k8⟩
              go_wp2
              go_ret
              exact ⟨rfl, ((hkX.trans hk2).trans kZ).trans k8⟩
end Go.Proofs.Ytnbjhcemonkhhaa.Mean
