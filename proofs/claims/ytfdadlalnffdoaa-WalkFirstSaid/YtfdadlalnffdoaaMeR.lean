/- Layer 15's reference: an atom, Holds, First. Conditions: lists of facts at most a thousand, ranges at most a hundred thousand. -/
import Derived.Test.YtfdadlalnffdoaaMeA
import Derived.Test.YtfdadlalnffdoaaFaS
import Derived.Test.YtfdadlalnffdoaaTrRef
import Derived.Test.YtfdadlalnffdoaaTrJ
import Derived.Test.YtfdadlalnffdoaaSpJ
import Derived.Test.YtfdadlalnffdoaaBx
namespace Go.Proofs.Ytfdadlalnffdoaa.Me
set_option linter.unusedVariables false
open Go.ChangeShapes Go.WideShapes Go.ChangeAt Go.RowKit
open Tr (kind field rs lo hi of zero zeroR dp dp_of dp_pos Ex Exs ElemAt Rus RuleAt wf fits fitsL_mem getD_mem all_snoc all_no ret_bool)
open Fa (FaAt Near near encFl RetReals row_float)
open Fp (IsN)
open Re (withB leB)
/-- Facts of few numbers, whose lists are whole. -/
def fewF (x : FactsP) : Prop := x.sp.length ≤ 1000 ∧ x.vs.length ≤ 1000 ∧ x.rg.length ≤ 1000
/-- An expression whose ranges fit, all through. -/
def okE (e : ExprP) : Prop := wf e ∧ fits e
theorem okE.of {e : ExprP} (h : okE e) : ∀ y ∈ Tr.of e, okE y := fun y hy => ⟨h.1.of y hy, by
  have h2 := h.2
  cases e
  rw [fits] at h2
  exact fitsL_mem h2.2.2 y hy⟩
theorem okE.fit {k f : Int} {r : List (Int × Int)} {l h : Nat} {o : List ExprP} (hk : okE (.mk k f r l h o)) : ∀ p ∈ r, Span.Fit p := fun p hp => by
  have h1 := hk.1
  rw [wf] at h1
  have h2 := h1.2.1 p hp
  simp only [Lit.wf, Bool.and_eq_true, decide_eq_true_eq] at h2
  have a1 : IntKind.i64.min = -9223372036854775808 := by decide
  have a2 : IntKind.i64.max = 9223372036854775807 := by decide
  rw [a1, a2] at h2
  unfold Span.Fit
  omega
/-- At most a hundred thousand ranges, all through. -/
def short : Nat → ExprP → Prop
  | 0, _ => True
  | n + 1, e => (rs e).length ≤ 100000 ∧ ∀ y ∈ of e, short n y
theorem withB_nan {b l h : Nat} (hn : IsN b) : withB b l h = false := by
  unfold withB
  have : leB l b = false := by unfold leB; rw [Fp.order_nan_r hn]; rfl
  rw [this]; rfl
theorem near_with {y b l h : Nat} (hn : near y b) : withB y l h = withB b l h := by
  rcases hn.1 with ⟨h1, h2⟩ | rfl
  · rw [withB_nan h1, withB_nan h2]
  · rfl
theorem near_all : ∀ {ys bs : List Nat} {l h : Nat}, Near ys bs → (ys.all fun b => withB b l h) = (bs.all fun b => withB b l h)
  | [], [], _, _, _ => rfl
  | y :: ys, b :: bs, l, h, hn => by rw [List.all_cons, List.all_cons, near_with hn.1, near_all hn.2]
  | [], b :: bs, _, _, hn => hn.elim
  | y :: ys, [], _, _, hn => hn.elim
theorem real_none {x : FactsP} {l h : Nat} (hr : Fa.reals x.rg = none) : real x l h = false := by unfold real; rw [hr]
theorem real_some {x : FactsP} {l h : Nat} {bs ys : List Nat} (hr : Fa.reals x.rg = some bs) (hn : Near ys bs) : real x l h = ys.all fun b => withB b l h := by
  rw [near_all hn]
  unfold real
  rw [hr]; rfl
theorem reals_len' : ∀ (zs : List Int) (bs : List Nat), Fa.reals zs = some bs → bs.length ≤ zs.length
  | [], bs, h => by
    injection h with h
    subst h; simp
  | a :: b :: c :: d :: l, bs, h => by
    rw [Fa.reals] at h
    by_cases ho : Re.okL [a, b, c, d] = true
    · rw [if_pos ho] at h
      cases hr : Fa.reals l with
      | none => rw [hr] at h; cases h
      | some cs =>
        rw [hr] at h
        injection h with h
        subst h
        have := reals_len' l cs hr
        simp only [List.length_cons]
        omega
    · rw [if_neg ho] at h; cases h
  | [a], bs, h => by cases h
  | [a, b], bs, h => by cases h
  | [a, b, c], bs, h => by cases h
theorem keepF {w : World} {x : FactsP} {SA VA QA : Option Addr} (hF : FaAt w x SA VA QA) {W : World} (h : Keep w W) : FaAt W x SA VA QA := hF.kept h
theorem ints_cell {w : World} {B n b off : Nat} {zs : List Int} (h : Ints .i64 w B (some ⟨b, off, none⟩) n zs) (j : Nat) (hj : j < n) : w.cell? ⟨b, off + j, none⟩ = some (.int .i64 (zs.getD j 0)) := by
  obtain ⟨b', off', e, _, hc⟩ := h.2 (by omega)
  injection e with e
  injection e with e1 e2
  subst e1 e2
  exact hc j hj
set_option maxHeartbeats 4000000 in
theorem ref_atom_any (e : ExprP) (RA OA : Option Addr) (rc oc : Nat) (x : FactsP) (SA VA QA : Option Addr) (c1 c2 c3 : Nat) (w : World) (hw : okE e) (hr : (rs e).length ≤ 100000) (hx : fewF x) (h3 : x.rg.length ≤ c3) (h3m : c3 ≤ maxLen) (hE : Ex w e RA OA) (hF : FaAt w x SA VA QA) :
    Calls Try.prog 33 #[.agg #[.int .i64 (kind e), .int .i64 (field e), .slice RA (rs e).length rc, .float .f64 (lo e), .float .f64 (hi e), .slice OA (of e).length oc], .agg #[.int .i64 x.cl, .int .i64 x.un, .int .i64 x.fc, .slice SA x.sp.length c1, .slice VA x.vs.length c2, .slice QA x.rg.length c3]] w fun e' w' => e' = .returned (.bool (atom (field e) (rs e) (lo e) (hi e) x)) ∧ Keep w w' := by
  have hR := hE.1
  have hlo : lo e < 18446744073709551616 ∧ hi e < 18446744073709551616 := by cases e; have := hw.2; rw [fits] at this; exact this.2.1
  obtain ⟨k, f, r, l, h, o⟩ := e
  have hfit := hw.fit
  simp only [kind, field, rs, lo, hi, of] at hR hr hlo ⊢
  obtain ⟨x1, x2, x3⟩ := hx
  obtain ⟨hS, hV, hQ⟩ := hF
  obtain ⟨X, hX⟩ : ∃ X, X = (w.alloc (.cells #[.int .i64 k, .int .i64 f, .slice RA r.length rc, .float .f64 l, .float .f64 h, .slice OA o.length oc] 39)).alloc (.cells #[.int .i64 x.cl, .int .i64 x.un, .int .i64 x.fc, .slice SA x.sp.length c1, .slice VA x.vs.length c2, .slice QA x.rg.length c3] 26) := ⟨_, rfl⟩
  have hkX : Keep w X := by rw [hX]; exact ((Keep.refl w).alloc _).alloc _
  have bE : Bx X w.heap.size [.int .i64 k, .int .i64 f, .slice RA r.length rc, .float .f64 l, .float .f64 h, .slice OA o.length oc] := by rw [hX]; exact (Bx.newq rfl).alloc _
  have bF : Bx X (w.heap.size + 1) [.int .i64 x.cl, .int .i64 x.un, .int .i64 x.fc, .slice SA x.sp.length c1, .slice VA x.vs.length c2, .slice QA x.rg.length c3] := by rw [hX]; exact Bx.newq (by simp)
  have HE := Lib.hid (show ∀ W, Keep X W → Bx W w.heap.size [.int .i64 k, .int .i64 f, .slice RA r.length rc, .float .f64 l, .float .f64 h, .slice OA o.length oc] from fun W hk => bE.kept hk)
  have HF := Lib.hid (show ∀ W, Keep X W → Bx W (w.heap.size + 1) [.int .i64 x.cl, .int .i64 x.un, .int .i64 x.fc, .slice SA x.sp.length c1, .slice VA x.vs.length c2, .slice QA x.rg.length c3] from fun W hk => bF.kept hk)
  clear bE bF
  have CH := Lib.hid (fun (W : World) (m : Int) (hk : Keep X W) => Span.ref_has_any RA r.length rc r m W (by omega) (hR.kept (hkX.trans hk)))
  have CC := Lib.hid (fun (W : World) (p q : Int) (hk : Keep X W) => Span.ref_covers_any RA r.length rc r p q W hr (hR.kept (hkX.trans hk)) hfit)
  have CR := Lib.hid (fun (W : World) (hk : Keep X W) => Fa.ref_reals_any QA x.rg.length c3 x.rg W (by omega) h3 h3m (hQ.kept (hkX.trans hk)))
  have HSp := Lib.hid (fun (W : World) (hk : Keep X W) => hS.kept (hkX.trans hk))
  have HVs := Lib.hid (fun (W : World) (hk : Keep X W) => hV.kept (hkX.trans hk))
  clear hR hfit hS hV hQ hE hw
  by_cases q1 : f = 1
  · have HA := Lib.hid (show atom f r l h x = Sp.has r x.cl by unfold atom; rw [if_pos q1])
    have d1 : (f == 1) = true := by simpa using q1
    clear q1 hlo
    go_enter Try.func33, Try.ntmps33
    go_wp2_with fail
    rw [← hX]
    clear hX
    refine (CH.out _ x.cl (Keep.refl _)).mono ?_
    rintro e w1 ⟨rfl, hq⟩
    go_wp2
    go_ret
    exact ⟨ret_bool HA.out.symm, hkX.trans hq.keep⟩
  by_cases q2 : f = 2
  · have HA := Lib.hid (show atom f r l h x = Sp.has r x.un by unfold atom; rw [if_neg q1, if_pos q2])
    have d1 : (f == 1) = false := by simpa using q1
    have d2 : (f == 2) = true := by simpa using q2
    clear q1 q2 hlo
    go_enter Try.func33, Try.ntmps33
    go_wp2_with fail
    rw [← hX]
    clear hX
    refine (CH.out _ x.un (Keep.refl _)).mono ?_
    rintro e w1 ⟨rfl, hq⟩
    go_wp2
    go_ret
    exact ⟨ret_bool HA.out.symm, hkX.trans hq.keep⟩
  by_cases q3 : f = 3
  · have HA := Lib.hid (show atom f r l h x = Sp.has r x.fc by unfold atom; rw [if_neg q1, if_neg q2, if_pos q3])
    have d1 : (f == 1) = false := by simpa using q1
    have d2 : (f == 2) = false := by simpa using q2
    have d3 : (f == 3) = true := by simpa using q3
    clear q1 q2 q3 hlo
    go_enter Try.func33, Try.ntmps33
    go_wp2_with fail
    rw [← hX]
    clear hX
    refine (CH.out _ x.fc (Keep.refl _)).mono ?_
    rintro e w1 ⟨rfl, hq⟩
    go_wp2
    go_ret
    exact ⟨ret_bool HA.out.symm, hkX.trans hq.keep⟩
  by_cases q4 : f = 4
  · have HA := Lib.hid (show atom f r l h x = x.sp.all (fun p => Sp.covers (Sp.norm r) p) by unfold atom; rw [if_neg q1, if_neg q2, if_neg q3, if_pos q4])
    have d1 : (f == 1) = false := by simpa using q1
    have d2 : (f == 2) = false := by simpa using q2
    have d3 : (f == 3) = false := by simpa using q3
    have d4 : (f == 4) = true := by simpa using q4
    clear q1 q2 q3 q4 hlo
    go_enter Try.func33, Try.ntmps33
    go_wp2
    rw [← hX]
    clear hX
    go_loopw [5] (fun iv wr => ∃ j : Nat, j ≤ x.sp.length ∧ iv = .int .i64 j ∧ Hid ((x.sp.take j).all (fun p => Sp.covers (Sp.norm r) p) = true) ∧ Keep X wr) (fun iv _ => x.sp.length - (intOf iv).toNat)
    case atStart => exact ⟨0, Nat.zero_le _, rfl, rfl, Keep.refl _⟩
    case round =>
      obtain ⟨j, hj, rfl, hall, hk⟩ := hrel
      have be := fun p : KeptOf wr => (HE.out _ (hk.trans p.h)).six.2.2.1
      have bf := fun p : KeptOf wr => (HF.out _ (hk.trans p.h)).six.2.2.2.1
      by_cases hlt : j < x.sp.length
      · have hi1 : (j : Int) < x.sp.length := by omega
        have hj0 : (0 : Int) ≤ j := by omega
        obtain ⟨b, off, rfl, _⟩ := (HSp.out _ hk).addr (by omega)
        have y0 := fun p : KeptOf wr => ((HSp.out _ (hk.trans p.h)).pair j hlt).2.1
        have y1 := fun p : KeptOf wr => ((HSp.out _ (hk.trans p.h)).pair j hlt).2.2
        have HN := Lib.hid (all_snoc (fun p => Sp.covers (Sp.norm r) p) (0, 0) x.sp j hlt)
        have HNo := Lib.hid (all_no (fun p => Sp.covers (Sp.norm r) p) (0, 0) x.sp j hlt)
        obtain ⟨u1, u2, hu⟩ : ∃ p q, x.sp.getD j (0, 0) = (p, q) := ⟨_, _, rfl⟩
        rw [hu] at y0 y1 HN HNo
        simp only at y0 y1
        obtain ⟨v, hvv⟩ : ∃ v, v = Sp.covers (Sp.norm r) (u1, u2) := ⟨_, rfl⟩
        have hC := fun p : KeptOf wr => CC.out p.w u1 u2 (hk.trans p.h)
        rw [← hvv] at hC
        have HV := Lib.hid hvv.symm
        clear hvv hu
        clear hlt
        have bf0 := bf ⟨wr, Keep.refl _⟩
        simp only at bf0
        cases hv : v
        · rw [hv] at hC
          have HFF := Lib.hid (HNo.out (HV.out.trans hv))
          clear HN HNo hv HV
          go_wp2
          refine wp_region_kept (by kernel_rfl) (by kernel_rfl) ?_
          repeat (go_big_quiet_step (first | with_reducible exact KeptOf.of (hC _)))
          refine Go.wpQuiet_nil ?_
          intro _ hw'
          obtain ⟨⟨V, hw⟩, hw''⟩ := hw'
          subst hw''
          go_wp2
          go_ret
          exact ⟨ret_bool (by rw [HA.out, HFF.out]), (hkX.trans hk).trans hw⟩
        · rw [hv] at hC
          have HFF := Lib.hid (show (x.sp.take (j + 1)).all (fun p => Sp.covers (Sp.norm r) p) = true by rw [HN.out, hall.out]; exact HV.out.trans hv)
          clear HN HNo hv HV
          go_wp2
          refine wp_region_kept (by kernel_rfl) (by kernel_rfl) ?_
          repeat (go_big_quiet_step (first | with_reducible exact KeptOf.of (hC _)))
          refine Go.wpQuiet_nil ?_
          intro _ hw'
          obtain ⟨⟨V, hw⟩, hw''⟩ := hw'
          subst hw''
          go_wp2
          go_roundw
          case rel => exact ⟨j + 1, by omega, by go_num, HFF, hk.trans hw⟩
          case measure => simp [intOf]; omega
      · obtain rfl : j = x.sp.length := by omega
        have HFF := Lib.hid (show x.sp.all (fun p => Sp.covers (Sp.norm r) p) = true by have := hall.out; rwa [List.take_length] at this)
        have bf0 := bf ⟨wr, Keep.refl _⟩
        simp only at bf0
        go_wp2
        go_ret
        exact ⟨ret_bool (by rw [HA.out, HFF.out]), hkX.trans hk⟩
  by_cases q5 : f = 5
  · have HA := Lib.hid (show atom f r l h x = x.vs.all (fun m => Sp.has r m) by unfold atom; rw [if_neg q1, if_neg q2, if_neg q3, if_neg q4, if_pos q5])
    have d1 : (f == 1) = false := by simpa using q1
    have d2 : (f == 2) = false := by simpa using q2
    have d3 : (f == 3) = false := by simpa using q3
    have d4 : (f == 4) = false := by simpa using q4
    have d5 : (f == 5) = true := by simpa using q5
    clear q1 q2 q3 q4 q5 hlo
    go_enter Try.func33, Try.ntmps33
    go_wp2
    rw [← hX]
    clear hX
    go_loopw [6] (fun iv wr => ∃ j : Nat, j ≤ x.vs.length ∧ iv = .int .i64 j ∧ Hid ((x.vs.take j).all (fun m => Sp.has r m) = true) ∧ Keep X wr) (fun iv _ => x.vs.length - (intOf iv).toNat)
    case atStart => exact ⟨0, Nat.zero_le _, rfl, rfl, Keep.refl _⟩
    case round =>
      obtain ⟨j, hj, rfl, hall, hk⟩ := hrel
      have be := fun p : KeptOf wr => (HE.out _ (hk.trans p.h)).six.2.2.1
      have bf := fun p : KeptOf wr => (HF.out _ (hk.trans p.h)).six.2.2.2.2.1
      by_cases hlt : j < x.vs.length
      · have hi1 : (j : Int) < x.vs.length := by omega
        have hj0 : (0 : Int) ≤ j := by omega
        obtain ⟨b, off, rfl, _⟩ : ∃ b off, VA = some ⟨b, off, none⟩ ∧ b < wr.heap.size := by
          obtain ⟨b, off, e, h1, _⟩ := (HVs.out _ hk).2 (by omega)
          exact ⟨b, off, e, h1⟩
        have y0 := fun p : KeptOf wr => ints_cell (HVs.out _ (hk.trans p.h)) j hlt
        have HN := Lib.hid (all_snoc (fun m => Sp.has r m) 0 x.vs j hlt)
        have HNo := Lib.hid (all_no (fun m => Sp.has r m) 0 x.vs j hlt)
        obtain ⟨u, hu⟩ : ∃ u, x.vs.getD j 0 = u := ⟨_, rfl⟩
        rw [hu] at y0 HN HNo
        obtain ⟨v, hvv⟩ : ∃ v, v = Sp.has r u := ⟨_, rfl⟩
        have hC := fun p : KeptOf wr => (CH.out p.w u (hk.trans p.h)).mono fun e w' h => (⟨h.1, h.2.keep⟩ : e = .returned (.bool (Sp.has r u)) ∧ Keep p.w w')
        rw [← hvv] at hC
        have HV := Lib.hid hvv.symm
        clear hvv hu
        clear hlt
        have bf0 := bf ⟨wr, Keep.refl _⟩
        simp only at bf0
        cases hv : v
        · rw [hv] at hC
          have HFF := Lib.hid (HNo.out (HV.out.trans hv))
          clear HN HNo hv HV
          go_wp2
          refine wp_region_kept (by kernel_rfl) (by kernel_rfl) ?_
          repeat (go_big_quiet_step (first | with_reducible exact KeptOf.of (hC _)))
          refine Go.wpQuiet_nil ?_
          intro _ hw'
          obtain ⟨⟨V, hw⟩, hw''⟩ := hw'
          subst hw''
          go_wp2
          go_ret
          exact ⟨ret_bool (by rw [HA.out, HFF.out]), (hkX.trans hk).trans hw⟩
        · rw [hv] at hC
          have HFF := Lib.hid (show (x.vs.take (j + 1)).all (fun m => Sp.has r m) = true by rw [HN.out, hall.out]; exact HV.out.trans hv)
          clear HN HNo hv HV
          go_wp2
          refine wp_region_kept (by kernel_rfl) (by kernel_rfl) ?_
          repeat (go_big_quiet_step (first | with_reducible exact KeptOf.of (hC _)))
          refine Go.wpQuiet_nil ?_
          intro _ hw'
          obtain ⟨⟨V, hw⟩, hw''⟩ := hw'
          subst hw''
          go_wp2
          go_roundw
          case rel => exact ⟨j + 1, by omega, by go_num, HFF, hk.trans hw⟩
          case measure => simp [intOf]; omega
      · obtain rfl : j = x.vs.length := by omega
        have HFF := Lib.hid (show x.vs.all (fun m => Sp.has r m) = true by have := hall.out; rwa [List.take_length] at this)
        have bf0 := bf ⟨wr, Keep.refl _⟩
        simp only at bf0
        go_wp2
        go_ret
        exact ⟨ret_bool (by rw [HA.out, HFF.out]), hkX.trans hk⟩
  have HA := Lib.hid (show atom f r l h x = real x l h by unfold atom; rw [if_neg q1, if_neg q2, if_neg q3, if_neg q4, if_neg q5])
  have d1 : (f == 1) = false := by simpa using q1
  have d2 : (f == 2) = false := by simpa using q2
  have d3 : (f == 3) = false := by simpa using q3
  have d4 : (f == 4) = false := by simpa using q4
  have d5 : (f == 5) = false := by simpa using q5
  clear q1 q2 q3 q4 q5
  obtain ⟨hl64, hh64⟩ := hlo
  cases hre : Fa.reals x.rg with
  | none =>
    have HN := Lib.hid (real_none (l := l) (h := h) hre)
    have CR2 := Lib.hid (fun W (hk : Keep X W) => (CR.out W hk).mono fun e w' hh => (by unfold RetReals at hh; rw [hre] at hh; exact hh : ∃ A c, e = .returned (.tuple #[.slice A 0 c, .bool false]) ∧ Keep W w'))
    clear hre CR
    go_enter Try.func33, Try.ntmps33
    go_wp2_with fail
    rw [← hX]
    clear hX
    refine (CR2.out _ (Keep.refl _)).mono ?_
    rintro e w1 ⟨A, c, rfl, hk1⟩
    go_wp2
    go_loopw [8, 9] (fun ok iv wr => ok = .bool false ∧ iv = .int .i64 0 ∧ wr = w1) (fun _ _ _ => 0)
    case atStart => exact ⟨rfl, rfl, rfl⟩
    case round =>
      obtain ⟨rfl, rfl, rfl⟩ := hrel
      go_wp2
      go_ret
      exact ⟨ret_bool (by rw [HA.out, HN.out]), hkX.trans hk1⟩
  | some bs =>
    have HLB := Lib.hid (show bs.length ≤ 1000 from Nat.le_trans (reals_len' _ _ hre) x3)
    have HSS := Lib.hid (fun ys (hn : Near ys bs) => real_some (l := l) (h := h) hre hn)
    have CR2 := Lib.hid (fun W (hk : Keep X W) => (CR.out W hk).mono fun e w' hh => (by unfold RetReals at hh; rw [hre] at hh; exact hh : ∃ A c ys, e = .returned (.tuple #[.slice A ys.length c, .bool true]) ∧ Row encFl 1 w' w'.heap.size A ys.length ys ∧ Near ys bs ∧ Keep W w'))
    clear hre CR
    go_enter Try.func33, Try.ntmps33
    go_wp2_with fail
    rw [← hX]
    clear hX
    refine (CR2.out _ (Keep.refl _)).mono ?_
    rintro e w1 ⟨A, c, ys, rfl, hrow, hnr, hk1⟩
    have HSS := Lib.hid (HSS.out ys hnr)
    have hys : ys.length ≤ 1000 := by rw [hnr.len]; exact HLB.out
    clear hnr
    go_wp2
    go_loopw [8, 9] (fun ok iv wr => ∃ j : Nat, j ≤ ys.length ∧ ok = .bool ((ys.take j).all fun b => withB b l h) ∧ iv = .int .i64 j ∧ Keep w1 wr) (fun _ iv _ => ys.length - (intOf iv).toNat)
    case atStart => exact ⟨0, Nat.zero_le _, rfl, rfl, Keep.refl _⟩
    case round =>
      obtain ⟨j, hj, rfl, rfl, hk⟩ := hrel
      by_cases hlt : j < ys.length
      · have hi1 : (j : Int) < ys.length := by omega
        have hj0 : (0 : Int) ≤ j := by omega
        obtain ⟨b, off, rfl, _⟩ := hrow.addr (by omega)
        have y0 := fun p : KeptOf wr => (row_float (hrow.kept (hk.trans p.h)) j hlt).2
        have be := fun p : KeptOf wr => (HE.out _ ((hk1.trans hk).trans p.h)).six.2.2.2.1
        have bf := fun p : KeptOf wr => (HE.out _ ((hk1.trans hk).trans p.h)).six.2.2.2.2.1
        have HN := Lib.hid (all_snoc (fun b => withB b l h) 0 ys j hlt)
        obtain ⟨u, hu⟩ : ∃ u, ys.getD j 0 = u := ⟨_, rfl⟩
        rw [hu] at y0 HN
        have hC := fun p : KeptOf wr => (Ref3.within_any u l h p.w).mono fun e w' hh => (⟨hh.1, by rw [← hh.2]; exact Keep.refl _⟩ : e = .returned (.bool (withB u l h)) ∧ Keep p.w w')
        clear hu hlt
        obtain ⟨v, hv⟩ : ∃ v, v = withB u l h := ⟨_, rfl⟩
        obtain ⟨z, hz⟩ : ∃ z, z = (ys.take j).all fun b => withB b l h := ⟨_, rfl⟩
        rw [← hv] at hC HN
        rw [← hz] at HN ⊢
        clear hv hz
        cases z
        · go_wp2
          refine wp_region_kept (by kernel_rfl) (by kernel_rfl) ?_
          repeat (go_big_quiet_step (first | with_reducible exact KeptOf.of (hC _)))
          refine Go.wpQuiet_nil ?_
          intro _ hw'
          obtain ⟨⟨V, hw⟩, hw''⟩ := hw'
          subst hw''
          go_wp2
          go_roundw
          case rel => exact ⟨j + 1, by omega, by rw [HN.out]; rfl, by go_num, hk.trans hw⟩
          case measure => simp [intOf]; omega
        · go_wp2
          refine wp_region_kept (by kernel_rfl) (by kernel_rfl) ?_
          repeat (go_big_quiet_step (first | with_reducible exact KeptOf.of (hC _)))
          refine Go.wpQuiet_nil ?_
          intro _ hw'
          obtain ⟨⟨V, hw⟩, hw''⟩ := hw'
          subst hw''
          go_wp2
          go_roundw
          case rel => exact ⟨j + 1, by omega, by rw [HN.out]; rfl, by go_num, hk.trans hw⟩
          case measure => simp [intOf]; omega
      · obtain rfl : j = ys.length := by omega
        have HQ := Lib.hid (show ((ys.take ys.length).all fun b => withB b l h) = atom f r l h x by rw [List.take_length, HA.out, HSS.out])
        generalize ((ys.take ys.length).all fun b => withB b l h) = z at *
        go_wp2
        go_ret
        exact ⟨ret_bool HQ.out, (hkX.trans hk1).trans hk⟩
end Go.Proofs.Ytfdadlalnffdoaa.Me
