/- Of these texts: MeR, MeR2. Conditions: as each part says. -/
import Derived.Test.YtaciogcpghbhjaaGreatZTMeA
import Derived.Test.YtaciogcpghbhjaaGreatZTFaR
import Derived.Test.YtaciogcpghbhjaaGreatZTTrRef
import Derived.Test.YtaciogcpghbhjaaGreatZTTrI
import Derived.Test.YtaciogcpghbhjaaGreatZTSpI
import Derived.Test.YtaciogcpghbhjaaGreatZTLib
/- Layer 15's reference: an atom, Holds, First. Conditions: lists of facts at most a thousand, ranges at most a hundred thousand. -/
namespace Go.Proofs.YtaciogcpghbhjaaGreat.Me
set_option linter.unusedVariables false
open Go.ChangeShapes Go.WideShapes Go.ChangeAt Go.RowKit
open Tr (kind field rs lo hi of zero zeroR dp dp_of dp_pos Ex Exs ElemAt Rus RuleAt wf fits fitsL_mem getD_mem all_snoc all_no ret_bool)
open Fa (FaAt Near near encFl RetReals row_float)
open Fp (IsN)
open Re (withB leB)
def fewF (x : FactsP) : Prop := x.sp.length <= 1000 ∧ x.vs.length <= 3000 ∧ x.rg.length <= 1000
def okE (e : ExprP) : Prop := wf e ∧ fits e
theorem okE.of {e : ExprP} (h : okE e) : ∀ y ∈ Tr.of e, okE y := fun y hy => ⟨h.1.of y hy, by
 have h2 := h.2
 cases e
 rw [fits] at h2
 exact fitsL_mem h2.2.2 y hy⟩
theorem okE.fit {k f : Int} {r : List (Int × Int)} {l h : Nat} {o : List ExprP} (hk : okE (.mk k f r l h o)) : ∀ p ∈ r, Span.Fit p := fun p hp => by
 have h1 := hk.1
 rw [wf] at h1
 have h2 := h1.2.1 p hp
 simp only [Lit.wf, Bool.and_eq_true, decide_eq_true_eq] at h2
 have a1 : IntKind.i64.min = -9223372036854775808 := by decide
 have a2 : IntKind.i64.max = 9223372036854775807 := by decide
 rw [a1, a2] at h2
 unfold Span.Fit
 omega
def short : Nat -> ExprP -> Prop
 | 0, _ => True
 | n + 1, e => (rs e).length <= 100000 ∧ ∀ y ∈ of e, short n y
theorem withB_nan {b l h : Nat} (hn : IsN b) : withB b l h = false := by
 unfold withB
 have : leB l b = false := by unfold leB; rw [Fp.order_nan_r hn]; rfl
 rw [this]; rfl
theorem near_with {y b l h : Nat} (hn : near y b) : withB y l h = withB b l h := by
 rcases hn.1 with ⟨h1, h2⟩ | rfl
 ·rw [withB_nan h1, withB_nan h2]
 ·rfl
theorem near_all : ∀ {ys bs : List Nat} {l h : Nat}, Near ys bs -> (ys.all fun b => withB b l h) = (bs.all fun b => withB b l h)
 | [], [], _, _, _ => rfl
 | y :: ys, b :: bs, l, h, hn => by rw [List.all_cons, List.all_cons, near_with hn.1, near_all hn.2]
 | [], b :: bs, _, _, hn => hn.elim
 | y :: ys, [], _, _, hn => hn.elim
theorem real_none {x : FactsP} {l h : Nat} (hr : Fa.reals x.rg = none) : real x l h = false := by unfold real; rw [hr]
theorem real_some {x : FactsP} {l h : Nat} {bs ys : List Nat} (hr : Fa.reals x.rg = some bs) (hn : Near ys bs) : real x l h = ys.all fun b => withB b l h := by
 rw [near_all hn]
 unfold real
 rw [hr]; rfl
theorem reals_len' : ∀ (zs : List Int) (bs : List Nat), Fa.reals zs = some bs -> bs.length <= zs.length
 | [], bs, h => by
   injection h with h
   subst h; simp
 | a :: b :: c :: d :: l, bs, h => by
   rw [Fa.reals] at h
   by_cases ho : Re.okL [a, b, c, d] = true
   ·rw [if_pos ho] at h
    cases hr : Fa.reals l with
    | none => rw [hr] at h; cases h
    | some cs =>
      rw [hr] at h
      injection h with h
      subst h
      have := reals_len' l cs hr
      simp only [List.length_cons]
      omega
   ·rw [if_neg ho] at h; cases h
 | [a], bs, h => by cases h
 | [a, b], bs, h => by cases h
 | [a, b, c], bs, h => by cases h
theorem ints_cell {w : World} {B n b off : Nat} {zs : List Int} (h : Ints .i64 w B (some ⟨b, off, none⟩) n zs) (j : Nat) (hj : j < n) : w.cell? ⟨b, off + j, none⟩ = some (.int .i64 (zs.getD j 0)) := by
 obtain ⟨b', off', e, _, hc⟩ := h.2 (by omega)
 injection e with e
 injection e with e1 e2
 subst e1 e2
 exact hc j hj
set_option maxHeartbeats 4000000 in
theorem ref_atom_any (e : ExprP) (RA OA : Option Addr) (rc oc : Nat) (x : FactsP) (SA VA QA : Option Addr) (c1 c2 c3 : Nat) (w : World) (hw : okE e) (hr : (rs e).length <= 100000) (hx : fewF x) (h3 : x.rg.length <= c3) (h3m : c3 <= maxLen) (hE : Ex w e RA OA) (hF : FaAt w x SA VA QA) :
  Calls Tryz.prog 66 #[.agg #[.int .i64 (kind e), .int .i64 (field e), .slice RA (rs e).length rc, .float .f64 (lo e), .float .f64 (hi e), .slice OA (of e).length oc], .agg #[.int .i64 x.cl, .int .i64 x.un, .int .i64 x.fc, .slice SA x.sp.length c1, .slice VA x.vs.length c2, .slice QA x.rg.length c3]] w fun e' w' => e' = .returned (.bool (atom (field e) (rs e) (lo e) (hi e) x)) ∧ Keep w w' := by
 have hR := hE.1
 have hlo : lo e < 18446744073709551616 ∧ hi e < 18446744073709551616 := by cases e; have := hw.2; rw [fits] at this; exact this.2.1
 obtain ⟨k, f, r, l, h, o⟩ := e
 have hfit := hw.fit
 simp only [kind, field, rs, lo, hi, of] at hR hr hlo ⊢
 obtain ⟨x1, x2, x3⟩ := hx
 obtain ⟨hS, hV, hQ⟩ := hF
 obtain ⟨X, hX⟩ : ∃ X, X = (w.alloc (.cells #[.int .i64 k, .int .i64 f, .slice RA r.length rc, .float .f64 l, .float .f64 h, .slice OA o.length oc] 59)).alloc (.cells #[.int .i64 x.cl, .int .i64 x.un, .int .i64 x.fc, .slice SA x.sp.length c1, .slice VA x.vs.length c2, .slice QA x.rg.length c3] 54) := ⟨_, rfl⟩
 have hkX : Keep w X := by rw [hX]; exact ((Keep.refl w).alloc _).alloc _
 have bE : Bx X w.heap.size [.int .i64 k, .int .i64 f, .slice RA r.length rc, .float .f64 l, .float .f64 h, .slice OA o.length oc] := by rw [hX]; exact (Bx.newq rfl).alloc _
 have bF : Bx X (w.heap.size + 1) [.int .i64 x.cl, .int .i64 x.un, .int .i64 x.fc, .slice SA x.sp.length c1, .slice VA x.vs.length c2, .slice QA x.rg.length c3] := by rw [hX]; exact Bx.newq (by simp)
 have HE := Lib.hid (show ∀ W, Keep X W -> Bx W w.heap.size [.int .i64 k, .int .i64 f, .slice RA r.length rc, .float .f64 l, .float .f64 h, .slice OA o.length oc] from fun W hk => bE.kept hk)
 have HF := Lib.hid (show ∀ W, Keep X W -> Bx W (w.heap.size + 1) [.int .i64 x.cl, .int .i64 x.un, .int .i64 x.fc, .slice SA x.sp.length c1, .slice VA x.vs.length c2, .slice QA x.rg.length c3] from fun W hk => bF.kept hk)
 clear bE bF
 have CH := Lib.hid (fun (W : World) (m : Int) (hk : Keep X W) => Span.ref_has_any RA r.length rc r m W (by omega) (hR.kept (hkX.trans hk)))
 have CC := Lib.hid (fun (W : World) (p q : Int) (hk : Keep X W) => Span.ref_covers_any RA r.length rc r p q W hr (hR.kept (hkX.trans hk)) hfit)
 have CR := Lib.hid (fun (W : World) (hk : Keep X W) => Fa.ref_reals_any QA x.rg.length c3 x.rg W (by omega) h3 h3m (hQ.kept (hkX.trans hk)))
 have HSp := Lib.hid (fun (W : World) (hk : Keep X W) => hS.kept (hkX.trans hk))
 have HVs := Lib.hid (fun (W : World) (hk : Keep X W) => hV.kept (hkX.trans hk))
 clear hR hfit hS hV hQ hE hw
 by_cases q1 : f = 1
 ·have HA := Lib.hid (show atom f r l h x = Sp.has r x.cl by unfold atom; rw [if_pos q1])
  have d1 : (f == 1) = true := by simpa using q1
  clear q1 hlo
  go_enter Tryz.func66, Tryz.ntmps66
  go_wp2_with fail
  rw [<- hX]
  clear hX
  refine (CH.out _ x.cl (Keep.refl _)).mono ?_
  rintro e w1 ⟨rfl, hq⟩
  go_wp2
  go_ret
  exact ⟨ret_bool HA.out.symm, hkX.trans hq.keep⟩
 by_cases q2 : f = 2
 ·have HA := Lib.hid (show atom f r l h x = Sp.has r x.un by unfold atom; rw [if_neg q1, if_pos q2])
  have d1 : (f == 1) = false := by simpa using q1
  have d2 : (f == 2) = true := by simpa using q2
  clear q1 q2 hlo
  go_enter Tryz.func66, Tryz.ntmps66
  go_wp2_with fail
  rw [<- hX]
  clear hX
  refine (CH.out _ x.un (Keep.refl _)).mono ?_
  rintro e w1 ⟨rfl, hq⟩
  go_wp2
  go_ret
  exact ⟨ret_bool HA.out.symm, hkX.trans hq.keep⟩
 by_cases q3 : f = 3
 ·have HA := Lib.hid (show atom f r l h x = Sp.has r x.fc by unfold atom; rw [if_neg q1, if_neg q2, if_pos q3])
  have d1 : (f == 1) = false := by simpa using q1
  have d2 : (f == 2) = false := by simpa using q2
  have d3 : (f == 3) = true := by simpa using q3
  clear q1 q2 q3 hlo
  go_enter Tryz.func66, Tryz.ntmps66
  go_wp2_with fail
  rw [<- hX]
  clear hX
  refine (CH.out _ x.fc (Keep.refl _)).mono ?_
  rintro e w1 ⟨rfl, hq⟩
  go_wp2
  go_ret
  exact ⟨ret_bool HA.out.symm, hkX.trans hq.keep⟩
 by_cases q4 : f = 4
 ·have HA := Lib.hid (show atom f r l h x = x.sp.all (fun p => Sp.covers (Sp.norm r) p) by unfold atom; rw [if_neg q1, if_neg q2, if_neg q3, if_pos q4])
  have d1 : (f == 1) = false := by simpa using q1
  have d2 : (f == 2) = false := by simpa using q2
  have d3 : (f == 3) = false := by simpa using q3
  have d4 : (f == 4) = true := by simpa using q4
  clear q1 q2 q3 q4 hlo
  go_enter Tryz.func66, Tryz.ntmps66
  go_wp2
  rw [<- hX]
  clear hX
  go_loopw [5] (fun iv wr => ∃ j : Nat, j <= x.sp.length ∧ iv = .int .i64 j ∧ Hid ((x.sp.take j).all (fun p => Sp.covers (Sp.norm r) p) = true) ∧ Keep X wr) (fun iv _ => x.sp.length - (intOf iv).toNat)
  case atStart => exact ⟨0, Nat.zero_le _, rfl, rfl, Keep.refl _⟩
  case round =>
   obtain ⟨j, hj, rfl, hall, hk⟩ := hrel
   have be := fun p : KeptOf wr => (HE.out _ (hk.trans p.h)).six.2.2.1
   have bf := fun p : KeptOf wr => (HF.out _ (hk.trans p.h)).six.2.2.2.1
   by_cases hlt : j < x.sp.length
   ·have hi1 : (j : Int) < x.sp.length := by omega
    have hj0 : (0 : Int) <= j := by omega
    obtain ⟨b, off, rfl, _⟩ := (HSp.out _ hk).addr (by omega)
    have y0 := fun p : KeptOf wr => ((HSp.out _ (hk.trans p.h)).pair j hlt).2.1
    have y1 := fun p : KeptOf wr => ((HSp.out _ (hk.trans p.h)).pair j hlt).2.2
    have HN := Lib.hid (all_snoc (fun p => Sp.covers (Sp.norm r) p) (0, 0) x.sp j hlt)
    have HNo := Lib.hid (all_no (fun p => Sp.covers (Sp.norm r) p) (0, 0) x.sp j hlt)
    obtain ⟨u1, u2, hu⟩ : ∃ p q, x.sp.getD j (0, 0) = (p, q) := ⟨_, _, rfl⟩
    rw [hu] at y0 y1 HN HNo
    simp only at y0 y1
    obtain ⟨v, hvv⟩ : ∃ v, v = Sp.covers (Sp.norm r) (u1, u2) := ⟨_, rfl⟩
    have hC := fun p : KeptOf wr => CC.out p.w u1 u2 (hk.trans p.h)
    rw [<- hvv] at hC
    have HV := Lib.hid hvv.symm
    clear hvv hu
    clear hlt
    have bf0 := bf ⟨wr, Keep.refl _⟩
    simp only at bf0
    cases hv : v
    ·rw [hv] at hC
     have HFF := Lib.hid (HNo.out (HV.out.trans hv))
     clear HN HNo hv HV
     go_wp2
     refine wp_region_kept (by kernel_rfl) (by kernel_rfl) ?_
     repeat (go_big_quiet_step (first | with_reducible exact KeptOf.of (hC _)))
     refine Go.wpQuiet_nil ?_
     intro _ hw'
     obtain ⟨⟨V, hw⟩, hw''⟩ := hw'
     subst hw''
     go_wp2
     go_ret
     exact ⟨ret_bool (by rw [HA.out, HFF.out]), (hkX.trans hk).trans hw⟩
    ·rw [hv] at hC
     have HFF := Lib.hid (show (x.sp.take (j + 1)).all (fun p => Sp.covers (Sp.norm r) p) = true by rw [HN.out, hall.out]; exact HV.out.trans hv)
     clear HN HNo hv HV
     go_wp2
     refine wp_region_kept (by kernel_rfl) (by kernel_rfl) ?_
     repeat (go_big_quiet_step (first | with_reducible exact KeptOf.of (hC _)))
     refine Go.wpQuiet_nil ?_
     intro _ hw'
     obtain ⟨⟨V, hw⟩, hw''⟩ := hw'
     subst hw''
     go_wp2
     go_roundw
     case rel => exact ⟨j + 1, by omega, by go_num, HFF, hk.trans hw⟩
     case measure => simp [intOf]; omega
   ·obtain rfl : j = x.sp.length := by omega
    have HFF := Lib.hid (show x.sp.all (fun p => Sp.covers (Sp.norm r) p) = true by have := hall.out; rwa [List.take_length] at this)
    have bf0 := bf ⟨wr, Keep.refl _⟩
    simp only at bf0
    go_wp2
    go_ret
    exact ⟨ret_bool (by rw [HA.out, HFF.out]), hkX.trans hk⟩
 by_cases q5 : f = 5
 ·have HA := Lib.hid (show atom f r l h x = x.vs.all (fun m => Sp.has r m) by unfold atom; rw [if_neg q1, if_neg q2, if_neg q3, if_neg q4, if_pos q5])
  have d1 : (f == 1) = false := by simpa using q1
  have d2 : (f == 2) = false := by simpa using q2
  have d3 : (f == 3) = false := by simpa using q3
  have d4 : (f == 4) = false := by simpa using q4
  have d5 : (f == 5) = true := by simpa using q5
  clear q1 q2 q3 q4 q5 hlo
  go_enter Tryz.func66, Tryz.ntmps66
  go_wp2
  rw [<- hX]
  clear hX
  go_loopw [6] (fun iv wr => ∃ j : Nat, j <= x.vs.length ∧ iv = .int .i64 j ∧ Hid ((x.vs.take j).all (fun m => Sp.has r m) = true) ∧ Keep X wr) (fun iv _ => x.vs.length - (intOf iv).toNat)
  case atStart => exact ⟨0, Nat.zero_le _, rfl, rfl, Keep.refl _⟩
  case round =>
   obtain ⟨j, hj, rfl, hall, hk⟩ := hrel
   have be := fun p : KeptOf wr => (HE.out _ (hk.trans p.h)).six.2.2.1
   have bf := fun p : KeptOf wr => (HF.out _ (hk.trans p.h)).six.2.2.2.2.1
   by_cases hlt : j < x.vs.length
   ·have hi1 : (j : Int) < x.vs.length := by omega
    have hj0 : (0 : Int) <= j := by omega
    obtain ⟨b, off, rfl, _⟩ : ∃ b off, VA = some ⟨b, off, none⟩ ∧ b < wr.heap.size := by
     obtain ⟨b, off, e, h1, _⟩ := (HVs.out _ hk).2 (by omega)
     exact ⟨b, off, e, h1⟩
    have y0 := fun p : KeptOf wr => ints_cell (HVs.out _ (hk.trans p.h)) j hlt
    have HN := Lib.hid (all_snoc (fun m => Sp.has r m) 0 x.vs j hlt)
    have HNo := Lib.hid (all_no (fun m => Sp.has r m) 0 x.vs j hlt)
    obtain ⟨u, hu⟩ : ∃ u, x.vs.getD j 0 = u := ⟨_, rfl⟩
    rw [hu] at y0 HN HNo
    obtain ⟨v, hvv⟩ : ∃ v, v = Sp.has r u := ⟨_, rfl⟩
    have hC := fun p : KeptOf wr => (CH.out p.w u (hk.trans p.h)).mono fun e w' h => (⟨h.1, h.2.keep⟩ : e = .returned (.bool (Sp.has r u)) ∧ Keep p.w w')
    rw [<- hvv] at hC
    have HV := Lib.hid hvv.symm
    clear hvv hu
    clear hlt
    have bf0 := bf ⟨wr, Keep.refl _⟩
    simp only at bf0
    cases hv : v
    ·rw [hv] at hC
     have HFF := Lib.hid (HNo.out (HV.out.trans hv))
     clear HN HNo hv HV
     go_wp2
     refine wp_region_kept (by kernel_rfl) (by kernel_rfl) ?_
     repeat (go_big_quiet_step (first | with_reducible exact KeptOf.of (hC _)))
     refine Go.wpQuiet_nil ?_
     intro _ hw'
     obtain ⟨⟨V, hw⟩, hw''⟩ := hw'
     subst hw''
     go_wp2
     go_ret
     exact ⟨ret_bool (by rw [HA.out, HFF.out]), (hkX.trans hk).trans hw⟩
    ·rw [hv] at hC
     have HFF := Lib.hid (show (x.vs.take (j + 1)).all (fun m => Sp.has r m) = true by rw [HN.out, hall.out]; exact HV.out.trans hv)
     clear HN HNo hv HV
     go_wp2
     refine wp_region_kept (by kernel_rfl) (by kernel_rfl) ?_
     repeat (go_big_quiet_step (first | with_reducible exact KeptOf.of (hC _)))
     refine Go.wpQuiet_nil ?_
     intro _ hw'
     obtain ⟨⟨V, hw⟩, hw''⟩ := hw'
     subst hw''
     go_wp2
     go_roundw
     case rel => exact ⟨j + 1, by omega, by go_num, HFF, hk.trans hw⟩
     case measure => simp [intOf]; omega
   ·obtain rfl : j = x.vs.length := by omega
    have HFF := Lib.hid (show x.vs.all (fun m => Sp.has r m) = true by have := hall.out; rwa [List.take_length] at this)
    have bf0 := bf ⟨wr, Keep.refl _⟩
    simp only at bf0
    go_wp2
    go_ret
    exact ⟨ret_bool (by rw [HA.out, HFF.out]), hkX.trans hk⟩
 have HA := Lib.hid (show atom f r l h x = real x l h by unfold atom; rw [if_neg q1, if_neg q2, if_neg q3, if_neg q4, if_neg q5])
 have d1 : (f == 1) = false := by simpa using q1
 have d2 : (f == 2) = false := by simpa using q2
 have d3 : (f == 3) = false := by simpa using q3
 have d4 : (f == 4) = false := by simpa using q4
 have d5 : (f == 5) = false := by simpa using q5
 clear q1 q2 q3 q4 q5
 obtain ⟨hl64, hh64⟩ := hlo
 cases hre : Fa.reals x.rg with
 | none =>
   have HN := Lib.hid (real_none (l := l) (h := h) hre)
   have CR2 := Lib.hid (fun W (hk : Keep X W) => (CR.out W hk).mono fun e w' hh => (by unfold RetReals at hh; rw [hre] at hh; exact hh : ∃ A c, e = .returned (.tuple #[.slice A 0 c, .bool false]) ∧ Keep W w'))
   clear hre CR
   go_enter Tryz.func66, Tryz.ntmps66
   go_wp2_with fail
   rw [<- hX]
   clear hX
   refine (CR2.out _ (Keep.refl _)).mono ?_
   rintro e w1 ⟨A, c, rfl, hk1⟩
   go_wp2
   go_loopw [8, 9] (fun ok iv wr => ok = .bool false ∧ iv = .int .i64 0 ∧ wr = w1) (fun _ _ _ => 0)
   case atStart => exact ⟨rfl, rfl, rfl⟩
   case round =>
    obtain ⟨rfl, rfl, rfl⟩ := hrel
    go_wp2
    go_ret
    exact ⟨ret_bool (by rw [HA.out, HN.out]), hkX.trans hk1⟩
 | some bs =>
   have HLB := Lib.hid (show bs.length <= 1000 from Nat.le_trans (reals_len' _ _ hre) x3)
   have HSS := Lib.hid (fun ys (hn : Near ys bs) => real_some (l := l) (h := h) hre hn)
   have CR2 := Lib.hid (fun W (hk : Keep X W) => (CR.out W hk).mono fun e w' hh => (by unfold RetReals at hh; rw [hre] at hh; exact hh : ∃ A c ys, e = .returned (.tuple #[.slice A ys.length c, .bool true]) ∧ Row encFl 1 w' w'.heap.size A ys.length ys ∧ Near ys bs ∧ Keep W w'))
   clear hre CR
   go_enter Tryz.func66, Tryz.ntmps66
   go_wp2_with fail
   rw [<- hX]
   clear hX
   refine (CR2.out _ (Keep.refl _)).mono ?_
   rintro e w1 ⟨A, c, ys, rfl, hrow, hnr, hk1⟩
   have HSS := Lib.hid (HSS.out ys hnr)
   have hys : ys.length <= 1000 := by rw [hnr.len]; exact HLB.out
   clear hnr
   go_wp2
   go_loopw [8, 9] (fun ok iv wr => ∃ j : Nat, j <= ys.length ∧ ok = .bool ((ys.take j).all fun b => withB b l h) ∧ iv = .int .i64 j ∧ Keep w1 wr) (fun _ iv _ => ys.length - (intOf iv).toNat)
   case atStart => exact ⟨0, Nat.zero_le _, rfl, rfl, Keep.refl _⟩
   case round =>
    obtain ⟨j, hj, rfl, rfl, hk⟩ := hrel
    by_cases hlt : j < ys.length
    ·have hi1 : (j : Int) < ys.length := by omega
     have hj0 : (0 : Int) <= j := by omega
     obtain ⟨b, off, rfl, _⟩ := hrow.addr (by omega)
     have y0 := fun p : KeptOf wr => (row_float (hrow.kept (hk.trans p.h)) j hlt).2
     have be := fun p : KeptOf wr => (HE.out _ ((hk1.trans hk).trans p.h)).six.2.2.2.1
     have bf := fun p : KeptOf wr => (HE.out _ ((hk1.trans hk).trans p.h)).six.2.2.2.2.1
     have HN := Lib.hid (all_snoc (fun b => withB b l h) 0 ys j hlt)
     obtain ⟨u, hu⟩ : ∃ u, ys.getD j 0 = u := ⟨_, rfl⟩
     rw [hu] at y0 HN
     have hC := fun p : KeptOf wr => (Ref3.within_any u l h p.w).mono fun e w' hh => (⟨hh.1, by rw [<- hh.2]; exact Keep.refl _⟩ : e = .returned (.bool (withB u l h)) ∧ Keep p.w w')
     clear hu hlt
     obtain ⟨v, hv⟩ : ∃ v, v = withB u l h := ⟨_, rfl⟩
     obtain ⟨z, hz⟩ : ∃ z, z = (ys.take j).all fun b => withB b l h := ⟨_, rfl⟩
     rw [<- hv] at hC HN
     rw [<- hz] at HN ⊢
     clear hv hz
     cases z
     ·go_wp2
      refine wp_region_kept (by kernel_rfl) (by kernel_rfl) ?_
      repeat (go_big_quiet_step (first | with_reducible exact KeptOf.of (hC _)))
      refine Go.wpQuiet_nil ?_
      intro _ hw'
      obtain ⟨⟨V, hw⟩, hw''⟩ := hw'
      subst hw''
      go_wp2
      go_roundw
      case rel => exact ⟨j + 1, by omega, by rw [HN.out]; rfl, by go_num, hk.trans hw⟩
      case measure => simp [intOf]; omega
     ·go_wp2
      refine wp_region_kept (by kernel_rfl) (by kernel_rfl) ?_
      repeat (go_big_quiet_step (first | with_reducible exact KeptOf.of (hC _)))
      refine Go.wpQuiet_nil ?_
      intro _ hw'
      obtain ⟨⟨V, hw⟩, hw''⟩ := hw'
      subst hw''
      go_wp2
      go_roundw
      case rel => exact ⟨j + 1, by omega, by rw [HN.out]; rfl, by go_num, hk.trans hw⟩
      case measure => simp [intOf]; omega
    ·obtain rfl : j = ys.length := by omega
     have HQ := Lib.hid (show ((ys.take ys.length).all fun b => withB b l h) = atom f r l h x by rw [List.take_length, HA.out, HSS.out])
     generalize ((ys.take ys.length).all fun b => withB b l h) = z at *
     go_wp2
     go_ret
     exact ⟨ret_bool HQ.out, (hkX.trans hk1).trans hk⟩
end Go.Proofs.YtaciogcpghbhjaaGreat.Me
/- Layer 15's reference: Holds, First. Conditions: lists of facts at most a thousand, ranges at most a hundred thousand. -/
namespace Go.Proofs.YtaciogcpghbhjaaGreat.Me
set_option linter.unusedVariables false
open Go.ChangeShapes Go.WideShapes Go.ChangeAt Go.RowKit
open Tr (kind field rs lo hi of zero zeroR dp dp_of dp_pos Ex Exs ElemAt Rus RuleAt wf fits fitsL_mem getD_mem all_snoc all_no ret_bool)
open Fa (FaAt Near near encFl RetReals row_float)
open Fp (IsN)
open Re (withB leB)
theorem holds_k1 {x : FactsP} {f : Int} {r : List (Int × Int)} {l h : Nat} {o : List ExprP} : holds x (.mk 1 f r l h o) = atom f r l h x := by rw [holds, if_pos rfl]
theorem holds_any {x : FactsP} {k f : Int} {r : List (Int × Int)} {l h : Nat} {o : List ExprP} (k1 : k ≠ 1) (k2 : k ≠ 2) (k3 : k ≠ 3) (k4 : k ≠ 4) : holds x (.mk k f r l h o) = true := by
 rw [holds, if_neg k1, if_neg k2, if_neg k3, if_neg k4]
theorem short_of {n : Nat} {e : ExprP} (h : short (n + 1) e) : (rs e).length <= 100000 ∧ ∀ y ∈ of e, short n y := h
theorem any_snoc' {α : Type} (p : α -> Bool) (z : α) (l : List α) (k : Nat) (h : k < l.length) : (l.take (k + 1)).any p = ((l.take k).any p || p (l.getD k z)) := by
 rw [Tr.take_snoc z l k h]; simp
theorem any_yes' {α : Type} (p : α -> Bool) (z : α) (l : List α) (k : Nat) (h : k < l.length) (hp : p (l.getD k z) = true) : l.any p = true := by
 rw [List.any_eq_true]
 exact ⟨_, getD_mem z l k h, hp⟩
set_option maxHeartbeats 8000000 in
theorem ref_holdsN (x : FactsP) (SA VA QA : Option Addr) (c1 c2 c3 : Nat) (h3 : x.rg.length <= c3) (h3m : c3 <= maxLen) (hx : fewF x) : ∀ (N : Nat) (e : ExprP) (RA OA : Option Addr) (rc oc : Nat) (w : World), dp e <= N -> okE e -> short N e -> Tr.right e = true -> Ex w e RA OA -> FaAt w x SA VA QA ->
  Calls Tryz.prog 45 #[.agg #[.int .i64 (kind e), .int .i64 (field e), .slice RA (rs e).length rc, .float .f64 (lo e), .float .f64 (hi e), .slice OA (of e).length oc], .agg #[.int .i64 x.cl, .int .i64 x.un, .int .i64 x.fc, .slice SA x.sp.length c1, .slice VA x.vs.length c2, .slice QA x.rg.length c3]] w fun e' w' => e' = .returned (.bool (holds x e)) ∧ Keep w w' := by
 intro N
 induction N with
 | zero => intro e RA OA rc oc w hN; exact absurd (dp_pos e) (by omega)
 | succ N ih =>
   intro e RA OA rc oc w hN hok hsh hri hE hF
   have hsub := fun y (hy : y ∈ of e) => dp_of hy
   have hoks := hok.of
   have hshs := (short_of hsh).2
   have CA := Lib.hid (fun (W : World) (hk : Keep w W) => ref_atom_any e RA OA rc oc x SA VA QA c1 c2 c3 W hok (short_of hsh).1 hx h3 h3m (hE.kept hk) (hF.kept hk))
   have hO : Exs w OA (of e) := hE.exs
   have hris : ∀ y ∈ of e, kind e ≠ 1 -> Tr.right y = true := by
    intro y hy hk
    obtain ⟨k, f, r, l, h, o⟩ := e
    simp only [of, kind] at hy hk
    rw [Tr.right, if_neg hk] at hri
    simp only [Bool.and_eq_true] at hri
    have := hri.2.2
    rw [Tr.rightL_all, List.all_eq_true] at this
    have := this y hy
    simp only [Bool.and_eq_true] at this
    exact this.2
   have hnot : kind e = 2 -> (of e).length = 1 := by
    intro hk
    obtain ⟨k, f, r, l, h, o⟩ := e
    simp only [of, kind] at hk ⊢
    subst hk
    rw [Tr.right, if_neg (by decide), Tr.manyR, if_neg (by decide), if_pos rfl] at hri
    simp only [Bool.and_eq_true, beq_iff_eq] at hri
    exact hri.2.1
   have hol : (of e).length <= 1000000 := by
    have := hok.2
    cases e
    rw [fits] at this
    exact this.1.2
   obtain ⟨k, f, r, l, h, o⟩ := e
   simp only [kind, field, rs, lo, hi, of] at CA hO hsub hoks hshs hris hnot hol ⊢
   obtain ⟨X, hX⟩ : ∃ X, X = (w.alloc (.cells #[.int .i64 k, .int .i64 f, .slice RA r.length rc, .float .f64 l, .float .f64 h, .slice OA o.length oc] 59)).alloc (.cells #[.int .i64 x.cl, .int .i64 x.un, .int .i64 x.fc, .slice SA x.sp.length c1, .slice VA x.vs.length c2, .slice QA x.rg.length c3] 54) := ⟨_, rfl⟩
   have hkX : Keep w X := by rw [hX]; exact ((Keep.refl w).alloc _).alloc _
   have bE : Bx X w.heap.size [.int .i64 k, .int .i64 f, .slice RA r.length rc, .float .f64 l, .float .f64 h, .slice OA o.length oc] := by rw [hX]; exact (Bx.newq rfl).alloc _
   have bF : Bx X (w.heap.size + 1) [.int .i64 x.cl, .int .i64 x.un, .int .i64 x.fc, .slice SA x.sp.length c1, .slice VA x.vs.length c2, .slice QA x.rg.length c3] := by rw [hX]; exact Bx.newq (by simp)
   have HE := Lib.hid (show ∀ W, Keep X W -> Bx W w.heap.size [.int .i64 k, .int .i64 f, .slice RA r.length rc, .float .f64 l, .float .f64 h, .slice OA o.length oc] from fun W hk => bE.kept hk)
   have HF := Lib.hid (show ∀ W, Keep X W -> Bx W (w.heap.size + 1) [.int .i64 x.cl, .int .i64 x.un, .int .i64 x.fc, .slice SA x.sp.length c1, .slice VA x.vs.length c2, .slice QA x.rg.length c3] from fun W hk => bF.kept hk)
   clear bE bF
   have hOX := hO.kept hkX
   have hFX := hF.kept hkX
   have CS := Lib.hid (fun (W : World) (y : ExprP) (RA' OA' : Option Addr) (rc' oc' : Nat) (hk : Keep X W) (hm : y ∈ o) (hn : k ≠ 1) (hy : Ex W y RA' OA') => ih y RA' OA' rc' oc' W (by have := hsub y hm; omega) (hoks y hm) (hshs y hm) (hris y hm hn) hy (hFX.kept hk))
   clear hO hF hE hFX ih hsub hoks hshs hris hsh hok hri hx h3 h3m hN
   have k1K : Keep w X := hkX
   by_cases q1 : k = 1
   ·have HA := Lib.hid (show atom f r l h x = holds x (.mk k f r l h o) by rw [q1, holds_k1])
    have d1 : (k == 1) = true := by simpa using q1
    clear q1 CS hnot
    go_enter Tryz.func45, Tryz.ntmps45
    go_wp2_with fail
    rw [<- hX]
    clear hX
    refine (CA.out _ k1K).mono ?_
    rintro e w1 ⟨rfl, hk1⟩
    go_wp2
    go_ret
    exact ⟨ret_bool HA.out, hkX.trans hk1⟩
   have d1 : (k == 1) = false := by simpa using q1
   replace CS := Lib.hid (fun (W : World) (y : ExprP) (RA' OA' : Option Addr) (rc' oc' : Nat) (hk : Keep X W) (hm : y ∈ o) (hy : Ex W y RA' OA') => CS.out W y RA' OA' rc' oc' hk hm q1 hy)
   clear CA
   by_cases q2 : k = 2
   ·have d2 : (k == 2) = true := by simpa using q2
    have hn1 := hnot q2
    obtain ⟨y, rfl⟩ : ∃ y, o = [y] := by
     match o, hn1 with
     | [y], _ => exact ⟨y, rfl⟩
    have HS := Lib.hid (show (!(holds x y)) = holds x (.mk k f r l h [y]) by rw [q2, holds_not])
    obtain ⟨b, off, rfl, _⟩ := hOX.addr (by simp)
    have hel := hOX.elem 0 (by simp)
    simp only [List.getD_cons_zero, Nat.zero_mul, Nat.add_zero] at hel
    obtain ⟨hbb, RA', OA', rc', oc', hx6, hy⟩ := hel
    have he := fun p : KeptOf X => hx6.kept hbb p.h
    have x0 := fun p : KeptOf X => (he p).1
    have x1 := fun p : KeptOf X => (he p).2.1
    have x2 := fun p : KeptOf X => (he p).2.2.1
    have x3 := fun p : KeptOf X => (he p).2.2.2.1
    have x4 := fun p : KeptOf X => (he p).2.2.2.2.1
    have x5 := fun p : KeptOf X => (he p).2.2.2.2.2
    have be := fun p : KeptOf X => (HE.out _ p.h).six.2.2.2.2.2
    have g0 := fun p : KeptOf X => (HF.out _ p.h).six.1
    have g1 := fun p : KeptOf X => (HF.out _ p.h).six.2.1
    have g2 := fun p : KeptOf X => (HF.out _ p.h).six.2.2.1
    have g3 := fun p : KeptOf X => (HF.out _ p.h).six.2.2.2.1
    have g4 := fun p : KeptOf X => (HF.out _ p.h).six.2.2.2.2.1
    have g5 := fun p : KeptOf X => (HF.out _ p.h).six.2.2.2.2.2
    have hC := fun p : KeptOf X => CS.out p.w y RA' OA' rc' oc' p.h (List.mem_cons_self ..) (hy.kept p.h)
    simp only [List.length_cons, List.length_nil, Nat.zero_add] at be hX
    obtain ⟨v, hv⟩ : ∃ v, v = holds x y := ⟨_, rfl⟩
    rw [<- hv] at hC HS
    clear he q1 q2 hnot hn1 hx6 hy hv hOX CS
    go_enter Tryz.func45, Tryz.ntmps45
    go_wp2_with fail
    rw [<- hX]
    clear hX
    refine wp_region_kept (by kernel_rfl) (by kernel_rfl) ?_
    repeat (go_big_quiet_step (first | with_reducible exact KeptOf.of (hC _)))
    refine Go.wpQuiet_nil ?_
    intro _ hw'
    obtain ⟨⟨V, hw⟩, hw''⟩ := hw'
    subst hw''
    go_wp2
    go_ret
    exact ⟨ret_bool HS.out, hkX.trans hw⟩
   have d2 : (k == 2) = false := by simpa using q2
   clear hnot
   by_cases q3 : k = 3
   ·have d3 : (k == 3) = true := by simpa using q3
    have HS := Lib.hid (show o.all (holds x) = holds x (.mk k f r l h o) by rw [q3, holds_and])
    clear q1 q2 q3
    go_enter Tryz.func45, Tryz.ntmps45
    go_wp2
    rw [<- hX]
    clear hX
    go_loopw [5] (fun iv wr => ∃ j : Nat, j <= o.length ∧ iv = .int .i64 j ∧ Hid ((o.take j).all (holds x) = true) ∧ Keep X wr) (fun iv _ => o.length - (intOf iv).toNat)
    case atStart => exact ⟨0, Nat.zero_le _, rfl, rfl, Keep.refl _⟩
    case round =>
     obtain ⟨j, hj, rfl, hall, hk⟩ := hrel
     have be := fun p : KeptOf wr => (HE.out _ (hk.trans p.h)).six.2.2.2.2.2
     have be0 := be ⟨wr, Keep.refl _⟩
     simp only at be0
     by_cases hlt : j < o.length
     ·have hi1 : (j : Int) < o.length := by omega
      have hj0 : (0 : Int) <= j := by omega
      have hOw := hOX.kept hk
      obtain ⟨b, off, rfl, _⟩ := hOw.addr (by omega)
      obtain ⟨hbb, RA', OA', rc', oc', hx6, hy⟩ := hOw.elem j hlt
      have he := fun p : KeptOf wr => hx6.kept hbb p.h
      have hm := getD_mem zero o j hlt
      have HN := Lib.hid (all_snoc (holds x) zero o j hlt)
      obtain ⟨y, hu⟩ : ∃ y, o.getD j zero = y := ⟨_, rfl⟩
      rw [hu] at he hm HN hy
      have x0 := fun p : KeptOf wr => (he p).1
      have x1 := fun p : KeptOf wr => (he p).2.1
      have x2 := fun p : KeptOf wr => (he p).2.2.1
      have x3 := fun p : KeptOf wr => (he p).2.2.2.1
      have x4 := fun p : KeptOf wr => (he p).2.2.2.2.1
      have x5 := fun p : KeptOf wr => (he p).2.2.2.2.2
      have g0 := fun p : KeptOf wr => (HF.out _ (hk.trans p.h)).six.1
      have g1 := fun p : KeptOf wr => (HF.out _ (hk.trans p.h)).six.2.1
      have g2 := fun p : KeptOf wr => (HF.out _ (hk.trans p.h)).six.2.2.1
      have g3 := fun p : KeptOf wr => (HF.out _ (hk.trans p.h)).six.2.2.2.1
      have g4 := fun p : KeptOf wr => (HF.out _ (hk.trans p.h)).six.2.2.2.2.1
      have g5 := fun p : KeptOf wr => (HF.out _ (hk.trans p.h)).six.2.2.2.2.2
      have hC := fun p : KeptOf wr => CS.out p.w y RA' OA' rc' oc' (hk.trans p.h) hm (hy.kept p.h)
      obtain ⟨v, hv⟩ : ∃ v, v = holds x y := ⟨_, rfl⟩
      rw [<- hv] at hC HN
      clear he hx6 hy hm hOw
      cases v
      ·have HFF := Lib.hid (show o.all (holds x) = false from all_no (holds x) zero o j hlt (by rw [hu]; exact hv.symm))
       clear HN hv hu hlt
       go_wp2
       refine wp_region_kept (by kernel_rfl) (by kernel_rfl) ?_
       repeat (go_big_quiet_step (first | with_reducible exact KeptOf.of (hC _)))
       refine Go.wpQuiet_nil ?_
       intro _ hw'
       obtain ⟨⟨V, hw⟩, hw''⟩ := hw'
       subst hw''
       go_wp2
       go_ret
       exact ⟨ret_bool (by rw [<- HS.out, HFF.out]), (hkX.trans hk).trans hw⟩
      ·have HFF := Lib.hid (show (o.take (j + 1)).all (holds x) = true by rw [HN.out, hall.out]; rfl)
       clear HN hv hu hlt
       go_wp2
       refine wp_region_kept (by kernel_rfl) (by kernel_rfl) ?_
       repeat (go_big_quiet_step (first | with_reducible exact KeptOf.of (hC _)))
       refine Go.wpQuiet_nil ?_
       intro _ hw'
       obtain ⟨⟨V, hw⟩, hw''⟩ := hw'
       subst hw''
       go_wp2
       go_roundw
       case rel => exact ⟨j + 1, by omega, by go_num, HFF, hk.trans hw⟩
       case measure => simp [intOf]; omega
     ·obtain rfl : j = o.length := by omega
      have HFF := Lib.hid (show o.all (holds x) = true by have := hall.out; rwa [List.take_length] at this)
      go_wp2
      go_ret
      exact ⟨ret_bool (by rw [<- HS.out, HFF.out]), hkX.trans hk⟩
   have d3 : (k == 3) = false := by simpa using q3
   by_cases q4 : k = 4
   ·have d4 : (k == 4) = true := by simpa using q4
    have HS := Lib.hid (show o.any (holds x) = holds x (.mk k f r l h o) by rw [q4, holds_or])
    clear q1 q2 q3 q4
    go_enter Tryz.func45, Tryz.ntmps45
    go_wp2
    rw [<- hX]
    clear hX
    go_loopw [6] (fun iv wr => ∃ j : Nat, j <= o.length ∧ iv = .int .i64 j ∧ Hid ((o.take j).any (holds x) = false) ∧ Keep X wr) (fun iv _ => o.length - (intOf iv).toNat)
    case atStart => exact ⟨0, Nat.zero_le _, rfl, rfl, Keep.refl _⟩
    case round =>
     obtain ⟨j, hj, rfl, hall, hk⟩ := hrel
     have be := fun p : KeptOf wr => (HE.out _ (hk.trans p.h)).six.2.2.2.2.2
     have be0 := be ⟨wr, Keep.refl _⟩
     simp only at be0
     by_cases hlt : j < o.length
     ·have hi1 : (j : Int) < o.length := by omega
      have hj0 : (0 : Int) <= j := by omega
      have hOw := hOX.kept hk
      obtain ⟨b, off, rfl, _⟩ := hOw.addr (by omega)
      obtain ⟨hbb, RA', OA', rc', oc', hx6, hy⟩ := hOw.elem j hlt
      have he := fun p : KeptOf wr => hx6.kept hbb p.h
      have hm := getD_mem zero o j hlt
      have HN := Lib.hid (any_snoc' (holds x) zero o j hlt)
      obtain ⟨y, hu⟩ : ∃ y, o.getD j zero = y := ⟨_, rfl⟩
      rw [hu] at he hm HN hy
      have x0 := fun p : KeptOf wr => (he p).1
      have x1 := fun p : KeptOf wr => (he p).2.1
      have x2 := fun p : KeptOf wr => (he p).2.2.1
      have x3 := fun p : KeptOf wr => (he p).2.2.2.1
      have x4 := fun p : KeptOf wr => (he p).2.2.2.2.1
      have x5 := fun p : KeptOf wr => (he p).2.2.2.2.2
      have g0 := fun p : KeptOf wr => (HF.out _ (hk.trans p.h)).six.1
      have g1 := fun p : KeptOf wr => (HF.out _ (hk.trans p.h)).six.2.1
      have g2 := fun p : KeptOf wr => (HF.out _ (hk.trans p.h)).six.2.2.1
      have g3 := fun p : KeptOf wr => (HF.out _ (hk.trans p.h)).six.2.2.2.1
      have g4 := fun p : KeptOf wr => (HF.out _ (hk.trans p.h)).six.2.2.2.2.1
      have g5 := fun p : KeptOf wr => (HF.out _ (hk.trans p.h)).six.2.2.2.2.2
      have hC := fun p : KeptOf wr => CS.out p.w y RA' OA' rc' oc' (hk.trans p.h) hm (hy.kept p.h)
      obtain ⟨v, hv⟩ : ∃ v, v = holds x y := ⟨_, rfl⟩
      rw [<- hv] at hC HN
      clear he hx6 hy hm hOw
      cases v
      ·have HFF := Lib.hid (show (o.take (j + 1)).any (holds x) = false by rw [HN.out, hall.out]; rfl)
       clear HN hv hu hlt
       go_wp2
       refine wp_region_kept (by kernel_rfl) (by kernel_rfl) ?_
       repeat (go_big_quiet_step (first | with_reducible exact KeptOf.of (hC _)))
       refine Go.wpQuiet_nil ?_
       intro _ hw'
       obtain ⟨⟨V, hw⟩, hw''⟩ := hw'
       subst hw''
       go_wp2
       go_roundw
       case rel => exact ⟨j + 1, by omega, by go_num, HFF, hk.trans hw⟩
       case measure => simp [intOf]; omega
      ·have HFF := Lib.hid (show o.any (holds x) = true from any_yes' (holds x) zero o j hlt (by rw [hu]; exact hv.symm))
       clear HN hv hu hlt
       go_wp2
       refine wp_region_kept (by kernel_rfl) (by kernel_rfl) ?_
       repeat (go_big_quiet_step (first | with_reducible exact KeptOf.of (hC _)))
       refine Go.wpQuiet_nil ?_
       intro _ hw'
       obtain ⟨⟨V, hw⟩, hw''⟩ := hw'
       subst hw''
       go_wp2
       go_ret
       exact ⟨ret_bool (by rw [<- HS.out, HFF.out]), (hkX.trans hk).trans hw⟩
     ·obtain rfl : j = o.length := by omega
      have HFF := Lib.hid (show o.any (holds x) = false by have := hall.out; rwa [List.take_length] at this)
      go_wp2
      go_ret
      exact ⟨ret_bool (by rw [<- HS.out, HFF.out]), hkX.trans hk⟩
   have d4 : (k == 4) = false := by simpa using q4
   have HS := Lib.hid (show true = holds x (.mk k f r l h o) by rw [holds_any q1 q2 q3 q4])
   clear q1 q2 q3 q4
   go_enter Tryz.func45, Tryz.ntmps45
   go_wp2
   go_ret
   exact ⟨ret_bool HS.out, by rw [<- hX]; exact hkX⟩
def okX (e : ExprP) : Prop := okE e ∧ (∀ N, short N e) ∧ Tr.right e = true
theorem firstF_step {x : FactsP} {l : List RuleP} {j : Nat} (h : j < l.length) (i : Int) : firstF x (l.drop j) i = if holds x (l.getD j zeroR).when_ then i else firstF x (l.drop (j + 1)) (i + 1) := by
 have e : l.drop j = l.getD j zeroR :: l.drop (j + 1) := by
  rw [List.drop_eq_getElem_cons h, List.getD_eq_getElem?_getD, List.getElem?_eq_getElem h]; rfl
 rw [e, firstF]
set_option maxHeartbeats 4000000 in
theorem ref_first_any (A : Option Addr) (c : Nat) (ls : List RuleP) (x : FactsP) (SA VA QA : Option Addr) (c1 c2 c3 : Nat) (w : World) (hn : ls.length <= 1000000) (hR : Rus w A ls) (hl : ∀ r ∈ ls, okX r.when_) (h3 : x.rg.length <= c3) (h3m : c3 <= maxLen) (hx : fewF x) (hF : FaAt w x SA VA QA) :
  Calls Tryz.prog 22 #[.slice A ls.length c, .agg #[.int .i64 x.cl, .int .i64 x.un, .int .i64 x.fc, .slice SA x.sp.length c1, .slice VA x.vs.length c2, .slice QA x.rg.length c3]] w fun e' w' => e' = .returned (.int .i64 (first x ls)) ∧ Keep w w' := by
 obtain ⟨X, hX⟩ : ∃ X, X = w.alloc (.cells #[.int .i64 x.cl, .int .i64 x.un, .int .i64 x.fc, .slice SA x.sp.length c1, .slice VA x.vs.length c2, .slice QA x.rg.length c3] 54) := ⟨_, rfl⟩
 have hkX : Keep w X := by rw [hX]; exact (Keep.refl w).alloc _
 have bF : Bx X w.heap.size [.int .i64 x.cl, .int .i64 x.un, .int .i64 x.fc, .slice SA x.sp.length c1, .slice VA x.vs.length c2, .slice QA x.rg.length c3] := by rw [hX]; exact Bx.newq rfl
 have HF := Lib.hid (show ∀ W, Keep X W -> Bx W w.heap.size [.int .i64 x.cl, .int .i64 x.un, .int .i64 x.fc, .slice SA x.sp.length c1, .slice VA x.vs.length c2, .slice QA x.rg.length c3] from fun W hk => bF.kept hk)
 have hFX := hF.kept hkX
 have hRX := hR.kept hkX
 have CS := Lib.hid (fun (W : World) (r : RuleP) (RA' OA' : Option Addr) (rc' oc' : Nat) (hk : Keep X W) (hm : r ∈ ls) (hy : Ex W r.when_ RA' OA') => ref_holdsN x SA VA QA c1 c2 c3 h3 h3m hx (dp r.when_) r.when_ RA' OA' rc' oc' W (Nat.le_refl _) (hl r hm).1 ((hl r hm).2.1 _) (hl r hm).2.2 hy (hFX.kept hk))
 clear bF hF hFX hR hl h3 h3m hx
 go_enter Tryz.func22, Tryz.ntmps22
 go_wp2
 rw [<- hX]
 clear hX
 go_loopw [5] (fun iv wr => ∃ j : Nat, j <= ls.length ∧ iv = .int .i64 j ∧ Hid (first x ls = firstF x (ls.drop j) j) ∧ Keep X wr) (fun iv _ => ls.length - (intOf iv).toNat)
 case atStart => exact ⟨0, Nat.zero_le _, rfl, rfl, Keep.refl _⟩
 case round =>
  obtain ⟨j, hj, rfl, hall, hk⟩ := hrel
  by_cases hlt : j < ls.length
  ·have hi1 : (j : Int) < ls.length := by omega
   have hj0 : (0 : Int) <= j := by omega
   have hOw := hRX.kept hk
   obtain ⟨b, off, rfl, _⟩ := hOw.addr (by omega)
   obtain ⟨hbb, RA', OA', rc', oc', hx11, hy⟩ := hOw.elem j hlt
   have he := fun p : KeptOf wr => hx11.kept hbb p.h
   have hm := getD_mem zeroR ls j hlt
   have HN := Lib.hid (firstF_step (x := x) hlt (j : Int))
   obtain ⟨r, hu⟩ : ∃ r, ls.getD j zeroR = r := ⟨_, rfl⟩
   rw [hu] at he hm HN hy
   obtain ⟨y, hwy⟩ : ∃ y, y = r.when_ := ⟨_, rfl⟩
   have x0 := fun p : KeptOf wr => (he p).2.1
   have x1 := fun p : KeptOf wr => (he p).2.2.1
   have x2 := fun p : KeptOf wr => (he p).2.2.2.1
   have x3 := fun p : KeptOf wr => (he p).2.2.2.2.1
   have x4 := fun p : KeptOf wr => (he p).2.2.2.2.2.1
   have x5 := fun p : KeptOf wr => (he p).2.2.2.2.2.2.1
   have g0 := fun p : KeptOf wr => (HF.out _ (hk.trans p.h)).six.1
   have g1 := fun p : KeptOf wr => (HF.out _ (hk.trans p.h)).six.2.1
   have g2 := fun p : KeptOf wr => (HF.out _ (hk.trans p.h)).six.2.2.1
   have g3 := fun p : KeptOf wr => (HF.out _ (hk.trans p.h)).six.2.2.2.1
   have g4 := fun p : KeptOf wr => (HF.out _ (hk.trans p.h)).six.2.2.2.2.1
   have g5 := fun p : KeptOf wr => (HF.out _ (hk.trans p.h)).six.2.2.2.2.2
   have hC := fun p : KeptOf wr => CS.out p.w r RA' OA' rc' oc' (hk.trans p.h) hm (hy.kept p.h)
   rw [<- hwy] at x0 x1 x2 x3 x4 x5 hC HN
   obtain ⟨v, hv⟩ : ∃ v, v = holds x y := ⟨_, rfl⟩
   rw [<- hv] at hC HN
   clear he hx11 hy hm hOw hwy hu
   cases v
   ·have HFF := Lib.hid (show first x ls = firstF x (ls.drop (j + 1)) ((j + 1 : Nat) : Int) by rw [hall.out, HN.out]; rfl)
    clear HN hv hlt
    go_wp2
    refine wp_region_kept (by kernel_rfl) (by kernel_rfl) ?_
    repeat (go_big_quiet_step (first | with_reducible exact KeptOf.of (hC _)))
    refine Go.wpQuiet_nil ?_
    intro _ hw'
    obtain ⟨⟨V, hw⟩, hw''⟩ := hw'
    subst hw''
    go_wp2
    go_roundw
    case rel => exact ⟨j + 1, by omega, by go_num, HFF, hk.trans hw⟩
    case measure => simp [intOf]; omega
   ·have HFF := Lib.hid (show first x ls = (j : Int) by rw [hall.out, HN.out]; rfl)
    clear HN hv hlt
    go_wp2
    refine wp_region_kept (by kernel_rfl) (by kernel_rfl) ?_
    repeat (go_big_quiet_step (first | with_reducible exact KeptOf.of (hC _)))
    refine Go.wpQuiet_nil ?_
    intro _ hw'
    obtain ⟨⟨V, hw⟩, hw''⟩ := hw'
    subst hw''
    go_wp2
    go_ret
    exact ⟨by rw [HFF.out]; rfl, (hkX.trans hk).trans hw⟩
  ·obtain rfl : j = ls.length := by omega
   have HFF := Lib.hid (show first x ls = -1 by rw [hall.out, List.drop_of_length_le (Nat.le_refl _)]; rfl)
   go_wp2
   go_ret
   exact ⟨by rw [HFF.out]; rfl, hkX.trans hk⟩
end Go.Proofs.YtaciogcpghbhjaaGreat.Me
