/- Layer 15's reference: Holds, First. Conditions: lists of facts at most a thousand, ranges at most a hundred thousand. -/
import Derived.Test.YtfdadlalnffdoaaMeR
import Derived.Test.YtfdadlalnffdoaaFaS
import Derived.Test.YtfdadlalnffdoaaTrRef
import Derived.Test.YtfdadlalnffdoaaTrJ
import Derived.Test.YtfdadlalnffdoaaSpJ
import Derived.Test.YtfdadlalnffdoaaBx
namespace Go.Proofs.Ytfdadlalnffdoaa.Me
set_option linter.unusedVariables false
open Go.ChangeShapes Go.WideShapes Go.ChangeAt Go.RowKit
open Tr (kind field rs lo hi of zero zeroR dp dp_of dp_pos Ex Exs ElemAt Rus RuleAt wf fits fitsL_mem getD_mem all_snoc all_no ret_bool)
open Fa (FaAt Near near encFl RetReals row_float)
open Fp (IsN)
open Re (withB leB)
theorem holds_k1 {x : FactsP} {f : Int} {r : List (Int × Int)} {l h : Nat} {o : List ExprP} : holds x (.mk 1 f r l h o) = atom f r l h x := by rw [holds, if_pos rfl]
theorem holds_any {x : FactsP} {k f : Int} {r : List (Int × Int)} {l h : Nat} {o : List ExprP} (k1 : k ≠ 1) (k2 : k ≠ 2) (k3 : k ≠ 3) (k4 : k ≠ 4) : holds x (.mk k f r l h o) = true := by
  rw [holds, if_neg k1, if_neg k2, if_neg k3, if_neg k4]
theorem short_of {n : Nat} {e : ExprP} (h : short (n + 1) e) : (rs e).length ≤ 100000 ∧ ∀ y ∈ of e, short n y := h
theorem any_snoc' {α : Type} (p : α → Bool) (z : α) (l : List α) (k : Nat) (h : k < l.length) : (l.take (k + 1)).any p = ((l.take k).any p || p (l.getD k z)) := by
  rw [Tr.take_snoc z l k h]; simp
theorem any_yes' {α : Type} (p : α → Bool) (z : α) (l : List α) (k : Nat) (h : k < l.length) (hp : p (l.getD k z) = true) : l.any p = true := by
  rw [List.any_eq_true]
  exact ⟨_, getD_mem z l k h, hp⟩
set_option maxHeartbeats 8000000 in
theorem ref_holdsN (x : FactsP) (SA VA QA : Option Addr) (c1 c2 c3 : Nat) (h3 : x.rg.length ≤ c3) (h3m : c3 ≤ maxLen) (hx : fewF x) : ∀ (N : Nat) (e : ExprP) (RA OA : Option Addr) (rc oc : Nat) (w : World), dp e ≤ N → okE e → short N e → Tr.right e = true → Ex w e RA OA → FaAt w x SA VA QA →
    Calls Try.prog 27 #[.agg #[.int .i64 (kind e), .int .i64 (field e), .slice RA (rs e).length rc, .float .f64 (lo e), .float .f64 (hi e), .slice OA (of e).length oc], .agg #[.int .i64 x.cl, .int .i64 x.un, .int .i64 x.fc, .slice SA x.sp.length c1, .slice VA x.vs.length c2, .slice QA x.rg.length c3]] w fun e' w' => e' = .returned (.bool (holds x e)) ∧ Keep w w' := by
  intro N
  induction N with
  | zero => intro e RA OA rc oc w hN; exact absurd (dp_pos e) (by omega)
  | succ N ih =>
    intro e RA OA rc oc w hN hok hsh hri hE hF
    have hsub := fun y (hy : y ∈ of e) => dp_of hy
    have hoks := hok.of
    have hshs := (short_of hsh).2
    have CA := Lib.hid (fun (W : World) (hk : Keep w W) => ref_atom_any e RA OA rc oc x SA VA QA c1 c2 c3 W hok (short_of hsh).1 hx h3 h3m (hE.kept hk) (hF.kept hk))
    have hO : Exs w OA (of e) := hE.exs
    have hris : ∀ y ∈ of e, kind e ≠ 1 → Tr.right y = true := by
      intro y hy hk
      obtain ⟨k, f, r, l, h, o⟩ := e
      simp only [of, kind] at hy hk
      rw [Tr.right, if_neg hk] at hri
      simp only [Bool.and_eq_true] at hri
      have := hri.2.2
      rw [Tr.rightL_all, List.all_eq_true] at this
      have := this y hy
      simp only [Bool.and_eq_true] at this
      exact this.2
    have hnot : kind e = 2 → (of e).length = 1 := by
      intro hk
      obtain ⟨k, f, r, l, h, o⟩ := e
      simp only [of, kind] at hk ⊢
      subst hk
      rw [Tr.right, if_neg (by decide), Tr.manyR, if_neg (by decide), if_pos rfl] at hri
      simp only [Bool.and_eq_true, beq_iff_eq] at hri
      exact hri.2.1
    have hol : (of e).length ≤ 1000000 := by
      have := hok.2
      cases e
      rw [fits] at this
      exact this.1.2
    obtain ⟨k, f, r, l, h, o⟩ := e
    simp only [kind, field, rs, lo, hi, of] at CA hO hsub hoks hshs hris hnot hol ⊢
    obtain ⟨X, hX⟩ : ∃ X, X = (w.alloc (.cells #[.int .i64 k, .int .i64 f, .slice RA r.length rc, .float .f64 l, .float .f64 h, .slice OA o.length oc] 39)).alloc (.cells #[.int .i64 x.cl, .int .i64 x.un, .int .i64 x.fc, .slice SA x.sp.length c1, .slice VA x.vs.length c2, .slice QA x.rg.length c3] 26) := ⟨_, rfl⟩
    have hkX : Keep w X := by rw [hX]; exact ((Keep.refl w).alloc _).alloc _
    have bE : Bx X w.heap.size [.int .i64 k, .int .i64 f, .slice RA r.length rc, .float .f64 l, .float .f64 h, .slice OA o.length oc] := by rw [hX]; exact (Bx.newq rfl).alloc _
    have bF : Bx X (w.heap.size + 1) [.int .i64 x.cl, .int .i64 x.un, .int .i64 x.fc, .slice SA x.sp.length c1, .slice VA x.vs.length c2, .slice QA x.rg.length c3] := by rw [hX]; exact Bx.newq (by simp)
    have HE := Lib.hid (show ∀ W, Keep X W → Bx W w.heap.size [.int .i64 k, .int .i64 f, .slice RA r.length rc, .float .f64 l, .float .f64 h, .slice OA o.length oc] from fun W hk => bE.kept hk)
    have HF := Lib.hid (show ∀ W, Keep X W → Bx W (w.heap.size + 1) [.int .i64 x.cl, .int .i64 x.un, .int .i64 x.fc, .slice SA x.sp.length c1, .slice VA x.vs.length c2, .slice QA x.rg.length c3] from fun W hk => bF.kept hk)
    clear bE bF
    have hOX := hO.kept hkX
    have hFX := hF.kept hkX
    have CS := Lib.hid (fun (W : World) (y : ExprP) (RA' OA' : Option Addr) (rc' oc' : Nat) (hk : Keep X W) (hm : y ∈ o) (hn : k ≠ 1) (hy : Ex W y RA' OA') => ih y RA' OA' rc' oc' W (by have := hsub y hm; omega) (hoks y hm) (hshs y hm) (hris y hm hn) hy (hFX.kept hk))
    clear hO hF hE hFX ih hsub hoks hshs hris hsh hok hri hx h3 h3m hN
    have k1K : Keep w X := hkX
    by_cases q1 : k = 1
    · have HA := Lib.hid (show atom f r l h x = holds x (.mk k f r l h o) by rw [q1, holds_k1])
      have d1 : (k == 1) = true := by simpa using q1
      clear q1 CS hnot
      go_enter Try.func27, Try.ntmps27
      go_wp2_with fail
      rw [← hX]
      clear hX
      refine (CA.out _ k1K).mono ?_
      rintro e w1 ⟨rfl, hk1⟩
      go_wp2
      go_ret
      exact ⟨ret_bool HA.out, hkX.trans hk1⟩
    have d1 : (k == 1) = false := by simpa using q1
    replace CS := Lib.hid (fun (W : World) (y : ExprP) (RA' OA' : Option Addr) (rc' oc' : Nat) (hk : Keep X W) (hm : y ∈ o) (hy : Ex W y RA' OA') => CS.out W y RA' OA' rc' oc' hk hm q1 hy)
    clear CA
    by_cases q2 : k = 2
    · have d2 : (k == 2) = true := by simpa using q2
      have hn1 := hnot q2
      obtain ⟨y, rfl⟩ : ∃ y, o = [y] := by
        match o, hn1 with
        | [y], _ => exact ⟨y, rfl⟩
      have HS := Lib.hid (show (!(holds x y)) = holds x (.mk k f r l h [y]) by rw [q2, holds_not])
      obtain ⟨b, off, rfl, _⟩ := hOX.addr (by simp)
      have hel := hOX.elem 0 (by simp)
      simp only [List.getD_cons_zero, Nat.zero_mul, Nat.add_zero] at hel
      obtain ⟨hbb, RA', OA', rc', oc', hx6, hy⟩ := hel
      have he := fun p : KeptOf X => hx6.kept hbb p.h
      have x0 := fun p : KeptOf X => (he p).1
      have x1 := fun p : KeptOf X => (he p).2.1
      have x2 := fun p : KeptOf X => (he p).2.2.1
      have x3 := fun p : KeptOf X => (he p).2.2.2.1
      have x4 := fun p : KeptOf X => (he p).2.2.2.2.1
      have x5 := fun p : KeptOf X => (he p).2.2.2.2.2
      have be := fun p : KeptOf X => (HE.out _ p.h).six.2.2.2.2.2
      have g0 := fun p : KeptOf X => (HF.out _ p.h).six.1
      have g1 := fun p : KeptOf X => (HF.out _ p.h).six.2.1
      have g2 := fun p : KeptOf X => (HF.out _ p.h).six.2.2.1
      have g3 := fun p : KeptOf X => (HF.out _ p.h).six.2.2.2.1
      have g4 := fun p : KeptOf X => (HF.out _ p.h).six.2.2.2.2.1
      have g5 := fun p : KeptOf X => (HF.out _ p.h).six.2.2.2.2.2
      have hC := fun p : KeptOf X => CS.out p.w y RA' OA' rc' oc' p.h (List.mem_cons_self ..) (hy.kept p.h)
      simp only [List.length_cons, List.length_nil, Nat.zero_add] at be hX
      obtain ⟨v, hv⟩ : ∃ v, v = holds x y := ⟨_, rfl⟩
      rw [← hv] at hC HS
      clear he q1 q2 hnot hn1 hx6 hy hv hOX CS
      go_enter Try.func27, Try.ntmps27
      go_wp2_with fail
      rw [← hX]
      clear hX
      refine wp_region_kept (by kernel_rfl) (by kernel_rfl) ?_
      repeat (go_big_quiet_step (first | with_reducible exact KeptOf.of (hC _)))
      refine Go.wpQuiet_nil ?_
      intro _ hw'
      obtain ⟨⟨V, hw⟩, hw''⟩ := hw'
      subst hw''
      go_wp2
      go_ret
      exact ⟨ret_bool HS.out, hkX.trans hw⟩
    have d2 : (k == 2) = false := by simpa using q2
    clear hnot
    by_cases q3 : k = 3
    · have d3 : (k == 3) = true := by simpa using q3
      have HS := Lib.hid (show o.all (holds x) = holds x (.mk k f r l h o) by rw [q3, holds_and])
      clear q1 q2 q3
      go_enter Try.func27, Try.ntmps27
      go_wp2
      rw [← hX]
      clear hX
      go_loopw [5] (fun iv wr => ∃ j : Nat, j ≤ o.length ∧ iv = .int .i64 j ∧ Hid ((o.take j).all (holds x) = true) ∧ Keep X wr) (fun iv _ => o.length - (intOf iv).toNat)
      case atStart => exact ⟨0, Nat.zero_le _, rfl, rfl, Keep.refl _⟩
      case round =>
        obtain ⟨j, hj, rfl, hall, hk⟩ := hrel
        have be := fun p : KeptOf wr => (HE.out _ (hk.trans p.h)).six.2.2.2.2.2
        have be0 := be ⟨wr, Keep.refl _⟩
        simp only at be0
        by_cases hlt : j < o.length
        · have hi1 : (j : Int) < o.length := by omega
          have hj0 : (0 : Int) ≤ j := by omega
          have hOw := hOX.kept hk
          obtain ⟨b, off, rfl, _⟩ := hOw.addr (by omega)
          obtain ⟨hbb, RA', OA', rc', oc', hx6, hy⟩ := hOw.elem j hlt
          have he := fun p : KeptOf wr => hx6.kept hbb p.h
          have hm := getD_mem zero o j hlt
          have HN := Lib.hid (all_snoc (holds x) zero o j hlt)
          obtain ⟨y, hu⟩ : ∃ y, o.getD j zero = y := ⟨_, rfl⟩
          rw [hu] at he hm HN hy
          have x0 := fun p : KeptOf wr => (he p).1
          have x1 := fun p : KeptOf wr => (he p).2.1
          have x2 := fun p : KeptOf wr => (he p).2.2.1
          have x3 := fun p : KeptOf wr => (he p).2.2.2.1
          have x4 := fun p : KeptOf wr => (he p).2.2.2.2.1
          have x5 := fun p : KeptOf wr => (he p).2.2.2.2.2
          have g0 := fun p : KeptOf wr => (HF.out _ (hk.trans p.h)).six.1
          have g1 := fun p : KeptOf wr => (HF.out _ (hk.trans p.h)).six.2.1
          have g2 := fun p : KeptOf wr => (HF.out _ (hk.trans p.h)).six.2.2.1
          have g3 := fun p : KeptOf wr => (HF.out _ (hk.trans p.h)).six.2.2.2.1
          have g4 := fun p : KeptOf wr => (HF.out _ (hk.trans p.h)).six.2.2.2.2.1
          have g5 := fun p : KeptOf wr => (HF.out _ (hk.trans p.h)).six.2.2.2.2.2
          have hC := fun p : KeptOf wr => CS.out p.w y RA' OA' rc' oc' (hk.trans p.h) hm (hy.kept p.h)
          obtain ⟨v, hv⟩ : ∃ v, v = holds x y := ⟨_, rfl⟩
          rw [← hv] at hC HN
          clear he hx6 hy hm hOw
          cases v
          · have HFF := Lib.hid (show o.all (holds x) = false from all_no (holds x) zero o j hlt (by rw [hu]; exact hv.symm))
            clear HN hv hu hlt
            go_wp2
            refine wp_region_kept (by kernel_rfl) (by kernel_rfl) ?_
            repeat (go_big_quiet_step (first | with_reducible exact KeptOf.of (hC _)))
            refine Go.wpQuiet_nil ?_
            intro _ hw'
            obtain ⟨⟨V, hw⟩, hw''⟩ := hw'
            subst hw''
            go_wp2
            go_ret
            exact ⟨ret_bool (by rw [← HS.out, HFF.out]), (hkX.trans hk).trans hw⟩
          · have HFF := Lib.hid (show (o.take (j + 1)).all (holds x) = true by rw [HN.out, hall.out]; rfl)
            clear HN hv hu hlt
            go_wp2
            refine wp_region_kept (by kernel_rfl) (by kernel_rfl) ?_
            repeat (go_big_quiet_step (first | with_reducible exact KeptOf.of (hC _)))
            refine Go.wpQuiet_nil ?_
            intro _ hw'
            obtain ⟨⟨V, hw⟩, hw''⟩ := hw'
            subst hw''
            go_wp2
            go_roundw
            case rel => exact ⟨j + 1, by omega, by go_num, HFF, hk.trans hw⟩
            case measure => simp [intOf]; omega
        · obtain rfl : j = o.length := by omega
          have HFF := Lib.hid (show o.all (holds x) = true by have := hall.out; rwa [List.take_length] at this)
          go_wp2
          go_ret
          exact ⟨ret_bool (by rw [← HS.out, HFF.out]), hkX.trans hk⟩
    have d3 : (k == 3) = false := by simpa using q3
    by_cases q4 : k = 4
    · have d4 : (k == 4) = true := by simpa using q4
      have HS := Lib.hid (show o.any (holds x) = holds x (.mk k f r l h o) by rw [q4, holds_or])
      clear q1 q2 q3 q4
      go_enter Try.func27, Try.ntmps27
      go_wp2
      rw [← hX]
      clear hX
      go_loopw [6] (fun iv wr => ∃ j : Nat, j ≤ o.length ∧ iv = .int .i64 j ∧ Hid ((o.take j).any (holds x) = false) ∧ Keep X wr) (fun iv _ => o.length - (intOf iv).toNat)
      case atStart => exact ⟨0, Nat.zero_le _, rfl, rfl, Keep.refl _⟩
      case round =>
        obtain ⟨j, hj, rfl, hall, hk⟩ := hrel
        have be := fun p : KeptOf wr => (HE.out _ (hk.trans p.h)).six.2.2.2.2.2
        have be0 := be ⟨wr, Keep.refl _⟩
        simp only at be0
        by_cases hlt : j < o.length
        · have hi1 : (j : Int) < o.length := by omega
          have hj0 : (0 : Int) ≤ j := by omega
          have hOw := hOX.kept hk
          obtain ⟨b, off, rfl, _⟩ := hOw.addr (by omega)
          obtain ⟨hbb, RA', OA', rc', oc', hx6, hy⟩ := hOw.elem j hlt
          have he := fun p : KeptOf wr => hx6.kept hbb p.h
          have hm := getD_mem zero o j hlt
          have HN := Lib.hid (any_snoc' (holds x) zero o j hlt)
          obtain ⟨y, hu⟩ : ∃ y, o.getD j zero = y := ⟨_, rfl⟩
          rw [hu] at he hm HN hy
          have x0 := fun p : KeptOf wr => (he p).1
          have x1 := fun p : KeptOf wr => (he p).2.1
          have x2 := fun p : KeptOf wr => (he p).2.2.1
          have x3 := fun p : KeptOf wr => (he p).2.2.2.1
          have x4 := fun p : KeptOf wr => (he p).2.2.2.2.1
          have x5 := fun p : KeptOf wr => (he p).2.2.2.2.2
          have g0 := fun p : KeptOf wr => (HF.out _ (hk.trans p.h)).six.1
          have g1 := fun p : KeptOf wr => (HF.out _ (hk.trans p.h)).six.2.1
          have g2 := fun p : KeptOf wr => (HF.out _ (hk.trans p.h)).six.2.2.1
          have g3 := fun p : KeptOf wr => (HF.out _ (hk.trans p.h)).six.2.2.2.1
          have g4 := fun p : KeptOf wr => (HF.out _ (hk.trans p.h)).six.2.2.2.2.1
          have g5 := fun p : KeptOf wr => (HF.out _ (hk.trans p.h)).six.2.2.2.2.2
          have hC := fun p : KeptOf wr => CS.out p.w y RA' OA' rc' oc' (hk.trans p.h) hm (hy.kept p.h)
          obtain ⟨v, hv⟩ : ∃ v, v = holds x y := ⟨_, rfl⟩
          rw [← hv] at hC HN
          clear he hx6 hy hm hOw
          cases v
          · have HFF := Lib.hid (show (o.take (j + 1)).any (holds x) = false by rw [HN.out, hall.out]; rfl)
            clear HN hv hu hlt
            go_wp2
            refine wp_region_kept (by kernel_rfl) (by kernel_rfl) ?_
            repeat (go_big_quiet_step (first | with_reducible exact KeptOf.of (hC _)))
            refine Go.wpQuiet_nil ?_
            intro _ hw'
            obtain ⟨⟨V, hw⟩, hw''⟩ := hw'
            subst hw''
            go_wp2
            go_roundw
            case rel => exact ⟨j + 1, by omega, by go_num, HFF, hk.trans hw⟩
            case measure => simp [intOf]; omega
          · have HFF := Lib.hid (show o.any (holds x) = true from any_yes' (holds x) zero o j hlt (by rw [hu]; exact hv.symm))
            clear HN hv hu hlt
            go_wp2
            refine wp_region_kept (by kernel_rfl) (by kernel_rfl) ?_
            repeat (go_big_quiet_step (first | with_reducible exact KeptOf.of (hC _)))
            refine Go.wpQuiet_nil ?_
            intro _ hw'
            obtain ⟨⟨V, hw⟩, hw''⟩ := hw'
            subst hw''
            go_wp2
            go_ret
            exact ⟨ret_bool (by rw [← HS.out, HFF.out]), (hkX.trans hk).trans hw⟩
        · obtain rfl : j = o.length := by omega
          have HFF := Lib.hid (show o.any (holds x) = false by have := hall.out; rwa [List.take_length] at this)
          go_wp2
          go_ret
          exact ⟨ret_bool (by rw [← HS.out, HFF.out]), hkX.trans hk⟩
    have d4 : (k == 4) = false := by simpa using q4
    have HS := Lib.hid (show true = holds x (.mk k f r l h o) by rw [holds_any q1 q2 q3 q4])
    clear q1 q2 q3 q4
    go_enter Try.func27, Try.ntmps27
    go_wp2
    go_ret
    exact ⟨ret_bool HS.out, by rw [← hX]; exact hkX⟩
/-- An expression that may be, and is short. -/
def okX (e : ExprP) : Prop := okE e ∧ (∀ N, short N e) ∧ Tr.right e = true
theorem firstF_step {x : FactsP} {l : List RuleP} {j : Nat} (h : j < l.length) (i : Int) : firstF x (l.drop j) i = if holds x (l.getD j zeroR).when_ then i else firstF x (l.drop (j + 1)) (i + 1) := by
  have e : l.drop j = l.getD j zeroR :: l.drop (j + 1) := by
    rw [List.drop_eq_getElem_cons h, List.getD_eq_getElem?_getD, List.getElem?_eq_getElem h]; rfl
  rw [e, firstF]
set_option maxHeartbeats 4000000 in
theorem ref_first_any (A : Option Addr) (c : Nat) (ls : List RuleP) (x : FactsP) (SA VA QA : Option Addr) (c1 c2 c3 : Nat) (w : World) (hn : ls.length ≤ 1000000) (hR : Rus w A ls) (hl : ∀ r ∈ ls, okX r.when_) (h3 : x.rg.length ≤ c3) (h3m : c3 ≤ maxLen) (hx : fewF x) (hF : FaAt w x SA VA QA) :
    Calls Try.prog 16 #[.slice A ls.length c, .agg #[.int .i64 x.cl, .int .i64 x.un, .int .i64 x.fc, .slice SA x.sp.length c1, .slice VA x.vs.length c2, .slice QA x.rg.length c3]] w fun e' w' => e' = .returned (.int .i64 (first x ls)) ∧ Keep w w' := by
  obtain ⟨X, hX⟩ : ∃ X, X = w.alloc (.cells #[.int .i64 x.cl, .int .i64 x.un, .int .i64 x.fc, .slice SA x.sp.length c1, .slice VA x.vs.length c2, .slice QA x.rg.length c3] 26) := ⟨_, rfl⟩
  have hkX : Keep w X := by rw [hX]; exact (Keep.refl w).alloc _
  have bF : Bx X w.heap.size [.int .i64 x.cl, .int .i64 x.un, .int .i64 x.fc, .slice SA x.sp.length c1, .slice VA x.vs.length c2, .slice QA x.rg.length c3] := by rw [hX]; exact Bx.newq rfl
  have HF := Lib.hid (show ∀ W, Keep X W → Bx W w.heap.size [.int .i64 x.cl, .int .i64 x.un, .int .i64 x.fc, .slice SA x.sp.length c1, .slice VA x.vs.length c2, .slice QA x.rg.length c3] from fun W hk => bF.kept hk)
  have hFX := hF.kept hkX
  have hRX := hR.kept hkX
  have CS := Lib.hid (fun (W : World) (r : RuleP) (RA' OA' : Option Addr) (rc' oc' : Nat) (hk : Keep X W) (hm : r ∈ ls) (hy : Ex W r.when_ RA' OA') => ref_holdsN x SA VA QA c1 c2 c3 h3 h3m hx (dp r.when_) r.when_ RA' OA' rc' oc' W (Nat.le_refl _) (hl r hm).1 ((hl r hm).2.1 _) (hl r hm).2.2 hy (hFX.kept hk))
  clear bF hF hFX hR hl h3 h3m hx
  go_enter Try.func16, Try.ntmps16
  go_wp2
  rw [← hX]
  clear hX
  go_loopw [5] (fun iv wr => ∃ j : Nat, j ≤ ls.length ∧ iv = .int .i64 j ∧ Hid (first x ls = firstF x (ls.drop j) j) ∧ Keep X wr) (fun iv _ => ls.length - (intOf iv).toNat)
  case atStart => exact ⟨0, Nat.zero_le _, rfl, rfl, Keep.refl _⟩
  case round =>
    obtain ⟨j, hj, rfl, hall, hk⟩ := hrel
    by_cases hlt : j < ls.length
    · have hi1 : (j : Int) < ls.length := by omega
      have hj0 : (0 : Int) ≤ j := by omega
      have hOw := hRX.kept hk
      obtain ⟨b, off, rfl, _⟩ := hOw.addr (by omega)
      obtain ⟨hbb, RA', OA', rc', oc', hx11, hy⟩ := hOw.elem j hlt
      have he := fun p : KeptOf wr => hx11.kept hbb p.h
      have hm := getD_mem zeroR ls j hlt
      have HN := Lib.hid (firstF_step (x := x) hlt (j : Int))
      obtain ⟨r, hu⟩ : ∃ r, ls.getD j zeroR = r := ⟨_, rfl⟩
      rw [hu] at he hm HN hy
      obtain ⟨y, hwy⟩ : ∃ y, y = r.when_ := ⟨_, rfl⟩
      have x0 := fun p : KeptOf wr => (he p).2.1
      have x1 := fun p : KeptOf wr => (he p).2.2.1
      have x2 := fun p : KeptOf wr => (he p).2.2.2.1
      have x3 := fun p : KeptOf wr => (he p).2.2.2.2.1
      have x4 := fun p : KeptOf wr => (he p).2.2.2.2.2.1
      have x5 := fun p : KeptOf wr => (he p).2.2.2.2.2.2.1
      have g0 := fun p : KeptOf wr => (HF.out _ (hk.trans p.h)).six.1
      have g1 := fun p : KeptOf wr => (HF.out _ (hk.trans p.h)).six.2.1
      have g2 := fun p : KeptOf wr => (HF.out _ (hk.trans p.h)).six.2.2.1
      have g3 := fun p : KeptOf wr => (HF.out _ (hk.trans p.h)).six.2.2.2.1
      have g4 := fun p : KeptOf wr => (HF.out _ (hk.trans p.h)).six.2.2.2.2.1
      have g5 := fun p : KeptOf wr => (HF.out _ (hk.trans p.h)).six.2.2.2.2.2
      have hC := fun p : KeptOf wr => CS.out p.w r RA' OA' rc' oc' (hk.trans p.h) hm (hy.kept p.h)
      rw [← hwy] at x0 x1 x2 x3 x4 x5 hC HN
      obtain ⟨v, hv⟩ : ∃ v, v = holds x y := ⟨_, rfl⟩
      rw [← hv] at hC HN
      clear he hx11 hy hm hOw hwy hu
      cases v
      · have HFF := Lib.hid (show first x ls = firstF x (ls.drop (j + 1)) ((j + 1 : Nat) : Int) by rw [hall.out, HN.out]; rfl)
        clear HN hv hlt
        go_wp2
        refine wp_region_kept (by kernel_rfl) (by kernel_rfl) ?_
        repeat (go_big_quiet_step (first | with_reducible exact KeptOf.of (hC _)))
        refine Go.wpQuiet_nil ?_
        intro _ hw'
        obtain ⟨⟨V, hw⟩, hw''⟩ := hw'
        subst hw''
        go_wp2
        go_roundw
        case rel => exact ⟨j + 1, by omega, by go_num, HFF, hk.trans hw⟩
        case measure => simp [intOf]; omega
      · have HFF := Lib.hid (show first x ls = (j : Int) by rw [hall.out, HN.out]; rfl)
        clear HN hv hlt
        go_wp2
        refine wp_region_kept (by kernel_rfl) (by kernel_rfl) ?_
        repeat (go_big_quiet_step (first | with_reducible exact KeptOf.of (hC _)))
        refine Go.wpQuiet_nil ?_
        intro _ hw'
        obtain ⟨⟨V, hw⟩, hw''⟩ := hw'
        subst hw''
        go_wp2
        go_ret
        exact ⟨by rw [HFF.out]; rfl, (hkX.trans hk).trans hw⟩
    · obtain rfl : j = ls.length := by omega
      have HFF := Lib.hid (show first x ls = -1 by rw [hall.out, List.drop_of_length_le (Nat.le_refl _)]; rfl)
      go_wp2
      go_ret
      exact ⟨by rw [HFF.out]; rfl, hkX.trans hk⟩
end Go.Proofs.Ytfdadlalnffdoaa.Me
