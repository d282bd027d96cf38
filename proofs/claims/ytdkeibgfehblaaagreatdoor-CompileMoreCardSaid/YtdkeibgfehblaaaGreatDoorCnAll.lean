/- Several texts in one: Cn, Cn2, Cn3. Conditions: as each part says. -/
import Derived.Test.YtdkeibgfehblaaaGreatDoorCmAll
import Derived.Test.YtdkeibgfehblaaaGreatDoorNtA
import Derived.Test.YtdkeibgfehblaaaGreatDoorTrDev
/- The developers' compile: sameness, leaves, tests, order. Conditions: lists at most a million, of atoms whose lists are short. -/
namespace Go.Proofs.YtdkeibgfehblaaaGreatDoor.Cm
set_option linter.unusedVariables false
set_option maxRecDepth 100000
open Go.ChangeShapes Go.WideShapes Go.ChangeAt Go.RowKit
open Tr
open Nd
open Cp (sameN bare test rightF leafP)
open Tree (eqL eqL_at eqL_nil eqL_len)
set_option maxHeartbeats 4000000 in
theorem isSame_any (x y : NodeP) (RA OA : Option Addr) (rc oc : Nat) (RA' OA' : Option Addr) (rc' oc' : Nat) (w : World) (ht : Tab w) (hfit : fits x.atom) (hfit' : fits y.atom) (hE : Ex w x.atom RA OA) (hE' : Ex w y.atom RA' OA') :
    Calls Tryz.prog 27 #[.agg #[.bool x.leaf, .int .i64 x.rule, .int .i64 (kind x.atom), .int .i64 (field x.atom), .slice RA (rs x.atom).length rc, .float .f64 (lo x.atom), .float .f64 (hi x.atom), .slice OA (of x.atom).length oc, .int .i64 x.yes, .int .i64 x.no], .agg #[.bool y.leaf, .int .i64 y.rule, .int .i64 (kind y.atom), .int .i64 (field y.atom), .slice RA' (rs y.atom).length rc', .float .f64 (lo y.atom), .float .f64 (hi y.atom), .slice OA' (of y.atom).length oc', .int .i64 y.yes, .int .i64 y.no]] w fun e w' => e = .returned (.bool (sameN x y)) ∧ Keep w w' := by
  have CS := Lib.hid (fun (W : World) (hk : Keep w W) => Tree.same_any x.atom y.atom RA OA rc oc RA' OA' rc' oc' W (ht.keep hk) hfit hfit' (hE.kept hk) (hE'.kept hk))
  clear hfit hfit' hE hE' ht
  rcases (Classical.em (x.leaf = y.leaf)).symm with t0 | t0
  · have d0 : (x.leaf == y.leaf) = false := by simpa using t0
    have HS := Lib.hid (show sameN x y = false by rw [sameN, d0]; simp)
    clear t0 CS
    go_enter Tryz.func27, Tryz.ntmps27
    go_wp2
    go_ret
    exact ⟨ret_bool HS.out.symm, ((Keep.refl w).alloc _).alloc _⟩
  have d0 : (x.leaf == y.leaf) = true := by simpa using t0
  clear t0
  rcases (Classical.em (x.rule = y.rule)).symm with t1 | t1
  · have d1 : (x.rule == y.rule) = false := by simpa using t1
    have HS := Lib.hid (show sameN x y = false by rw [sameN, d1]; simp)
    clear t1 CS
    go_enter Tryz.func27, Tryz.ntmps27
    go_wp2
    go_ret
    exact ⟨ret_bool HS.out.symm, ((Keep.refl w).alloc _).alloc _⟩
  have d1 : (x.rule == y.rule) = true := by simpa using t1
  clear t1
  rcases (Classical.em (x.yes = y.yes)).symm with t2 | t2
  · have d2 : (x.yes == y.yes) = false := by simpa using t2
    have HS := Lib.hid (show sameN x y = false by rw [sameN, d2]; simp)
    clear t2 CS
    go_enter Tryz.func27, Tryz.ntmps27
    go_wp2
    go_ret
    exact ⟨ret_bool HS.out.symm, ((Keep.refl w).alloc _).alloc _⟩
  have d2 : (x.yes == y.yes) = true := by simpa using t2
  clear t2
  rcases (Classical.em (x.no = y.no)).symm with t3 | t3
  · have d3 : (x.no == y.no) = false := by simpa using t3
    have HS := Lib.hid (show sameN x y = false by rw [sameN, d3]; simp)
    clear t3 CS
    go_enter Tryz.func27, Tryz.ntmps27
    go_wp2
    go_ret
    exact ⟨ret_bool HS.out.symm, ((Keep.refl w).alloc _).alloc _⟩
  have d3 : (x.no == y.no) = true := by simpa using t3
  clear t3
  have HS := Lib.hid (show sameN x y = same x.atom y.atom by rw [sameN, d0, d1, d2, d3]; rfl)
  obtain ⟨X, hX⟩ : ∃ X, X = (w.alloc (.cells #[.bool x.leaf, .int .i64 x.rule, .int .i64 (kind x.atom), .int .i64 (field x.atom), .slice RA (rs x.atom).length rc, .float .f64 (lo x.atom), .float .f64 (hi x.atom), .slice OA (of x.atom).length oc, .int .i64 x.yes, .int .i64 x.no] 37)).alloc (.cells #[.bool y.leaf, .int .i64 y.rule, .int .i64 (kind y.atom), .int .i64 (field y.atom), .slice RA' (rs y.atom).length rc', .float .f64 (lo y.atom), .float .f64 (hi y.atom), .slice OA' (of y.atom).length oc', .int .i64 y.yes, .int .i64 y.no] 37) := ⟨_, rfl⟩
  have hkX : Keep w X := by rw [hX]; exact ((Keep.refl w).alloc _).alloc _
  have hC := CS.out X hkX
  rw [← HS.out] at hC
  replace hC := Lib.hid hC
  clear CS
  go_enter Tryz.func27, Tryz.ntmps27
  go_wp2_with fail
  rw [← hX]
  clear hX
  refine hC.out.mono ?_
  rintro e w1 ⟨rfl, hk1⟩
  go_wp2
  go_ret
  exact ⟨rfl, hkX.trans hk1⟩
/-- What the developers ask of a leaf. -/
def leafB (x : NodeP) : Bool := x.leaf && bare x
theorem leafB_is (x : NodeP) : leafB x = (decide (-1 ≤ x.rule) && sameN x (leafP x.rule)) := by
  unfold leafB bare sameN leafP
  cases x.leaf <;> simp [Bool.and_assoc]
set_option maxHeartbeats 4000000 in
theorem isLeaf_any (x : NodeP) (RA OA : Option Addr) (rc oc : Nat) (w : World) (ht : Tab w) (hfit : fits x.atom) (hE : Ex w x.atom RA OA) :
    Calls Tryz.prog 22 #[.agg #[.bool x.leaf, .int .i64 x.rule, .int .i64 (kind x.atom), .int .i64 (field x.atom), .slice RA (rs x.atom).length rc, .float .f64 (lo x.atom), .float .f64 (hi x.atom), .slice OA (of x.atom).length oc, .int .i64 x.yes, .int .i64 x.no]] w fun e w' => e = .returned (.bool (leafB x)) ∧ Keep w w' := by
  rw [leafB_is]
  have CS := Lib.hid (fun (W : World) (hk : Keep w W) => isSame_any x (leafP x.rule) RA OA rc oc none none 0 0 W (ht.keep hk) hfit fits_zero (hE.kept hk) (exZ W))
  clear hfit hE ht
  rcases (Classical.em (-1 ≤ x.rule)).symm with t0 | t0
  · have d0 : decide (-1 ≤ x.rule) = false := by simpa using t0
    have HS := Lib.hid (show (decide (-1 ≤ x.rule) && sameN x (leafP x.rule)) = false by rw [d0]; rfl)
    clear t0 CS
    go_enter Tryz.func22, Tryz.ntmps22
    go_wp2
    go_ret
    exact ⟨ret_bool HS.out.symm, (Keep.refl w).alloc _⟩
  have d0 : decide (-1 ≤ x.rule) = true := by simpa using t0
  clear t0
  obtain ⟨X, hX⟩ : ∃ X, X = w.alloc (.cells #[.bool x.leaf, .int .i64 x.rule, .int .i64 (kind x.atom), .int .i64 (field x.atom), .slice RA (rs x.atom).length rc, .float .f64 (lo x.atom), .float .f64 (hi x.atom), .slice OA (of x.atom).length oc, .int .i64 x.yes, .int .i64 x.no] 37) := ⟨_, rfl⟩
  have hkX : Keep w X := by rw [hX]; exact (Keep.refl w).alloc _
  have hC := Lib.hid (CS.out X hkX)
  have HS := Lib.hid (show (decide (-1 ≤ x.rule) && sameN x (leafP x.rule)) = sameN x (leafP x.rule) by rw [d0]; rfl)
  clear CS
  go_enter Tryz.func22, Tryz.ntmps22
  go_wp2_with fail
  rw [← hX]
  clear hX
  refine hC.out.mono ?_
  rintro e w1 ⟨rfl, hk1⟩
  go_wp2
  go_ret
  exact ⟨ret_bool HS.out.symm, hkX.trans hk1⟩
def ahead (n i : Int) : Bool := decide (0 ≤ n) && decide (n < i)
set_option maxHeartbeats 1000000 in
theorem isAhead_any (n i : Int) (w : World) : Calls Tryz.prog 38 #[.int .i64 n, .int .i64 i] w fun e w' => e = .returned (.bool (ahead n i)) ∧ Keep w w' := by
  unfold ahead
  cases d0 : decide (0 ≤ n) with
  | false =>
    go_enter Tryz.func38, Tryz.ntmps38
    go_wp2
    go_ret
    exact ⟨rfl, Keep.refl w⟩
  | true =>
    cases d1 : decide (n < i) with
    | false =>
      go_enter Tryz.func38, Tryz.ntmps38
      go_wp2
      go_ret
      exact ⟨rfl, Keep.refl w⟩
    | true =>
      go_enter Tryz.func38, Tryz.ntmps38
      go_wp2
      go_ret
      exact ⟨rfl, Keep.refl w⟩
end Go.Proofs.YtdkeibgfehblaaaGreatDoor.Cm
/- The developers' compile: tests, order. Conditions: lists at most a million, of atoms whose lists are short. -/
namespace Go.Proofs.YtdkeibgfehblaaaGreatDoor.Cm
set_option linter.unusedVariables false
set_option maxRecDepth 100000
open Go.ChangeShapes Go.WideShapes Go.ChangeAt Go.RowKit
open Tr
open Nd
open Cp (sameN bare test rightF leafP)
open Tree (eqL eqL_at eqL_nil eqL_len)
set_option maxHeartbeats 4000000 in
theorem isTest_any (x : NodeP) (i : Int) (RA OA : Option Addr) (rc oc : Nat) (w : World) (ht : Tab w) (hfit : fits x.atom) (hE : Ex w x.atom RA OA) :
    Calls Tryz.prog 23 #[.agg #[.bool x.leaf, .int .i64 x.rule, .int .i64 (kind x.atom), .int .i64 (field x.atom), .slice RA (rs x.atom).length rc, .float .f64 (lo x.atom), .float .f64 (hi x.atom), .slice OA (of x.atom).length oc, .int .i64 x.yes, .int .i64 x.no], .int .i64 i] w fun e w' => e = .returned (.bool (test x i)) ∧ Keep w w' := by
  have CR := Lib.hid (fun (W : World) (hk : Keep w W) => Tree.right_any x.atom RA OA rc oc W (ht.keep hk) hfit (hE.kept hk))
  clear hfit hE ht
  obtain ⟨lf, hlf⟩ : ∃ lf, x.leaf = lf := ⟨_, rfl⟩
  rw [hlf]
  cases lf with
  | true =>
    have HS := Lib.hid (show test x i = false by rw [Cp.test, hlf]; simp)
    clear CR hlf
    go_enter Tryz.func23, Tryz.ntmps23
    go_wp2
    go_ret
    exact ⟨ret_bool HS.out.symm, (Keep.refl w).alloc _⟩
  | false =>
  have hlf2 := Lib.hid hlf
  clear hlf
  rcases (Classical.em (x.rule = 0)).symm with t0 | t0
  · have d0 : (x.rule == 0) = false := by simpa using t0
    have HS := Lib.hid (show test x i = false by rw [Cp.test, d0]; simp)
    clear t0 CR
    go_enter Tryz.func23, Tryz.ntmps23
    go_wp2
    go_ret
    exact ⟨ret_bool HS.out.symm, (Keep.refl w).alloc _⟩
  have d0 : (x.rule == 0) = true := by simpa using t0
  clear t0
  rcases (Classical.em (kind x.atom = 1)).symm with t1 | t1
  · have d1 : (kind x.atom == 1) = false := by simpa using t1
    have HS := Lib.hid (show test x i = false by rw [Cp.test, d1]; simp)
    clear t1 CR
    go_enter Tryz.func23, Tryz.ntmps23
    go_wp2
    go_ret
    exact ⟨ret_bool HS.out.symm, (Keep.refl w).alloc _⟩
  have d1 : (kind x.atom == 1) = true := by simpa using t1
  clear t1
  have HT := Lib.hid (show test x i = (right x.atom && ahead x.yes i && ahead x.no i) by
    rw [Cp.test, hlf2.out, d0, d1]
    unfold ahead
    cases decide (0 ≤ x.yes) <;> cases decide (x.yes < i) <;> cases decide (0 ≤ x.no) <;> cases decide (x.no < i) <;> cases right x.atom <;> rfl)
  obtain ⟨X, hX⟩ : ∃ X, X = w.alloc (.cells #[.bool false, .int .i64 x.rule, .int .i64 (kind x.atom), .int .i64 (field x.atom), .slice RA (rs x.atom).length rc, .float .f64 (lo x.atom), .float .f64 (hi x.atom), .slice OA (of x.atom).length oc, .int .i64 x.yes, .int .i64 x.no] 37) := ⟨_, rfl⟩
  have hkX : Keep w X := by rw [hX]; exact (Keep.refl w).alloc _
  have bX : Bx X w.heap.size [.bool false, .int .i64 x.rule, .int .i64 (kind x.atom), .int .i64 (field x.atom), .slice RA (rs x.atom).length rc, .float .f64 (lo x.atom), .float .f64 (hi x.atom), .slice OA (of x.atom).length oc, .int .i64 x.yes, .int .i64 x.no] := by rw [hX]; exact Bx.newq rfl
  have HB := Lib.hid (fun (W : World) (hk : Keep X W) => bX.kept hk)
  have hC := CR.out X hkX
  obtain ⟨ri, hri⟩ : ∃ ri, right x.atom = ri := ⟨_, rfl⟩
  rw [hri] at hC HT
  replace hC := Lib.hid hC
  clear CR hri bX hlf2
  cases ri with
  | false =>
    have HS := Lib.hid (show test x i = false by rw [HT.out]; rfl)
    clear HT
    go_enter Tryz.func23, Tryz.ntmps23
    go_wp2_with fail
    rw [← hX]
    clear hX
    refine hC.out.mono ?_
    rintro e w1 ⟨rfl, hk1⟩
    go_wp2
    go_ret
    exact ⟨ret_bool HS.out.symm, hkX.trans hk1⟩
  | true =>
    obtain ⟨a1, ha1⟩ : ∃ a1, ahead x.yes i = a1 := ⟨_, rfl⟩
    have C1 := Lib.hid (fun W => isAhead_any x.yes i W)
    rw [ha1] at C1 HT
    cases a1 with
    | false =>
      have HS := Lib.hid (show test x i = false by rw [HT.out]; rfl)
      clear HT ha1
      go_enter Tryz.func23, Tryz.ntmps23
      go_wp2_with fail
      rw [← hX]
      clear hX
      refine hC.out.mono ?_
      rintro e w1 ⟨rfl, hk1⟩
      have y8 := (HB.out _ hk1).2 8 _ rfl
      go_wp2_with fail
      refine (C1.out _).mono ?_
      rintro e w2 ⟨rfl, hk2⟩
      go_wp2
      go_ret
      exact ⟨ret_bool HS.out.symm, (hkX.trans hk1).trans hk2⟩
    | true =>
      have C2 := Lib.hid (fun W => isAhead_any x.no i W)
      have HS := Lib.hid (show test x i = ahead x.no i by rw [HT.out]; rfl)
      clear HT ha1
      go_enter Tryz.func23, Tryz.ntmps23
      go_wp2_with fail
      rw [← hX]
      clear hX
      refine hC.out.mono ?_
      rintro e w1 ⟨rfl, hk1⟩
      have y8 := (HB.out _ hk1).2 8 _ rfl
      go_wp2_with fail
      refine (C1.out _).mono ?_
      rintro e w2 ⟨rfl, hk2⟩
      have y9 := (HB.out _ (hk1.trans hk2)).2 9 _ rfl
      clear y8
      go_wp2_with fail
      refine (C2.out _).mono ?_
      rintro e w3 ⟨rfl, hk3⟩
      go_wp2
      go_ret
      exact ⟨ret_bool HS.out.symm, ((hkX.trans hk1).trans hk2).trans hk3⟩
theorem right_or (x : NodeP) (i : Int) : (if x.leaf then bare x else test x i) = (leafB x || test x i) := by
  unfold leafB
  cases hl : x.leaf with
  | true =>
    have : test x i = false := by rw [Cp.test, hl]; simp
    rw [this]; simp
  | false => simp
set_option maxHeartbeats 8000000 in
theorem right_any (A : Option Addr) (c : Nat) (l : List NodeP) (w : World) (ht : Tab w) (hl : l.length ≤ 1000000) (hfs : ∀ x ∈ l, fits x.atom) (hR : Nds w A l.length l) :
    Calls Tryz.prog 11 #[.slice A l.length c] w fun e' w' => e' = .returned (.bool (Cp.right l)) ∧ Keep w w' := by
  have hsf := store_float Tryz.prog
  go_enter Tryz.func11, Tryz.ntmps11
  go_wp2
  go_loopw [3, 4, 7] (fun _ _ iv wr => ∃ j : Nat, j ≤ l.length ∧ iv = .int .i64 j ∧ Hid (Cp.rightF l 0 = Cp.rightF (l.drop j) j) ∧ Keep w wr) (fun _ _ iv _ => l.length - (intOf iv).toNat)
  case atStart => exact ⟨0, Nat.zero_le _, rfl, rfl, Keep.refl _⟩
  case round =>
    obtain ⟨j, hj, rfl, hall, hk⟩ := hrel
    by_cases hlt : j < l.length
    · have hi1 : (j : Int) < l.length := by omega
      have hj0 : (0 : Int) ≤ j := by omega
      have hRw := hR.kept hk
      obtain ⟨b, off, rfl, hbb⟩ := hRw.addr (by omega)
      obtain ⟨_, RA, OA, rc, oc, hx6, hx⟩ := hRw.node j hlt
      have hfx := hfs _ (getD_mem zeroN l j hlt)
      have HA := Lib.hid (rightF_step hlt (j : Int))
      generalize l.getD j zeroN = x at *
      obtain ⟨x0, x1, x2, x3, x4, x5, x6, x7, x8, x9⟩ := hx6
      obtain ⟨X, hX⟩ : ∃ X, X = wr.alloc (.cells #[.bool x.leaf, .int .i64 x.rule, .int .i64 (kind x.atom), .int .i64 (field x.atom), .slice RA (rs x.atom).length rc, .float .f64 (lo x.atom), .float .f64 (hi x.atom), .slice OA (of x.atom).length oc, .int .i64 x.yes, .int .i64 x.no] 37) := ⟨_, rfl⟩
      have hkX : Keep wr X := by rw [hX]; exact (Keep.refl wr).alloc _
      have hXn : NodeAt X x RA OA rc oc wr.heap.size 0 := by rw [hX]; exact NodeAt.new wr x RA OA rc oc _
      have htX := (ht.keep hk).keep hkX
      have CL := Lib.hid (isLeaf_any x RA OA rc oc X htX hfx (hx.kept hkX))
      have CT := Lib.hid (fun W (hk : Keep X W) => isTest_any x (j : Int) RA OA rc oc W (htX.keep hk) hfx (hx.kept (hkX.trans hk)))
      have HKX := Lib.hid (hk.trans hkX)
      have HXN := Lib.hid hXn
      have HLT := Lib.hid (show wr.heap.size < X.heap.size by rw [hX]; simp)
      have HOR := Lib.hid (right_or x (j : Int))
      obtain ⟨lf, hlf⟩ : ∃ lf, leafB x = lf := ⟨_, rfl⟩
      obtain ⟨te, hte⟩ : ∃ te, test x (j : Int) = te := ⟨_, rfl⟩
      rw [HOR.out, hlf, hte] at HA
      rw [hlf] at CL
      rw [hte] at CT
      clear hfx hx hRw hkX hXn htX HOR hlf hte
      cases lf with
      | true =>
        have HF := Lib.hid (show Cp.rightF l 0 = Cp.rightF (l.drop (j + 1)) ((j + 1 : Nat) : Int) by rw [hall.out, HA.out]; simp)
        clear HA CT
        go_wp2_with fail
        rw [← hX]
        clear hX
        refine CL.out.mono ?_
        rintro e w1 ⟨rfl, hk1⟩
        go_wp2
        go_roundw
        case rel => exact ⟨j + 1, by omega, by go_num, HF, HKX.out.trans hk1⟩
        case measure => simp [intOf]; omega
      | false =>
        cases te with
        | true =>
          have HF := Lib.hid (show Cp.rightF l 0 = Cp.rightF (l.drop (j + 1)) ((j + 1 : Nat) : Int) by rw [hall.out, HA.out]; simp)
          clear HA
          go_wp2_with fail
          rw [← hX]
          clear hX
          refine CL.out.mono ?_
          rintro e w1 ⟨rfl, hk1⟩
          obtain ⟨q0, q1, q2, q3, q4, q5, q6, q7, q8, q9⟩ := HXN.out.kept HLT.out hk1
          clear x0 x1 x2 x3 x4 x5 x6 x7 x8 x9
          go_wp2_with fail
          refine (CT.out _ hk1).mono ?_
          rintro e w2 ⟨rfl, hk2⟩
          go_wp2
          go_roundw
          case rel => exact ⟨j + 1, by omega, by go_num, HF, (HKX.out.trans hk1).trans hk2⟩
          case measure => simp [intOf]; omega
        | false =>
          have HF := Lib.hid (show Cp.right l = false by rw [Cp.right, hall.out, HA.out]; rfl)
          clear HA
          go_wp2_with fail
          rw [← hX]
          clear hX
          refine CL.out.mono ?_
          rintro e w1 ⟨rfl, hk1⟩
          obtain ⟨q0, q1, q2, q3, q4, q5, q6, q7, q8, q9⟩ := HXN.out.kept HLT.out hk1
          clear x0 x1 x2 x3 x4 x5 x6 x7 x8 x9
          go_wp2_with fail
          refine (CT.out _ hk1).mono ?_
          rintro e w2 ⟨rfl, hk2⟩
          go_wp2
          go_ret
          exact ⟨ret_bool HF.out.symm, (HKX.out.trans hk1).trans hk2⟩
    · obtain rfl : j = l.length := by omega
      have HF := Lib.hid (show Cp.rightF l 0 = true by rw [hall.out, List.drop_length]; rfl)
      by_cases h0 : 0 < l.length
      · have d0 : decide (0 < l.length) = true := by simpa using h0
        have d0' : decide ((0 : Int) < (l.length : Int)) = true := by simp; omega
        have HS := Lib.hid (show Cp.right l = true by rw [Cp.right, HF.out]; cases l with | nil => exact absurd h0 (Nat.lt_irrefl 0) | cons _ _ => rfl)
        clear h0
        go_wp2
        go_ret
        exact ⟨ret_bool HS.out.symm, hk⟩
      · have hl0 : l = [] := List.eq_nil_of_length_eq_zero (Nat.eq_zero_of_not_pos h0)
        have d0 : decide (0 < l.length) = false := by simpa using h0
        have d0' : decide ((0 : Int) < (l.length : Int)) = false := by simp; omega
        have HS := Lib.hid (show Cp.right l = false by rw [Cp.right, hl0]; simp)
        clear h0 hl0
        go_wp2
        go_ret
        exact ⟨ret_bool HS.out.symm, hk⟩
end Go.Proofs.YtdkeibgfehblaaaGreatDoor.Cm
/- The developers' compile: Same; the reference's Same. Conditions: lists at most a million, of atoms whose lists are short. -/
namespace Go.Proofs.YtdkeibgfehblaaaGreatDoor.Cm
set_option linter.unusedVariables false
set_option maxRecDepth 100000
open Go.ChangeShapes Go.WideShapes Go.ChangeAt Go.RowKit
open Tr
open Nd
open Cp (sameN bare test rightF leafP)
open Tree (eqL eqL_at eqL_nil eqL_len)
set_option maxHeartbeats 8000000 in
theorem equalN_any (A : Option Addr) (c : Nat) (o : List NodeP) (A2 : Option Addr) (c2 : Nat) (o2 : List NodeP) (w : World) (ht : Tab w) (hn : o.length ≤ 1000000) (hn2 : o2.length ≤ 1000000) (hfx : ∀ x ∈ o, fits x.atom) (hfy : ∀ x ∈ o2, fits x.atom) (hO : Nds w A o.length o) (hO2 : Nds w A2 o2.length o2) :
    Calls Tryz.prog 26 #[.slice A o.length c, .slice A2 o2.length c2, .func (.func 27) #[] #[]] w fun e w' => e = .returned (.bool (eqL sameN o o2)) ∧ Keep w w' := by
  have eg := enters_of Tryz.func27 (by kernel_rfl) rfl
  by_cases hl : o.length = o2.length
  · have HL := Lib.hid hl
    have q1 : ((o.length : Int) != (o2.length : Int)) = false := by rw [hl]; simp
    have q2 : ((o.length : Int) == (o2.length : Int)) = true := by rw [hl]; simp
    clear hl
    go_enter Tryz.func26, Tryz.ntmps26
    go_wp2
    go_loopw [17] (fun iv wr => ∃ j : Nat, j ≤ o.length ∧ iv = .int .i64 j ∧ Keep w wr ∧ Hid (eqL sameN o o2 = eqL sameN (o.drop j) (o2.drop j))) (fun iv _ => o.length - (intOf iv).toNat)
    case atStart => exact ⟨0, Nat.zero_le _, rfl, Keep.refl _, rfl⟩
    case round =>
      obtain ⟨j, hj, rfl, hk, hall⟩ := hrel
      by_cases hlt : j < o.length
      · have hi1 : (j : Int) < o.length := by omega
        have hj0 : (0 : Int) ≤ j := by omega
        have hlt' : j < o2.length := by have := HL.out; omega
        have hi1' : (j : Int) < o2.length := by omega
        have hOw := hO.kept hk
        have hOw' := hO2.kept hk
        obtain ⟨b, off, rfl, hbb⟩ := hOw.addr (by omega)
        obtain ⟨b', off', rfl, hbb'⟩ := hOw'.addr (by omega)
        obtain ⟨_, RA, OA, rc, oc, hx6, hx⟩ := hOw.node j hlt
        obtain ⟨_, RA', OA', rc', oc', hy6, hy⟩ := hOw'.node j hlt'
        have hfx' := hfx _ (getD_mem zeroN o j hlt)
        have hfy' := hfy _ (getD_mem zeroN o2 j hlt')
        have HA := Lib.hid (hall.out.trans (eqL_at sameN zeroN o o2 j HL.out hlt))
        have HC := Lib.hid (fun (W : World) (hW : Keep wr W) => isSame_any (o.getD j zeroN) (o2.getD j zeroN) RA OA rc oc RA' OA' rc' oc' W ((ht.keep hk).keep hW) hfx' hfy' (hx.kept hW) (hy.kept hW))
        generalize o.getD j zeroN = x at *
        generalize o2.getD j zeroN = y at *
        obtain ⟨x0, x1, x2, x3, x4, x5, x6, x7, x8, x9⟩ := hx6
        have hsf := store_float Tryz.prog
        have hkB := fun O => Keep.alloc (Keep.refl wr) O
        have y0 := fun O => (hy6.kept (W' := wr.alloc O) hbb' (hkB O)).1
        have y1 := fun O => (hy6.kept (W' := wr.alloc O) hbb' (hkB O)).2.1
        have y2 := fun O => (hy6.kept (W' := wr.alloc O) hbb' (hkB O)).2.2.1
        have y3 := fun O => (hy6.kept (W' := wr.alloc O) hbb' (hkB O)).2.2.2.1
        have y4 := fun O => (hy6.kept (W' := wr.alloc O) hbb' (hkB O)).2.2.2.2.1
        have y5 := fun O => (hy6.kept (W' := wr.alloc O) hbb' (hkB O)).2.2.2.2.2.1
        have y6 := fun O => (hy6.kept (W' := wr.alloc O) hbb' (hkB O)).2.2.2.2.2.2.1
        have y7 := fun O => (hy6.kept (W' := wr.alloc O) hbb' (hkB O)).2.2.2.2.2.2.2.1
        have y8 := fun O => (hy6.kept (W' := wr.alloc O) hbb' (hkB O)).2.2.2.2.2.2.2.2.1
        have y9 := fun O => (hy6.kept (W' := wr.alloc O) hbb' (hkB O)).2.2.2.2.2.2.2.2.2
        clear hx hy hOw hOw' hall hy6 hfx' hfy'
        cases hv : sameN x y with
        | true =>
          rw [hv] at HC
          have HV := Lib.hid (show eqL sameN o o2 = eqL sameN (o.drop (j + 1)) (o2.drop (j + 1)) by rw [HA.out, hv]; rfl)
          clear hv HA
          go_wp2_with fail
          refine (HC.out _ ((hkB _).alloc _)).mono ?_
          rintro e w2 ⟨rfl, hk2⟩
          go_wp2
          go_roundw
          case rel => exact ⟨j + 1, by omega, by go_num, hk.trans (((hkB _).alloc _).trans hk2), HV⟩
          case measure => simp [intOf]; omega
        | false =>
          rw [hv] at HC
          have HV := Lib.hid (show eqL sameN o o2 = false by rw [HA.out, hv]; rfl)
          clear hv HA
          go_wp2_with fail
          refine (HC.out _ ((hkB _).alloc _)).mono ?_
          rintro e w2 ⟨rfl, hk2⟩
          go_wp2
          go_ret
          exact ⟨ret_bool HV.out.symm, hk.trans (((hkB _).alloc _).trans hk2)⟩
      · obtain rfl : j = o.length := by omega
        have HV := Lib.hid (hall.out.trans (eqL_nil sameN o o2 HL.out))
        go_wp2
        go_ret
        exact ⟨ret_bool HV.out.symm, hk⟩
  · have HS := Lib.hid (eqL_len sameN o o2 hl)
    have q1 : ((o.length : Int) != (o2.length : Int)) = true := by simp; omega
    have q2 : ((o.length : Int) == (o2.length : Int)) = false := by simp; omega
    clear hl
    go_enter Tryz.func26, Tryz.ntmps26
    go_wp2
    go_ret
    exact ⟨ret_bool HS.out.symm, Keep.refl _⟩
set_option maxHeartbeats 1000000 in
theorem same_any (A : Option Addr) (c : Nat) (o : List NodeP) (A2 : Option Addr) (c2 : Nat) (o2 : List NodeP) (w : World) (ht : Tab w) (hn : o.length ≤ 1000000) (hn2 : o2.length ≤ 1000000) (hfx : ∀ x ∈ o, fits x.atom) (hfy : ∀ x ∈ o2, fits x.atom) (hO : Nds w A o.length o) (hO2 : Nds w A2 o2.length o2) :
    Calls Tryz.prog 13 #[.slice A o.length c, .slice A2 o2.length c2] w fun e w' => e = .returned (.bool (eqL sameN o o2)) ∧ Keep w w' := by
  have hC := Lib.hid (equalN_any A c o A2 c2 o2 w ht hn hn2 hfx hfy hO hO2)
  clear ht hn hn2 hfx hfy hO hO2
  go_enter Tryz.func13, Tryz.ntmps13
  go_wp2_with fail
  refine hC.out.mono ?_
  rintro e w1 ⟨rfl, hk1⟩
  go_wp2
  go_ret
  exact ⟨rfl, hk1⟩
set_option maxHeartbeats 16000000 in
theorem ref_same_any (A : Option Addr) (c : Nat) (o : List NodeP) (A2 : Option Addr) (c2 : Nat) (o2 : List NodeP) (w : World) (hn : o.length ≤ 1000000) (hn2 : o2.length ≤ 1000000) (hfx : ∀ x ∈ o, fits x.atom) (hfy : ∀ x ∈ o2, fits x.atom) (hO : Nds w A o.length o) (hO2 : Nds w A2 o2.length o2) :
    Calls Tryz.prog 8 #[.slice A o.length c, .slice A2 o2.length c2] w fun e w' => e = .returned (.bool (eqL sameN o o2)) ∧ Keep w w' := by
  by_cases hl : o.length = o2.length
  · have HL := Lib.hid hl
    have q1 : ((o.length : Int) != (o2.length : Int)) = false := by rw [hl]; simp
    have q2 : ((o.length : Int) == (o2.length : Int)) = true := by rw [hl]; simp
    clear hl
    go_enter Tryz.func8, Tryz.ntmps8
    go_wp2
    go_loopw [5] (fun iv wr => ∃ j : Nat, j ≤ o.length ∧ iv = .int .i64 j ∧ Keep w wr ∧ Hid (eqL sameN o o2 = eqL sameN (o.drop j) (o2.drop j))) (fun iv _ => o.length - (intOf iv).toNat)
    case atStart => exact ⟨0, Nat.zero_le _, rfl, Keep.refl _, rfl⟩
    case round =>
      obtain ⟨j, hj, rfl, hk, hall⟩ := hrel
      by_cases hlt : j < o.length
      · have hi1 : (j : Int) < o.length := by omega
        have hj0 : (0 : Int) ≤ j := by omega
        have hlt' : j < o2.length := by have := HL.out; omega
        have hi1' : (j : Int) < o2.length := by omega
        have hOw := hO.kept hk
        have hOw' := hO2.kept hk
        obtain ⟨b, off, rfl, hbb⟩ := hOw.addr (by omega)
        obtain ⟨b', off', rfl, hbb'⟩ := hOw'.addr (by omega)
        obtain ⟨_, RA, OA, rc, oc, hx6, hx⟩ := hOw.node j hlt
        obtain ⟨_, RA', OA', rc', oc', hy6, hy⟩ := hOw'.node j hlt'
        have hfx' := hfx _ (getD_mem zeroN o j hlt)
        have hfy' := hfy _ (getD_mem zeroN o2 j hlt')
        have HA := Lib.hid (hall.out.trans (eqL_at sameN zeroN o o2 j HL.out hlt))
        generalize o.getD j zeroN = x at *
        generalize o2.getD j zeroN = y at *
        have hC := fun p : KeptOf wr => Tr.same_any _ x.atom y.atom RA OA rc oc RA' OA' rc' oc' p.w (Nat.le_refl _) hfx' hfy' (hx.kept p.h) (hy.kept p.h)
        have x0 := fun p : KeptOf wr => (hx6.kept hbb p.h).1
        have x1 := fun p : KeptOf wr => (hx6.kept hbb p.h).2.1
        have x2 := fun p : KeptOf wr => (hx6.kept hbb p.h).2.2.1
        have x3 := fun p : KeptOf wr => (hx6.kept hbb p.h).2.2.2.1
        have x4 := fun p : KeptOf wr => (hx6.kept hbb p.h).2.2.2.2.1
        have x5 := fun p : KeptOf wr => (hx6.kept hbb p.h).2.2.2.2.2.1
        have x6 := fun p : KeptOf wr => (hx6.kept hbb p.h).2.2.2.2.2.2.1
        have x7 := fun p : KeptOf wr => (hx6.kept hbb p.h).2.2.2.2.2.2.2.1
        have x8 := fun p : KeptOf wr => (hx6.kept hbb p.h).2.2.2.2.2.2.2.2.1
        have x9 := fun p : KeptOf wr => (hx6.kept hbb p.h).2.2.2.2.2.2.2.2.2
        have y0 := fun p : KeptOf wr => (hy6.kept hbb' p.h).1
        have y1 := fun p : KeptOf wr => (hy6.kept hbb' p.h).2.1
        have y2 := fun p : KeptOf wr => (hy6.kept hbb' p.h).2.2.1
        have y3 := fun p : KeptOf wr => (hy6.kept hbb' p.h).2.2.2.1
        have y4 := fun p : KeptOf wr => (hy6.kept hbb' p.h).2.2.2.2.1
        have y5 := fun p : KeptOf wr => (hy6.kept hbb' p.h).2.2.2.2.2.1
        have y6 := fun p : KeptOf wr => (hy6.kept hbb' p.h).2.2.2.2.2.2.1
        have y7 := fun p : KeptOf wr => (hy6.kept hbb' p.h).2.2.2.2.2.2.2.1
        have y8 := fun p : KeptOf wr => (hy6.kept hbb' p.h).2.2.2.2.2.2.2.2.1
        have y9 := fun p : KeptOf wr => (hy6.kept hbb' p.h).2.2.2.2.2.2.2.2.2
        have m0 : True := trivial
        clear hx hy hOw hOw' hx6 hy6 hfx' hfy' hfx hfy hO hO2
        rcases (Classical.em (x.leaf = y.leaf)).symm with t0 | t0
        · have w0 : (x.leaf == y.leaf) = false := by simpa using t0
          have d0 : (x.leaf != y.leaf) = true := by simpa using t0
          have HF := Lib.hid (show eqL sameN o o2 = false by rw [HA.out, sameN, show (x.leaf == y.leaf) = false by simpa using t0]; simp)
          clear HA t0 hC
          go_wp2
          clear m0
          refine wp_region_kept (by kernel_rfl) (by kernel_rfl) ?_
          repeat (go_big_quiet_step (first | with_reducible exact KeptOf.of (hC _)))
          refine Go.wpQuiet_nil ?_
          intro _ hw'
          obtain ⟨p, rfl⟩ := hw'
          obtain ⟨V, hw⟩ := p
          dsimp only
          go_wp2
          go_ret
          exact ⟨ret_bool HF.out.symm, hk.trans hw⟩
        have d0 : (x.leaf != y.leaf) = false := by simpa using t0
        have e0 : (x.leaf == y.leaf) = true := by simpa using t0
        clear t0
        rcases (Classical.em (x.rule = y.rule)).symm with t1 | t1
        · have w1 : (x.rule == y.rule) = false := by simpa using t1
          have d1 : (x.rule != y.rule) = true := by simpa using t1
          have HF := Lib.hid (show eqL sameN o o2 = false by rw [HA.out, sameN, show (x.rule == y.rule) = false by simpa using t1]; simp)
          clear HA t1 hC
          go_wp2
          clear m0
          refine wp_region_kept (by kernel_rfl) (by kernel_rfl) ?_
          repeat (go_big_quiet_step (first | with_reducible exact KeptOf.of (hC _)))
          refine Go.wpQuiet_nil ?_
          intro _ hw'
          obtain ⟨p, rfl⟩ := hw'
          obtain ⟨V, hw⟩ := p
          dsimp only
          go_wp2
          go_ret
          exact ⟨ret_bool HF.out.symm, hk.trans hw⟩
        have d1 : (x.rule != y.rule) = false := by simpa using t1
        have e1 : (x.rule == y.rule) = true := by simpa using t1
        clear t1
        rcases (Classical.em (x.yes = y.yes)).symm with t2 | t2
        · have w2 : (x.yes == y.yes) = false := by simpa using t2
          have d2 : (x.yes != y.yes) = true := by simpa using t2
          have HF := Lib.hid (show eqL sameN o o2 = false by rw [HA.out, sameN, show (x.yes == y.yes) = false by simpa using t2]; simp)
          clear HA t2 hC
          go_wp2
          clear m0
          refine wp_region_kept (by kernel_rfl) (by kernel_rfl) ?_
          repeat (go_big_quiet_step (first | with_reducible exact KeptOf.of (hC _)))
          refine Go.wpQuiet_nil ?_
          intro _ hw'
          obtain ⟨p, rfl⟩ := hw'
          obtain ⟨V, hw⟩ := p
          dsimp only
          go_wp2
          go_ret
          exact ⟨ret_bool HF.out.symm, hk.trans hw⟩
        have d2 : (x.yes != y.yes) = false := by simpa using t2
        have e2 : (x.yes == y.yes) = true := by simpa using t2
        clear t2
        rcases (Classical.em (x.no = y.no)).symm with t3 | t3
        · have w3 : (x.no == y.no) = false := by simpa using t3
          have d3 : (x.no != y.no) = true := by simpa using t3
          have HF := Lib.hid (show eqL sameN o o2 = false by rw [HA.out, sameN, show (x.no == y.no) = false by simpa using t3]; simp)
          clear HA t3 hC
          go_wp2
          clear m0
          refine wp_region_kept (by kernel_rfl) (by kernel_rfl) ?_
          repeat (go_big_quiet_step (first | with_reducible exact KeptOf.of (hC _)))
          refine Go.wpQuiet_nil ?_
          intro _ hw'
          obtain ⟨p, rfl⟩ := hw'
          obtain ⟨V, hw⟩ := p
          dsimp only
          go_wp2
          go_ret
          exact ⟨ret_bool HF.out.symm, hk.trans hw⟩
        have d3 : (x.no != y.no) = false := by simpa using t3
        have e3 : (x.no == y.no) = true := by simpa using t3
        clear t3
        have HSN := Lib.hid (show sameN x y = same x.atom y.atom by rw [sameN, e0, e1, e2, e3]; rfl)
        clear e1 e2 e3
        obtain ⟨sa, hsa⟩ : ∃ sa, same x.atom y.atom = sa := ⟨_, rfl⟩
        rw [hsa] at hC HSN
        clear hsa
        cases sa with
        | false =>
          have HF := Lib.hid (show eqL sameN o o2 = false by rw [HA.out, HSN.out]; rfl)
          clear HA
          go_wp2
          clear m0
          refine wp_region_kept (by kernel_rfl) (by kernel_rfl) ?_
          repeat (go_big_quiet_step (first | with_reducible exact KeptOf.of (hC _)))
          refine Go.wpQuiet_nil ?_
          intro _ hw'
          obtain ⟨p, rfl⟩ := hw'
          obtain ⟨V, hw⟩ := p
          dsimp only
          go_wp2
          go_ret
          exact ⟨ret_bool HF.out.symm, hk.trans hw⟩
        | true =>
          have HF := Lib.hid (show eqL sameN o o2 = eqL sameN (o.drop (j + 1)) (o2.drop (j + 1)) by rw [HA.out, HSN.out]; rfl)
          clear HA
          go_wp2
          clear m0
          refine wp_region_kept (by kernel_rfl) (by kernel_rfl) ?_
          repeat (go_big_quiet_step (first | with_reducible exact KeptOf.of (hC _)))
          refine Go.wpQuiet_nil ?_
          intro _ hw'
          obtain ⟨p, rfl⟩ := hw'
          obtain ⟨V, hw⟩ := p
          dsimp only
          go_wp2
          go_roundw
          case rel => exact ⟨j + 1, by omega, by go_num, hk.trans hw, HF⟩
          case measure => simp [intOf]; omega
      · obtain rfl : j = o.length := by omega
        have HV := Lib.hid (hall.out.trans (eqL_nil sameN o o2 HL.out))
        go_wp2
        go_ret
        exact ⟨ret_bool HV.out.symm, hk⟩
  · have HS := Lib.hid (eqL_len sameN o o2 hl)
    have q1 : ((o.length : Int) != (o2.length : Int)) = true := by simp; omega
    have q2 : ((o.length : Int) == (o2.length : Int)) = false := by simp; omega
    clear hl
    go_enter Tryz.func8, Tryz.ntmps8
    go_wp2
    go_ret
    exact ⟨ret_bool HS.out.symm, Keep.refl _⟩
end Go.Proofs.YtdkeibgfehblaaaGreatDoor.Cm
