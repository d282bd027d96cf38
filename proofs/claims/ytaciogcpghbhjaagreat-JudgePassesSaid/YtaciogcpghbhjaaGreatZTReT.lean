/- Of these texts: ReT, ReV, ReW. Conditions: as each part says. -/
import Derived.Test.YtaciogcpghbhjaaGreatZTReL
import Derived.Test.YtaciogcpghbhjaaGreatZTReU
import Derived.Test.YtaciogcpghbhjaaGreatZTGuAll
/- Layer 3's texts: package math's few functions, the cut of a sign ahead. Conditions: none. -/
namespace Go.Proofs.YtaciogcpghbhjaaGreat.Re
set_option maxRecDepth 8000
open Go.Proofs.YtaciogcpghbhjaaGreat.Fp Go.ChangeShapes Go.WideShapes Go.ChangeAt Go.RowKit
end Go.Proofs.YtaciogcpghbhjaaGreat.Re
/- Layer 3's texts: each function answers what the plain words of ReU say. Conditions: the library's table of powers of ten lies as its initialiser lays it. -/
namespace Go.Proofs.YtaciogcpghbhjaaGreat.Re
set_option linter.unusedVariables false
open Go.Proofs.YtaciogcpghbhjaaGreat.Fp Go.ChangeShapes Go.WideShapes Go.ChangeAt Go.RowKit
end Go.Proofs.YtaciogcpghbhjaaGreat.Re
/- Layer 3's reference: texts. Conditions: none. -/
namespace Go.Proofs.YtaciogcpghbhjaaGreat.Ref3
set_option linter.unusedVariables false
open Go.Proofs.YtaciogcpghbhjaaGreat.Fp Go.Proofs.YtaciogcpghbhjaaGreat.Re Go.ChangeShapes Go.WideShapes Go.ChangeAt Go.RowKit
theorem text_nan (b : Nat) (hn : nanB b = true) (w : World) : Calls Tryz.prog 93 #[.float .f64 b] w fun e w' => e = .returned (.tuple #[.string (st []), .bool false]) ∧ Keep w w' := by
 have h : (FloatKind.f64.format.order b b != some Ordering.eq) = true := hn
 go_enter Tryz.func93, Tryz.ntmps93
 go_wp2
 go_ret2
 exact ⟨rfl, Keep.refl _⟩
theorem text_top (w : World) : Calls Tryz.prog 93 #[.float .f64 (fl false top)] w fun e w' => e = .returned (.tuple #[.string (st infL), .bool true]) ∧ Keep w w' := by
 have hn : (FloatKind.f64.format.order (fl false top) (fl false top) != some Ordering.eq) = false := nanB_fl ex_top
 have hmin := fun w => minus_any false ex_top w
 have he := eq0 (s := false) ex_top
 have hgt := gt0 (s := false) ex_top
 rw [Bool.not_false, Bool.true_and, decide_eq_true (show top ≠ 0 from Nat.ne_of_gt top_pos)] at hgt
 rw [decide_eq_false (show ¬ top = 0 from Nat.ne_of_gt top_pos)] at he
 have hh : ∀ t w, (binOp .quo t (.float .f64 (fl false top)) (.float .f64 4611686018427387904)).run Tryz.prog w = .ok (.float .f64 (fl false top)) w := fun t w => run_float_arith w .quo t .f64 _ _ _ (half_top false)
 have heq : (FloatKind.f64.format.order (fl false top) (fl false top) == some Ordering.eq) = true := by rw [eq_fl ex_top ex_top]; exact decide_eq_true rfl
 generalize fl false top = b at *
 go_enter Tryz.func93, Tryz.ntmps93
 go_wp2_with fail
 refine (hmin _).mono ?_
 rintro e w1 ⟨rfl, rfl⟩
 go_wp2
 go_ret2
 exact ⟨rfl, Keep.refl _⟩
theorem text_zero (w : World) : Calls Tryz.prog 93 #[.float .f64 (fl false 0)] w fun e w' => e = .returned (.tuple #[.string (st (Gu.put 0)), .bool true]) ∧ Keep w w' := by
 have hn : (FloatKind.f64.format.order (fl false 0) (fl false 0) != some Ordering.eq) = false := nanB_fl ex_zero
 have hmin := fun w => minus_any false ex_zero w
 have he := eq0 (s := false) ex_zero
 have hgt := gt0 (s := false) ex_zero
 have h53 := gt53 ex_zero
 rw [Bool.not_false, Bool.true_and, decide_eq_false (by simp)] at hgt
 rw [decide_eq_true rfl] at he
 rw [decide_eq_false (by omega)] at h53
 have hcv := fun w => run_convert_float_int (P := Tryz.prog) w 56 3 .f64 .i64 (fl false 0) _ (by rw [Tryz.underlying56]; rfl) Tryz.underlying3 (to_int ex_zero (Nat.zero_le _))
 rw [Nat.zero_div] at hcv
 have hf : (FloatKind.f64.format.order (fl false 0) (floatOfInt .f64 0) != some Ordering.eq) = false := by
  have hz : floatOfInt .f64 0 = fl false (0 * un) := fint (n := 0) (by omega)
  rw [hz, Nat.zero_mul]; exact nanB_fl ex_zero
 generalize fl false 0 = b at *
 go_enter Tryz.func93, Tryz.ntmps93
 go_wp2_with fail
 refine (hmin _).mono ?_
 rintro e w1 ⟨rfl, rfl⟩
 go_wp2_with fail
 refine (hmin _).mono ?_
 rintro e w1 ⟨rfl, rfl⟩
 go_wp2_with fail
 refine (Ref2.put_any 0 _).mono ?_
 rintro e w1 ⟨rfl, hb⟩
 rw [show Gu.inR 0 = true from rfl]
 go_wp2
 go_ret2
 exact ⟨rfl, hb⟩
theorem text_fin {v : Nat} (hv : Ex v) (ht : v < top) (h0 : v ≠ 0) (w : World) : Calls Tryz.prog 93 #[.float .f64 (fl false v)] w fun e w' => e = .returned (.tuple #[.string (st (if wholeB v then Gu.put ((v / un : Nat) : Int) else [])), .bool (wholeB v)]) ∧ Keep w w' := by
 have hn : (FloatKind.f64.format.order (fl false v) (fl false v) != some Ordering.eq) = false := nanB_fl hv
 have hmin := fun w => minus_any false hv w
 have he := eq0 (s := false) hv
 have hgt := gt0 (s := false) hv
 have h53 := gt53 hv
 rw [Bool.not_false, Bool.true_and, decide_eq_true h0] at hgt
 rw [decide_eq_false h0] at he
 obtain ⟨u, hu, hue, huv, _⟩ := half_any false hv ht
 have hh : ∀ t w, (binOp .quo t (.float .f64 (fl false v)) (.float .f64 4611686018427387904)).run Tryz.prog w = .ok (.float .f64 (fl false u)) w := fun t w => run_float_arith w .quo t .f64 _ _ _ hu
 have heq : (FloatKind.f64.format.order (fl false u) (fl false v) == some Ordering.eq) = false := by
  rw [eq_fl hue hv]; refine decide_eq_false ?_; have := huv h0; unfold sg; simp only [Bool.false_eq_true, if_false]; omega
 have HU := Lib.hid hu
 have HUV := Lib.hid huv
 have HUE := Lib.hid hue
 have HV0 := Lib.hid h0
 clear hu huv hue h0
 generalize fl false u = d at *
 by_cases hg : t53 < v
 ·have hw : wholeB v = false := by unfold wholeB; rw [decide_eq_false (show ¬ v <= t53 by omega), Bool.and_false]
  rw [hw, if_neg (by decide)]
  rw [decide_eq_true hg] at h53
  have HG := Lib.hid hg
  have HV := Lib.hid hv
  have HT := Lib.hid ht
  clear hg hv ht hw
  generalize fl false v = b at *
  go_enter Tryz.func93, Tryz.ntmps93
  go_wp2_with fail
  refine (hmin _).mono ?_
  rintro e w1 ⟨rfl, rfl⟩
  go_wp2
  go_ret2
  exact ⟨rfl, Keep.refl _⟩
 ·rw [decide_eq_false hg] at h53
  have hle : v <= 9007199254740992 * un := Nat.le_of_not_lt hg
  have hcv := fun w => run_convert_float_int (P := Tryz.prog) w 56 3 .f64 .i64 (fl false v) _ (by rw [Tryz.underlying56]; rfl) Tryz.underlying3 (to_int hv hle)
  have hk : v / un <= 9007199254740992 := by
   have := Nat.div_le_div_right (c := un) hle
   rwa [Nat.mul_div_cancel _ un_pos] at this
  have hf : (FloatKind.f64.format.order (fl false v) (floatOfInt .f64 ((v / un : Nat) : Int)) != some Ordering.eq) = !decide (sg false v = sg false (v / un * un)) := by
   rw [fint hk]; exact ne_fl hv (ex_un hk)
  have hwh : wholeB v = decide (v / un * un = v) := by unfold wholeB; rw [decide_eq_true (show v <= t53 from Nat.le_of_not_lt hg), Bool.and_true]
  rw [hwh]
  have HV := Lib.hid hv
  have HT := Lib.hid ht
  have HG := Lib.hid hg
  have HLE := Lib.hid hle
  have HW := Lib.hid hwh
  clear hv ht hg hle hwh
  generalize v / un = k at *
  by_cases hw : k * un = v
  ·rw [hw, decide_eq_true rfl] at hf
   rw [decide_eq_true hw, if_pos rfl]
   have hin : Gu.inR (k : Int) = true := Gu.inR_mk (by omega) (by omega)
   have HW2 := Lib.hid hw
   have HI := Lib.hid hin
   clear hw hin
   generalize fl false v = b at *
   go_enter Tryz.func93, Tryz.ntmps93
   go_wp2_with fail
   refine (hmin _).mono ?_
   rintro e w1 ⟨rfl, rfl⟩
   go_wp2_with fail
   refine (Ref2.put_any (k : Int) _).mono ?_
   rintro e w1 ⟨rfl, hb⟩
   rw [HI.out]
   go_wp2
   go_ret2
   exact ⟨rfl, hb⟩
  ·rw [decide_eq_false (by unfold sg; simp only [Bool.false_eq_true, if_false]; generalize k * un = y at hw; omega)] at hf
   rw [decide_eq_false hw, if_neg (by decide)]
   have HW2 := Lib.hid hw
   clear hw
   generalize fl false v = b at *
   go_enter Tryz.func93, Tryz.ntmps93
   go_wp2_with fail
   refine (hmin _).mono ?_
   rintro e w1 ⟨rfl, rfl⟩
   go_wp2
   go_ret2
   exact ⟨rfl, Keep.refl _⟩
theorem text_pos {v : Nat} (hv : Ex v) (w : World) : Calls Tryz.prog 93 #[.float .f64 (fl false v)] w fun e w' => e = .returned (.tuple #[.string (st (sizeL v)), .bool (sizeOk v)]) ∧ Keep w w' := by
 by_cases h1 : v = top
 ·rw [h1, show sizeOk top = true by unfold sizeOk; rw [decide_eq_true rfl]; rfl, show sizeL top = infL by unfold sizeL; rw [if_pos rfl]]
  exact text_top w
 ·have e1 : sizeOk v = wholeB v := by unfold sizeOk; rw [decide_eq_false h1, Bool.false_or]
  have e2 : sizeL v = if wholeB v then Gu.put ((v / un : Nat) : Int) else [] := by unfold sizeL; rw [if_neg h1]
  rw [e1, e2]
  by_cases h0 : v = 0
  ·have hw : wholeB 0 = true := by unfold wholeB; rw [Nat.zero_div, Nat.zero_mul, decide_eq_true rfl, decide_eq_true (Nat.zero_le _)]; rfl
   rw [h0, hw, if_pos rfl, Nat.zero_div]
   exact text_zero w
  ·exact text_fin hv (Nat.lt_of_le_of_ne hv.2 h1) h0 w
theorem text_neg0 (w : World) : Calls Tryz.prog 93 #[.float .f64 (fl true 0)] w fun e w' => e = .returned (.tuple #[.string (st [45, 48]), .bool true]) ∧ Keep w w' := by
 have hn : (FloatKind.f64.format.order (fl true 0) (fl true 0) != some Ordering.eq) = false := nanB_fl ex_zero
 have hmin := fun w => minus_any true ex_zero w
 have he := eq0 (s := true) ex_zero
 rw [decide_eq_true rfl] at he
 generalize fl true 0 = b at *
 go_enter Tryz.func93, Tryz.ntmps93
 go_wp2_with fail
 refine (hmin _).mono ?_
 rintro e w1 ⟨rfl, rfl⟩
 go_wp2
 go_ret2
 exact ⟨rfl, Keep.refl _⟩
theorem text_neg {v : Nat} (hv : Ex v) (h0 : v ≠ 0) (w : World) : Calls Tryz.prog 93 #[.float .f64 (fl true v)] w fun e w' => e = .returned (.tuple #[.string (st (if sizeOk v then 45 :: sizeL v else [])), .bool (sizeOk v)]) ∧ Keep w w' := by
 have hn : (FloatKind.f64.format.order (fl true v) (fl true v) != some Ordering.eq) = false := nanB_fl hv
 have hmin := fun w => minus_any true hv w
 have he := eq0 (s := true) hv
 rw [decide_eq_false h0] at he
 have hneg : Op.unary .neg (.float .f64 (fl true v)) = pure (.float .f64 (fl false v)) := neg_run true hv
 have hrec := fun w => text_pos hv w
 have hadd2 : ∀ w : World, (Op.stringOp .add (st [45]) (st (sizeL v))).run Tryz.prog w = .ok (.string (st ([45] ++ sizeL v))) w := add_st [45] (sizeL v) (by have := sizeL_len v; simp; omega)
 rw [show st [45] = ⟨#[45]⟩ from rfl] at hadd2
 have HV := Lib.hid hv
 have HV0 := Lib.hid h0
 clear hv h0
 generalize fl false v = a at *
 generalize fl true v = b at *
 generalize sizeL v = m at *
 cases hk : sizeOk v
 ·rw [hk] at hrec
  rw [if_neg (by decide)]
  go_enter Tryz.func93, Tryz.ntmps93
  go_wp2_with fail
  refine (hmin _).mono ?_
  rintro e w1 ⟨rfl, rfl⟩
  go_wp2_with fail
  refine (hrec _).mono ?_
  rintro e w1 ⟨rfl, hb⟩
  go_wp2
  go_ret2
  exact ⟨rfl, hb⟩
 ·rw [hk] at hrec
  rw [if_pos rfl]
  go_enter Tryz.func93, Tryz.ntmps93
  go_wp2_with fail
  refine (hmin _).mono ?_
  rintro e w1 ⟨rfl, rfl⟩
  go_wp2_with fail
  refine (hrec _).mono ?_
  rintro e w1 ⟨rfl, hb⟩
  go_wp2
  go_ret2
  exact ⟨rfl, hb⟩
theorem text_any (b : Nat) (hb : b < 18446744073709551616) (w : World) : Calls Tryz.prog 93 #[.float .f64 b] w fun e w' => e = .returned (.tuple #[.string (st (tL b)), .bool (tOk b)]) ∧ Keep w w' := by
 rcases kinds hb with ⟨_, h⟩ | ⟨_, s, v, hv, rfl⟩
 ·rw [tL_no (tOk_nan h), tOk_nan h]
  exact text_nan b h w
 ·rw [tOk_fl s hv, tL_fl s hv]
  cases s
  ·have := text_pos hv w
   have e : (if sizeOk v then (if false = true then 45 :: sizeL v else sizeL v) else []) = sizeL v := by
    cases hk : sizeOk v
    ·rw [if_neg (by decide)]
     unfold sizeOk at hk
     rw [Bool.or_eq_false_iff, decide_eq_false_iff_not] at hk
     unfold sizeL
     rw [if_neg hk.1, hk.2, if_neg (by decide)]
    ·rw [if_pos rfl, if_neg (by decide)]
   rw [e]
   exact this
  ·by_cases h0 : v = 0
   ·have hw : wholeB 0 = true := by unfold wholeB; rw [Nat.zero_div, Nat.zero_mul, decide_eq_true rfl, decide_eq_true (Nat.zero_le _)]; rfl
    have e1 : sizeOk 0 = true := by unfold sizeOk; rw [hw, Bool.or_true]
    have e2 : sizeL 0 = [48] := by
     unfold sizeL
     rw [if_neg (Nat.ne_of_lt top_pos), hw, if_pos rfl, Nat.zero_div]
     show Gu.put 0 = _
     rw [Gu.put_in (by rfl), show (0 : Int).toNat = 0 from rfl, Gu.dec_small (by omega)]; rfl
    rw [h0, e1, if_pos rfl, if_pos rfl, e2]
    exact text_neg0 w
   ·have := text_neg hv h0 w
    rw [show (if (true : Bool) = true then 45 :: sizeL v else sizeL v) = 45 :: sizeL v from if_pos rfl]
    exact this
end Go.Proofs.YtaciogcpghbhjaaGreat.Ref3
