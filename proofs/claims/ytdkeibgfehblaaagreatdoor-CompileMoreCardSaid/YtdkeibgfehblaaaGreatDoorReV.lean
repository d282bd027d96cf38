/- Layer 3's texts: each function answers what the plain words of ReU say. Conditions: the library's table of powers of ten lies as its initialiser lays it. -/
import Derived.Test.YtdkeibgfehblaaaGreatDoorReT
namespace Go.Proofs.YtdkeibgfehblaaaGreatDoor.Re
set_option linter.unusedVariables false
open Go.Proofs.YtdkeibgfehblaaaGreatDoor.Fp Go.ChangeShapes Go.WideShapes Go.ChangeAt Go.RowKit

theorem inf_string : st infL = ⟨#[105, 110, 102]⟩ := rfl
theorem nan_string : st [] = ⟨#[]⟩ := rfl

theorem sizeText_nan (b : Nat) (h : IsN b) (w : World) : Calls Tryz.prog 92 #[.float .f64 b] w fun e w' => e = .returned (.tuple #[.string (st []), .bool false]) ∧ Keep w w' := by
  have h1 : (FloatKind.f64.format.order b 9218868437227405311 == some Ordering.gt) = false := by rw [order_nan_l h]; rfl
  have h2 := nan_ne_l h
  have HH := Lib.hid h
  go_enter Tryz.func92, Tryz.ntmps92
  go_wp2_with fail
  refine (isInf_any b _).mono ?_
  rintro e w1 ⟨rfl, rfl⟩
  rw [h1]
  go_wp2_with fail
  refine (trunc_nan_any b h _).mono ?_
  rintro e w1 ⟨⟨r, rfl⟩, hq⟩
  have h3 := h2 r
  have HQ := Lib.hid hq
  clear h hq h2
  go_wp2
  go_ret2
  exact ⟨rfl, HQ.out.keep⟩
theorem sizeText_top (w : World) : Calls Tryz.prog 92 #[.float .f64 (fl false top)] w fun e w' => e = .returned (.tuple #[.string (st infL), .bool true]) ∧ Keep w w' := by
  have h1 := gt_max ex_top
  rw [decide_eq_true rfl] at h1
  generalize fl false top = b at *
  go_enter Tryz.func92, Tryz.ntmps92
  go_wp2_with fail
  refine (isInf_any b _).mono ?_
  rintro e w1 ⟨rfl, rfl⟩
  rw [h1]
  go_wp2
  go_ret2
  exact ⟨rfl, Keep.refl _⟩
theorem sizeText_no {v : Nat} (hv : Ex v) (ht : v < top) (hn : wholeB v = false) (w : World) : Calls Tryz.prog 92 #[.float .f64 (fl false v)] w fun e w' => e = .returned (.tuple #[.string (st []), .bool false]) ∧ Keep w w' := by
  have h1 := gt_max hv
  rw [decide_eq_false (Nat.ne_of_lt ht)] at h1
  have hc := fun w => trunc_fl_any false hv ht w
  have h2 := ne_fl (s := false) (t := false) hv (ex_trunc hv)
  have h3 := gt53 hv
  by_cases hw : v / un * un = v
  · rw [hw] at hc h2
    rw [decide_eq_true rfl] at h2
    have hg : t53 < v := by
      unfold wholeB at hn
      rw [decide_eq_true hw, Bool.true_and, decide_eq_false_iff_not] at hn
      omega
    rw [decide_eq_true hg] at h3
    have HV := Lib.hid hv
    have HT := Lib.hid ht
    have HG := Lib.hid hg
    have HW := Lib.hid hw
    clear hv ht hg hw hn
    generalize fl false v = b at *
    go_enter Tryz.func92, Tryz.ntmps92
    go_wp2_with fail
    refine (isInf_any b _).mono ?_
    rintro e w1 ⟨rfl, rfl⟩
    rw [h1]
    go_wp2_with fail
    refine (hc _).mono ?_
    rintro e w1 ⟨rfl, rfl⟩
    go_wp2
    go_ret2
    exact ⟨rfl, Keep.refl _⟩
  · rw [decide_eq_false (by unfold sg; simp only [Bool.false_eq_true, if_false]; generalize v / un * un = u at hw; omega)] at h2
    have HV := Lib.hid hv
    have HT := Lib.hid ht
    have HW := Lib.hid hw
    clear hv ht hw hn
    generalize fl false v = b at *
    generalize fl false (v / un * un) = c at *
    go_enter Tryz.func92, Tryz.ntmps92
    go_wp2_with fail
    refine (isInf_any b _).mono ?_
    rintro e w1 ⟨rfl, rfl⟩
    rw [h1]
    go_wp2_with fail
    refine (hc _).mono ?_
    rintro e w1 ⟨rfl, rfl⟩
    go_wp2
    go_ret2
    exact ⟨rfl, Keep.refl _⟩
theorem sizeText_yes {v : Nat} (hv : Ex v) (ht : v < top) (hn : wholeB v = true) (w : World) (hT : Tab w) : Calls Tryz.prog 92 #[.float .f64 (fl false v)] w fun e w' => e = .returned (.tuple #[.string (st (Gu.put ((v / un : Nat) : Int))), .bool true]) ∧ Keep w w' := by
  have h1 := gt_max hv
  rw [decide_eq_false (Nat.ne_of_lt ht)] at h1
  have hc := fun w => trunc_fl_any false hv ht w
  have h2 := ne_fl (s := false) (t := false) hv (ex_trunc hv)
  have h3 := gt53 hv
  obtain ⟨hw, hle⟩ := whole_out hn
  have hin := whole_in hn
  rw [hw] at hc h2
  rw [decide_eq_true rfl] at h2
  rw [decide_eq_false (by omega)] at h3
  have hcv := fun w => run_convert_float_int (P := Tryz.prog) w 32 3 .f64 .i64 (fl false v) _ (by rw [Tryz.underlying32]; rfl) Tryz.underlying3 (to_int hv hle)
  have HV := Lib.hid hv
  have HT := Lib.hid ht
  have HW := Lib.hid hw
  have HL := Lib.hid hle
  have HI := Lib.hid hin
  clear hv ht hw hn hle hin
  generalize v / un = k at *
  generalize fl false v = b at *
  go_enter Tryz.func92, Tryz.ntmps92
  go_wp2_with fail
  refine (isInf_any b _).mono ?_
  rintro e w1 ⟨rfl, rfl⟩
  rw [h1]
  go_wp2_with fail
  refine (hc _).mono ?_
  rintro e w1 ⟨rfl, rfl⟩
  go_wp2_with fail
  refine (Guard.put_any (k : Int) _ hT).mono ?_
  rintro e w1 ⟨rfl, hb⟩
  rw [HI.out]
  go_wp2
  go_ret2
  exact ⟨rfl, hb⟩
theorem sizeText_any {v : Nat} (hv : Ex v) (w : World) (hT : Tab w) : Calls Tryz.prog 92 #[.float .f64 (fl false v)] w fun e w' => e = .returned (.tuple #[.string (st (sizeL v)), .bool (sizeOk v)]) ∧ Keep w w' := by
  unfold sizeL sizeOk
  by_cases h1 : v = top
  · rw [h1, if_pos rfl, decide_eq_true rfl, Bool.true_or]
    exact sizeText_top w
  · rw [if_neg h1, decide_eq_false h1, Bool.false_or]
    have ht := Nat.lt_of_le_of_ne hv.2 h1
    cases hw : wholeB v
    · rw [if_neg (by decide)]
      exact sizeText_no hv ht hw w
    · rw [if_pos rfl]
      exact sizeText_yes hv ht hw w hT
theorem text_nan (b : Nat) (hb : b < 18446744073709551616) (hn : nanB b = true) (w : World) : Calls Tryz.prog 75 #[.float .f64 b] w fun e w' => e = .returned (.tuple #[.string (st []), .bool false]) ∧ Keep w w' := by
  go_enter Tryz.func75, Tryz.ntmps75
  go_wp2_with fail
  refine (abs_any b hb _).mono ?_
  rintro e w1 ⟨rfl, rfl⟩
  go_wp2_with fail
  refine (sizeText_nan _ (nan_mod hn) _).mono ?_
  rintro e w1 ⟨rfl, hk⟩
  go_wp2
  go_ret2
  exact ⟨rfl, hk⟩
theorem text_fl (s : Bool) {v : Nat} (hv : Ex v) (w : World) (hT : Tab w) : Calls Tryz.prog 75 #[.float .f64 (fl s v)] w fun e w' => e = .returned (.tuple #[.string (st (tL (fl s v))), .bool (tOk (fl s v))]) ∧ Keep w w' := by
  rw [tOk_fl s hv, tL_fl s hv]
  have hst := fun w hT => sizeText_any hv w hT
  have hlt := fl_lt s hv.2
  have hab := fun w => abs_any (fl s v) hlt w
  rw [fl_mod s hv] at hab
  have hsg := fun w => signbit_any (fl s v) hlt w
  rw [signB_fl hv] at hsg
  have hadd : ∀ w : World, (Op.stringOp .add (st [45]) (st (sizeL v))).run Tryz.prog w = .ok (.string (st ([45] ++ sizeL v))) w := add_st [45] (sizeL v) (by have := sizeL_len v; simp; omega)
  have HV := Lib.hid hv
  clear hv hlt
  generalize fl false v = a at *
  generalize fl s v = b at *
  generalize sizeL v = m at *
  cases hk : sizeOk v
  · rw [hk] at hst
    rw [if_neg (by decide)]
    go_enter Tryz.func75, Tryz.ntmps75
    go_wp2_with fail
    refine (hab _).mono ?_
    rintro e w1 ⟨rfl, rfl⟩
    go_wp2_with fail
    refine (hst _ hT).mono ?_
    rintro e w1 ⟨rfl, hb⟩
    go_wp2
    go_ret2
    exact ⟨rfl, hb⟩
  · rw [hk] at hst
    rw [if_pos rfl]
    cases s
    · rw [if_neg (by decide)]
      go_enter Tryz.func75, Tryz.ntmps75
      go_wp2_with fail
      refine (hab _).mono ?_
      rintro e w1 ⟨rfl, rfl⟩
      go_wp2_with fail
      refine (hst _ hT).mono ?_
      rintro e w1 ⟨rfl, hb⟩
      go_wp2_with fail
      refine (hsg _).mono ?_
      rintro e w2 ⟨rfl, rfl⟩
      go_wp2
      go_ret2
      exact ⟨rfl, hb⟩
    · rw [if_pos rfl]
      go_enter Tryz.func75, Tryz.ntmps75
      go_wp2_with fail
      refine (hab _).mono ?_
      rintro e w1 ⟨rfl, rfl⟩
      go_wp2_with fail
      refine (hst _ hT).mono ?_
      rintro e w1 ⟨rfl, hb⟩
      go_wp2_with fail
      refine (hsg _).mono ?_
      rintro e w2 ⟨rfl, rfl⟩
      have hadd2 := hadd
      rw [show st [45] = ⟨#[45]⟩ from rfl] at hadd2
      go_wp2
      go_ret2
      exact ⟨rfl, hb⟩
theorem text_any (b : Nat) (hb : b < 18446744073709551616) (w : World) (hT : Tab w) : Calls Tryz.prog 75 #[.float .f64 b] w fun e w' => e = .returned (.tuple #[.string (st (tL b)), .bool (tOk b)]) ∧ Keep w w' := by
  rcases kinds hb with ⟨_, h⟩ | ⟨_, s, v, hv, rfl⟩
  · rw [tL_no (tOk_nan h), tOk_nan h]
    exact text_nan b hb h w
  · exact text_fl s hv w hT

end Go.Proofs.YtdkeibgfehblaaaGreatDoor.Re
