/- Layer 3's laws: each answers true. Conditions: none. -/
import Derived.Test.YtjbbodkcmpefoaaReR3
import Derived.Test.YtjbbodkcmpefoaaTw2
import Derived.Test.YtjbbodkcmpefoaaOpen
namespace Go.Proofs.Ytjbbodkcmpefoaa.Real
set_option linter.unusedVariables false
open Go.Proofs.Ytjbbodkcmpefoaa.Fp Go.Proofs.Ytjbbodkcmpefoaa.Re Go.ChangeShapes Go.WideShapes Go.ChangeAt Go.RowKit

theorem ofB_one : ofB [16368, 0, 0, 0] = 4607182418800017408 := by decide
theorem ofB_neg : ofB [32768, 0, 0, 0] = 9223372036854775808 := by decide
theorem ofB_nan : ofB [32760, 0, 0, 0] = 9221120237041090560 := by decide
set_option maxHeartbeats 1000000 in
theorem awake_any (w : World) : Calls Try.prog 5 #[] w fun e w' => e = .returned (.bool true) ∧ Keep w w' := by
  have h1 : (FloatKind.f64.format.order 4607182418800017408 4607182418800017408 == some Ordering.eq) = true := by decide
  have h2 : (FloatKind.f64.format.order 9223372036854775808 0 == some Ordering.eq) = true := by decide
  have h3 : (FloatKind.f64.format.order 18442240474082181120 0 == some Ordering.lt) = true := by decide
  have h4 : (FloatKind.f64.format.order 9221120237041090560 9221120237041090560 != some Ordering.eq) = true := by decide
  have h5 : withB 9221120237041090560 9221120237041090560 9221120237041090560 = false := by decide
  have h6 : withB 9223372036854775808 0 0 = true := by decide
  have h7 : sameB 9223372036854775808 0 = false := by decide
  have hq : ∀ t w, (binOp .quo t (.float .f64 4607182418800017408) (.float .f64 9223372036854775808)).run Try.prog w = .ok (.float .f64 18442240474082181120) w := fun t w => run_float_arith w .quo t .f64 _ _ _ (by decide)
  go_enter Try.func5, Try.ntmps5
  go_wp2_with fail
  refine (Re.of_any _ 4 4 [16368, 0, 0, 0] _ (by simpa using Ints.new .i64 w 3 [16368, 0, 0, 0] #[.int .i64 16368, .int .i64 0, .int .i64 0, .int .i64 0] rfl)).mono ?_
  rintro e w1 ⟨rfl, rfl⟩
  rw [ofB_one, show okL [16368, 0, 0, 0] = true from by decide]
  obtain ⟨w0, hw0⟩ : ∃ w0, w0 = w.alloc (.cells #[.int .i64 16368, .int .i64 0, .int .i64 0, .int .i64 0] 3) := ⟨_, rfl⟩
  rw [← hw0]
  have hK0 : Keep w w0 := by rw [hw0]; exact (Keep.refl w).alloc _
  clear hw0
  go_wp2_with fail
  refine (Re.of_any _ 4 4 [32768, 0, 0, 0] _ (by simpa using Ints.new .i64 w0 3 [32768, 0, 0, 0] #[.int .i64 32768, .int .i64 0, .int .i64 0, .int .i64 0] rfl)).mono ?_
  rintro e w1 ⟨rfl, rfl⟩
  rw [ofB_neg, show okL [32768, 0, 0, 0] = true from by decide]
  obtain ⟨w2, hw2⟩ : ∃ w2, w2 = w0.alloc (.cells #[.int .i64 32768, .int .i64 0, .int .i64 0, .int .i64 0] 3) := ⟨_, rfl⟩
  rw [← hw2]
  have hK2 : Keep w w2 := by rw [hw2]; exact hK0.alloc _
  clear hw2 hK0
  go_wp2_with fail
  refine (Re.of_any _ 4 4 [32760, 0, 0, 0] _ (by simpa using Ints.new .i64 w2 3 [32760, 0, 0, 0] #[.int .i64 32760, .int .i64 0, .int .i64 0, .int .i64 0] rfl)).mono ?_
  rintro e w1 ⟨rfl, rfl⟩
  rw [ofB_nan, show okL [32760, 0, 0, 0] = true from by decide]
  obtain ⟨w3, hw3⟩ : ∃ w3, w3 = w2.alloc (.cells #[.int .i64 32760, .int .i64 0, .int .i64 0, .int .i64 0] 3) := ⟨_, rfl⟩
  rw [← hw3]
  have hK3 : Keep w w3 := by rw [hw3]; exact hK2.alloc _
  clear hw3 hK2
  go_wp2_with fail
  refine (Re.within_any _ _ _ _).mono ?_
  rintro e w1 ⟨rfl, rfl⟩
  go_wp2_with fail
  refine (Re.within_any _ _ _ _).mono ?_
  rintro e w1 ⟨rfl, rfl⟩
  go_wp2_with fail
  refine (Re.same_any _ _ (by decide) (by decide) _).mono ?_
  rintro e w1 ⟨rfl, rfl⟩
  go_wp2
  go_ret
  exact ⟨rfl, hK3⟩

theorem leB_fl {s t : Bool} {v w : Nat} (hv : Ex v) (hw : Ex w) : leB (fl s v) (fl t w) = decide (sg s v ≤ sg t w) := le_fl hv hw
theorem leB_l {a b : Nat} (h : IsN a) : leB a b = false := by unfold leB; rw [order_nan_l h]; rfl
theorem leB_r {a b : Nat} (h : IsN b) : leB a b = false := by unfold leB; rw [order_nan_r h]; rfl
set_option maxHeartbeats 1000000 in
/-- x is no number. -/
theorem within_a (x y : Nat) (hx : x < 18446744073709551616) (hy : y < 18446744073709551616) (hn : IsN x) (w : World) :
    Calls Try.prog 4 #[.float .f64 x, .float .f64 y] w fun e w' => e = .returned (.bool true) ∧ Keep w w' := by
  have h1 := nan_eq_l hn x
  have h2 : withB x x x = false := by unfold withB; rw [leB_l hn]; rfl
  have h3 : withB y x x = false := by unfold withB; rw [leB_l hn]; rfl
  have h4 : withB x y y = false := by unfold withB; rw [leB_l hn, Bool.and_false]
  have h5 : (FloatKind.f64.format.order x y == some Ordering.lt) = false := by rw [order_nan_l hn]; rfl
  have h6 := sameB_comm hx hy
  cases h7 : sameB y x <;> rw [h7] at h6
  · go_enter Try.func4, Try.ntmps4
    go_wp2_with fail
    refine (Re.within_any _ _ _ _).mono ?_
    rintro e w1 ⟨rfl, rfl⟩
    go_wp2_with fail
    refine (Re.within_any _ _ _ _).mono ?_
    rintro e w1 ⟨rfl, rfl⟩
    go_wp2_with fail
    refine (Re.within_any _ _ _ _).mono ?_
    rintro e w1 ⟨rfl, rfl⟩
    go_wp2_with fail
    refine (awake_any _).mono ?_
    rintro e w1 ⟨rfl, hK⟩
    go_wp2_with fail
    refine (Re.same_any _ _ (by assumption) (by assumption) _).mono ?_
    rintro e w1 ⟨rfl, rfl⟩
    go_wp2_with fail
    refine (Re.same_any _ _ (by assumption) (by assumption) _).mono ?_
    rintro e w1 ⟨rfl, rfl⟩
    go_wp2_with fail
    refine (Re.same_any _ _ (by assumption) (by assumption) _).mono ?_
    rintro e w1 ⟨rfl, rfl⟩
    go_wp2
    go_ret
    exact ⟨rfl, hK⟩
  · go_enter Try.func4, Try.ntmps4
    go_wp2_with fail
    refine (Re.within_any _ _ _ _).mono ?_
    rintro e w1 ⟨rfl, rfl⟩
    go_wp2_with fail
    refine (Re.within_any _ _ _ _).mono ?_
    rintro e w1 ⟨rfl, rfl⟩
    go_wp2_with fail
    refine (Re.within_any _ _ _ _).mono ?_
    rintro e w1 ⟨rfl, rfl⟩
    go_wp2_with fail
    refine (awake_any _).mono ?_
    rintro e w1 ⟨rfl, hK⟩
    go_wp2_with fail
    refine (Re.same_any _ _ (by assumption) (by assumption) _).mono ?_
    rintro e w1 ⟨rfl, rfl⟩
    go_wp2_with fail
    refine (Re.same_any _ _ (by assumption) (by assumption) _).mono ?_
    rintro e w1 ⟨rfl, rfl⟩
    go_wp2_with fail
    refine (Re.same_any _ _ (by assumption) (by assumption) _).mono ?_
    rintro e w1 ⟨rfl, rfl⟩
    go_wp2
    go_ret
    exact ⟨rfl, hK⟩
set_option maxHeartbeats 1000000 in
/-- x is a number, y isn't. -/
theorem within_b (x y : Nat) (hx : x < 18446744073709551616) (hy : y < 18446744073709551616) (hn : IsN y) (s : Bool) (v : Nat) (hv : Ex v) (he : x = fl s v) (w : World) :
    Calls Try.prog 4 #[.float .f64 x, .float .f64 y] w fun e w' => e = .returned (.bool true) ∧ Keep w w' := by
  have h1 : (FloatKind.f64.format.order x x == some Ordering.eq) = true := by rw [he, eq_fl hv hv, decide_eq_true rfl]
  have h2 : withB x x x = true := by unfold withB; rw [he, leB_fl hv hv, decide_eq_true (Int.le_refl _)]; rfl
  have h3 : withB y x x = false := by unfold withB; rw [leB_r hn]; rfl
  have h4 : withB x y y = false := by unfold withB; rw [leB_l hn]; rfl
  have h5 : (FloatKind.f64.format.order x y == some Ordering.lt) = false := by rw [order_nan_r hn]; rfl
  have h6 : sameB x y = false := sameB_mixed (by rw [he, nanB_fl hv, nanB_nan hn]; decide)
  have h7 : sameB y x = false := sameB_mixed (by rw [he, nanB_fl hv, nanB_nan hn]; decide)
  have HE := Lib.hid he
  clear he
  go_enter Try.func4, Try.ntmps4
  go_wp2_with fail
  refine (Re.within_any _ _ _ _).mono ?_
  rintro e w1 ⟨rfl, rfl⟩
  go_wp2_with fail
  refine (Re.within_any _ _ _ _).mono ?_
  rintro e w1 ⟨rfl, rfl⟩
  go_wp2_with fail
  refine (Re.within_any _ _ _ _).mono ?_
  rintro e w1 ⟨rfl, rfl⟩
  go_wp2_with fail
  refine (awake_any _).mono ?_
  rintro e w1 ⟨rfl, hK⟩
  go_wp2_with fail
  refine (Re.same_any _ _ (by assumption) (by assumption) _).mono ?_
  rintro e w1 ⟨rfl, rfl⟩
  go_wp2_with fail
  refine (Re.same_any _ _ (by assumption) (by assumption) _).mono ?_
  rintro e w1 ⟨rfl, rfl⟩
  go_wp2_with fail
  refine (Re.same_any _ _ (by assumption) (by assumption) _).mono ?_
  rintro e w1 ⟨rfl, rfl⟩
  go_wp2
  go_ret
  exact ⟨rfl, hK⟩
set_option maxHeartbeats 1000000 in
/-- Both are numbers. -/
theorem within_c (x y : Nat) (hx : x < 18446744073709551616) (hy : y < 18446744073709551616) (s t : Bool) (v u : Nat) (hv : Ex v) (hu : Ex u) (he : x = fl s v) (hf : y = fl t u) (w : World) :
    Calls Try.prog 4 #[.float .f64 x, .float .f64 y] w fun e w' => e = .returned (.bool true) ∧ Keep w w' := by
  have h1 : (FloatKind.f64.format.order x x == some Ordering.eq) = true := by rw [he, eq_fl hv hv, decide_eq_true rfl]
  have g1 : (FloatKind.f64.format.order y y != some Ordering.eq) = false := by rw [hf]; exact nanB_fl hu
  have h2 : withB x x x = true := by unfold withB; rw [he, leB_fl hv hv, decide_eq_true (Int.le_refl _)]; rfl
  rcases Int.lt_trichotomy (sg s v) (sg t u) with hlt | heq | hgt
  · have h3 : withB y x x = false := by unfold withB; rw [he, hf, leB_fl hv hu, leB_fl hu hv, decide_eq_false (show ¬ sg t u ≤ sg s v by omega), Bool.and_false]
    have h4 : withB x y y = false := by unfold withB; rw [he, hf, leB_fl hv hu, leB_fl hu hv, decide_eq_false (show ¬ sg t u ≤ sg s v by omega)]; rfl
    have h5 : (FloatKind.f64.format.order x y == some Ordering.lt) = true := by rw [he, hf, lt_fl hv hu, decide_eq_true hlt]
    have h6 : withB x x y = true := by unfold withB; rw [he, hf, leB_fl hv hu, leB_fl hv hv, decide_eq_true (Int.le_refl _), decide_eq_true (show sg s v ≤ sg t u by omega)]; rfl
    have h7 : withB y x y = true := by unfold withB; rw [he, hf, leB_fl hv hu, leB_fl hu hu, decide_eq_true (Int.le_refl _), decide_eq_true (show sg s v ≤ sg t u by omega)]; rfl
    have HE := Lib.hid he
    have HF := Lib.hid hf
    have HLT := Lib.hid hlt
    clear he hf hlt
    go_enter Try.func4, Try.ntmps4
    go_wp2_with fail
    refine (Re.within_any _ _ _ _).mono ?_
    rintro e w1 ⟨rfl, rfl⟩
    go_wp2_with fail
    refine (Re.within_any _ _ _ _).mono ?_
    rintro e w1 ⟨rfl, rfl⟩
    go_wp2_with fail
    refine (Re.within_any _ _ _ _).mono ?_
    rintro e w1 ⟨rfl, rfl⟩
    go_wp2_with fail
    refine (awake_any _).mono ?_
    rintro e w1 ⟨rfl, hK⟩
    go_wp2_with fail
    refine (Re.within_any _ _ _ _).mono ?_
    rintro e w1 ⟨rfl, rfl⟩
    go_wp2_with fail
    refine (Re.within_any _ _ _ _).mono ?_
    rintro e w1 ⟨rfl, rfl⟩
    go_wp2_with fail
    refine (Re.within_any _ _ _ _).mono ?_
    rintro e w1 ⟨rfl, rfl⟩
    go_wp2_with fail
    refine (Re.within_any _ _ _ _).mono ?_
    rintro e w1 ⟨rfl, rfl⟩
    go_wp2
    go_ret
    exact ⟨rfl, hK⟩
  · have h3 : withB y x x = true := by unfold withB; rw [he, hf, leB_fl hv hu, leB_fl hu hv, decide_eq_true (show sg t u ≤ sg s v by omega), decide_eq_true (show sg s v ≤ sg t u by omega)]; rfl
    have h4 : withB x y y = true := by unfold withB; rw [he, hf, leB_fl hv hu, leB_fl hu hv, decide_eq_true (show sg t u ≤ sg s v by omega), decide_eq_true (show sg s v ≤ sg t u by omega)]; rfl
    have h5 : (FloatKind.f64.format.order x y == some Ordering.lt) = false := by rw [he, hf, lt_fl hv hu, decide_eq_false (by omega)]
    have h6 := sameB_comm hx hy
    have h8 : (FloatKind.f64.format.order x y == some Ordering.eq) = true := by rw [he, hf, eq_fl hv hu, decide_eq_true heq]
    have HE := Lib.hid he
    have HF := Lib.hid hf
    have HEQ := Lib.hid heq
    clear he hf heq
    cases h7 : sameB y x <;> rw [h7] at h6
    · go_enter Try.func4, Try.ntmps4
      go_wp2_with fail
      refine (Re.within_any _ _ _ _).mono ?_
      rintro e w1 ⟨rfl, rfl⟩
      go_wp2_with fail
      refine (Re.within_any _ _ _ _).mono ?_
      rintro e w1 ⟨rfl, rfl⟩
      go_wp2_with fail
      refine (Re.within_any _ _ _ _).mono ?_
      rintro e w1 ⟨rfl, rfl⟩
      go_wp2_with fail
      refine (awake_any _).mono ?_
      rintro e w1 ⟨rfl, hK⟩
      go_wp2_with fail
      refine (Re.same_any _ _ (by assumption) (by assumption) _).mono ?_
      rintro e w1 ⟨rfl, rfl⟩
      go_wp2_with fail
      refine (Re.same_any _ _ (by assumption) (by assumption) _).mono ?_
      rintro e w1 ⟨rfl, rfl⟩
      go_wp2_with fail
      refine (Re.same_any _ _ (by assumption) (by assumption) _).mono ?_
      rintro e w1 ⟨rfl, rfl⟩
      go_wp2
      go_ret
      exact ⟨rfl, hK⟩
    · go_enter Try.func4, Try.ntmps4
      go_wp2_with fail
      refine (Re.within_any _ _ _ _).mono ?_
      rintro e w1 ⟨rfl, rfl⟩
      go_wp2_with fail
      refine (Re.within_any _ _ _ _).mono ?_
      rintro e w1 ⟨rfl, rfl⟩
      go_wp2_with fail
      refine (Re.within_any _ _ _ _).mono ?_
      rintro e w1 ⟨rfl, rfl⟩
      go_wp2_with fail
      refine (awake_any _).mono ?_
      rintro e w1 ⟨rfl, hK⟩
      go_wp2_with fail
      refine (Re.same_any _ _ (by assumption) (by assumption) _).mono ?_
      rintro e w1 ⟨rfl, rfl⟩
      go_wp2_with fail
      refine (Re.same_any _ _ (by assumption) (by assumption) _).mono ?_
      rintro e w1 ⟨rfl, rfl⟩
      go_wp2_with fail
      refine (Re.same_any _ _ (by assumption) (by assumption) _).mono ?_
      rintro e w1 ⟨rfl, rfl⟩
      go_wp2
      go_ret
      exact ⟨rfl, hK⟩
  · have h3 : withB y x x = false := by unfold withB; rw [he, hf, leB_fl hv hu, leB_fl hu hv, decide_eq_false (show ¬ sg s v ≤ sg t u by omega)]; rfl
    have h4 : withB x y y = false := by unfold withB; rw [he, hf, leB_fl hv hu, leB_fl hu hv, decide_eq_false (show ¬ sg s v ≤ sg t u by omega), Bool.and_false]
    have h5 : (FloatKind.f64.format.order x y == some Ordering.lt) = false := by rw [he, hf, lt_fl hv hu, decide_eq_false (by omega)]
    have h6 : sameB x y = false := by
      rw [he, hf, sameB_fl hv hu]
      refine decide_eq_false fun h => ?_
      obtain ⟨rfl, rfl⟩ := fl_inj hv hu h
      omega
    have h7 : sameB y x = false := by rw [sameB_comm hy hx]; exact h6
    have HE := Lib.hid he
    have HF := Lib.hid hf
    have HGT := Lib.hid hgt
    clear he hf hgt
    go_enter Try.func4, Try.ntmps4
    go_wp2_with fail
    refine (Re.within_any _ _ _ _).mono ?_
    rintro e w1 ⟨rfl, rfl⟩
    go_wp2_with fail
    refine (Re.within_any _ _ _ _).mono ?_
    rintro e w1 ⟨rfl, rfl⟩
    go_wp2_with fail
    refine (Re.within_any _ _ _ _).mono ?_
    rintro e w1 ⟨rfl, rfl⟩
    go_wp2_with fail
    refine (awake_any _).mono ?_
    rintro e w1 ⟨rfl, hK⟩
    go_wp2_with fail
    refine (Re.same_any _ _ (by assumption) (by assumption) _).mono ?_
    rintro e w1 ⟨rfl, rfl⟩
    go_wp2_with fail
    refine (Re.same_any _ _ (by assumption) (by assumption) _).mono ?_
    rintro e w1 ⟨rfl, rfl⟩
    go_wp2_with fail
    refine (Re.same_any _ _ (by assumption) (by assumption) _).mono ?_
    rintro e w1 ⟨rfl, rfl⟩
    go_wp2
    go_ret
    exact ⟨rfl, hK⟩
theorem within_any (x y : Nat) (w : World) (wx : (Lit.float .f64 x).wf = true) (wy : (Lit.float .f64 y).wf = true) :
    Calls Try.prog 4 #[.float .f64 x, .float .f64 y] w fun e w' => e = .returned (.bool true) ∧ Below w.heap.size w w' := by
  have hx : x < 18446744073709551616 := by simpa [Lit.wf] using wx
  have hy : y < 18446744073709551616 := by simpa [Lit.wf] using wy
  rcases kinds hx with ⟨h, _⟩ | ⟨_, s, v, hv, he⟩
  · exact within_a x y hx hy h w
  · rcases kinds hy with ⟨h, _⟩ | ⟨_, t, u, hu, hf⟩
    · exact within_b x y hx hy h s v hv he w
    · exact within_c x y hx hy s t v u hv hu he hf w

set_option maxHeartbeats 1000000 in
theorem tells_any (A : Option Addr) (n c : Nat) (zs : List Int) (x low high : Nat) (w : World) (hn : n ≤ maxLen) (hAI : IntsIn .i64 w A n zs) (wx : (Lit.float .f64 x).wf = true) (wl : (Lit.float .f64 low).wf = true) (wh : (Lit.float .f64 high).wf = true) :
    Calls Try.prog 3 #[.agg #[.slice A n c, .float .f64 x, .float .f64 low, .float .f64 high]] w fun e w' => e = .returned (.bool true) ∧ Below w.heap.size w w' := by
  have hx : x < 18446744073709551616 := by simpa [Lit.wf] using wx
  have hy : low < 18446744073709551616 := by simpa [Lit.wf] using wl
  have HWX := Lib.hid wx
  have HWL := Lib.hid wl
  have HWH := Lib.hid wh
  clear wx wl wh
  unfold maxLen at hn
  have hA := hAI.1
  go_enter Try.func3, Try.ntmps3
  go_wp2
  by_cases h1 : 9 < n
  · go_quiet (fail)
    obtain ⟨w0, hw0⟩ : ∃ w0, w0 = (w.alloc (.cells #[.slice A n c, .float .f64 x, .float .f64 low, .float .f64 high] 25)).drewN nq := ⟨_, rfl⟩
    rw [← hw0]
    have hK0 : Keep w w0 := by rw [hw0]; exact ((Keep.refl w).alloc _).trans (Quiet.keep ⟨_, rfl⟩)
    clear hw0
    go_wp2_with fail
    refine (awake_any _).mono ?_
    rintro e w1 ⟨rfl, hb⟩
    have hK1 := hK0.trans hb
    clear hb hK0
    go_wp2
    go_ret
    exact ⟨rfl, hK1⟩
  · go_quiet (fail)
    obtain ⟨w0, hw0⟩ : ∃ w0, w0 = (w.alloc (.cells #[.slice A n c, .float .f64 x, .float .f64 low, .float .f64 high] 25)).drewN nq := ⟨_, rfl⟩
    rw [← hw0]
    have hK0 : Keep w w0 := by rw [hw0]; exact ((Keep.refl w).alloc _).trans (Quiet.keep ⟨_, rfl⟩)
    clear hw0
    have hA0 := hA.kept hK0
    clear hA
    have ha := ofB_lt zs
    go_wp2_with fail
    refine (Re.of_any A n c zs _ hA0).mono ?_
    rintro e w1 ⟨rfl, rfl⟩
    go_wp2_with fail
    refine (Ref3.of_any A n c zs _ hA0).mono ?_
    rintro e w1 ⟨r, rfl, hr, hrt, hq⟩
    have hK1 := hK0.trans hq.keep
    have s1 : sameB (ofB zs) r = true := by
      rcases hr with ⟨h1, h2⟩ | rfl
      · exact sameB_nan (nanB_nan h1) (nanB_nan h2)
      · exact sameB_self hrt
    have s2 : sameB (ofB zs) (ofB zs) = true := sameB_self ha
    have s3 : sameB r r = true := sameB_self hrt
    have HR := Lib.hid hr
    clear hr hq hK0 hA0
    generalize ofB zs = a at *
    generalize okL zs = p at *
    have e1 : (p != p) = false := by simp
    obtain ⟨sm, hsm⟩ : ∃ sm, sm = sameB x low := ⟨_, rfl⟩
    obtain ⟨wi, hwi⟩ : ∃ wi, wi = withB x low high := ⟨_, rfl⟩
    have e2 : (sm != sm) = false := by simp
    have e3 : (wi == wi) = true := by simp
    go_wp2_with fail
    refine (Ref3.same_any _ _ ha hrt _).mono ?_
    rintro e w2 ⟨rfl, rfl⟩
    go_wp2_with fail
    refine (Re.same_any _ _ hx hy _).mono ?_
    rintro e w2 ⟨rfl, rfl⟩
    rw [← hsm]
    go_wp2_with fail
    refine (Ref3.same_any _ _ hx hy _).mono ?_
    rintro e w2 ⟨rfl, rfl⟩
    rw [← hsm]
    clear hsm
    go_wp2_with fail
    refine (Re.same_any _ _ ha ha _).mono ?_
    rintro e w2 ⟨rfl, rfl⟩
    go_wp2_with fail
    refine (Ref3.same_any _ _ hrt hrt _).mono ?_
    rintro e w2 ⟨rfl, rfl⟩
    go_wp2_with fail
    refine (awake_any _).mono ?_
    rintro e w2 ⟨rfl, hb⟩
    have hK2 := hK1.trans hb
    clear hb hK1
    go_wp2_with fail
    refine (Re.regs_any x hx _).mono ?_
    rintro e w3 ⟨A3, n3, c3, rfl, hA3, hb⟩
    have hK3 := hK2.trans hb
    clear hb hK2
    go_wp2_with fail
    refine (Ref3.regs_any x hx _).mono ?_
    rintro e w4 ⟨A4, n4, c4, rfl, hA4, hb⟩
    have hK4 := hK3.trans hb
    have hA5 := hA3.kept hb
    clear hb hK3 hA3
    go_wp2_with fail
    refine (Ref1.ints_any A3 A4 n3 n4 c3 c4 _ _ _ (by have := hA5.1; simp [regsN] at this; omega) hA5 hA4).mono ?_
    rintro e w5 ⟨rfl, hq5⟩
    have hK5 := hK4.trans hq5.keep
    clear hq5 hK4 hA4 hA5
    have e8 : (regsN (canon x) == regsN (canon x)) = true := by simp
    rw [e8]
    clear e8
    go_wp2_with fail
    refine (Re.within_any _ _ _ _).mono ?_
    rintro e w6 ⟨rfl, rfl⟩
    rw [← hwi]
    go_wp2_with fail
    refine (Ref3.within_any _ _ _ _).mono ?_
    rintro e w6 ⟨rfl, rfl⟩
    rw [← hwi]
    clear hwi
    go_wp2
    go_ret
    exact ⟨rfl, hK5⟩
end Go.Proofs.Ytjbbodkcmpefoaa.Real
