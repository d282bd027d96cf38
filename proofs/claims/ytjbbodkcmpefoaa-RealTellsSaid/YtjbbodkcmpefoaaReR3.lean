/- Layer 3's reference: the four numbers of a float. Conditions: none. -/
import Derived.Test.YtjbbodkcmpefoaaReR
namespace Go.Proofs.Ytjbbodkcmpefoaa.Ref3
open Go.Proofs.Ytjbbodkcmpefoaa.Fp Go.Proofs.Ytjbbodkcmpefoaa.Re Go.ChangeShapes Go.WideShapes Go.ChangeAt Go.RowKit

def Reg1Rel (v : Nat) (w : World) (x i : Value) (wr : World) : Prop :=
  ∃ X e : Nat, x = .float .f64 (fl false X) ∧ i = .int .i64 (e : Int) ∧ wr = w ∧ 1 ≤ e ∧ e ≤ 1075 ∧ Ex X ∧ X < top ∧ X * 2 ^ e = v * 2 ^ (1 + eU) ∧ (e = 1075 ∨ X < t53)
def Reg2Rel (v : Nat) (w : World) (x i : Value) (wr : World) : Prop :=
  ∃ X e : Nat, x = .float .f64 (fl false X) ∧ i = .int .i64 (e : Int) ∧ wr = w ∧ 1 ≤ e ∧ e ≤ 2100 ∧ Ex X ∧ X < top ∧ X * 2 ^ e = v * 2 ^ (1 + eU) ∧ (X = 0 ∨ t52 ≤ X ∨ e = 1)
theorem regs_nan (b : Nat) (hb : nanB b = true) (w : World) :
    Calls Try.prog 12 #[.float .f64 b] w (RetL (regsN (canon b)) w) := by
  have hn : (FloatKind.f64.format.order b b != some Ordering.eq) = true := hb
  have e : regsN (canon b) = [32760, 0, 0, 0] := by unfold canon; rw [hb, if_pos rfl]; decide
  rw [e]
  have HB := Lib.hid hb
  clear hb e
  go_enter Try.func12, Try.ntmps12
  go_wp2
  go_ret
  exact ⟨_, 4, 4, rfl, (Ints.new .i64 w 3 [32760, 0, 0, 0] _ rfl).more (by simp), (Keep.refl w).alloc _⟩
theorem regsN_top (s : Bool) : regsN (fl s top) = [(if s then 32768 else 0) + 32752, 0, 0, 0] := by
  unfold fl; rw [rg_top]; cases s <;> decide
set_option maxHeartbeats 400000 in
theorem regs_top (s : Bool) (w : World) :
    Calls Try.prog 12 #[.float .f64 (fl s top)] w (RetL (regsN (fl s top)) w) := by
  have hmin := fun w => minus_any s ex_top w
  have hn : (FloatKind.f64.format.order (fl s top) (fl s top) != some Ordering.eq) = false := nanB_fl ex_top
  have hneg : Op.unary .neg (.float .f64 (fl true top)) = pure (.float .f64 (fl false top)) := neg_run true ex_top
  have hgt := gt0 (s := false) ex_top
  rw [Bool.not_false, Bool.true_and, decide_eq_true (show top ≠ 0 from Nat.ne_of_gt top_pos)] at hgt
  have hh : ∀ t w, (binOp .quo t (.float .f64 (fl false top)) (.float .f64 4611686018427387904)).run Try.prog w = .ok (.float .f64 (fl false top)) w := fun t w => run_float_arith w .quo t .f64 _ _ _ (half_top false)
  have heq : (FloatKind.f64.format.order (fl false top) (fl false top) == some Ordering.eq) = true := by rw [eq_fl ex_top ex_top]; exact decide_eq_true rfl
  rw [regsN_top s]
  cases s
  · generalize fl false top = c at *
    go_enter Try.func12, Try.ntmps12
    go_wp2_with fail
    refine (hmin _).mono ?_
    rintro e w1 ⟨rfl, rfl⟩
    go_wp2
    go_ret
    exact ⟨_, 4, 4, rfl, (Ints.new .i64 w 3 [32752, 0, 0, 0] _ rfl).more (by simp), (Keep.refl w).alloc _⟩
  · generalize fl false top = c at *
    generalize fl true top = d at *
    go_enter Try.func12, Try.ntmps12
    go_wp2_with fail
    refine (hmin _).mono ?_
    rintro e w1 ⟨rfl, rfl⟩
    go_wp2
    go_ret
    exact ⟨_, 4, 4, rfl, (Ints.new .i64 w 3 [65520, 0, 0, 0] _ rfl).more (by simp), (Keep.refl w).alloc _⟩
theorem cells4 {a b c d a' b' c' d' : Int} (h1 : a = a') (h2 : b = b') (h3 : c = c') (h4 : d = d') :
    (#[Value.int .i64 a, Value.int .i64 b, Value.int .i64 c, Value.int .i64 d]).toList = [a', b', c', d'].map (Value.int .i64) := by rw [h1, h2, h3, h4]; rfl
set_option maxHeartbeats 1000000 in
theorem regs_fin (s : Bool) {v : Nat} (hv : Ex v) (hvt : v < top) (hv0 : v ≠ 0) (w : World) :
    Calls Try.prog 12 #[.float .f64 (fl s v)] w (RetL (regsN (fl s v)) w) := by
  have hmin := fun w => minus_any s hv w
  have hn : (FloatKind.f64.format.order (fl s v) (fl s v) != some Ordering.eq) = false := nanB_fl hv
  have hneg : Op.unary .neg (.float .f64 (fl true v)) = pure (.float .f64 (fl false v)) := neg_run true hv
  have hgt := gt0 (s := false) hv
  rw [Bool.not_false, Bool.true_and, decide_eq_true hv0] at hgt
  obtain ⟨u, hu, hue, huv, _⟩ := half_any false hv hvt
  have hh : ∀ t w, (binOp .quo t (.float .f64 (fl false v)) (.float .f64 4611686018427387904)).run Try.prog w = .ok (.float .f64 (fl false u)) w := fun t w => run_float_arith w .quo t .f64 _ _ _ hu
  have heq : (FloatKind.f64.format.order (fl false u) (fl false v) == some Ordering.eq) = false := by
    rw [eq_fl hue hv]; refine decide_eq_false ?_; have := huv hv0; unfold sg; simp only [Bool.false_eq_true, if_false]; omega
  have HU := Lib.hid hu
  have HV := Lib.hid hv
  have HVT := Lib.hid hvt
  have HV0 := Lib.hid hv0
  clear hu hue huv hv hvt hv0
  generalize fl false u = d at *
  cases s
  · obtain ⟨c, hc⟩ : ∃ c, c = fl false v := ⟨_, rfl⟩
    rw [← hc] at hmin hn hneg hgt hh heq ⊢
    have HC := Lib.hid hc
    clear hc
    go_enter Try.func12, Try.ntmps12
    go_wp2_with fail
    refine (hmin _).mono ?_
    rintro e w1 ⟨rfl, rfl⟩
    go_wp2
    go_loopw [0, 4] (fun x i wr => Reg1Rel v w x i wr) (fun _ i _ => (intOf i).toNat)
    case atStart => exact ⟨v, 1 + eU, by rw [← HC.out], by rw [eU_eq]; rfl, rfl, by omega, by rw [eU_eq]; omega, HV.out, HVT.out, rfl, .inl (by rw [eU_eq])⟩
    case round =>
      obtain ⟨X, e, rfl, rfl, rfl, he1, he2, hX, hXt, hXe, hXb⟩ := hrel
      have h1 := ne0 (s := false) hX
      have h2 := lt52 hX
      have HX := Lib.hid hX
      have HXT := Lib.hid hXt
      have HXE := Lib.hid hXe
      have HXB := Lib.hid hXb
      clear hX hXt hXe hXb
      by_cases hgo : X ≠ 0 ∧ X < t52 ∧ 1 < e
      · obtain ⟨g1, g2, g3⟩ := hgo
        have hle : 2 * X < t53 := by rw [t53_two]; omega
        have hm := two_times (Q0 := Try.prog) false HX.out (Nat.lt_trans hle t53_top)
        rw [decide_eq_true g1] at h1
        rw [decide_eq_true g2] at h2
        have G1 := Lib.hid g1
        have G2 := Lib.hid g2
        have HLE := Lib.hid hle
        have h3 : decide ((1 : Int) < (e : Int)) = true := decide_eq_true (by omega)
        have HE1 := Lib.hid he1
        have HG3 := Lib.hid g3
        clear g1 g2 hle he1 g3
        generalize fl false X = x at *
        go_wp2
        go_roundw
        case rel =>
          have hd := ex_double HX.out (Nat.le_of_lt (Nat.lt_trans HLE.out t53_top))
          refine ⟨2 * X, e - 1, rfl, by have := HG3.out; go_num, rfl, by have := HG3.out; omega, by omega, hd, Nat.lt_trans HLE.out t53_top, ?_, .inr HLE.out⟩
          rw [← HXE.out, Nat.mul_comm 2 X, Nat.mul_assoc, ← Nat.pow_succ', show (e - 1).succ = e by have := HG3.out; omega]
        case measure => have := HG3.out; simp [intOf]; omega
      · have hX0 : X ≠ 0 := by
          intro h0
          have h := HXE.out
          rw [h0, Nat.zero_mul] at h
          have := Nat.mul_pos (Nat.pos_of_ne_zero HV0.out) (pos2 (1 + eU))
          omega
        rw [decide_eq_true hX0] at h1
        have HX0 := Lib.hid hX0
        have HE1 := Lib.hid he1
        clear hX0 he1
        have hend : t52 ≤ X ∨ (X < t52 ∧ e = 1) := by have := HE1.out; have := HX0.out; omega
        clear hgo
        rcases hend with hA | ⟨hA, hB⟩
        · rw [decide_eq_false (by omega)] at h2
          have HA : Hid (t52 ≤ X ∨ e = 1) := Lib.hid (.inl hA)
          clear hA
          obtain ⟨x, hx⟩ : ∃ x, x = fl false X := ⟨_, rfl⟩
          rw [← hx] at h1 h2 ⊢
          have HXX := Lib.hid hx
          clear hx
          go_wp2
          clear h1 h2
          go_loopw [0, 4] (fun x i wr' => Reg2Rel v wr x i wr') (fun _ i _ => 3000 - (intOf i).toNat)
          case atStart => exact ⟨X, e, by rw [← HXX.out], rfl, rfl, HE1.out, by omega, HX.out, HXT.out, HXE.out, .inr HA.out⟩
          case round =>
            obtain ⟨Y, k, rfl, rfl, rfl, hk1, hk2, hY, hYt, hYe, hYb⟩ := hrel
            have h4 := ge53 hY
            have HYE := Lib.hid hYe
            have HYB := Lib.hid hYb
            have HY := Lib.hid hY
            have HYT := Lib.hid hYt
            have HK1 := Lib.hid hk1
            clear hYe hYb hY hYt hk1
            by_cases hgo : t53 ≤ Y
            · rw [decide_eq_true hgo] at h4
              obtain ⟨Z, rfl⟩ : ∃ Z, Y = 2 * Z := ⟨Y / 2, by have := big_even HY.out hgo; omega⟩
              have hm := halved (Q0 := Try.prog) false HY.out HYT.out
              have hkb := norm_bound HVT.out HYE.out hgo
              have HGO := Lib.hid hgo
              clear hgo
              generalize fl false (2 * Z) = y at *
              go_wp2
              go_roundw
              case rel =>
                refine ⟨Z, k + 1, rfl, by go_num, rfl, by omega, by omega, ex_half HY.out, by have := HYT.out; omega, ?_, .inr (.inl (by have := HGO.out; rw [t53_two] at this; omega))⟩
                rw [← HYE.out, Nat.pow_succ', ← Nat.mul_assoc, Nat.mul_comm 2 Z]
              case measure => simp [intOf]; omega
            · rw [decide_eq_false hgo] at h4
              obtain ⟨hN1, hN2, hN3⟩ := norm_rg HV.out HYE.out HK1.out (Nat.lt_of_not_le hgo) HYB.out
              have hcv := fun w => run_convert_float_int (P := Try.prog) w 23 3 .f64 .i64 (fl false Y) _ (by rw [Try.underlying23]; rfl) Try.underlying3 (to_int HY.out (Nat.le_of_lt (Nat.lt_of_not_le hgo)))
              have HGO := Lib.hid hgo
              clear hgo
              generalize Y / un = N at *
              generalize fl false Y = y at *
              by_cases hs : N < 4503599627370496
              · have hs1 : decide ((N : Int) < 4503599627370496) = true := decide_eq_true (by omega)
                have hr := hN2 hs
                have HR := Lib.hid hr
                clear hN2 hN3 hr
                go_wp2
                go_ret
                refine ⟨_, 4, 4, rfl, (Ints.new .i64 wr 3 (regsN c) _ ?_).more ?_, (Keep.refl wr).alloc _⟩
                · have hr : c = 0 * 281474976710656 + N := by rw [HC.out]; unfold fl; rw [if_neg (by decide), HR.out] <;> omega
                  exact cells4 (by rw [hr]; unfold regN; go_num) (by rw [hr]; unfold regN; go_num) (by rw [hr]; unfold regN; go_num) (by rw [hr]; unfold regN; go_num)
                · simp
              · have hs1 : decide ((N : Int) < 4503599627370496) = false := decide_eq_false (by omega)
                have hr := hN3 (by omega)
                have hs2 : 4503599627370496 ≤ N := by omega
                have hkk : k < 2047 := by have := rg_lt HVT.out; omega
                have HR := Lib.hid hr
                clear hN2 hN3 hr hs
                go_wp2
                go_ret
                refine ⟨_, 4, 4, rfl, (Ints.new .i64 wr 3 (regsN c) _ ?_).more ?_, (Keep.refl wr).alloc _⟩
                · have hr : c = 0 * 281474976710656 + (k * 4503599627370496 + (N - 4503599627370496)) := by rw [HC.out]; unfold fl; rw [if_neg (by decide), HR.out] <;> omega
                  exact cells4 (by rw [hr]; unfold regN; go_num) (by rw [hr]; unfold regN; go_num) (by rw [hr]; unfold regN; go_num) (by rw [hr]; unfold regN; go_num)
                · simp
        · rw [decide_eq_true hA] at h2
          have h3 : decide ((1 : Int) < (e : Int)) = false := decide_eq_false (by omega)
          have HA : Hid (t52 ≤ X ∨ e = 1) := Lib.hid (.inr hB)
          clear hA hB
          obtain ⟨x, hx⟩ : ∃ x, x = fl false X := ⟨_, rfl⟩
          rw [← hx] at h1 h2 ⊢
          have HXX := Lib.hid hx
          clear hx
          go_wp2
          clear h1 h2
          go_loopw [0, 4] (fun x i wr' => Reg2Rel v wr x i wr') (fun _ i _ => 3000 - (intOf i).toNat)
          case atStart => exact ⟨X, e, by rw [← HXX.out], rfl, rfl, HE1.out, by omega, HX.out, HXT.out, HXE.out, .inr HA.out⟩
          case round =>
            obtain ⟨Y, k, rfl, rfl, rfl, hk1, hk2, hY, hYt, hYe, hYb⟩ := hrel
            have h4 := ge53 hY
            have HYE := Lib.hid hYe
            have HYB := Lib.hid hYb
            have HY := Lib.hid hY
            have HYT := Lib.hid hYt
            have HK1 := Lib.hid hk1
            clear hYe hYb hY hYt hk1
            by_cases hgo : t53 ≤ Y
            · rw [decide_eq_true hgo] at h4
              obtain ⟨Z, rfl⟩ : ∃ Z, Y = 2 * Z := ⟨Y / 2, by have := big_even HY.out hgo; omega⟩
              have hm := halved (Q0 := Try.prog) false HY.out HYT.out
              have hkb := norm_bound HVT.out HYE.out hgo
              have HGO := Lib.hid hgo
              clear hgo
              generalize fl false (2 * Z) = y at *
              go_wp2
              go_roundw
              case rel =>
                refine ⟨Z, k + 1, rfl, by go_num, rfl, by omega, by omega, ex_half HY.out, by have := HYT.out; omega, ?_, .inr (.inl (by have := HGO.out; rw [t53_two] at this; omega))⟩
                rw [← HYE.out, Nat.pow_succ', ← Nat.mul_assoc, Nat.mul_comm 2 Z]
              case measure => simp [intOf]; omega
            · rw [decide_eq_false hgo] at h4
              obtain ⟨hN1, hN2, hN3⟩ := norm_rg HV.out HYE.out HK1.out (Nat.lt_of_not_le hgo) HYB.out
              have hcv := fun w => run_convert_float_int (P := Try.prog) w 23 3 .f64 .i64 (fl false Y) _ (by rw [Try.underlying23]; rfl) Try.underlying3 (to_int HY.out (Nat.le_of_lt (Nat.lt_of_not_le hgo)))
              have HGO := Lib.hid hgo
              clear hgo
              generalize Y / un = N at *
              generalize fl false Y = y at *
              by_cases hs : N < 4503599627370496
              · have hs1 : decide ((N : Int) < 4503599627370496) = true := decide_eq_true (by omega)
                have hr := hN2 hs
                have HR := Lib.hid hr
                clear hN2 hN3 hr
                go_wp2
                go_ret
                refine ⟨_, 4, 4, rfl, (Ints.new .i64 wr 3 (regsN c) _ ?_).more ?_, (Keep.refl wr).alloc _⟩
                · have hr : c = 0 * 281474976710656 + N := by rw [HC.out]; unfold fl; rw [if_neg (by decide), HR.out] <;> omega
                  exact cells4 (by rw [hr]; unfold regN; go_num) (by rw [hr]; unfold regN; go_num) (by rw [hr]; unfold regN; go_num) (by rw [hr]; unfold regN; go_num)
                · simp
              · have hs1 : decide ((N : Int) < 4503599627370496) = false := decide_eq_false (by omega)
                have hr := hN3 (by omega)
                have hs2 : 4503599627370496 ≤ N := by omega
                have hkk : k < 2047 := by have := rg_lt HVT.out; omega
                have HR := Lib.hid hr
                clear hN2 hN3 hr hs
                go_wp2
                go_ret
                refine ⟨_, 4, 4, rfl, (Ints.new .i64 wr 3 (regsN c) _ ?_).more ?_, (Keep.refl wr).alloc _⟩
                · have hr : c = 0 * 281474976710656 + (k * 4503599627370496 + (N - 4503599627370496)) := by rw [HC.out]; unfold fl; rw [if_neg (by decide), HR.out] <;> omega
                  exact cells4 (by rw [hr]; unfold regN; go_num) (by rw [hr]; unfold regN; go_num) (by rw [hr]; unfold regN; go_num) (by rw [hr]; unfold regN; go_num)
                · simp

  · obtain ⟨c, hc⟩ : ∃ c, c = fl false v := ⟨_, rfl⟩
    obtain ⟨d, hd⟩ : ∃ d, d = fl true v := ⟨_, rfl⟩
    rw [← hc] at hneg hgt hh heq
    rw [← hd] at hmin hn hneg ⊢
    have HC := Lib.hid hc
    have HD := Lib.hid hd
    clear hc hd
    go_enter Try.func12, Try.ntmps12
    go_wp2_with fail
    refine (hmin _).mono ?_
    rintro e w1 ⟨rfl, rfl⟩
    go_wp2
    go_loopw [0, 4] (fun x i wr => Reg1Rel v w x i wr) (fun _ i _ => (intOf i).toNat)
    case atStart => exact ⟨v, 1 + eU, by rw [← HC.out], by rw [eU_eq]; rfl, rfl, by omega, by rw [eU_eq]; omega, HV.out, HVT.out, rfl, .inl (by rw [eU_eq])⟩
    case round =>
      obtain ⟨X, e, rfl, rfl, rfl, he1, he2, hX, hXt, hXe, hXb⟩ := hrel
      have h1 := ne0 (s := false) hX
      have h2 := lt52 hX
      have HX := Lib.hid hX
      have HXT := Lib.hid hXt
      have HXE := Lib.hid hXe
      have HXB := Lib.hid hXb
      clear hX hXt hXe hXb
      by_cases hgo : X ≠ 0 ∧ X < t52 ∧ 1 < e
      · obtain ⟨g1, g2, g3⟩ := hgo
        have hle : 2 * X < t53 := by rw [t53_two]; omega
        have hm := two_times (Q0 := Try.prog) false HX.out (Nat.lt_trans hle t53_top)
        rw [decide_eq_true g1] at h1
        rw [decide_eq_true g2] at h2
        have G1 := Lib.hid g1
        have G2 := Lib.hid g2
        have HLE := Lib.hid hle
        have h3 : decide ((1 : Int) < (e : Int)) = true := decide_eq_true (by omega)
        have HE1 := Lib.hid he1
        have HG3 := Lib.hid g3
        clear g1 g2 hle he1 g3
        generalize fl false X = x at *
        go_wp2
        go_roundw
        case rel =>
          have hd := ex_double HX.out (Nat.le_of_lt (Nat.lt_trans HLE.out t53_top))
          refine ⟨2 * X, e - 1, rfl, by have := HG3.out; go_num, rfl, by have := HG3.out; omega, by omega, hd, Nat.lt_trans HLE.out t53_top, ?_, .inr HLE.out⟩
          rw [← HXE.out, Nat.mul_comm 2 X, Nat.mul_assoc, ← Nat.pow_succ', show (e - 1).succ = e by have := HG3.out; omega]
        case measure => have := HG3.out; simp [intOf]; omega
      · have hX0 : X ≠ 0 := by
          intro h0
          have h := HXE.out
          rw [h0, Nat.zero_mul] at h
          have := Nat.mul_pos (Nat.pos_of_ne_zero HV0.out) (pos2 (1 + eU))
          omega
        rw [decide_eq_true hX0] at h1
        have HX0 := Lib.hid hX0
        have HE1 := Lib.hid he1
        clear hX0 he1
        have hend : t52 ≤ X ∨ (X < t52 ∧ e = 1) := by have := HE1.out; have := HX0.out; omega
        clear hgo
        rcases hend with hA | ⟨hA, hB⟩
        · rw [decide_eq_false (by omega)] at h2
          have HA : Hid (t52 ≤ X ∨ e = 1) := Lib.hid (.inl hA)
          clear hA
          obtain ⟨x, hx⟩ : ∃ x, x = fl false X := ⟨_, rfl⟩
          rw [← hx] at h1 h2 ⊢
          have HXX := Lib.hid hx
          clear hx
          go_wp2
          clear h1 h2
          go_loopw [0, 4] (fun x i wr' => Reg2Rel v wr x i wr') (fun _ i _ => 3000 - (intOf i).toNat)
          case atStart => exact ⟨X, e, by rw [← HXX.out], rfl, rfl, HE1.out, by omega, HX.out, HXT.out, HXE.out, .inr HA.out⟩
          case round =>
            obtain ⟨Y, k, rfl, rfl, rfl, hk1, hk2, hY, hYt, hYe, hYb⟩ := hrel
            have h4 := ge53 hY
            have HYE := Lib.hid hYe
            have HYB := Lib.hid hYb
            have HY := Lib.hid hY
            have HYT := Lib.hid hYt
            have HK1 := Lib.hid hk1
            clear hYe hYb hY hYt hk1
            by_cases hgo : t53 ≤ Y
            · rw [decide_eq_true hgo] at h4
              obtain ⟨Z, rfl⟩ : ∃ Z, Y = 2 * Z := ⟨Y / 2, by have := big_even HY.out hgo; omega⟩
              have hm := halved (Q0 := Try.prog) false HY.out HYT.out
              have hkb := norm_bound HVT.out HYE.out hgo
              have HGO := Lib.hid hgo
              clear hgo
              generalize fl false (2 * Z) = y at *
              go_wp2
              go_roundw
              case rel =>
                refine ⟨Z, k + 1, rfl, by go_num, rfl, by omega, by omega, ex_half HY.out, by have := HYT.out; omega, ?_, .inr (.inl (by have := HGO.out; rw [t53_two] at this; omega))⟩
                rw [← HYE.out, Nat.pow_succ', ← Nat.mul_assoc, Nat.mul_comm 2 Z]
              case measure => simp [intOf]; omega
            · rw [decide_eq_false hgo] at h4
              obtain ⟨hN1, hN2, hN3⟩ := norm_rg HV.out HYE.out HK1.out (Nat.lt_of_not_le hgo) HYB.out
              have hcv := fun w => run_convert_float_int (P := Try.prog) w 23 3 .f64 .i64 (fl false Y) _ (by rw [Try.underlying23]; rfl) Try.underlying3 (to_int HY.out (Nat.le_of_lt (Nat.lt_of_not_le hgo)))
              have HGO := Lib.hid hgo
              clear hgo
              generalize Y / un = N at *
              generalize fl false Y = y at *
              by_cases hs : N < 4503599627370496
              · have hs1 : decide ((N : Int) < 4503599627370496) = true := decide_eq_true (by omega)
                have hr := hN2 hs
                have HR := Lib.hid hr
                clear hN2 hN3 hr
                go_wp2
                go_ret
                refine ⟨_, 4, 4, rfl, (Ints.new .i64 wr 3 (regsN d) _ ?_).more ?_, (Keep.refl wr).alloc _⟩
                · have hr : d = 32768 * 281474976710656 + N := by rw [HD.out]; unfold fl; rw [if_pos rfl, HR.out] <;> omega
                  exact cells4 (by rw [hr]; unfold regN; go_num) (by rw [hr]; unfold regN; go_num) (by rw [hr]; unfold regN; go_num) (by rw [hr]; unfold regN; go_num)
                · simp
              · have hs1 : decide ((N : Int) < 4503599627370496) = false := decide_eq_false (by omega)
                have hr := hN3 (by omega)
                have hs2 : 4503599627370496 ≤ N := by omega
                have hkk : k < 2047 := by have := rg_lt HVT.out; omega
                have HR := Lib.hid hr
                clear hN2 hN3 hr hs
                go_wp2
                go_ret
                refine ⟨_, 4, 4, rfl, (Ints.new .i64 wr 3 (regsN d) _ ?_).more ?_, (Keep.refl wr).alloc _⟩
                · have hr : d = 32768 * 281474976710656 + (k * 4503599627370496 + (N - 4503599627370496)) := by rw [HD.out]; unfold fl; rw [if_pos rfl, HR.out] <;> omega
                  exact cells4 (by rw [hr]; unfold regN; go_num) (by rw [hr]; unfold regN; go_num) (by rw [hr]; unfold regN; go_num) (by rw [hr]; unfold regN; go_num)
                · simp
        · rw [decide_eq_true hA] at h2
          have h3 : decide ((1 : Int) < (e : Int)) = false := decide_eq_false (by omega)
          have HA : Hid (t52 ≤ X ∨ e = 1) := Lib.hid (.inr hB)
          clear hA hB
          obtain ⟨x, hx⟩ : ∃ x, x = fl false X := ⟨_, rfl⟩
          rw [← hx] at h1 h2 ⊢
          have HXX := Lib.hid hx
          clear hx
          go_wp2
          clear h1 h2
          go_loopw [0, 4] (fun x i wr' => Reg2Rel v wr x i wr') (fun _ i _ => 3000 - (intOf i).toNat)
          case atStart => exact ⟨X, e, by rw [← HXX.out], rfl, rfl, HE1.out, by omega, HX.out, HXT.out, HXE.out, .inr HA.out⟩
          case round =>
            obtain ⟨Y, k, rfl, rfl, rfl, hk1, hk2, hY, hYt, hYe, hYb⟩ := hrel
            have h4 := ge53 hY
            have HYE := Lib.hid hYe
            have HYB := Lib.hid hYb
            have HY := Lib.hid hY
            have HYT := Lib.hid hYt
            have HK1 := Lib.hid hk1
            clear hYe hYb hY hYt hk1
            by_cases hgo : t53 ≤ Y
            · rw [decide_eq_true hgo] at h4
              obtain ⟨Z, rfl⟩ : ∃ Z, Y = 2 * Z := ⟨Y / 2, by have := big_even HY.out hgo; omega⟩
              have hm := halved (Q0 := Try.prog) false HY.out HYT.out
              have hkb := norm_bound HVT.out HYE.out hgo
              have HGO := Lib.hid hgo
              clear hgo
              generalize fl false (2 * Z) = y at *
              go_wp2
              go_roundw
              case rel =>
                refine ⟨Z, k + 1, rfl, by go_num, rfl, by omega, by omega, ex_half HY.out, by have := HYT.out; omega, ?_, .inr (.inl (by have := HGO.out; rw [t53_two] at this; omega))⟩
                rw [← HYE.out, Nat.pow_succ', ← Nat.mul_assoc, Nat.mul_comm 2 Z]
              case measure => simp [intOf]; omega
            · rw [decide_eq_false hgo] at h4
              obtain ⟨hN1, hN2, hN3⟩ := norm_rg HV.out HYE.out HK1.out (Nat.lt_of_not_le hgo) HYB.out
              have hcv := fun w => run_convert_float_int (P := Try.prog) w 23 3 .f64 .i64 (fl false Y) _ (by rw [Try.underlying23]; rfl) Try.underlying3 (to_int HY.out (Nat.le_of_lt (Nat.lt_of_not_le hgo)))
              have HGO := Lib.hid hgo
              clear hgo
              generalize Y / un = N at *
              generalize fl false Y = y at *
              by_cases hs : N < 4503599627370496
              · have hs1 : decide ((N : Int) < 4503599627370496) = true := decide_eq_true (by omega)
                have hr := hN2 hs
                have HR := Lib.hid hr
                clear hN2 hN3 hr
                go_wp2
                go_ret
                refine ⟨_, 4, 4, rfl, (Ints.new .i64 wr 3 (regsN d) _ ?_).more ?_, (Keep.refl wr).alloc _⟩
                · have hr : d = 32768 * 281474976710656 + N := by rw [HD.out]; unfold fl; rw [if_pos rfl, HR.out] <;> omega
                  exact cells4 (by rw [hr]; unfold regN; go_num) (by rw [hr]; unfold regN; go_num) (by rw [hr]; unfold regN; go_num) (by rw [hr]; unfold regN; go_num)
                · simp
              · have hs1 : decide ((N : Int) < 4503599627370496) = false := decide_eq_false (by omega)
                have hr := hN3 (by omega)
                have hs2 : 4503599627370496 ≤ N := by omega
                have hkk : k < 2047 := by have := rg_lt HVT.out; omega
                have HR := Lib.hid hr
                clear hN2 hN3 hr hs
                go_wp2
                go_ret
                refine ⟨_, 4, 4, rfl, (Ints.new .i64 wr 3 (regsN d) _ ?_).more ?_, (Keep.refl wr).alloc _⟩
                · have hr : d = 32768 * 281474976710656 + (k * 4503599627370496 + (N - 4503599627370496)) := by rw [HD.out]; unfold fl; rw [if_pos rfl, HR.out] <;> omega
                  exact cells4 (by rw [hr]; unfold regN; go_num) (by rw [hr]; unfold regN; go_num) (by rw [hr]; unfold regN; go_num) (by rw [hr]; unfold regN; go_num)
                · simp
set_option maxHeartbeats 400000 in
theorem regs_zero (s : Bool) (w : World) :
    Calls Try.prog 12 #[.float .f64 (fl s 0)] w (RetL (regsN (fl s 0)) w) := by
  have hmin := fun w => minus_any s ex_zero w
  have hn : (FloatKind.f64.format.order (fl s 0) (fl s 0) != some Ordering.eq) = false := nanB_fl ex_zero
  have hneg : Op.unary .neg (.float .f64 (fl true 0)) = pure (.float .f64 (fl false 0)) := neg_run true ex_zero
  have hgt := gt0 (s := false) ex_zero
  have hne := ne0 (s := false) ex_zero
  have hge := ge53 ex_zero
  rw [Bool.not_false, Bool.true_and, decide_eq_false (by simp)] at hgt
  rw [decide_eq_false (by simp)] at hne
  rw [decide_eq_false (by have := t52_pos; rw [t53_two]; omega)] at hge
  have hcv := fun w => run_convert_float_int (P := Try.prog) w 23 3 .f64 .i64 (fl false 0) _ (by rw [Try.underlying23]; rfl) Try.underlying3 (to_int ex_zero (Nat.zero_le _))
  rw [Nat.zero_div] at hcv
  have hl : regsN (fl s 0) = [if s then 32768 else 0, 0, 0, 0] := by cases s <;> decide
  rw [hl]
  cases s
  · generalize fl false 0 = c at *
    go_enter Try.func12, Try.ntmps12
    go_wp2_with fail
    refine (hmin _).mono ?_
    rintro e w1 ⟨rfl, rfl⟩
    go_wp2
    go_loopw [0, 4] (fun x i wr => StayRel w (.float .f64 c) (.int .i64 1075) x i wr) (fun _ _ _ => 0)
    case atStart => exact ⟨rfl, rfl, rfl⟩
    case round =>
      obtain ⟨rfl, rfl, rfl⟩ := hrel
      go_wp2
      go_loopw [0, 4] (fun x i wr' => StayRel wr (.float .f64 c) (.int .i64 1075) x i wr') (fun _ _ _ => 0)
      case atStart => exact ⟨rfl, rfl, rfl⟩
      case round =>
        obtain ⟨rfl, rfl, rfl⟩ := hrel
        go_wp2
        go_ret
        exact ⟨_, 4, 4, rfl, (Ints.new .i64 wr 3 [0, 0, 0, 0] _ rfl).more (by simp), (Keep.refl wr).alloc _⟩
  · generalize fl false 0 = c at *
    generalize fl true 0 = d at *
    go_enter Try.func12, Try.ntmps12
    go_wp2_with fail
    refine (hmin _).mono ?_
    rintro e w1 ⟨rfl, rfl⟩
    go_wp2
    go_loopw [0, 4] (fun x i wr => StayRel w (.float .f64 c) (.int .i64 1075) x i wr) (fun _ _ _ => 0)
    case atStart => exact ⟨rfl, rfl, rfl⟩
    case round =>
      obtain ⟨rfl, rfl, rfl⟩ := hrel
      go_wp2
      go_loopw [0, 4] (fun x i wr' => StayRel wr (.float .f64 c) (.int .i64 1075) x i wr') (fun _ _ _ => 0)
      case atStart => exact ⟨rfl, rfl, rfl⟩
      case round =>
        obtain ⟨rfl, rfl, rfl⟩ := hrel
        go_wp2
        go_ret
        exact ⟨_, 4, 4, rfl, (Ints.new .i64 wr 3 [32768, 0, 0, 0] _ rfl).more (by simp), (Keep.refl wr).alloc _⟩
theorem regs_any (b : Nat) (hb : b < 18446744073709551616) (w : World) :
    Calls Try.prog 12 #[.float .f64 b] w (RetL (regsN (canon b)) w) := by
  rcases kinds hb with ⟨_, h⟩ | ⟨h, s, v, hv, rfl⟩
  · exact regs_nan b h w
  · have e : canon (fl s v) = fl s v := by unfold canon; rw [h, if_neg (by decide)]
    rw [e]
    by_cases h0 : v = 0
    · subst h0; exact regs_zero s w
    · by_cases h1 : v = top
      · rw [h1]; exact regs_top s w
      · exact regs_fin s hv (Nat.lt_of_le_of_ne hv.2 h1) h0 w
end Go.Proofs.Ytjbbodkcmpefoaa.Ref3
