/- For every two lists of integers the law TwinJoins returns true and leaves its arguments as they were. Conditions: none. -/
import Derived.Test.YtpehakfdggfeeaaTw3
import Derived.Test.YtpehakfdggfeeaaOpen
namespace Go.Proofs.Ytpehakfdggfeeaa.TwinJoins
set_option linter.unusedVariables false
open Go.ChangeShapes Go.WideShapes Go.ChangeAt Go.RowKit

set_option maxHeartbeats 1000000 in
theorem walk (A : Option Addr) (n c : Nat) (xs : List Int) (A2 : Option Addr) (m d : Nat) (ys : List Int) (w : World) (hAI : IntsIn .i64 w A n xs) (hn : n ≤ maxLen) (hBI : IntsIn .i64 w A2 m ys) (hm : m ≤ maxLen) :
    Calls Try.prog 5 #[.slice A n c, .slice A2 m d] w fun e w' => e = .returned (.bool true) ∧ Below w.heap.size w w' := by
  unfold maxLen at hn hm
  have hA := hAI.1
  have hB := hBI.1
  by_cases h1 : 200 < n
  · go_enter Try.func5, Try.ntmps5
    go_wp2_with fail
    refine (awake_any _).mono ?_
    rintro e w1 ⟨rfl, hb⟩
    go_wp2
    go_ret
    exact ⟨rfl, hb⟩
  · by_cases h2 : 200 < m
    · go_enter Try.func5, Try.ntmps5
      go_wp2_with fail
      refine (awake_any _).mono ?_
      rintro e w1 ⟨rfl, hb⟩
      go_wp2
      go_ret
      exact ⟨rfl, hb⟩
    · go_enter Try.func5, Try.ntmps5
      go_wp2_with fail
      refine (putAll_any A n c xs _ (by omega) hA).mono ?_
      rintro e w1 ⟨rfl, hb1⟩
      have hK1 : Keep w w1 := hb1
      have hB1 := hB.kept hK1
      have hA1 := hA.kept hK1
      clear hb1
      go_wp2_with fail
      refine (putAll_any A2 m d ys _ (by omega) hB1).mono ?_
      rintro e w2 ⟨rfl, hb2⟩
      have hK2 : Keep w w2 := hK1.trans hb2
      have hB2 := hB1.kept hb2
      have hA2 := hA1.kept hb2
      clear hb2 hK1 hA1 hB1
      have hown0 : (w2.alloc (.cells #[] 3)).ownsRow w2.heap.size 3 1 (.slice (some ⟨w2.heap.size, 0, none⟩) 0 0) 0 (([] : List Int).map (Value.int .i64)) := World.ownsRow_made _ _ _ (Nat.le_refl _) (by decide) rfl
      have hK3 := (Keep.refl w2).alloc (.cells #[] 3)
      have hA3 := hA2.kept hK3
      have hB3 := hB2.kept hK3
      have hS : (w2.alloc (.cells #[] 3)).heap.size = w2.heap.size + 1 := by simp
      go_wp2_with (first
        | (at_builtin; refine append_ints rfl (.tmp 31) (.tmp 32) 22 rfl w2.heap.size 3 .i64 8 Try.underlying22 Ref1.info3 _ 0 [] rfl hown0 (by simp) _ A n c xs rfl hA3 (by unfold maxLen; omega) (by omega) ?_; intro v1 w3 hown1 hbel1; simp only [Nat.zero_add, List.nil_append] at hown1; have hB4 := hB2.below (Below.trans hK3 hbel1); have hs3 := (Below.trans hK3 hbel1).size)
        | (at_builtin; refine append_ints rfl (.tmp 33) (.tmp 34) 22 rfl w2.heap.size 3 .i64 8 Try.underlying22 Ref1.info3 _ n xs rfl hown1 hs3 _ A2 m d ys rfl hB4 (by unfold maxLen; omega) (by omega) ?_; intro v2 w4 hown2 hbel2; obtain ⟨A5, c5, rfl⟩ := own_slice hown2))
      have hK4 : Keep w w4 := hK2.trans (Below.trans (Below.trans hK3 hbel1) hbel2)
      have hA5 := Ints.of_own hown2
      obtain ⟨P1, P2⟩ := Tw.put_app xs ys
      have HP1 := Lib.hid P1
      have HP2 := Lib.hid P2
      clear P1 P2 hown0 hown1 hown2 hbel1 hbel2 hB4 hs3 hA3 hB3 hK3 hS hA2 hB2
      refine (putAll_any A5 (n + m) c5 (xs ++ ys) _ (by omega) hA5).mono ?_
      rintro e w5 ⟨rfl, hb5⟩
      have hK5 := hK4.trans hb5
      clear hb5 hK4 hA5
      rw [HP1.out]
      go_wp2_with fail
      refine (awake_any _).mono ?_
      rintro e w6 ⟨rfl, hb6⟩
      have hK6 := hK5.trans hb6
      clear hb6 hK5
      obtain ⟨px, hpx⟩ : ∃ b, b = Tw.allIn xs := ⟨_, rfl⟩
      obtain ⟨py, hpy⟩ : ∃ b, b = Tw.allIn ys := ⟨_, rfl⟩
      rw [← hpx, ← hpy]
      have HX := Lib.hid hpx
      have HY := Lib.hid hpy
      clear hpx hpy
      cases px with
      | false =>
        go_wp2
        go_ret
        exact ⟨rfl, hK6⟩
      | true =>
        cases py with
        | false =>
          go_wp2
          go_ret
          exact ⟨rfl, hK6⟩
        | true =>
          have e := HP2.out (by rw [HP1.out, ← HX.out, ← HY.out]; rfl)
          rw [e]
          clear e
          have l1 : (Tw.put xs).length ≤ 2 * xs.length := Tw.put_len xs
          have l2 : (Tw.put ys).length ≤ 2 * ys.length := Tw.put_len ys
          have hx1 := hAI.1.1
          have hx2 := hBI.1.1
          have hadd := add_st (P := Try.prog) (Tw.put xs) (Tw.put ys) (by omega)
          clear l1 l2 hx1 hx2
          have hss : ((st (Tw.put xs ++ Tw.put ys)).toList == (st (Tw.put xs ++ Tw.put ys)).toList) = true := by simp
          go_wp2
          go_ret
          exact ⟨rfl, hK6⟩

theorem own : ownKnob Try.prog.godebug = none := by kernel_rfl
theorem laidOut : laidOutB Try.prog = true := by kernel_rfl
set_option maxRecDepth 100000 in
theorem lifted (os : Os) (started : os.Started) (H : Type) (enc : TypeId × Value → H) :
    ReturnsInHanded {} Try.checked os 5 .any (Rows.twinJoinsSpec.pre6 enc Try.prog Try.f5 Rows.twinJoinsRow.domain false) (Rows.twinJoinsSpec.post enc Try.prog Try.f5 false true false false) := by
  refine returnsInHanded_of_change (C := Try.checked) own started (by kernel_rfl) Try.func5
    (ChangeSpec.witness6 (enc := enc) (C := Try.checked) false ⟨#[], #[.slice none 0 0, .slice none 0 0], []⟩ 8 (by kernel_rfl) (by kernel_rfl) (by kernel_rfl) (by kernel_rfl)) ?_
  intro W base args ds gs before hval0 hW hcnd _
  have hval : ∀ (j : Nat) t v, Try.f5.params[j]? = some t → args[j]? = some v → Value.okWide Try.prog W .any base t v := hval0
  have hW' := hW
  obtain ⟨p, q, hA0, hV, rfl, hfz, hnd⟩ := hW
  have hA : DataW.TrodAll enc Try.prog W 0 (fun _ => true) true Try.f5.params.toList args.toList ds p := hA0
  rw [Try.params5] at hA hval
  obtain ⟨v0, vs0, d0, ds0, p0, q0, hargs, rfl, rfl, h0, r0⟩ := trodAll_cons hA
  obtain ⟨v1, vs1, d1, ds1, p1, q1, rfl, rfl, rfl, h1, r1⟩ := trodAll_cons r0
  obtain ⟨rfl, rfl, rfl⟩ := trodAll_nil r1
  obtain rfl : args = #[v0, v1] := by cases args; simp_all
  obtain ⟨rfl, rfl⟩ := trodVars_none hV
  obtain ⟨x0, y0, u0, rfl⟩ := okWide_slice Try.underlying22 (hval 0 22 v0 rfl rfl)
  obtain ⟨A0, n0, c0, z0, e0, l0, m0, w0⟩ := (opens_ints Try.underlying22 Try.underlying3 (by kernel_rfl)).arg h0
  obtain ⟨rfl, rfl, rfl⟩ : x0 = A0 ∧ y0 = n0 ∧ u0 = c0 := by simpa [Value.cells] using e0
  obtain ⟨x1, y1, u1, rfl⟩ := okWide_slice Try.underlying22 (hval 1 22 v1 rfl rfl)
  obtain ⟨A1, n1, c1, z1, e1, l1, m1, w1⟩ := (opens_ints Try.underlying22 Try.underlying3 (by kernel_rfl)).arg h1
  obtain ⟨rfl, rfl, rfl⟩ : x1 = A1 ∧ y1 = n1 ∧ u1 = c1 := by simpa [Value.cells] using e1
  clear hA0 hval0
  refine (walk x0 y0 u0 z0 x1 y1 u1 z1 W w0 (Nat.le_trans l0 m0) w1 (Nat.le_trans l1 m1)).mono fun e W' ⟨he, bel⟩ => ?_
  subst he
  exact ⟨_, rfl, _, _, _, [], _, [], hW', trodAll_mk1 (shut_bool Try.underlying4 _), (trodAll_cons_mk (Below.trod laidOut (by kernel_rfl) (of_decide_eq_true (by kernel_rfl)) h0 bel (trod_lt' h0)) (trodAll_cons_mk (Below.trod laidOut (by kernel_rfl) (of_decide_eq_true (by kernel_rfl)) h1 bel (trod_lt' h1)) trodAll_mk0)), rfl, bel.frame _, fun h => by cases h⟩
theorem proved : Rows.TwinJoinsSaid :=
  OpenClaim.holds_of_wide 5 Try.f5 rfl rfl rfl rfl rfl rfl rfl ⟨rfl, rfl, rfl, rfl, rfl⟩ rfl rfl rfl rfl rfl (by kernel_rfl) Try.func5 (by kernel_rfl)
    (of_decide_eq_true (by kernel_rfl)) (by unfold Func.isWrapper; first | (rw [if_pos (by decide +kernel)]; kernel_rfl) | (rw [if_neg (by decide +kernel)]; exact ⟨rfl, rfl⟩))
    (fun os started H enc _ => lifted os started H enc)
end Go.Proofs.Ytpehakfdggfeeaa.TwinJoins
