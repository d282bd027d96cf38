/- For every number, text, place and list of integers the law TwinTells returns true and leaves its argument as it was. Conditions: none. -/
import Derived.Test.YtpehakfdggfeeaaTw3
import Derived.Test.YtpehakfdggfeeaaOpen
namespace Go.Proofs.Ytpehakfdggfeeaa.TwinTells
set_option linter.unusedVariables false
open Go.ChangeShapes Go.WideShapes Go.ChangeAt Go.RowKit

theorem opens_ask : Opens Try.prog 24 fun W cs => ∃ N s p A n c zs, cs = [.int .i64 N, .string s, .int .i64 p, .slice A n c] ∧ (Lit.int .i64 N).wf = true ∧ s.size ≤ maxLen ∧ (Lit.int .i64 p).wf = true ∧ n ≤ maxLen ∧ IntsIn .i64 W A n zs :=
  ((((opens_field Try.underlying24 0 _ rfl 4 1 (by kernel_rfl) (by kernel_rfl) (opens_int Try.underlying3)).and (opens_field Try.underlying24 1 _ rfl 4 1 (by kernel_rfl) (by kernel_rfl) (opens_string Try.underlying9))).and
    (opens_field Try.underlying24 2 _ rfl 4 1 (by kernel_rfl) (by kernel_rfl) (opens_int Try.underlying3))).and (opens_field Try.underlying24 3 _ rfl 4 1 (by kernel_rfl) (by kernel_rfl) (opens_ints Try.underlying22 Try.underlying3 (by kernel_rfl)))).mono
  fun W cs ⟨⟨⟨⟨hl, N, e0, w0⟩, _, s, e1, w1⟩, _, p, e2, w2⟩, _, A, n, c, zs, e3, l, m, w3⟩ => by
    match cs, hl with
    | [a, b, c', d], _ =>
      simp at e0 e1 e2 e3
      subst e0 e1 e2 e3
      exact ⟨N, s, p, A, n, c, zs, rfl, w0, w1, w2, Nat.le_trans l m, w3⟩

set_option maxHeartbeats 1000000 in
theorem walk (N : Int) (s : ByteArray) (p : Int) (A : Option Addr) (n c : Nat) (zs : List Int) (w : World) (wN : (Lit.int .i64 N).wf = true) (hs : s.size ≤ maxLen) (wp : (Lit.int .i64 p).wf = true) (hn : n ≤ maxLen) (hAI : IntsIn .i64 w A n zs) :
    Calls Try.prog 3 #[.agg #[.int .i64 N, .string s, .int .i64 p, .slice A n c]] w fun e w' => e = .returned (.bool true) ∧ Below w.heap.size w w' := by
  have hs' := hs
  unfold maxLen at hs' hn
  have hA := hAI.1
  go_enter Try.func3, Try.ntmps3
  go_wp2
  by_cases h1 : 300 < s.size
  · go_quiet (fail)
    obtain ⟨w0, hw0⟩ : ∃ w0, w0 = (w.alloc (.cells #[.int .i64 N, .string s, .int .i64 p, .slice A n c] 24)).drewN nq := ⟨_, rfl⟩
    rw [← hw0]
    have hK0 : Keep w w0 := by rw [hw0]; exact ((Keep.refl w).alloc _).trans (Quiet.keep ⟨_, rfl⟩)
    clear hw0
    go_wp2_with fail
    refine (awake_any _).mono ?_
    rintro e w1 ⟨rfl, hb⟩
    have hK1 := hK0.trans hb
    clear hb hK0
    go_wp2
    go_ret
    exact ⟨rfl, hK1⟩
  · by_cases h2 : 200 < n
    · go_quiet (fail)
      obtain ⟨w0, hw0⟩ : ∃ w0, w0 = (w.alloc (.cells #[.int .i64 N, .string s, .int .i64 p, .slice A n c] 24)).drewN nq := ⟨_, rfl⟩
      rw [← hw0]
      have hK0 : Keep w w0 := by rw [hw0]; exact ((Keep.refl w).alloc _).trans (Quiet.keep ⟨_, rfl⟩)
      clear hw0
      go_wp2_with fail
      refine (awake_any _).mono ?_
      rintro e w1 ⟨rfl, hb⟩
      have hK1 := hK0.trans hb
      clear hb hK0
      go_wp2
      go_ret
      exact ⟨rfl, hK1⟩
    · go_quiet (fail)
      obtain ⟨w0, hw0⟩ : ∃ w0, w0 = (w.alloc (.cells #[.int .i64 N, .string s, .int .i64 p, .slice A n c] 24)).drewN nq := ⟨_, rfl⟩
      rw [← hw0]
      have hK0 : Keep w w0 := by rw [hw0]; exact ((Keep.refl w).alloc _).trans (Quiet.keep ⟨_, rfl⟩)
      clear hw0
      have hA0 := hA.kept hK0
      clear hA
      go_wp2_with fail
      refine (put_any N _).mono ?_
      rintro e w1 ⟨rfl, hb1⟩
      have hK1 := hK0.trans hb1
      have hA1 := hA0.kept hb1
      clear hb1 hK0 hA0
      go_wp2_with fail
      refine (Ref1.put_any N _).mono ?_
      rintro e w2 ⟨rfl, hb2⟩
      have hK2 := hK1.trans hb2
      have hA2 := hA1.kept hb2
      clear hb2 hK1 hA1
      generalize st (Tw.put [N]) = pN
      generalize Tw.inR N = iN
      go_wp2_with fail
      refine (get_any s p _ hs).mono ?_
      rintro e w3 ⟨rfl, hq3⟩
      have hK3 := hK2.trans hq3.keep
      have hA3 := hA2.kept hq3.keep
      clear hq3 hK2 hA2
      go_wp2_with fail
      refine (Ref1.get_any s p _ hs).mono ?_
      rintro e w4 ⟨rfl, hq4⟩
      have hK4 := hK3.trans hq4.keep
      have hA4 := hA3.kept hq4.keep
      clear hq4 hK3 hA3
      generalize Tw.get s p = gP
      generalize Tw.getOk s p = iP
      have e1 : (pN.toList == pN.toList) = true := by simp
      have e2 : (iN == iN) = true := by simp
      have e3 : (gP == gP) = true := by simp
      have e4 : (iP == iP) = true := by simp
      go_wp2_with fail
      refine (putAll_any A n c zs _ (by omega) hA4).mono ?_
      rintro e w5 ⟨rfl, hb5⟩
      have hK5 := hK4.trans hb5
      have hA5 := hA4.kept hb5
      clear hb5 hK4 hA4
      go_wp2_with fail
      refine (Ref1.putAll_any A n c zs _ (by omega) hA5).mono ?_
      rintro e w6 ⟨rfl, hb6⟩
      have hK6 := hK5.trans hb6
      clear hb6 hK5 hA5
      generalize st (Tw.put zs) = pL
      generalize Tw.allIn zs = iL
      go_wp2_with fail
      refine (getAll_any s _ (by omega)).mono ?_
      rintro e w7 ⟨A7, n7, c7, rfl, hA7, hb7⟩
      have hK7 := hK6.trans hb7
      clear hb7 hK6
      go_wp2_with fail
      refine (Ref1.getAll_any s _ (by omega)).mono ?_
      rintro e w8 ⟨A8, n8, c8, rfl, hA8, hb8⟩
      have hK8 := hK7.trans hb8
      have hA9 := hA7.kept hb8
      clear hb8 hK7 hA7
      generalize Tw.evenB s = iS
      have e5 : (pL.toList == pL.toList) = true := by simp
      have e6 : (iL == iL) = true := by simp
      have e7 : (iS == iS) = true := by simp
      have hl7 : n7 ≤ 1000000 := by have := hA9.1; have := Tw.getAll_len s; omega
      go_wp2_with fail
      refine (awake_any _).mono ?_
      rintro e w9 ⟨rfl, hb9⟩
      have hK9 := hK8.trans hb9
      have hA10 := hA9.kept hb9
      have hA11 := hA8.kept hb9
      clear hb9 hK8 hA9 hA8
      go_wp2_with fail
      refine (Ref1.ints_any A7 A8 n7 n8 c7 c8 _ _ _ hl7 hA10 hA11).mono ?_
      rintro e w10 ⟨rfl, hq10⟩
      have hK10 := hK9.trans hq10.keep
      clear hq10 hK9 hA10 hA11
      have e8 : (Tw.getAll s == Tw.getAll s) = true := by simp
      rw [e8]
      clear e8
      go_wp2
      go_ret
      exact ⟨rfl, hK10⟩

theorem own : ownKnob Try.prog.godebug = none := by kernel_rfl
theorem laidOut : laidOutB Try.prog = true := by kernel_rfl
set_option maxRecDepth 100000 in
theorem lifted (os : Os) (started : os.Started) (H : Type) (enc : TypeId × Value → H) :
    ReturnsInHanded {} Try.checked os 3 .any (Rows.twinTellsSpec.pre6 enc Try.prog Try.f3 Rows.twinTellsRow.domain false) (Rows.twinTellsSpec.post enc Try.prog Try.f3 false true false false) := by
  refine returnsInHanded_of_change (C := Try.checked) own started (by kernel_rfl) Try.func3
    (ChangeSpec.witness6 (enc := enc) (C := Try.checked) false ⟨#[], #[.agg #[.int .i64 0, .string ByteArray.empty, .int .i64 0, .slice none 0 0]], []⟩ 8 (by kernel_rfl) (by kernel_rfl) (by kernel_rfl) (by kernel_rfl)) ?_
  intro W base args ds gs before hval0 hW hcnd _
  have hval : ∀ (j : Nat) t v, Try.f3.params[j]? = some t → args[j]? = some v → Value.okWide Try.prog W .any base t v := hval0
  have hW' := hW
  obtain ⟨p, q, hA0, hV, rfl, hfz, hnd⟩ := hW
  have hA : DataW.TrodAll enc Try.prog W 0 (fun _ => true) true Try.f3.params.toList args.toList ds p := hA0
  rw [Try.params3] at hA hval
  obtain ⟨v0, vs0, d0, ds0, p0, q0, hargs, rfl, rfl, h0, r0⟩ := trodAll_cons hA
  obtain ⟨rfl, rfl, rfl⟩ := trodAll_nil r0
  obtain rfl : args = #[v0] := by cases args; simp_all
  obtain ⟨rfl, rfl⟩ := trodVars_none hV
  obtain ⟨cs0, rfl, hsz0⟩ := okWide_struct Try.underlying24 (hval 0 24 v0 rfl rfl)
  obtain ⟨a0_0, a0_1, a0_2, a0_3, a0_4, a0_5, a0_6, e0, w0_0, w0_1, w0_2, w0_3, w0_4⟩ := (opens_ask).arg h0
  obtain rfl : cs0 = #[.int .i64 a0_0, .string a0_1, .int .i64 a0_2, .slice a0_3 a0_4 a0_5] := by apply Array.toList_inj.1; simpa [Value.cells] using e0
  clear hA0 hval0
  refine (walk a0_0 a0_1 a0_2 a0_3 a0_4 a0_5 a0_6 W w0_0 w0_1 w0_2 w0_3 w0_4).mono fun e W' ⟨he, bel⟩ => ?_
  subst he
  exact ⟨_, rfl, _, _, _, [], _, [], hW', trodAll_mk1 (shut_bool Try.underlying4 _), (trodAll_cons_mk (Below.trod laidOut (by kernel_rfl) (of_decide_eq_true (by kernel_rfl)) h0 bel (trod_lt' h0)) trodAll_mk0), rfl, bel.frame _, fun h => by cases h⟩
theorem proved : Rows.TwinTellsSaid :=
  OpenClaim.holds_of_wide 3 Try.f3 rfl rfl rfl rfl rfl rfl rfl ⟨rfl, rfl, rfl, rfl, rfl⟩ rfl rfl rfl rfl rfl (by kernel_rfl) Try.func3 (by kernel_rfl)
    (of_decide_eq_true (by kernel_rfl)) (by unfold Func.isWrapper; first | (rw [if_pos (by decide +kernel)]; kernel_rfl) | (rw [if_neg (by decide +kernel)]; exact ⟨rfl, rfl⟩))
    (fun os started H enc _ => lifted os started H enc)
end Go.Proofs.Ytpehakfdggfeeaa.TwinTells
