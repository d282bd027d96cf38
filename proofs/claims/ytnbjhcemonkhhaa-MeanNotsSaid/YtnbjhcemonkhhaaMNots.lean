/- For every argument the law MeanNots returns true and leaves its arguments as they were. Conditions: none. -/
import Derived.Test.YtnbjhcemonkhhaaMeL5All
import Derived.Test.YtnbjhcemonkhhaaOpen
import Derived.ProofKit
import Derived.OpenShut
import Derived.Test.YtnbjhcemonkhhaaRows
namespace Go.Proofs.Ytnbjhcemonkhhaa.MeanNots
set_option linter.unusedVariables false
open Go.ChangeShapes Go.WideShapes Go.ChangeAt Go.RowKit
theorem own : ownKnob Try.prog.godebug = none := by kernel_rfl
theorem laidOut : laidOutB Try.prog = true := by kernel_rfl
set_option maxRecDepth 100000 in
theorem lifted (os : Os) (started : os.Started) (H : Type) (enc : TypeId × Value → H) :
    ReturnsInHanded {} Try.checked os 5 .any (Rows.meanNotsSpec.pre6 enc Try.prog Try.f5 Rows.meanNotsRow.domain false) (Rows.meanNotsSpec.post enc Try.prog Try.f5 false true false false) := by
  refine returnsInHanded_of_change (C := Try.checked) own started (by kernel_rfl) Try.func5
    (ChangeSpec.witness6 (enc := enc) (C := Try.checked) false ⟨#[], #[.agg #[.int .i64 0, .int .i64 0, .slice none 0 0, .float .f64 0, .float .f64 0, .slice none 0 0], .agg #[.int .i64 0, .int .i64 0, .slice none 0 0, .float .f64 0, .float .f64 0, .slice none 0 0], .agg #[.int .i64 0, .int .i64 0, .int .i64 0, .slice none 0 0, .slice none 0 0, .slice none 0 0]], []⟩ 8 (by kernel_rfl) (by kernel_rfl) (by kernel_rfl) (by kernel_rfl)) ?_
  intro W base args ds gs before hval0 hW hcnd _
  have hval : ∀ (j : Nat) t v, Try.f5.params[j]? = some t → args[j]? = some v → Value.okWide Try.prog W .any base t v := hval0
  have hW' := hW
  obtain ⟨p, q, hA0, hV, rfl, hfz, hnd⟩ := hW
  have hA : DataW.TrodAll enc Try.prog W 0 (fun _ => true) true Try.f5.params.toList args.toList ds p := hA0
  rw [Try.params5] at hA hval
  obtain ⟨v0, vs0, d0, ds0, p0, q0, hargs, rfl, rfl, h0, r0⟩ := trodAll_cons hA
  obtain ⟨v1, vs1, d1, ds1, p1, q1, rfl, rfl, rfl, h1, r1⟩ := trodAll_cons r0
  obtain ⟨v2, vs2, d2, ds2, p2, q2, rfl, rfl, rfl, h2, r2⟩ := trodAll_cons r1
  obtain ⟨rfl, rfl, rfl⟩ := trodAll_nil r2
  obtain rfl : args = #[v0, v1, v2] := by cases args; simp_all
  obtain ⟨rfl, rfl⟩ := trodVars_none hV
  obtain ⟨cs0, rfl, hsz0⟩ := okWide_struct Try.underlying43 (hval 0 43 v0 rfl rfl)
  obtain ⟨a0_0, a0_1, a0_2, a0_3, a0_4, e0, w0_0, w0_1⟩ := (Mean.opens_ex).arg h0
  obtain rfl : cs0 = #[.int .i64 (Tr.kind a0_0), .int .i64 (Tr.field a0_0), .slice a0_1 (Tr.rs a0_0).length a0_2, .float .f64 (Tr.lo a0_0), .float .f64 (Tr.hi a0_0), .slice a0_3 (Tr.of a0_0).length a0_4] := by apply Array.toList_inj.1; simpa [Value.cells] using e0
  obtain ⟨cs1, rfl, hsz1⟩ := okWide_struct Try.underlying43 (hval 1 43 v1 rfl rfl)
  obtain ⟨a1_0, a1_1, a1_2, a1_3, a1_4, e1, w1_0, w1_1⟩ := (Mean.opens_ex).arg h1
  obtain rfl : cs1 = #[.int .i64 (Tr.kind a1_0), .int .i64 (Tr.field a1_0), .slice a1_1 (Tr.rs a1_0).length a1_2, .float .f64 (Tr.lo a1_0), .float .f64 (Tr.hi a1_0), .slice a1_3 (Tr.of a1_0).length a1_4] := by apply Array.toList_inj.1; simpa [Value.cells] using e1
  obtain ⟨cs2, rfl, hsz2⟩ := okWide_struct Try.underlying36 (hval 2 36 v2 rfl rfl)
  obtain ⟨a2_0, a2_1, a2_2, a2_3, a2_4, a2_5, a2_6, e2, w2_0⟩ := (Mean.opens_facts).arg h2
  obtain rfl : cs2 = #[.int .i64 a2_0.cl, .int .i64 a2_0.un, .int .i64 a2_0.fc, .slice a2_1 a2_0.sp.length a2_4, .slice a2_2 a2_0.vs.length a2_5, .slice a2_3 a2_0.rg.length a2_6] := by apply Array.toList_inj.1; simpa [Value.cells] using e2
  clear hA0 hval0
  refine ((fun a RA ra OA oa b RB rb OB ob x SA VA QA c1 c2 c3 W hEa hwa hEb hwb hF => Mean.nots_any a RA OA ra oa b RB OB rb ob x SA VA QA c1 c2 c3 W hEa hwa hEb hwb hF) a0_0 a0_1 a0_2 a0_3 a0_4 a1_0 a1_1 a1_2 a1_3 a1_4 a2_0 a2_1 a2_2 a2_3 a2_4 a2_5 a2_6 W w0_0 w0_1 w1_0 w1_1 w2_0).mono fun e W' ⟨he, bel⟩ => ?_
  subst he
  exact ⟨_, rfl, _, _, _, [], _, [], hW', trodAll_mk1 (shut_bool Try.underlying4 _), (trodAll_cons_mk (Below.trod laidOut (by kernel_rfl) (of_decide_eq_true (by kernel_rfl)) h0 bel (trod_lt' h0)) (trodAll_cons_mk (Below.trod laidOut (by kernel_rfl) (of_decide_eq_true (by kernel_rfl)) h1 bel (trod_lt' h1)) (trodAll_cons_mk (Below.trod laidOut (by kernel_rfl) (of_decide_eq_true (by kernel_rfl)) h2 bel (trod_lt' h2)) trodAll_mk0))), rfl, bel.frame _, fun h => by cases h⟩
theorem proved : Rows.MeanNotsSaid :=
  OpenClaim.holds_of_wide 5 Try.f5 rfl rfl rfl rfl rfl rfl rfl ⟨rfl, rfl, rfl, rfl, rfl⟩ rfl rfl rfl rfl rfl (by kernel_rfl) Try.func5 (by kernel_rfl)
    (of_decide_eq_true (by kernel_rfl)) (by unfold Func.isWrapper; first | (rw [if_pos (by decide +kernel)]; kernel_rfl) | (rw [if_neg (by decide +kernel)]; exact ⟨rfl, rfl⟩))
    (fun os started H enc _ => lifted os started H enc)
end Go.Proofs.Ytnbjhcemonkhhaa.MeanNots
