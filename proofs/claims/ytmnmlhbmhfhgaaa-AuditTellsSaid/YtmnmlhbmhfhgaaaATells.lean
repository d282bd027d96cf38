/- For every argument the law AuditTells returns true and leaves its arguments as they were. Conditions: none. -/
import Derived.Test.YtmnmlhbmhfhgaaaAuL
import Derived.Test.YtmnmlhbmhfhgaaaOpen
import Derived.ProofKit
import Derived.OpenShut
import Derived.Test.YtmnmlhbmhfhgaaaRows
namespace Go.Proofs.Ytmnmlhbmhfhgaaa.AuditTells
set_option linter.unusedVariables false
open Go.ChangeShapes Go.WideShapes Go.ChangeAt Go.RowKit
theorem opens_arg0 : Opens Try.prog 23 fun W cs => ∃ x0 x1 x2 x3 x4 x5 x6 x7 x8, cs = [.int .i64 x0, .int .i64 x1, .int .i64 x2, .int .i64 x3, .int .i64 x4, .int .i64 x5, .int .i64 x6, .int .i64 x7, .int .i64 x8] ∧ (Lit.int .i64 x0).wf = true ∧ (Lit.int .i64 x1).wf = true ∧ (Lit.int .i64 x2).wf = true ∧ (Lit.int .i64 x3).wf = true ∧ (Lit.int .i64 x4).wf = true ∧ (Lit.int .i64 x5).wf = true ∧ (Lit.int .i64 x6).wf = true ∧ (Lit.int .i64 x7).wf = true ∧ (Lit.int .i64 x8).wf = true :=
  ((((((((((((((((((opens_field Try.underlying23 0 _ rfl 9 1 (by kernel_rfl) (by kernel_rfl) (opens_int Try.underlying3))).and (opens_field Try.underlying23 1 _ rfl 9 1 (by kernel_rfl) (by kernel_rfl) (opens_int Try.underlying3)))).and (opens_field Try.underlying23 2 _ rfl 9 1 (by kernel_rfl) (by kernel_rfl) (opens_int Try.underlying3)))).and (opens_field Try.underlying23 3 _ rfl 9 1 (by kernel_rfl) (by kernel_rfl) (opens_int Try.underlying3)))).and (opens_field Try.underlying23 4 _ rfl 9 1 (by kernel_rfl) (by kernel_rfl) (opens_int Try.underlying3)))).and (opens_field Try.underlying23 5 _ rfl 9 1 (by kernel_rfl) (by kernel_rfl) (opens_int Try.underlying3)))).and (opens_field Try.underlying23 6 _ rfl 9 1 (by kernel_rfl) (by kernel_rfl) (opens_int Try.underlying3)))).and (opens_field Try.underlying23 7 _ rfl 9 1 (by kernel_rfl) (by kernel_rfl) (opens_int Try.underlying3)))).and (opens_field Try.underlying23 8 _ rfl 9 1 (by kernel_rfl) (by kernel_rfl) (opens_int Try.underlying3)))).mono
  fun W cs ⟨⟨⟨⟨⟨⟨⟨⟨⟨hl, x0, e0, h0⟩, _, x1, e1, h1⟩, _, x2, e2, h2⟩, _, x3, e3, h3⟩, _, x4, e4, h4⟩, _, x5, e5, h5⟩, _, x6, e6, h6⟩, _, x7, e7, h7⟩, _, x8, e8, h8⟩ => by
    match cs, hl with
    | [c0, c1, c2, c3, c4, c5, c6, c7, c8], _ =>
      simp at e0 e1 e2 e3 e4 e5 e6 e7 e8
      subst e0 e1 e2 e3 e4 e5 e6 e7 e8
      exact ⟨x0, x1, x2, x3, x4, x5, x6, x7, x8, rfl, h0, h1, h2, h3, h4, h5, h6, h7, h8⟩

theorem own : ownKnob Try.prog.godebug = none := by kernel_rfl
theorem laidOut : laidOutB Try.prog = true := by kernel_rfl
set_option maxRecDepth 100000 in
theorem lifted (os : Os) (started : os.Started) (H : Type) (enc : TypeId × Value → H) :
    ReturnsInHanded {} Try.checked os 3 .any (Rows.auditTellsSpec.pre6 enc Try.prog Try.f3 Rows.auditTellsRow.domain false) (Rows.auditTellsSpec.post enc Try.prog Try.f3 false true false false) := by
  refine returnsInHanded_of_change (C := Try.checked) own started (by kernel_rfl) Try.func3
    (ChangeSpec.witness6 (enc := enc) (C := Try.checked) false ⟨#[], #[.agg #[.int .i64 0, .int .i64 0, .int .i64 0, .int .i64 0, .int .i64 0, .int .i64 0, .int .i64 0, .int .i64 0, .int .i64 0], .string ByteArray.empty], []⟩ 8 (by kernel_rfl) (by kernel_rfl) (by kernel_rfl) (by kernel_rfl)) ?_
  intro W base args ds gs before hval0 hW hcnd _
  have hval : ∀ (j : Nat) t v, Try.f3.params[j]? = some t → args[j]? = some v → Value.okWide Try.prog W .any base t v := hval0
  have hW' := hW
  obtain ⟨p, q, hA0, hV, rfl, hfz, hnd⟩ := hW
  have hA : DataW.TrodAll enc Try.prog W 0 (fun _ => true) true Try.f3.params.toList args.toList ds p := hA0
  rw [Try.params3] at hA hval
  obtain ⟨v0, vs0, d0, ds0, p0, q0, hargs, rfl, rfl, h0, r0⟩ := trodAll_cons hA
  obtain ⟨v1, vs1, d1, ds1, p1, q1, rfl, rfl, rfl, h1, r1⟩ := trodAll_cons r0
  obtain ⟨rfl, rfl, rfl⟩ := trodAll_nil r1
  obtain rfl : args = #[v0, v1] := by cases args; simp_all
  obtain ⟨rfl, rfl⟩ := trodVars_none hV
  obtain ⟨cs0, rfl, hsz0⟩ := okWide_struct Try.underlying23 (hval 0 23 v0 rfl rfl)
  obtain ⟨a0_0, a0_1, a0_2, a0_3, a0_4, a0_5, a0_6, a0_7, a0_8, e0, w0_0, w0_1, w0_2, w0_3, w0_4, w0_5, w0_6, w0_7, w0_8⟩ := (opens_arg0).arg h0
  obtain rfl : cs0 = #[.int .i64 a0_0, .int .i64 a0_1, .int .i64 a0_2, .int .i64 a0_3, .int .i64 a0_4, .int .i64 a0_5, .int .i64 a0_6, .int .i64 a0_7, .int .i64 a0_8] := by apply Array.toList_inj.1; simpa [Value.cells] using e0
  obtain ⟨a1, rfl⟩ := okWide_string Try.underlying9 (hval 1 9 v1 rfl rfl)
  obtain ⟨s1, e1, w1⟩ := (opens_string Try.underlying9).arg h1
  obtain rfl : a1 = s1 := by simpa [Value.cells] using e1
  clear hA0 hval0
  refine ((fun a b c d e f g h i s W _ _ _ _ _ _ _ _ _ hs => Audit.tells_any ⟨a, b, c, d, e, f, g, h, i⟩ s W hs) a0_0 a0_1 a0_2 a0_3 a0_4 a0_5 a0_6 a0_7 a0_8 a1 W w0_0 w0_1 w0_2 w0_3 w0_4 w0_5 w0_6 w0_7 w0_8 w1).mono fun e W' ⟨he, bel⟩ => ?_
  subst he
  exact ⟨_, rfl, _, _, _, [], _, [], hW', trodAll_mk1 (shut_bool Try.underlying4 _), (trodAll_cons_mk (Below.trod laidOut (by kernel_rfl) (of_decide_eq_true (by kernel_rfl)) h0 bel (trod_lt' h0)) (trodAll_cons_mk (Below.trod laidOut (by kernel_rfl) (of_decide_eq_true (by kernel_rfl)) h1 bel (trod_lt' h1)) trodAll_mk0)), rfl, bel.frame _, fun h => by cases h⟩
theorem proved : Rows.AuditTellsSaid :=
  OpenClaim.holds_of_wide 3 Try.f3 rfl rfl rfl rfl rfl rfl rfl ⟨rfl, rfl, rfl, rfl, rfl⟩ rfl rfl rfl rfl rfl (by kernel_rfl) Try.func3 (by kernel_rfl)
    (of_decide_eq_true (by kernel_rfl)) (by unfold Func.isWrapper; first | (rw [if_pos (by decide +kernel)]; kernel_rfl) | (rw [if_neg (by decide +kernel)]; exact ⟨rfl, rfl⟩))
    (fun os started H enc _ => lifted os started H enc)
end Go.Proofs.Ytmnmlhbmhfhgaaa.AuditTells
