/- For every argument the law PendTells returns true and leaves its arguments as they were. Conditions: none. -/
import Derived.Test.YtecajacpfikpcaaPnL
import Derived.Test.YtecajacpfikpcaaPnO
import Derived.Test.YtecajacpfikpcaaOpen
import Derived.ProofKit
import Derived.OpenShut
import Derived.Test.YtecajacpfikpcaaRows
namespace Go.Proofs.Ytecajacpfikpcaa.PendTells
set_option linter.unusedVariables false
open Go.ChangeShapes Go.WideShapes Go.ChangeAt Go.RowKit
theorem own : ownKnob Try.prog.godebug = none := by kernel_rfl
theorem laidOut : laidOutB Try.prog = true := by kernel_rfl
set_option maxRecDepth 100000 in
theorem lifted (os : Os) (started : os.Started) (H : Type) (enc : TypeId × Value → H) :
    ReturnsInHanded {} Try.checked os 3 .any (Rows.pendTellsSpec.pre6 enc Try.prog Try.f3 Rows.pendTellsRow.domain false) (Rows.pendTellsSpec.post enc Try.prog Try.f3 false true false false) := by
  refine returnsInHanded_of_change (C := Try.checked) own started (by kernel_rfl) Try.func3
    (ChangeSpec.witness6 (enc := enc) (C := Try.checked) false ⟨#[], #[.slice none 0 0, .agg #[.int .i64 0, .int .i64 0, .int .i64 0, .int .i64 0, .int .i64 0, .int .i64 0, .int .i64 0, .int .i64 0, .int .i64 0, .int .i64 0, .slice none 0 0, .int .i64 0], .agg #[.int .i64 0, .int .i64 0]], []⟩ 8 (by kernel_rfl) (by kernel_rfl) (by kernel_rfl) (by kernel_rfl)) ?_
  intro W base args ds gs before hval0 hW hcnd _
  have hval : ∀ (j : Nat) t v, Try.f3.params[j]? = some t → args[j]? = some v → Value.okWide Try.prog W .any base t v := hval0
  have hW' := hW
  obtain ⟨p, q, hA0, hV, rfl, hfz, hnd⟩ := hW
  have hA : DataW.TrodAll enc Try.prog W 0 (fun _ => true) true Try.f3.params.toList args.toList ds p := hA0
  rw [Try.params3] at hA hval
  obtain ⟨v0, vs0, d0, ds0, p0, q0, hargs, rfl, rfl, h0, r0⟩ := trodAll_cons hA
  obtain ⟨v1, vs1, d1, ds1, p1, q1, rfl, rfl, rfl, h1, r1⟩ := trodAll_cons r0
  obtain ⟨v2, vs2, d2, ds2, p2, q2, rfl, rfl, rfl, h2, r2⟩ := trodAll_cons r1
  obtain ⟨rfl, rfl, rfl⟩ := trodAll_nil r2
  obtain rfl : args = #[v0, v1, v2] := by cases args; simp_all
  obtain ⟨rfl, rfl⟩ := trodVars_none hV
  obtain ⟨x0, y0, u0, rfl⟩ := okWide_slice Try.underlying22 (hval 0 22 v0 rfl rfl)
  obtain ⟨A0, n0, c0, z0, e0, l0, m0, w0⟩ := (Pn.opens_pends).arg h0
  obtain ⟨rfl, rfl, rfl⟩ : x0 = A0 ∧ y0 = n0 ∧ u0 = c0 := by simpa [Value.cells] using e0
  obtain ⟨cs1, rfl, hsz1⟩ := okWide_struct Try.underlying27 (hval 1 27 v1 rfl rfl)
  obtain ⟨a1_0, e1, w1_0⟩ := (Pn.opens_pendL).arg h1
  obtain rfl : cs1 = #[.int .i64 a1_0.o, .int .i64 a1_0.cn, .int .i64 a1_0.lf, .int .i64 a1_0.id, .int .i64 a1_0.un, .int .i64 a1_0.ak.fc, .int .i64 a1_0.ak.rd, .int .i64 a1_0.ak.ct, .int .i64 a1_0.ak.wr, .int .i64 a1_0.ak.mn, .slice a1_0.A a1_0.ak.vs.length a1_0.c, .int .i64 a1_0.due] := by apply Array.toList_inj.1; simpa [Value.cells] using e1
  obtain ⟨cs2, rfl, hsz2⟩ := okWide_array Try.underlying28 (hval 2 28 v2 rfl rfl)
  obtain ⟨a2_0, a2_1, e2⟩ := (Pn.opens_2int).arg h2
  obtain rfl : cs2 = #[.int .i64 a2_0, .int .i64 a2_1] := by apply Array.toList_inj.1; simpa [Value.cells] using e2
  clear hA0 hval0
  refine ((fun A n c zs p x y W (h3 : Pn.PendsIn W A n zs) h1 h2 (hp : Pn.PendIn W p) => Pend.tells_any A n c zs p x y W h1 h2 h3.1 h3.vals h3.wf hp.1) x0 y0 u0 z0 a1_0 a2_0 a2_1 W w0 l0 m0 w1_0 ).mono fun e W' ⟨he, bel⟩ => ?_
  subst he
  exact ⟨_, rfl, _, _, _, [], _, [], hW', trodAll_mk1 (shut_bool Try.underlying4 _), (trodAll_cons_mk (Below.trod laidOut (by kernel_rfl) (of_decide_eq_true (by kernel_rfl)) h0 bel (trod_lt' h0)) (trodAll_cons_mk (Below.trod laidOut (by kernel_rfl) (of_decide_eq_true (by kernel_rfl)) h1 bel (trod_lt' h1)) (trodAll_cons_mk (Below.trod laidOut (by kernel_rfl) (of_decide_eq_true (by kernel_rfl)) h2 bel (trod_lt' h2)) trodAll_mk0))), rfl, bel.frame _, fun h => by cases h⟩
theorem proved : Rows.PendTellsSaid :=
  OpenClaim.holds_of_wide 3 Try.f3 rfl rfl rfl rfl rfl rfl rfl ⟨rfl, rfl, rfl, rfl, rfl⟩ rfl rfl rfl rfl rfl (by kernel_rfl) Try.func3 (by kernel_rfl)
    (of_decide_eq_true (by kernel_rfl)) (by unfold Func.isWrapper; first | (rw [if_pos (by decide +kernel)]; kernel_rfl) | (rw [if_neg (by decide +kernel)]; exact ⟨rfl, rfl⟩))
    (fun os started H enc _ => lifted os started H enc)
end Go.Proofs.Ytecajacpfikpcaa.PendTells
