/- The developers' facts: Same; and all that the laws call. Conditions: at most a million spans, values, registers. -/
import Derived.Test.YtnbjhcemonkhhaaFaM
import Derived.Test.YtnbjhcemonkhhaaFaV
namespace Go.Proofs.Ytnbjhcemonkhhaa.Facts
set_option linter.unusedVariables false
open Go.ChangeShapes Go.WideShapes Go.ChangeAt Go.RowKit
open Fa
/-- Of a request that may be no count is negative. -/
theorem right_nonneg {a : AskP} (h : Ak.right a = true) : 0 ≤ a.ct ∧ 0 ≤ a.mn := by
  unfold Ak.right Ak.formed Ak.part Ak.inTo at h
  simp only [Bool.and_eq_true, decide_eq_true_eq] at h
  omega
set_option maxHeartbeats 4000000 in
theorem same_any (f g : FactsP) (SA VA RA SB VB RB : Option Addr) (c1 c2 c3 d1 d2 d3 : Nat) (w : World) (hf : few f) (hg : few g) (hF : FaAt w f SA VA RA) (hG : FaAt w g SB VB RB) :
    Calls Try.prog 16 #[.agg #[.int .i64 f.cl, .int .i64 f.un, .int .i64 f.fc, .slice SA f.sp.length c1, .slice VA f.vs.length c2, .slice RA f.rg.length c3], .agg #[.int .i64 g.cl, .int .i64 g.un, .int .i64 g.fc, .slice SB g.sp.length d1, .slice VB g.vs.length d2, .slice RB g.rg.length d3]] w
      fun e w' => e = .returned (.bool (same f g)) ∧ Keep w w' := by
  obtain ⟨f1, f2, f3⟩ := hf
  obtain ⟨g1, g2, g3⟩ := hg
  have C1 := Lib.hid (fun (W : World) (hW : Keep w W) => Span.same_any SA _ c1 f.sp SB _ d1 g.sp W f1 g1 (hF.kept hW).1 (hG.kept hW).1)
  have C2 := Lib.hid (fun (W : World) (hW : Keep w W) => EqI.equal_any VA VB _ _ c2 d2 f.vs g.vs W f2 (hF.kept hW).2.1 (hG.kept hW).2.1)
  have C3 := Lib.hid (fun (W : World) (hW : Keep w W) => EqI.equal_any RA RB _ _ c3 d3 f.rg g.rg W f3 (hF.kept hW).2.2 (hG.kept hW).2.2)
  have HS : same f g = (f.cl == g.cl && (f.un == g.un && (f.fc == g.fc && (decide (f.sp = g.sp) && (f.vs == g.vs && f.rg == g.rg))))) := rfl
  clear hF hG f1 f2 f3 g1 g2 g3
  obtain ⟨b4, h4⟩ : ∃ b, b = decide (f.sp = g.sp) := ⟨_, rfl⟩
  obtain ⟨b5, h5⟩ : ∃ b, b = (f.vs == g.vs) := ⟨_, rfl⟩
  obtain ⟨b6, h6⟩ : ∃ b, b = (f.rg == g.rg) := ⟨_, rfl⟩
  rw [← h4] at HS C1
  rw [← h5] at HS C2
  rw [← h6] at HS C3
  clear h4 h5 h6
  have kb := (((Keep.refl w).alloc (.cells #[.int .i64 f.cl, .int .i64 f.un, .int .i64 f.fc, .slice SA f.sp.length c1, .slice VA f.vs.length c2, .slice RA f.rg.length c3] 36)).alloc (.cells #[.int .i64 g.cl, .int .i64 g.un, .int .i64 g.fc, .slice SB g.sp.length d1, .slice VB g.vs.length d2, .slice RB g.rg.length d3] 36))
  cases e1 : f.cl == g.cl
  · have HR := Lib.hid (show same f g = false by rw [HS, e1]; rfl)
    clear HS
    go_enter Try.func16, Try.ntmps16
    go_wp2
    go_ret
    exact ⟨by rw [HR.out]; rfl, kb⟩
  cases e2 : f.un == g.un
  · have HR := Lib.hid (show same f g = false by rw [HS, e1, e2]; rfl)
    clear HS
    go_enter Try.func16, Try.ntmps16
    go_wp2
    go_ret
    exact ⟨by rw [HR.out]; rfl, kb⟩
  cases e3 : f.fc == g.fc
  · have HR := Lib.hid (show same f g = false by rw [HS, e1, e2, e3]; rfl)
    clear HS
    go_enter Try.func16, Try.ntmps16
    go_wp2
    go_ret
    exact ⟨by rw [HR.out]; rfl, kb⟩
  cases b4
  · have HR := Lib.hid (show same f g = false by rw [HS, e1, e2, e3]; rfl)
    clear HS
    go_enter Try.func16, Try.ntmps16
    go_wp2_with fail
    refine (C1.out _ kb).mono ?_
    rintro e w1 ⟨rfl, ⟨n1, rfl⟩⟩
    go_wp2
    go_ret
    exact ⟨by rw [HR.out]; rfl, ((Quiet.refl _).drewN n1 |> fun q => kb.trans q.keep)⟩
  have HS5 := Lib.hid (show same f g = (b5 && b6) by rw [HS, e1, e2, e3]; rfl)
  clear HS
  go_enter Try.func16, Try.ntmps16
  go_wp2_with fail
  refine (C1.out _ kb).mono ?_
  rintro e w1 ⟨rfl, ⟨n1, rfl⟩⟩
  have k1 := kb.trans ((Quiet.refl _).drewN n1).keep
  cases b5
  · go_wp2_with fail
    refine (C2.out _ k1).mono ?_
    rintro e w2 ⟨rfl, ⟨n2, rfl⟩⟩
    have k2 := k1.trans ((Quiet.refl _).drewN n2).keep
    go_wp2
    go_ret
    exact ⟨by rw [HS5.out]; rfl, kb.trans ((Quiet.refl _).drewN (n1 + n2)).keep⟩
  · go_wp2_with fail
    refine (C2.out _ k1).mono ?_
    rintro e w2 ⟨rfl, ⟨n2, rfl⟩⟩
    have k2 := kb.trans ((Quiet.refl _).drewN (n1 + n2)).keep
    go_wp2_with fail
    refine (C3.out _ k2).mono ?_
    rintro e w3 ⟨rfl, q3⟩
    have k3 := k2.trans q3.keep
    go_wp2
    go_ret
    exact ⟨by rw [HS5.out]; rfl, k3⟩
end Go.Proofs.Ytnbjhcemonkhhaa.Facts
