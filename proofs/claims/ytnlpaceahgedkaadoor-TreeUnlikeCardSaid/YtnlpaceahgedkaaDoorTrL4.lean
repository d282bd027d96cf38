/- Layer 11's law TreeUnlike. Conditions: none beyond the law's own. -/
import Derived.Test.YtnlpaceahgedkaaDoorTrL
import Derived.Test.YtnlpaceahgedkaaDoorPaD
namespace Go.Proofs.YtnlpaceahgedkaaDoor.Tree
set_option linter.unusedVariables false
open Go.ChangeShapes Go.WideShapes Go.ChangeAt Go.RowKit
open Tr
theorem wf_float {b : Nat} (h : (Lit.float .f64 b).wf = true) : b < 18446744073709551616 := by simpa [Lit.wf] using h
theorem wf_bits_all : ∀ N : Nat, (∀ e, dp e ≤ N → wf e → Pa.bits e) ∧ (∀ l, dpL l ≤ N → wfL l → Pa.bitsL l) := by
  intro N
  induction N with
  | zero =>
    refine ⟨fun e h => absurd (dp_pos e) (by omega), fun l h => ?_⟩
    cases l with
    | nil => intro _; rw [Pa.bitsL]; trivial
    | cons e l => rw [dpL] at h; have := dp_pos e; omega
  | succ N ih =>
    have h1 : ∀ e, dp e ≤ N + 1 → wf e → Pa.bits e := by
      intro e hd hb
      obtain ⟨k, f, r, l, h, o⟩ := e
      rw [dp] at hd
      rw [wf] at hb
      rw [Pa.bits]
      exact ⟨⟨wf_float hb.2.2.1.1, wf_float hb.2.2.1.2⟩, ih.2 o (by omega) hb.2.2.2.2⟩
    refine ⟨h1, fun l => ?_⟩
    induction l with
    | nil => intro _ _; rw [Pa.bitsL]; trivial
    | cons e l il =>
      intro hd hb
      rw [dpL] at hd
      rw [wfL] at hb
      rw [Pa.bitsL]
      exact ⟨h1 e (by omega) hb.1, il (by omega) hb.2⟩
theorem wf_bits {e : ExprP} (h : wf e) : Pa.bits e := (wf_bits_all _).1 e (Nat.le_refl _) h
theorem unlike_texts {xs ys : List RuleP} (hx : textOk xs = true) (hy : textOk ys = true) (wx : ∀ r ∈ xs, wfR r) (wy : ∀ r ∈ ys, wfR r) : ((st (text xs)).toList == (st (text ys)).toList) = rules xs ys := by
  have h := Pa.unlike xs ys hx hy (fun r hr => wf_bits (wx r hr).1) (fun r hr => wf_bits (wy r hr).1)
  rw [toList_eq, toList_eq]
  show (text xs == text ys) = _
  unfold text
  rw [hx, hy, if_pos rfl, if_pos rfl, Bool.eq_iff_iff, beq_iff_eq]
  exact h
set_option maxHeartbeats 4000000 in
theorem unlike_any (A : Option Addr) (n c : Nat) (xs : List RuleP) (B : Option Addr) (m d : Nat) (ys : List RuleP) (w : World) (ht : Tab w) (hA : RulesIn w A n xs) (hB : RulesIn w B m ys) :
    Calls Tryd.prog 5 #[.slice A n c, .slice B m d] w fun e' w' => e' = .returned (.bool true) ∧ Keep w w' := by
  obtain ⟨rfl, rA, wA⟩ := hA
  obtain ⟨rfl, rB, wB⟩ := hB
  have CFA := fun (W : World) (hW : Keep w W) => few_any A c xs 6 W (by omega) (rA.kept hW)
  have CFB := fun (W : World) (hW : Keep w W) => few_any B d ys 6 W (by omega) (rB.kept hW)
  have CW := fun (W : World) (hW : Keep w W) => awake_any W (ht.keep hW)
  cases fA : few xs 6
  · rw [fA] at CFA
    replace CFA := Lib.hid CFA
    replace CW := Lib.hid CW
    clear CFB fA rA rB wA wB
    go_enter Tryd.func5, Tryd.ntmps5
    go_wp2_with fail
    refine (CFA.out _ (Keep.refl w)).mono ?_
    rintro e w1 ⟨rfl, k1⟩
    go_wp2_with fail
    refine (CW.out _ k1).mono ?_
    rintro e w2 ⟨rfl, k2⟩
    go_wp2
    go_ret
    exact ⟨rfl, k1.trans k2⟩
  rw [fA] at CFA
  replace CFA := Lib.hid CFA
  cases fB : few ys 6
  · rw [fB] at CFB
    replace CFB := Lib.hid CFB
    replace CW := Lib.hid CW
    clear fA fB rA rB wA wB
    go_enter Tryd.func5, Tryd.ntmps5
    go_wp2_with fail
    refine (CFA.out _ (Keep.refl w)).mono ?_
    rintro e w1 ⟨rfl, k1⟩
    go_wp2_with fail
    refine (CFB.out _ k1).mono ?_
    rintro e w2 ⟨rfl, k2⟩
    replace k1 := k1.trans k2
    go_wp2_with fail
    refine (CW.out _ k1).mono ?_
    rintro e w3 ⟨rfl, k3⟩
    go_wp2
    go_ret
    exact ⟨rfl, k1.trans k3⟩
  rw [fB] at CFB
  replace CFB := Lib.hid CFB
  replace CW := Lib.hid CW
  obtain ⟨a1, a2, a3⟩ := few_facts fA wA
  obtain ⟨b1, b2, b3⟩ := few_facts fB wB
  have CT := Lib.hid (fun (W : World) (hW : Keep w W) => texts_any A c xs W (ht.keep hW) (by omega) a2 a3 (rA.kept hW))
  have CU := Lib.hid (fun (W : World) (hW : Keep w W) => texts_any B d ys W (ht.keep hW) (by omega) b2 b3 (rB.kept hW))
  have CS := Lib.hid (fun (W : World) (hW : Keep w W) => Tr.rules_any A c xs B d ys W (by omega) (by omega) a2 b2 (rA.kept hW) (rB.kept hW))
  have HU := Lib.hid (fun (hx : textOk xs = true) (hy : textOk ys = true) => unlike_texts hx hy wA wB)
  clear fA fB a1 a2 a3 b1 b2 b3 rA rB wA wB ht
  obtain ⟨tx, htx⟩ : ∃ t, t = text xs := ⟨_, rfl⟩
  rw [← htx] at CT HU
  obtain ⟨ty, hty⟩ : ∃ t, t = text ys := ⟨_, rfl⟩
  rw [← hty] at CU HU
  clear htx hty
  generalize textOk xs = ok at *
  generalize textOk ys = ok2 at *
  generalize rules xs ys = rr at *
  have HU2 : (ok && ok2) = true → ((st tx).toList == (st ty).toList) = rr := fun h => by
    rw [Bool.and_eq_true] at h
    exact HU.out h.1 h.2
  clear HU
  go_enter Tryd.func5, Tryd.ntmps5
  go_wp2_with fail
  refine (CFA.out _ (Keep.refl w)).mono ?_
  rintro e w1 ⟨rfl, k1⟩
  go_wp2_with fail
  refine (CFB.out _ k1).mono ?_
  rintro e w2 ⟨rfl, k2⟩
  replace k1 := k1.trans k2
  go_wp2_with fail
  refine (CT.out _ k1).mono ?_
  rintro e w3 ⟨rfl, k3⟩
  replace k1 := k1.trans k3
  go_wp2_with fail
  refine (CU.out _ k1).mono ?_
  rintro e w4 ⟨rfl, k4⟩
  replace k1 := k1.trans k4
  go_wp2_with fail
  refine (CW.out _ k1).mono ?_
  rintro e w5 ⟨rfl, k5⟩
  replace k1 := k1.trans k5
  cases ok
  · clear HU2
    go_wp2
    go_ret
    exact ⟨rfl, k1⟩
  cases ok2
  · clear HU2
    go_wp2
    go_ret
    exact ⟨rfl, k1⟩
  have hu := HU2 rfl
  clear HU2
  go_wp2_with fail
  refine (CS.out _ k1).mono ?_
  rintro e w6 ⟨rfl, k6⟩
  replace k1 := k1.trans k6
  cases rr <;> (go_wp2; go_ret; exact ⟨rfl, k1⟩)
end Go.Proofs.YtnlpaceahgedkaaDoor.Tree
