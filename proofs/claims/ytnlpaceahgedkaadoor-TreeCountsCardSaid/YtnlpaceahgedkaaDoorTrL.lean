/- Layer 11's law TreeTexts. Conditions: none beyond the law's own. -/
import Derived.Test.YtnlpaceahgedkaaDoorTrAw
namespace Go.Proofs.YtnlpaceahgedkaaDoor.Tree
set_option linter.unusedVariables false
open Go.ChangeShapes Go.WideShapes Go.ChangeAt Go.RowKit
open Tr
/-- What few rules are: they fit, and their texts are short. -/
theorem few_facts {l : List RuleP} (hf : few l 6 = true) (hw : ∀ r ∈ l, wfR r) : l.length ≤ 6 ∧ (∀ r ∈ l, fits r.when_) ∧ ∀ r ∈ l, ruleR r = true → (rtxt r).length ≤ 3000000 := by
  rw [few, Bool.and_eq_true, decide_eq_true_eq, List.all_eq_true] at hf
  refine ⟨hf.1, fun r hr => (small_fits _ _ 4 (Nat.le_refl _) (hw r hr).1 (hf.2 r hr)).1, fun r hr _ => ?_⟩
  have h1 := txt_len _ r.when_ 4 (Nat.le_refl _) (hf.2 r hr)
  have e4 : 7 ^ (4 : Int).toNat = 2401 := by decide
  rw [e4] at h1
  have h2 := Gu.put_len r.num
  have h3 := Gu.put_len r.per
  have h4 := Gu.put_len r.burst
  have w1 : wAllow.length = 5 := rfl
  have w2 : wDeny.length = 4 := rfl
  have w3 : wWhen.length = 6 := rfl
  have w4 : wRate.length = 6 := rfl
  have w5 : wPer.length = 5 := rfl
  have w6 : wBurst.length = 7 := rfl
  unfold rtxt
  rw [List.length_append, List.length_append, List.length_append]
  have a1 : (if r.allow then wAllow else wDeny).length ≤ 5 := by split <;> omega
  have a2 : (if kind r.when_ = 0 then [] else wWhen ++ txt r.when_).length ≤ 6 + 300 * 2401 := by
    split
    · simp
    · rw [List.length_append]; omega
  have a3 : (if r.per = 0 then [] else wRate ++ (Gu.put r.num ++ (wPer ++ (Gu.put r.per ++ (wBurst ++ Gu.put r.burst))))).length ≤ 66 := by
    split
    · simp
    · simp only [List.length_append]; omega
  have a4 : ([59, 10] : List UInt8).length = 2 := rfl
  omega
set_option maxHeartbeats 4000000 in
theorem textslaw_any (A : Option Addr) (n c : Nat) (xs : List RuleP) (B : Option Addr) (m d : Nat) (ys : List RuleP) (w : World) (ht : Tab w) (hA : RulesIn w A n xs) (hB : RulesIn w B m ys) :
    Calls Tryd.prog 4 #[.slice A n c, .slice B m d] w fun e' w' => e' = .returned (.bool true) ∧ Keep w w' := by
  obtain ⟨rfl, rA, wA⟩ := hA
  obtain ⟨rfl, rB, wB⟩ := hB
  have CFA := fun (W : World) (hW : Keep w W) => few_any A c xs 6 W (by omega) (rA.kept hW)
  have CFB := fun (W : World) (hW : Keep w W) => few_any B d ys 6 W (by omega) (rB.kept hW)
  have CW := fun (W : World) (hW : Keep w W) => awake_any W (ht.keep hW)
  cases fA : few xs 6
  · rw [fA] at CFA
    replace CFA := Lib.hid CFA
    replace CW := Lib.hid CW
    clear CFB fA rA rB wA wB
    go_enter Tryd.func4, Tryd.ntmps4
    go_wp2_with fail
    refine (CFA.out _ (Keep.refl w)).mono ?_
    rintro e w1 ⟨rfl, k1⟩
    go_wp2_with fail
    refine (CW.out _ k1).mono ?_
    rintro e w2 ⟨rfl, k2⟩
    go_wp2
    go_ret
    exact ⟨rfl, k1.trans k2⟩
  rw [fA] at CFA
  replace CFA := Lib.hid CFA
  cases fB : few ys 6
  · rw [fB] at CFB
    replace CFB := Lib.hid CFB
    replace CW := Lib.hid CW
    clear fA fB rA rB wA wB
    go_enter Tryd.func4, Tryd.ntmps4
    go_wp2_with fail
    refine (CFA.out _ (Keep.refl w)).mono ?_
    rintro e w1 ⟨rfl, k1⟩
    go_wp2_with fail
    refine (CFB.out _ k1).mono ?_
    rintro e w2 ⟨rfl, k2⟩
    replace k1 := k1.trans k2
    go_wp2_with fail
    refine (CW.out _ k1).mono ?_
    rintro e w3 ⟨rfl, k3⟩
    go_wp2
    go_ret
    exact ⟨rfl, k1.trans k3⟩
  rw [fB] at CFB
  replace CFB := Lib.hid CFB
  replace CW := Lib.hid CW
  obtain ⟨a1, a2, a3⟩ := few_facts fA wA
  obtain ⟨b1, b2, b3⟩ := few_facts fB wB
  have CT := Lib.hid (fun (W : World) (hW : Keep w W) => texts_any A c xs W (ht.keep hW) (by omega) a2 a3 (rA.kept hW))
  have CU := Lib.hid (fun (W : World) (hW : Keep w W) => Tr.texts_any A c xs W (by omega) a2 a3 (rA.kept hW))
  have CR := Lib.hid (fun (W : World) (hW : Keep w W) => rules_any A c xs B d ys W (ht.keep hW) (by omega) (by omega) a2 b2 (rA.kept hW) (rB.kept hW))
  have CS := Lib.hid (fun (W : World) (hW : Keep w W) => Tr.rules_any A c xs B d ys W (by omega) (by omega) a2 b2 (rA.kept hW) (rB.kept hW))
  clear fA fB a1 a2 a3 b1 b2 b3 rA rB wA wB ht
  obtain ⟨tx, htx⟩ : ∃ t, t = text xs := ⟨_, rfl⟩
  rw [← htx] at CT CU
  clear htx
  generalize textOk xs = ok at *
  generalize rules xs ys = rr at *
  go_enter Tryd.func4, Tryd.ntmps4
  go_wp2_with fail
  refine (CFA.out _ (Keep.refl w)).mono ?_
  rintro e w1 ⟨rfl, k1⟩
  go_wp2_with fail
  refine (CFB.out _ k1).mono ?_
  rintro e w2 ⟨rfl, k2⟩
  replace k1 := k1.trans k2
  go_wp2_with fail
  refine (CT.out _ k1).mono ?_
  rintro e w3 ⟨rfl, k3⟩
  replace k1 := k1.trans k3
  go_wp2_with fail
  refine (CU.out _ k1).mono ?_
  rintro e w4 ⟨rfl, k4⟩
  replace k1 := k1.trans k4
  go_wp2_with fail
  refine (CW.out _ k1).mono ?_
  rintro e w5 ⟨rfl, k5⟩
  replace k1 := k1.trans k5
  cases ok
  all_goals (
    go_wp2_with fail
    refine (CR.out _ k1).mono ?_
    rintro e w6 ⟨rfl, k6⟩
    replace k1 := k1.trans k6
    go_wp2_with fail
    refine (CS.out _ k1).mono ?_
    rintro e w7 ⟨rfl, k7⟩
    replace k1 := k1.trans k7
    cases rr <;> (go_wp2; go_ret; exact ⟨rfl, k1⟩))
end Go.Proofs.YtnlpaceahgedkaaDoor.Tree
