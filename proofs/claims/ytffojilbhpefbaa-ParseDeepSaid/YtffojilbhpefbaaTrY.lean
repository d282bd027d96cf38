/- Layer 11's reference: few rules, which rules may be. Conditions: lists at most a million. -/
import Derived.Test.YtffojilbhpefbaaTrX
import Derived.Test.YtffojilbhpefbaaTrJ
import Derived.Laws.StructEq
namespace Go.Proofs.Ytffojilbhpefbaa.Tr
set_option linter.unusedVariables false
open Go.ChangeShapes Go.WideShapes Go.ChangeAt Go.RowKit
open Go.Proofs.Ytffojilbhpefbaa.Fp (sameB)
open Go.Proofs.Ytffojilbhpefbaa.Re (tOk tL)
theorem RuleAt.new (W : World) (r : RuleP) (RA OA : Option Addr) (rc oc : Nat) (t : TypeId) : RuleAt (W.alloc (.cells #[.bool r.allow, .int .i64 (kind r.when_), .int .i64 (field r.when_), .slice RA (rs r.when_).length rc, .float .f64 (lo r.when_), .float .f64 (hi r.when_), .slice OA (of r.when_).length oc, .int .i64 r.num, .int .i64 r.per, .int .i64 r.burst, .int .i64 r.line] t)) r RA OA rc oc W.heap.size 0 := by
  have hc : ∀ j v, (#[.bool r.allow, .int .i64 (kind r.when_), .int .i64 (field r.when_), .slice RA (rs r.when_).length rc, .float .f64 (lo r.when_), .float .f64 (hi r.when_), .slice OA (of r.when_).length oc, .int .i64 r.num, .int .i64 r.per, .int .i64 r.burst, .int .i64 r.line] : Array Value)[j]? = some v → (W.alloc (.cells #[.bool r.allow, .int .i64 (kind r.when_), .int .i64 (field r.when_), .slice RA (rs r.when_).length rc, .float .f64 (lo r.when_), .float .f64 (hi r.when_), .slice OA (of r.when_).length oc, .int .i64 r.num, .int .i64 r.per, .int .i64 r.burst, .int .i64 r.line] t)).cell? ⟨W.heap.size, j, none⟩ = some v := fun j v hj => by
    rw [World.cell?_alloc_at (hn := rfl), hj]
  exact ⟨hc 0 _ rfl, hc 1 _ rfl, hc 2 _ rfl, hc 3 _ rfl, hc 4 _ rfl, hc 5 _ rfl, hc 6 _ rfl, hc 7 _ rfl, hc 8 _ rfl, hc 9 _ rfl, hc 10 _ rfl⟩
set_option maxHeartbeats 1000000 in
theorem few_any (A : Option Addr) (c : Nat) (l : List RuleP) (n : Nat) (w : World) (hn : n ≤ 1000000) (hR : Rus w A l) :
    Calls Try.prog 7 #[.slice A l.length c, .int .i64 (n : Int)] w fun e' w' => e' = .returned (.bool (few l n)) ∧ Keep w w' := by
  by_cases h1 : n < l.length
  · have HS := Lib.hid (show few l n = false by rw [few, show decide (l.length ≤ n) = false by simp; omega]; rfl)
    have d1 : decide (n < l.length) = true := by simpa using h1
    have d1' : decide ((n : Int) < (l.length : Int)) = true := by simp; omega
    clear h1
    go_enter Try.func7, Try.ntmps7
    go_wp2
    go_ret
    exact ⟨ret_bool HS.out.symm, Keep.refl _⟩
  have HS := Lib.hid (show few l n = l.all fun r => small r.when_ 4 by rw [few, show decide (l.length ≤ n) = true by simp; omega]; rfl)
  have d1 : decide (n < l.length) = false := by simpa using h1
  have d1' : decide ((n : Int) < (l.length : Int)) = false := by simp; omega
  have hll : l.length ≤ 1000000 := by omega
  clear h1
  go_enter Try.func7, Try.ntmps7
  go_wp2
  go_loopw [5] (fun iv wr => ∃ j : Nat, j ≤ l.length ∧ iv = .int .i64 j ∧ Hid ((l.take j).all (fun r => small r.when_ 4) = true) ∧ Keep w wr) (fun iv _ => l.length - (intOf iv).toNat)
  case atStart => exact ⟨0, Nat.zero_le _, rfl, rfl, Keep.refl _⟩
  case round =>
    obtain ⟨j, hj, rfl, hall, hk⟩ := hrel
    by_cases hlt : j < l.length
    · have hi1 : (j : Int) < l.length := by omega
      have hj0 : (0 : Int) ≤ j := by omega
      have hRw := hR.kept hk
      obtain ⟨b, off, rfl, hbb⟩ := hRw.addr (by omega)
      obtain ⟨_, RA, OA, rc, oc, hx6, hx⟩ := hRw.elem j hlt
      have HA := Lib.hid (all_snoc (fun r : RuleP => small r.when_ 4) zeroR l j hlt)
      have HNo := Lib.hid (all_no (fun r : RuleP => small r.when_ 4) zeroR l j hlt)
      generalize l.getD j zeroR = r at *
      obtain ⟨x0, x1, x2, x3, x4, x5, x6, _⟩ := hx6
      cases hsm : small r.when_ 4
      · have HC := Lib.hid (show ∀ W, Keep wr W → Calls Try.prog 14 #[.agg #[.int .i64 (kind r.when_), .int .i64 (field r.when_), .slice RA (rs r.when_).length rc, .float .f64 (lo r.when_), .float .f64 (hi r.when_), .slice OA (of r.when_).length oc], .int .i64 4] W fun e' w' => e' = .returned (.bool false) ∧ Keep W w' from fun W hW => by
          have := small_any _ r.when_ RA OA rc oc 4 W (Nat.le_refl _) (by omega) (by omega) (hx.kept hW)
          rwa [hsm] at this)
        have HF := Lib.hid (HNo.out hsm)
        clear hx HA HNo hsm hRw
        go_wp2_with fail
        refine (HC.out _ (Keep.refl _)).mono ?_
        rintro e w1 ⟨rfl, hk1⟩
        go_wp2
        go_ret
        exact ⟨ret_bool (by rw [HS.out, HF.out]), hk.trans hk1⟩
      · have HC := Lib.hid (show ∀ W, Keep wr W → Calls Try.prog 14 #[.agg #[.int .i64 (kind r.when_), .int .i64 (field r.when_), .slice RA (rs r.when_).length rc, .float .f64 (lo r.when_), .float .f64 (hi r.when_), .slice OA (of r.when_).length oc], .int .i64 4] W fun e' w' => e' = .returned (.bool true) ∧ Keep W w' from fun W hW => by
          have := small_any _ r.when_ RA OA rc oc 4 W (Nat.le_refl _) (by omega) (by omega) (hx.kept hW)
          rwa [hsm] at this)
        have HF := Lib.hid (show (l.take (j + 1)).all (fun r => small r.when_ 4) = true by rw [HA.out, hall.out, hsm]; rfl)
        clear hx HA HNo hsm hRw
        go_wp2_with fail
        refine (HC.out _ (Keep.refl _)).mono ?_
        rintro e w1 ⟨rfl, hk1⟩
        go_wp2
        go_roundw
        case rel => exact ⟨j + 1, by omega, by go_num, HF, hk.trans hk1⟩
        case measure => simp [intOf]; omega
    · obtain rfl : j = l.length := by omega
      have HF := Lib.hid (show l.all (fun r => small r.when_ 4) = true by have := hall.out; rwa [List.take_length] at this)
      go_wp2
      go_ret
      exact ⟨ret_bool (by rw [HS.out, HF.out]), hk⟩
theorem eqRate (a b c : Int) (w : World) : (Op.equalIn 10000 41 (.agg #[.int .i64 a, .int .i64 b, .int .i64 c]) (.agg #[.int .i64 0, .int .i64 0, .int .i64 0])).run Try.prog w = .ok (a == 0 && (b == 0 && c == 0)) w := by
  have u3 := Try.underlying3
  have a3 := Try.isAgg3
  have z3 := Try.sizeOf3
  have hS : Try.prog.underlying 41 = some (.struct (Try.prog.fieldsOf 41)) := by kernel_rfl
  have hp : Try.prog.stoodInHeld 41 = false := by kernel_rfl
  rw [show (10000 : Nat) = 9999 + 1 from rfl, run_equalIn_agg w 9999 41 _ _ hS hp]
  simp only [Program.fieldsOf, Try.underlying41]
  cases h1 : (a == 0)
  · go_simp
  · cases h2 : (b == 0) <;> cases h3 : (c == 0) <;> (go_simp; try simp [h1, h2, h3])
theorem guardRate : Try.prog.eqGuardType Try.prog.depth 41 = false := by kernel_rfl


set_option maxHeartbeats 4000000 in
theorem rule_any (r : RuleP) (RA OA : Option Addr) (rc oc : Nat) (w : World) (hfit : fits r.when_) (hE : Ex w r.when_ RA OA) :
    Calls Try.prog 15 #[.agg #[.bool r.allow, .int .i64 (kind r.when_), .int .i64 (field r.when_), .slice RA (rs r.when_).length rc, .float .f64 (lo r.when_), .float .f64 (hi r.when_), .slice OA (of r.when_).length oc, .int .i64 r.num, .int .i64 r.per, .int .i64 r.burst, .int .i64 r.line]] w fun e' w' => e' = .returned (.bool (ruleR r)) ∧ Keep w w' := by
  obtain ⟨X, hX⟩ : ∃ X, X = (w.alloc (.cells #[.bool r.allow, .int .i64 (kind r.when_), .int .i64 (field r.when_), .slice RA (rs r.when_).length rc, .float .f64 (lo r.when_), .float .f64 (hi r.when_), .slice OA (of r.when_).length oc, .int .i64 r.num, .int .i64 r.per, .int .i64 r.burst, .int .i64 r.line] 43)).alloc (.cells #[.int .i64 r.num, .int .i64 r.per, .int .i64 r.burst] 41) := ⟨_, rfl⟩
  have hs1 : (w.alloc (.cells #[.bool r.allow, .int .i64 (kind r.when_), .int .i64 (field r.when_), .slice RA (rs r.when_).length rc, .float .f64 (lo r.when_), .float .f64 (hi r.when_), .slice OA (of r.when_).length oc, .int .i64 r.num, .int .i64 r.per, .int .i64 r.burst, .int .i64 r.line] 43)).heap.size = w.heap.size + 1 := by simp
  have hkX : Keep w X := by rw [hX]; exact ((Keep.refl w).alloc _).alloc _
  have hltX : w.heap.size + 1 < X.heap.size := by rw [hX]; simp
  have hR1 : RuleAt X r RA OA rc oc w.heap.size 0 := by rw [hX]; exact (RuleAt.new w r RA OA rc oc 43).kept (by simp) ((Keep.refl _).alloc _)
  have hQ : X.cell? ⟨w.heap.size + 1, 0, none⟩ = some (.int .i64 r.num) ∧ X.cell? ⟨w.heap.size + 1, 1, none⟩ = some (.int .i64 r.per) ∧ X.cell? ⟨w.heap.size + 1, 2, none⟩ = some (.int .i64 r.burst) := by
    rw [hX, ← hs1]
    exact ⟨by rw [World.cell?_alloc_at (hn := rfl)]; rfl, by rw [World.cell?_alloc_at (hn := rfl)]; rfl, by rw [World.cell?_alloc_at (hn := rfl)]; rfl⟩
  have HB := Lib.hid (show ∀ W, Keep X W → (W.cell? ⟨w.heap.size, 0, none⟩ = some (.bool r.allow) ∧ W.cell? ⟨w.heap.size, 1, none⟩ = some (.int .i64 (kind r.when_)) ∧ W.cell? ⟨w.heap.size, 2, none⟩ = some (.int .i64 (field r.when_)) ∧ W.cell? ⟨w.heap.size, 3, none⟩ = some (.slice RA (rs r.when_).length rc) ∧ W.cell? ⟨w.heap.size, 4, none⟩ = some (.float .f64 (lo r.when_)) ∧ W.cell? ⟨w.heap.size, 5, none⟩ = some (.float .f64 (hi r.when_)) ∧ W.cell? ⟨w.heap.size, 6, none⟩ = some (.slice OA (of r.when_).length oc) ∧
      W.cell? ⟨w.heap.size, 7, none⟩ = some (.int .i64 r.num) ∧ W.cell? ⟨w.heap.size, 8, none⟩ = some (.int .i64 r.per) ∧ W.cell? ⟨w.heap.size, 9, none⟩ = some (.int .i64 r.burst) ∧ W.cell? ⟨w.heap.size, 10, none⟩ = some (.int .i64 r.line) ∧
      W.cell? ⟨w.heap.size + 1, 0, none⟩ = some (.int .i64 r.num) ∧ W.cell? ⟨w.heap.size + 1, 1, none⟩ = some (.int .i64 r.per) ∧ W.cell? ⟨w.heap.size + 1, 2, none⟩ = some (.int .i64 r.burst)) from fun W hk => by
    obtain ⟨c0, c1, c2, c3, c4, c5, c6, c7, c8, c9, c10⟩ := hR1.kept (W' := W) (by omega) hk
    exact ⟨by simpa using c0, by simpa using c1, by simpa using c2, by simpa using c3, by simpa using c4, by simpa using c5, by simpa using c6, by simpa using c7, by simpa using c8, by simpa using c9, by simpa using c10,
      (Below.cell hk hltX).trans hQ.1, (Below.cell hk hltX).trans hQ.2.1, (Below.cell hk hltX).trans hQ.2.2⟩)
  have hEX := hE.kept hkX
  clear hR1 hQ hltX hs1
  have CR := fun W (hW : Keep X W) => right_any _ r.when_ RA OA rc oc W (Nat.le_refl _) hfit (hEX.kept hW)
  have C1 := fun W => num_any r.num W
  have C2 := fun W => num_any r.per W
  have C3 := fun W => num_any r.burst W
  have HR := Lib.hid (show ruleR r = (right r.when_ && (numR r.num && (numR r.per && (numR r.burst && (!(r.per == 0) || (r.num == 0 && r.burst == 0)))))) from rfl)
  clear hEX hE hfit
  cases g0 : right r.when_
  · have HS := Lib.hid (show ruleR r = false by rw [HR.out, g0, Bool.false_and])
    rw [g0] at CR
    replace CR := Lib.hid CR
    clear g0 HR C1 C2 C3
    go_enter Try.func15, Try.ntmps15
    go_wp2_with fail
    rw [← hX]
    clear hX
    refine (CR.out _ (Keep.refl X)).mono ?_
    rintro e w1 ⟨rfl, k1⟩
    go_wp2
    go_ret
    exact ⟨ret_bool HS.out.symm, hkX.trans k1⟩
  rw [g0] at CR
  replace CR := Lib.hid CR
  cases g1 : numR r.num
  · have HS := Lib.hid (show ruleR r = false by rw [HR.out, g0, g1, Bool.false_and, Bool.and_false])
    rw [g1] at C1
    replace C1 := Lib.hid C1
    clear g0 g1 HR C2 C3
    go_enter Try.func15, Try.ntmps15
    go_wp2_with fail
    rw [← hX]
    clear hX
    refine (CR.out _ (Keep.refl X)).mono ?_
    rintro e w1 ⟨rfl, k1⟩
    obtain ⟨b0, b1, b2, b3, b4, b5, b6, b7, b8, b9, b10, b11, b12, b13⟩ := HB.out _ k1
    go_wp2_with fail
    refine (C1.out _).mono ?_
    rintro e _ ⟨rfl, rfl⟩
    go_wp2
    go_ret
    exact ⟨ret_bool HS.out.symm, hkX.trans k1⟩
  rw [g1] at C1
  replace C1 := Lib.hid C1
  cases g2 : numR r.per
  · have HS := Lib.hid (show ruleR r = false by rw [HR.out, g0, g1, g2, Bool.false_and, Bool.and_false, Bool.and_false])
    rw [g2] at C2
    replace C2 := Lib.hid C2
    clear g0 g1 g2 HR C3
    go_enter Try.func15, Try.ntmps15
    go_wp2_with fail
    rw [← hX]
    clear hX
    refine (CR.out _ (Keep.refl X)).mono ?_
    rintro e w1 ⟨rfl, k1⟩
    obtain ⟨b0, b1, b2, b3, b4, b5, b6, b7, b8, b9, b10, b11, b12, b13⟩ := HB.out _ k1
    go_wp2_with fail
    refine (C1.out _).mono ?_
    rintro e _ ⟨rfl, rfl⟩
    go_wp2_with fail
    refine (C2.out _).mono ?_
    rintro e _ ⟨rfl, rfl⟩
    go_wp2
    go_ret
    exact ⟨ret_bool HS.out.symm, hkX.trans k1⟩
  rw [g2] at C2
  replace C2 := Lib.hid C2
  cases g3 : numR r.burst
  · have HS := Lib.hid (show ruleR r = false by rw [HR.out, g0, g1, g2, g3, Bool.false_and, Bool.and_false, Bool.and_false, Bool.and_false])
    rw [g3] at C3
    replace C3 := Lib.hid C3
    clear g0 g1 g2 g3 HR
    go_enter Try.func15, Try.ntmps15
    go_wp2_with fail
    rw [← hX]
    clear hX
    refine (CR.out _ (Keep.refl X)).mono ?_
    rintro e w1 ⟨rfl, k1⟩
    obtain ⟨b0, b1, b2, b3, b4, b5, b6, b7, b8, b9, b10, b11, b12, b13⟩ := HB.out _ k1
    go_wp2_with fail
    refine (C1.out _).mono ?_
    rintro e _ ⟨rfl, rfl⟩
    go_wp2_with fail
    refine (C2.out _).mono ?_
    rintro e _ ⟨rfl, rfl⟩
    go_wp2_with fail
    refine (C3.out _).mono ?_
    rintro e _ ⟨rfl, rfl⟩
    go_wp2
    go_ret
    exact ⟨ret_bool HS.out.symm, hkX.trans k1⟩
  rw [g3] at C3
  replace C3 := Lib.hid C3
  replace HR := Lib.hid (show ruleR r = (!(r.per == 0) || (r.num == 0 && r.burst == 0)) by rw [HR.out, g0, g1, g2, g3, Bool.true_and, Bool.true_and, Bool.true_and, Bool.true_and])
  clear g0 g1 g2 g3
  cases g4 : (r.per == 0)
  · have HS := Lib.hid (show ruleR r = true by rw [HR.out, g4]; rfl)
    have g4' : (r.per != 0) = true := by rw [bne, g4]; rfl
    clear HR
    go_enter Try.func15, Try.ntmps15
    go_wp2_with fail
    rw [← hX]
    clear hX
    refine (CR.out _ (Keep.refl X)).mono ?_
    rintro e w1 ⟨rfl, k1⟩
    obtain ⟨b0, b1, b2, b3, b4, b5, b6, b7, b8, b9, b10, b11, b12, b13⟩ := HB.out _ k1
    go_wp2_with fail
    refine (C1.out _).mono ?_
    rintro e _ ⟨rfl, rfl⟩
    go_wp2_with fail
    refine (C2.out _).mono ?_
    rintro e _ ⟨rfl, rfl⟩
    go_wp2_with fail
    refine (C3.out _).mono ?_
    rintro e _ ⟨rfl, rfl⟩
    go_wp2
    go_ret
    exact ⟨ret_bool HS.out.symm, hkX.trans k1⟩
  · have he := eqRate r.num r.per r.burst
    have hgd := guardRate
    have HS := Lib.hid (show ruleR r = (r.num == 0 && (r.per == 0 && r.burst == 0)) by rw [HR.out, g4]; rfl)
    have g4' : (r.per != 0) = false := by rw [bne, g4]; rfl
    obtain ⟨qq, hqq⟩ : ∃ q, q = (r.num == 0 && (r.per == 0 && r.burst == 0)) := ⟨_, rfl⟩
    rw [← hqq] at he HS
    clear HR hqq
    go_enter Try.func15, Try.ntmps15
    go_wp2_with fail
    rw [← hX]
    clear hX
    refine (CR.out _ (Keep.refl X)).mono ?_
    rintro e w1 ⟨rfl, k1⟩
    obtain ⟨b0, b1, b2, b3, b4, b5, b6, b7, b8, b9, b10, b11, b12, b13⟩ := HB.out _ k1
    go_wp2_with fail
    refine (C1.out _).mono ?_
    rintro e _ ⟨rfl, rfl⟩
    go_wp2_with fail
    refine (C2.out _).mono ?_
    rintro e _ ⟨rfl, rfl⟩
    go_wp2_with fail
    refine (C3.out _).mono ?_
    rintro e _ ⟨rfl, rfl⟩
    go_wp2
    go_ret
    exact ⟨ret_bool HS.out.symm, hkX.trans k1⟩
end Go.Proofs.Ytffojilbhpefbaa.Tr
