/- Layer 11's reference: few rules, which rules may be. Conditions: lists at most a million. -/
import Derived.Test.YtfdadlalnffdoaaTrRef
import Derived.Test.YtfdadlalnffdoaaTrJ
import Derived.Laws.StructEq
namespace Go.Proofs.Ytfdadlalnffdoaa.Tr
set_option linter.unusedVariables false
open Go.ChangeShapes Go.WideShapes Go.ChangeAt Go.RowKit
open Go.Proofs.Ytfdadlalnffdoaa.Fp (sameB)
open Go.Proofs.Ytfdadlalnffdoaa.Re (tOk tL)
theorem RuleAt.new (W : World) (r : RuleP) (RA OA : Option Addr) (rc oc : Nat) (t : TypeId) : RuleAt (W.alloc (.cells #[.bool r.allow, .int .i64 (kind r.when_), .int .i64 (field r.when_), .slice RA (rs r.when_).length rc, .float .f64 (lo r.when_), .float .f64 (hi r.when_), .slice OA (of r.when_).length oc, .int .i64 r.num, .int .i64 r.per, .int .i64 r.burst, .int .i64 r.line] t)) r RA OA rc oc W.heap.size 0 := by
  have hc : ∀ j v, (#[.bool r.allow, .int .i64 (kind r.when_), .int .i64 (field r.when_), .slice RA (rs r.when_).length rc, .float .f64 (lo r.when_), .float .f64 (hi r.when_), .slice OA (of r.when_).length oc, .int .i64 r.num, .int .i64 r.per, .int .i64 r.burst, .int .i64 r.line] : Array Value)[j]? = some v → (W.alloc (.cells #[.bool r.allow, .int .i64 (kind r.when_), .int .i64 (field r.when_), .slice RA (rs r.when_).length rc, .float .f64 (lo r.when_), .float .f64 (hi r.when_), .slice OA (of r.when_).length oc, .int .i64 r.num, .int .i64 r.per, .int .i64 r.burst, .int .i64 r.line] t)).cell? ⟨W.heap.size, j, none⟩ = some v := fun j v hj => by
    rw [World.cell?_alloc_at (hn := rfl), hj]
  exact ⟨hc 0 _ rfl, hc 1 _ rfl, hc 2 _ rfl, hc 3 _ rfl, hc 4 _ rfl, hc 5 _ rfl, hc 6 _ rfl, hc 7 _ rfl, hc 8 _ rfl, hc 9 _ rfl, hc 10 _ rfl⟩
set_option maxHeartbeats 1000000 in
theorem few_any (A : Option Addr) (c : Nat) (l : List RuleP) (n : Nat) (w : World) (hn : n ≤ 1000000) (hR : Rus w A l) :
    Calls Try.prog 22 #[.slice A l.length c, .int .i64 (n : Int)] w fun e' w' => e' = .returned (.bool (few l n)) ∧ Keep w w' := by
  by_cases h1 : n < l.length
  · have HS := Lib.hid (show few l n = false by rw [few, show decide (l.length ≤ n) = false by simp; omega]; rfl)
    have d1 : decide (n < l.length) = true := by simpa using h1
    have d1' : decide ((n : Int) < (l.length : Int)) = true := by simp; omega
    clear h1
    go_enter Try.func22, Try.ntmps22
    go_wp2
    go_ret
    exact ⟨ret_bool HS.out.symm, Keep.refl _⟩
  have HS := Lib.hid (show few l n = l.all fun r => small r.when_ 4 by rw [few, show decide (l.length ≤ n) = true by simp; omega]; rfl)
  have d1 : decide (n < l.length) = false := by simpa using h1
  have d1' : decide ((n : Int) < (l.length : Int)) = false := by simp; omega
  have hll : l.length ≤ 1000000 := by omega
  clear h1
  go_enter Try.func22, Try.ntmps22
  go_wp2
  go_loopw [5] (fun iv wr => ∃ j : Nat, j ≤ l.length ∧ iv = .int .i64 j ∧ Hid ((l.take j).all (fun r => small r.when_ 4) = true) ∧ Keep w wr) (fun iv _ => l.length - (intOf iv).toNat)
  case atStart => exact ⟨0, Nat.zero_le _, rfl, rfl, Keep.refl _⟩
  case round =>
    obtain ⟨j, hj, rfl, hall, hk⟩ := hrel
    by_cases hlt : j < l.length
    · have hi1 : (j : Int) < l.length := by omega
      have hj0 : (0 : Int) ≤ j := by omega
      have hRw := hR.kept hk
      obtain ⟨b, off, rfl, hbb⟩ := hRw.addr (by omega)
      obtain ⟨_, RA, OA, rc, oc, hx6, hx⟩ := hRw.elem j hlt
      have HA := Lib.hid (all_snoc (fun r : RuleP => small r.when_ 4) zeroR l j hlt)
      have HNo := Lib.hid (all_no (fun r : RuleP => small r.when_ 4) zeroR l j hlt)
      generalize l.getD j zeroR = r at *
      obtain ⟨x0, x1, x2, x3, x4, x5, x6, _⟩ := hx6
      cases hsm : small r.when_ 4
      · have HC := Lib.hid (show ∀ W, Keep wr W → Calls Try.prog 17 #[.agg #[.int .i64 (kind r.when_), .int .i64 (field r.when_), .slice RA (rs r.when_).length rc, .float .f64 (lo r.when_), .float .f64 (hi r.when_), .slice OA (of r.when_).length oc], .int .i64 4] W fun e' w' => e' = .returned (.bool false) ∧ Keep W w' from fun W hW => by
          have := small_any _ r.when_ RA OA rc oc 4 W (Nat.le_refl _) (by omega) (by omega) (hx.kept hW)
          rwa [hsm] at this)
        have HF := Lib.hid (HNo.out hsm)
        clear hx HA HNo hsm hRw
        go_wp2_with fail
        refine (HC.out _ (Keep.refl _)).mono ?_
        rintro e w1 ⟨rfl, hk1⟩
        go_wp2
        go_ret
        exact ⟨ret_bool (by rw [HS.out, HF.out]), hk.trans hk1⟩
      · have HC := Lib.hid (show ∀ W, Keep wr W → Calls Try.prog 17 #[.agg #[.int .i64 (kind r.when_), .int .i64 (field r.when_), .slice RA (rs r.when_).length rc, .float .f64 (lo r.when_), .float .f64 (hi r.when_), .slice OA (of r.when_).length oc], .int .i64 4] W fun e' w' => e' = .returned (.bool true) ∧ Keep W w' from fun W hW => by
          have := small_any _ r.when_ RA OA rc oc 4 W (Nat.le_refl _) (by omega) (by omega) (hx.kept hW)
          rwa [hsm] at this)
        have HF := Lib.hid (show (l.take (j + 1)).all (fun r => small r.when_ 4) = true by rw [HA.out, hall.out, hsm]; rfl)
        clear hx HA HNo hsm hRw
        go_wp2_with fail
        refine (HC.out _ (Keep.refl _)).mono ?_
        rintro e w1 ⟨rfl, hk1⟩
        go_wp2
        go_roundw
        case rel => exact ⟨j + 1, by omega, by go_num, HF, hk.trans hk1⟩
        case measure => simp [intOf]; omega
    · obtain rfl : j = l.length := by omega
      have HF := Lib.hid (show l.all (fun r => small r.when_ 4) = true by have := hall.out; rwa [List.take_length] at this)
      go_wp2
      go_ret
      exact ⟨ret_bool (by rw [HS.out, HF.out]), hk⟩
theorem eqRate (a b c : Int) (w : World) : (Op.equalIn 10000 41 (.agg #[.int .i64 a, .int .i64 b, .int .i64 c]) (.agg #[.int .i64 0, .int .i64 0, .int .i64 0])).run Try.prog w = .ok (a == 0 && (b == 0 && c == 0)) w := by
  have u3 := Try.underlying3
  have a3 := Try.isAgg3
  have z3 := Try.sizeOf3
  have hS : Try.prog.underlying 41 = some (.struct (Try.prog.fieldsOf 41)) := by kernel_rfl
  have hp : Try.prog.stoodInHeld 41 = false := by kernel_rfl
  rw [show (10000 : Nat) = 9999 + 1 from rfl, run_equalIn_agg w 9999 41 _ _ hS hp]
  simp only [Program.fieldsOf, Try.underlying41]
  cases h1 : (a == 0)
  · go_simp
  · cases h2 : (b == 0) <;> cases h3 : (c == 0) <;> (go_simp; try simp [h1, h2, h3])
theorem guardRate : Try.prog.eqGuardType Try.prog.depth 41 = false := by kernel_rfl


end Go.Proofs.Ytfdadlalnffdoaa.Tr
