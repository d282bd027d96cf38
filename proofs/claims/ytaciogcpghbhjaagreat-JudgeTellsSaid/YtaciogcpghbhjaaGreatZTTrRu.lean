/- Of these texts: TrRu. Conditions: as each part says. -/
import Derived.Test.YtaciogcpghbhjaaGreatZTTrRef
import Derived.Test.YtaciogcpghbhjaaGreatZTTrI
import Derived.Laws.StructEq
/- Several texts in one: TrY, TrZ, TrQ. Conditions: as each part says. -/
namespace Go.Proofs.YtaciogcpghbhjaaGreat.Tr
set_option linter.unusedVariables false
open Go.ChangeShapes Go.WideShapes Go.ChangeAt Go.RowKit
open Go.Proofs.YtaciogcpghbhjaaGreat.Fp (sameB)
open Go.Proofs.YtaciogcpghbhjaaGreat.Re (tOk tL)
theorem RuleAt.new (W : World) (r : RuleP) (RA OA : Option Addr) (rc oc : Nat) (t : TypeId) : RuleAt (W.alloc (.cells #[.bool r.allow, .int .i64 (kind r.when_), .int .i64 (field r.when_), .slice RA (rs r.when_).length rc, .float .f64 (lo r.when_), .float .f64 (hi r.when_), .slice OA (of r.when_).length oc, .int .i64 r.num, .int .i64 r.per, .int .i64 r.burst, .int .i64 r.line] t)) r RA OA rc oc W.heap.size 0 := by
 have hc : ∀ j v, (#[.bool r.allow, .int .i64 (kind r.when_), .int .i64 (field r.when_), .slice RA (rs r.when_).length rc, .float .f64 (lo r.when_), .float .f64 (hi r.when_), .slice OA (of r.when_).length oc, .int .i64 r.num, .int .i64 r.per, .int .i64 r.burst, .int .i64 r.line] : Array Value)[j]? = some v -> (W.alloc (.cells #[.bool r.allow, .int .i64 (kind r.when_), .int .i64 (field r.when_), .slice RA (rs r.when_).length rc, .float .f64 (lo r.when_), .float .f64 (hi r.when_), .slice OA (of r.when_).length oc, .int .i64 r.num, .int .i64 r.per, .int .i64 r.burst, .int .i64 r.line] t)).cell? ⟨W.heap.size, j, none⟩ = some v := fun j v hj => by
  rw [World.cell?_alloc_at (hn := rfl), hj]
 exact ⟨hc 0 _ rfl, hc 1 _ rfl, hc 2 _ rfl, hc 3 _ rfl, hc 4 _ rfl, hc 5 _ rfl, hc 6 _ rfl, hc 7 _ rfl, hc 8 _ rfl, hc 9 _ rfl, hc 10 _ rfl⟩
set_option maxHeartbeats 1000000 in
theorem few_any (A : Option Addr) (c : Nat) (l : List RuleP) (n : Nat) (w : World) (hn : n <= 1000000) (hR : Rus w A l) :
  Calls Tryz.prog 25 #[.slice A l.length c, .int .i64 (n : Int)] w fun e' w' => e' = .returned (.bool (few l n)) ∧ Keep w w' := by
 by_cases h1 : n < l.length
 ·have HS := Lib.hid (show few l n = false by rw [few, show decide (l.length <= n) = false by simp; omega]; rfl)
  have d1 : decide (n < l.length) = true := by simpa using h1
  have d1' : decide ((n : Int) < (l.length : Int)) = true := by simp; omega
  clear h1
  go_enter Tryz.func25, Tryz.ntmps25
  go_wp2
  go_ret
  exact ⟨ret_bool HS.out.symm, Keep.refl _⟩
 have HS := Lib.hid (show few l n = l.all fun r => small r.when_ 4 by rw [few, show decide (l.length <= n) = true by simp; omega]; rfl)
 have d1 : decide (n < l.length) = false := by simpa using h1
 have d1' : decide ((n : Int) < (l.length : Int)) = false := by simp; omega
 have hll : l.length <= 1000000 := by omega
 clear h1
 go_enter Tryz.func25, Tryz.ntmps25
 go_wp2
 go_loopw [5] (fun iv wr => ∃ j : Nat, j <= l.length ∧ iv = .int .i64 j ∧ Hid ((l.take j).all (fun r => small r.when_ 4) = true) ∧ Keep w wr) (fun iv _ => l.length - (intOf iv).toNat)
 case atStart => exact ⟨0, Nat.zero_le _, rfl, rfl, Keep.refl _⟩
 case round =>
  obtain ⟨j, hj, rfl, hall, hk⟩ := hrel
  by_cases hlt : j < l.length
  ·have hi1 : (j : Int) < l.length := by omega
   have hj0 : (0 : Int) <= j := by omega
   have hRw := hR.kept hk
   obtain ⟨b, off, rfl, hbb⟩ := hRw.addr (by omega)
   obtain ⟨_, RA, OA, rc, oc, hx6, hx⟩ := hRw.elem j hlt
   have HA := Lib.hid (all_snoc (fun r : RuleP => small r.when_ 4) zeroR l j hlt)
   have HNo := Lib.hid (all_no (fun r : RuleP => small r.when_ 4) zeroR l j hlt)
   generalize l.getD j zeroR = r at *
   obtain ⟨x0, x1, x2, x3, x4, x5, x6, _⟩ := hx6
   cases hsm : small r.when_ 4
   ·have HC := Lib.hid (show ∀ W, Keep wr W -> Calls Tryz.prog 46 #[.agg #[.int .i64 (kind r.when_), .int .i64 (field r.when_), .slice RA (rs r.when_).length rc, .float .f64 (lo r.when_), .float .f64 (hi r.when_), .slice OA (of r.when_).length oc], .int .i64 4] W fun e' w' => e' = .returned (.bool false) ∧ Keep W w' from fun W hW => by
     have := small_any _ r.when_ RA OA rc oc 4 W (Nat.le_refl _) (by omega) (by omega) (hx.kept hW)
     rwa [hsm] at this)
    have HF := Lib.hid (HNo.out hsm)
    clear hx HA HNo hsm hRw
    go_wp2_with fail
    refine (HC.out _ (Keep.refl _)).mono ?_
    rintro e w1 ⟨rfl, hk1⟩
    go_wp2
    go_ret
    exact ⟨ret_bool (by rw [HS.out, HF.out]), hk.trans hk1⟩
   ·have HC := Lib.hid (show ∀ W, Keep wr W -> Calls Tryz.prog 46 #[.agg #[.int .i64 (kind r.when_), .int .i64 (field r.when_), .slice RA (rs r.when_).length rc, .float .f64 (lo r.when_), .float .f64 (hi r.when_), .slice OA (of r.when_).length oc], .int .i64 4] W fun e' w' => e' = .returned (.bool true) ∧ Keep W w' from fun W hW => by
     have := small_any _ r.when_ RA OA rc oc 4 W (Nat.le_refl _) (by omega) (by omega) (hx.kept hW)
     rwa [hsm] at this)
    have HF := Lib.hid (show (l.take (j + 1)).all (fun r => small r.when_ 4) = true by rw [HA.out, hall.out, hsm]; rfl)
    clear hx HA HNo hsm hRw
    go_wp2_with fail
    refine (HC.out _ (Keep.refl _)).mono ?_
    rintro e w1 ⟨rfl, hk1⟩
    go_wp2
    go_roundw
    case rel => exact ⟨j + 1, by omega, by go_num, HF, hk.trans hk1⟩
    case measure => simp [intOf]; omega
  ·obtain rfl : j = l.length := by omega
   have HF := Lib.hid (show l.all (fun r => small r.when_ 4) = true by have := hall.out; rwa [List.take_length] at this)
   go_wp2
   go_ret
   exact ⟨ret_bool (by rw [HS.out, HF.out]), hk⟩
theorem eqRate (a b c : Int) (w : World) : (Op.equalIn 10000 61 (.agg #[.int .i64 a, .int .i64 b, .int .i64 c]) (.agg #[.int .i64 0, .int .i64 0, .int .i64 0])).run Tryz.prog w = .ok (a == 0 && (b == 0 && c == 0)) w := by
 have u3 := Tryz.underlying3
 have a3 := Tryz.isAgg3
 have z3 := Tryz.sizeOf3
 have hS : Tryz.prog.underlying 61 = some (.struct (Tryz.prog.fieldsOf 61)) := by kernel_rfl
 have hp : Tryz.prog.stoodInHeld 61 = false := by kernel_rfl
 rw [show (10000 : Nat) = 9999 + 1 from rfl, run_equalIn_agg w 9999 61 _ _ hS hp]
 simp only [Program.fieldsOf, Tryz.underlying61]
 cases h1 : (a == 0)
 ·go_simp
 ·cases h2 : (b == 0) <;> cases h3 : (c == 0) <;> (go_simp; try simp [h1, h2, h3])
theorem guardRate : Tryz.prog.eqGuardType Tryz.prog.depth 61 = false := by kernel_rfl
set_option maxHeartbeats 4000000 in
theorem rule_any (r : RuleP) (RA OA : Option Addr) (rc oc : Nat) (w : World) (hfit : fits r.when_) (hE : Ex w r.when_ RA OA) :
  Calls Tryz.prog 67 #[.agg #[.bool r.allow, .int .i64 (kind r.when_), .int .i64 (field r.when_), .slice RA (rs r.when_).length rc, .float .f64 (lo r.when_), .float .f64 (hi r.when_), .slice OA (of r.when_).length oc, .int .i64 r.num, .int .i64 r.per, .int .i64 r.burst, .int .i64 r.line]] w fun e' w' => e' = .returned (.bool (ruleR r)) ∧ Keep w w' := by
 obtain ⟨X, hX⟩ : ∃ X, X = (w.alloc (.cells #[.bool r.allow, .int .i64 (kind r.when_), .int .i64 (field r.when_), .slice RA (rs r.when_).length rc, .float .f64 (lo r.when_), .float .f64 (hi r.when_), .slice OA (of r.when_).length oc, .int .i64 r.num, .int .i64 r.per, .int .i64 r.burst, .int .i64 r.line] 63)).alloc (.cells #[.int .i64 r.num, .int .i64 r.per, .int .i64 r.burst] 61) := ⟨_, rfl⟩
 have hs1 : (w.alloc (.cells #[.bool r.allow, .int .i64 (kind r.when_), .int .i64 (field r.when_), .slice RA (rs r.when_).length rc, .float .f64 (lo r.when_), .float .f64 (hi r.when_), .slice OA (of r.when_).length oc, .int .i64 r.num, .int .i64 r.per, .int .i64 r.burst, .int .i64 r.line] 63)).heap.size = w.heap.size + 1 := by simp
 have hkX : Keep w X := by rw [hX]; exact ((Keep.refl w).alloc _).alloc _
 have hltX : w.heap.size + 1 < X.heap.size := by rw [hX]; simp
 have hR1 : RuleAt X r RA OA rc oc w.heap.size 0 := by rw [hX]; exact (RuleAt.new w r RA OA rc oc 63).kept (by simp) ((Keep.refl _).alloc _)
 have hQ : X.cell? ⟨w.heap.size + 1, 0, none⟩ = some (.int .i64 r.num) ∧ X.cell? ⟨w.heap.size + 1, 1, none⟩ = some (.int .i64 r.per) ∧ X.cell? ⟨w.heap.size + 1, 2, none⟩ = some (.int .i64 r.burst) := by
  rw [hX, <- hs1]
  exact ⟨by rw [World.cell?_alloc_at (hn := rfl)]; rfl, by rw [World.cell?_alloc_at (hn := rfl)]; rfl, by rw [World.cell?_alloc_at (hn := rfl)]; rfl⟩
 have HB := Lib.hid (show ∀ W, Keep X W -> (W.cell? ⟨w.heap.size, 0, none⟩ = some (.bool r.allow) ∧ W.cell? ⟨w.heap.size, 1, none⟩ = some (.int .i64 (kind r.when_)) ∧ W.cell? ⟨w.heap.size, 2, none⟩ = some (.int .i64 (field r.when_)) ∧ W.cell? ⟨w.heap.size, 3, none⟩ = some (.slice RA (rs r.when_).length rc) ∧ W.cell? ⟨w.heap.size, 4, none⟩ = some (.float .f64 (lo r.when_)) ∧ W.cell? ⟨w.heap.size, 5, none⟩ = some (.float .f64 (hi r.when_)) ∧ W.cell? ⟨w.heap.size, 6, none⟩ = some (.slice OA (of r.when_).length oc) ∧
   W.cell? ⟨w.heap.size, 7, none⟩ = some (.int .i64 r.num) ∧ W.cell? ⟨w.heap.size, 8, none⟩ = some (.int .i64 r.per) ∧ W.cell? ⟨w.heap.size, 9, none⟩ = some (.int .i64 r.burst) ∧ W.cell? ⟨w.heap.size, 10, none⟩ = some (.int .i64 r.line) ∧
   W.cell? ⟨w.heap.size + 1, 0, none⟩ = some (.int .i64 r.num) ∧ W.cell? ⟨w.heap.size + 1, 1, none⟩ = some (.int .i64 r.per) ∧ W.cell? ⟨w.heap.size + 1, 2, none⟩ = some (.int .i64 r.burst)) from fun W hk => by
  obtain ⟨c0, c1, c2, c3, c4, c5, c6, c7, c8, c9, c10⟩ := hR1.kept (W' := W) (by omega) hk
  exact ⟨by simpa using c0, by simpa using c1, by simpa using c2, by simpa using c3, by simpa using c4, by simpa using c5, by simpa using c6, by simpa using c7, by simpa using c8, by simpa using c9, by simpa using c10,
   (Below.cell hk hltX).trans hQ.1, (Below.cell hk hltX).trans hQ.2.1, (Below.cell hk hltX).trans hQ.2.2⟩)
 have hEX := hE.kept hkX
 clear hR1 hQ hltX hs1
 have CR := fun W (hW : Keep X W) => right_any _ r.when_ RA OA rc oc W (Nat.le_refl _) hfit (hEX.kept hW)
 have C1 := fun W => num_any r.num W
 have C2 := fun W => num_any r.per W
 have C3 := fun W => num_any r.burst W
 have HR := Lib.hid (show ruleR r = (right r.when_ && (numR r.num && (numR r.per && (numR r.burst && (!(r.per == 0) || (r.num == 0 && r.burst == 0)))))) from rfl)
 clear hEX hE hfit
 cases g0 : right r.when_
 ·have HS := Lib.hid (show ruleR r = false by rw [HR.out, g0, Bool.false_and])
  rw [g0] at CR
  replace CR := Lib.hid CR
  clear g0 HR C1 C2 C3
  go_enter Tryz.func67, Tryz.ntmps67
  go_wp2_with fail
  rw [<- hX]
  clear hX
  refine (CR.out _ (Keep.refl X)).mono ?_
  rintro e w1 ⟨rfl, k1⟩
  go_wp2
  go_ret
  exact ⟨ret_bool HS.out.symm, hkX.trans k1⟩
 rw [g0] at CR
 replace CR := Lib.hid CR
 cases g1 : numR r.num
 ·have HS := Lib.hid (show ruleR r = false by rw [HR.out, g0, g1, Bool.false_and, Bool.and_false])
  rw [g1] at C1
  replace C1 := Lib.hid C1
  clear g0 g1 HR C2 C3
  go_enter Tryz.func67, Tryz.ntmps67
  go_wp2_with fail
  rw [<- hX]
  clear hX
  refine (CR.out _ (Keep.refl X)).mono ?_
  rintro e w1 ⟨rfl, k1⟩
  obtain ⟨b0, b1, b2, b3, b4, b5, b6, b7, b8, b9, b10, b11, b12, b13⟩ := HB.out _ k1
  go_wp2_with fail
  refine (C1.out _).mono ?_
  rintro e _ ⟨rfl, rfl⟩
  go_wp2
  go_ret
  exact ⟨ret_bool HS.out.symm, hkX.trans k1⟩
 rw [g1] at C1
 replace C1 := Lib.hid C1
 cases g2 : numR r.per
 ·have HS := Lib.hid (show ruleR r = false by rw [HR.out, g0, g1, g2, Bool.false_and, Bool.and_false, Bool.and_false])
  rw [g2] at C2
  replace C2 := Lib.hid C2
  clear g0 g1 g2 HR C3
  go_enter Tryz.func67, Tryz.ntmps67
  go_wp2_with fail
  rw [<- hX]
  clear hX
  refine (CR.out _ (Keep.refl X)).mono ?_
  rintro e w1 ⟨rfl, k1⟩
  obtain ⟨b0, b1, b2, b3, b4, b5, b6, b7, b8, b9, b10, b11, b12, b13⟩ := HB.out _ k1
  go_wp2_with fail
  refine (C1.out _).mono ?_
  rintro e _ ⟨rfl, rfl⟩
  go_wp2_with fail
  refine (C2.out _).mono ?_
  rintro e _ ⟨rfl, rfl⟩
  go_wp2
  go_ret
  exact ⟨ret_bool HS.out.symm, hkX.trans k1⟩
 rw [g2] at C2
 replace C2 := Lib.hid C2
 cases g3 : numR r.burst
 ·have HS := Lib.hid (show ruleR r = false by rw [HR.out, g0, g1, g2, g3, Bool.false_and, Bool.and_false, Bool.and_false, Bool.and_false])
  rw [g3] at C3
  replace C3 := Lib.hid C3
  clear g0 g1 g2 g3 HR
  go_enter Tryz.func67, Tryz.ntmps67
  go_wp2_with fail
  rw [<- hX]
  clear hX
  refine (CR.out _ (Keep.refl X)).mono ?_
  rintro e w1 ⟨rfl, k1⟩
  obtain ⟨b0, b1, b2, b3, b4, b5, b6, b7, b8, b9, b10, b11, b12, b13⟩ := HB.out _ k1
  go_wp2_with fail
  refine (C1.out _).mono ?_
  rintro e _ ⟨rfl, rfl⟩
  go_wp2_with fail
  refine (C2.out _).mono ?_
  rintro e _ ⟨rfl, rfl⟩
  go_wp2_with fail
  refine (C3.out _).mono ?_
  rintro e _ ⟨rfl, rfl⟩
  go_wp2
  go_ret
  exact ⟨ret_bool HS.out.symm, hkX.trans k1⟩
 rw [g3] at C3
 replace C3 := Lib.hid C3
 replace HR := Lib.hid (show ruleR r = (!(r.per == 0) || (r.num == 0 && r.burst == 0)) by rw [HR.out, g0, g1, g2, g3, Bool.true_and, Bool.true_and, Bool.true_and, Bool.true_and])
 clear g0 g1 g2 g3
 cases g4 : (r.per == 0)
 ·have HS := Lib.hid (show ruleR r = true by rw [HR.out, g4]; rfl)
  have g4' : (r.per != 0) = true := by rw [bne, g4]; rfl
  clear HR
  go_enter Tryz.func67, Tryz.ntmps67
  go_wp2_with fail
  rw [<- hX]
  clear hX
  refine (CR.out _ (Keep.refl X)).mono ?_
  rintro e w1 ⟨rfl, k1⟩
  obtain ⟨b0, b1, b2, b3, b4, b5, b6, b7, b8, b9, b10, b11, b12, b13⟩ := HB.out _ k1
  go_wp2_with fail
  refine (C1.out _).mono ?_
  rintro e _ ⟨rfl, rfl⟩
  go_wp2_with fail
  refine (C2.out _).mono ?_
  rintro e _ ⟨rfl, rfl⟩
  go_wp2_with fail
  refine (C3.out _).mono ?_
  rintro e _ ⟨rfl, rfl⟩
  go_wp2
  go_ret
  exact ⟨ret_bool HS.out.symm, hkX.trans k1⟩
 ·have he := eqRate r.num r.per r.burst
  have hgd := guardRate
  have HS := Lib.hid (show ruleR r = (r.num == 0 && (r.per == 0 && r.burst == 0)) by rw [HR.out, g4]; rfl)
  have g4' : (r.per != 0) = false := by rw [bne, g4]; rfl
  obtain ⟨qq, hqq⟩ : ∃ q, q = (r.num == 0 && (r.per == 0 && r.burst == 0)) := ⟨_, rfl⟩
  rw [<- hqq] at he HS
  clear HR hqq
  go_enter Tryz.func67, Tryz.ntmps67
  go_wp2_with fail
  rw [<- hX]
  clear hX
  refine (CR.out _ (Keep.refl X)).mono ?_
  rintro e w1 ⟨rfl, k1⟩
  obtain ⟨b0, b1, b2, b3, b4, b5, b6, b7, b8, b9, b10, b11, b12, b13⟩ := HB.out _ k1
  go_wp2_with fail
  refine (C1.out _).mono ?_
  rintro e _ ⟨rfl, rfl⟩
  go_wp2_with fail
  refine (C2.out _).mono ?_
  rintro e _ ⟨rfl, rfl⟩
  go_wp2_with fail
  refine (C3.out _).mono ?_
  rintro e _ ⟨rfl, rfl⟩
  go_wp2
  go_ret
  exact ⟨ret_bool HS.out.symm, hkX.trans k1⟩
end Go.Proofs.YtaciogcpghbhjaaGreat.Tr
namespace Go.Proofs.YtaciogcpghbhjaaGreat.Tr
set_option linter.unusedVariables false
open Go.ChangeShapes Go.WideShapes Go.ChangeAt Go.RowKit
open Go.Proofs.YtaciogcpghbhjaaGreat.Fp (sameB)
open Go.Proofs.YtaciogcpghbhjaaGreat.Re (tOk tL)
theorem ret_sb {a b : ByteArray} {c d : Bool} (h : a = b) (h' : c = d) : Ending.returned (.tuple #[.string a, .bool c]) = Ending.returned (.tuple #[.string b, .bool d]) := by rw [h, h']
theorem textsL_take (l : List RuleP) (j : Nat) (h : j < l.length) : textsL (l.take (j + 1)) = textsL (l.take j) ++ rtxt (l.getD j zeroR) := by
 rw [take_snoc zeroR l j h, textsL, textsL, List.flatMap_append]; simp
theorem texts_len (l : List RuleP) (h : ∀ r ∈ l, (rtxt r).length <= 3000000) : (textsL l).length <= 3000000 * l.length := by
 induction l with
 | nil => exact Nat.le_refl _
 | cons a l ih =>
   have h1 := h a (List.mem_cons_self ..)
   have h2 := ih fun r hr => h r (List.mem_cons_of_mem _ hr)
   rw [textsL, List.flatMap_cons, List.length_append, List.length_cons, show l.flatMap rtxt = textsL l from rfl]; omega
theorem rtxt_len (r : RuleP) : (kind r.when_ ≠ 0 -> (txt r.when_).length <= (rtxt r).length) := by
 intro h
 unfold rtxt
 rw [if_neg h]
 simp only [List.length_append]
 omega
set_option maxHeartbeats 8000000 in
theorem texts_any (A : Option Addr) (c : Nat) (l : List RuleP) (w : World) (hll : l.length <= 300) (hfit : ∀ r ∈ l, fits r.when_) (hlen : ∀ r ∈ l, ruleR r = true -> (rtxt r).length <= 3000000) (hR : Rus w A l) :
  Calls Tryz.prog 47 #[.slice A l.length c] w fun e' w' => e' = .returned (.tuple #[.string (st (text l)), .bool (textOk l)]) ∧ Keep w w' := by
 have hsf := store_float Tryz.prog
 go_enter Tryz.func47, Tryz.ntmps47
 go_wp2
 go_loopw [4, 5, 6, 7] (fun sv iv _ _ wr => ∃ j : Nat, j <= l.length ∧ iv = .int .i64 j ∧ sv = .string (st (textsL (l.take j))) ∧ Hid ((l.take j).all ruleR = true) ∧ Keep w wr) (fun _ iv _ _ _ => l.length - (intOf iv).toNat)
 case atStart => exact ⟨0, Nat.zero_le _, rfl, rfl, rfl, Keep.refl _⟩
 case round =>
  obtain ⟨j, hj, rfl, rfl, hall, hk⟩ := hrel
  by_cases hlt : j < l.length
  ·have hi1 : (j : Int) < l.length := by omega
   have hj0 : (0 : Int) <= j := by omega
   have hRw := hR.kept hk
   obtain ⟨b, off, rfl, hbb⟩ := hRw.addr (by omega)
   obtain ⟨_, RA, OA, rc, oc, hx6, hx⟩ := hRw.elem j hlt
   have hmem := getD_mem zeroR l j hlt
   have hfi := hfit _ hmem
   have hlr := hlen _ hmem
   have hpl := texts_len (l.take j) (fun r hr => hlen r (List.mem_of_mem_take hr) (by have := hall.out; rw [List.all_eq_true] at this; exact this r hr))
   rw [List.length_take, Nat.min_eq_left hj] at hpl
   have HA := Lib.hid (all_snoc ruleR zeroR l j hlt)
   have HNo := Lib.hid (all_no ruleR zeroR l j hlt)
   have HSN := Lib.hid (textsL_take l j hlt)
   clear hmem hRw
   generalize l.getD j zeroR = r at *
   generalize textsL (l.take j) = p at *
   obtain ⟨x0, x1, x2, x3, x4, x5, x6, x7, x8, x9, x10⟩ := hx6
   obtain ⟨Y, hY⟩ : ∃ Y, Y = wr.alloc (.cells #[.bool r.allow, .int .i64 (kind r.when_), .int .i64 (field r.when_), .slice RA (rs r.when_).length rc, .float .f64 (lo r.when_), .float .f64 (hi r.when_), .slice OA (of r.when_).length oc, .int .i64 r.num, .int .i64 r.per, .int .i64 r.burst, .int .i64 r.line] 63) := ⟨_, rfl⟩
   have hltY : wr.heap.size < Y.heap.size := by rw [hY]; simp
   have hkY : Keep wr Y := by rw [hY]; exact (Keep.refl _).alloc _
   have hR1 : RuleAt Y r RA OA rc oc wr.heap.size 0 := by rw [hY]; exact RuleAt.new wr r RA OA rc oc 63
   have HB := Lib.hid (show ∀ W, Keep Y W -> RuleAt W r RA OA rc oc wr.heap.size 0 from fun W hW => hR1.kept hltY hW)
   replace HB := Lib.hid (show ∀ W, Keep Y W -> W.cell? ⟨wr.heap.size, 0, none⟩ = some (.bool r.allow) ∧ W.cell? ⟨wr.heap.size, 1, none⟩ = some (.int .i64 (kind r.when_)) ∧ W.cell? ⟨wr.heap.size, 2, none⟩ = some (.int .i64 (field r.when_)) ∧
 W.cell? ⟨wr.heap.size, 3, none⟩ = some (.slice RA (rs r.when_).length rc) ∧ W.cell? ⟨wr.heap.size, 4, none⟩ = some (.float .f64 (lo r.when_)) ∧ W.cell? ⟨wr.heap.size, 5, none⟩ = some (.float .f64 (hi r.when_)) ∧
 W.cell? ⟨wr.heap.size, 6, none⟩ = some (.slice OA (of r.when_).length oc) ∧ W.cell? ⟨wr.heap.size, 7, none⟩ = some (.int .i64 r.num) ∧ W.cell? ⟨wr.heap.size, 8, none⟩ = some (.int .i64 r.per) ∧
 W.cell? ⟨wr.heap.size, 9, none⟩ = some (.int .i64 r.burst) ∧ W.cell? ⟨wr.heap.size, 10, none⟩ = some (.int .i64 r.line) from fun W hW => by simpa [RuleAt] using HB.out W hW)
   have hXY := hx.kept hkY
   have CRU := fun W (hW : Keep Y W) => rule_any r RA OA rc oc W hfi (hXY.kept hW)
   cases hru : ruleR r
   ·have HNF := Lib.hid (show textOk l = false from HNo.out hru)
    rw [hru] at CRU
    replace CRU := Lib.hid CRU
    clear HA HNo HSN hlr hfi hx hXY hR1 hru hpl
    go_wp2_with fail
    rw [<- hY]
    clear hY
    refine (CRU.out _ (Keep.refl Y)).mono ?_
    rintro e w1 ⟨rfl, k1⟩
    go_wp2
    go_ret2
    exact ⟨ret_sb (by rw [text, HNF.out]; rfl) HNF.out.symm, hk.trans (hkY.trans k1)⟩
   ·have hrr : right r.when_ = true := by
     have h9 := hru
     unfold ruleR at h9
     rw [Bool.and_eq_true] at h9
     exact h9.1
    replace hlr := hlr hru
    have HTL := Lib.hid (show kind r.when_ ≠ 0 -> (txt r.when_).length <= 3000000 from fun h => Nat.le_trans (rtxt_len r h) hlr)
    have HAL := Lib.hid (show (l.take (j + 1)).all ruleR = true by rw [HA.out, hall.out, hru]; rfl)
    rw [hru] at CRU
    have HQ := Lib.hid (fun W hW => (HB.out W hW).2.2.2.2.2.2.2)
    have HQ := Lib.hid (show ∀ W, Keep Y W -> W.cell? ⟨wr.heap.size, 7, none⟩ = some (.int .i64 r.num) ∧ W.cell? ⟨wr.heap.size, 8, none⟩ = some (.int .i64 r.per) ∧ W.cell? ⟨wr.heap.size, 9, none⟩ = some (.int .i64 r.burst) from fun W hW => ⟨(HQ.out W hW).1, (HQ.out W hW).2.1, (HQ.out W hW).2.2.1⟩)
    obtain ⟨tx, htx⟩ : ∃ t, t = txt r.when_ := ⟨_, rfl⟩
    obtain ⟨dn, hdn⟩ : ∃ t, t = Gu.put r.num := ⟨_, rfl⟩
    obtain ⟨dp, hdp⟩ : ∃ t, t = Gu.put r.per := ⟨_, rfl⟩
    obtain ⟨db, hdb⟩ : ∃ t, t = Gu.put r.burst := ⟨_, rfl⟩
    have n1 : dn.length <= 16 := by rw [hdn]; exact Gu.put_len _
    have n2 : dp.length <= 16 := by rw [hdp]; exact Gu.put_len _
    have n3 : db.length <= 16 := by rw [hdb]; exact Gu.put_len _
    have D1 := Lib.hid (show ∀ W, Calls Tryz.prog 69 #[.int .i64 r.num] W fun e w' => e = .returned (.string (st dn)) ∧ Keep W w' from fun W => by rw [hdn]; exact digits_any _ W)
    have D2 := Lib.hid (show ∀ W, Calls Tryz.prog 69 #[.int .i64 r.per] W fun e w' => e = .returned (.string (st dp)) ∧ Keep W w' from fun W => by rw [hdp]; exact digits_any _ W)
    have D3 := Lib.hid (show ∀ W, Calls Tryz.prog 69 #[.int .i64 r.burst] W fun e w' => e = .returned (.string (st db)) ∧ Keep W w' from fun W => by rw [hdb]; exact digits_any _ W)
    have CTX0 := Lib.hid (show kind r.when_ ≠ 0 -> ∀ W, Keep Y W -> Calls Tryz.prog 68 #[.agg #[.int .i64 (kind r.when_), .int .i64 (field r.when_), .slice RA (rs r.when_).length rc, .float .f64 (lo r.when_), .float .f64 (hi r.when_), .slice OA (of r.when_).length oc]] W fun e w' => e = .returned (.string (st tx)) ∧ Keep W w' from fun hkk W hW => by
     rw [htx]
     exact text_any _ r.when_ RA OA rc oc W (Nat.le_refl _) hfi hrr (by have := HTL.out hkk; omega) (hXY.kept hW))
    rw [<- htx] at HTL
    clear HA HNo hfi hx hXY hR1 hru hlr hrr
    cases hal : r.allow
    ·rw [hal] at HB CRU hY x0
     by_cases hkk : kind r.when_ = 0
     ·have dk : (kind r.when_ != 0) = false := by simpa using hkk
      by_cases hpp : r.per = 0
      ·have dp' : (r.per != 0) = false := by simpa using hpp
       have HJ := Lib.hid (show rtxt r = wDeny ++ ([] ++ ([] ++ [59, 10])) by
        unfold rtxt
        rw [hal, if_pos hkk, if_pos hpp]
        rfl)
       obtain ⟨S, hS⟩ : ∃ s, s = wDeny := ⟨_, rfl⟩
       have lS : S.length <= 5 := by rw [hS]; decide
       have HSt := Lib.hid (show (⟨#[100, 101, 110, 121]⟩ : ByteArray) = st S by rw [hS]; rfl)
       obtain ⟨v1, hv1⟩ : ∃ s, s = p ++ S := ⟨_, rfl⟩
       have av1 : ∀ W : World, (Op.stringOp .add (st p) ⟨#[100, 101, 110, 121]⟩).run Tryz.prog W = .ok (.string (st v1)) W := by rw [hv1]; rw [HSt.out]; exact add_st p S (by omega)
       have lv1 : v1.length <= p.length + S.length := by rw [hv1, List.length_append]; omega
       obtain ⟨v2, hv2⟩ : ∃ s, s = v1 ++ [59, 10] := ⟨_, rfl⟩
       have av2 : ∀ W : World, (Op.stringOp .add (st v1) ⟨#[59, 10]⟩).run Tryz.prog W = .ok (.string (st v2)) W := by rw [hv2]; exact add_st v1 [59, 10] (by simp; omega)
       have HF := Lib.hid (show textsL (l.take (j + 1)) = v2 by rw [HSN.out, HJ.out, hv2, hv1, hS]; simp)
       clear HJ HSN hv2 hv1 hS lS lv1 HSt hkk hpp htx hdn hdp hdb hal n1 n2 n3 hpl
       go_wp2_with fail
       rw [<- hY]
       clear hY
       refine (CRU _ (Keep.refl Y)).mono ?_
       rintro e w1 ⟨rfl, k1⟩
       obtain ⟨b0, b1, b2, b3, b4, b5, b6, b7, b8, b9, b10⟩ := HB.out _ k1
       go_wp2
       refine ⟨⟨j + 1, by omega, by go_num, by rw [HF.out], HAL, hk.trans (hkY.trans k1)⟩, by simp [intOf]; omega⟩
      ·have dp' : (r.per != 0) = true := by simpa using hpp
       have HJ := Lib.hid (show rtxt r = wDeny ++ ([] ++ ((wRate ++ (dn ++ (wPer ++ (dp ++ (wBurst ++ db))))) ++ [59, 10])) by
        unfold rtxt
        rw [hal, if_pos hkk, if_neg hpp, hdn, hdp, hdb]
        rfl)
       obtain ⟨S, hS⟩ : ∃ s, s = wDeny := ⟨_, rfl⟩
       have lS : S.length <= 5 := by rw [hS]; decide
       have HSt := Lib.hid (show (⟨#[100, 101, 110, 121]⟩ : ByteArray) = st S by rw [hS]; rfl)
       obtain ⟨v1, hv1⟩ : ∃ s, s = S ++ wRate := ⟨_, rfl⟩
       have av1 : ∀ W : World, (Op.stringOp .add ⟨#[100, 101, 110, 121]⟩ ⟨#[32, 114, 97, 116, 101, 32]⟩).run Tryz.prog W = .ok (.string (st v1)) W := by rw [hv1]; rw [HSt.out]; exact add_st S wRate (by have hb9 : wRate.length <= 10 := (by decide); omega)
       have lv1 : v1.length <= S.length + 10 := by rw [hv1, List.length_append]; have hb9 : wRate.length <= 10 := (by decide); omega
       obtain ⟨v2, hv2⟩ : ∃ s, s = v1 ++ dn := ⟨_, rfl⟩
       have av2 : ∀ W : World, (Op.stringOp .add (st v1) (st dn)).run Tryz.prog W = .ok (.string (st v2)) W := by rw [hv2]; exact add_st v1 dn (by omega)
       have lv2 : v2.length <= v1.length + 16 := by rw [hv2, List.length_append]; omega
       obtain ⟨v3, hv3⟩ : ∃ s, s = v2 ++ wPer := ⟨_, rfl⟩
       have av3 : ∀ W : World, (Op.stringOp .add (st v2) ⟨#[32, 112, 101, 114, 32]⟩).run Tryz.prog W = .ok (.string (st v3)) W := by rw [hv3]; exact add_st v2 wPer (by have hb9 : wPer.length <= 10 := (by decide); omega)
       have lv3 : v3.length <= v2.length + 10 := by rw [hv3, List.length_append]; have hb9 : wPer.length <= 10 := (by decide); omega
       obtain ⟨v4, hv4⟩ : ∃ s, s = v3 ++ dp := ⟨_, rfl⟩
       have av4 : ∀ W : World, (Op.stringOp .add (st v3) (st dp)).run Tryz.prog W = .ok (.string (st v4)) W := by rw [hv4]; exact add_st v3 dp (by omega)
       have lv4 : v4.length <= v3.length + 16 := by rw [hv4, List.length_append]; omega
       obtain ⟨v5, hv5⟩ : ∃ s, s = v4 ++ wBurst := ⟨_, rfl⟩
       have av5 : ∀ W : World, (Op.stringOp .add (st v4) ⟨#[32, 98, 117, 114, 115, 116, 32]⟩).run Tryz.prog W = .ok (.string (st v5)) W := by rw [hv5]; exact add_st v4 wBurst (by have hb9 : wBurst.length <= 10 := (by decide); omega)
       have lv5 : v5.length <= v4.length + 10 := by rw [hv5, List.length_append]; have hb9 : wBurst.length <= 10 := (by decide); omega
       obtain ⟨v6, hv6⟩ : ∃ s, s = v5 ++ db := ⟨_, rfl⟩
       have av6 : ∀ W : World, (Op.stringOp .add (st v5) (st db)).run Tryz.prog W = .ok (.string (st v6)) W := by rw [hv6]; exact add_st v5 db (by omega)
       have lv6 : v6.length <= v5.length + 16 := by rw [hv6, List.length_append]; omega
       obtain ⟨v7, hv7⟩ : ∃ s, s = p ++ v6 := ⟨_, rfl⟩
       have av7 : ∀ W : World, (Op.stringOp .add (st p) (st v6)).run Tryz.prog W = .ok (.string (st v7)) W := by rw [hv7]; exact add_st p v6 (by omega)
       have lv7 : v7.length <= p.length + v6.length := by rw [hv7, List.length_append]; omega
       obtain ⟨v8, hv8⟩ : ∃ s, s = v7 ++ [59, 10] := ⟨_, rfl⟩
       have av8 : ∀ W : World, (Op.stringOp .add (st v7) ⟨#[59, 10]⟩).run Tryz.prog W = .ok (.string (st v8)) W := by rw [hv8]; exact add_st v7 [59, 10] (by simp; omega)
       have HF := Lib.hid (show textsL (l.take (j + 1)) = v8 by rw [HSN.out, HJ.out, hv8, hv7, hv6, hv5, hv4, hv3, hv2, hv1, hS]; simp)
       clear HJ HSN hv8 hv7 hv6 hv5 hv4 hv3 hv2 hv1 hS lS lv1 lv2 lv3 lv4 lv5 lv6 lv7 HSt hkk hpp htx hdn hdp hdb hal n1 n2 n3 hpl
       go_wp2_with fail
       rw [<- hY]
       clear hY
       refine (CRU _ (Keep.refl Y)).mono ?_
       rintro e w1 ⟨rfl, k1⟩
       obtain ⟨b0, b1, b2, b3, b4, b5, b6, b7, b8, b9, b10⟩ := HB.out _ k1
       go_wp2
       have q7 := fun p : KeptOf w1 => (HQ.out _ (k1.trans p.h)).1
       have q8 := fun p : KeptOf w1 => (HQ.out _ (k1.trans p.h)).2.1
       have q9 := fun p : KeptOf w1 => (HQ.out _ (k1.trans p.h)).2.2
       have e1 : ∀ p : KeptOf w1, Calls Tryz.prog 69 #[.int .i64 r.num] p.w fun e w' => e = .returned (.string (st dn)) ∧ Keep p.w w' := fun p => D1.out p.w
       have e2 : ∀ p : KeptOf w1, Calls Tryz.prog 69 #[.int .i64 r.per] p.w fun e w' => e = .returned (.string (st dp)) ∧ Keep p.w w' := fun p => D2.out p.w
       have e3 : ∀ p : KeptOf w1, Calls Tryz.prog 69 #[.int .i64 r.burst] p.w fun e w' => e = .returned (.string (st db)) ∧ Keep p.w w' := fun p => D3.out p.w
       clear b0 b1 b2 b3 b4 b5 b6 b7 b8 b9 b10
       refine wp_region_kept (by kernel_rfl) (by kernel_rfl) ?_
       repeat (go_big_quiet_step (first | with_reducible exact KeptOf.of (e1 _) | with_reducible exact KeptOf.of (e2 _) | with_reducible exact KeptOf.of (e3 _)))
       refine Go.wpQuiet_nil ?_
       intro _ hw'
       obtain ⟨⟨V, hw⟩, hw''⟩ := hw'
       subst hw''
       replace k1 := k1.trans hw
       go_wp2
       refine ⟨⟨j + 1, by omega, by go_num, by rw [HF.out], HAL, hk.trans (hkY.trans k1)⟩, by simp [intOf]; omega⟩
     ·have dk : (kind r.when_ != 0) = true := by simpa using hkk
      have htl := HTL.out hkk
      have CTX := Lib.hid (CTX0.out hkk)
      by_cases hpp : r.per = 0
      ·have dp' : (r.per != 0) = false := by simpa using hpp
       have HJ := Lib.hid (show rtxt r = wDeny ++ ((wWhen ++ tx) ++ ([] ++ [59, 10])) by
        unfold rtxt
        rw [hal, if_neg hkk, htx, if_pos hpp]
        rfl)
       obtain ⟨S, hS⟩ : ∃ s, s = wDeny := ⟨_, rfl⟩
       have lS : S.length <= 5 := by rw [hS]; decide
       have HSt := Lib.hid (show (⟨#[100, 101, 110, 121]⟩ : ByteArray) = st S by rw [hS]; rfl)
       obtain ⟨v1, hv1⟩ : ∃ s, s = S ++ wWhen := ⟨_, rfl⟩
       have av1 : ∀ W : World, (Op.stringOp .add ⟨#[100, 101, 110, 121]⟩ ⟨#[32, 119, 104, 101, 110, 32]⟩).run Tryz.prog W = .ok (.string (st v1)) W := by rw [hv1]; rw [HSt.out]; exact add_st S wWhen (by have hb9 : wWhen.length <= 10 := (by decide); omega)
       have lv1 : v1.length <= S.length + 10 := by rw [hv1, List.length_append]; have hb9 : wWhen.length <= 10 := (by decide); omega
       obtain ⟨v2, hv2⟩ : ∃ s, s = v1 ++ tx := ⟨_, rfl⟩
       have av2 : ∀ W : World, (Op.stringOp .add (st v1) (st tx)).run Tryz.prog W = .ok (.string (st v2)) W := by rw [hv2]; exact add_st v1 tx (by omega)
       have lv2 : v2.length <= v1.length + 3000000 := by rw [hv2, List.length_append]; omega
       obtain ⟨v3, hv3⟩ : ∃ s, s = p ++ v2 := ⟨_, rfl⟩
       have av3 : ∀ W : World, (Op.stringOp .add (st p) (st v2)).run Tryz.prog W = .ok (.string (st v3)) W := by rw [hv3]; exact add_st p v2 (by omega)
       have lv3 : v3.length <= p.length + v2.length := by rw [hv3, List.length_append]; omega
       obtain ⟨v4, hv4⟩ : ∃ s, s = v3 ++ [59, 10] := ⟨_, rfl⟩
       have av4 : ∀ W : World, (Op.stringOp .add (st v3) ⟨#[59, 10]⟩).run Tryz.prog W = .ok (.string (st v4)) W := by rw [hv4]; exact add_st v3 [59, 10] (by simp; omega)
       have HF := Lib.hid (show textsL (l.take (j + 1)) = v4 by rw [HSN.out, HJ.out, hv4, hv3, hv2, hv1, hS]; simp)
       clear HJ HSN hv4 hv3 hv2 hv1 hS lS lv1 lv2 lv3 HSt hkk hpp htx hdn hdp hdb hal n1 n2 n3 hpl
       go_wp2_with fail
       rw [<- hY]
       clear hY
       refine (CRU _ (Keep.refl Y)).mono ?_
       rintro e w1 ⟨rfl, k1⟩
       obtain ⟨b0, b1, b2, b3, b4, b5, b6, b7, b8, b9, b10⟩ := HB.out _ k1
       go_wp2_with fail
       refine (CTX.out _ k1).mono ?_
       rintro e w2 ⟨rfl, k2⟩
       replace k1 := k1.trans k2
       clear b0 b1 b2 b3 b4 b5 b6 b7 b8 b9 b10
       obtain ⟨b0, b1, b2, b3, b4, b5, b6, b7, b8, b9, b10⟩ := HB.out _ k1
       go_wp2
       refine ⟨⟨j + 1, by omega, by go_num, by rw [HF.out], HAL, hk.trans (hkY.trans k1)⟩, by simp [intOf]; omega⟩
      ·have dp' : (r.per != 0) = true := by simpa using hpp
       have HJ := Lib.hid (show rtxt r = wDeny ++ ((wWhen ++ tx) ++ ((wRate ++ (dn ++ (wPer ++ (dp ++ (wBurst ++ db))))) ++ [59, 10])) by
        unfold rtxt
        rw [hal, if_neg hkk, htx, if_neg hpp, hdn, hdp, hdb]
        rfl)
       obtain ⟨S, hS⟩ : ∃ s, s = wDeny := ⟨_, rfl⟩
       have lS : S.length <= 5 := by rw [hS]; decide
       have HSt := Lib.hid (show (⟨#[100, 101, 110, 121]⟩ : ByteArray) = st S by rw [hS]; rfl)
       obtain ⟨v1, hv1⟩ : ∃ s, s = S ++ wWhen := ⟨_, rfl⟩
       have av1 : ∀ W : World, (Op.stringOp .add ⟨#[100, 101, 110, 121]⟩ ⟨#[32, 119, 104, 101, 110, 32]⟩).run Tryz.prog W = .ok (.string (st v1)) W := by rw [hv1]; rw [HSt.out]; exact add_st S wWhen (by have hb9 : wWhen.length <= 10 := (by decide); omega)
       have lv1 : v1.length <= S.length + 10 := by rw [hv1, List.length_append]; have hb9 : wWhen.length <= 10 := (by decide); omega
       obtain ⟨v2, hv2⟩ : ∃ s, s = v1 ++ tx := ⟨_, rfl⟩
       have av2 : ∀ W : World, (Op.stringOp .add (st v1) (st tx)).run Tryz.prog W = .ok (.string (st v2)) W := by rw [hv2]; exact add_st v1 tx (by omega)
       have lv2 : v2.length <= v1.length + 3000000 := by rw [hv2, List.length_append]; omega
       obtain ⟨v3, hv3⟩ : ∃ s, s = v2 ++ wRate := ⟨_, rfl⟩
       have av3 : ∀ W : World, (Op.stringOp .add (st v2) ⟨#[32, 114, 97, 116, 101, 32]⟩).run Tryz.prog W = .ok (.string (st v3)) W := by rw [hv3]; exact add_st v2 wRate (by have hb9 : wRate.length <= 10 := (by decide); omega)
       have lv3 : v3.length <= v2.length + 10 := by rw [hv3, List.length_append]; have hb9 : wRate.length <= 10 := (by decide); omega
       obtain ⟨v4, hv4⟩ : ∃ s, s = v3 ++ dn := ⟨_, rfl⟩
       have av4 : ∀ W : World, (Op.stringOp .add (st v3) (st dn)).run Tryz.prog W = .ok (.string (st v4)) W := by rw [hv4]; exact add_st v3 dn (by omega)
       have lv4 : v4.length <= v3.length + 16 := by rw [hv4, List.length_append]; omega
       obtain ⟨v5, hv5⟩ : ∃ s, s = v4 ++ wPer := ⟨_, rfl⟩
       have av5 : ∀ W : World, (Op.stringOp .add (st v4) ⟨#[32, 112, 101, 114, 32]⟩).run Tryz.prog W = .ok (.string (st v5)) W := by rw [hv5]; exact add_st v4 wPer (by have hb9 : wPer.length <= 10 := (by decide); omega)
       have lv5 : v5.length <= v4.length + 10 := by rw [hv5, List.length_append]; have hb9 : wPer.length <= 10 := (by decide); omega
       obtain ⟨v6, hv6⟩ : ∃ s, s = v5 ++ dp := ⟨_, rfl⟩
       have av6 : ∀ W : World, (Op.stringOp .add (st v5) (st dp)).run Tryz.prog W = .ok (.string (st v6)) W := by rw [hv6]; exact add_st v5 dp (by omega)
       have lv6 : v6.length <= v5.length + 16 := by rw [hv6, List.length_append]; omega
       obtain ⟨v7, hv7⟩ : ∃ s, s = v6 ++ wBurst := ⟨_, rfl⟩
       have av7 : ∀ W : World, (Op.stringOp .add (st v6) ⟨#[32, 98, 117, 114, 115, 116, 32]⟩).run Tryz.prog W = .ok (.string (st v7)) W := by rw [hv7]; exact add_st v6 wBurst (by have hb9 : wBurst.length <= 10 := (by decide); omega)
       have lv7 : v7.length <= v6.length + 10 := by rw [hv7, List.length_append]; have hb9 : wBurst.length <= 10 := (by decide); omega
       obtain ⟨v8, hv8⟩ : ∃ s, s = v7 ++ db := ⟨_, rfl⟩
       have av8 : ∀ W : World, (Op.stringOp .add (st v7) (st db)).run Tryz.prog W = .ok (.string (st v8)) W := by rw [hv8]; exact add_st v7 db (by omega)
       have lv8 : v8.length <= v7.length + 16 := by rw [hv8, List.length_append]; omega
       obtain ⟨v9, hv9⟩ : ∃ s, s = p ++ v8 := ⟨_, rfl⟩
       have av9 : ∀ W : World, (Op.stringOp .add (st p) (st v8)).run Tryz.prog W = .ok (.string (st v9)) W := by rw [hv9]; exact add_st p v8 (by omega)
       have lv9 : v9.length <= p.length + v8.length := by rw [hv9, List.length_append]; omega
       obtain ⟨v10, hv10⟩ : ∃ s, s = v9 ++ [59, 10] := ⟨_, rfl⟩
       have av10 : ∀ W : World, (Op.stringOp .add (st v9) ⟨#[59, 10]⟩).run Tryz.prog W = .ok (.string (st v10)) W := by rw [hv10]; exact add_st v9 [59, 10] (by simp; omega)
       have HF := Lib.hid (show textsL (l.take (j + 1)) = v10 by rw [HSN.out, HJ.out, hv10, hv9, hv8, hv7, hv6, hv5, hv4, hv3, hv2, hv1, hS]; simp)
       clear HJ HSN hv10 hv9 hv8 hv7 hv6 hv5 hv4 hv3 hv2 hv1 hS lS lv1 lv2 lv3 lv4 lv5 lv6 lv7 lv8 lv9 HSt hkk hpp htx hdn hdp hdb hal n1 n2 n3 hpl
       go_wp2_with fail
       rw [<- hY]
       clear hY
       refine (CRU _ (Keep.refl Y)).mono ?_
       rintro e w1 ⟨rfl, k1⟩
       obtain ⟨b0, b1, b2, b3, b4, b5, b6, b7, b8, b9, b10⟩ := HB.out _ k1
       go_wp2_with fail
       refine (CTX.out _ k1).mono ?_
       rintro e w2 ⟨rfl, k2⟩
       replace k1 := k1.trans k2
       clear b0 b1 b2 b3 b4 b5 b6 b7 b8 b9 b10
       obtain ⟨b0, b1, b2, b3, b4, b5, b6, b7, b8, b9, b10⟩ := HB.out _ k1
       go_wp2
       have q7 := fun p : KeptOf w2 => (HQ.out _ (k1.trans p.h)).1
       have q8 := fun p : KeptOf w2 => (HQ.out _ (k1.trans p.h)).2.1
       have q9 := fun p : KeptOf w2 => (HQ.out _ (k1.trans p.h)).2.2
       have e1 : ∀ p : KeptOf w2, Calls Tryz.prog 69 #[.int .i64 r.num] p.w fun e w' => e = .returned (.string (st dn)) ∧ Keep p.w w' := fun p => D1.out p.w
       have e2 : ∀ p : KeptOf w2, Calls Tryz.prog 69 #[.int .i64 r.per] p.w fun e w' => e = .returned (.string (st dp)) ∧ Keep p.w w' := fun p => D2.out p.w
       have e3 : ∀ p : KeptOf w2, Calls Tryz.prog 69 #[.int .i64 r.burst] p.w fun e w' => e = .returned (.string (st db)) ∧ Keep p.w w' := fun p => D3.out p.w
       clear b0 b1 b2 b3 b4 b5 b6 b7 b8 b9 b10
       refine wp_region_kept (by kernel_rfl) (by kernel_rfl) ?_
       repeat (go_big_quiet_step (first | with_reducible exact KeptOf.of (e1 _) | with_reducible exact KeptOf.of (e2 _) | with_reducible exact KeptOf.of (e3 _)))
       refine Go.wpQuiet_nil ?_
       intro _ hw'
       obtain ⟨⟨V, hw⟩, hw''⟩ := hw'
       subst hw''
       replace k1 := k1.trans hw
       go_wp2
       refine ⟨⟨j + 1, by omega, by go_num, by rw [HF.out], HAL, hk.trans (hkY.trans k1)⟩, by simp [intOf]; omega⟩
    ·rw [hal] at HB CRU hY x0
     by_cases hkk : kind r.when_ = 0
     ·have dk : (kind r.when_ != 0) = false := by simpa using hkk
      by_cases hpp : r.per = 0
      ·have dp' : (r.per != 0) = false := by simpa using hpp
       have HJ := Lib.hid (show rtxt r = wAllow ++ ([] ++ ([] ++ [59, 10])) by
        unfold rtxt
        rw [hal, if_pos hkk, if_pos hpp]
        rfl)
       obtain ⟨S, hS⟩ : ∃ s, s = wAllow := ⟨_, rfl⟩
       have lS : S.length <= 5 := by rw [hS]; decide
       have HSt := Lib.hid (show (⟨#[97, 108, 108, 111, 119]⟩ : ByteArray) = st S by rw [hS]; rfl)
       obtain ⟨v1, hv1⟩ : ∃ s, s = p ++ S := ⟨_, rfl⟩
       have av1 : ∀ W : World, (Op.stringOp .add (st p) ⟨#[97, 108, 108, 111, 119]⟩).run Tryz.prog W = .ok (.string (st v1)) W := by rw [hv1]; rw [HSt.out]; exact add_st p S (by omega)
       have lv1 : v1.length <= p.length + S.length := by rw [hv1, List.length_append]; omega
       obtain ⟨v2, hv2⟩ : ∃ s, s = v1 ++ [59, 10] := ⟨_, rfl⟩
       have av2 : ∀ W : World, (Op.stringOp .add (st v1) ⟨#[59, 10]⟩).run Tryz.prog W = .ok (.string (st v2)) W := by rw [hv2]; exact add_st v1 [59, 10] (by simp; omega)
       have HF := Lib.hid (show textsL (l.take (j + 1)) = v2 by rw [HSN.out, HJ.out, hv2, hv1, hS]; simp)
       clear HJ HSN hv2 hv1 hS lS lv1 HSt hkk hpp htx hdn hdp hdb hal n1 n2 n3 hpl
       go_wp2_with fail
       rw [<- hY]
       clear hY
       refine (CRU _ (Keep.refl Y)).mono ?_
       rintro e w1 ⟨rfl, k1⟩
       obtain ⟨b0, b1, b2, b3, b4, b5, b6, b7, b8, b9, b10⟩ := HB.out _ k1
       go_wp2
       refine ⟨⟨j + 1, by omega, by go_num, by rw [HF.out], HAL, hk.trans (hkY.trans k1)⟩, by simp [intOf]; omega⟩
      ·have dp' : (r.per != 0) = true := by simpa using hpp
       have HJ := Lib.hid (show rtxt r = wAllow ++ ([] ++ ((wRate ++ (dn ++ (wPer ++ (dp ++ (wBurst ++ db))))) ++ [59, 10])) by
        unfold rtxt
        rw [hal, if_pos hkk, if_neg hpp, hdn, hdp, hdb]
        rfl)
       obtain ⟨S, hS⟩ : ∃ s, s = wAllow := ⟨_, rfl⟩
       have lS : S.length <= 5 := by rw [hS]; decide
       have HSt := Lib.hid (show (⟨#[97, 108, 108, 111, 119]⟩ : ByteArray) = st S by rw [hS]; rfl)
       obtain ⟨v1, hv1⟩ : ∃ s, s = S ++ wRate := ⟨_, rfl⟩
       have av1 : ∀ W : World, (Op.stringOp .add ⟨#[97, 108, 108, 111, 119]⟩ ⟨#[32, 114, 97, 116, 101, 32]⟩).run Tryz.prog W = .ok (.string (st v1)) W := by rw [hv1]; rw [HSt.out]; exact add_st S wRate (by have hb9 : wRate.length <= 10 := (by decide); omega)
       have lv1 : v1.length <= S.length + 10 := by rw [hv1, List.length_append]; have hb9 : wRate.length <= 10 := (by decide); omega
       obtain ⟨v2, hv2⟩ : ∃ s, s = v1 ++ dn := ⟨_, rfl⟩
       have av2 : ∀ W : World, (Op.stringOp .add (st v1) (st dn)).run Tryz.prog W = .ok (.string (st v2)) W := by rw [hv2]; exact add_st v1 dn (by omega)
       have lv2 : v2.length <= v1.length + 16 := by rw [hv2, List.length_append]; omega
       obtain ⟨v3, hv3⟩ : ∃ s, s = v2 ++ wPer := ⟨_, rfl⟩
       have av3 : ∀ W : World, (Op.stringOp .add (st v2) ⟨#[32, 112, 101, 114, 32]⟩).run Tryz.prog W = .ok (.string (st v3)) W := by rw [hv3]; exact add_st v2 wPer (by have hb9 : wPer.length <= 10 := (by decide); omega)
       have lv3 : v3.length <= v2.length + 10 := by rw [hv3, List.length_append]; have hb9 : wPer.length <= 10 := (by decide); omega
       obtain ⟨v4, hv4⟩ : ∃ s, s = v3 ++ dp := ⟨_, rfl⟩
       have av4 : ∀ W : World, (Op.stringOp .add (st v3) (st dp)).run Tryz.prog W = .ok (.string (st v4)) W := by rw [hv4]; exact add_st v3 dp (by omega)
       have lv4 : v4.length <= v3.length + 16 := by rw [hv4, List.length_append]; omega
       obtain ⟨v5, hv5⟩ : ∃ s, s = v4 ++ wBurst := ⟨_, rfl⟩
       have av5 : ∀ W : World, (Op.stringOp .add (st v4) ⟨#[32, 98, 117, 114, 115, 116, 32]⟩).run Tryz.prog W = .ok (.string (st v5)) W := by rw [hv5]; exact add_st v4 wBurst (by have hb9 : wBurst.length <= 10 := (by decide); omega)
       have lv5 : v5.length <= v4.length + 10 := by rw [hv5, List.length_append]; have hb9 : wBurst.length <= 10 := (by decide); omega
       obtain ⟨v6, hv6⟩ : ∃ s, s = v5 ++ db := ⟨_, rfl⟩
       have av6 : ∀ W : World, (Op.stringOp .add (st v5) (st db)).run Tryz.prog W = .ok (.string (st v6)) W := by rw [hv6]; exact add_st v5 db (by omega)
       have lv6 : v6.length <= v5.length + 16 := by rw [hv6, List.length_append]; omega
       obtain ⟨v7, hv7⟩ : ∃ s, s = p ++ v6 := ⟨_, rfl⟩
       have av7 : ∀ W : World, (Op.stringOp .add (st p) (st v6)).run Tryz.prog W = .ok (.string (st v7)) W := by rw [hv7]; exact add_st p v6 (by omega)
       have lv7 : v7.length <= p.length + v6.length := by rw [hv7, List.length_append]; omega
       obtain ⟨v8, hv8⟩ : ∃ s, s = v7 ++ [59, 10] := ⟨_, rfl⟩
       have av8 : ∀ W : World, (Op.stringOp .add (st v7) ⟨#[59, 10]⟩).run Tryz.prog W = .ok (.string (st v8)) W := by rw [hv8]; exact add_st v7 [59, 10] (by simp; omega)
       have HF := Lib.hid (show textsL (l.take (j + 1)) = v8 by rw [HSN.out, HJ.out, hv8, hv7, hv6, hv5, hv4, hv3, hv2, hv1, hS]; simp)
       clear HJ HSN hv8 hv7 hv6 hv5 hv4 hv3 hv2 hv1 hS lS lv1 lv2 lv3 lv4 lv5 lv6 lv7 HSt hkk hpp htx hdn hdp hdb hal n1 n2 n3 hpl
       go_wp2_with fail
       rw [<- hY]
       clear hY
       refine (CRU _ (Keep.refl Y)).mono ?_
       rintro e w1 ⟨rfl, k1⟩
       obtain ⟨b0, b1, b2, b3, b4, b5, b6, b7, b8, b9, b10⟩ := HB.out _ k1
       go_wp2
       have q7 := fun p : KeptOf w1 => (HQ.out _ (k1.trans p.h)).1
       have q8 := fun p : KeptOf w1 => (HQ.out _ (k1.trans p.h)).2.1
       have q9 := fun p : KeptOf w1 => (HQ.out _ (k1.trans p.h)).2.2
       have e1 : ∀ p : KeptOf w1, Calls Tryz.prog 69 #[.int .i64 r.num] p.w fun e w' => e = .returned (.string (st dn)) ∧ Keep p.w w' := fun p => D1.out p.w
       have e2 : ∀ p : KeptOf w1, Calls Tryz.prog 69 #[.int .i64 r.per] p.w fun e w' => e = .returned (.string (st dp)) ∧ Keep p.w w' := fun p => D2.out p.w
       have e3 : ∀ p : KeptOf w1, Calls Tryz.prog 69 #[.int .i64 r.burst] p.w fun e w' => e = .returned (.string (st db)) ∧ Keep p.w w' := fun p => D3.out p.w
       clear b0 b1 b2 b3 b4 b5 b6 b7 b8 b9 b10
       refine wp_region_kept (by kernel_rfl) (by kernel_rfl) ?_
       repeat (go_big_quiet_step (first | with_reducible exact KeptOf.of (e1 _) | with_reducible exact KeptOf.of (e2 _) | with_reducible exact KeptOf.of (e3 _)))
       refine Go.wpQuiet_nil ?_
       intro _ hw'
       obtain ⟨⟨V, hw⟩, hw''⟩ := hw'
       subst hw''
       replace k1 := k1.trans hw
       go_wp2
       refine ⟨⟨j + 1, by omega, by go_num, by rw [HF.out], HAL, hk.trans (hkY.trans k1)⟩, by simp [intOf]; omega⟩
     ·have dk : (kind r.when_ != 0) = true := by simpa using hkk
      have htl := HTL.out hkk
      have CTX := Lib.hid (CTX0.out hkk)
      by_cases hpp : r.per = 0
      ·have dp' : (r.per != 0) = false := by simpa using hpp
       have HJ := Lib.hid (show rtxt r = wAllow ++ ((wWhen ++ tx) ++ ([] ++ [59, 10])) by
        unfold rtxt
        rw [hal, if_neg hkk, htx, if_pos hpp]
        rfl)
       obtain ⟨S, hS⟩ : ∃ s, s = wAllow := ⟨_, rfl⟩
       have lS : S.length <= 5 := by rw [hS]; decide
       have HSt := Lib.hid (show (⟨#[97, 108, 108, 111, 119]⟩ : ByteArray) = st S by rw [hS]; rfl)
       obtain ⟨v1, hv1⟩ : ∃ s, s = S ++ wWhen := ⟨_, rfl⟩
       have av1 : ∀ W : World, (Op.stringOp .add ⟨#[97, 108, 108, 111, 119]⟩ ⟨#[32, 119, 104, 101, 110, 32]⟩).run Tryz.prog W = .ok (.string (st v1)) W := by rw [hv1]; rw [HSt.out]; exact add_st S wWhen (by have hb9 : wWhen.length <= 10 := (by decide); omega)
       have lv1 : v1.length <= S.length + 10 := by rw [hv1, List.length_append]; have hb9 : wWhen.length <= 10 := (by decide); omega
       obtain ⟨v2, hv2⟩ : ∃ s, s = v1 ++ tx := ⟨_, rfl⟩
       have av2 : ∀ W : World, (Op.stringOp .add (st v1) (st tx)).run Tryz.prog W = .ok (.string (st v2)) W := by rw [hv2]; exact add_st v1 tx (by omega)
       have lv2 : v2.length <= v1.length + 3000000 := by rw [hv2, List.length_append]; omega
       obtain ⟨v3, hv3⟩ : ∃ s, s = p ++ v2 := ⟨_, rfl⟩
       have av3 : ∀ W : World, (Op.stringOp .add (st p) (st v2)).run Tryz.prog W = .ok (.string (st v3)) W := by rw [hv3]; exact add_st p v2 (by omega)
       have lv3 : v3.length <= p.length + v2.length := by rw [hv3, List.length_append]; omega
       obtain ⟨v4, hv4⟩ : ∃ s, s = v3 ++ [59, 10] := ⟨_, rfl⟩
       have av4 : ∀ W : World, (Op.stringOp .add (st v3) ⟨#[59, 10]⟩).run Tryz.prog W = .ok (.string (st v4)) W := by rw [hv4]; exact add_st v3 [59, 10] (by simp; omega)
       have HF := Lib.hid (show textsL (l.take (j + 1)) = v4 by rw [HSN.out, HJ.out, hv4, hv3, hv2, hv1, hS]; simp)
       clear HJ HSN hv4 hv3 hv2 hv1 hS lS lv1 lv2 lv3 HSt hkk hpp htx hdn hdp hdb hal n1 n2 n3 hpl
       go_wp2_with fail
       rw [<- hY]
       clear hY
       refine (CRU _ (Keep.refl Y)).mono ?_
       rintro e w1 ⟨rfl, k1⟩
       obtain ⟨b0, b1, b2, b3, b4, b5, b6, b7, b8, b9, b10⟩ := HB.out _ k1
       go_wp2_with fail
       refine (CTX.out _ k1).mono ?_
       rintro e w2 ⟨rfl, k2⟩
       replace k1 := k1.trans k2
       clear b0 b1 b2 b3 b4 b5 b6 b7 b8 b9 b10
       obtain ⟨b0, b1, b2, b3, b4, b5, b6, b7, b8, b9, b10⟩ := HB.out _ k1
       go_wp2
       refine ⟨⟨j + 1, by omega, by go_num, by rw [HF.out], HAL, hk.trans (hkY.trans k1)⟩, by simp [intOf]; omega⟩
      ·have dp' : (r.per != 0) = true := by simpa using hpp
       have HJ := Lib.hid (show rtxt r = wAllow ++ ((wWhen ++ tx) ++ ((wRate ++ (dn ++ (wPer ++ (dp ++ (wBurst ++ db))))) ++ [59, 10])) by
        unfold rtxt
        rw [hal, if_neg hkk, htx, if_neg hpp, hdn, hdp, hdb]
        rfl)
       obtain ⟨S, hS⟩ : ∃ s, s = wAllow := ⟨_, rfl⟩
       have lS : S.length <= 5 := by rw [hS]; decide
       have HSt := Lib.hid (show (⟨#[97, 108, 108, 111, 119]⟩ : ByteArray) = st S by rw [hS]; rfl)
       obtain ⟨v1, hv1⟩ : ∃ s, s = S ++ wWhen := ⟨_, rfl⟩
       have av1 : ∀ W : World, (Op.stringOp .add ⟨#[97, 108, 108, 111, 119]⟩ ⟨#[32, 119, 104, 101, 110, 32]⟩).run Tryz.prog W = .ok (.string (st v1)) W := by rw [hv1]; rw [HSt.out]; exact add_st S wWhen (by have hb9 : wWhen.length <= 10 := (by decide); omega)
       have lv1 : v1.length <= S.length + 10 := by rw [hv1, List.length_append]; have hb9 : wWhen.length <= 10 := (by decide); omega
       obtain ⟨v2, hv2⟩ : ∃ s, s = v1 ++ tx := ⟨_, rfl⟩
       have av2 : ∀ W : World, (Op.stringOp .add (st v1) (st tx)).run Tryz.prog W = .ok (.string (st v2)) W := by rw [hv2]; exact add_st v1 tx (by omega)
       have lv2 : v2.length <= v1.length + 3000000 := by rw [hv2, List.length_append]; omega
       obtain ⟨v3, hv3⟩ : ∃ s, s = v2 ++ wRate := ⟨_, rfl⟩
       have av3 : ∀ W : World, (Op.stringOp .add (st v2) ⟨#[32, 114, 97, 116, 101, 32]⟩).run Tryz.prog W = .ok (.string (st v3)) W := by rw [hv3]; exact add_st v2 wRate (by have hb9 : wRate.length <= 10 := (by decide); omega)
       have lv3 : v3.length <= v2.length + 10 := by rw [hv3, List.length_append]; have hb9 : wRate.length <= 10 := (by decide); omega
       obtain ⟨v4, hv4⟩ : ∃ s, s = v3 ++ dn := ⟨_, rfl⟩
       have av4 : ∀ W : World, (Op.stringOp .add (st v3) (st dn)).run Tryz.prog W = .ok (.string (st v4)) W := by rw [hv4]; exact add_st v3 dn (by omega)
       have lv4 : v4.length <= v3.length + 16 := by rw [hv4, List.length_append]; omega
       obtain ⟨v5, hv5⟩ : ∃ s, s = v4 ++ wPer := ⟨_, rfl⟩
       have av5 : ∀ W : World, (Op.stringOp .add (st v4) ⟨#[32, 112, 101, 114, 32]⟩).run Tryz.prog W = .ok (.string (st v5)) W := by rw [hv5]; exact add_st v4 wPer (by have hb9 : wPer.length <= 10 := (by decide); omega)
       have lv5 : v5.length <= v4.length + 10 := by rw [hv5, List.length_append]; have hb9 : wPer.length <= 10 := (by decide); omega
       obtain ⟨v6, hv6⟩ : ∃ s, s = v5 ++ dp := ⟨_, rfl⟩
       have av6 : ∀ W : World, (Op.stringOp .add (st v5) (st dp)).run Tryz.prog W = .ok (.string (st v6)) W := by rw [hv6]; exact add_st v5 dp (by omega)
       have lv6 : v6.length <= v5.length + 16 := by rw [hv6, List.length_append]; omega
       obtain ⟨v7, hv7⟩ : ∃ s, s = v6 ++ wBurst := ⟨_, rfl⟩
       have av7 : ∀ W : World, (Op.stringOp .add (st v6) ⟨#[32, 98, 117, 114, 115, 116, 32]⟩).run Tryz.prog W = .ok (.string (st v7)) W := by rw [hv7]; exact add_st v6 wBurst (by have hb9 : wBurst.length <= 10 := (by decide); omega)
       have lv7 : v7.length <= v6.length + 10 := by rw [hv7, List.length_append]; have hb9 : wBurst.length <= 10 := (by decide); omega
       obtain ⟨v8, hv8⟩ : ∃ s, s = v7 ++ db := ⟨_, rfl⟩
       have av8 : ∀ W : World, (Op.stringOp .add (st v7) (st db)).run Tryz.prog W = .ok (.string (st v8)) W := by rw [hv8]; exact add_st v7 db (by omega)
       have lv8 : v8.length <= v7.length + 16 := by rw [hv8, List.length_append]; omega
       obtain ⟨v9, hv9⟩ : ∃ s, s = p ++ v8 := ⟨_, rfl⟩
       have av9 : ∀ W : World, (Op.stringOp .add (st p) (st v8)).run Tryz.prog W = .ok (.string (st v9)) W := by rw [hv9]; exact add_st p v8 (by omega)
       have lv9 : v9.length <= p.length + v8.length := by rw [hv9, List.length_append]; omega
       obtain ⟨v10, hv10⟩ : ∃ s, s = v9 ++ [59, 10] := ⟨_, rfl⟩
       have av10 : ∀ W : World, (Op.stringOp .add (st v9) ⟨#[59, 10]⟩).run Tryz.prog W = .ok (.string (st v10)) W := by rw [hv10]; exact add_st v9 [59, 10] (by simp; omega)
       have HF := Lib.hid (show textsL (l.take (j + 1)) = v10 by rw [HSN.out, HJ.out, hv10, hv9, hv8, hv7, hv6, hv5, hv4, hv3, hv2, hv1, hS]; simp)
       clear HJ HSN hv10 hv9 hv8 hv7 hv6 hv5 hv4 hv3 hv2 hv1 hS lS lv1 lv2 lv3 lv4 lv5 lv6 lv7 lv8 lv9 HSt hkk hpp htx hdn hdp hdb hal n1 n2 n3 hpl
       go_wp2_with fail
       rw [<- hY]
       clear hY
       refine (CRU _ (Keep.refl Y)).mono ?_
       rintro e w1 ⟨rfl, k1⟩
       obtain ⟨b0, b1, b2, b3, b4, b5, b6, b7, b8, b9, b10⟩ := HB.out _ k1
       go_wp2_with fail
       refine (CTX.out _ k1).mono ?_
       rintro e w2 ⟨rfl, k2⟩
       replace k1 := k1.trans k2
       clear b0 b1 b2 b3 b4 b5 b6 b7 b8 b9 b10
       obtain ⟨b0, b1, b2, b3, b4, b5, b6, b7, b8, b9, b10⟩ := HB.out _ k1
       go_wp2
       have q7 := fun p : KeptOf w2 => (HQ.out _ (k1.trans p.h)).1
       have q8 := fun p : KeptOf w2 => (HQ.out _ (k1.trans p.h)).2.1
       have q9 := fun p : KeptOf w2 => (HQ.out _ (k1.trans p.h)).2.2
       have e1 : ∀ p : KeptOf w2, Calls Tryz.prog 69 #[.int .i64 r.num] p.w fun e w' => e = .returned (.string (st dn)) ∧ Keep p.w w' := fun p => D1.out p.w
       have e2 : ∀ p : KeptOf w2, Calls Tryz.prog 69 #[.int .i64 r.per] p.w fun e w' => e = .returned (.string (st dp)) ∧ Keep p.w w' := fun p => D2.out p.w
       have e3 : ∀ p : KeptOf w2, Calls Tryz.prog 69 #[.int .i64 r.burst] p.w fun e w' => e = .returned (.string (st db)) ∧ Keep p.w w' := fun p => D3.out p.w
       clear b0 b1 b2 b3 b4 b5 b6 b7 b8 b9 b10
       refine wp_region_kept (by kernel_rfl) (by kernel_rfl) ?_
       repeat (go_big_quiet_step (first | with_reducible exact KeptOf.of (e1 _) | with_reducible exact KeptOf.of (e2 _) | with_reducible exact KeptOf.of (e3 _)))
       refine Go.wpQuiet_nil ?_
       intro _ hw'
       obtain ⟨⟨V, hw⟩, hw''⟩ := hw'
       subst hw''
       replace k1 := k1.trans hw
       go_wp2
       refine ⟨⟨j + 1, by omega, by go_num, by rw [HF.out], HAL, hk.trans (hkY.trans k1)⟩, by simp [intOf]; omega⟩
  ·obtain rfl : j = l.length := by omega
   have HF := Lib.hid (show textOk l = true by have := hall.out; rwa [List.take_length] at this)
   rw [List.take_length]
   go_wp2
   go_ret2
   exact ⟨ret_sb (by rw [text, HF.out]; rfl) HF.out.symm, hk⟩
end Go.Proofs.YtaciogcpghbhjaaGreat.Tr
namespace Go.Proofs.YtaciogcpghbhjaaGreat.Tr
set_option linter.unusedVariables false
open Go.ChangeShapes Go.WideShapes Go.ChangeAt Go.RowKit
open Go.Proofs.YtaciogcpghbhjaaGreat.Fp (sameB)
open Go.Proofs.YtaciogcpghbhjaaGreat.Re (tOk tL)
theorem txt_len : ∀ (N : Nat) (e : ExprP) (d : Int), dp e <= N -> small e d = true -> (txt e).length <= 300 * 7 ^ d.toNat := by
 intro N
 induction N with
 | zero => intro e d h; exact absurd (dp_pos e) (by omega)
 | succ N ih =>
   intro e d hN hs
   have hsub := fun x (hx : x ∈ of e) => dp_of hx
   obtain ⟨k, f, r, l, h, o⟩ := e
   simp only [of] at hsub
   rw [small, smallL_all] at hs
   simp only [Bool.and_eq_true, decide_eq_true_eq, List.all_eq_true] at hs
   obtain ⟨h0, h1, h2, h3⟩ := hs
   have h5 : 0 < 7 ^ d.toNat := Nat.pow_pos (by omega)
   have each := fun x hx => ih x (d - 1) (by have := hsub x hx; omega) (h3 x hx)
   have hall : ∀ (k : Int) (M : Nat) (q : List ExprP), (∀ x ∈ q, (txt x).length <= M) -> (txtL k q).length <= q.length * (M + 7) := by
    intro k M q
    induction q with
    | nil => intro _; rw [txtL]; simp
    | cons a q iq =>
      intro hq
      have h1 := hq a (List.mem_cons_self ..)
      have h2 := iq fun x hx => hq x (List.mem_cons_of_mem _ hx)
      have h3 := (brack_len (txt a) (must k (kind a))).2
      have h4 : (sep k).length <= 5 := by unfold sep; split <;> decide
      rw [txtL, List.length_append, List.length_cons, Nat.add_mul, Nat.one_mul]
      split
      ·simp; omega
      ·rw [List.length_append]; omega
   have hO : ∀ k : Int, (txtL k o).length <= 300 * 7 ^ d.toNat - 4 := by
    intro k
    rcases Nat.eq_zero_or_pos o.length with hz | hz
    ·rw [List.eq_nil_of_length_eq_zero hz, txtL]; simp
    ·obtain ⟨x, hx⟩ : ∃ x, x ∈ o := by
      match o, hz with
      | x :: _, _ => exact ⟨x, List.mem_cons_self ..⟩
     have hd1 : 1 <= d := by
      have h6 := h3 x hx
      obtain ⟨k', f', r', l', h', o'⟩ := x
      rw [small] at h6
      simp only [Bool.and_eq_true, decide_eq_true_eq] at h6
      omega
     have h6 := hall k (300 * 7 ^ (d - 1).toNat) o each
     have h7 : 0 < 7 ^ (d - 1).toNat := Nat.pow_pos (by omega)
     have h8 : 7 ^ d.toNat = 7 ^ (d - 1).toNat * 7 := by rw [<- Nat.pow_succ]; congr 1; omega
     have h9 : o.length * (300 * 7 ^ (d - 1).toNat + 7) <= 6 * (300 * 7 ^ (d - 1).toNat + 7) := Nat.mul_le_mul_right _ h1
     omega
   rw [txt]
   split
   ·have n1 := Re.tL_len l
    have n2 := Re.tL_len h
    have n3 := rng_len r
    have n4 := word_len f
    split
    ·simp only [List.length_append]
     have : wReal.length = 5 := rfl
     have : wTo.length = 4 := rfl
     omega
    ·simp only [List.length_append, List.length_cons]
     omega
   ·split
    ·rw [List.length_append]
     have := hO 2
     have : wNot.length = 4 := rfl
     omega
    ·have := hO k
     omega
end Go.Proofs.YtaciogcpghbhjaaGreat.Tr
