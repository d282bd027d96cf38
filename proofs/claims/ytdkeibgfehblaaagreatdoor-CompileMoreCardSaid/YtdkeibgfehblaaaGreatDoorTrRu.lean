/- Several texts in one: TrY, TrZ, TrQ. Conditions: as each part says. -/
import Derived.Test.YtdkeibgfehblaaaGreatDoorTrRef
import Derived.Test.YtdkeibgfehblaaaGreatDoorTrJ
import Derived.Laws.StructEq
/- Layer 11's reference: few rules, which rules may be. Conditions: lists at most a million. -/
namespace Go.Proofs.YtdkeibgfehblaaaGreatDoor.Tr
set_option linter.unusedVariables false
open Go.ChangeShapes Go.WideShapes Go.ChangeAt Go.RowKit
open Go.Proofs.YtdkeibgfehblaaaGreatDoor.Fp (sameB)
open Go.Proofs.YtdkeibgfehblaaaGreatDoor.Re (tOk tL)
theorem RuleAt.new (W : World) (r : RuleP) (RA OA : Option Addr) (rc oc : Nat) (t : TypeId) : RuleAt (W.alloc (.cells #[.bool r.allow, .int .i64 (kind r.when_), .int .i64 (field r.when_), .slice RA (rs r.when_).length rc, .float .f64 (lo r.when_), .float .f64 (hi r.when_), .slice OA (of r.when_).length oc, .int .i64 r.num, .int .i64 r.per, .int .i64 r.burst, .int .i64 r.line] t)) r RA OA rc oc W.heap.size 0 := by
  have hc : ∀ j v, (#[.bool r.allow, .int .i64 (kind r.when_), .int .i64 (field r.when_), .slice RA (rs r.when_).length rc, .float .f64 (lo r.when_), .float .f64 (hi r.when_), .slice OA (of r.when_).length oc, .int .i64 r.num, .int .i64 r.per, .int .i64 r.burst, .int .i64 r.line] : Array Value)[j]? = some v → (W.alloc (.cells #[.bool r.allow, .int .i64 (kind r.when_), .int .i64 (field r.when_), .slice RA (rs r.when_).length rc, .float .f64 (lo r.when_), .float .f64 (hi r.when_), .slice OA (of r.when_).length oc, .int .i64 r.num, .int .i64 r.per, .int .i64 r.burst, .int .i64 r.line] t)).cell? ⟨W.heap.size, j, none⟩ = some v := fun j v hj => by
    rw [World.cell?_alloc_at (hn := rfl), hj]
  exact ⟨hc 0 _ rfl, hc 1 _ rfl, hc 2 _ rfl, hc 3 _ rfl, hc 4 _ rfl, hc 5 _ rfl, hc 6 _ rfl, hc 7 _ rfl, hc 8 _ rfl, hc 9 _ rfl, hc 10 _ rfl⟩
set_option maxHeartbeats 1000000 in
theorem few_any (A : Option Addr) (c : Nat) (l : List RuleP) (n : Nat) (w : World) (hn : n ≤ 1000000) (hR : Rus w A l) :
    Calls Tryz.prog 28 #[.slice A l.length c, .int .i64 (n : Int)] w fun e' w' => e' = .returned (.bool (few l n)) ∧ Keep w w' := by
  by_cases h1 : n < l.length
  · have HS := Lib.hid (show few l n = false by rw [few, show decide (l.length ≤ n) = false by simp; omega]; rfl)
    have d1 : decide (n < l.length) = true := by simpa using h1
    have d1' : decide ((n : Int) < (l.length : Int)) = true := by simp; omega
    clear h1
    go_enter Tryz.func28, Tryz.ntmps28
    go_wp2
    go_ret
    exact ⟨ret_bool HS.out.symm, Keep.refl _⟩
  have HS := Lib.hid (show few l n = l.all fun r => small r.when_ 4 by rw [few, show decide (l.length ≤ n) = true by simp; omega]; rfl)
  have d1 : decide (n < l.length) = false := by simpa using h1
  have d1' : decide ((n : Int) < (l.length : Int)) = false := by simp; omega
  have hll : l.length ≤ 1000000 := by omega
  clear h1
  go_enter Tryz.func28, Tryz.ntmps28
  go_wp2
  go_loopw [5] (fun iv wr => ∃ j : Nat, j ≤ l.length ∧ iv = .int .i64 j ∧ Hid ((l.take j).all (fun r => small r.when_ 4) = true) ∧ Keep w wr) (fun iv _ => l.length - (intOf iv).toNat)
  case atStart => exact ⟨0, Nat.zero_le _, rfl, rfl, Keep.refl _⟩
  case round =>
    obtain ⟨j, hj, rfl, hall, hk⟩ := hrel
    by_cases hlt : j < l.length
    · have hi1 : (j : Int) < l.length := by omega
      have hj0 : (0 : Int) ≤ j := by omega
      have hRw := hR.kept hk
      obtain ⟨b, off, rfl, hbb⟩ := hRw.addr (by omega)
      obtain ⟨_, RA, OA, rc, oc, hx6, hx⟩ := hRw.elem j hlt
      have HA := Lib.hid (all_snoc (fun r : RuleP => small r.when_ 4) zeroR l j hlt)
      have HNo := Lib.hid (all_no (fun r : RuleP => small r.when_ 4) zeroR l j hlt)
      generalize l.getD j zeroR = r at *
      obtain ⟨x0, x1, x2, x3, x4, x5, x6, _⟩ := hx6
      cases hsm : small r.when_ 4
      · have HC := Lib.hid (show ∀ W, Keep wr W → Calls Tryz.prog 15 #[.agg #[.int .i64 (kind r.when_), .int .i64 (field r.when_), .slice RA (rs r.when_).length rc, .float .f64 (lo r.when_), .float .f64 (hi r.when_), .slice OA (of r.when_).length oc], .int .i64 4] W fun e' w' => e' = .returned (.bool false) ∧ Keep W w' from fun W hW => by
          have := small_any _ r.when_ RA OA rc oc 4 W (Nat.le_refl _) (by omega) (by omega) (hx.kept hW)
          rwa [hsm] at this)
        have HF := Lib.hid (HNo.out hsm)
        clear hx HA HNo hsm hRw
        go_wp2_with fail
        refine (HC.out _ (Keep.refl _)).mono ?_
        rintro e w1 ⟨rfl, hk1⟩
        go_wp2
        go_ret
        exact ⟨ret_bool (by rw [HS.out, HF.out]), hk.trans hk1⟩
      · have HC := Lib.hid (show ∀ W, Keep wr W → Calls Tryz.prog 15 #[.agg #[.int .i64 (kind r.when_), .int .i64 (field r.when_), .slice RA (rs r.when_).length rc, .float .f64 (lo r.when_), .float .f64 (hi r.when_), .slice OA (of r.when_).length oc], .int .i64 4] W fun e' w' => e' = .returned (.bool true) ∧ Keep W w' from fun W hW => by
          have := small_any _ r.when_ RA OA rc oc 4 W (Nat.le_refl _) (by omega) (by omega) (hx.kept hW)
          rwa [hsm] at this)
        have HF := Lib.hid (show (l.take (j + 1)).all (fun r => small r.when_ 4) = true by rw [HA.out, hall.out, hsm]; rfl)
        clear hx HA HNo hsm hRw
        go_wp2_with fail
        refine (HC.out _ (Keep.refl _)).mono ?_
        rintro e w1 ⟨rfl, hk1⟩
        go_wp2
        go_roundw
        case rel => exact ⟨j + 1, by omega, by go_num, HF, hk.trans hk1⟩
        case measure => simp [intOf]; omega
    · obtain rfl : j = l.length := by omega
      have HF := Lib.hid (show l.all (fun r => small r.when_ 4) = true by have := hall.out; rwa [List.take_length] at this)
      go_wp2
      go_ret
      exact ⟨ret_bool (by rw [HS.out, HF.out]), hk⟩
theorem eqRate (a b c : Int) (w : World) : (Op.equalIn 10000 44 (.agg #[.int .i64 a, .int .i64 b, .int .i64 c]) (.agg #[.int .i64 0, .int .i64 0, .int .i64 0])).run Tryz.prog w = .ok (a == 0 && (b == 0 && c == 0)) w := by
  have u3 := Tryz.underlying3
  have a3 := Tryz.isAgg3
  have z3 := Tryz.sizeOf3
  have hS : Tryz.prog.underlying 44 = some (.struct (Tryz.prog.fieldsOf 44)) := by kernel_rfl
  have hp : Tryz.prog.stoodInHeld 44 = false := by kernel_rfl
  rw [show (10000 : Nat) = 9999 + 1 from rfl, run_equalIn_agg w 9999 44 _ _ hS hp]
  simp only [Program.fieldsOf, Tryz.underlying44]
  cases h1 : (a == 0)
  · go_simp
  · cases h2 : (b == 0) <;> cases h3 : (c == 0) <;> (go_simp; try simp [h1, h2, h3])
theorem guardRate : Tryz.prog.eqGuardType Tryz.prog.depth 44 = false := by kernel_rfl


end Go.Proofs.YtdkeibgfehblaaaGreatDoor.Tr
/- Layer 11's reference: a policy's text. Conditions: three hundred rules at most, texts of three million bytes each at most. -/
namespace Go.Proofs.YtdkeibgfehblaaaGreatDoor.Tr
set_option linter.unusedVariables false
open Go.ChangeShapes Go.WideShapes Go.ChangeAt Go.RowKit
open Go.Proofs.YtdkeibgfehblaaaGreatDoor.Fp (sameB)
open Go.Proofs.YtdkeibgfehblaaaGreatDoor.Re (tOk tL)
theorem ret_sb {a b : ByteArray} {c d : Bool} (h : a = b) (h' : c = d) : Ending.returned (.tuple #[.string a, .bool c]) = Ending.returned (.tuple #[.string b, .bool d]) := by rw [h, h']
theorem textsL_take (l : List RuleP) (j : Nat) (h : j < l.length) : textsL (l.take (j + 1)) = textsL (l.take j) ++ rtxt (l.getD j zeroR) := by
  rw [take_snoc zeroR l j h, textsL, textsL, List.flatMap_append]; simp
theorem texts_len (l : List RuleP) (h : ∀ r ∈ l, (rtxt r).length ≤ 3000000) : (textsL l).length ≤ 3000000 * l.length := by
  induction l with
  | nil => exact Nat.le_refl _
  | cons a l ih =>
    have h1 := h a (List.mem_cons_self ..)
    have h2 := ih fun r hr => h r (List.mem_cons_of_mem _ hr)
    rw [textsL, List.flatMap_cons, List.length_append, List.length_cons, show l.flatMap rtxt = textsL l from rfl]; omega
theorem rtxt_len (r : RuleP) : (kind r.when_ ≠ 0 → (txt r.when_).length ≤ (rtxt r).length) := by
  intro h
  unfold rtxt
  rw [if_neg h]
  simp only [List.length_append]
  omega


end Go.Proofs.YtdkeibgfehblaaaGreatDoor.Tr
/- Layer 11's reference: the same rules; how long small ones' texts are. Conditions: lists at most a million. -/
namespace Go.Proofs.YtdkeibgfehblaaaGreatDoor.Tr
set_option linter.unusedVariables false
open Go.ChangeShapes Go.WideShapes Go.ChangeAt Go.RowKit
open Go.Proofs.YtdkeibgfehblaaaGreatDoor.Fp (sameB)
open Go.Proofs.YtdkeibgfehblaaaGreatDoor.Re (tOk tL)
theorem rules_len : ∀ l m : List RuleP, l.length ≠ m.length → rules l m = false
  | [], [], h => absurd rfl h
  | [], b :: m, _ => rfl
  | a :: l, [], _ => rfl
  | a :: l, b :: m, h => by rw [rules, rules_len l m (by simpa using h), Bool.and_false]
theorem rules_at : ∀ (l m : List RuleP) (k : Nat), l.length = m.length → k < l.length → rules (l.drop k) (m.drop k) = (rule1 (l.getD k zeroR) (m.getD k zeroR) && rules (l.drop (k + 1)) (m.drop (k + 1)))
  | a :: l, b :: m, 0, _, _ => rfl
  | a :: l, b :: m, k + 1, h, hk => rules_at l m k (by simpa using h) (by simpa using hk)
theorem eqRate2 (a b c a' b' c' : Int) (w : World) : (Op.equalIn 10000 44 (.agg #[.int .i64 a, .int .i64 b, .int .i64 c]) (.agg #[.int .i64 a', .int .i64 b', .int .i64 c'])).run Tryz.prog w = .ok (a == a' && (b == b' && c == c')) w := by
  have u3 := Tryz.underlying3
  have a3 := Tryz.isAgg3
  have z3 := Tryz.sizeOf3
  have hS : Tryz.prog.underlying 44 = some (.struct (Tryz.prog.fieldsOf 44)) := by kernel_rfl
  have hp : Tryz.prog.stoodInHeld 44 = false := by kernel_rfl
  rw [show (10000 : Nat) = 9999 + 1 from rfl, run_equalIn_agg w 9999 44 _ _ hS hp]
  simp only [Program.fieldsOf, Tryz.underlying44]
  cases h1 : (a == a')
  · go_simp
  · cases h2 : (b == b') <;> cases h3 : (c == c') <;> (go_simp; try simp [h1, h2, h3])
/-- How long a small one's text is. -/
theorem txt_len : ∀ (N : Nat) (e : ExprP) (d : Int), dp e ≤ N → small e d = true → (txt e).length ≤ 300 * 7 ^ d.toNat := by
  intro N
  induction N with
  | zero => intro e d h; exact absurd (dp_pos e) (by omega)
  | succ N ih =>
    intro e d hN hs
    have hsub := fun x (hx : x ∈ of e) => dp_of hx
    obtain ⟨k, f, r, l, h, o⟩ := e
    simp only [of] at hsub
    rw [small, smallL_all] at hs
    simp only [Bool.and_eq_true, decide_eq_true_eq, List.all_eq_true] at hs
    obtain ⟨h0, h1, h2, h3⟩ := hs
    have h5 : 0 < 7 ^ d.toNat := Nat.pow_pos (by omega)
    have each := fun x hx => ih x (d - 1) (by have := hsub x hx; omega) (h3 x hx)
    have hall : ∀ (k : Int) (M : Nat) (q : List ExprP), (∀ x ∈ q, (txt x).length ≤ M) → (txtL k q).length ≤ q.length * (M + 7) := by
      intro k M q
      induction q with
      | nil => intro _; rw [txtL]; simp
      | cons a q iq =>
        intro hq
        have h1 := hq a (List.mem_cons_self ..)
        have h2 := iq fun x hx => hq x (List.mem_cons_of_mem _ hx)
        have h3 := (brack_len (txt a) (must k (kind a))).2
        have h4 : (sep k).length ≤ 5 := by unfold sep; split <;> decide
        rw [txtL, List.length_append, List.length_cons, Nat.add_mul, Nat.one_mul]
        split
        · simp; omega
        · rw [List.length_append]; omega
    have hO : ∀ k : Int, (txtL k o).length ≤ 300 * 7 ^ d.toNat - 4 := by
      intro k
      rcases Nat.eq_zero_or_pos o.length with hz | hz
      · rw [List.eq_nil_of_length_eq_zero hz, txtL]; simp
      · obtain ⟨x, hx⟩ : ∃ x, x ∈ o := by
          match o, hz with
          | x :: _, _ => exact ⟨x, List.mem_cons_self ..⟩
        have hd1 : 1 ≤ d := by
          have h6 := h3 x hx
          obtain ⟨k', f', r', l', h', o'⟩ := x
          rw [small] at h6
          simp only [Bool.and_eq_true, decide_eq_true_eq] at h6
          omega
        have h6 := hall k (300 * 7 ^ (d - 1).toNat) o each
        have h7 : 0 < 7 ^ (d - 1).toNat := Nat.pow_pos (by omega)
        have h8 : 7 ^ d.toNat = 7 ^ (d - 1).toNat * 7 := by rw [← Nat.pow_succ]; congr 1; omega
        have h9 : o.length * (300 * 7 ^ (d - 1).toNat + 7) ≤ 6 * (300 * 7 ^ (d - 1).toNat + 7) := Nat.mul_le_mul_right _ h1
        omega
    rw [txt]
    split
    · have n1 := Re.tL_len l
      have n2 := Re.tL_len h
      have n3 := rng_len r
      have n4 := word_len f
      split
      · simp only [List.length_append]
        have : wReal.length = 5 := rfl
        have : wTo.length = 4 := rfl
        omega
      · simp only [List.length_append, List.length_cons]
        omega
    · split
      · rw [List.length_append]
        have := hO 2
        have : wNot.length = 4 := rfl
        omega
      · have := hO k
        omega
end Go.Proofs.YtdkeibgfehblaaaGreatDoor.Tr
