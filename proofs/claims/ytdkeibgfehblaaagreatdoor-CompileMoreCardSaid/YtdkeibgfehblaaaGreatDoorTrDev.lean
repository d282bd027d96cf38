/- Several texts in one: TrB, TrCf, TrC, TrE. Conditions: as each part says. -/
import Derived.Test.YtdkeibgfehblaaaGreatDoorTrRu
import Derived.Test.YtdkeibgfehblaaaGreatDoorGuAll
import Derived.Test.YtdkeibgfehblaaaGreatDoorSpAll
import Derived.Shelf.Abstract
import Derived.Test.YtdkeibgfehblaaaGreatDoorTrRef
/- The developers' tree: which expressions may be. Conditions: lists at most a million. -/
namespace Go.Proofs.YtdkeibgfehblaaaGreatDoor.Tree
set_option linter.unusedVariables false
open Go.ChangeShapes Go.WideShapes Go.ChangeAt Go.RowKit
open Tr
open Go.Proofs.YtdkeibgfehblaaaGreatDoor.Fp (sameB)
open Go.Proofs.YtdkeibgfehblaaaGreatDoor.Re (tOk tL)
theorem isNumber_any (n : Int) (w : World) (ht : Tab w) : Calls Tryz.prog 78 #[.int .i64 n] w fun e w' => e = .returned (.bool (numR n)) ∧ Keep w w' := by
  have HC := Lib.hid (Guard.put_any n w ht)
  go_enter Tryz.func78, Tryz.ntmps78
  go_wp2_with fail
  refine HC.out.mono ?_
  rintro e w1 ⟨rfl, hk⟩
  go_wp2
  go_ret
  exact ⟨rfl, hk⟩
theorem isBound_any (b : Nat) (hb : b < 18446744073709551616) (w : World) (ht : Tab w) : Calls Tryz.prog 62 #[.float .f64 b] w fun e w' => e = .returned (.bool (tOk b)) ∧ Keep w w' := by
  have HC := Lib.hid (Re.text_any b hb w ht)
  go_enter Tryz.func62, Tryz.ntmps62
  go_wp2_with fail
  refine HC.out.mono ?_
  rintro e w1 ⟨rfl, hk⟩
  go_wp2
  go_ret
  exact ⟨rfl, hk⟩
theorem word_any (f : Int) (w : World) : Calls Tryz.prog 63 #[.int .i64 f] w fun e w' => e = .returned (.string (st (word f))) ∧ w = w' := by
  go_enter Tryz.func63, Tryz.ntmps63
  go_wp2
  all_goals (go_ret; refine ⟨?_, rfl⟩; simp_all [word, st])
set_option maxHeartbeats 1000000 in
theorem hasNoBounds_any (e : ExprP) (RA OA : Option Addr) (rc oc : Nat) (w : World) (hl64 : lo e < 18446744073709551616) (hh64 : hi e < 18446744073709551616) :
    Calls Tryz.prog 61 #[.agg #[.int .i64 (kind e), .int .i64 (field e), .slice RA (rs e).length rc, .float .f64 (lo e), .float .f64 (hi e), .slice OA (of e).length oc]] w fun e' w' => e' = .returned (.bool (plain (lo e) && plain (hi e))) ∧ Keep w w' := by
  obtain ⟨k, f, r, l, h, o⟩ := e
  simp only [kind, field, rs, lo, hi, of] at hl64 hh64 ⊢
  obtain ⟨X, hX⟩ : ∃ X, X = w.alloc (.cells #[.int .i64 k, .int .i64 f, .slice RA r.length rc, .float .f64 l, .float .f64 h, .slice OA o.length oc] 35) := ⟨_, rfl⟩
  have hkX : Keep w X := by rw [hX]; exact (Keep.refl w).alloc _
  have hltX : w.heap.size < X.heap.size := by rw [hX]; simp
  have hEl : ElemAt X (.mk k f r l h o) RA OA rc oc w.heap.size 0 := by rw [hX]; exact ElemAt.new w (.mk k f r l h o) RA OA rc oc 35
  have HB := Lib.hid (show ∀ W, Keep X W → W.cell? ⟨w.heap.size, 0, none⟩ = some (.int .i64 k) ∧ W.cell? ⟨w.heap.size, 1, none⟩ = some (.int .i64 f) ∧ W.cell? ⟨w.heap.size, 2, none⟩ = some (.slice RA r.length rc) ∧ W.cell? ⟨w.heap.size, 3, none⟩ = some (.float .f64 l) ∧ W.cell? ⟨w.heap.size, 4, none⟩ = some (.float .f64 h) ∧ W.cell? ⟨w.heap.size, 5, none⟩ = some (.slice OA o.length oc) from fun W hk => hEl.kept hltX hk)
  have CL := Lib.hid (show ∀ W, Calls Tryz.prog 52 #[.float .f64 l, .float .f64 0] W fun e w' => e = .returned (.bool (plain l)) ∧ W = w' from fun W => Re.same_any l 0 hl64 (by omega) W)
  have CH := Lib.hid (show ∀ W, Calls Tryz.prog 52 #[.float .f64 h, .float .f64 0] W fun e w' => e = .returned (.bool (plain h)) ∧ W = w' from fun W => Re.same_any h 0 hh64 (by omega) W)
  generalize plain l = bl at *
  generalize plain h = bh at *
  clear hEl hl64 hh64
  cases bl
  · go_enter Tryz.func61, Tryz.ntmps61
    go_wp2_with fail
    rw [← hX]
    clear hX
    refine (CL.out _).mono ?_
    rintro e _ ⟨rfl, rfl⟩
    go_wp2
    go_ret
    exact ⟨rfl, hkX⟩
  · go_enter Tryz.func61, Tryz.ntmps61
    go_wp2_with fail
    rw [← hX]
    clear hX
    refine (CL.out _).mono ?_
    rintro e _ ⟨rfl, rfl⟩
    obtain ⟨b0, b1, b2, b3, b4, b5⟩ := HB.out _ (Keep.refl _)
    go_wp2_with fail
    refine (CH.out _).mono ?_
    rintro e _ ⟨rfl, rfl⟩
    go_wp2
    go_ret
    rw [Bool.true_and]
    exact ⟨rfl, hkX⟩
set_option maxHeartbeats 2000000 in
theorem isBare_any (e : ExprP) (RA OA : Option Addr) (rc oc : Nat) (w : World) (hl64 : lo e < 18446744073709551616) (hh64 : hi e < 18446744073709551616) :
    Calls Tryz.prog 46 #[.agg #[.int .i64 (kind e), .int .i64 (field e), .slice RA (rs e).length rc, .float .f64 (lo e), .float .f64 (hi e), .slice OA (of e).length oc]] w fun e' w' => e' = .returned (.bool (field e == 0 && ((rs e).length == 0 && (plain (lo e) && plain (hi e))))) ∧ Keep w w' := by
  have CN := Lib.hid (fun W => hasNoBounds_any e RA OA rc oc W hl64 hh64)
  obtain ⟨k, f, r, l, h, o⟩ := e
  simp only [kind, field, rs, lo, hi, of] at CN hl64 hh64 ⊢
  clear hl64 hh64
  obtain ⟨X, hX⟩ : ∃ X, X = w.alloc (.cells #[.int .i64 k, .int .i64 f, .slice RA r.length rc, .float .f64 l, .float .f64 h, .slice OA o.length oc] 35) := ⟨_, rfl⟩
  have hkX : Keep w X := by rw [hX]; exact (Keep.refl w).alloc _
  have hltX : w.heap.size < X.heap.size := by rw [hX]; simp
  have hEl : ElemAt X (.mk k f r l h o) RA OA rc oc w.heap.size 0 := by rw [hX]; exact ElemAt.new w (.mk k f r l h o) RA OA rc oc 35
  have HB := Lib.hid (show ∀ W, Keep X W → W.cell? ⟨w.heap.size, 0, none⟩ = some (.int .i64 k) ∧ W.cell? ⟨w.heap.size, 1, none⟩ = some (.int .i64 f) ∧ W.cell? ⟨w.heap.size, 2, none⟩ = some (.slice RA r.length rc) ∧ W.cell? ⟨w.heap.size, 3, none⟩ = some (.float .f64 l) ∧ W.cell? ⟨w.heap.size, 4, none⟩ = some (.float .f64 h) ∧ W.cell? ⟨w.heap.size, 5, none⟩ = some (.slice OA o.length oc) from fun W hk => hEl.kept hltX hk)
  clear hEl
  generalize (plain l && plain h) = pb at *
  by_cases h0 : f = 0
  · have q0 : (f == 0) = true := by simpa using h0
    by_cases hr : r.length = 0
    · have dr : ((r.length : Int) == 0) = true := by simpa using hr
      have dr' : (r.length == 0) = true := by simpa using hr
      have HS := Lib.hid (show (f == 0 && (r.length == 0 && pb)) = pb by rw [q0, dr']; simp)
      clear h0 hr
      go_enter Tryz.func46, Tryz.ntmps46
      go_wp2_with fail
      rw [← hX]
      clear hX
      refine (CN.out _).mono ?_
      rintro e w1 ⟨rfl, hk1⟩
      go_wp2
      go_ret
      exact ⟨ret_bool HS.out.symm, hkX.trans hk1⟩
    · have dr : ((r.length : Int) == 0) = false := by simpa using hr
      have dr' : (r.length == 0) = false := by simpa using hr
      have HS := Lib.hid (show (f == 0 && (r.length == 0 && pb)) = false by rw [q0, dr']; simp)
      clear h0 hr
      go_enter Tryz.func46, Tryz.ntmps46
      go_wp2
      go_ret
      exact ⟨ret_bool HS.out.symm, by rw [← hX]; exact hkX⟩
  · have q0 : (f == 0) = false := by simpa using h0
    have HS := Lib.hid (show (f == 0 && (r.length == 0 && pb)) = false by rw [q0]; simp)
    clear h0
    go_enter Tryz.func46, Tryz.ntmps46
    go_wp2
    go_ret
    exact ⟨ret_bool HS.out.symm, by rw [← hX]; exact hkX⟩
set_option maxHeartbeats 1000000 in
theorem badRange_any (a b : Int) (w : World) (ht : Tab w) : Calls Tryz.prog 77 #[.agg #[.int .i64 a, .int .i64 b]] w fun e w' => e = .returned (.bool (!(numR a && numR b))) ∧ Keep w w' := by
  obtain ⟨X, hX⟩ : ∃ X, X = w.alloc (.cells #[.int .i64 a, .int .i64 b] 42) := ⟨_, rfl⟩
  have hkX : Keep w X := by rw [hX]; exact (Keep.refl w).alloc _
  have hltX : w.heap.size < X.heap.size := by rw [hX]; simp
  have c0 : X.cell? ⟨w.heap.size, 0, none⟩ = some (.int .i64 a) := by rw [hX, World.cell?_alloc_at (hn := rfl)]; rfl
  have c1 : X.cell? ⟨w.heap.size, 1, none⟩ = some (.int .i64 b) := by rw [hX, World.cell?_alloc_at (hn := rfl)]; rfl
  have CA := Lib.hid (isNumber_any a X (ht.keep hkX))
  have CB := Lib.hid (fun W (hW : Keep X W) => isNumber_any b W ((ht.keep hkX).keep hW))
  have HC := Lib.hid (fun W (hW : Keep X W) => (Below.cell hW (p := ⟨w.heap.size, 1, none⟩) hltX).trans c1)
  generalize numR a = na at *
  generalize numR b = nb at *
  clear ht hltX
  cases na
  · go_enter Tryz.func77, Tryz.ntmps77
    go_wp2_with fail
    rw [← hX]
    clear hX
    refine CA.out.mono ?_
    rintro e w1 ⟨rfl, hk1⟩
    go_wp2
    go_ret
    exact ⟨rfl, hkX.trans hk1⟩
  · go_enter Tryz.func77, Tryz.ntmps77
    go_wp2_with fail
    rw [← hX]
    clear hX
    refine CA.out.mono ?_
    rintro e w1 ⟨rfl, hk1⟩
    have c1' := HC.out _ hk1
    go_wp2_with fail
    refine (CB.out _ hk1).mono ?_
    rintro e w2 ⟨rfl, hk2⟩
    go_wp2
    go_ret
    rw [Bool.true_and]
    exact ⟨rfl, (hkX.trans hk1).trans hk2⟩
theorem not_any {α : Type} (l : List α) (p : α → Bool) : (!(l.any fun x => !p x)) = l.all p := by
  induction l with
  | nil => rfl
  | cons a l ih => rw [List.any_cons, List.all_cons, ← ih]; cases p a <;> simp
set_option maxHeartbeats 1000000 in
theorem areNumbers_any (A : Option Addr) (c : Nat) (r : List (Int × Int)) (w : World) (ht : Tab w) (hn : r.length ≤ 1000000) (hA : Row encP 2 w w.heap.size A r.length r) :
    Calls Tryz.prog 64 #[.slice A r.length c] w fun e w' => e = .returned (.bool (rangesR r)) ∧ Keep w w' := by
  have eg := enters_of Tryz.func77 (by kernel_rfl) rfl
  have HC := Lib.hid (Span.contains_any A r.length c r 77 #[] (fun p => !(numR p.1 && numR p.2)) w hn hA eg (fun W x1 x2 hk => badRange_any x1 x2 W (ht.keep hk)))
  have HS := Lib.hid (show (!(r.any fun p => !(numR p.1 && numR p.2))) = rangesR r from not_any r _)
  generalize (r.any fun p => !(numR p.1 && numR p.2)) = q at *
  clear hA ht eg
  go_enter Tryz.func64, Tryz.ntmps64
  go_wp2_with fail
  refine HC.out.mono ?_
  rintro e w1 ⟨rfl, hk⟩
  go_wp2
  go_ret
  exact ⟨ret_bool HS.out, hk⟩
end Go.Proofs.YtdkeibgfehblaaaGreatDoor.Tree
/- slices.IndexFunc and ContainsFunc at expressions. Conditions: lists at most a million. -/
namespace Go.Proofs.YtdkeibgfehblaaaGreatDoor.Tree
set_option linter.unusedVariables false
open Go.ChangeShapes Go.WideShapes Go.ChangeAt Go.RowKit
open Tr
/-- What is asked of a test of an expression of a list. -/
def Tests (g : Nat) (lb : Array Value) (p : ExprP → Bool) (o : List ExprP) (w : World) : Prop :=
  ∀ (W : World) (x : ExprP) (RA OA : Option Addr) (rc oc : Nat), Keep w W → x ∈ o → Ex W x RA OA → Calls Tryz.prog g (#[.agg #[.int .i64 (kind x), .int .i64 (field x), .slice RA (rs x).length rc, .float .f64 (lo x), .float .f64 (hi x), .slice OA (of x).length oc]] ++ lb) W fun e w' => e = .returned (.bool (p x)) ∧ Keep W w'
theorem any_snoc {α : Type} (p : α → Bool) (z : α) (l : List α) (k : Nat) (h : k < l.length) : (l.take (k + 1)).any p = ((l.take k).any p || p (l.getD k z)) := by
  rw [take_snoc z l k h]; simp
theorem any_yes {α : Type} (p : α → Bool) (z : α) (l : List α) (k : Nat) (h : k < l.length) (hp : p (l.getD k z) = true) : l.any p = true := by
  rw [List.any_eq_true]
  exact ⟨_, getD_mem z l k h, hp⟩
set_option maxHeartbeats 1000000 in
theorem index_any (A : Option Addr) (c : Nat) (o : List ExprP) (g : Nat) (lb : Array Value) (p : ExprP → Bool) (w : World) (hn : o.length ≤ 1000000) (hO : Exs w A o)
    (eg : ∀ args w, (callFunc g args).run Tryz.prog w = .ok (.enter g args) w) (hp : Tests g lb p o w) :
    Calls Tryz.prog 79 #[.slice A o.length c, .func (.func g) #[] lb] w fun e w' => ∃ i : Int, e = .returned (.int .i64 i) ∧ decide (0 ≤ i) = o.any p ∧ Keep w w' := by
  go_enter Tryz.func79, Tryz.ntmps79
  go_wp2
  go_loopw [8] (fun i wr => ∃ k : Nat, k ≤ o.length ∧ i = .int .i64 k ∧ Keep w wr ∧ Hid ((o.take k).any p = false)) (fun i _ => o.length - (intOf i).toNat)
  case atStart => exact ⟨0, Nat.zero_le _, rfl, Keep.refl _, rfl⟩
  case round =>
    obtain ⟨j, hj, rfl, hk, hall⟩ := hrel
    by_cases hlt : j < o.length
    · have hi1 : (j : Int) < o.length := by omega
      have hj0 : (0 : Int) ≤ j := by omega
      have hOw := hO.kept hk
      obtain ⟨b, off, rfl, hbb⟩ := hOw.addr (by omega)
      obtain ⟨_, RA', OA', rc', oc', hx6, hx⟩ := hOw.elem j hlt
      have hmem := getD_mem zero o j hlt
      have HA := Lib.hid (any_snoc p zero o j hlt)
      have HY := Lib.hid (any_yes p zero o j hlt)
      have hcall := hp wr _ RA' OA' rc' oc' hk hmem hx
      generalize o.getD j zero = x at *
      obtain ⟨x0, x1, x2, x3, x4, x5⟩ := hx6
      clear hx hmem hOw
      cases hv : p x with
      | true =>
        rw [hv] at hcall
        have HV := Lib.hid (HY.out hv)
        clear hv HY HA
        go_wp2_with fail
        refine hcall.mono ?_
        rintro e w1 ⟨rfl, hk1⟩
        go_wp2
        go_ret
        exact ⟨j, rfl, by rw [HV.out]; simp, hk.trans hk1⟩
      | false =>
        rw [hv] at hcall
        have HV := Lib.hid (show (o.take (j + 1)).any p = false by rw [HA.out, hall.out, hv]; rfl)
        clear hv HY HA
        go_wp2_with fail
        refine hcall.mono ?_
        rintro e w1 ⟨rfl, hk1⟩
        go_wp2
        go_roundw
        case rel => exact ⟨j + 1, by omega, by go_num, hk.trans hk1, HV⟩
        case measure => simp [intOf]; omega
    · obtain rfl : j = o.length := by omega
      have e := hall.out
      rw [List.take_length] at e
      have HE := Lib.hid e
      clear e
      go_wp2
      go_ret
      exact ⟨-1, rfl, by rw [HE.out]; rfl, hk⟩
set_option maxHeartbeats 1000000 in
theorem contains_any (A : Option Addr) (c : Nat) (o : List ExprP) (g : Nat) (lb : Array Value) (p : ExprP → Bool) (w : World) (hn : o.length ≤ 1000000) (hO : Exs w A o)
    (eg : ∀ args w, (callFunc g args).run Tryz.prog w = .ok (.enter g args) w) (hp : Tests g lb p o w) :
    Calls Tryz.prog 65 #[.slice A o.length c, .func (.func g) #[] lb] w fun e w' => e = .returned (.bool (o.any p)) ∧ Keep w w' := by
  have hcon := index_any A c o g lb p w hn hO eg hp
  generalize o.any p = r at *
  clear hp hO
  go_enter Tryz.func65, Tryz.ntmps65
  go_wp2_with fail
  refine hcon.mono ?_
  rintro e w1 ⟨i, rfl, hi, hk⟩
  have HI := Lib.hid hi
  clear hi hcon
  go_wp2
  go_ret
  exact ⟨ret_bool HI.out, hk⟩
end Go.Proofs.YtdkeibgfehblaaaGreatDoor.Tree
/- The developers' tree: which expressions may be, in memory. Conditions: lists at most a million. -/
namespace Go.Proofs.YtdkeibgfehblaaaGreatDoor.Tree
set_option linter.unusedVariables false
open Go.ChangeShapes Go.WideShapes Go.ChangeAt Go.RowKit
open Tr
open Go.Proofs.YtdkeibgfehblaaaGreatDoor.Fp (sameB)
open Go.Proofs.YtdkeibgfehblaaaGreatDoor.Re (tOk tL)
def atomA (f : Int) (r : List (Int × Int)) (l h : Nat) : Bool :=
  if f = 6 then r.length == 0 && (tOk l && tOk h) else (decide (1 ≤ f) && decide (f ≤ 5)) && (decide (0 < r.length) && ((plain l && plain h) && rangesR r))
theorem atomA_R (f : Int) (r : List (Int × Int)) (l h n : Nat) : (atomA f r l h && n == 0) = atomR f r l h n := by
  unfold atomA atomR
  by_cases hn : n = 0
  · have e1 : (n == 0) = true := by simpa using hn
    rw [e1, Bool.and_true, Bool.true_and]
    by_cases h6 : f = 6
    · subst h6
      simp
    · rw [if_neg h6, if_neg h6]
      by_cases h1 : 1 ≤ f
      · rw [decide_eq_true h1, Bool.true_and, Bool.true_and]
        by_cases h5 : f ≤ 5
        · rw [decide_eq_true h5, decide_eq_true (show f ≤ 6 by omega), Bool.true_and, Bool.true_and]
          by_cases hr : r.length = 0
          · rw [decide_eq_false (show ¬ 0 < r.length by omega), show (r.length == 0) = true by simpa using hr]; simp
          · rw [decide_eq_true (show 0 < r.length by omega), show (r.length == 0) = false by simpa using hr]; simp [Bool.and_comm]
        · rw [decide_eq_false h5, decide_eq_false (show ¬ f ≤ 6 by omega)]; simp
      · rw [decide_eq_false h1]; simp
  · have e1 : (n == 0) = false := by simpa using hn
    rw [e1]; simp
theorem word_in {f : Int} (h : 1 ≤ f ∧ f ≤ 5) : (st (word f)).toList.isEmpty = false := by
  rw [toList_eq]
  have : f = 1 ∨ f = 2 ∨ f = 3 ∨ f = 4 ∨ f = 5 := by omega
  rcases this with rfl | rfl | rfl | rfl | rfl <;> rfl
theorem word_out {f : Int} (h : f < 1 ∨ 5 < f) : (st (word f)).toList.isEmpty = true := by
  rw [toList_eq, word, if_neg (by omega), if_neg (by omega), if_neg (by omega), if_neg (by omega), if_neg (by omega)]; rfl
set_option maxHeartbeats 4000000 in
theorem isAtom_any (e : ExprP) (RA OA : Option Addr) (rc oc : Nat) (w : World) (ht : Tab w) (hfit : fits e) (hE : Ex w e RA OA) :
    Calls Tryz.prog 47 #[.agg #[.int .i64 (kind e), .int .i64 (field e), .slice RA (rs e).length rc, .float .f64 (lo e), .float .f64 (hi e), .slice OA (of e).length oc]] w fun e' w' => e' = .returned (.bool (atomA (field e) (rs e) (lo e) (hi e))) ∧ Keep w w' := by
  obtain ⟨k, f, r, l, h, o⟩ := e
  rw [fits] at hfit
  obtain ⟨⟨hrl, hol⟩, ⟨hl64, hh64⟩, _⟩ := hfit
  simp only [kind, field, rs, lo, hi, of]
  obtain ⟨X, hX⟩ : ∃ X, X = w.alloc (.cells #[.int .i64 k, .int .i64 f, .slice RA r.length rc, .float .f64 l, .float .f64 h, .slice OA o.length oc] 35) := ⟨_, rfl⟩
  have hkX : Keep w X := by rw [hX]; exact (Keep.refl w).alloc _
  have hltX : w.heap.size < X.heap.size := by rw [hX]; simp
  have hEl : ElemAt X (.mk k f r l h o) RA OA rc oc w.heap.size 0 := by rw [hX]; exact ElemAt.new w (.mk k f r l h o) RA OA rc oc 35
  have HB := Lib.hid (show ∀ W, Keep X W → W.cell? ⟨w.heap.size, 0, none⟩ = some (.int .i64 k) ∧ W.cell? ⟨w.heap.size, 1, none⟩ = some (.int .i64 f) ∧ W.cell? ⟨w.heap.size, 2, none⟩ = some (.slice RA r.length rc) ∧ W.cell? ⟨w.heap.size, 3, none⟩ = some (.float .f64 l) ∧ W.cell? ⟨w.heap.size, 4, none⟩ = some (.float .f64 h) ∧ W.cell? ⟨w.heap.size, 5, none⟩ = some (.slice OA o.length oc) from fun W hk => hEl.kept hltX hk)
  have hRX := (hE.kept hkX).1
  simp only [rs] at hRX
  have htX := ht.keep hkX
  have CBL := Lib.hid (fun W (hW : Keep X W) => isBound_any l hl64 W (htX.keep hW))
  have CBH := Lib.hid (fun W (hW : Keep X W) => isBound_any h hh64 W (htX.keep hW))
  have CNB := Lib.hid (fun W => hasNoBounds_any (.mk k f r l h o) RA OA rc oc W hl64 hh64)
  have CAN := Lib.hid (fun W (hW : Keep X W) => areNumbers_any RA rc r W (htX.keep hW) hrl (hRX.kept hW))
  have CW := Lib.hid (fun W => word_any f W)
  simp only [kind, field, rs, lo, hi, of] at CNB
  clear hEl hl64 hh64 htX hRX hE hltX
  by_cases h6 : f = 6
  · have d6 : (f == 6) = true := by simpa using h6
    have HON := Lib.hid (show atomA f r l h = (r.length == 0 && (tOk l && tOk h)) by rw [atomA, if_pos h6])
    clear h6
    by_cases hr0 : r.length = 0
    · have dr : ((r.length : Int) == 0) = true := by simpa using hr0
      have dr' : (r.length == 0) = true := by simpa using hr0
      have HON := Lib.hid (show atomA f r l h = (tOk l && tOk h) by rw [HON.out, dr', Bool.true_and])
      clear hr0
      generalize tOk l = bl at *
      generalize tOk h = bh at *
      cases bl
      · go_enter Tryz.func47, Tryz.ntmps47
        go_wp2_with fail
        rw [← hX]
        clear hX
        refine (CBL.out _ (Keep.refl _)).mono ?_
        rintro e w1 ⟨rfl, hk1⟩
        go_wp2
        go_ret
        exact ⟨ret_bool (by rw [HON.out]; rfl), hkX.trans hk1⟩
      · go_enter Tryz.func47, Tryz.ntmps47
        go_wp2_with fail
        rw [← hX]
        clear hX
        refine (CBL.out _ (Keep.refl _)).mono ?_
        rintro e w1 ⟨rfl, hk1⟩
        obtain ⟨b0, b1, b2, b3, b4, b5⟩ := HB.out _ hk1
        go_wp2_with fail
        refine (CBH.out _ hk1).mono ?_
        rintro e w2 ⟨rfl, hk2⟩
        go_wp2
        go_ret
        exact ⟨ret_bool (by rw [HON.out, Bool.true_and]), (hkX.trans hk1).trans hk2⟩
    · have dr : ((r.length : Int) == 0) = false := by simpa using hr0
      have dr' : (r.length == 0) = false := by simpa using hr0
      have HS := Lib.hid (show atomA f r l h = false by rw [HON.out, dr']; rfl)
      clear hr0
      go_enter Tryz.func47, Tryz.ntmps47
      go_wp2
      go_ret
      exact ⟨ret_bool HS.out.symm, by rw [← hX]; exact hkX⟩
  · have d6 : (f == 6) = false := by simpa using h6
    have HON := Lib.hid (show atomA f r l h = ((decide (1 ≤ f) && decide (f ≤ 5)) && (decide (0 < r.length) && ((plain l && plain h) && rangesR r))) by rw [atomA, if_neg h6])
    clear h6
    by_cases hf : 1 ≤ f ∧ f ≤ 5
    · have qw := word_in hf
      have HON := Lib.hid (show atomA f r l h = (decide (0 < r.length) && ((plain l && plain h) && rangesR r)) by rw [HON.out, decide_eq_true hf.1, decide_eq_true hf.2]; rfl)
      clear hf
      generalize st (word f) = wf at *
      by_cases hr0 : 0 < r.length
      · have dr : decide ((0 : Int) < (r.length : Int)) = true := by simpa using hr0
        have dr' : decide (0 < r.length) = true := by simpa using hr0
        have HON := Lib.hid (show atomA f r l h = ((plain l && plain h) && rangesR r) by rw [HON.out, dr', Bool.true_and])
        clear hr0
        generalize (plain l && plain h) = pb at *
        generalize rangesR r = rr at *
        cases pb
        · go_enter Tryz.func47, Tryz.ntmps47
          go_wp2_with fail
          rw [← hX]
          clear hX
          refine (CW.out _).mono ?_
          rintro e _ ⟨rfl, rfl⟩
          obtain ⟨b0, b1, b2, b3, b4, b5⟩ := HB.out _ (Keep.refl _)
          go_wp2_with fail
          refine (CNB.out _).mono ?_
          rintro e w1 ⟨rfl, hk1⟩
          go_wp2
          go_ret
          exact ⟨ret_bool (by rw [HON.out]; rfl), hkX.trans hk1⟩
        · go_enter Tryz.func47, Tryz.ntmps47
          go_wp2_with fail
          rw [← hX]
          clear hX
          refine (CW.out _).mono ?_
          rintro e _ ⟨rfl, rfl⟩
          obtain ⟨b0, b1, b2, b3, b4, b5⟩ := HB.out _ (Keep.refl _)
          go_wp2_with fail
          refine (CNB.out _).mono ?_
          rintro e w1 ⟨rfl, hk1⟩
          clear b0 b1 b2 b3 b4 b5
          obtain ⟨b0, b1, b2, b3, b4, b5⟩ := HB.out _ hk1
          go_wp2_with fail
          refine (CAN.out _ hk1).mono ?_
          rintro e w2 ⟨rfl, hk2⟩
          go_wp2
          go_ret
          exact ⟨ret_bool (by rw [HON.out, Bool.true_and]), (hkX.trans hk1).trans hk2⟩
      · have dr : decide ((0 : Int) < (r.length : Int)) = false := by simpa using hr0
        have dr' : decide (0 < r.length) = false := by simpa using hr0
        have HS := Lib.hid (show atomA f r l h = false by rw [HON.out, dr']; rfl)
        clear hr0
        go_enter Tryz.func47, Tryz.ntmps47
        go_wp2_with fail
        rw [← hX]
        clear hX
        refine (CW.out _).mono ?_
        rintro e _ ⟨rfl, rfl⟩
        obtain ⟨b0, b1, b2, b3, b4, b5⟩ := HB.out _ (Keep.refl _)
        go_wp2
        go_ret
        exact ⟨ret_bool HS.out.symm, hkX⟩
    · have qw := word_out (f := f) (by omega)
      have HS := Lib.hid (show atomA f r l h = false by
        rw [HON.out]
        by_cases h1 : 1 ≤ f
        · rw [decide_eq_false (show ¬ f ≤ 5 from fun h5 => hf ⟨h1, h5⟩)]; simp
        · rw [decide_eq_false h1]; simp)
      clear hf
      generalize st (word f) = wf at *
      go_enter Tryz.func47, Tryz.ntmps47
      go_wp2_with fail
      rw [← hX]
      clear hX
      refine (CW.out _).mono ?_
      rintro e _ ⟨rfl, rfl⟩
      go_wp2
      go_ret
      exact ⟨ret_bool HS.out.symm, hkX⟩
set_option maxHeartbeats 1000000 in
theorem notPart_any (e : ExprP) (RA OA : Option Addr) (rc oc : Nat) (w : World)
    (hR : ∀ W, Keep w W → Calls Tryz.prog 37 #[.agg #[.int .i64 (kind e), .int .i64 (field e), .slice RA (rs e).length rc, .float .f64 (lo e), .float .f64 (hi e), .slice OA (of e).length oc]] W fun e' w' => e' = .returned (.bool (right e)) ∧ Keep W w') :
    Calls Tryz.prog 66 #[.agg #[.int .i64 (kind e), .int .i64 (field e), .slice RA (rs e).length rc, .float .f64 (lo e), .float .f64 (hi e), .slice OA (of e).length oc]] w fun e' w' => e' = .returned (.bool (!(!(kind e == 0) && right e))) ∧ Keep w w' := by
  have HR := Lib.hid hR
  clear hR
  obtain ⟨k, f, r, l, h, o⟩ := e
  simp only [kind, field, rs, lo, hi, of] at HR ⊢
  obtain ⟨X, hX⟩ : ∃ X, X = w.alloc (.cells #[.int .i64 k, .int .i64 f, .slice RA r.length rc, .float .f64 l, .float .f64 h, .slice OA o.length oc] 35) := ⟨_, rfl⟩
  have hkX : Keep w X := by rw [hX]; exact (Keep.refl w).alloc _
  have hltX : w.heap.size < X.heap.size := by rw [hX]; simp
  have hEl : ElemAt X (.mk k f r l h o) RA OA rc oc w.heap.size 0 := by rw [hX]; exact ElemAt.new w (.mk k f r l h o) RA OA rc oc 35
  have HB := Lib.hid (show ∀ W, Keep X W → W.cell? ⟨w.heap.size, 0, none⟩ = some (.int .i64 k) ∧ W.cell? ⟨w.heap.size, 1, none⟩ = some (.int .i64 f) ∧ W.cell? ⟨w.heap.size, 2, none⟩ = some (.slice RA r.length rc) ∧ W.cell? ⟨w.heap.size, 3, none⟩ = some (.float .f64 l) ∧ W.cell? ⟨w.heap.size, 4, none⟩ = some (.float .f64 h) ∧ W.cell? ⟨w.heap.size, 5, none⟩ = some (.slice OA o.length oc) from fun W hk => hEl.kept hltX hk)
  clear hEl
  generalize right (.mk k f r l h o) = rr at *
  by_cases h0 : k = 0
  · have d0 : (k == 0) = true := by simpa using h0
    have HS := Lib.hid (show (!(!(k == 0) && rr)) = true by rw [d0]; rfl)
    clear h0
    go_enter Tryz.func66, Tryz.ntmps66
    go_wp2
    go_ret
    exact ⟨ret_bool HS.out.symm, by rw [← hX]; exact hkX⟩
  · have d0 : (k == 0) = false := by simpa using h0
    have HS := Lib.hid (show (!(!(k == 0) && rr)) = !rr by rw [d0]; rfl)
    clear h0
    go_enter Tryz.func66, Tryz.ntmps66
    go_wp2_with fail
    rw [← hX]
    clear hX
    refine (HR.out _ hkX).mono ?_
    rintro e w1 ⟨rfl, hk1⟩
    go_wp2
    go_ret
    exact ⟨ret_bool HS.out.symm, hkX.trans hk1⟩
set_option maxHeartbeats 1000000 in
theorem areParts_any (A : Option Addr) (c : Nat) (o : List ExprP) (w : World) (hn : o.length ≤ 1000000) (hO : Exs w A o)
    (hR : ∀ (W : World) (x : ExprP) (RA OA : Option Addr) (rc oc : Nat), Keep w W → x ∈ o → Ex W x RA OA → Calls Tryz.prog 37 #[.agg #[.int .i64 (kind x), .int .i64 (field x), .slice RA (rs x).length rc, .float .f64 (lo x), .float .f64 (hi x), .slice OA (of x).length oc]] W fun e' w' => e' = .returned (.bool (right x)) ∧ Keep W w') :
    Calls Tryz.prog 48 #[.slice A o.length c] w fun e w' => e = .returned (.bool (rightL o)) ∧ Keep w w' := by
  have eg := enters_of Tryz.func66 (by kernel_rfl) rfl
  have HC := Lib.hid (contains_any A c o 66 #[] (fun x => !(!(kind x == 0) && right x)) w hn hO eg (fun W x RA OA rc oc hk hm hx => notPart_any x RA OA rc oc W (fun V hV => hR V x RA OA rc oc (hk.trans hV) hm (hx.kept hV))))
  have HS := Lib.hid (show (!(o.any fun x => !(!(kind x == 0) && right x))) = rightL o by rw [rightL_all]; exact not_any o _)
  generalize (o.any fun x => !(!(kind x == 0) && right x)) = q at *
  clear hO hR eg
  go_enter Tryz.func48, Tryz.ntmps48
  go_wp2_with fail
  refine HC.out.mono ?_
  rintro e w1 ⟨rfl, hk⟩
  go_wp2
  go_ret
  exact ⟨ret_bool HS.out, hk⟩
set_option maxHeartbeats 8000000 in
theorem rightN : ∀ (N : Nat) (e : ExprP) (RA OA : Option Addr) (rc oc : Nat) (w : World), Tab w → dp e ≤ N → fits e → Ex w e RA OA →
    Calls Tryz.prog 37 #[.agg #[.int .i64 (kind e), .int .i64 (field e), .slice RA (rs e).length rc, .float .f64 (lo e), .float .f64 (hi e), .slice OA (of e).length oc]] w fun e' w' => e' = .returned (.bool (right e)) ∧ Keep w w' := by
  intro N
  induction N with
  | zero => intro e RA OA rc oc w _ hN; exact absurd (dp_pos e) (by omega)
  | succ N ih =>
    intro e RA OA rc oc w ht hN hfit hE
    have hsub := fun x (hx : x ∈ of e) => dp_of hx
    have CAt := Lib.hid (fun W (hW : Keep w W) => isAtom_any e RA OA rc oc W (ht.keep hW) hfit (hE.kept hW))
    have h64 : lo e < 18446744073709551616 ∧ hi e < 18446744073709551616 := by cases e; rw [fits] at hfit; exact hfit.2.1
    have CB := Lib.hid (fun W => isBare_any e RA OA rc oc W h64.1 h64.2)
    obtain ⟨k, f, r, l, h, o⟩ := e
    rw [fits] at hfit
    obtain ⟨⟨hrl, hol⟩, ⟨hl64, hh64⟩, hfo⟩ := hfit
    replace hfo := fitsL_mem hfo
    simp only [kind, field, rs, lo, hi, of] at hsub CAt CB ⊢
    obtain ⟨X, hX⟩ : ∃ X, X = w.alloc (.cells #[.int .i64 k, .int .i64 f, .slice RA r.length rc, .float .f64 l, .float .f64 h, .slice OA o.length oc] 35) := ⟨_, rfl⟩
    have hkX : Keep w X := by rw [hX]; exact (Keep.refl w).alloc _
    have hltX : w.heap.size < X.heap.size := by rw [hX]; simp
    have hEl : ElemAt X (.mk k f r l h o) RA OA rc oc w.heap.size 0 := by rw [hX]; exact ElemAt.new w (.mk k f r l h o) RA OA rc oc 35
    have HB := Lib.hid (show ∀ W, Keep X W → W.cell? ⟨w.heap.size, 0, none⟩ = some (.int .i64 k) ∧ W.cell? ⟨w.heap.size, 1, none⟩ = some (.int .i64 f) ∧ W.cell? ⟨w.heap.size, 2, none⟩ = some (.slice RA r.length rc) ∧ W.cell? ⟨w.heap.size, 3, none⟩ = some (.float .f64 l) ∧ W.cell? ⟨w.heap.size, 4, none⟩ = some (.float .f64 h) ∧ W.cell? ⟨w.heap.size, 5, none⟩ = some (.slice OA o.length oc) from fun W hk => hEl.kept hltX hk)
    have hO : Exs X OA o := (hE.kept hkX).exs
    have CA := Lib.hid (fun W (hW : Keep X W) => areParts_any OA oc o W hol (hO.kept hW) (fun V x RA' OA' rc' oc' hV hm hx => ih x RA' OA' rc' oc' V (ht.keep ((hkX.trans hW).trans hV)) (by have := hsub x hm; omega) (hfo x hm) hx))
    clear hEl hl64 hh64 hO hE hltX hrl hol hfo hsub ih h64
    by_cases k1 : k = 1
    · have d0 : (k == 0) = false := by simp; omega
      have d1 : (k == 1) = true := by simp; omega
      have d2 : (k == 2) = false := by simp; omega
      have d3 : (k == 3) = false := by simp; omega
      have d4 : (k == 4) = false := by simp; omega
      have HS := Lib.hid (show (atomA f r l h && o.length == 0) = right (.mk k f r l h o) by rw [right, if_pos k1, atomA_R])
      clear k1
      generalize atomA f r l h = pb at *
      cases pb
      · go_enter Tryz.func37, Tryz.ntmps37
        go_wp2_with fail
        rw [← hX]
        clear hX
        refine (CAt.out _ hkX).mono ?_
        rintro e w1 ⟨rfl, hk1⟩
        go_wp2
        go_ret
        exact ⟨ret_bool (by rw [← HS.out]; rfl), hkX.trans hk1⟩
      · by_cases hn : o.length = 0
        · have q8 : ((o.length : Int) == 0) = true := by simpa using hn
          have HS := Lib.hid (show right (.mk k f r l h o) = true by rw [← HS.out, show (o.length == 0) = true by simpa using hn]; rfl)
          clear hn
          go_enter Tryz.func37, Tryz.ntmps37
          go_wp2_with fail
          rw [← hX]
          clear hX
          refine (CAt.out _ hkX).mono ?_
          rintro e w1 ⟨rfl, hk1⟩
          obtain ⟨b0, b1, b2, b3, b4, b5⟩ := HB.out _ hk1
          go_wp2
          go_ret
          exact ⟨ret_bool HS.out.symm, hkX.trans hk1⟩
        · have q8 : ((o.length : Int) == 0) = false := by simpa using hn
          have HS := Lib.hid (show right (.mk k f r l h o) = false by rw [← HS.out, show (o.length == 0) = false by simpa using hn]; rfl)
          clear hn
          go_enter Tryz.func37, Tryz.ntmps37
          go_wp2_with fail
          rw [← hX]
          clear hX
          refine (CAt.out _ hkX).mono ?_
          rintro e w1 ⟨rfl, hk1⟩
          obtain ⟨b0, b1, b2, b3, b4, b5⟩ := HB.out _ hk1
          go_wp2
          go_ret
          exact ⟨ret_bool HS.out.symm, hkX.trans hk1⟩
    have HON := Lib.hid (show right (.mk k f r l h o) = ((f == 0 && (r.length == 0 && (plain l && plain h))) && (manyR k o.length && rightL o)) by rw [right, if_neg k1])
    generalize (f == 0 && (r.length == 0 && (plain l && plain h))) = pb at *
    clear CAt
    by_cases kk : k = 0
    · have d0 : (k == 0) = true := by simp; omega
      have d1 : (k == 1) = false := by simp; omega
      have d2 : (k == 2) = false := by simp; omega
      have d3 : (k == 3) = false := by simp; omega
      have d4 : (k == 4) = false := by simp; omega
      cases pb
      · have HS := Lib.hid (show right (.mk k f r l h o) = false by rw [HON.out]; rfl)
        clear kk
        go_enter Tryz.func37, Tryz.ntmps37
        go_wp2_with fail
        rw [← hX]
        clear hX
        refine (CB.out _).mono ?_
        rintro e w1 ⟨rfl, hk1⟩
        go_wp2
        go_ret
        exact ⟨ret_bool HS.out.symm, hkX.trans hk1⟩
      · by_cases hn : o.length = 0
        · have q8 : ((o.length : Int) == 0) = true := by simpa using hn
          have q8' : (o.length == 0) = true := by simpa using hn
          have HS := Lib.hid (show right (.mk k f r l h o) = true by
            rw [HON.out, manyR, if_pos kk, q8', List.eq_nil_of_length_eq_zero hn, rightL]; rfl)
          clear hn kk
          go_enter Tryz.func37, Tryz.ntmps37
          go_wp2_with fail
          rw [← hX]
          clear hX
          refine (CB.out _).mono ?_
          rintro e w1 ⟨rfl, hk1⟩
          obtain ⟨b0, b1, b2, b3, b4, b5⟩ := HB.out _ hk1
          go_wp2
          go_ret
          exact ⟨ret_bool HS.out.symm, hkX.trans hk1⟩
        · have q8 : ((o.length : Int) == 0) = false := by simpa using hn
          have q8' : (o.length == 0) = false := by simpa using hn
          have HS := Lib.hid (show right (.mk k f r l h o) = false by rw [HON.out, manyR, if_pos kk, q8']; rfl)
          clear hn kk
          go_enter Tryz.func37, Tryz.ntmps37
          go_wp2_with fail
          rw [← hX]
          clear hX
          refine (CB.out _).mono ?_
          rintro e w1 ⟨rfl, hk1⟩
          obtain ⟨b0, b1, b2, b3, b4, b5⟩ := HB.out _ hk1
          go_wp2
          go_ret
          exact ⟨ret_bool HS.out.symm, hkX.trans hk1⟩
    have k0 := kk
    clear kk
    by_cases kk : k = 2
    · have d0 : (k == 0) = false := by simp; omega
      have d1 : (k == 1) = false := by simp; omega
      have d2 : (k == 2) = true := by simp; omega
      have d3 : (k == 3) = false := by simp; omega
      have d4 : (k == 4) = false := by simp; omega
      clear k0 k1
      cases pb
      · have HS := Lib.hid (show right (.mk k f r l h o) = false by rw [HON.out]; rfl)
        clear kk
        go_enter Tryz.func37, Tryz.ntmps37
        go_wp2_with fail
        rw [← hX]
        clear hX
        refine (CB.out _).mono ?_
        rintro e w1 ⟨rfl, hk1⟩
        go_wp2
        go_ret
        exact ⟨ret_bool HS.out.symm, hkX.trans hk1⟩
      · by_cases hn : o.length = 1
        · have q8 : ((o.length : Int) == 1) = true := by first | (simpa using hn) | (simp; omega)
          have q9 : (o.length == 1) = true := by simpa using hn
          have HS := Lib.hid (show right (.mk k f r l h o) = rightL o by rw [HON.out, manyR, if_neg (by omega), if_pos kk, show (o.length == 1) = true by first | (simpa using hn) | (simp; omega)]; rfl)
          clear hn kk q9
          go_enter Tryz.func37, Tryz.ntmps37
          go_wp2_with fail
          rw [← hX]
          clear hX
          refine (CB.out _).mono ?_
          rintro e w1 ⟨rfl, hk1⟩
          obtain ⟨b0, b1, b2, b3, b4, b5⟩ := HB.out _ hk1
          go_wp2_with fail
          refine (CA.out _ hk1).mono ?_
          rintro e w2 ⟨rfl, hk2⟩
          go_wp2
          go_ret
          exact ⟨ret_bool HS.out.symm, (hkX.trans hk1).trans hk2⟩
        · have q8 : ((o.length : Int) == 1) = false := by first | (simpa using hn) | (simp; omega)
          have q9 : (o.length == 1) = false := by simpa using hn
          have HS := Lib.hid (show right (.mk k f r l h o) = false by rw [HON.out, manyR, if_neg (by omega), if_pos kk, show (o.length == 1) = false by first | (simpa using hn) | (simp; omega)]; rfl)
          clear hn kk q9
          go_enter Tryz.func37, Tryz.ntmps37
          go_wp2_with fail
          rw [← hX]
          clear hX
          refine (CB.out _).mono ?_
          rintro e w1 ⟨rfl, hk1⟩
          obtain ⟨b0, b1, b2, b3, b4, b5⟩ := HB.out _ hk1
          go_wp2
          go_ret
          exact ⟨ret_bool HS.out.symm, hkX.trans hk1⟩
    have k2 := kk
    clear kk
    by_cases kk : k = 3
    · have d0 : (k == 0) = false := by simp; omega
      have d1 : (k == 1) = false := by simp; omega
      have d2 : (k == 2) = false := by simp; omega
      have d3 : (k == 3) = true := by simp; omega
      have d4 : (k == 4) = false := by simp; omega
      clear k0 k1 k2
      cases pb
      · have HS := Lib.hid (show right (.mk k f r l h o) = false by rw [HON.out]; rfl)
        clear kk
        go_enter Tryz.func37, Tryz.ntmps37
        go_wp2_with fail
        rw [← hX]
        clear hX
        refine (CB.out _).mono ?_
        rintro e w1 ⟨rfl, hk1⟩
        go_wp2
        go_ret
        exact ⟨ret_bool HS.out.symm, hkX.trans hk1⟩
      · by_cases hn : 1 < o.length
        · have q8 : decide ((1 : Int) < (o.length : Int)) = true := by first | (simpa using hn) | (simp; omega)
          have q9 : decide (1 < o.length) = true := by simpa using hn
          have HS := Lib.hid (show right (.mk k f r l h o) = rightL o by rw [HON.out, manyR, if_neg (by omega), if_neg (by omega), if_pos (by omega), show decide (2 ≤ o.length) = true by first | (simpa using hn) | (simp; omega)]; rfl)
          clear hn kk q9
          go_enter Tryz.func37, Tryz.ntmps37
          go_wp2_with fail
          rw [← hX]
          clear hX
          refine (CB.out _).mono ?_
          rintro e w1 ⟨rfl, hk1⟩
          obtain ⟨b0, b1, b2, b3, b4, b5⟩ := HB.out _ hk1
          go_wp2_with fail
          refine (CA.out _ hk1).mono ?_
          rintro e w2 ⟨rfl, hk2⟩
          go_wp2
          go_ret
          exact ⟨ret_bool HS.out.symm, (hkX.trans hk1).trans hk2⟩
        · have q8 : decide ((1 : Int) < (o.length : Int)) = false := by first | (simpa using hn) | (simp; omega)
          have q9 : decide (1 < o.length) = false := by simpa using hn
          have HS := Lib.hid (show right (.mk k f r l h o) = false by rw [HON.out, manyR, if_neg (by omega), if_neg (by omega), if_pos (by omega), show decide (2 ≤ o.length) = false by first | (simpa using hn) | (simp; omega)]; rfl)
          clear hn kk q9
          go_enter Tryz.func37, Tryz.ntmps37
          go_wp2_with fail
          rw [← hX]
          clear hX
          refine (CB.out _).mono ?_
          rintro e w1 ⟨rfl, hk1⟩
          obtain ⟨b0, b1, b2, b3, b4, b5⟩ := HB.out _ hk1
          go_wp2
          go_ret
          exact ⟨ret_bool HS.out.symm, hkX.trans hk1⟩
    have k3 := kk
    clear kk
    by_cases kk : k = 4
    · have d0 : (k == 0) = false := by simp; omega
      have d1 : (k == 1) = false := by simp; omega
      have d2 : (k == 2) = false := by simp; omega
      have d3 : (k == 3) = false := by simp; omega
      have d4 : (k == 4) = true := by simp; omega
      clear k0 k1 k2 k3
      cases pb
      · have HS := Lib.hid (show right (.mk k f r l h o) = false by rw [HON.out]; rfl)
        clear kk
        go_enter Tryz.func37, Tryz.ntmps37
        go_wp2_with fail
        rw [← hX]
        clear hX
        refine (CB.out _).mono ?_
        rintro e w1 ⟨rfl, hk1⟩
        go_wp2
        go_ret
        exact ⟨ret_bool HS.out.symm, hkX.trans hk1⟩
      · by_cases hn : 1 < o.length
        · have q8 : decide ((1 : Int) < (o.length : Int)) = true := by first | (simpa using hn) | (simp; omega)
          have q9 : decide (1 < o.length) = true := by simpa using hn
          have HS := Lib.hid (show right (.mk k f r l h o) = rightL o by rw [HON.out, manyR, if_neg (by omega), if_neg (by omega), if_pos (by omega), show decide (2 ≤ o.length) = true by first | (simpa using hn) | (simp; omega)]; rfl)
          clear hn kk q9
          go_enter Tryz.func37, Tryz.ntmps37
          go_wp2_with fail
          rw [← hX]
          clear hX
          refine (CB.out _).mono ?_
          rintro e w1 ⟨rfl, hk1⟩
          obtain ⟨b0, b1, b2, b3, b4, b5⟩ := HB.out _ hk1
          go_wp2_with fail
          refine (CA.out _ hk1).mono ?_
          rintro e w2 ⟨rfl, hk2⟩
          go_wp2
          go_ret
          exact ⟨ret_bool HS.out.symm, (hkX.trans hk1).trans hk2⟩
        · have q8 : decide ((1 : Int) < (o.length : Int)) = false := by first | (simpa using hn) | (simp; omega)
          have q9 : decide (1 < o.length) = false := by simpa using hn
          have HS := Lib.hid (show right (.mk k f r l h o) = false by rw [HON.out, manyR, if_neg (by omega), if_neg (by omega), if_pos (by omega), show decide (2 ≤ o.length) = false by first | (simpa using hn) | (simp; omega)]; rfl)
          clear hn kk q9
          go_enter Tryz.func37, Tryz.ntmps37
          go_wp2_with fail
          rw [← hX]
          clear hX
          refine (CB.out _).mono ?_
          rintro e w1 ⟨rfl, hk1⟩
          obtain ⟨b0, b1, b2, b3, b4, b5⟩ := HB.out _ hk1
          go_wp2
          go_ret
          exact ⟨ret_bool HS.out.symm, hkX.trans hk1⟩
    have d0 : (k == 0) = false := by simp; omega
    have d1 : (k == 1) = false := by simp; omega
    have d2 : (k == 2) = false := by simp; omega
    have d3 : (k == 3) = false := by simp; omega
    have d4 : (k == 4) = false := by simp; omega
    have HS := Lib.hid (show right (.mk k f r l h o) = false by rw [HON.out, manyR, if_neg k0, if_neg k2, if_neg (by omega)]; simp)
    clear k0 k1 k2 k3 kk
    go_enter Tryz.func37, Tryz.ntmps37
    go_wp2
    go_ret
    exact ⟨ret_bool HS.out.symm, by rw [← hX]; exact hkX⟩
theorem right_any (e : ExprP) (RA OA : Option Addr) (rc oc : Nat) (w : World) (ht : Tab w) (hfit : fits e) (hE : Ex w e RA OA) :
    Calls Tryz.prog 37 #[.agg #[.int .i64 (kind e), .int .i64 (field e), .slice RA (rs e).length rc, .float .f64 (lo e), .float .f64 (hi e), .slice OA (of e).length oc]] w fun e' w' => e' = .returned (.bool (right e)) ∧ Keep w w' := rightN _ e RA OA rc oc w ht (Nat.le_refl _) hfit hE
end Go.Proofs.YtdkeibgfehblaaaGreatDoor.Tree
/- The developers' tree: which expressions, and which rules, are the same, in memory. Conditions: lists at most a million. -/
namespace Go.Proofs.YtdkeibgfehblaaaGreatDoor.Tree
set_option linter.unusedVariables false
open Go.ChangeShapes Go.WideShapes Go.ChangeAt Go.RowKit
open Tr
open Go.Proofs.YtdkeibgfehblaaaGreatDoor.Fp (sameB)
open Go.Proofs.YtdkeibgfehblaaaGreatDoor.Re (tOk tL)
/-- Are both lists the same, one by one? -/
def eqL {α : Type} (p : α → α → Bool) : List α → List α → Bool
  | [], [] => true
  | a :: l, b :: m => p a b && eqL p l m
  | [], _ :: _ => false
  | _ :: _, [] => false
theorem eqL_len {α : Type} (p : α → α → Bool) : ∀ l m : List α, l.length ≠ m.length → eqL p l m = false
  | [], [], h => absurd rfl h
  | [], b :: m, _ => by rw [eqL]
  | a :: l, [], _ => by rw [eqL]
  | a :: l, b :: m, h => by rw [eqL, eqL_len p l m (by simpa using h), Bool.and_false]
theorem eqL_at {α : Type} (p : α → α → Bool) (z : α) : ∀ (l m : List α) (k : Nat), l.length = m.length → k < l.length → eqL p (l.drop k) (m.drop k) = (p (l.getD k z) (m.getD k z) && eqL p (l.drop (k + 1)) (m.drop (k + 1)))
  | a :: l, b :: m, 0, _, _ => by
    show eqL p (a :: l) (b :: m) = _
    rw [eqL]; rfl
  | a :: l, b :: m, k + 1, h, hk => eqL_at p z l m k (by simpa using h) (by simpa using hk)
theorem eqL_nil {α : Type} (p : α → α → Bool) (l m : List α) (h : l.length = m.length) : eqL p (l.drop l.length) (m.drop l.length) = true := by
  rw [List.drop_eq_nil_of_le (Nat.le_refl _), h, List.drop_eq_nil_of_le (Nat.le_refl _), eqL]
theorem eqL_same : ∀ l m : List ExprP, eqL same l m = sameL l m
  | [], [] => by rw [eqL, sameL]
  | [], b :: m => by rw [eqL, sameL]
  | a :: l, [] => by rw [eqL, sameL]
  | a :: l, b :: m => by rw [eqL, sameL, eqL_same l m]
theorem eqL_rules : ∀ l m : List RuleP, eqL rule1 l m = rules l m
  | [], [] => by rw [eqL, rules]
  | [], b :: m => by simp [eqL, rules]
  | a :: l, [] => by simp [eqL, rules]
  | a :: l, b :: m => by rw [eqL, rules, eqL_rules l m]
/-- What is asked of a comparison of two elements. -/
def TestsX (g : Nat) (lb : Array Value) (p : ExprP → ExprP → Bool) (o o' : List ExprP) (w : World) : Prop :=
  ∀ (W : World) (x x' : ExprP) (RA OA : Option Addr) (rc oc : Nat) (RA' OA' : Option Addr) (rc' oc' : Nat), Keep w W → x ∈ o → x' ∈ o' → Ex W x RA OA → Ex W x' RA' OA' →
    Calls Tryz.prog g (#[.agg #[.int .i64 (kind x), .int .i64 (field x), .slice RA (rs x).length rc, .float .f64 (lo x), .float .f64 (hi x), .slice OA (of x).length oc], .agg #[.int .i64 (kind x'), .int .i64 (field x'), .slice RA' (rs x').length rc', .float .f64 (lo x'), .float .f64 (hi x'), .slice OA' (of x').length oc']] ++ lb) W fun e w' => e = .returned (.bool (p x x')) ∧ Keep W w'
set_option maxHeartbeats 4000000 in
theorem equal_any (A : Option Addr) (c : Nat) (o : List ExprP) (A' : Option Addr) (c' : Nat) (o' : List ExprP) (g : Nat) (lb : Array Value) (p : ExprP → ExprP → Bool) (w : World) (hn : o.length ≤ 1000000) (hn' : o'.length ≤ 1000000) (hO : Exs w A o) (hO' : Exs w A' o')
    (eg : ∀ args w, (callFunc g args).run Tryz.prog w = .ok (.enter g args) w) (hp : TestsX g lb p o o' w) :
    Calls Tryz.prog 53 #[.slice A o.length c, .slice A' o'.length c', .func (.func g) #[] lb] w fun e w' => e = .returned (.bool (eqL p o o')) ∧ Keep w w' := by
  by_cases hl : o.length = o'.length
  · have HL := Lib.hid hl
    have q1 : ((o.length : Int) != (o'.length : Int)) = false := by rw [hl]; simp
    have q2 : ((o.length : Int) == (o'.length : Int)) = true := by rw [hl]; simp
    clear hl
    go_enter Tryz.func53, Tryz.ntmps53
    go_wp2
    go_loopw [17] (fun iv wr => ∃ j : Nat, j ≤ o.length ∧ iv = .int .i64 j ∧ Keep w wr ∧ Hid (eqL p o o' = eqL p (o.drop j) (o'.drop j))) (fun iv _ => o.length - (intOf iv).toNat)
    case atStart => exact ⟨0, Nat.zero_le _, rfl, Keep.refl _, rfl⟩
    case round =>
      obtain ⟨j, hj, rfl, hk, hall⟩ := hrel
      by_cases hlt : j < o.length
      · have hi1 : (j : Int) < o.length := by omega
        have hj0 : (0 : Int) ≤ j := by omega
        have hlt' : j < o'.length := by have := HL.out; omega
        have hi1' : (j : Int) < o'.length := by omega
        have hOw := hO.kept hk
        have hOw' := hO'.kept hk
        obtain ⟨b, off, rfl, hbb⟩ := hOw.addr (by omega)
        obtain ⟨b', off', rfl, hbb'⟩ := hOw'.addr (by omega)
        obtain ⟨_, RA, OA, rc, oc, hx6, hx⟩ := hOw.elem j hlt
        obtain ⟨_, RA', OA', rc', oc', hy6, hy⟩ := hOw'.elem j hlt'
        have hmem := getD_mem zero o j hlt
        have hmem' := getD_mem zero o' j hlt'
        have HA := Lib.hid (hall.out.trans (eqL_at p zero o o' j HL.out hlt))
        have HC := Lib.hid (show ∀ W, Keep wr W → Calls Tryz.prog g (#[.agg #[.int .i64 (kind (o.getD j zero)), .int .i64 (field (o.getD j zero)), .slice RA (rs (o.getD j zero)).length rc, .float .f64 (lo (o.getD j zero)), .float .f64 (hi (o.getD j zero)), .slice OA (of (o.getD j zero)).length oc], .agg #[.int .i64 (kind (o'.getD j zero)), .int .i64 (field (o'.getD j zero)), .slice RA' (rs (o'.getD j zero)).length rc', .float .f64 (lo (o'.getD j zero)), .float .f64 (hi (o'.getD j zero)), .slice OA' (of (o'.getD j zero)).length oc']] ++ lb) W fun e w' => e = .returned (.bool (p (o.getD j zero) (o'.getD j zero))) ∧ Keep W w' from
          fun W hW => hp W _ _ RA OA rc oc RA' OA' rc' oc' (hk.trans hW) hmem hmem' (hx.kept hW) (hy.kept hW))
        generalize o.getD j zero = x at *
        generalize o'.getD j zero = y at *
        obtain ⟨x0, x1, x2, x3, x4, x5⟩ := hx6
        have hsf := store_float Tryz.prog
        have hkB := fun O => Keep.alloc (Keep.refl wr) O
        have y0 := fun O => (hy6.kept (W' := wr.alloc O) hbb' (hkB O)).1
        have y1 := fun O => (hy6.kept (W' := wr.alloc O) hbb' (hkB O)).2.1
        have y2 := fun O => (hy6.kept (W' := wr.alloc O) hbb' (hkB O)).2.2.1
        have y3 := fun O => (hy6.kept (W' := wr.alloc O) hbb' (hkB O)).2.2.2.1
        have y4 := fun O => (hy6.kept (W' := wr.alloc O) hbb' (hkB O)).2.2.2.2.1
        have y5 := fun O => (hy6.kept (W' := wr.alloc O) hbb' (hkB O)).2.2.2.2.2
        clear hx hy hmem hmem' hOw hOw' hall hy6
        cases hv : p x y with
        | true =>
          rw [hv] at HC
          have HV := Lib.hid (show eqL p o o' = eqL p (o.drop (j + 1)) (o'.drop (j + 1)) by rw [HA.out, hv]; rfl)
          clear hv HA
          go_wp2_with fail
          refine (HC.out _ ((hkB _).alloc _)).mono ?_
          rintro e w2 ⟨rfl, hk2⟩
          go_wp2
          go_roundw
          case rel => exact ⟨j + 1, by omega, by go_num, hk.trans (((hkB _).alloc _).trans hk2), HV⟩
          case measure => simp [intOf]; omega
        | false =>
          rw [hv] at HC
          have HV := Lib.hid (show eqL p o o' = false by rw [HA.out, hv]; rfl)
          clear hv HA
          go_wp2_with fail
          refine (HC.out _ ((hkB _).alloc _)).mono ?_
          rintro e w2 ⟨rfl, hk2⟩
          go_wp2
          go_ret
          exact ⟨ret_bool HV.out.symm, hk.trans (((hkB _).alloc _).trans hk2)⟩
      · obtain rfl : j = o.length := by omega
        have HV := Lib.hid (hall.out.trans (eqL_nil p o o' HL.out))
        go_wp2
        go_ret
        exact ⟨ret_bool HV.out.symm, hk⟩
  · have HS := Lib.hid (eqL_len p o o' hl)
    have q1 : ((o.length : Int) != (o'.length : Int)) = true := by simp; omega
    have q2 : ((o.length : Int) == (o'.length : Int)) = false := by simp; omega
    clear hl
    go_enter Tryz.func53, Tryz.ntmps53
    go_wp2
    go_ret
    exact ⟨ret_bool HS.out.symm, Keep.refl _⟩
set_option maxHeartbeats 8000000 in
theorem sameN : ∀ (N : Nat) (e e' : ExprP) (RA OA : Option Addr) (rc oc : Nat) (RA' OA' : Option Addr) (rc' oc' : Nat) (w : World), dp e ≤ N → fits e → fits e' → Ex w e RA OA → Ex w e' RA' OA' →
    Calls Tryz.prog 41 #[.agg #[.int .i64 (kind e), .int .i64 (field e), .slice RA (rs e).length rc, .float .f64 (lo e), .float .f64 (hi e), .slice OA (of e).length oc], .agg #[.int .i64 (kind e'), .int .i64 (field e'), .slice RA' (rs e').length rc', .float .f64 (lo e'), .float .f64 (hi e'), .slice OA' (of e').length oc']] w fun e₁ w' => e₁ = .returned (.bool (same e e')) ∧ Keep w w' := by
  intro N
  induction N with
  | zero => intro e e' RA OA rc oc RA' OA' rc' oc' w hN; exact absurd (dp_pos e) (by omega)
  | succ N ih =>
    intro e e' RA OA rc oc RA' OA' rc' oc' w hN hfit hfit' hE hE'
    have hsub := fun x (hx : x ∈ of e) => dp_of hx
    obtain ⟨k, f, r, l, h, o⟩ := e
    obtain ⟨k', f', r', l', h', o'⟩ := e'
    rw [fits] at hfit hfit'
    obtain ⟨⟨hrl, hol⟩, ⟨hl64, hh64⟩, hfo⟩ := hfit
    obtain ⟨⟨hrl', hol'⟩, ⟨hl64', hh64'⟩, hfo'⟩ := hfit'
    replace hfo := fitsL_mem hfo
    replace hfo' := fitsL_mem hfo'
    simp only [kind, field, rs, lo, hi, of] at hsub ⊢
    have HON := Lib.hid (show same (.mk k f r l h o) (.mk k' f' r' l' h' o') = (k == k' && (f == f' && (decide (r = r') && (sameB l l' && (sameB h h' && sameL o o'))))) by rw [same])
    obtain ⟨Y, hY⟩ : ∃ Y, Y = w.alloc (.cells #[.int .i64 k, .int .i64 f, .slice RA r.length rc, .float .f64 l, .float .f64 h, .slice OA o.length oc] 35) := ⟨_, rfl⟩
    obtain ⟨X, hX⟩ : ∃ X, X = Y.alloc (.cells #[.int .i64 k', .int .i64 f', .slice RA' r'.length rc', .float .f64 l', .float .f64 h', .slice OA' o'.length oc'] 35) := ⟨_, rfl⟩
    have hkY : Keep w Y := by rw [hY]; exact (Keep.refl w).alloc _
    have hYX : Keep Y X := by rw [hX]; exact (Keep.refl Y).alloc _
    have hkX : Keep w X := hkY.trans hYX
    have hsY : Y.heap.size = w.heap.size + 1 := by rw [hY]; simp
    have hltY : w.heap.size < Y.heap.size := by omega
    have hltX : Y.heap.size < X.heap.size := by rw [hX]; simp
    have hEl : ElemAt X (.mk k f r l h o) RA OA rc oc w.heap.size 0 := by
      have : ElemAt Y (.mk k f r l h o) RA OA rc oc w.heap.size 0 := by rw [hY]; exact ElemAt.new w (.mk k f r l h o) RA OA rc oc 35
      exact this.kept hltY hYX
    have hEl' : ElemAt X (.mk k' f' r' l' h' o') RA' OA' rc' oc' (w.heap.size + 1) 0 := by
      rw [← hsY, hX]; exact ElemAt.new Y (.mk k' f' r' l' h' o') RA' OA' rc' oc' 35
    have HB := Lib.hid (show ∀ W, Keep X W → W.cell? ⟨w.heap.size, 0, none⟩ = some (.int .i64 k) ∧ W.cell? ⟨w.heap.size, 1, none⟩ = some (.int .i64 f) ∧ W.cell? ⟨w.heap.size, 2, none⟩ = some (.slice RA r.length rc) ∧ W.cell? ⟨w.heap.size, 3, none⟩ = some (.float .f64 l) ∧ W.cell? ⟨w.heap.size, 4, none⟩ = some (.float .f64 h) ∧ W.cell? ⟨w.heap.size, 5, none⟩ = some (.slice OA o.length oc) from fun W hk => hEl.kept (by omega) hk)
    have HD := Lib.hid (show ∀ W, Keep X W → W.cell? ⟨w.heap.size + 1, 0, none⟩ = some (.int .i64 k') ∧ W.cell? ⟨w.heap.size + 1, 1, none⟩ = some (.int .i64 f') ∧ W.cell? ⟨w.heap.size + 1, 2, none⟩ = some (.slice RA' r'.length rc') ∧ W.cell? ⟨w.heap.size + 1, 3, none⟩ = some (.float .f64 l') ∧ W.cell? ⟨w.heap.size + 1, 4, none⟩ = some (.float .f64 h') ∧ W.cell? ⟨w.heap.size + 1, 5, none⟩ = some (.slice OA' o'.length oc') from fun W hk => hEl'.kept (by omega) hk)
    rw [hY] at hX
    have hR := (hE.kept hkX).1
    have hR' := (hE'.kept hkX).1
    have hO : Exs X OA o := (hE.kept hkX).exs
    have hO' : Exs X OA' o' := (hE'.kept hkX).exs
    simp only [rs] at hR hR'
    have CS := Lib.hid (fun W (hW : Keep X W) => Span.same_any RA r.length rc r RA' r'.length rc' r' W hrl hrl' (hR.kept hW) (hR'.kept hW))
    have CL := Lib.hid (fun W => Re.same_any l l' hl64 hl64' W)
    have CH := Lib.hid (fun W => Re.same_any h h' hh64 hh64' W)
    have eg := enters_of Tryz.func41 (by kernel_rfl) rfl
    have CE := Lib.hid (show ∀ W, Keep X W → Calls Tryz.prog 53 #[.slice OA o.length oc, .slice OA' o'.length oc', .func (.func 41) #[] #[]] W fun e w' => e = .returned (.bool (sameL o o')) ∧ Keep W w' from fun W hW => by
      rw [← eqL_same]
      exact equal_any OA oc o OA' oc' o' 41 #[] same W hol hol' (hO.kept hW) (hO'.kept hW) eg (fun V x x' RA OA rc oc RA' OA' rc' oc' hV hm hm' hx hx' => ih x x' RA OA rc oc RA' OA' rc' oc' V (by have := hsub x hm; omega) (hfo x hm) (hfo' x' hm') hx hx'))
    clear hEl hEl' hl64 hh64 hl64' hh64' hfo hfo' hsub ih hR hR' hO hO' hE hE' eg hltX hltY hYX hkY hsY hY
    by_cases hkk : k = k'
    · have d0 : (k == k') = true := by simpa using hkk
      by_cases hff : f = f'
      · have d1 : (f == f') = true := by simpa using hff
        have HON := Lib.hid (show same (.mk k f r l h o) (.mk k' f' r' l' h' o') = (decide (r = r') && (sameB l l' && (sameB h h' && sameL o o'))) by rw [HON.out, d0, d1]; rfl)
        clear hkk hff
        generalize decide (r = r') = br at *
        generalize sameB l l' = bl at *
        generalize sameB h h' = bh at *
        generalize sameL o o' = bo at *
        cases br
        · have HS := Lib.hid (show same (.mk k f r l h o) (.mk k' f' r' l' h' o') = false by rw [HON.out]; rfl)
          go_enter Tryz.func41, Tryz.ntmps41
          go_wp2_with fail
          rw [← hX]
          clear hX
          refine (CS.out _ (Keep.refl _)).mono ?_
          rintro e w1 ⟨rfl, hq⟩
          have hk1 := hq.keep
          go_wp2
          go_ret
          exact ⟨ret_bool HS.out.symm, hkX.trans hk1⟩
        · cases bl
          · have HS := Lib.hid (show same (.mk k f r l h o) (.mk k' f' r' l' h' o') = false by rw [HON.out]; rfl)
            go_enter Tryz.func41, Tryz.ntmps41
            go_wp2_with fail
            rw [← hX]
            clear hX
            refine (CS.out _ (Keep.refl _)).mono ?_
            rintro e w1 ⟨rfl, hq⟩
            have hk1 := hq.keep
            obtain ⟨b0, b1, b2, b3, b4, b5⟩ := HB.out _ hk1
            obtain ⟨d0, d1, d2, d3, d4, d5⟩ := HD.out _ hk1
            go_wp2_with fail
            refine (CL.out _).mono ?_
            rintro e _ ⟨rfl, rfl⟩
            go_wp2
            go_ret
            exact ⟨ret_bool HS.out.symm, hkX.trans hk1⟩
          · cases bh
            · have HS := Lib.hid (show same (.mk k f r l h o) (.mk k' f' r' l' h' o') = false by rw [HON.out]; rfl)
              go_enter Tryz.func41, Tryz.ntmps41
              go_wp2_with fail
              rw [← hX]
              clear hX
              refine (CS.out _ (Keep.refl _)).mono ?_
              rintro e w1 ⟨rfl, hq⟩
              have hk1 := hq.keep
              obtain ⟨b0, b1, b2, b3, b4, b5⟩ := HB.out _ hk1
              obtain ⟨d0, d1, d2, d3, d4, d5⟩ := HD.out _ hk1
              go_wp2_with fail
              refine (CL.out _).mono ?_
              rintro e _ ⟨rfl, rfl⟩
              go_wp2_with fail
              refine (CH.out _).mono ?_
              rintro e _ ⟨rfl, rfl⟩
              go_wp2
              go_ret
              exact ⟨ret_bool HS.out.symm, hkX.trans hk1⟩
            · have HS := Lib.hid (show same (.mk k f r l h o) (.mk k' f' r' l' h' o') = bo by rw [HON.out]; simp)
              go_enter Tryz.func41, Tryz.ntmps41
              go_wp2_with fail
              rw [← hX]
              clear hX
              refine (CS.out _ (Keep.refl _)).mono ?_
              rintro e w1 ⟨rfl, hq⟩
              have hk1 := hq.keep
              obtain ⟨b0, b1, b2, b3, b4, b5⟩ := HB.out _ hk1
              obtain ⟨d0, d1, d2, d3, d4, d5⟩ := HD.out _ hk1
              go_wp2_with fail
              refine (CL.out _).mono ?_
              rintro e _ ⟨rfl, rfl⟩
              go_wp2_with fail
              refine (CH.out _).mono ?_
              rintro e _ ⟨rfl, rfl⟩
              go_wp2_with fail
              refine (CE.out _ hk1).mono ?_
              rintro e w2 ⟨rfl, hk2⟩
              go_wp2
              go_ret
              exact ⟨ret_bool HS.out.symm, (hkX.trans hk1).trans hk2⟩
      · have d1 : (f == f') = false := by simpa using hff
        have HS := Lib.hid (show same (.mk k f r l h o) (.mk k' f' r' l' h' o') = false by rw [HON.out, d0, d1]; rfl)
        clear hkk hff
        go_enter Tryz.func41, Tryz.ntmps41
        go_wp2
        go_ret
        exact ⟨ret_bool HS.out.symm, by rw [← hX]; exact hkX⟩
    · have d0 : (k == k') = false := by simpa using hkk
      have HS := Lib.hid (show same (.mk k f r l h o) (.mk k' f' r' l' h' o') = false by rw [HON.out, d0]; rfl)
      clear hkk
      go_enter Tryz.func41, Tryz.ntmps41
      go_wp2
      go_ret
      exact ⟨ret_bool HS.out.symm, by rw [← hX]; exact hkX⟩
theorem same_any (e e' : ExprP) (RA OA : Option Addr) (rc oc : Nat) (RA' OA' : Option Addr) (rc' oc' : Nat) (w : World) (ht : Tab w) (hfit : fits e) (hfit' : fits e') (hE : Ex w e RA OA) (hE' : Ex w e' RA' OA') :
    Calls Tryz.prog 41 #[.agg #[.int .i64 (kind e), .int .i64 (field e), .slice RA (rs e).length rc, .float .f64 (lo e), .float .f64 (hi e), .slice OA (of e).length oc], .agg #[.int .i64 (kind e'), .int .i64 (field e'), .slice RA' (rs e').length rc', .float .f64 (lo e'), .float .f64 (hi e'), .slice OA' (of e').length oc']] w fun e₁ w' => e₁ = .returned (.bool (same e e')) ∧ Keep w w' := sameN _ e e' RA OA rc oc RA' OA' rc' oc' w (Nat.le_refl _) hfit hfit' hE hE'
/-- What is asked of a comparison of two elements. -/
def TestsR (g : Nat) (lb : Array Value) (p : RuleP → RuleP → Bool) (o o' : List RuleP) (w : World) : Prop :=
  ∀ (W : World) (x x' : RuleP) (RA OA : Option Addr) (rc oc : Nat) (RA' OA' : Option Addr) (rc' oc' : Nat), Keep w W → x ∈ o → x' ∈ o' → Ex W x.when_ RA OA → Ex W x'.when_ RA' OA' →
    Calls Tryz.prog g (#[.agg #[.bool x.allow, .int .i64 (kind x.when_), .int .i64 (field x.when_), .slice RA (rs x.when_).length rc, .float .f64 (lo x.when_), .float .f64 (hi x.when_), .slice OA (of x.when_).length oc, .int .i64 x.num, .int .i64 x.per, .int .i64 x.burst, .int .i64 x.line], .agg #[.bool x'.allow, .int .i64 (kind x'.when_), .int .i64 (field x'.when_), .slice RA' (rs x'.when_).length rc', .float .f64 (lo x'.when_), .float .f64 (hi x'.when_), .slice OA' (of x'.when_).length oc', .int .i64 x'.num, .int .i64 x'.per, .int .i64 x'.burst, .int .i64 x'.line]] ++ lb) W fun e w' => e = .returned (.bool (p x x')) ∧ Keep W w'
end Go.Proofs.YtdkeibgfehblaaaGreatDoor.Tree
