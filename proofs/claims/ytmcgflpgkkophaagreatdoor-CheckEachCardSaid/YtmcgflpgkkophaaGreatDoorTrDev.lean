/- Several texts in one: TrB, TrC, TrD, TrE, TrF, TrG, TrH, TrK, Tr. Conditions: as each part says. -/
import Derived.Test.YtmcgflpgkkophaaGreatDoorTrRu
import Derived.Test.YtmcgflpgkkophaaGreatDoorGuAll
import Derived.Test.YtmcgflpgkkophaaGreatDoorSpAll
import Derived.Shelf.Abstract
import Derived.Test.YtmcgflpgkkophaaGreatDoorBld
import Derived.Test.YtmcgflpgkkophaaGreatDoorTail
/- The developers' tree: which expressions may be. Conditions: lists at most a million. -/
namespace Go.Proofs.YtmcgflpgkkophaaGreatDoor.Tree
set_option linter.unusedVariables false
open Go.ChangeShapes Go.WideShapes Go.ChangeAt Go.RowKit
open Tr
open Go.Proofs.YtmcgflpgkkophaaGreatDoor.Fp (sameB)
open Go.Proofs.YtmcgflpgkkophaaGreatDoor.Re (tOk tL)
theorem isNumber_any (n : Int) (w : World) (ht : Tab w) : Calls Tryz.prog 82 #[.int .i64 n] w fun e w' => e = .returned (.bool (numR n)) ∧ Keep w w' := by
  have HC := Lib.hid (Guard.put_any n w ht)
  go_enter Tryz.func82, Tryz.ntmps82
  go_wp2_with fail
  refine HC.out.mono ?_
  rintro e w1 ⟨rfl, hk⟩
  go_wp2
  go_ret
  exact ⟨rfl, hk⟩
theorem isBound_any (b : Nat) (hb : b < 18446744073709551616) (w : World) (ht : Tab w) : Calls Tryz.prog 99 #[.float .f64 b] w fun e w' => e = .returned (.bool (tOk b)) ∧ Keep w w' := by
  have HC := Lib.hid (Re.text_any b hb w ht)
  go_enter Tryz.func99, Tryz.ntmps99
  go_wp2_with fail
  refine HC.out.mono ?_
  rintro e w1 ⟨rfl, hk⟩
  go_wp2
  go_ret
  exact ⟨rfl, hk⟩
theorem word_any (f : Int) (w : World) : Calls Tryz.prog 100 #[.int .i64 f] w fun e w' => e = .returned (.string (st (word f))) ∧ w = w' := by
  go_enter Tryz.func100, Tryz.ntmps100
  go_wp2
  all_goals (go_ret; refine ⟨?_, rfl⟩; simp_all [word, st])
set_option maxHeartbeats 1000000 in
theorem hasNoBounds_any (e : ExprP) (RA OA : Option Addr) (rc oc : Nat) (w : World) (hl64 : lo e < 18446744073709551616) (hh64 : hi e < 18446744073709551616) :
    Calls Tryz.prog 98 #[.agg #[.int .i64 (kind e), .int .i64 (field e), .slice RA (rs e).length rc, .float .f64 (lo e), .float .f64 (hi e), .slice OA (of e).length oc]] w fun e' w' => e' = .returned (.bool (plain (lo e) && plain (hi e))) ∧ Keep w w' := by
  obtain ⟨k, f, r, l, h, o⟩ := e
  simp only [kind, field, rs, lo, hi, of] at hl64 hh64 ⊢
  obtain ⟨X, hX⟩ : ∃ X, X = w.alloc (.cells #[.int .i64 k, .int .i64 f, .slice RA r.length rc, .float .f64 l, .float .f64 h, .slice OA o.length oc] 32) := ⟨_, rfl⟩
  have hkX : Keep w X := by rw [hX]; exact (Keep.refl w).alloc _
  have hltX : w.heap.size < X.heap.size := by rw [hX]; simp
  have hEl : ElemAt X (.mk k f r l h o) RA OA rc oc w.heap.size 0 := by rw [hX]; exact ElemAt.new w (.mk k f r l h o) RA OA rc oc 32
  have HB := Lib.hid (show ∀ W, Keep X W → W.cell? ⟨w.heap.size, 0, none⟩ = some (.int .i64 k) ∧ W.cell? ⟨w.heap.size, 1, none⟩ = some (.int .i64 f) ∧ W.cell? ⟨w.heap.size, 2, none⟩ = some (.slice RA r.length rc) ∧ W.cell? ⟨w.heap.size, 3, none⟩ = some (.float .f64 l) ∧ W.cell? ⟨w.heap.size, 4, none⟩ = some (.float .f64 h) ∧ W.cell? ⟨w.heap.size, 5, none⟩ = some (.slice OA o.length oc) from fun W hk => hEl.kept hltX hk)
  have CL := Lib.hid (show ∀ W, Calls Tryz.prog 110 #[.float .f64 l, .float .f64 0] W fun e w' => e = .returned (.bool (plain l)) ∧ W = w' from fun W => Re.same_any l 0 hl64 (by omega) W)
  have CH := Lib.hid (show ∀ W, Calls Tryz.prog 110 #[.float .f64 h, .float .f64 0] W fun e w' => e = .returned (.bool (plain h)) ∧ W = w' from fun W => Re.same_any h 0 hh64 (by omega) W)
  generalize plain l = bl at *
  generalize plain h = bh at *
  clear hEl hl64 hh64
  cases bl
  · go_enter Tryz.func98, Tryz.ntmps98
    go_wp2_with fail
    rw [← hX]
    clear hX
    refine (CL.out _).mono ?_
    rintro e _ ⟨rfl, rfl⟩
    go_wp2
    go_ret
    exact ⟨rfl, hkX⟩
  · go_enter Tryz.func98, Tryz.ntmps98
    go_wp2_with fail
    rw [← hX]
    clear hX
    refine (CL.out _).mono ?_
    rintro e _ ⟨rfl, rfl⟩
    obtain ⟨b0, b1, b2, b3, b4, b5⟩ := HB.out _ (Keep.refl _)
    go_wp2_with fail
    refine (CH.out _).mono ?_
    rintro e _ ⟨rfl, rfl⟩
    go_wp2
    go_ret
    rw [Bool.true_and]
    exact ⟨rfl, hkX⟩
set_option maxHeartbeats 2000000 in
theorem isBare_any (e : ExprP) (RA OA : Option Addr) (rc oc : Nat) (w : World) (hl64 : lo e < 18446744073709551616) (hh64 : hi e < 18446744073709551616) :
    Calls Tryz.prog 79 #[.agg #[.int .i64 (kind e), .int .i64 (field e), .slice RA (rs e).length rc, .float .f64 (lo e), .float .f64 (hi e), .slice OA (of e).length oc]] w fun e' w' => e' = .returned (.bool (field e == 0 && ((rs e).length == 0 && (plain (lo e) && plain (hi e))))) ∧ Keep w w' := by
  have CN := Lib.hid (fun W => hasNoBounds_any e RA OA rc oc W hl64 hh64)
  obtain ⟨k, f, r, l, h, o⟩ := e
  simp only [kind, field, rs, lo, hi, of] at CN hl64 hh64 ⊢
  clear hl64 hh64
  obtain ⟨X, hX⟩ : ∃ X, X = w.alloc (.cells #[.int .i64 k, .int .i64 f, .slice RA r.length rc, .float .f64 l, .float .f64 h, .slice OA o.length oc] 32) := ⟨_, rfl⟩
  have hkX : Keep w X := by rw [hX]; exact (Keep.refl w).alloc _
  have hltX : w.heap.size < X.heap.size := by rw [hX]; simp
  have hEl : ElemAt X (.mk k f r l h o) RA OA rc oc w.heap.size 0 := by rw [hX]; exact ElemAt.new w (.mk k f r l h o) RA OA rc oc 32
  have HB := Lib.hid (show ∀ W, Keep X W → W.cell? ⟨w.heap.size, 0, none⟩ = some (.int .i64 k) ∧ W.cell? ⟨w.heap.size, 1, none⟩ = some (.int .i64 f) ∧ W.cell? ⟨w.heap.size, 2, none⟩ = some (.slice RA r.length rc) ∧ W.cell? ⟨w.heap.size, 3, none⟩ = some (.float .f64 l) ∧ W.cell? ⟨w.heap.size, 4, none⟩ = some (.float .f64 h) ∧ W.cell? ⟨w.heap.size, 5, none⟩ = some (.slice OA o.length oc) from fun W hk => hEl.kept hltX hk)
  clear hEl
  generalize (plain l && plain h) = pb at *
  by_cases h0 : f = 0
  · have q0 : (f == 0) = true := by simpa using h0
    by_cases hr : r.length = 0
    · have dr : ((r.length : Int) == 0) = true := by simpa using hr
      have dr' : (r.length == 0) = true := by simpa using hr
      have HS := Lib.hid (show (f == 0 && (r.length == 0 && pb)) = pb by rw [q0, dr']; simp)
      clear h0 hr
      go_enter Tryz.func79, Tryz.ntmps79
      go_wp2_with fail
      rw [← hX]
      clear hX
      refine (CN.out _).mono ?_
      rintro e w1 ⟨rfl, hk1⟩
      go_wp2
      go_ret
      exact ⟨ret_bool HS.out.symm, hkX.trans hk1⟩
    · have dr : ((r.length : Int) == 0) = false := by simpa using hr
      have dr' : (r.length == 0) = false := by simpa using hr
      have HS := Lib.hid (show (f == 0 && (r.length == 0 && pb)) = false by rw [q0, dr']; simp)
      clear h0 hr
      go_enter Tryz.func79, Tryz.ntmps79
      go_wp2
      go_ret
      exact ⟨ret_bool HS.out.symm, by rw [← hX]; exact hkX⟩
  · have q0 : (f == 0) = false := by simpa using h0
    have HS := Lib.hid (show (f == 0 && (r.length == 0 && pb)) = false by rw [q0]; simp)
    clear h0
    go_enter Tryz.func79, Tryz.ntmps79
    go_wp2
    go_ret
    exact ⟨ret_bool HS.out.symm, by rw [← hX]; exact hkX⟩
set_option maxHeartbeats 1000000 in
theorem badRange_any (a b : Int) (w : World) (ht : Tab w) : Calls Tryz.prog 112 #[.agg #[.int .i64 a, .int .i64 b]] w fun e w' => e = .returned (.bool (!(numR a && numR b))) ∧ Keep w w' := by
  obtain ⟨X, hX⟩ : ∃ X, X = w.alloc (.cells #[.int .i64 a, .int .i64 b] 86) := ⟨_, rfl⟩
  have hkX : Keep w X := by rw [hX]; exact (Keep.refl w).alloc _
  have hltX : w.heap.size < X.heap.size := by rw [hX]; simp
  have c0 : X.cell? ⟨w.heap.size, 0, none⟩ = some (.int .i64 a) := by rw [hX, World.cell?_alloc_at (hn := rfl)]; rfl
  have c1 : X.cell? ⟨w.heap.size, 1, none⟩ = some (.int .i64 b) := by rw [hX, World.cell?_alloc_at (hn := rfl)]; rfl
  have CA := Lib.hid (isNumber_any a X (ht.keep hkX))
  have CB := Lib.hid (fun W (hW : Keep X W) => isNumber_any b W ((ht.keep hkX).keep hW))
  have HC := Lib.hid (fun W (hW : Keep X W) => (Below.cell hW (p := ⟨w.heap.size, 1, none⟩) hltX).trans c1)
  generalize numR a = na at *
  generalize numR b = nb at *
  clear ht hltX
  cases na
  · go_enter Tryz.func112, Tryz.ntmps112
    go_wp2_with fail
    rw [← hX]
    clear hX
    refine CA.out.mono ?_
    rintro e w1 ⟨rfl, hk1⟩
    go_wp2
    go_ret
    exact ⟨rfl, hkX.trans hk1⟩
  · go_enter Tryz.func112, Tryz.ntmps112
    go_wp2_with fail
    rw [← hX]
    clear hX
    refine CA.out.mono ?_
    rintro e w1 ⟨rfl, hk1⟩
    have c1' := HC.out _ hk1
    go_wp2_with fail
    refine (CB.out _ hk1).mono ?_
    rintro e w2 ⟨rfl, hk2⟩
    go_wp2
    go_ret
    rw [Bool.true_and]
    exact ⟨rfl, (hkX.trans hk1).trans hk2⟩
theorem not_any {α : Type} (l : List α) (p : α → Bool) : (!(l.any fun x => !p x)) = l.all p := by
  induction l with
  | nil => rfl
  | cons a l ih => rw [List.any_cons, List.all_cons, ← ih]; cases p a <;> simp
set_option maxHeartbeats 1000000 in
theorem areNumbers_any (A : Option Addr) (c : Nat) (r : List (Int × Int)) (w : World) (ht : Tab w) (hn : r.length ≤ 1000000) (hA : Row encP 2 w w.heap.size A r.length r) :
    Calls Tryz.prog 101 #[.slice A r.length c] w fun e w' => e = .returned (.bool (rangesR r)) ∧ Keep w w' := by
  have eg := enters_of Tryz.func112 (by kernel_rfl) rfl
  have HC := Lib.hid (Span.contains_any A r.length c r 112 #[] (fun p => !(numR p.1 && numR p.2)) w hn hA eg (fun W x1 x2 hk => badRange_any x1 x2 W (ht.keep hk)))
  have HS := Lib.hid (show (!(r.any fun p => !(numR p.1 && numR p.2))) = rangesR r from not_any r _)
  generalize (r.any fun p => !(numR p.1 && numR p.2)) = q at *
  clear hA ht eg
  go_enter Tryz.func101, Tryz.ntmps101
  go_wp2_with fail
  refine HC.out.mono ?_
  rintro e w1 ⟨rfl, hk⟩
  go_wp2
  go_ret
  exact ⟨ret_bool HS.out, hk⟩
end Go.Proofs.YtmcgflpgkkophaaGreatDoor.Tree
/- The developers' tree: which expressions may be, in memory. Conditions: lists at most a million. -/
namespace Go.Proofs.YtmcgflpgkkophaaGreatDoor.Tree
set_option linter.unusedVariables false
open Go.ChangeShapes Go.WideShapes Go.ChangeAt Go.RowKit
open Tr
open Go.Proofs.YtmcgflpgkkophaaGreatDoor.Fp (sameB)
open Go.Proofs.YtmcgflpgkkophaaGreatDoor.Re (tOk tL)
def atomA (f : Int) (r : List (Int × Int)) (l h : Nat) : Bool :=
  if f = 6 then r.length == 0 && (tOk l && tOk h) else (decide (1 ≤ f) && decide (f ≤ 5)) && (decide (0 < r.length) && ((plain l && plain h) && rangesR r))
theorem atomA_R (f : Int) (r : List (Int × Int)) (l h n : Nat) : (atomA f r l h && n == 0) = atomR f r l h n := by
  unfold atomA atomR
  by_cases hn : n = 0
  · have e1 : (n == 0) = true := by simpa using hn
    rw [e1, Bool.and_true, Bool.true_and]
    by_cases h6 : f = 6
    · subst h6
      simp
    · rw [if_neg h6, if_neg h6]
      by_cases h1 : 1 ≤ f
      · rw [decide_eq_true h1, Bool.true_and, Bool.true_and]
        by_cases h5 : f ≤ 5
        · rw [decide_eq_true h5, decide_eq_true (show f ≤ 6 by omega), Bool.true_and, Bool.true_and]
          by_cases hr : r.length = 0
          · rw [decide_eq_false (show ¬ 0 < r.length by omega), show (r.length == 0) = true by simpa using hr]; simp
          · rw [decide_eq_true (show 0 < r.length by omega), show (r.length == 0) = false by simpa using hr]; simp [Bool.and_comm]
        · rw [decide_eq_false h5, decide_eq_false (show ¬ f ≤ 6 by omega)]; simp
      · rw [decide_eq_false h1]; simp
  · have e1 : (n == 0) = false := by simpa using hn
    rw [e1]; simp
theorem word_in {f : Int} (h : 1 ≤ f ∧ f ≤ 5) : (st (word f)).toList.isEmpty = false := by
  rw [toList_eq]
  have : f = 1 ∨ f = 2 ∨ f = 3 ∨ f = 4 ∨ f = 5 := by omega
  rcases this with rfl | rfl | rfl | rfl | rfl <;> rfl
theorem word_out {f : Int} (h : f < 1 ∨ 5 < f) : (st (word f)).toList.isEmpty = true := by
  rw [toList_eq, word, if_neg (by omega), if_neg (by omega), if_neg (by omega), if_neg (by omega), if_neg (by omega)]; rfl
set_option maxHeartbeats 4000000 in
theorem isAtom_any (e : ExprP) (RA OA : Option Addr) (rc oc : Nat) (w : World) (ht : Tab w) (hfit : fits e) (hE : Ex w e RA OA) :
    Calls Tryz.prog 80 #[.agg #[.int .i64 (kind e), .int .i64 (field e), .slice RA (rs e).length rc, .float .f64 (lo e), .float .f64 (hi e), .slice OA (of e).length oc]] w fun e' w' => e' = .returned (.bool (atomA (field e) (rs e) (lo e) (hi e))) ∧ Keep w w' := by
  obtain ⟨k, f, r, l, h, o⟩ := e
  rw [fits] at hfit
  obtain ⟨⟨hrl, hol⟩, ⟨hl64, hh64⟩, _⟩ := hfit
  simp only [kind, field, rs, lo, hi, of]
  obtain ⟨X, hX⟩ : ∃ X, X = w.alloc (.cells #[.int .i64 k, .int .i64 f, .slice RA r.length rc, .float .f64 l, .float .f64 h, .slice OA o.length oc] 32) := ⟨_, rfl⟩
  have hkX : Keep w X := by rw [hX]; exact (Keep.refl w).alloc _
  have hltX : w.heap.size < X.heap.size := by rw [hX]; simp
  have hEl : ElemAt X (.mk k f r l h o) RA OA rc oc w.heap.size 0 := by rw [hX]; exact ElemAt.new w (.mk k f r l h o) RA OA rc oc 32
  have HB := Lib.hid (show ∀ W, Keep X W → W.cell? ⟨w.heap.size, 0, none⟩ = some (.int .i64 k) ∧ W.cell? ⟨w.heap.size, 1, none⟩ = some (.int .i64 f) ∧ W.cell? ⟨w.heap.size, 2, none⟩ = some (.slice RA r.length rc) ∧ W.cell? ⟨w.heap.size, 3, none⟩ = some (.float .f64 l) ∧ W.cell? ⟨w.heap.size, 4, none⟩ = some (.float .f64 h) ∧ W.cell? ⟨w.heap.size, 5, none⟩ = some (.slice OA o.length oc) from fun W hk => hEl.kept hltX hk)
  have hRX := (hE.kept hkX).1
  simp only [rs] at hRX
  have htX := ht.keep hkX
  have CBL := Lib.hid (fun W (hW : Keep X W) => isBound_any l hl64 W (htX.keep hW))
  have CBH := Lib.hid (fun W (hW : Keep X W) => isBound_any h hh64 W (htX.keep hW))
  have CNB := Lib.hid (fun W => hasNoBounds_any (.mk k f r l h o) RA OA rc oc W hl64 hh64)
  have CAN := Lib.hid (fun W (hW : Keep X W) => areNumbers_any RA rc r W (htX.keep hW) hrl (hRX.kept hW))
  have CW := Lib.hid (fun W => word_any f W)
  simp only [kind, field, rs, lo, hi, of] at CNB
  clear hEl hl64 hh64 htX hRX hE hltX
  by_cases h6 : f = 6
  · have d6 : (f == 6) = true := by simpa using h6
    have HON := Lib.hid (show atomA f r l h = (r.length == 0 && (tOk l && tOk h)) by rw [atomA, if_pos h6])
    clear h6
    by_cases hr0 : r.length = 0
    · have dr : ((r.length : Int) == 0) = true := by simpa using hr0
      have dr' : (r.length == 0) = true := by simpa using hr0
      have HON := Lib.hid (show atomA f r l h = (tOk l && tOk h) by rw [HON.out, dr', Bool.true_and])
      clear hr0
      generalize tOk l = bl at *
      generalize tOk h = bh at *
      cases bl
      · go_enter Tryz.func80, Tryz.ntmps80
        go_wp2_with fail
        rw [← hX]
        clear hX
        refine (CBL.out _ (Keep.refl _)).mono ?_
        rintro e w1 ⟨rfl, hk1⟩
        go_wp2
        go_ret
        exact ⟨ret_bool (by rw [HON.out]; rfl), hkX.trans hk1⟩
      · go_enter Tryz.func80, Tryz.ntmps80
        go_wp2_with fail
        rw [← hX]
        clear hX
        refine (CBL.out _ (Keep.refl _)).mono ?_
        rintro e w1 ⟨rfl, hk1⟩
        obtain ⟨b0, b1, b2, b3, b4, b5⟩ := HB.out _ hk1
        go_wp2_with fail
        refine (CBH.out _ hk1).mono ?_
        rintro e w2 ⟨rfl, hk2⟩
        go_wp2
        go_ret
        exact ⟨ret_bool (by rw [HON.out, Bool.true_and]), (hkX.trans hk1).trans hk2⟩
    · have dr : ((r.length : Int) == 0) = false := by simpa using hr0
      have dr' : (r.length == 0) = false := by simpa using hr0
      have HS := Lib.hid (show atomA f r l h = false by rw [HON.out, dr']; rfl)
      clear hr0
      go_enter Tryz.func80, Tryz.ntmps80
      go_wp2
      go_ret
      exact ⟨ret_bool HS.out.symm, by rw [← hX]; exact hkX⟩
  · have d6 : (f == 6) = false := by simpa using h6
    have HON := Lib.hid (show atomA f r l h = ((decide (1 ≤ f) && decide (f ≤ 5)) && (decide (0 < r.length) && ((plain l && plain h) && rangesR r))) by rw [atomA, if_neg h6])
    clear h6
    by_cases hf : 1 ≤ f ∧ f ≤ 5
    · have qw := word_in hf
      have HON := Lib.hid (show atomA f r l h = (decide (0 < r.length) && ((plain l && plain h) && rangesR r)) by rw [HON.out, decide_eq_true hf.1, decide_eq_true hf.2]; rfl)
      clear hf
      generalize st (word f) = wf at *
      by_cases hr0 : 0 < r.length
      · have dr : decide ((0 : Int) < (r.length : Int)) = true := by simpa using hr0
        have dr' : decide (0 < r.length) = true := by simpa using hr0
        have HON := Lib.hid (show atomA f r l h = ((plain l && plain h) && rangesR r) by rw [HON.out, dr', Bool.true_and])
        clear hr0
        generalize (plain l && plain h) = pb at *
        generalize rangesR r = rr at *
        cases pb
        · go_enter Tryz.func80, Tryz.ntmps80
          go_wp2_with fail
          rw [← hX]
          clear hX
          refine (CW.out _).mono ?_
          rintro e _ ⟨rfl, rfl⟩
          obtain ⟨b0, b1, b2, b3, b4, b5⟩ := HB.out _ (Keep.refl _)
          go_wp2_with fail
          refine (CNB.out _).mono ?_
          rintro e w1 ⟨rfl, hk1⟩
          go_wp2
          go_ret
          exact ⟨ret_bool (by rw [HON.out]; rfl), hkX.trans hk1⟩
        · go_enter Tryz.func80, Tryz.ntmps80
          go_wp2_with fail
          rw [← hX]
          clear hX
          refine (CW.out _).mono ?_
          rintro e _ ⟨rfl, rfl⟩
          obtain ⟨b0, b1, b2, b3, b4, b5⟩ := HB.out _ (Keep.refl _)
          go_wp2_with fail
          refine (CNB.out _).mono ?_
          rintro e w1 ⟨rfl, hk1⟩
          clear b0 b1 b2 b3 b4 b5
          obtain ⟨b0, b1, b2, b3, b4, b5⟩ := HB.out _ hk1
          go_wp2_with fail
          refine (CAN.out _ hk1).mono ?_
          rintro e w2 ⟨rfl, hk2⟩
          go_wp2
          go_ret
          exact ⟨ret_bool (by rw [HON.out, Bool.true_and]), (hkX.trans hk1).trans hk2⟩
      · have dr : decide ((0 : Int) < (r.length : Int)) = false := by simpa using hr0
        have dr' : decide (0 < r.length) = false := by simpa using hr0
        have HS := Lib.hid (show atomA f r l h = false by rw [HON.out, dr']; rfl)
        clear hr0
        go_enter Tryz.func80, Tryz.ntmps80
        go_wp2_with fail
        rw [← hX]
        clear hX
        refine (CW.out _).mono ?_
        rintro e _ ⟨rfl, rfl⟩
        obtain ⟨b0, b1, b2, b3, b4, b5⟩ := HB.out _ (Keep.refl _)
        go_wp2
        go_ret
        exact ⟨ret_bool HS.out.symm, hkX⟩
    · have qw := word_out (f := f) (by omega)
      have HS := Lib.hid (show atomA f r l h = false by
        rw [HON.out]
        by_cases h1 : 1 ≤ f
        · rw [decide_eq_false (show ¬ f ≤ 5 from fun h5 => hf ⟨h1, h5⟩)]; simp
        · rw [decide_eq_false h1]; simp)
      clear hf
      generalize st (word f) = wf at *
      go_enter Tryz.func80, Tryz.ntmps80
      go_wp2_with fail
      rw [← hX]
      clear hX
      refine (CW.out _).mono ?_
      rintro e _ ⟨rfl, rfl⟩
      go_wp2
      go_ret
      exact ⟨ret_bool HS.out.symm, hkX⟩
/-- What is asked of a test of an expression of a list. -/
def Tests (g : Nat) (lb : Array Value) (p : ExprP → Bool) (o : List ExprP) (w : World) : Prop :=
  ∀ (W : World) (x : ExprP) (RA OA : Option Addr) (rc oc : Nat), Keep w W → x ∈ o → Ex W x RA OA → Calls Tryz.prog g (#[.agg #[.int .i64 (kind x), .int .i64 (field x), .slice RA (rs x).length rc, .float .f64 (lo x), .float .f64 (hi x), .slice OA (of x).length oc]] ++ lb) W fun e w' => e = .returned (.bool (p x)) ∧ Keep W w'
theorem any_snoc {α : Type} (p : α → Bool) (z : α) (l : List α) (k : Nat) (h : k < l.length) : (l.take (k + 1)).any p = ((l.take k).any p || p (l.getD k z)) := by
  rw [take_snoc z l k h]; simp
theorem any_yes {α : Type} (p : α → Bool) (z : α) (l : List α) (k : Nat) (h : k < l.length) (hp : p (l.getD k z) = true) : l.any p = true := by
  rw [List.any_eq_true]
  exact ⟨_, getD_mem z l k h, hp⟩
set_option maxHeartbeats 1000000 in
theorem index_any (A : Option Addr) (c : Nat) (o : List ExprP) (g : Nat) (lb : Array Value) (p : ExprP → Bool) (w : World) (hn : o.length ≤ 1000000) (hO : Exs w A o)
    (eg : ∀ args w, (callFunc g args).run Tryz.prog w = .ok (.enter g args) w) (hp : Tests g lb p o w) :
    Calls Tryz.prog 47 #[.slice A o.length c, .func (.func g) #[] lb] w fun e w' => ∃ i : Int, e = .returned (.int .i64 i) ∧ decide (0 ≤ i) = o.any p ∧ Keep w w' := by
  go_enter Tryz.func47, Tryz.ntmps47
  go_wp2
  go_loopw [8] (fun i wr => ∃ k : Nat, k ≤ o.length ∧ i = .int .i64 k ∧ Keep w wr ∧ Hid ((o.take k).any p = false)) (fun i _ => o.length - (intOf i).toNat)
  case atStart => exact ⟨0, Nat.zero_le _, rfl, Keep.refl _, rfl⟩
  case round =>
    obtain ⟨j, hj, rfl, hk, hall⟩ := hrel
    by_cases hlt : j < o.length
    · have hi1 : (j : Int) < o.length := by omega
      have hj0 : (0 : Int) ≤ j := by omega
      have hOw := hO.kept hk
      obtain ⟨b, off, rfl, hbb⟩ := hOw.addr (by omega)
      obtain ⟨_, RA', OA', rc', oc', hx6, hx⟩ := hOw.elem j hlt
      have hmem := getD_mem zero o j hlt
      have HA := Lib.hid (any_snoc p zero o j hlt)
      have HY := Lib.hid (any_yes p zero o j hlt)
      have hcall := hp wr _ RA' OA' rc' oc' hk hmem hx
      generalize o.getD j zero = x at *
      obtain ⟨x0, x1, x2, x3, x4, x5⟩ := hx6
      clear hx hmem hOw
      cases hv : p x with
      | true =>
        rw [hv] at hcall
        have HV := Lib.hid (HY.out hv)
        clear hv HY HA
        go_wp2_with fail
        refine hcall.mono ?_
        rintro e w1 ⟨rfl, hk1⟩
        go_wp2
        go_ret
        exact ⟨j, rfl, by rw [HV.out]; simp, hk.trans hk1⟩
      | false =>
        rw [hv] at hcall
        have HV := Lib.hid (show (o.take (j + 1)).any p = false by rw [HA.out, hall.out, hv]; rfl)
        clear hv HY HA
        go_wp2_with fail
        refine hcall.mono ?_
        rintro e w1 ⟨rfl, hk1⟩
        go_wp2
        go_roundw
        case rel => exact ⟨j + 1, by omega, by go_num, hk.trans hk1, HV⟩
        case measure => simp [intOf]; omega
    · obtain rfl : j = o.length := by omega
      have e := hall.out
      rw [List.take_length] at e
      have HE := Lib.hid e
      clear e
      go_wp2
      go_ret
      exact ⟨-1, rfl, by rw [HE.out]; rfl, hk⟩
set_option maxHeartbeats 1000000 in
theorem contains_any (A : Option Addr) (c : Nat) (o : List ExprP) (g : Nat) (lb : Array Value) (p : ExprP → Bool) (w : World) (hn : o.length ≤ 1000000) (hO : Exs w A o)
    (eg : ∀ args w, (callFunc g args).run Tryz.prog w = .ok (.enter g args) w) (hp : Tests g lb p o w) :
    Calls Tryz.prog 22 #[.slice A o.length c, .func (.func g) #[] lb] w fun e w' => e = .returned (.bool (o.any p)) ∧ Keep w w' := by
  have hcon := index_any A c o g lb p w hn hO eg hp
  generalize o.any p = r at *
  clear hp hO
  go_enter Tryz.func22, Tryz.ntmps22
  go_wp2_with fail
  refine hcon.mono ?_
  rintro e w1 ⟨i, rfl, hi, hk⟩
  have HI := Lib.hid hi
  clear hi hcon
  go_wp2
  go_ret
  exact ⟨ret_bool HI.out, hk⟩
set_option maxHeartbeats 1000000 in
theorem notPart_any (e : ExprP) (RA OA : Option Addr) (rc oc : Nat) (w : World)
    (hR : ∀ W, Keep w W → Calls Tryz.prog 62 #[.agg #[.int .i64 (kind e), .int .i64 (field e), .slice RA (rs e).length rc, .float .f64 (lo e), .float .f64 (hi e), .slice OA (of e).length oc]] W fun e' w' => e' = .returned (.bool (right e)) ∧ Keep W w') :
    Calls Tryz.prog 102 #[.agg #[.int .i64 (kind e), .int .i64 (field e), .slice RA (rs e).length rc, .float .f64 (lo e), .float .f64 (hi e), .slice OA (of e).length oc]] w fun e' w' => e' = .returned (.bool (!(!(kind e == 0) && right e))) ∧ Keep w w' := by
  have HR := Lib.hid hR
  clear hR
  obtain ⟨k, f, r, l, h, o⟩ := e
  simp only [kind, field, rs, lo, hi, of] at HR ⊢
  obtain ⟨X, hX⟩ : ∃ X, X = w.alloc (.cells #[.int .i64 k, .int .i64 f, .slice RA r.length rc, .float .f64 l, .float .f64 h, .slice OA o.length oc] 32) := ⟨_, rfl⟩
  have hkX : Keep w X := by rw [hX]; exact (Keep.refl w).alloc _
  have hltX : w.heap.size < X.heap.size := by rw [hX]; simp
  have hEl : ElemAt X (.mk k f r l h o) RA OA rc oc w.heap.size 0 := by rw [hX]; exact ElemAt.new w (.mk k f r l h o) RA OA rc oc 32
  have HB := Lib.hid (show ∀ W, Keep X W → W.cell? ⟨w.heap.size, 0, none⟩ = some (.int .i64 k) ∧ W.cell? ⟨w.heap.size, 1, none⟩ = some (.int .i64 f) ∧ W.cell? ⟨w.heap.size, 2, none⟩ = some (.slice RA r.length rc) ∧ W.cell? ⟨w.heap.size, 3, none⟩ = some (.float .f64 l) ∧ W.cell? ⟨w.heap.size, 4, none⟩ = some (.float .f64 h) ∧ W.cell? ⟨w.heap.size, 5, none⟩ = some (.slice OA o.length oc) from fun W hk => hEl.kept hltX hk)
  clear hEl
  generalize right (.mk k f r l h o) = rr at *
  by_cases h0 : k = 0
  · have d0 : (k == 0) = true := by simpa using h0
    have HS := Lib.hid (show (!(!(k == 0) && rr)) = true by rw [d0]; rfl)
    clear h0
    go_enter Tryz.func102, Tryz.ntmps102
    go_wp2
    go_ret
    exact ⟨ret_bool HS.out.symm, by rw [← hX]; exact hkX⟩
  · have d0 : (k == 0) = false := by simpa using h0
    have HS := Lib.hid (show (!(!(k == 0) && rr)) = !rr by rw [d0]; rfl)
    clear h0
    go_enter Tryz.func102, Tryz.ntmps102
    go_wp2_with fail
    rw [← hX]
    clear hX
    refine (HR.out _ hkX).mono ?_
    rintro e w1 ⟨rfl, hk1⟩
    go_wp2
    go_ret
    exact ⟨ret_bool HS.out.symm, hkX.trans hk1⟩
set_option maxHeartbeats 1000000 in
theorem areParts_any (A : Option Addr) (c : Nat) (o : List ExprP) (w : World) (hn : o.length ≤ 1000000) (hO : Exs w A o)
    (hR : ∀ (W : World) (x : ExprP) (RA OA : Option Addr) (rc oc : Nat), Keep w W → x ∈ o → Ex W x RA OA → Calls Tryz.prog 62 #[.agg #[.int .i64 (kind x), .int .i64 (field x), .slice RA (rs x).length rc, .float .f64 (lo x), .float .f64 (hi x), .slice OA (of x).length oc]] W fun e' w' => e' = .returned (.bool (right x)) ∧ Keep W w') :
    Calls Tryz.prog 81 #[.slice A o.length c] w fun e w' => e = .returned (.bool (rightL o)) ∧ Keep w w' := by
  have eg := enters_of Tryz.func102 (by kernel_rfl) rfl
  have HC := Lib.hid (contains_any A c o 102 #[] (fun x => !(!(kind x == 0) && right x)) w hn hO eg (fun W x RA OA rc oc hk hm hx => notPart_any x RA OA rc oc W (fun V hV => hR V x RA OA rc oc (hk.trans hV) hm (hx.kept hV))))
  have HS := Lib.hid (show (!(o.any fun x => !(!(kind x == 0) && right x))) = rightL o by rw [rightL_all]; exact not_any o _)
  generalize (o.any fun x => !(!(kind x == 0) && right x)) = q at *
  clear hO hR eg
  go_enter Tryz.func81, Tryz.ntmps81
  go_wp2_with fail
  refine HC.out.mono ?_
  rintro e w1 ⟨rfl, hk⟩
  go_wp2
  go_ret
  exact ⟨ret_bool HS.out, hk⟩
set_option maxHeartbeats 8000000 in
theorem rightN : ∀ (N : Nat) (e : ExprP) (RA OA : Option Addr) (rc oc : Nat) (w : World), Tab w → dp e ≤ N → fits e → Ex w e RA OA →
    Calls Tryz.prog 62 #[.agg #[.int .i64 (kind e), .int .i64 (field e), .slice RA (rs e).length rc, .float .f64 (lo e), .float .f64 (hi e), .slice OA (of e).length oc]] w fun e' w' => e' = .returned (.bool (right e)) ∧ Keep w w' := by
  intro N
  induction N with
  | zero => intro e RA OA rc oc w _ hN; exact absurd (dp_pos e) (by omega)
  | succ N ih =>
    intro e RA OA rc oc w ht hN hfit hE
    have hsub := fun x (hx : x ∈ of e) => dp_of hx
    have CAt := Lib.hid (fun W (hW : Keep w W) => isAtom_any e RA OA rc oc W (ht.keep hW) hfit (hE.kept hW))
    have h64 : lo e < 18446744073709551616 ∧ hi e < 18446744073709551616 := by cases e; rw [fits] at hfit; exact hfit.2.1
    have CB := Lib.hid (fun W => isBare_any e RA OA rc oc W h64.1 h64.2)
    obtain ⟨k, f, r, l, h, o⟩ := e
    rw [fits] at hfit
    obtain ⟨⟨hrl, hol⟩, ⟨hl64, hh64⟩, hfo⟩ := hfit
    replace hfo := fitsL_mem hfo
    simp only [kind, field, rs, lo, hi, of] at hsub CAt CB ⊢
    obtain ⟨X, hX⟩ : ∃ X, X = w.alloc (.cells #[.int .i64 k, .int .i64 f, .slice RA r.length rc, .float .f64 l, .float .f64 h, .slice OA o.length oc] 32) := ⟨_, rfl⟩
    have hkX : Keep w X := by rw [hX]; exact (Keep.refl w).alloc _
    have hltX : w.heap.size < X.heap.size := by rw [hX]; simp
    have hEl : ElemAt X (.mk k f r l h o) RA OA rc oc w.heap.size 0 := by rw [hX]; exact ElemAt.new w (.mk k f r l h o) RA OA rc oc 32
    have HB := Lib.hid (show ∀ W, Keep X W → W.cell? ⟨w.heap.size, 0, none⟩ = some (.int .i64 k) ∧ W.cell? ⟨w.heap.size, 1, none⟩ = some (.int .i64 f) ∧ W.cell? ⟨w.heap.size, 2, none⟩ = some (.slice RA r.length rc) ∧ W.cell? ⟨w.heap.size, 3, none⟩ = some (.float .f64 l) ∧ W.cell? ⟨w.heap.size, 4, none⟩ = some (.float .f64 h) ∧ W.cell? ⟨w.heap.size, 5, none⟩ = some (.slice OA o.length oc) from fun W hk => hEl.kept hltX hk)
    have hO : Exs X OA o := (hE.kept hkX).exs
    have CA := Lib.hid (fun W (hW : Keep X W) => areParts_any OA oc o W hol (hO.kept hW) (fun V x RA' OA' rc' oc' hV hm hx => ih x RA' OA' rc' oc' V (ht.keep ((hkX.trans hW).trans hV)) (by have := hsub x hm; omega) (hfo x hm) hx))
    clear hEl hl64 hh64 hO hE hltX hrl hol hfo hsub ih h64
    by_cases k1 : k = 1
    · have d0 : (k == 0) = false := by simp; omega
      have d1 : (k == 1) = true := by simp; omega
      have d2 : (k == 2) = false := by simp; omega
      have d3 : (k == 3) = false := by simp; omega
      have d4 : (k == 4) = false := by simp; omega
      have HS := Lib.hid (show (atomA f r l h && o.length == 0) = right (.mk k f r l h o) by rw [right, if_pos k1, atomA_R])
      clear k1
      generalize atomA f r l h = pb at *
      cases pb
      · go_enter Tryz.func62, Tryz.ntmps62
        go_wp2_with fail
        rw [← hX]
        clear hX
        refine (CAt.out _ hkX).mono ?_
        rintro e w1 ⟨rfl, hk1⟩
        go_wp2
        go_ret
        exact ⟨ret_bool (by rw [← HS.out]; rfl), hkX.trans hk1⟩
      · by_cases hn : o.length = 0
        · have q8 : ((o.length : Int) == 0) = true := by simpa using hn
          have HS := Lib.hid (show right (.mk k f r l h o) = true by rw [← HS.out, show (o.length == 0) = true by simpa using hn]; rfl)
          clear hn
          go_enter Tryz.func62, Tryz.ntmps62
          go_wp2_with fail
          rw [← hX]
          clear hX
          refine (CAt.out _ hkX).mono ?_
          rintro e w1 ⟨rfl, hk1⟩
          obtain ⟨b0, b1, b2, b3, b4, b5⟩ := HB.out _ hk1
          go_wp2
          go_ret
          exact ⟨ret_bool HS.out.symm, hkX.trans hk1⟩
        · have q8 : ((o.length : Int) == 0) = false := by simpa using hn
          have HS := Lib.hid (show right (.mk k f r l h o) = false by rw [← HS.out, show (o.length == 0) = false by simpa using hn]; rfl)
          clear hn
          go_enter Tryz.func62, Tryz.ntmps62
          go_wp2_with fail
          rw [← hX]
          clear hX
          refine (CAt.out _ hkX).mono ?_
          rintro e w1 ⟨rfl, hk1⟩
          obtain ⟨b0, b1, b2, b3, b4, b5⟩ := HB.out _ hk1
          go_wp2
          go_ret
          exact ⟨ret_bool HS.out.symm, hkX.trans hk1⟩
    have HON := Lib.hid (show right (.mk k f r l h o) = ((f == 0 && (r.length == 0 && (plain l && plain h))) && (manyR k o.length && rightL o)) by rw [right, if_neg k1])
    generalize (f == 0 && (r.length == 0 && (plain l && plain h))) = pb at *
    clear CAt
    by_cases kk : k = 0
    · have d0 : (k == 0) = true := by simp; omega
      have d1 : (k == 1) = false := by simp; omega
      have d2 : (k == 2) = false := by simp; omega
      have d3 : (k == 3) = false := by simp; omega
      have d4 : (k == 4) = false := by simp; omega
      cases pb
      · have HS := Lib.hid (show right (.mk k f r l h o) = false by rw [HON.out]; rfl)
        clear kk
        go_enter Tryz.func62, Tryz.ntmps62
        go_wp2_with fail
        rw [← hX]
        clear hX
        refine (CB.out _).mono ?_
        rintro e w1 ⟨rfl, hk1⟩
        go_wp2
        go_ret
        exact ⟨ret_bool HS.out.symm, hkX.trans hk1⟩
      · by_cases hn : o.length = 0
        · have q8 : ((o.length : Int) == 0) = true := by simpa using hn
          have q8' : (o.length == 0) = true := by simpa using hn
          have HS := Lib.hid (show right (.mk k f r l h o) = true by
            rw [HON.out, manyR, if_pos kk, q8', List.eq_nil_of_length_eq_zero hn, rightL]; rfl)
          clear hn kk
          go_enter Tryz.func62, Tryz.ntmps62
          go_wp2_with fail
          rw [← hX]
          clear hX
          refine (CB.out _).mono ?_
          rintro e w1 ⟨rfl, hk1⟩
          obtain ⟨b0, b1, b2, b3, b4, b5⟩ := HB.out _ hk1
          go_wp2
          go_ret
          exact ⟨ret_bool HS.out.symm, hkX.trans hk1⟩
        · have q8 : ((o.length : Int) == 0) = false := by simpa using hn
          have q8' : (o.length == 0) = false := by simpa using hn
          have HS := Lib.hid (show right (.mk k f r l h o) = false by rw [HON.out, manyR, if_pos kk, q8']; rfl)
          clear hn kk
          go_enter Tryz.func62, Tryz.ntmps62
          go_wp2_with fail
          rw [← hX]
          clear hX
          refine (CB.out _).mono ?_
          rintro e w1 ⟨rfl, hk1⟩
          obtain ⟨b0, b1, b2, b3, b4, b5⟩ := HB.out _ hk1
          go_wp2
          go_ret
          exact ⟨ret_bool HS.out.symm, hkX.trans hk1⟩
    have k0 := kk
    clear kk
    by_cases kk : k = 2
    · have d0 : (k == 0) = false := by simp; omega
      have d1 : (k == 1) = false := by simp; omega
      have d2 : (k == 2) = true := by simp; omega
      have d3 : (k == 3) = false := by simp; omega
      have d4 : (k == 4) = false := by simp; omega
      clear k0 k1
      cases pb
      · have HS := Lib.hid (show right (.mk k f r l h o) = false by rw [HON.out]; rfl)
        clear kk
        go_enter Tryz.func62, Tryz.ntmps62
        go_wp2_with fail
        rw [← hX]
        clear hX
        refine (CB.out _).mono ?_
        rintro e w1 ⟨rfl, hk1⟩
        go_wp2
        go_ret
        exact ⟨ret_bool HS.out.symm, hkX.trans hk1⟩
      · by_cases hn : o.length = 1
        · have q8 : ((o.length : Int) == 1) = true := by first | (simpa using hn) | (simp; omega)
          have q9 : (o.length == 1) = true := by simpa using hn
          have HS := Lib.hid (show right (.mk k f r l h o) = rightL o by rw [HON.out, manyR, if_neg (by omega), if_pos kk, show (o.length == 1) = true by first | (simpa using hn) | (simp; omega)]; rfl)
          clear hn kk q9
          go_enter Tryz.func62, Tryz.ntmps62
          go_wp2_with fail
          rw [← hX]
          clear hX
          refine (CB.out _).mono ?_
          rintro e w1 ⟨rfl, hk1⟩
          obtain ⟨b0, b1, b2, b3, b4, b5⟩ := HB.out _ hk1
          go_wp2_with fail
          refine (CA.out _ hk1).mono ?_
          rintro e w2 ⟨rfl, hk2⟩
          go_wp2
          go_ret
          exact ⟨ret_bool HS.out.symm, (hkX.trans hk1).trans hk2⟩
        · have q8 : ((o.length : Int) == 1) = false := by first | (simpa using hn) | (simp; omega)
          have q9 : (o.length == 1) = false := by simpa using hn
          have HS := Lib.hid (show right (.mk k f r l h o) = false by rw [HON.out, manyR, if_neg (by omega), if_pos kk, show (o.length == 1) = false by first | (simpa using hn) | (simp; omega)]; rfl)
          clear hn kk q9
          go_enter Tryz.func62, Tryz.ntmps62
          go_wp2_with fail
          rw [← hX]
          clear hX
          refine (CB.out _).mono ?_
          rintro e w1 ⟨rfl, hk1⟩
          obtain ⟨b0, b1, b2, b3, b4, b5⟩ := HB.out _ hk1
          go_wp2
          go_ret
          exact ⟨ret_bool HS.out.symm, hkX.trans hk1⟩
    have k2 := kk
    clear kk
    by_cases kk : k = 3
    · have d0 : (k == 0) = false := by simp; omega
      have d1 : (k == 1) = false := by simp; omega
      have d2 : (k == 2) = false := by simp; omega
      have d3 : (k == 3) = true := by simp; omega
      have d4 : (k == 4) = false := by simp; omega
      clear k0 k1 k2
      cases pb
      · have HS := Lib.hid (show right (.mk k f r l h o) = false by rw [HON.out]; rfl)
        clear kk
        go_enter Tryz.func62, Tryz.ntmps62
        go_wp2_with fail
        rw [← hX]
        clear hX
        refine (CB.out _).mono ?_
        rintro e w1 ⟨rfl, hk1⟩
        go_wp2
        go_ret
        exact ⟨ret_bool HS.out.symm, hkX.trans hk1⟩
      · by_cases hn : 1 < o.length
        · have q8 : decide ((1 : Int) < (o.length : Int)) = true := by first | (simpa using hn) | (simp; omega)
          have q9 : decide (1 < o.length) = true := by simpa using hn
          have HS := Lib.hid (show right (.mk k f r l h o) = rightL o by rw [HON.out, manyR, if_neg (by omega), if_neg (by omega), if_pos (by omega), show decide (2 ≤ o.length) = true by first | (simpa using hn) | (simp; omega)]; rfl)
          clear hn kk q9
          go_enter Tryz.func62, Tryz.ntmps62
          go_wp2_with fail
          rw [← hX]
          clear hX
          refine (CB.out _).mono ?_
          rintro e w1 ⟨rfl, hk1⟩
          obtain ⟨b0, b1, b2, b3, b4, b5⟩ := HB.out _ hk1
          go_wp2_with fail
          refine (CA.out _ hk1).mono ?_
          rintro e w2 ⟨rfl, hk2⟩
          go_wp2
          go_ret
          exact ⟨ret_bool HS.out.symm, (hkX.trans hk1).trans hk2⟩
        · have q8 : decide ((1 : Int) < (o.length : Int)) = false := by first | (simpa using hn) | (simp; omega)
          have q9 : decide (1 < o.length) = false := by simpa using hn
          have HS := Lib.hid (show right (.mk k f r l h o) = false by rw [HON.out, manyR, if_neg (by omega), if_neg (by omega), if_pos (by omega), show decide (2 ≤ o.length) = false by first | (simpa using hn) | (simp; omega)]; rfl)
          clear hn kk q9
          go_enter Tryz.func62, Tryz.ntmps62
          go_wp2_with fail
          rw [← hX]
          clear hX
          refine (CB.out _).mono ?_
          rintro e w1 ⟨rfl, hk1⟩
          obtain ⟨b0, b1, b2, b3, b4, b5⟩ := HB.out _ hk1
          go_wp2
          go_ret
          exact ⟨ret_bool HS.out.symm, hkX.trans hk1⟩
    have k3 := kk
    clear kk
    by_cases kk : k = 4
    · have d0 : (k == 0) = false := by simp; omega
      have d1 : (k == 1) = false := by simp; omega
      have d2 : (k == 2) = false := by simp; omega
      have d3 : (k == 3) = false := by simp; omega
      have d4 : (k == 4) = true := by simp; omega
      clear k0 k1 k2 k3
      cases pb
      · have HS := Lib.hid (show right (.mk k f r l h o) = false by rw [HON.out]; rfl)
        clear kk
        go_enter Tryz.func62, Tryz.ntmps62
        go_wp2_with fail
        rw [← hX]
        clear hX
        refine (CB.out _).mono ?_
        rintro e w1 ⟨rfl, hk1⟩
        go_wp2
        go_ret
        exact ⟨ret_bool HS.out.symm, hkX.trans hk1⟩
      · by_cases hn : 1 < o.length
        · have q8 : decide ((1 : Int) < (o.length : Int)) = true := by first | (simpa using hn) | (simp; omega)
          have q9 : decide (1 < o.length) = true := by simpa using hn
          have HS := Lib.hid (show right (.mk k f r l h o) = rightL o by rw [HON.out, manyR, if_neg (by omega), if_neg (by omega), if_pos (by omega), show decide (2 ≤ o.length) = true by first | (simpa using hn) | (simp; omega)]; rfl)
          clear hn kk q9
          go_enter Tryz.func62, Tryz.ntmps62
          go_wp2_with fail
          rw [← hX]
          clear hX
          refine (CB.out _).mono ?_
          rintro e w1 ⟨rfl, hk1⟩
          obtain ⟨b0, b1, b2, b3, b4, b5⟩ := HB.out _ hk1
          go_wp2_with fail
          refine (CA.out _ hk1).mono ?_
          rintro e w2 ⟨rfl, hk2⟩
          go_wp2
          go_ret
          exact ⟨ret_bool HS.out.symm, (hkX.trans hk1).trans hk2⟩
        · have q8 : decide ((1 : Int) < (o.length : Int)) = false := by first | (simpa using hn) | (simp; omega)
          have q9 : decide (1 < o.length) = false := by simpa using hn
          have HS := Lib.hid (show right (.mk k f r l h o) = false by rw [HON.out, manyR, if_neg (by omega), if_neg (by omega), if_pos (by omega), show decide (2 ≤ o.length) = false by first | (simpa using hn) | (simp; omega)]; rfl)
          clear hn kk q9
          go_enter Tryz.func62, Tryz.ntmps62
          go_wp2_with fail
          rw [← hX]
          clear hX
          refine (CB.out _).mono ?_
          rintro e w1 ⟨rfl, hk1⟩
          obtain ⟨b0, b1, b2, b3, b4, b5⟩ := HB.out _ hk1
          go_wp2
          go_ret
          exact ⟨ret_bool HS.out.symm, hkX.trans hk1⟩
    have d0 : (k == 0) = false := by simp; omega
    have d1 : (k == 1) = false := by simp; omega
    have d2 : (k == 2) = false := by simp; omega
    have d3 : (k == 3) = false := by simp; omega
    have d4 : (k == 4) = false := by simp; omega
    have HS := Lib.hid (show right (.mk k f r l h o) = false by rw [HON.out, manyR, if_neg k0, if_neg k2, if_neg (by omega)]; simp)
    clear k0 k1 k2 k3 kk
    go_enter Tryz.func62, Tryz.ntmps62
    go_wp2
    go_ret
    exact ⟨ret_bool HS.out.symm, by rw [← hX]; exact hkX⟩
theorem right_any (e : ExprP) (RA OA : Option Addr) (rc oc : Nat) (w : World) (ht : Tab w) (hfit : fits e) (hE : Ex w e RA OA) :
    Calls Tryz.prog 62 #[.agg #[.int .i64 (kind e), .int .i64 (field e), .slice RA (rs e).length rc, .float .f64 (lo e), .float .f64 (hi e), .slice OA (of e).length oc]] w fun e' w' => e' = .returned (.bool (right e)) ∧ Keep w w' := rightN _ e RA OA rc oc w ht (Nat.le_refl _) hfit hE
end Go.Proofs.YtmcgflpgkkophaaGreatDoor.Tree
/- The developers' tree: atoms and depth, in memory. Conditions: lists at most a million. -/
namespace Go.Proofs.YtmcgflpgkkophaaGreatDoor.Tree
set_option linter.unusedVariables false
open Go.ChangeShapes Go.WideShapes Go.ChangeAt Go.RowKit
open Tr
open Go.Proofs.YtmcgflpgkkophaaGreatDoor.Fp (sameB)
open Go.Proofs.YtmcgflpgkkophaaGreatDoor.Re (tOk tL)
end Go.Proofs.YtmcgflpgkkophaaGreatDoor.Tree
/- The developers' tree: which expressions, and which rules, are the same, in memory. Conditions: lists at most a million. -/
namespace Go.Proofs.YtmcgflpgkkophaaGreatDoor.Tree
set_option linter.unusedVariables false
open Go.ChangeShapes Go.WideShapes Go.ChangeAt Go.RowKit
open Tr
open Go.Proofs.YtmcgflpgkkophaaGreatDoor.Fp (sameB)
open Go.Proofs.YtmcgflpgkkophaaGreatDoor.Re (tOk tL)
/-- Are both lists the same, one by one? -/
def eqL {α : Type} (p : α → α → Bool) : List α → List α → Bool
  | [], [] => true
  | a :: l, b :: m => p a b && eqL p l m
  | [], _ :: _ => false
  | _ :: _, [] => false
theorem eqL_len {α : Type} (p : α → α → Bool) : ∀ l m : List α, l.length ≠ m.length → eqL p l m = false
  | [], [], h => absurd rfl h
  | [], b :: m, _ => by rw [eqL]
  | a :: l, [], _ => by rw [eqL]
  | a :: l, b :: m, h => by rw [eqL, eqL_len p l m (by simpa using h), Bool.and_false]
theorem eqL_at {α : Type} (p : α → α → Bool) (z : α) : ∀ (l m : List α) (k : Nat), l.length = m.length → k < l.length → eqL p (l.drop k) (m.drop k) = (p (l.getD k z) (m.getD k z) && eqL p (l.drop (k + 1)) (m.drop (k + 1)))
  | a :: l, b :: m, 0, _, _ => by
    show eqL p (a :: l) (b :: m) = _
    rw [eqL]; rfl
  | a :: l, b :: m, k + 1, h, hk => eqL_at p z l m k (by simpa using h) (by simpa using hk)
theorem eqL_nil {α : Type} (p : α → α → Bool) (l m : List α) (h : l.length = m.length) : eqL p (l.drop l.length) (m.drop l.length) = true := by
  rw [List.drop_eq_nil_of_le (Nat.le_refl _), h, List.drop_eq_nil_of_le (Nat.le_refl _), eqL]
theorem eqL_same : ∀ l m : List ExprP, eqL same l m = sameL l m
  | [], [] => by rw [eqL, sameL]
  | [], b :: m => by rw [eqL, sameL]
  | a :: l, [] => by rw [eqL, sameL]
  | a :: l, b :: m => by rw [eqL, sameL, eqL_same l m]
theorem eqL_rules : ∀ l m : List RuleP, eqL rule1 l m = rules l m
  | [], [] => by rw [eqL, rules]
  | [], b :: m => by simp [eqL, rules]
  | a :: l, [] => by simp [eqL, rules]
  | a :: l, b :: m => by rw [eqL, rules, eqL_rules l m]
/-- What is asked of a comparison of two elements. -/
def TestsX (g : Nat) (lb : Array Value) (p : ExprP → ExprP → Bool) (o o' : List ExprP) (w : World) : Prop :=
  ∀ (W : World) (x x' : ExprP) (RA OA : Option Addr) (rc oc : Nat) (RA' OA' : Option Addr) (rc' oc' : Nat), Keep w W → x ∈ o → x' ∈ o' → Ex W x RA OA → Ex W x' RA' OA' →
    Calls Tryz.prog g (#[.agg #[.int .i64 (kind x), .int .i64 (field x), .slice RA (rs x).length rc, .float .f64 (lo x), .float .f64 (hi x), .slice OA (of x).length oc], .agg #[.int .i64 (kind x'), .int .i64 (field x'), .slice RA' (rs x').length rc', .float .f64 (lo x'), .float .f64 (hi x'), .slice OA' (of x').length oc']] ++ lb) W fun e w' => e = .returned (.bool (p x x')) ∧ Keep W w'
/-- What is asked of a comparison of two elements. -/
def TestsR (g : Nat) (lb : Array Value) (p : RuleP → RuleP → Bool) (o o' : List RuleP) (w : World) : Prop :=
  ∀ (W : World) (x x' : RuleP) (RA OA : Option Addr) (rc oc : Nat) (RA' OA' : Option Addr) (rc' oc' : Nat), Keep w W → x ∈ o → x' ∈ o' → Ex W x.when_ RA OA → Ex W x'.when_ RA' OA' →
    Calls Tryz.prog g (#[.agg #[.bool x.allow, .int .i64 (kind x.when_), .int .i64 (field x.when_), .slice RA (rs x.when_).length rc, .float .f64 (lo x.when_), .float .f64 (hi x.when_), .slice OA (of x.when_).length oc, .int .i64 x.num, .int .i64 x.per, .int .i64 x.burst, .int .i64 x.line], .agg #[.bool x'.allow, .int .i64 (kind x'.when_), .int .i64 (field x'.when_), .slice RA' (rs x'.when_).length rc', .float .f64 (lo x'.when_), .float .f64 (hi x'.when_), .slice OA' (of x'.when_).length oc', .int .i64 x'.num, .int .i64 x'.per, .int .i64 x'.burst, .int .i64 x'.line]] ++ lb) W fun e w' => e = .returned (.bool (p x x')) ∧ Keep W w'
end Go.Proofs.YtmcgflpgkkophaaGreatDoor.Tree
/- The developers' tree: Rules, and which rules may be, in memory. Conditions: lists at most a million. -/
namespace Go.Proofs.YtmcgflpgkkophaaGreatDoor.Tree
set_option linter.unusedVariables false
open Go.ChangeShapes Go.WideShapes Go.ChangeAt Go.RowKit
open Tr
open Go.Proofs.YtmcgflpgkkophaaGreatDoor.Fp (sameB)
open Go.Proofs.YtmcgflpgkkophaaGreatDoor.Re (tOk tL)
def rateR (a b c : Int) : Bool := if b = 0 then a == 0 && (b == 0 && c == 0) else numR a && (numR b && numR c)
theorem ruleR_eq (r : RuleP) : ruleR r = (right r.when_ && rateR r.num r.per r.burst) := by
  unfold ruleR rateR
  by_cases h : r.per = 0
  · rw [if_pos h, h]
    cases h1 : (r.num == 0) <;> cases h2 : (r.burst == 0)
    · simp
    · simp
    · simp
    · have e1 : r.num = 0 := by simpa using h1
      have e2 : r.burst = 0 := by simpa using h2
      rw [e1, e2]
      simp [numR, Gu.inR]
  · rw [if_neg h, show (r.per == 0) = false by simpa using h]
    cases right r.when_ <;> cases numR r.num <;> cases numR r.per <;> cases numR r.burst <;> rfl
set_option maxHeartbeats 4000000 in
theorem isRate_any (a b c : Int) (w : World) (ht : Tab w) : Calls Tryz.prog 63 #[.agg #[.int .i64 a, .int .i64 b, .int .i64 c]] w fun e w' => e = .returned (.bool (rateR a b c)) ∧ Keep w w' := by
  obtain ⟨X, hX⟩ : ∃ X, X = w.alloc (.cells #[.int .i64 a, .int .i64 b, .int .i64 c] 34) := ⟨_, rfl⟩
  have hkX : Keep w X := by rw [hX]; exact (Keep.refl w).alloc _
  have hltX : w.heap.size < X.heap.size := by rw [hX]; simp
  have c0 : X.cell? ⟨w.heap.size, 0, none⟩ = some (.int .i64 a) := by rw [hX, World.cell?_alloc_at (hn := rfl)]; rfl
  have c1 : X.cell? ⟨w.heap.size, 1, none⟩ = some (.int .i64 b) := by rw [hX, World.cell?_alloc_at (hn := rfl)]; rfl
  have c2 : X.cell? ⟨w.heap.size, 2, none⟩ = some (.int .i64 c) := by rw [hX, World.cell?_alloc_at (hn := rfl)]; rfl
  have HC := Lib.hid (fun W (hW : Keep X W) => show W.cell? ⟨w.heap.size, 0, none⟩ = some (.int .i64 a) ∧ W.cell? ⟨w.heap.size, 1, none⟩ = some (.int .i64 b) ∧ W.cell? ⟨w.heap.size, 2, none⟩ = some (.int .i64 c) from ⟨(Below.cell hW (p := ⟨w.heap.size, 0, none⟩) hltX).trans c0, (Below.cell hW (p := ⟨w.heap.size, 1, none⟩) hltX).trans c1, (Below.cell hW (p := ⟨w.heap.size, 2, none⟩) hltX).trans c2⟩)
  by_cases hb : b = 0
  · have db : (b == 0) = true := by simpa using hb
    have he := fun w => eqRate2 a b c 0 0 0 w
    have hgd := guardRate
    have HS := Lib.hid (show rateR a b c = (a == 0 && (b == 0 && c == 0)) by rw [rateR, if_pos hb])
    clear hb
    obtain ⟨q, hq⟩ : ∃ q, q = (a == 0 && (b == 0 && c == 0)) := ⟨_, rfl⟩
    rw [← hq] at he HS
    clear hq ht
    go_enter Tryz.func63, Tryz.ntmps63
    go_wp2
    go_ret
    exact ⟨ret_bool HS.out.symm, by rw [← hX]; exact hkX⟩
  · have db : (b == 0) = false := by simpa using hb
    have HON := Lib.hid (show rateR a b c = (numR a && (numR b && numR c)) by rw [rateR, if_neg hb])
    clear hb
    have htX := ht.keep hkX
    have CA := Lib.hid (isNumber_any a X htX)
    have CB := Lib.hid (fun W (hW : Keep X W) => isNumber_any b W (htX.keep hW))
    have CC := Lib.hid (fun W (hW : Keep X W) => isNumber_any c W (htX.keep hW))
    generalize numR a = na at *
    generalize numR b = nb at *
    generalize numR c = nc at *
    clear ht htX hltX
    cases na
    · have HS := Lib.hid (show rateR a b c = false by rw [HON.out]; rfl)
      go_enter Tryz.func63, Tryz.ntmps63
      go_wp2_with fail
      rw [← hX]
      clear hX
      refine CA.out.mono ?_
      rintro e w1 ⟨rfl, hk1⟩
      go_wp2
      go_ret
      exact ⟨ret_bool HS.out.symm, hkX.trans hk1⟩
    · cases nb
      · have HS := Lib.hid (show rateR a b c = false by rw [HON.out]; rfl)
        go_enter Tryz.func63, Tryz.ntmps63
        go_wp2_with fail
        rw [← hX]
        clear hX
        refine CA.out.mono ?_
        rintro e w1 ⟨rfl, hk1⟩
        clear c0 c1 c2
        obtain ⟨c0, c1, c2⟩ := HC.out _ hk1
        go_wp2_with fail
        refine (CB.out _ hk1).mono ?_
        rintro e w2 ⟨rfl, hk2⟩
        go_wp2
        go_ret
        exact ⟨ret_bool HS.out.symm, (hkX.trans hk1).trans hk2⟩
      · have HS := Lib.hid (show rateR a b c = nc by rw [HON.out]; rfl)
        go_enter Tryz.func63, Tryz.ntmps63
        go_wp2_with fail
        rw [← hX]
        clear hX
        refine CA.out.mono ?_
        rintro e w1 ⟨rfl, hk1⟩
        clear c0 c1 c2
        obtain ⟨c0, c1, c2⟩ := HC.out _ hk1
        go_wp2_with fail
        refine (CB.out _ hk1).mono ?_
        rintro e w2 ⟨rfl, hk2⟩
        have hk12 := hk1.trans hk2
        clear c0 c1 c2
        obtain ⟨c0, c1, c2⟩ := HC.out _ hk12
        go_wp2_with fail
        refine (CC.out _ hk12).mono ?_
        rintro e w3 ⟨rfl, hk3⟩
        go_wp2
        go_ret
        exact ⟨ret_bool HS.out.symm, (hkX.trans hk12).trans hk3⟩
set_option maxHeartbeats 4000000 in
theorem isRule_any (r : RuleP) (RA OA : Option Addr) (rc oc : Nat) (w : World) (ht : Tab w) (hfit : fits r.when_) (hE : Ex w r.when_ RA OA) :
    Calls Tryz.prog 40 #[.agg #[.bool r.allow, .int .i64 (kind r.when_), .int .i64 (field r.when_), .slice RA (rs r.when_).length rc, .float .f64 (lo r.when_), .float .f64 (hi r.when_), .slice OA (of r.when_).length oc, .int .i64 r.num, .int .i64 r.per, .int .i64 r.burst, .int .i64 r.line]] w fun e w' => e = .returned (.bool (ruleR r)) ∧ Keep w w' := by
  obtain ⟨X, hX⟩ : ∃ X, X = w.alloc (.cells #[.bool r.allow, .int .i64 (kind r.when_), .int .i64 (field r.when_), .slice RA (rs r.when_).length rc, .float .f64 (lo r.when_), .float .f64 (hi r.when_), .slice OA (of r.when_).length oc, .int .i64 r.num, .int .i64 r.per, .int .i64 r.burst, .int .i64 r.line] 36) := ⟨_, rfl⟩
  have hkX : Keep w X := by rw [hX]; exact (Keep.refl w).alloc _
  have hltX : w.heap.size < X.heap.size := by rw [hX]; simp
  have hEl : RuleAt X r RA OA rc oc w.heap.size 0 := by rw [hX]; exact RuleAt.new w r RA OA rc oc 36
  have HB := Lib.hid (show ∀ W, Keep X W → W.cell? ⟨w.heap.size, 0, none⟩ = some (.bool r.allow) ∧ W.cell? ⟨w.heap.size, 1, none⟩ = some (.int .i64 (kind r.when_)) ∧ W.cell? ⟨w.heap.size, 2, none⟩ = some (.int .i64 (field r.when_)) ∧ W.cell? ⟨w.heap.size, 3, none⟩ = some (.slice RA (rs r.when_).length rc) ∧ W.cell? ⟨w.heap.size, 4, none⟩ = some (.float .f64 (lo r.when_)) ∧ W.cell? ⟨w.heap.size, 5, none⟩ = some (.float .f64 (hi r.when_)) ∧ W.cell? ⟨w.heap.size, 6, none⟩ = some (.slice OA (of r.when_).length oc) ∧ W.cell? ⟨w.heap.size, 7, none⟩ = some (.int .i64 r.num) ∧ W.cell? ⟨w.heap.size, 8, none⟩ = some (.int .i64 r.per) ∧ W.cell? ⟨w.heap.size, 9, none⟩ = some (.int .i64 r.burst) ∧ W.cell? ⟨w.heap.size, 10, none⟩ = some (.int .i64 r.line) from fun W hk => hEl.kept hltX hk)
  have CR := Lib.hid (right_any r.when_ RA OA rc oc X (ht.keep hkX) hfit (hE.kept hkX))
  have CT := Lib.hid (fun W (hW : Keep X W) => isRate_any r.num r.per r.burst W ((ht.keep hkX).keep hW))
  have HON := Lib.hid (ruleR_eq r)
  clear hEl hE hltX ht hfit
  obtain ⟨al, wh, n1, n2, n3, ln⟩ := r
  simp only at *
  generalize right wh = rr at *
  generalize rateR n1 n2 n3 = rt at *
  obtain ⟨b0, b1, b2, b3, b4, b5, b6, b7, b8, b9, b10⟩ := HB.out _ (Keep.refl _)
  cases rr
  · have HS := Lib.hid (show ruleR ⟨al, wh, n1, n2, n3, ln⟩ = false by rw [HON.out]; rfl)
    go_enter Tryz.func40, Tryz.ntmps40
    go_wp2_with fail
    rw [← hX]
    clear hX
    refine CR.out.mono ?_
    rintro e w1 ⟨rfl, hk1⟩
    go_wp2
    go_ret
    exact ⟨ret_bool HS.out.symm, hkX.trans hk1⟩
  · have HS := Lib.hid (show ruleR ⟨al, wh, n1, n2, n3, ln⟩ = rt by rw [HON.out]; rfl)
    go_enter Tryz.func40, Tryz.ntmps40
    go_wp2_with fail
    rw [← hX]
    clear hX
    refine CR.out.mono ?_
    rintro e w1 ⟨rfl, hk1⟩
    clear b0 b1 b2 b3 b4 b5 b6 b7 b8 b9 b10
    obtain ⟨b0, b1, b2, b3, b4, b5, b6, b7, b8, b9, b10⟩ := HB.out _ hk1
    go_wp2_with fail
    refine (CT.out _ hk1).mono ?_
    rintro e w2 ⟨rfl, hk2⟩
    go_wp2
    go_ret
    exact ⟨ret_bool HS.out.symm, (hkX.trans hk1).trans hk2⟩
set_option maxHeartbeats 4000000 in
theorem notRule_any (r : RuleP) (RA OA : Option Addr) (rc oc : Nat) (w : World) (ht : Tab w) (hfit : fits r.when_) (hE : Ex w r.when_ RA OA) :
    Calls Tryz.prog 39 #[.agg #[.bool r.allow, .int .i64 (kind r.when_), .int .i64 (field r.when_), .slice RA (rs r.when_).length rc, .float .f64 (lo r.when_), .float .f64 (hi r.when_), .slice OA (of r.when_).length oc, .int .i64 r.num, .int .i64 r.per, .int .i64 r.burst, .int .i64 r.line]] w fun e w' => e = .returned (.bool (!ruleR r)) ∧ Keep w w' := by
  obtain ⟨X, hX⟩ : ∃ X, X = w.alloc (.cells #[.bool r.allow, .int .i64 (kind r.when_), .int .i64 (field r.when_), .slice RA (rs r.when_).length rc, .float .f64 (lo r.when_), .float .f64 (hi r.when_), .slice OA (of r.when_).length oc, .int .i64 r.num, .int .i64 r.per, .int .i64 r.burst, .int .i64 r.line] 36) := ⟨_, rfl⟩
  have hkX : Keep w X := by rw [hX]; exact (Keep.refl w).alloc _
  have CR := Lib.hid (isRule_any r RA OA rc oc X (ht.keep hkX) hfit (hE.kept hkX))
  generalize ruleR r = rr at *
  clear hE ht hfit
  go_enter Tryz.func39, Tryz.ntmps39
  go_wp2_with fail
  rw [← hX]
  clear hX
  refine CR.out.mono ?_
  rintro e w1 ⟨rfl, hk1⟩
  go_wp2
  go_ret
  exact ⟨rfl, hkX.trans hk1⟩
def TestsU (g : Nat) (lb : Array Value) (p : RuleP → Bool) (o : List RuleP) (w : World) : Prop :=
  ∀ (W : World) (x : RuleP) (RA OA : Option Addr) (rc oc : Nat), Keep w W → x ∈ o → Ex W x.when_ RA OA → Calls Tryz.prog g (#[.agg #[.bool x.allow, .int .i64 (kind x.when_), .int .i64 (field x.when_), .slice RA (rs x.when_).length rc, .float .f64 (lo x.when_), .float .f64 (hi x.when_), .slice OA (of x.when_).length oc, .int .i64 x.num, .int .i64 x.per, .int .i64 x.burst, .int .i64 x.line]] ++ lb) W fun e w' => e = .returned (.bool (p x)) ∧ Keep W w'
set_option maxHeartbeats 4000000 in
theorem indexR_any (A : Option Addr) (c : Nat) (o : List RuleP) (g : Nat) (lb : Array Value) (p : RuleP → Bool) (w : World) (hn : o.length ≤ 1000000) (hO : Rus w A o)
    (eg : ∀ args w, (callFunc g args).run Tryz.prog w = .ok (.enter g args) w) (hp : TestsU g lb p o w) :
    Calls Tryz.prog 61 #[.slice A o.length c, .func (.func g) #[] lb] w fun e w' => ∃ i : Int, e = .returned (.int .i64 i) ∧ decide (0 ≤ i) = o.any p ∧ Keep w w' := by
  go_enter Tryz.func61, Tryz.ntmps61
  go_wp2
  go_loopw [8] (fun i wr => ∃ k : Nat, k ≤ o.length ∧ i = .int .i64 k ∧ Keep w wr ∧ Hid ((o.take k).any p = false)) (fun i _ => o.length - (intOf i).toNat)
  case atStart => exact ⟨0, Nat.zero_le _, rfl, Keep.refl _, rfl⟩
  case round =>
    obtain ⟨j, hj, rfl, hk, hall⟩ := hrel
    by_cases hlt : j < o.length
    · have hi1 : (j : Int) < o.length := by omega
      have hj0 : (0 : Int) ≤ j := by omega
      have hOw := hO.kept hk
      obtain ⟨b, off, rfl, hbb⟩ := hOw.addr (by omega)
      obtain ⟨_, RA', OA', rc', oc', hx6, hx⟩ := hOw.elem j hlt
      have hmem := getD_mem zeroR o j hlt
      have HA := Lib.hid (any_snoc p zeroR o j hlt)
      have HY := Lib.hid (any_yes p zeroR o j hlt)
      have hcall := hp wr _ RA' OA' rc' oc' hk hmem hx
      generalize o.getD j zeroR = x at *
      obtain ⟨x0, x1, x2, x3, x4, x5, x6, x7, x8, x9, x10⟩ := hx6
      clear hx hmem hOw
      cases hv : p x with
      | true =>
        rw [hv] at hcall
        have HV := Lib.hid (HY.out hv)
        clear hv HY HA
        go_wp2_with fail
        refine hcall.mono ?_
        rintro e w1 ⟨rfl, hk1⟩
        go_wp2
        go_ret
        exact ⟨j, rfl, by rw [HV.out]; simp, hk.trans hk1⟩
      | false =>
        rw [hv] at hcall
        have HV := Lib.hid (show (o.take (j + 1)).any p = false by rw [HA.out, hall.out, hv]; rfl)
        clear hv HY HA
        go_wp2_with fail
        refine hcall.mono ?_
        rintro e w1 ⟨rfl, hk1⟩
        go_wp2
        go_roundw
        case rel => exact ⟨j + 1, by omega, by go_num, hk.trans hk1, HV⟩
        case measure => simp [intOf]; omega
    · obtain rfl : j = o.length := by omega
      have e := hall.out
      rw [List.take_length] at e
      have HE := Lib.hid e
      clear e
      go_wp2
      go_ret
      exact ⟨-1, rfl, by rw [HE.out]; rfl, hk⟩
set_option maxHeartbeats 1000000 in
theorem containsR_any (A : Option Addr) (c : Nat) (o : List RuleP) (g : Nat) (lb : Array Value) (p : RuleP → Bool) (w : World) (hn : o.length ≤ 1000000) (hO : Rus w A o)
    (eg : ∀ args w, (callFunc g args).run Tryz.prog w = .ok (.enter g args) w) (hp : TestsU g lb p o w) :
    Calls Tryz.prog 38 #[.slice A o.length c, .func (.func g) #[] lb] w fun e w' => e = .returned (.bool (o.any p)) ∧ Keep w w' := by
  have hcon := indexR_any A c o g lb p w hn hO eg hp
  generalize o.any p = r at *
  clear hp hO
  go_enter Tryz.func38, Tryz.ntmps38
  go_wp2_with fail
  refine hcon.mono ?_
  rintro e w1 ⟨i, rfl, hi, hk⟩
  have HI := Lib.hid hi
  clear hi hcon
  go_wp2
  go_ret
  exact ⟨ret_bool HI.out, hk⟩
end Go.Proofs.YtmcgflpgkkophaaGreatDoor.Tree
/- The developers' tree: the text of an atom, written to a builder. Conditions: lists at most a million; at most 2^47 bytes. -/
namespace Go.Proofs.YtmcgflpgkkophaaGreatDoor.Tree
set_option linter.unusedVariables false
open Go.ChangeShapes Go.WideShapes Go.ChangeAt Go.RowKit
open Tr Bld
open Go.Proofs.YtmcgflpgkkophaaGreatDoor.Fp (sameB)
open Go.Proofs.YtmcgflpgkkophaaGreatDoor.Re (tOk tL)
theorem number_any (n : Int) (w : World) (ht : Tab w) : Calls Tryz.prog 65 #[.int .i64 n] w fun e w' => e = .returned (.string (st (Gu.put n))) ∧ Keep w w' := by
  have HC := Lib.hid (Guard.put_any n w ht)
  go_enter Tryz.func65, Tryz.ntmps65
  go_wp2_with fail
  refine HC.out.mono ?_
  rintro e w1 ⟨rfl, hk⟩
  go_wp2
  go_ret
  exact ⟨rfl, hk⟩
theorem bound_any (b : Nat) (hb : b < 18446744073709551616) (w : World) (ht : Tab w) : Calls Tryz.prog 103 #[.float .f64 b] w fun e w' => e = .returned (.string (st (tL b))) ∧ Keep w w' := by
  have HC := Lib.hid (Re.text_any b hb w ht)
  go_enter Tryz.func103, Tryz.ntmps103
  go_wp2_with fail
  refine HC.out.mono ?_
  rintro e w1 ⟨rfl, hk⟩
  go_wp2
  go_ret
  exact ⟨rfl, hk⟩
theorem ElemAt.of_heap {W : World} {k : Nat} {e : ExprP} {RA OA : Option Addr} {rc oc : Nat} {t : TypeId} {fz : Nat × Nat} (h : W.heap[k]? = some (.cells #[.int .i64 (kind e), .int .i64 (field e), .slice RA (rs e).length rc, .float .f64 (lo e), .float .f64 (hi e), .slice OA (of e).length oc] t fz)) : ElemAt W e RA OA rc oc k 0 :=
  ⟨Lib.cell_of_heap h 0, Lib.cell_of_heap h 1, Lib.cell_of_heap h 2, Lib.cell_of_heap h 3, Lib.cell_of_heap h 4, Lib.cell_of_heap h 5⟩
/-- What writing says: these bytes more, and the rest as it was. -/
def Wrote (B b : Nat) (bs t : List UInt8) (w : World) (e : Ending) (w' : World) : Prop := e = .returned (.tuple #[]) ∧ Bd B b (bs ++ t) w' ∧ Wr B b w w'
/-- One write. -/
theorem put_any (W0 : World) (b : Nat) (bs t : List UInt8) (w : World) (hK : Keep W0 w) (hBd : Bd W0.heap.size b bs w) (hlen : bs.length + t.length ≤ 140737488355328) :
    Calls Tryz.prog 42 #[.pointer (some ⟨b, 0, none⟩), .string (st t)] w fun e w' => e = .returned (.tuple #[.int .i64 (st t).size, .nilIface]) ∧ Bd W0.heap.size b (bs ++ t) w' ∧ Wr W0.heap.size b w w' :=
  write_any W0.heap.size b bs (st t) w hBd hlen hK.size
set_option maxHeartbeats 4000000 in
theorem atom_real (RA OA : Option Addr) (rc oc : Nat) (r : List (Int × Int)) (l h : Nat) (o : List ExprP) (W0 : World) (b : Nat) (bs : List UInt8) (w : World) (hT : Tab W0) (hK : Keep W0 w) (hBd : Bd W0.heap.size b bs w) (hl64 : l < 18446744073709551616) (hh64 : h < 18446744073709551616) (hlen : bs.length + (txt (.mk 1 6 r l h o)).length ≤ 140737488355328) :
    Calls Tryz.prog 83 #[.pointer (some ⟨b, 0, none⟩), .agg #[.int .i64 1, .int .i64 6, .slice RA r.length rc, .float .f64 l, .float .f64 h, .slice OA o.length oc]] w (Wrote W0.heap.size b bs (txt (.mk 1 6 r l h o)) w) := by
  obtain ⟨tl, htl⟩ : ∃ t, t = tL l := ⟨_, rfl⟩
  obtain ⟨th, hth⟩ : ∃ t, t = tL h := ⟨_, rfl⟩
  have n1 : tl.length ≤ 17 := by rw [htl]; exact Re.tL_len l
  have n2 : th.length ≤ 17 := by rw [hth]; exact Re.tL_len h
  obtain ⟨q1, hq1⟩ : ∃ q, q = wReal ++ tl := ⟨_, rfl⟩
  obtain ⟨q2, hq2⟩ : ∃ q, q = q1 ++ wTo := ⟨_, rfl⟩
  obtain ⟨q3, hq3⟩ : ∃ q, q = q2 ++ th := ⟨_, rfl⟩
  have m1 : q1.length ≤ 22 := by rw [hq1, List.length_append]; have : wReal.length = 5 := rfl; omega
  have m2 : q2.length ≤ 26 := by rw [hq2, List.length_append]; have : wTo.length = 4 := rfl; omega
  have a1 : ∀ W : World, (Op.stringOp .add ⟨#[114, 101, 97, 108, 32]⟩ (st tl)).run Tryz.prog W = .ok (.string (st q1)) W := by rw [hq1]; exact add_st wReal tl (by have : wReal.length = 5 := rfl; omega)
  have a2 : ∀ W : World, (Op.stringOp .add (st q1) ⟨#[32, 116, 111, 32]⟩).run Tryz.prog W = .ok (.string (st q2)) W := by rw [hq2]; exact add_st q1 wTo (by have : wTo.length = 4 := rfl; omega)
  have a3 : ∀ W : World, (Op.stringOp .add (st q2) (st th)).run Tryz.prog W = .ok (.string (st q3)) W := by rw [hq3]; exact add_st q2 th (by omega)
  have hF : txt (.mk 1 6 r l h o) = q3 := by rw [txt, if_pos rfl, if_pos rfl, hq3, hq2, hq1, htl, hth]; simp
  rw [hF] at hlen ⊢
  obtain ⟨X, hX⟩ : ∃ X, X = w.alloc (.cells #[.int .i64 1, .int .i64 6, .slice RA r.length rc, .float .f64 l, .float .f64 h, .slice OA o.length oc] 32) := ⟨_, rfl⟩
  have hwX : Keep w X := by rw [hX]; exact (Keep.refl w).alloc _
  have hKX : Keep W0 X := hK.trans hwX
  have hBX : Bd W0.heap.size b bs X := hBd.keep hwX
  have hWX : Wr W0.heap.size b w X := Wr.of hwX hK.size
  have hne : w.heap.size ≠ b := Nat.ne_of_gt hBd.lt
  have hHX : X.heap[w.heap.size]? = some (.cells #[.int .i64 1, .int .i64 6, .slice RA r.length rc, .float .f64 l, .float .f64 h, .slice OA o.length oc] 32) := by rw [hX]; exact heap_new _ _
  have HB := Lib.hid (show ∀ W, Wr W0.heap.size b X W → W.cell? ⟨w.heap.size, 0, none⟩ = some (.int .i64 1) ∧ W.cell? ⟨w.heap.size, 1, none⟩ = some (.int .i64 6) ∧ W.cell? ⟨w.heap.size, 2, none⟩ = some (.slice RA r.length rc) ∧ W.cell? ⟨w.heap.size, 3, none⟩ = some (.float .f64 l) ∧ W.cell? ⟨w.heap.size, 4, none⟩ = some (.float .f64 h) ∧ W.cell? ⟨w.heap.size, 5, none⟩ = some (.slice OA o.length oc) from fun W hW => ElemAt.of_heap (e := .mk 1 6 r l h o ) (hW.box hHX hne (by decide)))
  have CL := fun p : KeptOf X => (show Calls Tryz.prog 103 #[.float .f64 l] p.w fun e w' => e = .returned (.string (st tl)) ∧ Keep p.w w' from by rw [htl]; exact bound_any l hl64 p.w (hT.keep (hKX.trans p.h)))
  have CH := fun p : KeptOf X => (show Calls Tryz.prog 103 #[.float .f64 h] p.w fun e w' => e = .returned (.string (st th)) ∧ Keep p.w w' from by rw [hth]; exact bound_any h hh64 p.w (hT.keep (hKX.trans p.h)))
  have HW := Lib.hid (fun p : KeptOf X => put_any W0 b bs q3 p.w (hKX.trans p.h) (hBX.keep p.h) hlen)
  have HP := Lib.hid (fun p : KeptOf X => Wr.of (b := b) p.h hKX.size)
  have p3 : ∀ p : KeptOf X, p.w.cell? ⟨w.heap.size, 3, none⟩ = some (.float .f64 l) := fun p => (HB.out _ (HP.out p)).2.2.2.1
  have p4 : ∀ p : KeptOf X, p.w.cell? ⟨w.heap.size, 4, none⟩ = some (.float .f64 h) := fun p => (HB.out _ (HP.out p)).2.2.2.2.1
  obtain ⟨b0, b1, b2, b3, b4, b5⟩ := HB.out _ (Wr.refl _ _ _)
  clear hHX hne hBX hKX hwX hq1 hq2 hq3 htl hth m1 m2 n1 n2 hl64 hh64 hlen hF hBd hK hT
  go_enter Tryz.func83, Tryz.ntmps83
  go_wp2_with fail
  rw [← hX]
  clear hX
  refine wp_region_kept_tail 10 (by kernel_rfl) (by kernel_rfl) ?_
  simp only [List.take_succ_cons, List.take_zero, List.drop_succ_cons, List.drop_zero]
  repeat (go_big_quiet_step (first | with_reducible exact KeptOf.of (CL _) | with_reducible exact KeptOf.of (CH _)))
  refine Go.wpQuiet_nil ?_
  intro p
  go_wp2_with fail
  refine (HW.out p).mono ?_
  rintro e w1 ⟨rfl, hB1, hW1⟩
  go_wp2
  refine bodyPost_ret (results_none rfl _ _ _) rfl ?_
  exact ⟨rfl, hB1, hWX.trans ((HP.out p).trans hW1)⟩
/-- The ranges written so far, the blank ahead of the first. -/
def soFar (r : List (Int × Int)) (j : Nat) : List UInt8 := if j = 0 then [] else 32 :: rng (r.take j)
def ahead (j : Nat) : List UInt8 := if j = 0 then [32] else [44]
theorem soFar_next (r : List (Int × Int)) (j : Nat) (h : j < r.length) : soFar r (j + 1) = soFar r j ++ (ahead j ++ range1 (r.getD j (0, 0))) := by
  unfold soFar ahead
  rw [if_neg (by omega), take_snoc (0, 0) r j h, rng_snoc, List.length_take, Nat.min_eq_left (Nat.le_of_lt h)]
  by_cases h0 : j = 0
  · rw [if_pos h0, if_pos h0, if_pos h0]; simp
  · rw [if_neg h0, if_neg h0, if_neg h0]; simp
theorem soFar_len (r : List (Int × Int)) (j : Nat) (h : j ≤ r.length) : (soFar r j).length ≤ (32 :: rng r).length := by
  have hm : ∀ (m a : List (Int × Int)), (rng a).length ≤ (rng (a ++ m)).length := by
    intro m
    induction m with
    | nil => intro a; rw [List.append_nil]; exact Nat.le_refl _
    | cons x m ih =>
      intro a
      have h1 := ih (a ++ [x])
      rw [List.append_assoc, List.singleton_append] at h1
      refine Nat.le_trans ?_ h1
      rw [rng_snoc]
      split
      · rename_i h0
        rw [List.eq_nil_of_length_eq_zero h0, rng]; simp
      · rw [List.length_append]; omega
  unfold soFar
  split
  · simp
  · have := hm (r.drop j) (r.take j)
    rw [List.take_append_drop] at this
    simpa using this
set_option maxHeartbeats 8000000 in
theorem atom_word (f : Int) (hf1 : 1 ≤ f) (hf5 : f ≤ 5) (RA OA : Option Addr) (rc oc : Nat) (r : List (Int × Int)) (l h : Nat) (o : List ExprP) (W0 : World) (b : Nat) (bs : List UInt8) (w : World) (hT : Tab W0) (hK : Keep W0 w) (hBd : Bd W0.heap.size b bs w) (hrl : r.length ≤ 1000000) (hr0 : 0 < r.length) (hE : Ex W0 (.mk 1 f r l h o) RA OA) (hlen : bs.length + (txt (.mk 1 f r l h o)).length ≤ 140737488355328) :
    Calls Tryz.prog 83 #[.pointer (some ⟨b, 0, none⟩), .agg #[.int .i64 1, .int .i64 f, .slice RA r.length rc, .float .f64 l, .float .f64 h, .slice OA o.length oc]] w (Wrote W0.heap.size b bs (txt (.mk 1 f r l h o)) w) := by
  have hF : txt (.mk 1 f r l h o) = word f ++ (32 :: rng r) := by rw [txt, if_pos rfl, if_neg (by omega)]
  rw [hF, List.length_append] at hlen
  have hFF := Lib.hid hF
  rw [hF]
  have d6 : (f == 6) = false := by simp; omega
  have HLen := Lib.hid hlen
  have hR0 := hE.1
  simp only [rs] at hR0
  obtain ⟨X, hX⟩ : ∃ X, X = w.alloc (.cells #[.int .i64 1, .int .i64 f, .slice RA r.length rc, .float .f64 l, .float .f64 h, .slice OA o.length oc] 32) := ⟨_, rfl⟩
  have hwX : Keep w X := by rw [hX]; exact (Keep.refl w).alloc _
  have hKX : Keep W0 X := hK.trans hwX
  have hBX : Bd W0.heap.size b bs X := hBd.keep hwX
  have hWX : Wr W0.heap.size b w X := Wr.of hwX hK.size
  have hne : w.heap.size ≠ b := Nat.ne_of_gt hBd.lt
  have hHX : X.heap[w.heap.size]? = some (.cells #[.int .i64 1, .int .i64 f, .slice RA r.length rc, .float .f64 l, .float .f64 h, .slice OA o.length oc] 32) := by rw [hX]; exact heap_new _ _
  have HB := Lib.hid (show ∀ W, Wr W0.heap.size b X W → W.cell? ⟨w.heap.size, 0, none⟩ = some (.int .i64 1) ∧ W.cell? ⟨w.heap.size, 1, none⟩ = some (.int .i64 f) ∧ W.cell? ⟨w.heap.size, 2, none⟩ = some (.slice RA r.length rc) ∧ W.cell? ⟨w.heap.size, 3, none⟩ = some (.float .f64 l) ∧ W.cell? ⟨w.heap.size, 4, none⟩ = some (.float .f64 h) ∧ W.cell? ⟨w.heap.size, 5, none⟩ = some (.slice OA o.length oc) from fun W hW => ElemAt.of_heap (e := .mk 1 f r l h o ) (hW.box hHX hne (by decide)))
  have CW := Lib.hid (fun W => word_any f W)
  have HW := Lib.hid (put_any W0 b bs (word f) X hKX hBX (by omega))
  have HKW := Lib.hid (fun W (h : Wr W0.heap.size b X W) => h.keep hKX)
  obtain ⟨b0, b1, b2, b3, b4, b5⟩ := HB.out _ (Wr.refl _ _ _)
  clear hHX hE hlen hF hf1 hf5 hBd hwX
  go_enter Tryz.func83, Tryz.ntmps83
  go_wp2_with fail
  rw [← hX]
  clear hX
  refine (CW.out _).mono ?_
  rintro e _ ⟨rfl, rfl⟩
  go_wp2_with fail
  refine HW.out.mono ?_
  rintro e w1 ⟨rfl, hB1, hW1⟩
  clear b0 b1 b2 b3 b4 b5
  obtain ⟨b0, b1, b2, b3, b4, b5⟩ := HB.out _ hW1
  go_wp2
  clear b0 b1 b2 b3 b4 b5
  go_loopw [4, 29] (fun sv iv wr => ∃ j : Nat, j ≤ r.length ∧ iv = .int .i64 j ∧ sv = .string (st (ahead j)) ∧ Bd W0.heap.size b ((bs ++ word f) ++ soFar r j) wr ∧ Wr W0.heap.size b X wr) (fun _ iv _ => r.length - (intOf iv).toNat)
  case atStart => exact ⟨0, Nat.zero_le _, rfl, rfl, by simpa [soFar] using hB1, hW1⟩
  case round =>
    obtain ⟨j, hj, rfl, rfl, hBj, hWj⟩ := hrel
    by_cases hlt : j < r.length
    · have hi1 : (j : Int) < r.length := by omega
      have hj0 : (0 : Int) ≤ j := by omega
      have hKj := HKW.out _ hWj
      have hRw := hR0.kept hKj
      obtain ⟨ba, off, rfl, hbb⟩ := hRw.addr (by omega)
      obtain ⟨_, x0, x1⟩ := hRw.pair j hlt
      have HN := Lib.hid (soFar_next r j hlt)
      have hL1 := soFar_len r (j + 1) hlt
      rw [soFar_next r j hlt, List.length_append, List.length_append] at hL1
      generalize r.getD j (0, 0) = p at *
      obtain ⟨p1, p2⟩ := p
      simp only at x0 x1
      generalize hah : ahead j = ah at *
      obtain ⟨t1, ht1⟩ : ∃ q, q = Gu.put p1 := ⟨_, rfl⟩
      obtain ⟨t2, ht2⟩ : ∃ q, q = Gu.put p2 := ⟨_, rfl⟩
      obtain ⟨q1, hq1⟩ : ∃ q, q = ah ++ t1 := ⟨_, rfl⟩
      obtain ⟨q2, hq2⟩ : ∃ q, q = [45] ++ t2 := ⟨_, rfl⟩
      have n0 : ah.length ≤ 1 := by rw [← hah, ahead]; split <;> simp
      have n1 : t1.length ≤ 16 := by rw [ht1]; exact Gu.put_len p1
      have n2 : t2.length ≤ 16 := by rw [ht2]; exact Gu.put_len p2
      have a1 : ∀ W : World, (Op.stringOp .add (st ah) (st t1)).run Tryz.prog W = .ok (.string (st q1)) W := by rw [hq1]; exact add_st ah t1 (by omega)
      have a2 : ∀ W : World, (Op.stringOp .add ⟨#[45]⟩ (st t2)).run Tryz.prog W = .ok (.string (st q2)) W := by rw [hq2]; exact add_st [45] t2 (by simp; omega)
      have hkY : ∀ O, Keep wr (wr.alloc O) := fun O => (Keep.refl wr).alloc O
      have hYb : ∀ O, (wr.alloc O).heap[wr.heap.size]? = some O := fun O => heap_new _ _
      have hneY : wr.heap.size ≠ b := Nat.ne_of_gt hBj.lt
      obtain ⟨Y, hY⟩ : ∃ Y, Y = wr.alloc (.cells #[.int .i64 p1, .int .i64 p2] 86) := ⟨_, rfl⟩
      have hWY : Wr W0.heap.size b wr Y := by rw [hY]; exact Wr.of (hkY _) hKj.size
      have hBY : Bd W0.heap.size b ((bs ++ word f) ++ soFar r j) Y := by rw [hY]; exact hBj.keep (hkY _)
      have hHY : Y.heap[wr.heap.size]? = some (.cells #[.int .i64 p1, .int .i64 p2] 86 (0, 0)) := by rw [hY]; exact hYb _
      have hKY := HKW.out _ (hWj.trans hWY)
      have HY := Lib.hid (show ∀ W, Wr W0.heap.size b Y W → W.cell? ⟨wr.heap.size, 0, none⟩ = some (.int .i64 p1) ∧ W.cell? ⟨wr.heap.size, 1, none⟩ = some (.int .i64 p2) from fun W hW => ⟨Lib.cell_of_heap (hW.box hHY hneY (by decide)) 0, Lib.cell_of_heap (hW.box hHY hneY (by decide)) 1⟩)
      have HNU := Lib.hid (show ∀ W (n : Int) (t : List UInt8), Wr W0.heap.size b Y W → t = Gu.put n → Calls Tryz.prog 65 #[.int .i64 n] W fun e w' => e = .returned (.string (st t)) ∧ Keep W w' from fun W n t hW ht => by rw [ht]; exact number_any n W (hT.keep (hW.keep hKY)))
      have HPU := Lib.hid (show ∀ W (bs' t : List UInt8), Wr W0.heap.size b Y W → Bd W0.heap.size b bs' W → bs'.length + t.length ≤ 140737488355328 → Calls Tryz.prog 42 #[.pointer (some ⟨b, 0, none⟩), .string (st t)] W fun e w' => e = .returned (.tuple #[.int .i64 (st t).size, .nilIface]) ∧ Bd W0.heap.size b (bs' ++ t) w' ∧ Wr W0.heap.size b W w' from fun W bs' t hW hB hl => put_any W0 b bs' t W (hW.keep hKY) hB hl)
      have HWY := Lib.hid hWY
      have HT1 := Lib.hid ht1
      have HT2 := Lib.hid ht2
      have HQ1 := Lib.hid hq1
      have HQ2 := Lib.hid hq2
      have HAH := Lib.hid hah
      have hsY : W0.heap.size ≤ Y.heap.size := hKY.size
      have HKeepWr := Lib.hid (show ∀ W V, Wr W0.heap.size b Y W → Keep W V → Wr W0.heap.size b Y V from fun W V hW hV => hW.trans (Wr.of hV (Nat.le_trans hsY hW.size)))
      obtain ⟨y0, y1⟩ := HY.out _ (Wr.refl _ _ _)
      have hSq : soFar r (j + 1) = soFar r j ++ (ah ++ range1 (p1, p2)) := HN.out
      by_cases hpp : p2 = p1
      · have dp : (p2 != p1) = false := by simpa using hpp
        have hS : soFar r (j + 1) = soFar r j ++ q1 := by rw [hSq, HQ1.out, HT1.out, range1, if_pos hpp]
        have hLq : (soFar r j).length + q1.length ≤ (32 :: rng r).length := by rw [HQ1.out, List.length_append, HT1.out]; rw [range1, if_pos hpp] at hL1; omega
        have HS := Lib.hid hS
        have HLq := Lib.hid hLq
        clear hpp hq1 hq2 ht1 ht2 hah n0 n1 n2 hSq hL1 hS hLq hHY hneY hYb hkY hsY hKj hRw hbb hWY
        go_wp2_with fail
        rw [← hY]
        clear hY x0 x1
        refine (HNU.out _ p1 t1 (Wr.refl _ _ _) HT1.out).mono ?_
        rintro e w2 ⟨rfl, k2⟩
        have v2 := HKeepWr.out _ _ (Wr.refl _ _ _) k2
        go_wp2_with fail
        refine (HPU.out _ _ q1 v2 (hBY.keep k2) (by have := HLen.out; have := HLq.out; simp only [List.length_append] at *; omega)).mono ?_
        rintro e w3 ⟨rfl, hB3, hW3⟩
        have v3 := v2.trans hW3
        clear y0 y1
        obtain ⟨y0, y1⟩ := HY.out _ v3
        go_wp2
        go_roundw
        case rel => exact ⟨j + 1, by omega, by go_num, (by rw [ahead, if_neg (by omega)]; rfl), by rw [HS.out, ← List.append_assoc]; exact hB3, hWj.trans (HWY.out.trans v3)⟩
        case measure => simp [intOf]; omega
      · have dp : (p2 != p1) = true := by simpa using hpp
        have hS : soFar r (j + 1) = (soFar r j ++ q1) ++ q2 := by rw [hSq, HQ1.out, HQ2.out, HT1.out, HT2.out, range1, if_neg hpp]; simp
        have hLq : (soFar r j).length + q1.length + q2.length ≤ (32 :: rng r).length := by
          rw [HQ1.out, HQ2.out, List.length_append, List.length_append, HT1.out, HT2.out]; rw [range1, if_neg hpp, List.length_append, List.length_cons] at hL1; simp only [List.length_cons, List.length_nil] at *; omega
        have HS := Lib.hid hS
        have HLq := Lib.hid hLq
        clear hpp hq1 hq2 ht1 ht2 hah n0 n1 n2 hSq hL1 hS hLq hHY hneY hYb hkY hsY hKj hRw hbb hWY
        go_wp2_with fail
        rw [← hY]
        clear hY x0 x1
        refine (HNU.out _ p1 t1 (Wr.refl _ _ _) HT1.out).mono ?_
        rintro e w2 ⟨rfl, k2⟩
        have v2 := HKeepWr.out _ _ (Wr.refl _ _ _) k2
        go_wp2_with fail
        refine (HPU.out _ _ q1 v2 (hBY.keep k2) (by have := HLen.out; have := HLq.out; simp only [List.length_append] at *; omega)).mono ?_
        rintro e w3 ⟨rfl, hB3, hW3⟩
        have v3 := v2.trans hW3
        clear y0 y1
        obtain ⟨y0, y1⟩ := HY.out _ v3
        go_wp2_with fail
        refine (HNU.out _ p2 t2 v3 HT2.out).mono ?_
        rintro e w4 ⟨rfl, k4⟩
        have v4 := HKeepWr.out _ _ v3 k4
        go_wp2_with fail
        refine (HPU.out _ _ q2 v4 (hB3.keep k4) (by have := HLen.out; have := HLq.out; simp only [List.length_append] at *; omega)).mono ?_
        rintro e w5 ⟨rfl, hB5, hW5⟩
        have v5 := v4.trans hW5
        clear y0 y1
        go_wp2
        go_roundw
        case rel => exact ⟨j + 1, by omega, by go_num, (by rw [ahead, if_neg (by omega)]; rfl), by rw [HS.out, ← List.append_assoc, ← List.append_assoc]; exact hB5, hWj.trans (HWY.out.trans v5)⟩
        case measure => simp [intOf]; omega
    · obtain rfl : j = r.length := by omega
      go_wp2
      (first | go_end0 | refine bodyPost_ret (results_none rfl _ _ _) rfl ?_)
      refine ⟨rfl, ?_, hWX.trans hWj⟩
      have e : soFar r r.length = 32 :: rng r := by rw [soFar, if_neg (by omega), List.take_length]
      rw [e] at hBj
      rw [← List.append_assoc]; exact hBj
end Go.Proofs.YtmcgflpgkkophaaGreatDoor.Tree
/- The developers' tree: the text of an expression, written to a builder. Conditions: lists at most a million; at most 2^47 bytes. -/
namespace Go.Proofs.YtmcgflpgkkophaaGreatDoor.Tree
set_option linter.unusedVariables false
open Go.ChangeShapes Go.WideShapes Go.ChangeAt Go.RowKit
open Tr Bld
open Go.Proofs.YtmcgflpgkkophaaGreatDoor.Fp (sameB)
open Go.Proofs.YtmcgflpgkkophaaGreatDoor.Re (tOk tL)
set_option maxHeartbeats 1000000 in
theorem needs_any (x k : Int) (w : World) (hk : k = 2 ∨ k = 3 ∨ k = 4) : Calls Tryz.prog 104 #[.int .i64 x, .int .i64 k] w fun e w' => e = .returned (.bool (must k x)) ∧ w = w' := by
  have HM := Lib.hid (show must k x = (x == 4 || (x == 3 && !(k == 4))) by rcases hk with rfl | rfl | rfl <;> simp [must])
  clear hk
  go_enter Tryz.func104, Tryz.ntmps104
  go_wp2
  all_goals (go_ret; refine ⟨ret_bool ?_, rfl⟩; rw [HM.out]; first | (simp_all; done) | (simp_all; rfl))
/-- One more write, in whatever world behind. -/
def Writes (W0 : World) (b : Nat) (t : List UInt8) (f : Nat) (args : Array Value) : Prop :=
  ∀ (W : World) (bs : List UInt8), Keep W0 W → Bd W0.heap.size b bs W → bs.length + t.length ≤ 140737488355328 → Calls Tryz.prog f (#[.pointer (some ⟨b, 0, none⟩)] ++ args) W (Wrote W0.heap.size b bs t W)
set_option maxHeartbeats 4000000 in
theorem writePart_any (e : ExprP) (RA OA : Option Addr) (rc oc : Nat) (k0 : Int) (hk0 : k0 = 2 ∨ k0 = 3 ∨ k0 = 4) (W0 : World) (b : Nat) (hwr : Writes W0 b (txt e) 64 #[.agg #[.int .i64 (kind e), .int .i64 (field e), .slice RA (rs e).length rc, .float .f64 (lo e), .float .f64 (hi e), .slice OA (of e).length oc]]) :
    Writes W0 b (brack (txt e) (must k0 (kind e))) 84 #[.agg #[.int .i64 (kind e), .int .i64 (field e), .slice RA (rs e).length rc, .float .f64 (lo e), .float .f64 (hi e), .slice OA (of e).length oc], .int .i64 k0] := by
  intro w bs hK hBd hlen
  show Calls Tryz.prog 84 #[.pointer (some ⟨b, 0, none⟩), .agg #[.int .i64 (kind e), .int .i64 (field e), .slice RA (rs e).length rc, .float .f64 (lo e), .float .f64 (hi e), .slice OA (of e).length oc], .int .i64 k0] w _
  replace hwr : ∀ (W : World) (bs : List UInt8), Keep W0 W → Bd W0.heap.size b bs W → bs.length + (txt e).length ≤ 140737488355328 → Calls Tryz.prog 64 #[.pointer (some ⟨b, 0, none⟩), .agg #[.int .i64 (kind e), .int .i64 (field e), .slice RA (rs e).length rc, .float .f64 (lo e), .float .f64 (hi e), .slice OA (of e).length oc]] W (Wrote W0.heap.size b bs (txt e) W) := hwr
  have CN := Lib.hid (fun W => needs_any (kind e) k0 W hk0)
  have hlen0 := hlen
  obtain ⟨m, hm⟩ : ∃ m, m = must k0 (kind e) := ⟨_, rfl⟩
  obtain ⟨t, ht⟩ : ∃ t, t = txt e := ⟨_, rfl⟩
  rw [← hm] at CN hlen ⊢
  rw [← ht] at hwr hlen ⊢
  obtain ⟨k, f, r, l, h, o⟩ := e
  simp only [kind, field, rs, lo, hi, of] at CN hwr ⊢
  obtain ⟨X, hX⟩ : ∃ X, X = w.alloc (.cells #[.int .i64 k, .int .i64 f, .slice RA r.length rc, .float .f64 l, .float .f64 h, .slice OA o.length oc] 32) := ⟨_, rfl⟩
  have hwX : Keep w X := by rw [hX]; exact (Keep.refl w).alloc _
  have hKX : Keep W0 X := hK.trans hwX
  have hBX : Bd W0.heap.size b bs X := hBd.keep hwX
  have hWX : Wr W0.heap.size b w X := Wr.of hwX hK.size
  have hne : w.heap.size ≠ b := Nat.ne_of_gt hBd.lt
  have hHX : X.heap[w.heap.size]? = some (.cells #[.int .i64 k, .int .i64 f, .slice RA r.length rc, .float .f64 l, .float .f64 h, .slice OA o.length oc] 32) := by rw [hX]; exact heap_new _ _
  have HB := Lib.hid (show ∀ W, Wr W0.heap.size b X W → W.cell? ⟨w.heap.size, 0, none⟩ = some (.int .i64 k) ∧ W.cell? ⟨w.heap.size, 1, none⟩ = some (.int .i64 f) ∧ W.cell? ⟨w.heap.size, 2, none⟩ = some (.slice RA r.length rc) ∧ W.cell? ⟨w.heap.size, 3, none⟩ = some (.float .f64 l) ∧ W.cell? ⟨w.heap.size, 4, none⟩ = some (.float .f64 h) ∧ W.cell? ⟨w.heap.size, 5, none⟩ = some (.slice OA o.length oc) from fun W hW => ElemAt.of_heap (e := .mk k f r l h o ) (hW.box hHX hne (by decide)))
  have HKW := Lib.hid (fun W (h : Wr W0.heap.size b X W) => h.keep hKX)
  obtain ⟨b0, b1, b2, b3, b4, b5⟩ := HB.out _ (Wr.refl _ _ _)
  cases m
  · have hlen : bs.length + t.length ≤ 140737488355328 := by simpa [brack] using hlen
    have HW := Lib.hid (hwr X bs hKX hBX hlen)
    clear hHX hne hBX hwX hm ht hlen hlen0 hBd hK hKX hwr
    go_enter Tryz.func84, Tryz.ntmps84
    go_wp2_with fail
    rw [← hX]
    clear hX
    refine (CN.out _).mono ?_
    rintro e _ ⟨rfl, rfl⟩
    go_wp2_with fail
    refine HW.out.mono ?_
    rintro e w1 ⟨rfl, hB1, hW1⟩
    go_wp2
    (first | go_end0 | refine bodyPost_ret (results_none rfl _ _ _) rfl ?_)
    exact ⟨rfl, hB1, hWX.trans hW1⟩
  · have hlen : bs.length + (t.length + 2) ≤ 140737488355328 := by simpa [brack] using hlen
    have HW1 := Lib.hid (put_any W0 b bs [40] X hKX hBX (by simp; omega))
    have HW2 := Lib.hid (fun W (h : Wr W0.heap.size b X W) (hB : Bd W0.heap.size b (bs ++ [40]) W) => hwr W (bs ++ [40]) (h.keep hKX) hB (by simp; omega))
    have HW3 := Lib.hid (fun W (h : Wr W0.heap.size b X W) (hB : Bd W0.heap.size b ((bs ++ [40]) ++ t) W) => put_any W0 b ((bs ++ [40]) ++ t) [41] W (h.keep hKX) hB (by simp; omega))
    clear hHX hne hBX hwX hm ht hlen hlen0 hBd hK hKX hwr
    go_enter Tryz.func84, Tryz.ntmps84
    go_wp2_with fail
    rw [← hX]
    clear hX
    refine (CN.out _).mono ?_
    rintro e _ ⟨rfl, rfl⟩
    go_wp2_with fail
    refine HW1.out.mono ?_
    rintro e w1 ⟨rfl, hB1, hW1⟩
    clear b0 b1 b2 b3 b4 b5
    obtain ⟨b0, b1, b2, b3, b4, b5⟩ := HB.out _ hW1
    go_wp2_with fail
    refine (HW2.out _ hW1 hB1).mono ?_
    rintro e w2 ⟨rfl, hB2, hW2⟩
    go_wp2_with fail
    refine (HW3.out _ (hW1.trans hW2) hB2).mono ?_
    rintro e w3 ⟨rfl, hB3, hW3⟩
    go_wp2
    (first | go_end0 | refine bodyPost_ret (results_none rfl _ _ _) rfl ?_)
    refine ⟨rfl, ?_, hWX.trans ((hW1.trans hW2).trans hW3)⟩
    have e : bs ++ brack t true = ((bs ++ [40]) ++ t) ++ [41] := by simp [brack]
    rw [e]; exact hB3
set_option maxHeartbeats 8000000 in
theorem writeParts_any (e : ExprP) (RA OA : Option Addr) (rc oc : Nat) (hk0 : kind e = 3 ∨ kind e = 4) (W0 : World) (b : Nat) (hol : (of e).length ≤ 1000000) (hE : Ex W0 e RA OA)
    (hwr : ∀ (x : ExprP), x ∈ of e → ∀ (RA OA : Option Addr) (rc oc : Nat), Ex W0 x RA OA → Writes W0 b (brack (txt x) (must (kind e) (kind x))) 84 #[.agg #[.int .i64 (kind x), .int .i64 (field x), .slice RA (rs x).length rc, .float .f64 (lo x), .float .f64 (hi x), .slice OA (of x).length oc], .int .i64 (kind e)]) :
    Writes W0 b (txtL (kind e) (of e)) 85 #[.agg #[.int .i64 (kind e), .int .i64 (field e), .slice RA (rs e).length rc, .float .f64 (lo e), .float .f64 (hi e), .slice OA (of e).length oc], .string (st (sep (kind e)))] := by
  intro w bs hK hBd hlen
  obtain ⟨k, f, r, l, h, o⟩ := e
  simp only [kind, field, rs, lo, hi, of] at hk0 hol hwr hlen hE ⊢
  show Calls Tryz.prog 85 #[.pointer (some ⟨b, 0, none⟩), .agg #[.int .i64 k, .int .i64 f, .slice RA r.length rc, .float .f64 l, .float .f64 h, .slice OA o.length oc], .string (st (sep k))] w _
  have HLen := Lib.hid hlen
  have hO0 : Exs W0 OA o := hE.exs
  obtain ⟨X, hX⟩ : ∃ X, X = w.alloc (.cells #[.int .i64 k, .int .i64 f, .slice RA r.length rc, .float .f64 l, .float .f64 h, .slice OA o.length oc] 32) := ⟨_, rfl⟩
  have hwX : Keep w X := by rw [hX]; exact (Keep.refl w).alloc _
  have hKX : Keep W0 X := hK.trans hwX
  have hBX : Bd W0.heap.size b bs X := hBd.keep hwX
  have hWX : Wr W0.heap.size b w X := Wr.of hwX hK.size
  have hne : w.heap.size ≠ b := Nat.ne_of_gt hBd.lt
  have hHX : X.heap[w.heap.size]? = some (.cells #[.int .i64 k, .int .i64 f, .slice RA r.length rc, .float .f64 l, .float .f64 h, .slice OA o.length oc] 32) := by rw [hX]; exact heap_new _ _
  have HB := Lib.hid (show ∀ W, Wr W0.heap.size b X W → W.cell? ⟨w.heap.size, 0, none⟩ = some (.int .i64 k) ∧ W.cell? ⟨w.heap.size, 1, none⟩ = some (.int .i64 f) ∧ W.cell? ⟨w.heap.size, 2, none⟩ = some (.slice RA r.length rc) ∧ W.cell? ⟨w.heap.size, 3, none⟩ = some (.float .f64 l) ∧ W.cell? ⟨w.heap.size, 4, none⟩ = some (.float .f64 h) ∧ W.cell? ⟨w.heap.size, 5, none⟩ = some (.slice OA o.length oc) from fun W hW => ElemAt.of_heap (e := .mk k f r l h o ) (hW.box hHX hne (by decide)))
  have HKW := Lib.hid (fun W (h : Wr W0.heap.size b X W) => h.keep hKX)
  obtain ⟨sp, hsp⟩ : ∃ q, q = sep k := ⟨_, rfl⟩
  rw [← hsp]
  have HSP := Lib.hid hsp
  clear hsp
  have hk2 : k = 2 ∨ k = 3 ∨ k = 4 := .inr hk0
  obtain ⟨b0, b1, b2, b3, b4, b5⟩ := HB.out _ (Wr.refl _ _ _)
  clear hHX hE hlen hBd hwX hk0
  go_enter Tryz.func85, Tryz.ntmps85
  go_wp2
  rw [← hX]
  clear hX b0 b1 b2 b3 b4 b5
  go_loopw [11] (fun iv wr => ∃ j : Nat, j ≤ o.length ∧ iv = .int .i64 j ∧ Bd W0.heap.size b (bs ++ txtL k (o.take j)) wr ∧ Wr W0.heap.size b X wr) (fun iv _ => o.length - (intOf iv).toNat)
  case atStart => exact ⟨0, Nat.zero_le _, rfl, by rw [List.take_zero, txtL, List.append_nil]; exact hBX, Wr.refl _ _ _⟩
  case round =>
    obtain ⟨j, hj, rfl, hBj, hWj⟩ := hrel
    by_cases hlt : j < o.length
    · have hi1 : (j : Int) < o.length := by omega
      have hj0 : (0 : Int) ≤ j := by omega
      have hKj := HKW.out _ hWj
      obtain ⟨ba, off, rfl, hbb⟩ := hO0.addr (by omega)
      obtain ⟨_, RA', OA', rc', oc', hx60, hx⟩ := hO0.elem j hlt
      have hx6 := hx60.kept hbb hKj
      have hmem := getD_mem zero o j hlt
      have HEL := Lib.hid (elem_len k o j hlt).2
      have HSN := Lib.hid (txtL_snoc k (o.take j) (o.getD j zero))
      rw [← take_snoc zero o j hlt, List.length_take, Nat.min_eq_left hj] at HSN
      have hwp := fun rc oc => hwr (o.getD j zero) hmem RA' OA' rc oc hx
      clear hx60 hx
      generalize o.getD j zero = x at *
      obtain ⟨x0, x1, x2, x3, x4, x5⟩ := hx6
      have hsf := store_float Tryz.prog
      obtain ⟨Y, hY⟩ : ∃ Y, Y = wr.alloc (.cells #[.int .i64 (kind x), .int .i64 (field x), .slice RA' (rs x).length rc', .float .f64 (lo x), .float .f64 (hi x), .slice OA' (of x).length oc'] 32) := ⟨_, rfl⟩
      have hkY : Keep wr Y := by rw [hY]; exact (Keep.refl wr).alloc _
      have hWY : Wr W0.heap.size b wr Y := Wr.of hkY hKj.size
      have hBY : Bd W0.heap.size b (bs ++ txtL k (o.take j)) Y := hBj.keep hkY
      have hneY : wr.heap.size ≠ b := Nat.ne_of_gt hBj.lt
      have hHY : Y.heap[wr.heap.size]? = some (.cells #[.int .i64 (kind x), .int .i64 (field x), .slice RA' (rs x).length rc', .float .f64 (lo x), .float .f64 (hi x), .slice OA' (of x).length oc'] 32 (0, 0)) := by rw [hY]; exact heap_new _ _
      have hKY := HKW.out _ (hWj.trans hWY)
      have HY := Lib.hid (show ∀ W, Wr W0.heap.size b Y W → ElemAt W x RA' OA' rc' oc' wr.heap.size 0 from fun W hW => ElemAt.of_heap (hW.box hHY hneY (by decide)))
      obtain ⟨y0, y1, y2, y3, y4, y5⟩ := HY.out _ (Wr.refl _ _ _)
      have z0 := fun O => (HB.out _ (hWj.trans (Wr.of ((Keep.refl wr).alloc O) hKj.size))).1
      have HWY := Lib.hid hWY
      have HWP := Lib.hid (show ∀ W (bs' : List UInt8), Wr W0.heap.size b Y W → Bd W0.heap.size b bs' W → bs'.length + (brack (txt x) (must k (kind x))).length ≤ 140737488355328 → Calls Tryz.prog 84 #[.pointer (some ⟨b, 0, none⟩), .agg #[.int .i64 (kind x), .int .i64 (field x), .slice RA' (rs x).length rc', .float .f64 (lo x), .float .f64 (hi x), .slice OA' (of x).length oc'], .int .i64 k] W (Wrote W0.heap.size b bs' (brack (txt x) (must k (kind x))) W) from fun W bs' hW hB hl => hwp rc' oc' W bs' (hW.keep hKY) hB hl)
      by_cases h0 : j = 0
      · have dj : decide ((0 : Int) < (j : Int)) = false := by simp; omega
        have dj' : decide (0 < j) = false := by simp; omega
        rw [if_pos h0] at HSN HEL
        have hT0 : txtL k (o.take j) = [] := by rw [h0, List.take_zero, txtL]
        rw [hT0] at hBY HEL hBj
        rw [List.append_nil] at hBY hBj
        have HTX := HSN
        have HEL := Lib.hid (show (brack (txt x) (must k (kind x))).length ≤ (txtL k o).length by have := HEL.out; simp at this; omega)
        clear hwp hwr hHY hneY hKY hWY hkY hmem hbb hO0 hKX hT0 hK
        have hj' : j = 0 ∨ True := .inr trivial
        clear h0
        go_wp2_with fail
        rw [← hY]
        clear hY
        refine (HWP.out _ _ (Wr.refl _ _ _) hBY (by have := HLen.out; have := HEL.out; omega)).mono ?_
        rintro e w3 ⟨rfl, hB3, hW3⟩
        go_wp2
        go_roundw
        case rel => exact ⟨j + 1, by omega, by go_num, by rw [HTX.out]; exact hB3, hWj.trans (HWY.out.trans hW3)⟩
        case measure => simp [intOf]; omega
      · have dj : decide ((0 : Int) < (j : Int)) = true := by simp; omega
        have dj' : decide (0 < j) = true := by simp; omega
        rw [if_neg h0] at HSN HEL
        have HTX := Lib.hid (show txtL k (o.take (j + 1)) = txtL k (o.take j) ++ (sp ++ brack (txt x) (must k (kind x))) by rw [HSN.out, HSP.out])
        rw [← HSP.out] at HEL
        have HPU := Lib.hid (put_any W0 b (bs ++ txtL k (o.take j)) sp Y hKY hBY)
        clear hwp hwr hHY hneY hKY hWY hkY hmem hbb hO0 hKX hK h0
        go_wp2_with fail
        rw [← hY]
        clear hY
        refine (HPU.out (by have := HLen.out; have := HEL.out; rw [List.length_append]; omega)).mono ?_
        rintro e w2 ⟨rfl, hB2, hW2⟩
        clear y0 y1 y2 y3 y4 y5 z0
        obtain ⟨y0, y1, y2, y3, y4, y5⟩ := HY.out _ hW2
        obtain ⟨b0, b1, b2, b3, b4, b5⟩ := HB.out _ (hWj.trans (HWY.out.trans hW2))
        go_wp2_with fail
        refine (HWP.out _ _ hW2 hB2 (by have := HLen.out; have := HEL.out; simp only [List.length_append] at *; omega)).mono ?_
        rintro e w3 ⟨rfl, hB3, hW3⟩
        go_wp2
        go_roundw
        case rel => exact ⟨j + 1, by omega, by go_num, by rw [HTX.out]; simpa [List.append_assoc] using hB3, hWj.trans (HWY.out.trans (hW2.trans hW3))⟩
        case measure => simp [intOf]; omega
    · obtain rfl : j = o.length := by omega
      rw [List.take_length] at hBj
      go_wp2
      (first | go_end0 | refine bodyPost_ret (results_none rfl _ _ _) rfl ?_)
      exact ⟨rfl, hBj, hWX.trans hWj⟩
end Go.Proofs.YtmcgflpgkkophaaGreatDoor.Tree
/- The developers' tree: the text of an expression, a rule, a policy. Conditions: lists at most a million; at most 2^47 bytes. -/
namespace Go.Proofs.YtmcgflpgkkophaaGreatDoor.Tree
set_option linter.unusedVariables false
open Go.ChangeShapes Go.WideShapes Go.ChangeAt Go.RowKit
open Tr Bld
open Go.Proofs.YtmcgflpgkkophaaGreatDoor.Fp (sameB)
open Go.Proofs.YtmcgflpgkkophaaGreatDoor.Re (tOk tL)
theorem atom_some {f : Int} {r : List (Int × Int)} {l h : Nat} {o : List ExprP} (hr : right (.mk 1 f r l h o) = true) (h6 : f ≠ 6) : 0 < r.length := by
  rw [right, if_pos rfl, atomR, if_neg h6] at hr
  simp only [Bool.and_eq_true, Bool.not_eq_true', beq_eq_false_iff_ne] at hr
  have := hr.2.2.2.2.1
  omega
set_option maxHeartbeats 4000000 in
theorem write_atom (f : Int) (RA OA : Option Addr) (rc oc : Nat) (r : List (Int × Int)) (l h : Nat) (o : List ExprP) (W0 : World) (b : Nat) (hT : Tab W0) (hf1 : 1 ≤ f) (hf6 : f ≤ 6) (hrl : r.length ≤ 1000000) (hl64 : l < 18446744073709551616) (hh64 : h < 18446744073709551616) (hri : right (.mk 1 f r l h o) = true) (hE : Ex W0 (.mk 1 f r l h o) RA OA) :
    Writes W0 b (txt (.mk 1 f r l h o)) 64 #[.agg #[.int .i64 1, .int .i64 f, .slice RA r.length rc, .float .f64 l, .float .f64 h, .slice OA o.length oc]] := by
  intro w bs hK hBd hlen
  show Calls Tryz.prog 64 #[.pointer (some ⟨b, 0, none⟩), .agg #[.int .i64 1, .int .i64 f, .slice RA r.length rc, .float .f64 l, .float .f64 h, .slice OA o.length oc]] w _
  by_cases h6 : f = 6
  · subst h6
    obtain ⟨X, hX⟩ : ∃ X, X = w.alloc (.cells #[.int .i64 1, .int .i64 6, .slice RA r.length rc, .float .f64 l, .float .f64 h, .slice OA o.length oc] 32) := ⟨_, rfl⟩
    have hwX : Keep w X := by rw [hX]; exact (Keep.refl w).alloc _
    have hKX : Keep W0 X := hK.trans hwX
    have hBX : Bd W0.heap.size b bs X := hBd.keep hwX
    have hWX : Wr W0.heap.size b w X := Wr.of hwX hK.size
    have hne : w.heap.size ≠ b := Nat.ne_of_gt hBd.lt
    have hHX : X.heap[w.heap.size]? = some (.cells #[.int .i64 1, .int .i64 6, .slice RA r.length rc, .float .f64 l, .float .f64 h, .slice OA o.length oc] 32) := by rw [hX]; exact heap_new _ _
    have HB := Lib.hid (show ∀ W, Wr W0.heap.size b X W → W.cell? ⟨w.heap.size, 0, none⟩ = some (.int .i64 1) ∧ W.cell? ⟨w.heap.size, 1, none⟩ = some (.int .i64 6) ∧ W.cell? ⟨w.heap.size, 2, none⟩ = some (.slice RA r.length rc) ∧ W.cell? ⟨w.heap.size, 3, none⟩ = some (.float .f64 l) ∧ W.cell? ⟨w.heap.size, 4, none⟩ = some (.float .f64 h) ∧ W.cell? ⟨w.heap.size, 5, none⟩ = some (.slice OA o.length oc) from fun W hW => ElemAt.of_heap (e := .mk 1 6 r l h o ) (hW.box hHX hne (by decide)))
    have HW := Lib.hid (atom_real RA OA rc oc r l h o W0 b bs X hT hKX hBX hl64 hh64 hlen)
    clear hHX hne hBX hwX hlen hBd hK hKX
    go_enter Tryz.func64, Tryz.ntmps64
    go_wp2_with fail
    rw [← hX]
    clear hX
    refine HW.out.mono ?_
    rintro e w1 ⟨rfl, hB1, hW1⟩
    go_wp2
    (first | go_end0 | refine bodyPost_ret (results_none rfl _ _ _) rfl ?_)
    exact ⟨rfl, hB1, hWX.trans hW1⟩
  · have hr0 := atom_some hri h6
    obtain ⟨X, hX⟩ : ∃ X, X = w.alloc (.cells #[.int .i64 1, .int .i64 f, .slice RA r.length rc, .float .f64 l, .float .f64 h, .slice OA o.length oc] 32) := ⟨_, rfl⟩
    have hwX : Keep w X := by rw [hX]; exact (Keep.refl w).alloc _
    have hKX : Keep W0 X := hK.trans hwX
    have hBX : Bd W0.heap.size b bs X := hBd.keep hwX
    have hWX : Wr W0.heap.size b w X := Wr.of hwX hK.size
    have hne : w.heap.size ≠ b := Nat.ne_of_gt hBd.lt
    have hHX : X.heap[w.heap.size]? = some (.cells #[.int .i64 1, .int .i64 f, .slice RA r.length rc, .float .f64 l, .float .f64 h, .slice OA o.length oc] 32) := by rw [hX]; exact heap_new _ _
    have HB := Lib.hid (show ∀ W, Wr W0.heap.size b X W → W.cell? ⟨w.heap.size, 0, none⟩ = some (.int .i64 1) ∧ W.cell? ⟨w.heap.size, 1, none⟩ = some (.int .i64 f) ∧ W.cell? ⟨w.heap.size, 2, none⟩ = some (.slice RA r.length rc) ∧ W.cell? ⟨w.heap.size, 3, none⟩ = some (.float .f64 l) ∧ W.cell? ⟨w.heap.size, 4, none⟩ = some (.float .f64 h) ∧ W.cell? ⟨w.heap.size, 5, none⟩ = some (.slice OA o.length oc) from fun W hW => ElemAt.of_heap (e := .mk 1 f r l h o ) (hW.box hHX hne (by decide)))
    have HW := Lib.hid (atom_word f hf1 (by omega) RA OA rc oc r l h o W0 b bs X hT hKX hBX hrl hr0 hE hlen)
    clear h6 hr0 hri hf1 hf6 hHX hne hBX hwX hlen hBd hK hKX
    go_enter Tryz.func64, Tryz.ntmps64
    go_wp2_with fail
    rw [← hX]
    clear hX
    refine HW.out.mono ?_
    rintro e w1 ⟨rfl, hB1, hW1⟩
    go_wp2
    (first | go_end0 | refine bodyPost_ret (results_none rfl _ _ _) rfl ?_)
    exact ⟨rfl, hB1, hWX.trans hW1⟩
set_option maxHeartbeats 4000000 in
theorem write_not (f : Int) (RA OA : Option Addr) (rc oc : Nat) (r : List (Int × Int)) (l h : Nat) (x : ExprP) (W0 : World) (b : Nat) (hE : Ex W0 (.mk 2 f r l h [x]) RA OA)
    (hwr : ∀ (RA OA : Option Addr) (rc oc : Nat), Ex W0 x RA OA → Writes W0 b (brack (txt x) (must 2 (kind x))) 84 #[.agg #[.int .i64 (kind x), .int .i64 (field x), .slice RA (rs x).length rc, .float .f64 (lo x), .float .f64 (hi x), .slice OA (of x).length oc], .int .i64 2]) :
    Writes W0 b (txt (.mk 2 f r l h [x])) 64 #[.agg #[.int .i64 2, .int .i64 f, .slice RA r.length rc, .float .f64 l, .float .f64 h, .slice OA 1 oc]] := by
  intro w bs hK hBd hlen
  show Calls Tryz.prog 64 #[.pointer (some ⟨b, 0, none⟩), .agg #[.int .i64 2, .int .i64 f, .slice RA r.length rc, .float .f64 l, .float .f64 h, .slice OA 1 oc]] w _
  have hF : txt (.mk 2 f r l h [x]) = wNot ++ brack (txt x) (must 2 (kind x)) := by rw [txt, if_neg (by decide), if_pos rfl, txtL_one]
  rw [hF] at hlen ⊢
  rw [List.length_append] at hlen
  have hn4 : wNot.length = 4 := rfl
  have hO0 : Exs W0 OA [x] := hE.exs
  obtain ⟨ba, off, rfl, hbb⟩ := hO0.addr (by simp)
  obtain ⟨_, RA', OA', rc', oc', hx60, hx⟩ := hO0.elem 0 (by simp)
  simp only [List.getD_cons_zero] at hx60 hx
  obtain ⟨X, hX⟩ : ∃ X, X = w.alloc (.cells #[.int .i64 2, .int .i64 f, .slice RA r.length rc, .float .f64 l, .float .f64 h, .slice (some ⟨ba, off, none⟩) 1 oc] 32) := ⟨_, rfl⟩
  have hwX : Keep w X := by rw [hX]; exact (Keep.refl w).alloc _
  have hKX : Keep W0 X := hK.trans hwX
  have hBX : Bd W0.heap.size b bs X := hBd.keep hwX
  have hWX : Wr W0.heap.size b w X := Wr.of hwX hK.size
  have hne : w.heap.size ≠ b := Nat.ne_of_gt hBd.lt
  have hHX : X.heap[w.heap.size]? = some (.cells #[.int .i64 2, .int .i64 f, .slice RA r.length rc, .float .f64 l, .float .f64 h, .slice (some ⟨ba, off, none⟩) 1 oc] 32) := by rw [hX]; exact heap_new _ _
  have HB := Lib.hid (show ∀ W, Wr W0.heap.size b X W → W.cell? ⟨w.heap.size, 0, none⟩ = some (.int .i64 2) ∧ W.cell? ⟨w.heap.size, 1, none⟩ = some (.int .i64 f) ∧ W.cell? ⟨w.heap.size, 2, none⟩ = some (.slice RA r.length rc) ∧ W.cell? ⟨w.heap.size, 3, none⟩ = some (.float .f64 l) ∧ W.cell? ⟨w.heap.size, 4, none⟩ = some (.float .f64 h) ∧ W.cell? ⟨w.heap.size, 5, none⟩ = some (.slice (some ⟨ba, off, none⟩) 1 oc) from fun W hW => ElemAt.of_heap (e := .mk 2 f r l h [x] ) (hW.box hHX hne (by decide)))
  have HW1 := Lib.hid (put_any W0 b bs wNot X hKX hBX (by omega))
  have HKW := Lib.hid (fun W (h : Wr W0.heap.size b X W) => h.keep hKX)
  have HX6 := Lib.hid (fun W (h : Wr W0.heap.size b X W) => hx60.kept hbb (h.keep hKX))
  have HW2 := Lib.hid (show ∀ W, Wr W0.heap.size b X W → Bd W0.heap.size b (bs ++ wNot) W → Calls Tryz.prog 84 #[.pointer (some ⟨b, 0, none⟩), .agg #[.int .i64 (kind x), .int .i64 (field x), .slice RA' (rs x).length rc', .float .f64 (lo x), .float .f64 (hi x), .slice OA' (of x).length oc'], .int .i64 2] W (Wrote W0.heap.size b (bs ++ wNot) (brack (txt x) (must 2 (kind x))) W) from fun W hW hB => hwr RA' OA' rc' oc' hx W (bs ++ wNot) (hW.keep hKX) hB (by rw [List.length_append]; omega))
  have HR := Lib.hid (show ∀ (W : World) (p : KeptOf W), Wr W0.heap.size b X W → Wr W0.heap.size b X p.w from fun W p h => h.trans (Wr.of p.h (Nat.le_trans hKX.size h.size)))
  clear hHX hne hBX hwX hlen hBd hK hKX hwr hx hx60 hO0 hE hbb hF
  go_enter Tryz.func64, Tryz.ntmps64
  go_wp2_with fail
  rw [← hX]
  clear hX
  refine HW1.out.mono ?_
  rintro e w1 ⟨rfl, hB1, hW1⟩
  have p0 : ∀ p : KeptOf w1, p.w.cell? ⟨w.heap.size, 0, none⟩ = some (.int .i64 2) := fun p => (HB.out _ (HR.out _ p hW1)).1
  have p5 : ∀ p : KeptOf w1, p.w.cell? ⟨w.heap.size, 5, none⟩ = some (.slice (some ⟨ba, off, none⟩) 1 oc) := fun p => (HB.out _ (HR.out _ p hW1)).2.2.2.2.2
  have P := fun p : KeptOf w1 => HX6.out _ (HR.out _ p hW1)
  simp only [ElemAt, Nat.zero_mul, Nat.add_zero] at P
  have x0 := fun p => (P p).1
  have x1 := fun p => (P p).2.1
  have x2 := fun p => (P p).2.2.1
  have x3 := fun p => (P p).2.2.2.1
  have x4 := fun p => (P p).2.2.2.2.1
  have x5 := fun p => (P p).2.2.2.2.2
  have HBk := Lib.hid (fun p : KeptOf w1 => hB1.keep p.h)
  clear P
  go_wp2_with fail
  refine wp_region_kept_tail 7 (by kernel_rfl) (by kernel_rfl) ?_
  simp only [List.take_succ_cons, List.take_zero, List.drop_succ_cons, List.drop_zero]
  repeat (go_big_quiet_step (fail))
  refine Go.wpQuiet_nil ?_
  intro p
  go_wp2_with fail
  refine (HW2.out _ (HR.out _ p hW1) (HBk.out p)).mono ?_
  rintro e w2 ⟨rfl, hB2, hW2⟩
  go_wp2
  (first | go_end0 | refine bodyPost_ret (results_none rfl _ _ _) rfl ?_)
  exact ⟨rfl, by rw [← List.append_assoc]; exact hB2, hWX.trans ((HR.out _ p hW1).trans hW2)⟩
set_option maxHeartbeats 4000000 in
theorem write_parts3 (f : Int) (RA OA : Option Addr) (rc oc : Nat) (r : List (Int × Int)) (l h : Nat) (o : List ExprP) (W0 : World) (b : Nat) (hol : o.length ≤ 1000000) (hE : Ex W0 (.mk 3 f r l h o) RA OA)
    (hwr : ∀ (x : ExprP), x ∈ o → ∀ (RA OA : Option Addr) (rc oc : Nat), Ex W0 x RA OA → Writes W0 b (brack (txt x) (must 3 (kind x))) 84 #[.agg #[.int .i64 (kind x), .int .i64 (field x), .slice RA (rs x).length rc, .float .f64 (lo x), .float .f64 (hi x), .slice OA (of x).length oc], .int .i64 3]) :
    Writes W0 b (txt (.mk 3 f r l h o)) 64 #[.agg #[.int .i64 3, .int .i64 f, .slice RA r.length rc, .float .f64 l, .float .f64 h, .slice OA o.length oc]] := by
  intro w bs hK hBd hlen
  show Calls Tryz.prog 64 #[.pointer (some ⟨b, 0, none⟩), .agg #[.int .i64 3, .int .i64 f, .slice RA r.length rc, .float .f64 l, .float .f64 h, .slice OA o.length oc]] w _
  have hF : txt (.mk 3 f r l h o) = txtL 3 o := by rw [txt, if_neg (by decide), if_neg (by decide)]
  rw [hF] at hlen ⊢
  obtain ⟨X, hX⟩ : ∃ X, X = w.alloc (.cells #[.int .i64 3, .int .i64 f, .slice RA r.length rc, .float .f64 l, .float .f64 h, .slice OA o.length oc] 32) := ⟨_, rfl⟩
  have hwX : Keep w X := by rw [hX]; exact (Keep.refl w).alloc _
  have hKX : Keep W0 X := hK.trans hwX
  have hBX : Bd W0.heap.size b bs X := hBd.keep hwX
  have hWX : Wr W0.heap.size b w X := Wr.of hwX hK.size
  have hne : w.heap.size ≠ b := Nat.ne_of_gt hBd.lt
  have hHX : X.heap[w.heap.size]? = some (.cells #[.int .i64 3, .int .i64 f, .slice RA r.length rc, .float .f64 l, .float .f64 h, .slice OA o.length oc] 32) := by rw [hX]; exact heap_new _ _
  have HB := Lib.hid (show ∀ W, Wr W0.heap.size b X W → W.cell? ⟨w.heap.size, 0, none⟩ = some (.int .i64 3) ∧ W.cell? ⟨w.heap.size, 1, none⟩ = some (.int .i64 f) ∧ W.cell? ⟨w.heap.size, 2, none⟩ = some (.slice RA r.length rc) ∧ W.cell? ⟨w.heap.size, 3, none⟩ = some (.float .f64 l) ∧ W.cell? ⟨w.heap.size, 4, none⟩ = some (.float .f64 h) ∧ W.cell? ⟨w.heap.size, 5, none⟩ = some (.slice OA o.length oc) from fun W hW => ElemAt.of_heap (e := .mk 3 f r l h o ) (hW.box hHX hne (by decide)))
  have HW := Lib.hid (show Calls Tryz.prog 85 #[.pointer (some ⟨b, 0, none⟩), .agg #[.int .i64 3, .int .i64 f, .slice RA r.length rc, .float .f64 l, .float .f64 h, .slice OA o.length oc], .string ⟨#[32, 97, 110, 100, 32]⟩] X (Wrote W0.heap.size b bs (txtL 3 o) X) from writeParts_any (.mk 3 f r l h o) RA OA rc oc (by simp [kind]) W0 b hol hE hwr X bs hKX hBX hlen)
  obtain ⟨b0, b1, b2, b3, b4, b5⟩ := HB.out _ (Wr.refl _ _ _)
  clear hHX hne hBX hwX hlen hBd hK hKX hwr hE hF
  go_enter Tryz.func64, Tryz.ntmps64
  go_wp2_with fail
  rw [← hX]
  clear hX
  refine HW.out.mono ?_
  rintro e w1 ⟨rfl, hB1, hW1⟩
  go_wp2
  (first | go_end0 | refine bodyPost_ret (results_none rfl _ _ _) rfl ?_)
  exact ⟨rfl, hB1, hWX.trans hW1⟩
set_option maxHeartbeats 4000000 in
theorem write_parts4 (f : Int) (RA OA : Option Addr) (rc oc : Nat) (r : List (Int × Int)) (l h : Nat) (o : List ExprP) (W0 : World) (b : Nat) (hol : o.length ≤ 1000000) (hE : Ex W0 (.mk 4 f r l h o) RA OA)
    (hwr : ∀ (x : ExprP), x ∈ o → ∀ (RA OA : Option Addr) (rc oc : Nat), Ex W0 x RA OA → Writes W0 b (brack (txt x) (must 4 (kind x))) 84 #[.agg #[.int .i64 (kind x), .int .i64 (field x), .slice RA (rs x).length rc, .float .f64 (lo x), .float .f64 (hi x), .slice OA (of x).length oc], .int .i64 4]) :
    Writes W0 b (txt (.mk 4 f r l h o)) 64 #[.agg #[.int .i64 4, .int .i64 f, .slice RA r.length rc, .float .f64 l, .float .f64 h, .slice OA o.length oc]] := by
  intro w bs hK hBd hlen
  show Calls Tryz.prog 64 #[.pointer (some ⟨b, 0, none⟩), .agg #[.int .i64 4, .int .i64 f, .slice RA r.length rc, .float .f64 l, .float .f64 h, .slice OA o.length oc]] w _
  have hF : txt (.mk 4 f r l h o) = txtL 4 o := by rw [txt, if_neg (by decide), if_neg (by decide)]
  rw [hF] at hlen ⊢
  obtain ⟨X, hX⟩ : ∃ X, X = w.alloc (.cells #[.int .i64 4, .int .i64 f, .slice RA r.length rc, .float .f64 l, .float .f64 h, .slice OA o.length oc] 32) := ⟨_, rfl⟩
  have hwX : Keep w X := by rw [hX]; exact (Keep.refl w).alloc _
  have hKX : Keep W0 X := hK.trans hwX
  have hBX : Bd W0.heap.size b bs X := hBd.keep hwX
  have hWX : Wr W0.heap.size b w X := Wr.of hwX hK.size
  have hne : w.heap.size ≠ b := Nat.ne_of_gt hBd.lt
  have hHX : X.heap[w.heap.size]? = some (.cells #[.int .i64 4, .int .i64 f, .slice RA r.length rc, .float .f64 l, .float .f64 h, .slice OA o.length oc] 32) := by rw [hX]; exact heap_new _ _
  have HB := Lib.hid (show ∀ W, Wr W0.heap.size b X W → W.cell? ⟨w.heap.size, 0, none⟩ = some (.int .i64 4) ∧ W.cell? ⟨w.heap.size, 1, none⟩ = some (.int .i64 f) ∧ W.cell? ⟨w.heap.size, 2, none⟩ = some (.slice RA r.length rc) ∧ W.cell? ⟨w.heap.size, 3, none⟩ = some (.float .f64 l) ∧ W.cell? ⟨w.heap.size, 4, none⟩ = some (.float .f64 h) ∧ W.cell? ⟨w.heap.size, 5, none⟩ = some (.slice OA o.length oc) from fun W hW => ElemAt.of_heap (e := .mk 4 f r l h o ) (hW.box hHX hne (by decide)))
  have HW := Lib.hid (show Calls Tryz.prog 85 #[.pointer (some ⟨b, 0, none⟩), .agg #[.int .i64 4, .int .i64 f, .slice RA r.length rc, .float .f64 l, .float .f64 h, .slice OA o.length oc], .string ⟨#[32, 111, 114, 32]⟩] X (Wrote W0.heap.size b bs (txtL 4 o) X) from writeParts_any (.mk 4 f r l h o) RA OA rc oc (by simp [kind]) W0 b hol hE hwr X bs hKX hBX hlen)
  obtain ⟨b0, b1, b2, b3, b4, b5⟩ := HB.out _ (Wr.refl _ _ _)
  clear hHX hne hBX hwX hlen hBd hK hKX hwr hE hF
  go_enter Tryz.func64, Tryz.ntmps64
  go_wp2_with fail
  rw [← hX]
  clear hX
  refine HW.out.mono ?_
  rintro e w1 ⟨rfl, hB1, hW1⟩
  go_wp2
  (first | go_end0 | refine bodyPost_ret (results_none rfl _ _ _) rfl ?_)
  exact ⟨rfl, hB1, hWX.trans hW1⟩
theorem writeN : ∀ (N : Nat) (e : ExprP) (RA OA : Option Addr) (rc oc : Nat) (W0 : World) (b : Nat), Tab W0 → dp e ≤ N → fits e → right e = true → kind e ≠ 0 → Ex W0 e RA OA →
    Writes W0 b (txt e) 64 #[.agg #[.int .i64 (kind e), .int .i64 (field e), .slice RA (rs e).length rc, .float .f64 (lo e), .float .f64 (hi e), .slice OA (of e).length oc]] := by
  intro N
  induction N with
  | zero => intro e RA OA rc oc W0 b _ hN; exact absurd (dp_pos e) (by omega)
  | succ N ih =>
    intro e RA OA rc oc W0 b hT hN hfit hri hk hE
    have hsub := fun x (hx : x ∈ of e) => dp_of hx
    obtain ⟨k, f, r, l, h, o⟩ := e
    rw [fits] at hfit
    obtain ⟨⟨hrl, hol⟩, ⟨hl64, hh64⟩, hfo⟩ := hfit
    replace hfo := fitsL_mem hfo
    simp only [kind, field, rs, lo, hi, of] at hsub hk ⊢
    have hp : ∀ (k0 : Int), (k0 = 2 ∨ k0 = 3 ∨ k0 = 4) → ∀ x ∈ o, kind x ≠ 0 → right x = true → ∀ (RA OA : Option Addr) (rc oc : Nat), Ex W0 x RA OA → Writes W0 b (brack (txt x) (must k0 (kind x))) 84 #[.agg #[.int .i64 (kind x), .int .i64 (field x), .slice RA (rs x).length rc, .float .f64 (lo x), .float .f64 (hi x), .slice OA (of x).length oc], .int .i64 k0] :=
      fun k0 hk0 x hx hkx hrx RA OA rc oc hEx => writePart_any x RA OA rc oc k0 hk0 W0 b (ih x RA OA rc oc W0 b hT (by have := hsub x hx; omega) (hfo x hx) hrx hkx hEx)
    rcases right_cases hri with ⟨rfl, hf1, hf6⟩ | ⟨rfl, rfl⟩ | ⟨rfl, x, rfl, hxk, hrx⟩ | ⟨hk34, h2o, hall⟩
    · exact write_atom f RA OA rc oc r l h o W0 b hT hf1 hf6 hrl hl64 hh64 hri hE
    · exact absurd rfl hk
    · exact write_not f RA OA rc oc r l h x W0 b hE (fun RA OA rc oc hEx => hp 2 (.inl rfl) x (List.mem_cons_self ..) hxk hrx RA OA rc oc hEx)
    · rcases hk34 with rfl | rfl
      · exact write_parts3 f RA OA rc oc r l h o W0 b hol hE (fun x hx RA OA rc oc hEx => hp 3 (.inr (.inl rfl)) x hx (hall x hx).1 (hall x hx).2 RA OA rc oc hEx)
      · exact write_parts4 f RA OA rc oc r l h o W0 b hol hE (fun x hx RA OA rc oc hEx => hp 4 (.inr (.inr rfl)) x hx (hall x hx).1 (hall x hx).2 RA OA rc oc hEx)
end Go.Proofs.YtmcgflpgkkophaaGreatDoor.Tree
/- The developers' tree: the text of a rule and of a policy. Conditions: lists at most a million; 300 rules of 3000000 bytes. -/
namespace Go.Proofs.YtmcgflpgkkophaaGreatDoor.Tree
set_option linter.unusedVariables false
open Go.ChangeShapes Go.WideShapes Go.ChangeAt Go.RowKit
open Tr Bld
open Go.Proofs.YtmcgflpgkkophaaGreatDoor.Fp (sameB)
open Go.Proofs.YtmcgflpgkkophaaGreatDoor.Re (tOk tL)
/-- A rule's text without its line feed. -/
def rbody (r : RuleP) : List UInt8 :=
  (if r.allow then wAllow else wDeny) ++ ((if kind r.when_ = 0 then [] else wWhen ++ txt r.when_) ++ ((if r.per = 0 then [] else wRate ++ (Gu.put r.num ++ (wPer ++ (Gu.put r.per ++ (wBurst ++ Gu.put r.burst))))) ++ [59]))
theorem rbody_eq (r : RuleP) : rtxt r = rbody r ++ [10] := by
  unfold rtxt rbody
  simp only [List.append_assoc]
  rfl
theorem rateText (a b c : Int) : (((((wRate ++ Gu.put a) ++ wPer) ++ Gu.put b) ++ wBurst) ++ Gu.put c) = wRate ++ (Gu.put a ++ (wPer ++ (Gu.put b ++ (wBurst ++ Gu.put c)))) := by simp only [List.append_assoc]
theorem RuleAt.of_heap {W : World} {k : Nat} {r : RuleP} {RA OA : Option Addr} {rc oc : Nat} {t : TypeId} {fz : Nat × Nat} (h : W.heap[k]? = some (.cells #[.bool r.allow, .int .i64 (kind r.when_), .int .i64 (field r.when_), .slice RA (rs r.when_).length rc, .float .f64 (lo r.when_), .float .f64 (hi r.when_), .slice OA (of r.when_).length oc, .int .i64 r.num, .int .i64 r.per, .int .i64 r.burst, .int .i64 r.line] t fz)) : RuleAt W r RA OA rc oc k 0 :=
  ⟨Lib.cell_of_heap h 0, Lib.cell_of_heap h 1, Lib.cell_of_heap h 2, Lib.cell_of_heap h 3, Lib.cell_of_heap h 4, Lib.cell_of_heap h 5, Lib.cell_of_heap h 6, Lib.cell_of_heap h 7, Lib.cell_of_heap h 8, Lib.cell_of_heap h 9, Lib.cell_of_heap h 10⟩
set_option maxHeartbeats 16000000 in
theorem writeRule_any (r : RuleP) (RA OA : Option Addr) (rc oc : Nat) (W0 : World) (b : Nat) (bs : List UInt8) (w : World) (hT : Tab W0) (hK : Keep W0 w) (hBd : Bd W0.heap.size b bs w) (hlen : bs.length + (rbody r).length ≤ 140737488355328)
    (hwr : kind r.when_ ≠ 0 → ∀ (W : World) (bs : List UInt8), Keep W0 W → Bd W0.heap.size b bs W → bs.length + (txt r.when_).length ≤ 140737488355328 → Calls Tryz.prog 64 #[.pointer (some ⟨b, 0, none⟩), .agg #[.int .i64 (kind r.when_), .int .i64 (field r.when_), .slice RA (rs r.when_).length rc, .float .f64 (lo r.when_), .float .f64 (hi r.when_), .slice OA (of r.when_).length oc]] W (Wrote W0.heap.size b bs (txt r.when_) W)) :
    Calls Tryz.prog 41 #[.pointer (some ⟨b, 0, none⟩), .agg #[.bool r.allow, .int .i64 (kind r.when_), .int .i64 (field r.when_), .slice RA (rs r.when_).length rc, .float .f64 (lo r.when_), .float .f64 (hi r.when_), .slice OA (of r.when_).length oc, .int .i64 r.num, .int .i64 r.per, .int .i64 r.burst, .int .i64 r.line]] w (Wrote W0.heap.size b bs (rbody r) w) := by
  obtain ⟨al, e, n1, n2, n3, ln⟩ := r
  obtain ⟨k, f, r, l, h, o⟩ := e
  simp only [kind, field, rs, lo, hi, of] at hwr ⊢
  obtain ⟨tx, htx⟩ : ∃ q, q = txt (.mk k f r l h o) := ⟨_, rfl⟩
  have HTxt := Lib.hid htx.symm
  rw [← htx] at hwr
  clear htx
  obtain ⟨tA, htA⟩ : ∃ q, q = Gu.put n1 := ⟨_, rfl⟩
  obtain ⟨tB, htB⟩ : ∃ q, q = Gu.put n2 := ⟨_, rfl⟩
  obtain ⟨tC, htC⟩ : ∃ q, q = Gu.put n3 := ⟨_, rfl⟩
  have m1 : tA.length ≤ 16 := by rw [htA]; exact Gu.put_len n1
  have m2 : tB.length ≤ 16 := by rw [htB]; exact Gu.put_len n2
  have m3 : tC.length ≤ 16 := by rw [htC]; exact Gu.put_len n3
  obtain ⟨q1, hq1⟩ : ∃ q, q = wRate ++ tA := ⟨_, rfl⟩
  obtain ⟨q2, hq2⟩ : ∃ q, q = q1 ++ wPer := ⟨_, rfl⟩
  obtain ⟨q3, hq3⟩ : ∃ q, q = q2 ++ tB := ⟨_, rfl⟩
  obtain ⟨q4, hq4⟩ : ∃ q, q = q3 ++ wBurst := ⟨_, rfl⟩
  obtain ⟨q5, hq5⟩ : ∃ q, q = q4 ++ tC := ⟨_, rfl⟩
  have s1 : q1.length ≤ 22 := by rw [hq1, List.length_append]; have : wRate.length = 6 := rfl; omega
  have s2 : q2.length ≤ 27 := by rw [hq2, List.length_append]; have : wPer.length = 5 := rfl; omega
  have s3 : q3.length ≤ 43 := by rw [hq3, List.length_append]; omega
  have s4 : q4.length ≤ 50 := by rw [hq4, List.length_append]; have : wBurst.length = 7 := rfl; omega
  have a1 : ∀ W : World, (Op.stringOp .add ⟨#[32, 114, 97, 116, 101, 32]⟩ (st tA)).run Tryz.prog W = .ok (.string (st q1)) W := by rw [hq1]; exact add_st wRate tA (by have : wRate.length = 6 := rfl; omega)
  have a2 : ∀ W : World, (Op.stringOp .add (st q1) ⟨#[32, 112, 101, 114, 32]⟩).run Tryz.prog W = .ok (.string (st q2)) W := by rw [hq2]; exact add_st q1 wPer (by have : wPer.length = 5 := rfl; omega)
  have a3 : ∀ W : World, (Op.stringOp .add (st q2) (st tB)).run Tryz.prog W = .ok (.string (st q3)) W := by rw [hq3]; exact add_st q2 tB (by omega)
  have a4 : ∀ W : World, (Op.stringOp .add (st q3) ⟨#[32, 98, 117, 114, 115, 116, 32]⟩).run Tryz.prog W = .ok (.string (st q4)) W := by rw [hq4]; exact add_st q3 wBurst (by have : wBurst.length = 7 := rfl; omega)
  have a5 : ∀ W : World, (Op.stringOp .add (st q4) (st tC)).run Tryz.prog W = .ok (.string (st q5)) W := by rw [hq5]; exact add_st q4 tC (by omega)
  have HQ5 := Lib.hid (show wRate ++ (Gu.put n1 ++ (wPer ++ (Gu.put n2 ++ (wBurst ++ Gu.put n3)))) = q5 by rw [hq5, hq4, hq3, hq2, hq1, htA, htB, htC, rateText])
  obtain ⟨X, hX⟩ : ∃ X, X = w.alloc (.cells #[.bool al, .int .i64 k, .int .i64 f, .slice RA r.length rc, .float .f64 l, .float .f64 h, .slice OA o.length oc, .int .i64 n1, .int .i64 n2, .int .i64 n3, .int .i64 ln] 36) := ⟨_, rfl⟩
  have hwX : Keep w X := by rw [hX]; exact (Keep.refl w).alloc _
  have hKX : Keep W0 X := hK.trans hwX
  have hBX : Bd W0.heap.size b bs X := hBd.keep hwX
  have hWX : Wr W0.heap.size b w X := Wr.of hwX hK.size
  have hne : w.heap.size ≠ b := Nat.ne_of_gt hBd.lt
  have hHX : X.heap[w.heap.size]? = some (.cells #[.bool al, .int .i64 k, .int .i64 f, .slice RA r.length rc, .float .f64 l, .float .f64 h, .slice OA o.length oc, .int .i64 n1, .int .i64 n2, .int .i64 n3, .int .i64 ln] 36) := by rw [hX]; exact heap_new _ _
  have HB := Lib.hid (show ∀ W, Wr W0.heap.size b X W → W.cell? ⟨w.heap.size, 0, none⟩ = some (.bool al) ∧ W.cell? ⟨w.heap.size, 1, none⟩ = some (.int .i64 k) ∧ W.cell? ⟨w.heap.size, 2, none⟩ = some (.int .i64 f) ∧ W.cell? ⟨w.heap.size, 3, none⟩ = some (.slice RA r.length rc) ∧ W.cell? ⟨w.heap.size, 4, none⟩ = some (.float .f64 l) ∧ W.cell? ⟨w.heap.size, 5, none⟩ = some (.float .f64 h) ∧ W.cell? ⟨w.heap.size, 6, none⟩ = some (.slice OA o.length oc) ∧ W.cell? ⟨w.heap.size, 7, none⟩ = some (.int .i64 n1) ∧ W.cell? ⟨w.heap.size, 8, none⟩ = some (.int .i64 n2) ∧ W.cell? ⟨w.heap.size, 9, none⟩ = some (.int .i64 n3) ∧ W.cell? ⟨w.heap.size, 10, none⟩ = some (.int .i64 ln) from fun W hW => RuleAt.of_heap (r := ⟨al, .mk k f r l h o, n1, n2, n3, ln⟩) (hW.box hHX hne (by decide)))
  have HKW := Lib.hid (fun W (h : Wr W0.heap.size b X W) => h.keep hKX)
  have HR := Lib.hid (show ∀ (W : World) (p : KeptOf W), Wr W0.heap.size b X W → Wr W0.heap.size b X p.w from fun W p h => h.trans (Wr.of p.h (Nat.le_trans hKX.size h.size)))
  have HPU := Lib.hid (show ∀ W (bs' t : List UInt8), Wr W0.heap.size b X W → Bd W0.heap.size b bs' W → bs'.length + t.length ≤ 140737488355328 → Calls Tryz.prog 42 #[.pointer (some ⟨b, 0, none⟩), .string (st t)] W fun e w' => e = .returned (.tuple #[.int .i64 (st t).size, .nilIface]) ∧ Bd W0.heap.size b (bs' ++ t) w' ∧ Wr W0.heap.size b W w' from fun W bs' t hW hB hl => put_any W0 b bs' t W (hW.keep hKX) hB hl)
  have HNA := Lib.hid (fun W (hW : Keep W0 W) => (show Calls Tryz.prog 65 #[.int .i64 n1] W fun e w' => e = .returned (.string (st tA)) ∧ Keep W w' from by rw [htA]; exact number_any n1 W (hT.keep hW)))
  have HNB := Lib.hid (fun W (hW : Keep W0 W) => (show Calls Tryz.prog 65 #[.int .i64 n2] W fun e w' => e = .returned (.string (st tB)) ∧ Keep W w' from by rw [htB]; exact number_any n2 W (hT.keep hW)))
  have HNC := Lib.hid (fun W (hW : Keep W0 W) => (show Calls Tryz.prog 65 #[.int .i64 n3] W fun e w' => e = .returned (.string (st tC)) ∧ Keep W w' from by rw [htC]; exact number_any n3 W (hT.keep hW)))
  obtain ⟨b0, b1, b2, b3, b4, b5, b6, b7, b8, b9, b10⟩ := HB.out _ (Wr.refl _ _ _)
  have hwh : k ≠ 0 ∨ k = 0 := by omega
  have hpe : n2 ≠ 0 ∨ n2 = 0 := by omega
  have HWE := Lib.hid (show k ≠ 0 → ∀ W (bs' : List UInt8), Wr W0.heap.size b X W → Bd W0.heap.size b bs' W → bs'.length + tx.length ≤ 140737488355328 → Calls Tryz.prog 64 #[.pointer (some ⟨b, 0, none⟩), .agg #[.int .i64 k, .int .i64 f, .slice RA r.length rc, .float .f64 l, .float .f64 h, .slice OA o.length oc]] W (Wrote W0.heap.size b bs' tx W) from fun hk W bs' hW hB hl => hwr hk W bs' (hW.keep hKX) hB hl)
  clear hHX hne hwX hBd hwr hq1 hq2 hq3 hq4 hq5 htA htB htC m1 m2 m3 s1 s2 s3 s4 hK hKX hT
  cases al
  · rcases hwh with hwh | hwh
    · rcases hpe with hpe | hpe
      · have dw : (k != 0) = true := by simp [hwh]
        have dw2 : (k == 0) = false := by simp [hwh]
        have dp : (n2 != 0) = true := by simp [hpe]
        have dp2 : (n2 == 0) = false := by simp [hpe]
        have HWQ := Lib.hid hwh
        have HPQ := Lib.hid hpe
        have HWE := Lib.hid (HWE.out hwh)
        have HTX := Lib.hid (show rbody ⟨false, .mk k f r l h o, n1, n2, n3, ln⟩ = wDeny ++ ((wWhen ++ tx) ++ (q5 ++ [59])) by
          unfold rbody
          rw [if_neg (by simp), if_neg (show ¬ kind (.mk k f r l h o) = 0 from HWQ.out), if_neg HPQ.out, HTxt.out, HQ5.out])
        have HLen := Lib.hid (show bs.length + (wDeny ++ ((wWhen ++ tx) ++ (q5 ++ [59]))).length ≤ 140737488355328 by rw [← HTX.out]; exact hlen)
        clear hlen hwh hpe
        go_enter Tryz.func41, Tryz.ntmps41
        go_wp2_with fail
        rw [← hX]
        clear hX
        refine (HPU.out _ bs wDeny (Wr.refl _ _ _) hBX (by have := HLen.out; simp only [List.length_append, List.length_nil, List.length_cons] at *; omega)).mono ?_
        rintro e w1 ⟨rfl, hB1, hW1⟩
        have v1 := hW1
        clear b0 b1 b2 b3 b4 b5 b6 b7 b8 b9 b10
        obtain ⟨b0, b1, b2, b3, b4, b5, b6, b7, b8, b9, b10⟩ := HB.out _ (v1)
        go_wp2_with fail
        refine (HPU.out _ (bs ++ wDeny) wWhen v1 hB1 (by have := HLen.out; simp only [List.length_append, List.length_nil, List.length_cons] at *; omega)).mono ?_
        rintro e w2 ⟨rfl, hB2, hW2⟩
        have v2 := v1.trans hW2
        clear b0 b1 b2 b3 b4 b5 b6 b7 b8 b9 b10
        obtain ⟨b0, b1, b2, b3, b4, b5, b6, b7, b8, b9, b10⟩ := HB.out _ (v2)
        go_wp2_with fail
        refine (HWE.out _ ((bs ++ wDeny) ++ wWhen) v2 hB2 (by have := HLen.out; simp only [List.length_append, List.length_nil, List.length_cons] at *; omega)).mono ?_
        rintro e w3 ⟨rfl, hB3, hW3⟩
        have v3 := v2.trans hW3
        clear b0 b1 b2 b3 b4 b5 b6 b7 b8 b9 b10
        obtain ⟨b0, b1, b2, b3, b4, b5, b6, b7, b8, b9, b10⟩ := HB.out _ (v3)
        have P := fun p : KeptOf w3 => HB.out _ (HR.out _ p v3)
        have x0 := fun p => (P p).1
        have x1 := fun p => (P p).2.1
        have x2 := fun p => (P p).2.2.1
        have x3 := fun p => (P p).2.2.2.1
        have x4 := fun p => (P p).2.2.2.2.1
        have x5 := fun p => (P p).2.2.2.2.2.1
        have x6 := fun p => (P p).2.2.2.2.2.2.1
        have x7 := fun p => (P p).2.2.2.2.2.2.2.1
        have x8 := fun p => (P p).2.2.2.2.2.2.2.2.1
        have x9 := fun p => (P p).2.2.2.2.2.2.2.2.2.1
        have x10 := fun p => (P p).2.2.2.2.2.2.2.2.2.2
        clear P
        have NA := fun p : KeptOf w3 => HNA.out p.w (HKW.out _ (HR.out _ p v3))
        have NB := fun p : KeptOf w3 => HNB.out p.w (HKW.out _ (HR.out _ p v3))
        have NC := fun p : KeptOf w3 => HNC.out p.w (HKW.out _ (HR.out _ p v3))
        go_wp2_with fail
        refine wp_region_kept_tail 18 (by kernel_rfl) (by kernel_rfl) ?_
        simp only [List.take_succ_cons, List.take_zero, List.drop_succ_cons, List.drop_zero]
        repeat (go_big_quiet_step (first | with_reducible exact KeptOf.of (NA _) | with_reducible exact KeptOf.of (NB _) | with_reducible exact KeptOf.of (NC _)))
        refine Go.wpQuiet_nil ?_
        intro p
        have v3b := HR.out _ p v3
        have hB3b := hB3.keep p.h
        go_wp2_with fail
        refine (HPU.out _ (((bs ++ wDeny) ++ wWhen) ++ tx) q5 v3b hB3b (by have := HLen.out; simp only [List.length_append, List.length_nil, List.length_cons] at *; omega)).mono ?_
        rintro e w4 ⟨rfl, hB4, hW4⟩
        have v4 := v3b.trans hW4
        go_wp2_with fail
        refine (HPU.out _ ((((bs ++ wDeny) ++ wWhen) ++ tx) ++ q5) [59] v4 hB4 (by have := HLen.out; simp only [List.length_append, List.length_nil, List.length_cons] at *; omega)).mono ?_
        rintro e w5 ⟨rfl, hB5, hW5⟩
        go_wp2
        (first | go_end0 | refine bodyPost_ret (results_none rfl _ _ _) rfl ?_)
        exact ⟨rfl, by rw [HTX.out]; simpa only [List.append_assoc, List.nil_append] using hB5, hWX.trans (v4.trans hW5)⟩
      · have dw : (k != 0) = true := by simp [hwh]
        have dw2 : (k == 0) = false := by simp [hwh]
        have dp : (n2 != 0) = false := by simp [hpe]
        have dp2 : (n2 == 0) = true := by simp [hpe]
        have HWQ := Lib.hid hwh
        have HPQ := Lib.hid hpe
        have HWE := Lib.hid (HWE.out hwh)
        have HTX := Lib.hid (show rbody ⟨false, .mk k f r l h o, n1, n2, n3, ln⟩ = wDeny ++ ((wWhen ++ tx) ++ (([] : List UInt8) ++ [59])) by
          unfold rbody
          rw [if_neg (by simp), if_neg (show ¬ kind (.mk k f r l h o) = 0 from HWQ.out), if_pos HPQ.out, HTxt.out])
        have HLen := Lib.hid (show bs.length + (wDeny ++ ((wWhen ++ tx) ++ (([] : List UInt8) ++ [59]))).length ≤ 140737488355328 by rw [← HTX.out]; exact hlen)
        clear hlen hwh hpe
        go_enter Tryz.func41, Tryz.ntmps41
        go_wp2_with fail
        rw [← hX]
        clear hX
        refine (HPU.out _ bs wDeny (Wr.refl _ _ _) hBX (by have := HLen.out; simp only [List.length_append, List.length_nil, List.length_cons] at *; omega)).mono ?_
        rintro e w1 ⟨rfl, hB1, hW1⟩
        have v1 := hW1
        clear b0 b1 b2 b3 b4 b5 b6 b7 b8 b9 b10
        obtain ⟨b0, b1, b2, b3, b4, b5, b6, b7, b8, b9, b10⟩ := HB.out _ (v1)
        go_wp2_with fail
        refine (HPU.out _ (bs ++ wDeny) wWhen v1 hB1 (by have := HLen.out; simp only [List.length_append, List.length_nil, List.length_cons] at *; omega)).mono ?_
        rintro e w2 ⟨rfl, hB2, hW2⟩
        have v2 := v1.trans hW2
        clear b0 b1 b2 b3 b4 b5 b6 b7 b8 b9 b10
        obtain ⟨b0, b1, b2, b3, b4, b5, b6, b7, b8, b9, b10⟩ := HB.out _ (v2)
        go_wp2_with fail
        refine (HWE.out _ ((bs ++ wDeny) ++ wWhen) v2 hB2 (by have := HLen.out; simp only [List.length_append, List.length_nil, List.length_cons] at *; omega)).mono ?_
        rintro e w3 ⟨rfl, hB3, hW3⟩
        have v3 := v2.trans hW3
        clear b0 b1 b2 b3 b4 b5 b6 b7 b8 b9 b10
        obtain ⟨b0, b1, b2, b3, b4, b5, b6, b7, b8, b9, b10⟩ := HB.out _ (v3)
        go_wp2_with fail
        refine (HPU.out _ (((bs ++ wDeny) ++ wWhen) ++ tx) [59] v3 hB3 (by have := HLen.out; simp only [List.length_append, List.length_nil, List.length_cons] at *; omega)).mono ?_
        rintro e w4 ⟨rfl, hB4, hW4⟩
        go_wp2
        (first | go_end0 | refine bodyPost_ret (results_none rfl _ _ _) rfl ?_)
        exact ⟨rfl, by rw [HTX.out]; simpa only [List.append_assoc, List.nil_append] using hB4, hWX.trans (v3.trans hW4)⟩
    · rcases hpe with hpe | hpe
      · have dw : (k != 0) = false := by simp [hwh]
        have dw2 : (k == 0) = true := by simp [hwh]
        have dp : (n2 != 0) = true := by simp [hpe]
        have dp2 : (n2 == 0) = false := by simp [hpe]
        have HWQ := Lib.hid hwh
        have HPQ := Lib.hid hpe
        clear HWE
        have HTX := Lib.hid (show rbody ⟨false, .mk k f r l h o, n1, n2, n3, ln⟩ = wDeny ++ (([] : List UInt8) ++ (q5 ++ [59])) by
          unfold rbody
          rw [if_neg (by simp), if_pos (show kind (.mk k f r l h o) = 0 from HWQ.out), if_neg HPQ.out, HQ5.out])
        have HLen := Lib.hid (show bs.length + (wDeny ++ (([] : List UInt8) ++ (q5 ++ [59]))).length ≤ 140737488355328 by rw [← HTX.out]; exact hlen)
        clear hlen hwh hpe
        go_enter Tryz.func41, Tryz.ntmps41
        go_wp2_with fail
        rw [← hX]
        clear hX
        refine (HPU.out _ bs wDeny (Wr.refl _ _ _) hBX (by have := HLen.out; simp only [List.length_append, List.length_nil, List.length_cons] at *; omega)).mono ?_
        rintro e w1 ⟨rfl, hB1, hW1⟩
        have v1 := hW1
        clear b0 b1 b2 b3 b4 b5 b6 b7 b8 b9 b10
        obtain ⟨b0, b1, b2, b3, b4, b5, b6, b7, b8, b9, b10⟩ := HB.out _ (v1)
        have P := fun p : KeptOf w1 => HB.out _ (HR.out _ p v1)
        have x0 := fun p => (P p).1
        have x1 := fun p => (P p).2.1
        have x2 := fun p => (P p).2.2.1
        have x3 := fun p => (P p).2.2.2.1
        have x4 := fun p => (P p).2.2.2.2.1
        have x5 := fun p => (P p).2.2.2.2.2.1
        have x6 := fun p => (P p).2.2.2.2.2.2.1
        have x7 := fun p => (P p).2.2.2.2.2.2.2.1
        have x8 := fun p => (P p).2.2.2.2.2.2.2.2.1
        have x9 := fun p => (P p).2.2.2.2.2.2.2.2.2.1
        have x10 := fun p => (P p).2.2.2.2.2.2.2.2.2.2
        clear P
        have NA := fun p : KeptOf w1 => HNA.out p.w (HKW.out _ (HR.out _ p v1))
        have NB := fun p : KeptOf w1 => HNB.out p.w (HKW.out _ (HR.out _ p v1))
        have NC := fun p : KeptOf w1 => HNC.out p.w (HKW.out _ (HR.out _ p v1))
        go_wp2_with fail
        refine wp_region_kept_tail 18 (by kernel_rfl) (by kernel_rfl) ?_
        simp only [List.take_succ_cons, List.take_zero, List.drop_succ_cons, List.drop_zero]
        repeat (go_big_quiet_step (first | with_reducible exact KeptOf.of (NA _) | with_reducible exact KeptOf.of (NB _) | with_reducible exact KeptOf.of (NC _)))
        refine Go.wpQuiet_nil ?_
        intro p
        have v1b := HR.out _ p v1
        have hB1b := hB1.keep p.h
        go_wp2_with fail
        refine (HPU.out _ (bs ++ wDeny) q5 v1b hB1b (by have := HLen.out; simp only [List.length_append, List.length_nil, List.length_cons] at *; omega)).mono ?_
        rintro e w2 ⟨rfl, hB2, hW2⟩
        have v2 := v1b.trans hW2
        go_wp2_with fail
        refine (HPU.out _ ((bs ++ wDeny) ++ q5) [59] v2 hB2 (by have := HLen.out; simp only [List.length_append, List.length_nil, List.length_cons] at *; omega)).mono ?_
        rintro e w3 ⟨rfl, hB3, hW3⟩
        go_wp2
        (first | go_end0 | refine bodyPost_ret (results_none rfl _ _ _) rfl ?_)
        exact ⟨rfl, by rw [HTX.out]; simpa only [List.append_assoc, List.nil_append] using hB3, hWX.trans (v2.trans hW3)⟩
      · have dw : (k != 0) = false := by simp [hwh]
        have dw2 : (k == 0) = true := by simp [hwh]
        have dp : (n2 != 0) = false := by simp [hpe]
        have dp2 : (n2 == 0) = true := by simp [hpe]
        have HWQ := Lib.hid hwh
        have HPQ := Lib.hid hpe
        clear HWE
        have HTX := Lib.hid (show rbody ⟨false, .mk k f r l h o, n1, n2, n3, ln⟩ = wDeny ++ (([] : List UInt8) ++ (([] : List UInt8) ++ [59])) by
          unfold rbody
          rw [if_neg (by simp), if_pos (show kind (.mk k f r l h o) = 0 from HWQ.out), if_pos HPQ.out])
        have HLen := Lib.hid (show bs.length + (wDeny ++ (([] : List UInt8) ++ (([] : List UInt8) ++ [59]))).length ≤ 140737488355328 by rw [← HTX.out]; exact hlen)
        clear hlen hwh hpe
        go_enter Tryz.func41, Tryz.ntmps41
        go_wp2_with fail
        rw [← hX]
        clear hX
        refine (HPU.out _ bs wDeny (Wr.refl _ _ _) hBX (by have := HLen.out; simp only [List.length_append, List.length_nil, List.length_cons] at *; omega)).mono ?_
        rintro e w1 ⟨rfl, hB1, hW1⟩
        have v1 := hW1
        clear b0 b1 b2 b3 b4 b5 b6 b7 b8 b9 b10
        obtain ⟨b0, b1, b2, b3, b4, b5, b6, b7, b8, b9, b10⟩ := HB.out _ (v1)
        go_wp2_with fail
        refine (HPU.out _ (bs ++ wDeny) [59] v1 hB1 (by have := HLen.out; simp only [List.length_append, List.length_nil, List.length_cons] at *; omega)).mono ?_
        rintro e w2 ⟨rfl, hB2, hW2⟩
        go_wp2
        (first | go_end0 | refine bodyPost_ret (results_none rfl _ _ _) rfl ?_)
        exact ⟨rfl, by rw [HTX.out]; simpa only [List.append_assoc, List.nil_append] using hB2, hWX.trans (v1.trans hW2)⟩
  · rcases hwh with hwh | hwh
    · rcases hpe with hpe | hpe
      · have dw : (k != 0) = true := by simp [hwh]
        have dw2 : (k == 0) = false := by simp [hwh]
        have dp : (n2 != 0) = true := by simp [hpe]
        have dp2 : (n2 == 0) = false := by simp [hpe]
        have HWQ := Lib.hid hwh
        have HPQ := Lib.hid hpe
        have HWE := Lib.hid (HWE.out hwh)
        have HTX := Lib.hid (show rbody ⟨true, .mk k f r l h o, n1, n2, n3, ln⟩ = wAllow ++ ((wWhen ++ tx) ++ (q5 ++ [59])) by
          unfold rbody
          rw [if_pos rfl, if_neg (show ¬ kind (.mk k f r l h o) = 0 from HWQ.out), if_neg HPQ.out, HTxt.out, HQ5.out])
        have HLen := Lib.hid (show bs.length + (wAllow ++ ((wWhen ++ tx) ++ (q5 ++ [59]))).length ≤ 140737488355328 by rw [← HTX.out]; exact hlen)
        clear hlen hwh hpe
        go_enter Tryz.func41, Tryz.ntmps41
        go_wp2_with fail
        rw [← hX]
        clear hX
        refine (HPU.out _ bs wAllow (Wr.refl _ _ _) hBX (by have := HLen.out; simp only [List.length_append, List.length_nil, List.length_cons] at *; omega)).mono ?_
        rintro e w1 ⟨rfl, hB1, hW1⟩
        have v1 := hW1
        clear b0 b1 b2 b3 b4 b5 b6 b7 b8 b9 b10
        obtain ⟨b0, b1, b2, b3, b4, b5, b6, b7, b8, b9, b10⟩ := HB.out _ (v1)
        go_wp2_with fail
        refine (HPU.out _ (bs ++ wAllow) wWhen v1 hB1 (by have := HLen.out; simp only [List.length_append, List.length_nil, List.length_cons] at *; omega)).mono ?_
        rintro e w2 ⟨rfl, hB2, hW2⟩
        have v2 := v1.trans hW2
        clear b0 b1 b2 b3 b4 b5 b6 b7 b8 b9 b10
        obtain ⟨b0, b1, b2, b3, b4, b5, b6, b7, b8, b9, b10⟩ := HB.out _ (v2)
        go_wp2_with fail
        refine (HWE.out _ ((bs ++ wAllow) ++ wWhen) v2 hB2 (by have := HLen.out; simp only [List.length_append, List.length_nil, List.length_cons] at *; omega)).mono ?_
        rintro e w3 ⟨rfl, hB3, hW3⟩
        have v3 := v2.trans hW3
        clear b0 b1 b2 b3 b4 b5 b6 b7 b8 b9 b10
        obtain ⟨b0, b1, b2, b3, b4, b5, b6, b7, b8, b9, b10⟩ := HB.out _ (v3)
        have P := fun p : KeptOf w3 => HB.out _ (HR.out _ p v3)
        have x0 := fun p => (P p).1
        have x1 := fun p => (P p).2.1
        have x2 := fun p => (P p).2.2.1
        have x3 := fun p => (P p).2.2.2.1
        have x4 := fun p => (P p).2.2.2.2.1
        have x5 := fun p => (P p).2.2.2.2.2.1
        have x6 := fun p => (P p).2.2.2.2.2.2.1
        have x7 := fun p => (P p).2.2.2.2.2.2.2.1
        have x8 := fun p => (P p).2.2.2.2.2.2.2.2.1
        have x9 := fun p => (P p).2.2.2.2.2.2.2.2.2.1
        have x10 := fun p => (P p).2.2.2.2.2.2.2.2.2.2
        clear P
        have NA := fun p : KeptOf w3 => HNA.out p.w (HKW.out _ (HR.out _ p v3))
        have NB := fun p : KeptOf w3 => HNB.out p.w (HKW.out _ (HR.out _ p v3))
        have NC := fun p : KeptOf w3 => HNC.out p.w (HKW.out _ (HR.out _ p v3))
        go_wp2_with fail
        refine wp_region_kept_tail 18 (by kernel_rfl) (by kernel_rfl) ?_
        simp only [List.take_succ_cons, List.take_zero, List.drop_succ_cons, List.drop_zero]
        repeat (go_big_quiet_step (first | with_reducible exact KeptOf.of (NA _) | with_reducible exact KeptOf.of (NB _) | with_reducible exact KeptOf.of (NC _)))
        refine Go.wpQuiet_nil ?_
        intro p
        have v3b := HR.out _ p v3
        have hB3b := hB3.keep p.h
        go_wp2_with fail
        refine (HPU.out _ (((bs ++ wAllow) ++ wWhen) ++ tx) q5 v3b hB3b (by have := HLen.out; simp only [List.length_append, List.length_nil, List.length_cons] at *; omega)).mono ?_
        rintro e w4 ⟨rfl, hB4, hW4⟩
        have v4 := v3b.trans hW4
        go_wp2_with fail
        refine (HPU.out _ ((((bs ++ wAllow) ++ wWhen) ++ tx) ++ q5) [59] v4 hB4 (by have := HLen.out; simp only [List.length_append, List.length_nil, List.length_cons] at *; omega)).mono ?_
        rintro e w5 ⟨rfl, hB5, hW5⟩
        go_wp2
        (first | go_end0 | refine bodyPost_ret (results_none rfl _ _ _) rfl ?_)
        exact ⟨rfl, by rw [HTX.out]; simpa only [List.append_assoc, List.nil_append] using hB5, hWX.trans (v4.trans hW5)⟩
      · have dw : (k != 0) = true := by simp [hwh]
        have dw2 : (k == 0) = false := by simp [hwh]
        have dp : (n2 != 0) = false := by simp [hpe]
        have dp2 : (n2 == 0) = true := by simp [hpe]
        have HWQ := Lib.hid hwh
        have HPQ := Lib.hid hpe
        have HWE := Lib.hid (HWE.out hwh)
        have HTX := Lib.hid (show rbody ⟨true, .mk k f r l h o, n1, n2, n3, ln⟩ = wAllow ++ ((wWhen ++ tx) ++ (([] : List UInt8) ++ [59])) by
          unfold rbody
          rw [if_pos rfl, if_neg (show ¬ kind (.mk k f r l h o) = 0 from HWQ.out), if_pos HPQ.out, HTxt.out])
        have HLen := Lib.hid (show bs.length + (wAllow ++ ((wWhen ++ tx) ++ (([] : List UInt8) ++ [59]))).length ≤ 140737488355328 by rw [← HTX.out]; exact hlen)
        clear hlen hwh hpe
        go_enter Tryz.func41, Tryz.ntmps41
        go_wp2_with fail
        rw [← hX]
        clear hX
        refine (HPU.out _ bs wAllow (Wr.refl _ _ _) hBX (by have := HLen.out; simp only [List.length_append, List.length_nil, List.length_cons] at *; omega)).mono ?_
        rintro e w1 ⟨rfl, hB1, hW1⟩
        have v1 := hW1
        clear b0 b1 b2 b3 b4 b5 b6 b7 b8 b9 b10
        obtain ⟨b0, b1, b2, b3, b4, b5, b6, b7, b8, b9, b10⟩ := HB.out _ (v1)
        go_wp2_with fail
        refine (HPU.out _ (bs ++ wAllow) wWhen v1 hB1 (by have := HLen.out; simp only [List.length_append, List.length_nil, List.length_cons] at *; omega)).mono ?_
        rintro e w2 ⟨rfl, hB2, hW2⟩
        have v2 := v1.trans hW2
        clear b0 b1 b2 b3 b4 b5 b6 b7 b8 b9 b10
        obtain ⟨b0, b1, b2, b3, b4, b5, b6, b7, b8, b9, b10⟩ := HB.out _ (v2)
        go_wp2_with fail
        refine (HWE.out _ ((bs ++ wAllow) ++ wWhen) v2 hB2 (by have := HLen.out; simp only [List.length_append, List.length_nil, List.length_cons] at *; omega)).mono ?_
        rintro e w3 ⟨rfl, hB3, hW3⟩
        have v3 := v2.trans hW3
        clear b0 b1 b2 b3 b4 b5 b6 b7 b8 b9 b10
        obtain ⟨b0, b1, b2, b3, b4, b5, b6, b7, b8, b9, b10⟩ := HB.out _ (v3)
        go_wp2_with fail
        refine (HPU.out _ (((bs ++ wAllow) ++ wWhen) ++ tx) [59] v3 hB3 (by have := HLen.out; simp only [List.length_append, List.length_nil, List.length_cons] at *; omega)).mono ?_
        rintro e w4 ⟨rfl, hB4, hW4⟩
        go_wp2
        (first | go_end0 | refine bodyPost_ret (results_none rfl _ _ _) rfl ?_)
        exact ⟨rfl, by rw [HTX.out]; simpa only [List.append_assoc, List.nil_append] using hB4, hWX.trans (v3.trans hW4)⟩
    · rcases hpe with hpe | hpe
      · have dw : (k != 0) = false := by simp [hwh]
        have dw2 : (k == 0) = true := by simp [hwh]
        have dp : (n2 != 0) = true := by simp [hpe]
        have dp2 : (n2 == 0) = false := by simp [hpe]
        have HWQ := Lib.hid hwh
        have HPQ := Lib.hid hpe
        clear HWE
        have HTX := Lib.hid (show rbody ⟨true, .mk k f r l h o, n1, n2, n3, ln⟩ = wAllow ++ (([] : List UInt8) ++ (q5 ++ [59])) by
          unfold rbody
          rw [if_pos rfl, if_pos (show kind (.mk k f r l h o) = 0 from HWQ.out), if_neg HPQ.out, HQ5.out])
        have HLen := Lib.hid (show bs.length + (wAllow ++ (([] : List UInt8) ++ (q5 ++ [59]))).length ≤ 140737488355328 by rw [← HTX.out]; exact hlen)
        clear hlen hwh hpe
        go_enter Tryz.func41, Tryz.ntmps41
        go_wp2_with fail
        rw [← hX]
        clear hX
        refine (HPU.out _ bs wAllow (Wr.refl _ _ _) hBX (by have := HLen.out; simp only [List.length_append, List.length_nil, List.length_cons] at *; omega)).mono ?_
        rintro e w1 ⟨rfl, hB1, hW1⟩
        have v1 := hW1
        clear b0 b1 b2 b3 b4 b5 b6 b7 b8 b9 b10
        obtain ⟨b0, b1, b2, b3, b4, b5, b6, b7, b8, b9, b10⟩ := HB.out _ (v1)
        have P := fun p : KeptOf w1 => HB.out _ (HR.out _ p v1)
        have x0 := fun p => (P p).1
        have x1 := fun p => (P p).2.1
        have x2 := fun p => (P p).2.2.1
        have x3 := fun p => (P p).2.2.2.1
        have x4 := fun p => (P p).2.2.2.2.1
        have x5 := fun p => (P p).2.2.2.2.2.1
        have x6 := fun p => (P p).2.2.2.2.2.2.1
        have x7 := fun p => (P p).2.2.2.2.2.2.2.1
        have x8 := fun p => (P p).2.2.2.2.2.2.2.2.1
        have x9 := fun p => (P p).2.2.2.2.2.2.2.2.2.1
        have x10 := fun p => (P p).2.2.2.2.2.2.2.2.2.2
        clear P
        have NA := fun p : KeptOf w1 => HNA.out p.w (HKW.out _ (HR.out _ p v1))
        have NB := fun p : KeptOf w1 => HNB.out p.w (HKW.out _ (HR.out _ p v1))
        have NC := fun p : KeptOf w1 => HNC.out p.w (HKW.out _ (HR.out _ p v1))
        go_wp2_with fail
        refine wp_region_kept_tail 18 (by kernel_rfl) (by kernel_rfl) ?_
        simp only [List.take_succ_cons, List.take_zero, List.drop_succ_cons, List.drop_zero]
        repeat (go_big_quiet_step (first | with_reducible exact KeptOf.of (NA _) | with_reducible exact KeptOf.of (NB _) | with_reducible exact KeptOf.of (NC _)))
        refine Go.wpQuiet_nil ?_
        intro p
        have v1b := HR.out _ p v1
        have hB1b := hB1.keep p.h
        go_wp2_with fail
        refine (HPU.out _ (bs ++ wAllow) q5 v1b hB1b (by have := HLen.out; simp only [List.length_append, List.length_nil, List.length_cons] at *; omega)).mono ?_
        rintro e w2 ⟨rfl, hB2, hW2⟩
        have v2 := v1b.trans hW2
        go_wp2_with fail
        refine (HPU.out _ ((bs ++ wAllow) ++ q5) [59] v2 hB2 (by have := HLen.out; simp only [List.length_append, List.length_nil, List.length_cons] at *; omega)).mono ?_
        rintro e w3 ⟨rfl, hB3, hW3⟩
        go_wp2
        (first | go_end0 | refine bodyPost_ret (results_none rfl _ _ _) rfl ?_)
        exact ⟨rfl, by rw [HTX.out]; simpa only [List.append_assoc, List.nil_append] using hB3, hWX.trans (v2.trans hW3)⟩
      · have dw : (k != 0) = false := by simp [hwh]
        have dw2 : (k == 0) = true := by simp [hwh]
        have dp : (n2 != 0) = false := by simp [hpe]
        have dp2 : (n2 == 0) = true := by simp [hpe]
        have HWQ := Lib.hid hwh
        have HPQ := Lib.hid hpe
        clear HWE
        have HTX := Lib.hid (show rbody ⟨true, .mk k f r l h o, n1, n2, n3, ln⟩ = wAllow ++ (([] : List UInt8) ++ (([] : List UInt8) ++ [59])) by
          unfold rbody
          rw [if_pos rfl, if_pos (show kind (.mk k f r l h o) = 0 from HWQ.out), if_pos HPQ.out])
        have HLen := Lib.hid (show bs.length + (wAllow ++ (([] : List UInt8) ++ (([] : List UInt8) ++ [59]))).length ≤ 140737488355328 by rw [← HTX.out]; exact hlen)
        clear hlen hwh hpe
        go_enter Tryz.func41, Tryz.ntmps41
        go_wp2_with fail
        rw [← hX]
        clear hX
        refine (HPU.out _ bs wAllow (Wr.refl _ _ _) hBX (by have := HLen.out; simp only [List.length_append, List.length_nil, List.length_cons] at *; omega)).mono ?_
        rintro e w1 ⟨rfl, hB1, hW1⟩
        have v1 := hW1
        clear b0 b1 b2 b3 b4 b5 b6 b7 b8 b9 b10
        obtain ⟨b0, b1, b2, b3, b4, b5, b6, b7, b8, b9, b10⟩ := HB.out _ (v1)
        go_wp2_with fail
        refine (HPU.out _ (bs ++ wAllow) [59] v1 hB1 (by have := HLen.out; simp only [List.length_append, List.length_nil, List.length_cons] at *; omega)).mono ?_
        rintro e w2 ⟨rfl, hB2, hW2⟩
        go_wp2
        (first | go_end0 | refine bodyPost_ret (results_none rfl _ _ _) rfl ?_)
        exact ⟨rfl, by rw [HTX.out]; simpa only [List.append_assoc, List.nil_append] using hB2, hWX.trans (v1.trans hW2)⟩

set_option maxHeartbeats 8000000 in
theorem texts_any (A : Option Addr) (c : Nat) (l : List RuleP) (w : World) (ht : Tab w) (hll : l.length ≤ 300) (hfit : ∀ r ∈ l, fits r.when_) (hlen : ∀ r ∈ l, ruleR r = true → (rtxt r).length ≤ 3000000) (hR : Rus w A l) :
    Calls Tryz.prog 20 #[.slice A l.length c] w fun e' w' => e' = .returned (.tuple #[.string (st (text l)), .bool (textOk l)]) ∧ Keep w w' := by
  have eg := enters_of Tryz.func39 (by kernel_rfl) rfl
  have CC := Lib.hid (containsR_any A c l 39 #[] (fun r => !ruleR r) w (by omega) hR eg (fun W x RA OA rc oc hW hm hx => notRule_any x RA OA rc oc W (ht.keep hW) (hfit x hm) hx))
  have HS := Lib.hid (show (!(l.any fun x => !ruleR x)) = textOk l from not_any l _)
  cases hok : textOk l with
  | false =>
    have HA := Lib.hid (show (l.any fun x => !ruleR x) = true by have := HS.out; rw [hok] at this; simpa using this)
    have HT := Lib.hid (show text l = [] by rw [text, hok]; rfl)
    rw [HA.out] at CC
    rw [HT.out]
    clear HA HS HT hok hR ht eg hlen hfit
    go_enter Tryz.func20, Tryz.ntmps20
    go_wp2_with fail
    refine CC.out.mono ?_
    rintro e w1 ⟨rfl, hk1⟩
    go_wp2
    go_ret2
    exact ⟨rfl, hk1⟩
  | true =>
    have HA := Lib.hid (show (l.any fun x => !ruleR x) = false by have := HS.out; rw [hok] at this; simpa using this)
    have HT := Lib.hid (show text l = textsL l by rw [text, hok]; rfl)
    have hall : ∀ r ∈ l, ruleR r = true := by unfold textOk at hok; exact List.all_eq_true.1 hok
    rw [HA.out] at CC
    rw [HT.out]
    have hlen2 := fun r (hr : r ∈ l) => hlen r hr (hall r hr)
    have HTL := Lib.hid (show ∀ j, (textsL (l.take j)).length ≤ 900000000 from fun j => by
      have h1 := texts_len (l.take j) (fun r hr => hlen2 r (List.mem_of_mem_take hr))
      have h2 : (l.take j).length ≤ 300 := by rw [List.length_take]; omega
      omega)
    clear HA HS HT hok eg hlen
    go_enter Tryz.func20, Tryz.ntmps20
    go_wp2_with fail
    refine CC.out.mono ?_
    rintro e w1 ⟨rfl, hk1⟩
    have hR1 := hR.kept hk1
    have ht1 := ht.keep hk1
    have hBX := Bd.new w1
    have hKX : Keep w1 (w1.alloc (.cells #[.pointer none, .slice none 0 0] 76)) := (Keep.refl w1).alloc _
    clear hR ht CC
    go_wp2
    go_loopw [11] (fun iv wr => ∃ j : Nat, j ≤ l.length ∧ iv = .int .i64 j ∧ Bd w1.heap.size w1.heap.size (textsL (l.take j)) wr ∧ Keep w1 wr) (fun iv _ => l.length - (intOf iv).toNat)
    case atStart => exact ⟨0, Nat.zero_le _, rfl, by rw [List.take_zero]; exact hBX, hKX⟩
    case round =>
      obtain ⟨j, hj, rfl, hBj, hKj⟩ := hrel
      by_cases hlt : j < l.length
      · have hi1 : (j : Int) < l.length := by omega
        have hj0 : (0 : Int) ≤ j := by omega
        obtain ⟨ba, off, rfl, hbb⟩ := hR1.addr (by omega)
        obtain ⟨_, RA', OA', rc', oc', hx60, hx⟩ := hR1.elem j hlt
        have hx6 := hx60.kept hbb hKj
        have hmem := getD_mem zeroR l j hlt
        have HSN := Lib.hid (textsL_take l j hlt)
        have hfx := hfit _ hmem
        have hrx := hall _ hmem
        have hlx := hlen2 _ hmem
        have htl := HTL.out j
        generalize l.getD j zeroR = x at *
        rw [rbody_eq, List.length_append] at hlx
        have hrr : right x.when_ = true := by unfold ruleR at hrx; simp only [Bool.and_eq_true] at hrx; exact hrx.1
        have hsf := store_float Tryz.prog
        obtain ⟨Y, hY⟩ : ∃ Y, Y = wr.alloc (.cells #[.bool x.allow, .int .i64 (kind x.when_), .int .i64 (field x.when_), .slice RA' (rs x.when_).length rc', .float .f64 (lo x.when_), .float .f64 (hi x.when_), .slice OA' (of x.when_).length oc', .int .i64 x.num, .int .i64 x.per, .int .i64 x.burst, .int .i64 x.line] 36) := ⟨_, rfl⟩
        have hkY : Keep wr Y := by rw [hY]; exact (Keep.refl wr).alloc _
        have HW := Lib.hid (writeRule_any x RA' OA' rc' oc' w1 w1.heap.size (textsL (l.take j)) Y ht1 (hKj.trans hkY) (hBj.keep hkY) (by omega) (fun hk W bs' hW hB hl => writeN _ x.when_ RA' OA' rc' oc' w1 w1.heap.size ht1 (Nat.le_refl _) hfx hrr hk hx W bs' hW hB hl))
        have HW2 := Lib.hid (fun W (hW : Wr w1.heap.size w1.heap.size Y W) (hB : Bd w1.heap.size w1.heap.size (textsL (l.take j) ++ rbody x) W) => put_any w1 w1.heap.size (textsL (l.take j) ++ rbody x) [10] W (hW.keep (hKj.trans hkY)) hB (by simp only [List.length_append, List.length_cons, List.length_nil] at *; omega))
        have HK := Lib.hid (fun W (hW : Wr w1.heap.size w1.heap.size Y W) => hW.keep (hKj.trans hkY))
        obtain ⟨x0, x1, x2, x3, x4, x5, x6, x7, x8, x9, x10⟩ := hx6
        clear hfx hrx hlx htl hrr hx hx60 hmem hkY hBj hKj hbb
        go_wp2_with fail
        rw [← hY]
        clear hY
        refine HW.out.mono ?_
        rintro e w2 ⟨rfl, hB2, hW2⟩
        go_wp2_with fail
        refine (HW2.out _ hW2 hB2).mono ?_
        rintro e w3 ⟨rfl, hB3, hW3⟩
        go_wp2
        go_roundw
        case rel => exact ⟨j + 1, by omega, by go_num, by rw [HSN.out, rbody_eq, ← List.append_assoc]; exact hB3, HK.out _ (hW2.trans hW3)⟩
        case measure => simp [intOf]; omega
      · obtain rfl : j = l.length := by omega
        rw [List.take_length] at hBj
        have HST := Lib.hid (string_any w1.heap.size w1.heap.size (textsL l) wr hBj hKj.size)
        have HK := Lib.hid (show ∀ W, Below w1.heap.size wr W → Keep w W from fun W hW => hk1.trans (Below.trans hKj hW))
        clear hBj hKj
        go_wp2_with fail
        refine HST.out.mono ?_
        rintro e w2 ⟨rfl, hb2⟩
        go_wp2
        go_ret2
        exact ⟨rfl, HK.out _ hb2⟩
end Go.Proofs.YtmcgflpgkkophaaGreatDoor.Tree
