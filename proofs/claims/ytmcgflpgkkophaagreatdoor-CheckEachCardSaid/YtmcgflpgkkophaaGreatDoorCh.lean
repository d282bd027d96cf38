/- The developers' check: which rules may be used, and policies of such, in memory. Conditions: lists at most a million, texts as long as may be. -/
import Derived.Test.YtmcgflpgkkophaaGreatDoorPaR
import Derived.Test.YtmcgflpgkkophaaGreatDoorChA
import Derived.Test.YtmcgflpgkkophaaGreatDoorTb
import Derived.Test.YtmcgflpgkkophaaGreatDoorTrDev
import Derived.Test.YtmcgflpgkkophaaGreatDoorPaDev
import Derived.Test.YtmcgflpgkkophaaGreatDoorRe
import Derived.Test.YtmcgflpgkkophaaGreatDoorSpAll
import Derived.Test.YtmcgflpgkkophaaGreatDoorPaF2
namespace Go.Proofs.YtmcgflpgkkophaaGreatDoor.Check
set_option linter.unusedVariables false
set_option maxRecDepth 100000
open Go.ChangeShapes Go.WideShapes Go.ChangeAt Go.RowKit
open Tr
theorem isCount_any (n : Int) (w : World) : Calls Tryz.prog 24 #[.int .i64 n] w fun e w' => e = .returned (.bool (Ck.small n)) ∧ w = w' := by
  by_cases h1 : 1 ≤ n
  · have d1 : decide (1 ≤ n) = true := decide_eq_true h1
    have HS := Lib.hid (show Ck.small n = decide (n ≤ 1048576) by rw [Ck.small, d1, Bool.true_and])
    clear h1
    go_enter Tryz.func24, Tryz.ntmps24
    go_wp2
    go_ret
    exact ⟨ret_bool HS.out.symm, rfl⟩
  · have d1 : decide (1 ≤ n) = false := decide_eq_false h1
    have HS := Lib.hid (show Ck.small n = false by rw [Ck.small, d1, Bool.false_and])
    clear h1
    go_enter Tryz.func24, Tryz.ntmps24
    go_wp2
    go_ret
    exact ⟨ret_bool HS.out.symm, rfl⟩
theorem isRate_any (a b c : Int) (w : World) : Calls Tryz.prog 13 #[.agg #[.int .i64 a, .int .i64 b, .int .i64 c]] w fun e w' => e = .returned (.bool (Ck.small a && (Ck.small b && Ck.small c))) ∧ Keep w w' := by
  have CA := Lib.hid (fun W => isCount_any a W)
  have CB := Lib.hid (fun W => isCount_any b W)
  have CC := Lib.hid (fun W => isCount_any c W)
  obtain ⟨X, hX⟩ : ∃ X, X = w.alloc (.cells #[.int .i64 a, .int .i64 b, .int .i64 c] 34) := ⟨_, rfl⟩
  have hkX : Keep w X := by rw [hX]; exact (Keep.refl w).alloc _
  have c0 : X.cell? ⟨w.heap.size, 0, none⟩ = some (.int .i64 a) := by rw [hX, World.cell?_alloc_at (hn := rfl)]; rfl
  have c1 : X.cell? ⟨w.heap.size, 1, none⟩ = some (.int .i64 b) := by rw [hX, World.cell?_alloc_at (hn := rfl)]; rfl
  have c2 : X.cell? ⟨w.heap.size, 2, none⟩ = some (.int .i64 c) := by rw [hX, World.cell?_alloc_at (hn := rfl)]; rfl
  generalize Ck.small a = sa at *
  generalize Ck.small b = sb at *
  generalize Ck.small c = sc at *
  cases sa
  · go_enter Tryz.func13, Tryz.ntmps13
    go_wp2_with fail
    rw [← hX]
    clear hX
    refine (CA.out _).mono ?_
    rintro e _ ⟨rfl, rfl⟩
    go_wp2
    go_ret
    exact ⟨rfl, hkX⟩
  · cases sb
    · go_enter Tryz.func13, Tryz.ntmps13
      go_wp2_with fail
      rw [← hX]
      clear hX
      refine (CA.out _).mono ?_
      rintro e _ ⟨rfl, rfl⟩
      go_wp2_with fail
      refine (CB.out _).mono ?_
      rintro e _ ⟨rfl, rfl⟩
      go_wp2
      go_ret
      exact ⟨rfl, hkX⟩
    · go_enter Tryz.func13, Tryz.ntmps13
      go_wp2_with fail
      rw [← hX]
      clear hX
      refine (CA.out _).mono ?_
      rintro e _ ⟨rfl, rfl⟩
      go_wp2_with fail
      refine (CB.out _).mono ?_
      rintro e _ ⟨rfl, rfl⟩
      go_wp2_with fail
      refine (CC.out _).mono ?_
      rintro e _ ⟨rfl, rfl⟩
      go_wp2
      go_ret
      rw [Bool.true_and, Bool.true_and]
      exact ⟨rfl, hkX⟩
theorem most_is {f : Int} (h : 1 ≤ f ∧ f ≤ 5) : ∃ i : Nat, (i : Int) = f ∧ i < 6 ∧ highest.getD i 0 = Ck.most f := by
  have : f = 1 ∨ f = 2 ∨ f = 3 ∨ f = 4 ∨ f = 5 := by omega
  rcases this with rfl | rfl | rfl | rfl | rfl
  · exact ⟨1, rfl, by decide, rfl⟩
  · exact ⟨2, rfl, by decide, rfl⟩
  · exact ⟨3, rfl, by decide, rfl⟩
  · exact ⟨4, rfl, by decide, rfl⟩
  · exact ⟨5, rfl, by decide, rfl⟩
set_option maxHeartbeats 2000000 in
theorem out_any (f a b : Int) (p : Nat) (w : World) (hf : 1 ≤ f ∧ f ≤ 5) (hh : Hi w) (hc : w.cell? ⟨p, 1, none⟩ = some (.int .i64 f)) :
    Calls Tryz.prog 46 #[.agg #[.int .i64 a, .int .i64 b], .pointer (some ⟨p, 0, none⟩)] w fun e w' => e = .returned (.bool (!(decide (a ≤ b) && decide (b ≤ Ck.most f)))) ∧ Keep w w' := by
  have hp : p < w.heap.size := Pm.lt_of_cell hc
  obtain ⟨X, hX⟩ : ∃ X, X = w.alloc (.cells #[.int .i64 a, .int .i64 b] 86) := ⟨_, rfl⟩
  have hkX : Keep w X := by rw [hX]; exact (Keep.refl w).alloc _
  have c0 : X.cell? ⟨w.heap.size, 0, none⟩ = some (.int .i64 a) := by rw [hX, World.cell?_alloc_at (hn := rfl)]; rfl
  have c1 : X.cell? ⟨w.heap.size, 1, none⟩ = some (.int .i64 b) := by rw [hX, World.cell?_alloc_at (hn := rfl)]; rfl
  have c2 : X.cell? ⟨p, 1, none⟩ = some (.int .i64 f) := (Below.cell hkX hp).trans hc
  have hhX := hh.keep hkX
  by_cases h1 : b < a
  · have d1 : decide (b < a) = true := decide_eq_true h1
    have HS := Lib.hid (show (!(decide (a ≤ b) && decide (b ≤ Ck.most f))) = true by rw [decide_eq_false (show ¬ a ≤ b by omega)]; rfl)
    clear h1 hf
    go_enter Tryz.func46, Tryz.ntmps46
    go_wp2_with fail
    rw [← hX]
    clear hX
    go_quiet (fail)
    go_wp2
    go_ret
    exact ⟨ret_bool HS.out.symm, hkX.trans ((Quiet.refl X).drewN _).keep⟩
  · have d1 : decide (b < a) = false := decide_eq_false h1
    obtain ⟨i, rfl, hi, hm⟩ := most_is hf
    have c3 := hhX.cell i hi
    rw [hm] at c3
    have HS := Lib.hid (show (!(decide (a ≤ b) && decide (b ≤ Ck.most (i : Int)))) = decide (Ck.most (i : Int) < b) by rw [decide_eq_true (show a ≤ b by omega), Bool.true_and, ← decide_not]; congr 1; exact propext (by omega))
    generalize Ck.most (i : Int) = m at *
    clear h1 hf hm
    have hi0 : (0 : Int) ≤ i := by omega
    have hi6 : (i : Int) < 6 := by omega
    go_enter Tryz.func46, Tryz.ntmps46
    go_wp2_with fail
    rw [← hX]
    clear hX
    go_quiet (fail)
    go_wp2
    go_ret
    exact ⟨ret_bool HS.out.symm, hkX.trans ((Quiet.refl X).drewN _).keep⟩
theorem not_any {α : Type} (l : List α) (p : α → Bool) : (!(l.any fun x => !p x)) = l.all p := by
  induction l with
  | nil => rfl
  | cons a l ih => rw [List.any_cons, List.all_cons, ← ih]; cases p a <;> simp
theorem le_self {l h : Nat} (hl : l < 18446744073709551616) : Go.Proofs.YtmcgflpgkkophaaGreatDoor.Re.withB l l h = Ck.le l h := by
  show (Ck.le l l && Ck.le l h) = Ck.le l h
  rcases Fp.kinds hl with ⟨hn, _⟩ | ⟨hn, _⟩
  · have : Ck.le l h = false := by unfold Ck.le; rw [Fp.order_nan_l hn]; rfl
    rw [this, Bool.and_false]
  · have : Ck.le l l = true := by
      unfold Ck.le
      have h2 : (FloatKind.f64.format.order l l != some Ordering.eq) = false := hn
      have h3 : (FloatKind.f64.format.order l l == some Ordering.eq) = true := by
        cases h4 : (FloatKind.f64.format.order l l == some Ordering.eq)
        · simp only [bne, h4] at h2; cases h2
        · rfl
      rw [h3, Bool.or_true]
    rw [this, Bool.true_and]
def atomF (f : Int) (r : List (Int × Int)) (l h : Nat) : Bool := if f = 6 then Ck.le l h else Ck.rangesF f r
set_option maxHeartbeats 4000000 in
theorem atom_any (e : ExprP) (RA OA : Option Addr) (rc oc : Nat) (w : World) (ht : Hi w) (hf : 1 ≤ field e ∧ field e ≤ 6) (hfit : fits e) (hE : Ex w e RA OA) :
    Calls Tryz.prog 21 #[.agg #[.int .i64 (kind e), .int .i64 (field e), .slice RA (rs e).length rc, .float .f64 (lo e), .float .f64 (hi e), .slice OA (of e).length oc]] w fun e' w' => e' = .returned (.bool (atomF (field e) (rs e) (lo e) (hi e))) ∧ Keep w w' := by
  obtain ⟨k, f, r, l, h, o⟩ := e
  rw [fits] at hfit
  obtain ⟨⟨hrl, hol⟩, ⟨hl64, hh64⟩, _⟩ := hfit
  simp only [kind, field, rs, lo, hi, of] at hf ⊢
  obtain ⟨X, hX⟩ : ∃ X, X = w.alloc (.cells #[.int .i64 k, .int .i64 f, .slice RA r.length rc, .float .f64 l, .float .f64 h, .slice OA o.length oc] 32) := ⟨_, rfl⟩
  have hkX : Keep w X := by rw [hX]; exact (Keep.refl w).alloc _
  have hltX : w.heap.size < X.heap.size := by rw [hX]; simp
  have hEl : ElemAt X (.mk k f r l h o) RA OA rc oc w.heap.size 0 := by rw [hX]; exact ElemAt.new w (.mk k f r l h o) RA OA rc oc 32
  have HB := Lib.hid (show ∀ W, Keep X W → W.cell? ⟨w.heap.size, 0, none⟩ = some (.int .i64 k) ∧ W.cell? ⟨w.heap.size, 1, none⟩ = some (.int .i64 f) ∧ W.cell? ⟨w.heap.size, 2, none⟩ = some (.slice RA r.length rc) ∧ W.cell? ⟨w.heap.size, 3, none⟩ = some (.float .f64 l) ∧ W.cell? ⟨w.heap.size, 4, none⟩ = some (.float .f64 h) ∧ W.cell? ⟨w.heap.size, 5, none⟩ = some (.slice OA o.length oc) from fun W hk => hEl.kept hltX hk)
  have hRX := (hE.kept hkX).1
  simp only [rs] at hRX
  have htX := ht.keep hkX
  have CR := Lib.hid (fun W => Go.Proofs.YtmcgflpgkkophaaGreatDoor.Re.within_any l l h W)
  rw [le_self hl64] at CR
  by_cases h6 : f = 6
  · have d6 : (f == 6) = true := by simpa using h6
    have HON := Lib.hid (show atomF f r l h = Ck.le l h by rw [atomF, if_pos h6])
    clear h6 hf hE hRX hEl
    generalize Ck.le l h = q at *
    go_enter Tryz.func21, Tryz.ntmps21
    go_wp2_with fail
    rw [← hX]
    clear hX
    obtain ⟨b0, b1, b2, b3, b4, b5⟩ := HB.out _ (Keep.refl X)
    go_wp2_with fail
    refine (CR.out _).mono ?_
    rintro e _ ⟨rfl, rfl⟩
    go_wp2
    go_ret
    exact ⟨ret_bool HON.out.symm, hkX⟩
  · have d6 : (f == 6) = false := by simpa using h6
    have HON := Lib.hid (show atomF f r l h = Ck.rangesF f r by rw [atomF, if_neg h6])
    have eg := enters_of Tryz.func46 (by kernel_rfl) rfl
    have c1 : X.cell? ⟨w.heap.size, 1, none⟩ = some (.int .i64 f) := (HB.out X (Keep.refl X)).2.1
    have HC := Lib.hid (Span.contains_any RA r.length rc r 46 #[.pointer (some ⟨w.heap.size, 0, none⟩)] (fun p => !(decide (p.1 ≤ p.2) && decide (p.2 ≤ Ck.most f))) X hrl hRX eg (fun W x1 x2 hk => out_any f x1 x2 w.heap.size W (by omega) (htX.keep hk) ((Below.cell hk (p := ⟨w.heap.size, 1, none⟩) hltX).trans c1)))
    have HS := Lib.hid (show (!(r.any fun p => !(decide (p.1 ≤ p.2) && decide (p.2 ≤ Ck.most f)))) = Ck.rangesF f r from not_any r _)
    rw [← HS.out] at HON
    generalize (r.any fun p => !(decide (p.1 ≤ p.2) && decide (p.2 ≤ Ck.most f))) = q at *
    clear h6 hf hE hRX hEl eg c1 CR HS
    go_enter Tryz.func21, Tryz.ntmps21
    go_wp2_with fail
    rw [← hX]
    clear hX
    obtain ⟨b0, b1, b2, b3, b4, b5⟩ := HB.out _ (Keep.refl X)
    go_wp2_with fail
    refine HC.out.mono ?_
    rintro e w1 ⟨rfl, hk1⟩
    go_wp2
    go_ret
    exact ⟨ret_bool HON.out.symm, hkX.trans hk1⟩
/-- An expression whose atoms have fields. -/
def Okay (e : ExprP) : Prop := right e = true
theorem okay_of {k f : Int} {r : List (Int × Int)} {l h : Nat} {o : List ExprP} (hk : k ≠ 1) (he : right (.mk k f r l h o) = true) : ∀ x ∈ o, right x = true := by
  rw [right, if_neg hk, Bool.and_eq_true] at he
  have h2 := he.2
  rw [Bool.and_eq_true] at h2
  replace h2 := h2.2
  rw [rightL_all, List.all_eq_true] at h2
  intro x hx
  have := h2 x hx
  rw [Bool.and_eq_true] at this
  exact this.2
theorem field_of {k f : Int} {r : List (Int × Int)} {l h : Nat} {o : List ExprP} (hk : k = 1) (he : right (.mk k f r l h o) = true) : 1 ≤ f ∧ f ≤ 6 := by
  rw [right, if_pos hk, atomR, Bool.and_eq_true, Bool.and_eq_true, Bool.and_eq_true] at he
  exact ⟨of_decide_eq_true he.2.1, of_decide_eq_true he.2.2.1⟩
set_option maxHeartbeats 4000000 in
theorem notIn_any (e : ExprP) (RA OA : Option Addr) (rc oc : Nat) (w : World)
    (hR : ∀ W, Keep w W → Calls Tryz.prog 11 #[.agg #[.int .i64 (kind e), .int .i64 (field e), .slice RA (rs e).length rc, .float .f64 (lo e), .float .f64 (hi e), .slice OA (of e).length oc]] W fun e' w' => e' = .returned (.bool (Ck.fine e)) ∧ Keep W w') :
    Calls Tryz.prog 23 #[.agg #[.int .i64 (kind e), .int .i64 (field e), .slice RA (rs e).length rc, .float .f64 (lo e), .float .f64 (hi e), .slice OA (of e).length oc]] w fun e' w' => e' = .returned (.bool (!Ck.fine e)) ∧ Keep w w' := by
  have HR := Lib.hid hR
  obtain ⟨k, f, r, l, h, o⟩ := e
  simp only [kind, field, rs, lo, hi, of] at HR ⊢
  obtain ⟨X, hX⟩ : ∃ X, X = w.alloc (.cells #[.int .i64 k, .int .i64 f, .slice RA r.length rc, .float .f64 l, .float .f64 h, .slice OA o.length oc] 32) := ⟨_, rfl⟩
  have hkX : Keep w X := by rw [hX]; exact (Keep.refl w).alloc _
  have hltX : w.heap.size < X.heap.size := by rw [hX]; simp
  have hEl : ElemAt X (.mk k f r l h o) RA OA rc oc w.heap.size 0 := by rw [hX]; exact ElemAt.new w (.mk k f r l h o) RA OA rc oc 32
  have HB := Lib.hid (show ∀ W, Keep X W → W.cell? ⟨w.heap.size, 0, none⟩ = some (.int .i64 k) ∧ W.cell? ⟨w.heap.size, 1, none⟩ = some (.int .i64 f) ∧ W.cell? ⟨w.heap.size, 2, none⟩ = some (.slice RA r.length rc) ∧ W.cell? ⟨w.heap.size, 3, none⟩ = some (.float .f64 l) ∧ W.cell? ⟨w.heap.size, 4, none⟩ = some (.float .f64 h) ∧ W.cell? ⟨w.heap.size, 5, none⟩ = some (.slice OA o.length oc) from fun W hk => hEl.kept hltX hk)
  clear hEl
  generalize Ck.fine (.mk k f r l h o) = rr at *
  go_enter Tryz.func23, Tryz.ntmps23
  go_wp2_with fail
  rw [← hX]
  clear hX
  obtain ⟨b0, b1, b2, b3, b4, b5⟩ := HB.out _ (Keep.refl X)
  go_wp2_with fail
  refine (HR.out _ hkX).mono ?_
  rintro e w1 ⟨rfl, hk1⟩
  go_wp2
  go_ret
  exact ⟨rfl, hkX.trans hk1⟩
set_option maxHeartbeats 8000000 in
theorem inRangeN : ∀ (N : Nat) (e : ExprP) (RA OA : Option Addr) (rc oc : Nat) (w : World), Hi w → dp e ≤ N → right e = true → fits e → Ex w e RA OA →
    Calls Tryz.prog 11 #[.agg #[.int .i64 (kind e), .int .i64 (field e), .slice RA (rs e).length rc, .float .f64 (lo e), .float .f64 (hi e), .slice OA (of e).length oc]] w fun e' w' => e' = .returned (.bool (Ck.fine e)) ∧ Keep w w' := by
  intro N
  induction N with
  | zero => intro e RA OA rc oc w _ hN; exact absurd (dp_pos e) (by omega)
  | succ N ih =>
    intro e RA OA rc oc w ht hN hri hfit hE
    have hsub := fun x (hx : x ∈ of e) => dp_of hx
    have CAt := Lib.hid (fun (hf : 1 ≤ field e ∧ field e ≤ 6) W (hW : Keep w W) => atom_any e RA OA rc oc W (ht.keep hW) hf hfit (hE.kept hW))
    obtain ⟨k, f, r, l, h, o⟩ := e
    rw [fits] at hfit
    obtain ⟨⟨hrl, hol⟩, ⟨hl64, hh64⟩, hfo⟩ := hfit
    replace hfo := fitsL_mem hfo
    simp only [kind, field, rs, lo, hi, of] at hsub CAt ⊢
    obtain ⟨X, hX⟩ : ∃ X, X = w.alloc (.cells #[.int .i64 k, .int .i64 f, .slice RA r.length rc, .float .f64 l, .float .f64 h, .slice OA o.length oc] 32) := ⟨_, rfl⟩
    have hkX : Keep w X := by rw [hX]; exact (Keep.refl w).alloc _
    have hltX : w.heap.size < X.heap.size := by rw [hX]; simp
    have hEl : ElemAt X (.mk k f r l h o) RA OA rc oc w.heap.size 0 := by rw [hX]; exact ElemAt.new w (.mk k f r l h o) RA OA rc oc 32
    have HB := Lib.hid (show ∀ W, Keep X W → W.cell? ⟨w.heap.size, 0, none⟩ = some (.int .i64 k) ∧ W.cell? ⟨w.heap.size, 1, none⟩ = some (.int .i64 f) ∧ W.cell? ⟨w.heap.size, 2, none⟩ = some (.slice RA r.length rc) ∧ W.cell? ⟨w.heap.size, 3, none⟩ = some (.float .f64 l) ∧ W.cell? ⟨w.heap.size, 4, none⟩ = some (.float .f64 h) ∧ W.cell? ⟨w.heap.size, 5, none⟩ = some (.slice OA o.length oc) from fun W hk => hEl.kept hltX hk)
    have hO : Exs X OA o := (hE.kept hkX).exs
    by_cases h1 : k = 1
    · have d1 : (k == 1) = true := by simpa using h1
      have CA := Lib.hid (CAt.out (field_of h1 hri))
      have HON := Lib.hid (show Ck.fine (.mk k f r l h o) = atomF f r l h by rw [Ck.fine, if_pos h1, atomF])
      generalize atomF f r l h = q at *
      clear h1 hri hE hO hEl hsub hfo CAt ih
      go_enter Tryz.func11, Tryz.ntmps11
      go_wp2_with fail
      rw [← hX]
      clear hX
      obtain ⟨b0, b1, b2, b3, b4, b5⟩ := HB.out _ (Keep.refl X)
      go_wp2_with fail
      refine (CA.out _ hkX).mono ?_
      rintro e w1 ⟨rfl, hk1⟩
      go_wp2
      go_ret
      exact ⟨ret_bool HON.out.symm, hkX.trans hk1⟩
    · have d1 : (k == 1) = false := by simpa using h1
      have eg := enters_of Tryz.func23 (by kernel_rfl) rfl
      have HC := Lib.hid (Tree.contains_any OA oc o 23 #[] (fun x => !Ck.fine x) X hol hO eg (fun W x RA' OA' rc' oc' hk hm hx => notIn_any x RA' OA' rc' oc' W (fun V hV => ih x RA' OA' rc' oc' V (ht.keep ((hkX.trans hk).trans hV)) (by have := hsub x hm; omega) (okay_of h1 hri x hm) (hfo x hm) (hx.kept hV))))
      have HON := Lib.hid (show Ck.fine (.mk k f r l h o) = !(o.any fun x => !Ck.fine x) by rw [Ck.fine, if_neg h1, not_any, Ck.fineL_all])
      generalize (o.any fun x => !Ck.fine x) = q at *
      clear h1 hri hE hO hEl hsub hfo CAt ih eg
      go_enter Tryz.func11, Tryz.ntmps11
      go_wp2_with fail
      rw [← hX]
      clear hX
      obtain ⟨b0, b1, b2, b3, b4, b5⟩ := HB.out _ (Keep.refl X)
      go_wp2_with fail
      refine HC.out.mono ?_
      rintro e w1 ⟨rfl, hk1⟩
      go_wp2
      go_ret
      exact ⟨ret_bool HON.out.symm, hkX.trans hk1⟩
theorem rus_one {W : World} {r : RuleP} {RA OA : Option Addr} {rc oc : Nat} {t : TypeId} (hE : Ex W r.when_ RA OA) :
    Rus (W.alloc (.cells #[.bool r.allow, .int .i64 (kind r.when_), .int .i64 (field r.when_), .slice RA (rs r.when_).length rc, .float .f64 (lo r.when_), .float .f64 (hi r.when_), .slice OA (of r.when_).length oc, .int .i64 r.num, .int .i64 r.per, .int .i64 r.burst, .int .i64 r.line] t)) (some ⟨W.heap.size, 0, none⟩) [r] := fun _ => by
  refine ⟨_, _, rfl, by simp, fun k hk => ?_⟩
  have hk0 : k = 0 := by simpa using hk
  subst hk0
  refine ⟨[.bool r.allow, .int .i64 (kind r.when_), .int .i64 (field r.when_), .slice RA (rs r.when_).length rc, .float .f64 (lo r.when_), .float .f64 (hi r.when_), .slice OA (of r.when_).length oc, .int .i64 r.num, .int .i64 r.per, .int .i64 r.burst, .int .i64 r.line], fun j v hv => ?_, _, rfl, rfl, (hE.kept ((Keep.refl W).alloc _)).into _ _⟩
  rw [World.cell?_alloc_at (hn := rfl)]
  simpa using hv
set_option maxHeartbeats 4000000 in
theorem mayBe_any (r : RuleP) (RA OA : Option Addr) (rc oc : Nat) (w : World) (ht : Tab w) (hfit : fits r.when_) (hlen : ruleR r = true → (rtxt r).length ≤ 3000000) (hE : Ex w r.when_ RA OA) :
    Calls Tryz.prog 10 #[.agg #[.bool r.allow, .int .i64 (kind r.when_), .int .i64 (field r.when_), .slice RA (rs r.when_).length rc, .float .f64 (lo r.when_), .float .f64 (hi r.when_), .slice OA (of r.when_).length oc, .int .i64 r.num, .int .i64 r.per, .int .i64 r.burst, .int .i64 r.line]] w fun e' w' => e' = .returned (.bool (ruleR r)) ∧ Keep w w' := by
  have CT := Lib.hid (fun (W : World) (hW : Keep w W) (B : Addr) (hB : Rus W (some B) [r]) => Tree.texts_any (some B) 1 [r] W (ht.keep hW) (by simp) (fun x hx => by rw [List.mem_singleton] at hx; subst hx; exact hfit) (fun x hx => by rw [List.mem_singleton] at hx; subst hx; exact hlen) hB)
  have e1 : textOk [r] = ruleR r := by simp [textOk]
  rw [e1] at CT
  have HN := Lib.hid (fun (W : World) (hW : Keep w W) => rus_one (W := W) (r := r) (RA := RA) (OA := OA) (rc := rc) (oc := oc) (t := 36) (hE.kept hW))
  generalize ruleR r = rr at *
  generalize text [r] = tt at *
  clear e1 hfit hlen hE ht
  obtain ⟨al, ⟨k, f, r, l, h, o⟩, n1, n2, n3, ln⟩ := r
  simp only [kind, field, rs, lo, hi, of] at HN ⊢
  obtain ⟨X, hX⟩ : ∃ X, X = w.alloc (.cells #[.bool al, .int .i64 k, .int .i64 f, .slice RA r.length rc, .float .f64 l, .float .f64 h, .slice OA o.length oc, .int .i64 n1, .int .i64 n2, .int .i64 n3, .int .i64 ln] 36) := ⟨_, rfl⟩
  have hkX : Keep w X := by rw [hX]; exact (Keep.refl w).alloc _
  have hltX : w.heap.size < X.heap.size := by rw [hX]; simp
  have hEl : RuleAt X ⟨al, .mk k f r l h o, n1, n2, n3, ln⟩ RA OA rc oc w.heap.size 0 := by rw [hX]; exact RuleAt.new w ⟨al, .mk k f r l h o, n1, n2, n3, ln⟩ RA OA rc oc 36
  have HB := Lib.hid (show ∀ W, Keep X W → W.cell? ⟨w.heap.size, 0, none⟩ = some (.bool al) ∧ W.cell? ⟨w.heap.size, 1, none⟩ = some (.int .i64 k) ∧ W.cell? ⟨w.heap.size, 2, none⟩ = some (.int .i64 f) ∧ W.cell? ⟨w.heap.size, 3, none⟩ = some (.slice RA r.length rc) ∧ W.cell? ⟨w.heap.size, 4, none⟩ = some (.float .f64 l) ∧ W.cell? ⟨w.heap.size, 5, none⟩ = some (.float .f64 h) ∧ W.cell? ⟨w.heap.size, 6, none⟩ = some (.slice OA o.length oc) ∧ W.cell? ⟨w.heap.size, 7, none⟩ = some (.int .i64 n1) ∧ W.cell? ⟨w.heap.size, 8, none⟩ = some (.int .i64 n2) ∧ W.cell? ⟨w.heap.size, 9, none⟩ = some (.int .i64 n3) ∧ W.cell? ⟨w.heap.size, 10, none⟩ = some (.int .i64 ln) from fun W hk => hEl.kept hltX hk)
  clear hEl
  have hsX : X.heap.size = w.heap.size + 1 := by rw [hX]; simp
  have HN := Lib.hid (HN.out X hkX)
  rw [hsX] at HN
  have CT := Lib.hid (CT.out _ (hkX.alloc _) _ HN.out)
  clear HN HB hltX hsX
  go_enter Tryz.func10, Tryz.ntmps10
  go_wp2_with fail
  rw [← hX]
  clear hX
  refine CT.out.mono ?_
  rintro e w1 ⟨rfl, hk1⟩
  go_wp2
  go_ret
  exact ⟨rfl, (hkX.alloc _).trans hk1⟩
set_option maxHeartbeats 4000000 in
theorem hasRate_any (r : RuleP) (RA OA : Option Addr) (rc oc : Nat) (w : World) :
    Calls Tryz.prog 12 #[.agg #[.bool r.allow, .int .i64 (kind r.when_), .int .i64 (field r.when_), .slice RA (rs r.when_).length rc, .float .f64 (lo r.when_), .float .f64 (hi r.when_), .slice OA (of r.when_).length oc, .int .i64 r.num, .int .i64 r.per, .int .i64 r.burst, .int .i64 r.line]] w fun e' w' => e' = .returned (.bool (r.per != 0)) ∧ Keep w w' := by
  obtain ⟨al, ⟨k, f, r, l, h, o⟩, n1, n2, n3, ln⟩ := r
  simp only [kind, field, rs, lo, hi, of]
  obtain ⟨X, hX⟩ : ∃ X, X = w.alloc (.cells #[.bool al, .int .i64 k, .int .i64 f, .slice RA r.length rc, .float .f64 l, .float .f64 h, .slice OA o.length oc, .int .i64 n1, .int .i64 n2, .int .i64 n3, .int .i64 ln] 36) := ⟨_, rfl⟩
  have hkX : Keep w X := by rw [hX]; exact (Keep.refl w).alloc _
  have hltX : w.heap.size < X.heap.size := by rw [hX]; simp
  have hEl : RuleAt X ⟨al, .mk k f r l h o, n1, n2, n3, ln⟩ RA OA rc oc w.heap.size 0 := by rw [hX]; exact RuleAt.new w ⟨al, .mk k f r l h o, n1, n2, n3, ln⟩ RA OA rc oc 36
  have HB := Lib.hid (show ∀ W, Keep X W → W.cell? ⟨w.heap.size, 0, none⟩ = some (.bool al) ∧ W.cell? ⟨w.heap.size, 1, none⟩ = some (.int .i64 k) ∧ W.cell? ⟨w.heap.size, 2, none⟩ = some (.int .i64 f) ∧ W.cell? ⟨w.heap.size, 3, none⟩ = some (.slice RA r.length rc) ∧ W.cell? ⟨w.heap.size, 4, none⟩ = some (.float .f64 l) ∧ W.cell? ⟨w.heap.size, 5, none⟩ = some (.float .f64 h) ∧ W.cell? ⟨w.heap.size, 6, none⟩ = some (.slice OA o.length oc) ∧ W.cell? ⟨w.heap.size, 7, none⟩ = some (.int .i64 n1) ∧ W.cell? ⟨w.heap.size, 8, none⟩ = some (.int .i64 n2) ∧ W.cell? ⟨w.heap.size, 9, none⟩ = some (.int .i64 n3) ∧ W.cell? ⟨w.heap.size, 10, none⟩ = some (.int .i64 ln) from fun W hk => hEl.kept hltX hk)
  clear hEl
  go_enter Tryz.func12, Tryz.ntmps12
  go_wp2_with fail
  rw [← hX]
  clear hX
  obtain ⟨b0, b1, b2, b3, b4, b5, b6, b7, b8, b9, b10⟩ := HB.out _ (Keep.refl X)
  go_wp2
  go_ret
  exact ⟨rfl, hkX⟩
set_option maxHeartbeats 8000000 in
theorem rule_any (r : RuleP) (RA OA : Option Addr) (rc oc : Nat) (w : World) (ht : TB w) (hfit : fits r.when_) (hlen : ruleR r = true → (rtxt r).length ≤ 3000000) (hE : Ex w r.when_ RA OA) :
    Calls Tryz.prog 6 #[.agg #[.bool r.allow, .int .i64 (kind r.when_), .int .i64 (field r.when_), .slice RA (rs r.when_).length rc, .float .f64 (lo r.when_), .float .f64 (hi r.when_), .slice OA (of r.when_).length oc, .int .i64 r.num, .int .i64 r.per, .int .i64 r.burst, .int .i64 r.line]] w fun e' w' => e' = .returned (.int .i64 (Ck.rule r)) ∧ Keep w w' := by
  obtain ⟨z, hz⟩ : ∃ z, Ck.rule r = z := ⟨_, rfl⟩
  have HZ := Lib.hid hz
  rw [hz]
  clear hz
  obtain ⟨X, hX⟩ : ∃ X, X = w.alloc (.cells #[.bool r.allow, .int .i64 (kind r.when_), .int .i64 (field r.when_), .slice RA (rs r.when_).length rc, .float .f64 (lo r.when_), .float .f64 (hi r.when_), .slice OA (of r.when_).length oc, .int .i64 r.num, .int .i64 r.per, .int .i64 r.burst, .int .i64 r.line] 36) := ⟨_, rfl⟩
  have hkX : Keep w X := by rw [hX]; exact (Keep.refl w).alloc _
  have hltX : w.heap.size < X.heap.size := by rw [hX]; simp
  have hEl : RuleAt X r RA OA rc oc w.heap.size 0 := by rw [hX]; exact RuleAt.new w r RA OA rc oc 36
  have CM := Lib.hid (fun W (hW : Keep X W) => mayBe_any r RA OA rc oc W (ht.tab.keep (hkX.trans hW)) hfit hlen (hE.kept (hkX.trans hW)))
  have CI := Lib.hid (fun (hr : right r.when_ = true) W (hW : Keep X W) => inRangeN _ r.when_ RA OA rc oc W (ht.hi.keep (hkX.trans hW)) (Nat.le_refl _) hr hfit (hE.kept (hkX.trans hW)))
  have CH := Lib.hid (fun W (hW : Keep X W) => hasRate_any r RA OA rc oc W)
  have CQ := Lib.hid (fun W (hW : Keep X W) => isRate_any r.num r.per r.burst W)
  have hri : ruleR r = true → right r.when_ = true := fun h => by rw [ruleR, Bool.and_eq_true] at h; exact h.1
  have HR : Ck.rule r = if ruleR r then (if Ck.fine r.when_ then (if r.per = 0 then 0 else if r.allow then (if Ck.small r.num && (Ck.small r.per && Ck.small r.burst) then 0 else 10) else 7) else 10) else 1 := rfl
  obtain ⟨al, ⟨k, f, r, l, h, o⟩, n1, n2, n3, ln⟩ := r
  have HB := Lib.hid (show ∀ W, Keep X W → W.cell? ⟨w.heap.size, 0, none⟩ = some (.bool al) ∧ W.cell? ⟨w.heap.size, 1, none⟩ = some (.int .i64 k) ∧ W.cell? ⟨w.heap.size, 2, none⟩ = some (.int .i64 f) ∧ W.cell? ⟨w.heap.size, 3, none⟩ = some (.slice RA r.length rc) ∧ W.cell? ⟨w.heap.size, 4, none⟩ = some (.float .f64 l) ∧ W.cell? ⟨w.heap.size, 5, none⟩ = some (.float .f64 h) ∧ W.cell? ⟨w.heap.size, 6, none⟩ = some (.slice OA o.length oc) ∧ W.cell? ⟨w.heap.size, 7, none⟩ = some (.int .i64 n1) ∧ W.cell? ⟨w.heap.size, 8, none⟩ = some (.int .i64 n2) ∧ W.cell? ⟨w.heap.size, 9, none⟩ = some (.int .i64 n3) ∧ W.cell? ⟨w.heap.size, 10, none⟩ = some (.int .i64 ln) from fun W hk => hEl.kept hltX hk)
  clear hEl
  simp only [kind, field, rs, lo, hi, of] at *
  generalize Ck.rule _ = y at HZ HR
  obtain rfl := HZ.out
  clear HZ
  generalize ruleR _ = rr at *
  generalize Ck.fine _ = ff at *
  generalize (Ck.small n1 && (Ck.small n2 && Ck.small n3)) = sm at *
  have HR := Lib.hid HR
  clear hE ht hfit hlen
  cases rr
  · have HE := Lib.hid (HR.out.trans (if_neg Bool.false_ne_true))
    clear HR hri CI
    go_enter Tryz.func6, Tryz.ntmps6
    go_wp2_with fail
    rw [← hX]
    clear hX
    obtain ⟨b0, b1, b2, b3, b4, b5, b6, b7, b8, b9, b10⟩ := HB.out _ (Keep.refl X)
    go_wp2_with fail
    refine (CM.out _ (Keep.refl X)).mono ?_
    rintro e v0 ⟨rfl, hk0⟩
    clear b0 b1 b2 b3 b4 b5 b6 b7 b8 b9 b10
    replace hk0 := Keep.trans (Keep.refl X) hk0
    obtain ⟨b0, b1, b2, b3, b4, b5, b6, b7, b8, b9, b10⟩ := HB.out _ hk0
    go_wp2
    go_ret
    exact ⟨by rw [HE.out]; rfl, hkX.trans hk0⟩
  · have HR := Lib.hid (HR.out.trans (if_pos rfl))
    have CI := Lib.hid (CI.out (hri rfl))
    clear hri
    cases ff
    · have HE := Lib.hid (HR.out.trans (if_neg Bool.false_ne_true))
      clear HR
      go_enter Tryz.func6, Tryz.ntmps6
      go_wp2_with fail
      rw [← hX]
      clear hX
      obtain ⟨b0, b1, b2, b3, b4, b5, b6, b7, b8, b9, b10⟩ := HB.out _ (Keep.refl X)
      go_wp2_with fail
      refine (CM.out _ (Keep.refl X)).mono ?_
      rintro e v0 ⟨rfl, hk0⟩
      clear b0 b1 b2 b3 b4 b5 b6 b7 b8 b9 b10
      replace hk0 := Keep.trans (Keep.refl X) hk0
      obtain ⟨b0, b1, b2, b3, b4, b5, b6, b7, b8, b9, b10⟩ := HB.out _ hk0
      go_wp2_with fail
      refine (CI.out _ hk0).mono ?_
      rintro e v1 ⟨rfl, hk1⟩
      clear b0 b1 b2 b3 b4 b5 b6 b7 b8 b9 b10
      replace hk1 := Keep.trans hk0 hk1
      obtain ⟨b0, b1, b2, b3, b4, b5, b6, b7, b8, b9, b10⟩ := HB.out _ hk1
      go_wp2
      go_ret
      exact ⟨by rw [HE.out]; rfl, hkX.trans hk1⟩
    · have HR := Lib.hid (HR.out.trans (if_pos rfl))
      by_cases hp : n2 = 0
      · have HE := Lib.hid (HR.out.trans (if_pos hp))
        have dp : (n2 != 0) = false := by simpa using hp
        rw [dp] at CH
        clear HR hp dp
        go_enter Tryz.func6, Tryz.ntmps6
        go_wp2_with fail
        rw [← hX]
        clear hX
        obtain ⟨b0, b1, b2, b3, b4, b5, b6, b7, b8, b9, b10⟩ := HB.out _ (Keep.refl X)
        go_wp2_with fail
        refine (CM.out _ (Keep.refl X)).mono ?_
        rintro e v0 ⟨rfl, hk0⟩
        clear b0 b1 b2 b3 b4 b5 b6 b7 b8 b9 b10
        replace hk0 := Keep.trans (Keep.refl X) hk0
        obtain ⟨b0, b1, b2, b3, b4, b5, b6, b7, b8, b9, b10⟩ := HB.out _ hk0
        go_wp2_with fail
        refine (CI.out _ hk0).mono ?_
        rintro e v1 ⟨rfl, hk1⟩
        clear b0 b1 b2 b3 b4 b5 b6 b7 b8 b9 b10
        replace hk1 := Keep.trans hk0 hk1
        obtain ⟨b0, b1, b2, b3, b4, b5, b6, b7, b8, b9, b10⟩ := HB.out _ hk1
        go_wp2_with fail
        refine (CH.out _ hk1).mono ?_
        rintro e v2 ⟨rfl, hk2⟩
        clear b0 b1 b2 b3 b4 b5 b6 b7 b8 b9 b10
        replace hk2 := Keep.trans hk1 hk2
        obtain ⟨b0, b1, b2, b3, b4, b5, b6, b7, b8, b9, b10⟩ := HB.out _ hk2
        go_wp2_with fail
        refine (CH.out _ hk2).mono ?_
        rintro e v3 ⟨rfl, hk3⟩
        clear b0 b1 b2 b3 b4 b5 b6 b7 b8 b9 b10
        replace hk3 := Keep.trans hk2 hk3
        obtain ⟨b0, b1, b2, b3, b4, b5, b6, b7, b8, b9, b10⟩ := HB.out _ hk3
        go_wp2
        go_ret
        exact ⟨by rw [HE.out]; rfl, hkX.trans hk3⟩
      · have HR := Lib.hid (HR.out.trans (if_neg hp))
        have dp : (n2 != 0) = true := by simpa using hp
        rw [dp] at CH
        clear hp dp
        cases al
        · have HE := Lib.hid (HR.out.trans (if_neg Bool.false_ne_true))
          clear HR
          go_enter Tryz.func6, Tryz.ntmps6
          go_wp2_with fail
          rw [← hX]
          clear hX
          obtain ⟨b0, b1, b2, b3, b4, b5, b6, b7, b8, b9, b10⟩ := HB.out _ (Keep.refl X)
          go_wp2_with fail
          refine (CM.out _ (Keep.refl X)).mono ?_
          rintro e v0 ⟨rfl, hk0⟩
          clear b0 b1 b2 b3 b4 b5 b6 b7 b8 b9 b10
          replace hk0 := Keep.trans (Keep.refl X) hk0
          obtain ⟨b0, b1, b2, b3, b4, b5, b6, b7, b8, b9, b10⟩ := HB.out _ hk0
          go_wp2_with fail
          refine (CI.out _ hk0).mono ?_
          rintro e v1 ⟨rfl, hk1⟩
          clear b0 b1 b2 b3 b4 b5 b6 b7 b8 b9 b10
          replace hk1 := Keep.trans hk0 hk1
          obtain ⟨b0, b1, b2, b3, b4, b5, b6, b7, b8, b9, b10⟩ := HB.out _ hk1
          go_wp2_with fail
          refine (CH.out _ hk1).mono ?_
          rintro e v2 ⟨rfl, hk2⟩
          clear b0 b1 b2 b3 b4 b5 b6 b7 b8 b9 b10
          replace hk2 := Keep.trans hk1 hk2
          obtain ⟨b0, b1, b2, b3, b4, b5, b6, b7, b8, b9, b10⟩ := HB.out _ hk2
          go_wp2
          go_ret
          exact ⟨by rw [HE.out]; rfl, hkX.trans hk2⟩
        · have HR := Lib.hid (HR.out.trans (if_pos rfl))
          cases sm
          · have HE := Lib.hid (HR.out.trans (if_neg Bool.false_ne_true))
            clear HR
            go_enter Tryz.func6, Tryz.ntmps6
            go_wp2_with fail
            rw [← hX]
            clear hX
            obtain ⟨b0, b1, b2, b3, b4, b5, b6, b7, b8, b9, b10⟩ := HB.out _ (Keep.refl X)
            go_wp2_with fail
            refine (CM.out _ (Keep.refl X)).mono ?_
            rintro e v0 ⟨rfl, hk0⟩
            clear b0 b1 b2 b3 b4 b5 b6 b7 b8 b9 b10
            replace hk0 := Keep.trans (Keep.refl X) hk0
            obtain ⟨b0, b1, b2, b3, b4, b5, b6, b7, b8, b9, b10⟩ := HB.out _ hk0
            go_wp2_with fail
            refine (CI.out _ hk0).mono ?_
            rintro e v1 ⟨rfl, hk1⟩
            clear b0 b1 b2 b3 b4 b5 b6 b7 b8 b9 b10
            replace hk1 := Keep.trans hk0 hk1
            obtain ⟨b0, b1, b2, b3, b4, b5, b6, b7, b8, b9, b10⟩ := HB.out _ hk1
            go_wp2_with fail
            refine (CH.out _ hk1).mono ?_
            rintro e v2 ⟨rfl, hk2⟩
            clear b0 b1 b2 b3 b4 b5 b6 b7 b8 b9 b10
            replace hk2 := Keep.trans hk1 hk2
            obtain ⟨b0, b1, b2, b3, b4, b5, b6, b7, b8, b9, b10⟩ := HB.out _ hk2
            go_wp2_with fail
            refine (CH.out _ hk2).mono ?_
            rintro e v3 ⟨rfl, hk3⟩
            clear b0 b1 b2 b3 b4 b5 b6 b7 b8 b9 b10
            replace hk3 := Keep.trans hk2 hk3
            obtain ⟨b0, b1, b2, b3, b4, b5, b6, b7, b8, b9, b10⟩ := HB.out _ hk3
            go_wp2_with fail
            refine (CQ.out _ hk3).mono ?_
            rintro e v4 ⟨rfl, hk4⟩
            clear b0 b1 b2 b3 b4 b5 b6 b7 b8 b9 b10
            replace hk4 := Keep.trans hk3 hk4
            obtain ⟨b0, b1, b2, b3, b4, b5, b6, b7, b8, b9, b10⟩ := HB.out _ hk4
            go_wp2
            go_ret
            exact ⟨by rw [HE.out]; rfl, hkX.trans hk4⟩
          · have HE := Lib.hid (HR.out.trans (if_pos rfl))
            clear HR
            go_enter Tryz.func6, Tryz.ntmps6
            go_wp2_with fail
            rw [← hX]
            clear hX
            obtain ⟨b0, b1, b2, b3, b4, b5, b6, b7, b8, b9, b10⟩ := HB.out _ (Keep.refl X)
            go_wp2_with fail
            refine (CM.out _ (Keep.refl X)).mono ?_
            rintro e v0 ⟨rfl, hk0⟩
            clear b0 b1 b2 b3 b4 b5 b6 b7 b8 b9 b10
            replace hk0 := Keep.trans (Keep.refl X) hk0
            obtain ⟨b0, b1, b2, b3, b4, b5, b6, b7, b8, b9, b10⟩ := HB.out _ hk0
            go_wp2_with fail
            refine (CI.out _ hk0).mono ?_
            rintro e v1 ⟨rfl, hk1⟩
            clear b0 b1 b2 b3 b4 b5 b6 b7 b8 b9 b10
            replace hk1 := Keep.trans hk0 hk1
            obtain ⟨b0, b1, b2, b3, b4, b5, b6, b7, b8, b9, b10⟩ := HB.out _ hk1
            go_wp2_with fail
            refine (CH.out _ hk1).mono ?_
            rintro e v2 ⟨rfl, hk2⟩
            clear b0 b1 b2 b3 b4 b5 b6 b7 b8 b9 b10
            replace hk2 := Keep.trans hk1 hk2
            obtain ⟨b0, b1, b2, b3, b4, b5, b6, b7, b8, b9, b10⟩ := HB.out _ hk2
            go_wp2_with fail
            refine (CH.out _ hk2).mono ?_
            rintro e v3 ⟨rfl, hk3⟩
            clear b0 b1 b2 b3 b4 b5 b6 b7 b8 b9 b10
            replace hk3 := Keep.trans hk2 hk3
            obtain ⟨b0, b1, b2, b3, b4, b5, b6, b7, b8, b9, b10⟩ := HB.out _ hk3
            go_wp2_with fail
            refine (CQ.out _ hk3).mono ?_
            rintro e v4 ⟨rfl, hk4⟩
            clear b0 b1 b2 b3 b4 b5 b6 b7 b8 b9 b10
            replace hk4 := Keep.trans hk3 hk4
            obtain ⟨b0, b1, b2, b3, b4, b5, b6, b7, b8, b9, b10⟩ := HB.out _ hk4
            go_wp2
            go_ret
            exact ⟨by rw [HE.out]; rfl, hkX.trans hk4⟩
theorem bad_app (a b : List RuleP) : Ck.bad (a ++ b) = (Ck.bad a).or (Ck.bad b) := by
  induction a with
  | nil => simp [Ck.bad]
  | cons x a ih =>
    rw [List.cons_append, Ck.bad, Ck.bad]
    split
    · exact ih
    · rfl
theorem drop_at {α : Type} (z : α) (l : List α) (j : Nat) (h : j < l.length) : l.drop j = l.getD j z :: l.drop (j + 1) := by
  rw [List.drop_eq_getElem_cons h, List.getD_eq_getElem?_getD, List.getElem?_eq_getElem h]; rfl
theorem bad_hit {l : List RuleP} {j : Nat} (h : j < l.length) (hb : Ck.bad (l.take j) = none) (hr : Ck.rule (l.getD j zeroR) ≠ 0) : Ck.bad l = some ((l.getD j zeroR).line, Ck.rule (l.getD j zeroR)) := by
  have e := bad_app (l.take j) (l.drop j)
  rw [List.take_append_drop, hb, drop_at zeroR l j h, Ck.bad, if_neg hr] at e
  exact e
theorem bad_go {l : List RuleP} {j : Nat} (h : j < l.length) (hb : Ck.bad (l.take j) = none) (hr : Ck.rule (l.getD j zeroR) = 0) : Ck.bad (l.take (j + 1)) = none := by
  have e : l.take (j + 1) = l.take j ++ [l.getD j zeroR] := by
    rw [List.take_add_one, List.getD_eq_getElem?_getD, List.getElem?_eq_getElem h]; rfl
  rw [e, bad_app, hb, Ck.bad, if_pos hr]; rfl
set_option maxHeartbeats 8000000 in
theorem policy_any (s : ByteArray) (w : World) (ht : TB w) (hs : s.size ≤ maxLen) :
    Calls Tryz.prog 5 #[.string s] w (Pa.RetRules (Ck.policy (bl s)) w) := by
  have C1 := Lib.hid (Parse.text_any s w hs)
  have hsf := store_float Tryz.prog
  obtain ⟨x, hx⟩ : ∃ x, Pa.text (bl s) = x := ⟨_, rfl⟩
  rw [hx] at C1
  obtain ⟨a, i, er⟩ := x
  by_cases he : er = 0
  · subst he
    obtain ⟨g1, g2, g3, g4, g5⟩ := PaF2.read_facts hx
    have HP := Lib.hid (show Ck.policy (bl s) = (match Ck.bad a with | none => (a, 0, 0) | some (ln, e) => ([], ln, e)) by unfold Ck.policy; rw [hx]; exact if_pos rfl)
    obtain ⟨P, hP⟩ : ∃ P, Ck.policy (bl s) = P := ⟨_, rfl⟩
    rw [hP] at HP ⊢
    have CK := Lib.hid (fun (k : Nat) (hk : k < a.length) (W : World) (hW : Keep w W) (RA OA : Option Addr) (rc oc : Nat) (hX : Ex W (a.getD k zeroR).when_ RA OA) => (by
      have hm : a.getD k zeroR ∈ a := by rw [List.getD_eq_getElem?_getD, List.getElem?_eq_getElem hk]; exact List.getElem_mem _
      exact rule_any (a.getD k zeroR) RA OA rc oc W (ht.keep hW) (g2 _ hm) (g3 _ hm) hX))
    clear hx hP g2 g3 g4 g5 ht hs
    go_enter Tryz.func5, Tryz.ntmps5
    go_wp2_with fail
    refine C1.out.mono ?_
    rintro e w1 ⟨A, c, rfl, hA, k1⟩
    simp only at hA
    clear C1
    go_wp2
    go_loopw [23] (fun iv wr => ∃ k : Nat, k ≤ a.length ∧ iv = .int .i64 k ∧ Hid (Ck.bad (a.take k) = none) ∧ Keep w1 wr) (fun iv _ => a.length - (intOf iv).toNat)
    case atStart => exact ⟨0, Nat.zero_le _, rfl, rfl, Keep.refl _⟩
    case round =>
      obtain ⟨k, hk, rfl, hb, hq⟩ := hrel
      by_cases hlt : k < a.length
      · have hltz : (k : Int) < (a.length : Int) := by omega
        have hk0 : (0 : Int) ≤ k := by omega
        obtain ⟨b, off, rfl, hbb⟩ := hA.addr (by omega)
        obtain ⟨_, RA, OA, rc, oc, ⟨x0, x1, x2, x3, x4, x5, x6, x7, x8, x9, x10⟩, hX⟩ := (hA.kept hq).elem k hlt
        have CR := fun (W : World) (hW : Keep wr W) => CK.out k hlt W ((k1.trans hq).trans hW) RA OA rc oc (hX.kept hW)
        have HIT := Lib.hid (fun hr => bad_hit hlt hb.out hr)
        have GO := Lib.hid (fun hr => bad_go hlt hb.out hr)
        clear hX hb
        obtain ⟨r, hr⟩ : ∃ r, r = a.getD k zeroR := ⟨_, rfl⟩
        rw [← hr] at x0 x1 x2 x3 x4 x5 x6 x7 x8 x9 x10 CR HIT GO
        clear hr
        obtain ⟨Y, hY⟩ : ∃ Y, Y = wr.alloc (.cells #[.bool r.allow, .int .i64 (kind r.when_), .int .i64 (field r.when_), .slice RA (rs r.when_).length rc, .float .f64 (lo r.when_), .float .f64 (hi r.when_), .slice OA (of r.when_).length oc, .int .i64 r.num, .int .i64 r.per, .int .i64 r.burst, .int .i64 r.line] 36) := ⟨_, rfl⟩
        have hltY : wr.heap.size < Y.heap.size := by rw [hY]; simp
        have hkY : Keep wr Y := by rw [hY]; exact (Keep.refl _).alloc _
        have hR1 : RuleAt Y r RA OA rc oc wr.heap.size 0 := by rw [hY]; exact RuleAt.new wr r RA OA rc oc 36
        have HB := Lib.hid (show ∀ W, Keep Y W → W.cell? ⟨wr.heap.size, 0, none⟩ = some (.bool r.allow) ∧ W.cell? ⟨wr.heap.size, 1, none⟩ = some (.int .i64 (kind r.when_)) ∧ W.cell? ⟨wr.heap.size, 2, none⟩ = some (.int .i64 (field r.when_)) ∧ W.cell? ⟨wr.heap.size, 3, none⟩ = some (.slice RA (rs r.when_).length rc) ∧ W.cell? ⟨wr.heap.size, 4, none⟩ = some (.float .f64 (lo r.when_)) ∧ W.cell? ⟨wr.heap.size, 5, none⟩ = some (.float .f64 (hi r.when_)) ∧ W.cell? ⟨wr.heap.size, 6, none⟩ = some (.slice OA (of r.when_).length oc) ∧ W.cell? ⟨wr.heap.size, 7, none⟩ = some (.int .i64 r.num) ∧ W.cell? ⟨wr.heap.size, 8, none⟩ = some (.int .i64 r.per) ∧ W.cell? ⟨wr.heap.size, 9, none⟩ = some (.int .i64 r.burst) ∧ W.cell? ⟨wr.heap.size, 10, none⟩ = some (.int .i64 r.line) from fun W hW => hR1.kept hltY hW)
        have CR := Lib.hid (CR Y hkY)
        clear hR1
        by_cases h0 : Ck.rule r = 0
        · have GO := Lib.hid (GO.out h0)
          rw [h0] at CR
          clear HIT h0
          go_wp2_with fail
          rw [← hY]
          clear hY
          obtain ⟨b0, b1, b2, b3, b4, b5, b6, b7, b8, b9, b10⟩ := HB.out _ (Keep.refl Y)
          go_wp2_with fail
          refine CR.out.mono ?_
          rintro e w2 ⟨rfl, k2⟩
          go_wp2
          refine ⟨⟨k + 1, by omega, by go_num, GO, (hq.trans hkY).trans k2⟩, by simp [intOf]; omega⟩
        · have HIT := Lib.hid (HIT.out h0)
          have d0 : (Ck.rule r != 0) = true := by simpa using h0
          have HE := Lib.hid (show P = ([], r.line, Ck.rule r) by rw [HP.out, HIT.out])
          clear GO h0 HIT HP
          generalize Ck.rule r = z at *
          go_wp2_with fail
          rw [← hY]
          clear hY
          obtain ⟨b0, b1, b2, b3, b4, b5, b6, b7, b8, b9, b10⟩ := HB.out _ (Keep.refl Y)
          go_wp2_with fail
          refine CR.out.mono ?_
          rintro e w2 ⟨rfl, k2⟩
          clear b0 b1 b2 b3 b4 b5 b6 b7 b8 b9 b10
          obtain ⟨b0, b1, b2, b3, b4, b5, b6, b7, b8, b9, b10⟩ := HB.out _ k2
          go_wp2_with fail
          go_quiet (fail)
          go_wp2
          (try simp only [Exit.inBlock, Exit.then])
          refine bodyPost_ret (results_tmp3 rfl _ _ _) rfl ⟨none, 0, by rw [HE.out]; rfl, by rw [HE.out]; exact fun h => absurd h (by show ¬ 0 < ([] : List RuleP).length; decide), (k1.trans (hq.trans (hkY.trans k2))).trans ((Quiet.refl _).drewN _).keep⟩
      · obtain rfl : k = a.length := by omega
        have HB := hb.out
        rw [List.take_length] at HB
        have HE := Lib.hid (show P = (a, 0, 0) by rw [HP.out, HB])
        clear HB HP hb
        go_wp2
        (try simp only [Exit.inBlock, Exit.then])
        refine bodyPost_ret (results_tmp3 rfl _ _ _) rfl ⟨A, c, by rw [HE.out]; rfl, by rw [HE.out]; exact hA.kept hq, k1.trans hq⟩
  · have d0 : (er != 0) = true := by simpa using he
    have HE := Lib.hid (show Ck.policy (bl s) = ([], i, er) by unfold Ck.policy; rw [hx]; exact if_neg he)
    clear hx he
    go_enter Tryz.func5, Tryz.ntmps5
    go_wp2_with fail
    refine C1.out.mono ?_
    rintro e w1 ⟨A, c, rfl, _, k1⟩
    go_wp2
    (try simp only [Exit.inBlock, Exit.then])
    refine bodyPost_ret (results_tmp3 rfl _ _ _) rfl ⟨none, 0, by rw [HE.out]; rfl, by rw [HE.out]; exact fun h => absurd h (by show ¬ 0 < ([] : List RuleP).length; decide), k1⟩
end Go.Proofs.YtmcgflpgkkophaaGreatDoor.Check
