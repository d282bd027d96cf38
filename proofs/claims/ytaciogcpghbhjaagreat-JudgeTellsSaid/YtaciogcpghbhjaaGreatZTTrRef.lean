/- Of these texts: TrRef. Conditions: as each part says. -/
import Derived.Test.YtaciogcpghbhjaaGreatZTTrI
import Derived.Test.YtaciogcpghbhjaaGreatZTReT
import Derived.Test.YtaciogcpghbhjaaGreatZTSpAll
import Derived.Test.YtaciogcpghbhjaaGreatZTLib
import Derived.Deep.RegionHeld3
import Derived.BigQuiet
import Derived.Test.YtaciogcpghbhjaaGreatZTGuAll
import Derived.RegionTactic
/- Several texts in one: TrR, TrS, TrT, TrU, TrV, TrW, TrX. Conditions: as each part says. -/
namespace Go.Proofs.YtaciogcpghbhjaaGreat.Tr
set_option linter.unusedVariables false
open Go.ChangeShapes Go.WideShapes Go.ChangeAt Go.RowKit
theorem ret_bool {b c : Bool} (h : b = c) : Ending.returned (.bool b) = Ending.returned (.bool c) := by rw [h]
theorem ret_int {a b : Int} (h : a = b) : Ending.returned (.int .i64 a) = Ending.returned (.int .i64 b) := by rw [h]
set_option maxHeartbeats 1000000 in
theorem small_any : ∀ (N : Nat) (e : ExprP) (RA OA : Option Addr) (rc oc : Nat) (d : Int) (w : World), dp e <= N -> -1000 <= d -> d <= 1000 -> Ex w e RA OA ->
  Calls Tryz.prog 46 #[.agg #[.int .i64 (kind e), .int .i64 (field e), .slice RA (rs e).length rc, .float .f64 (lo e), .float .f64 (hi e), .slice OA (of e).length oc], .int .i64 d] w fun e' w' => e' = .returned (.bool (small e d)) ∧ Keep w w' := by
 intro N
 induction N with
 | zero => intro e RA OA rc oc d w hN; exact absurd (dp_pos e) (by omega)
 | succ N ih =>
   intro e RA OA rc oc d w hN hd0 hd1 hE
   have hsub := fun x (hx : x ∈ of e) => dp_of hx
   obtain ⟨k, f, r, l, h, o⟩ := e
   simp only [kind, field, rs, lo, hi, of] at hsub ⊢
   by_cases h1 : d < 0
   ·have e1 : small (.mk k f r l h o) d = false := by rw [small, show decide (0 <= d) = false by simp; omega]; rfl
    rw [e1]
    clear e1 hE hsub
    go_enter Tryz.func46, Tryz.ntmps46
    go_wp2
    go_ret
    exact ⟨rfl, (Keep.refl w).alloc _⟩
   by_cases h2 : (o.length : Int) > 6
   ·have e1 : small (.mk k f r l h o) d = false := by rw [small, show decide (o.length <= 6) = false by simp; omega]; simp
    rw [e1]
    clear e1 hE hsub
    go_enter Tryz.func46, Tryz.ntmps46
    go_wp2
    go_ret
    exact ⟨rfl, (Keep.refl w).alloc _⟩
   by_cases h3 : (r.length : Int) > 8
   ·have e1 : small (.mk k f r l h o) d = false := by rw [small, show decide (r.length <= 8) = false by simp; omega]; simp
    rw [e1]
    clear e1 hE hsub
    go_enter Tryz.func46, Tryz.ntmps46
    go_wp2
    go_ret
    exact ⟨rfl, (Keep.refl w).alloc _⟩
   have HS := Lib.hid (show small (.mk k f r l h o) d = o.all fun x => small x (d - 1) by
    rw [small, show decide (0 <= d) = true by simp; omega, show decide (o.length <= 6) = true by simp; omega, show decide (r.length <= 8) = true by simp; omega, smallL_all]; rfl)
   obtain ⟨X, hX⟩ : ∃ X, X = w.alloc (.cells #[.int .i64 k, .int .i64 f, .slice RA r.length rc, .float .f64 l, .float .f64 h, .slice OA o.length oc] 59) := ⟨_, rfl⟩
   have hkX : Keep w X := by rw [hX]; exact (Keep.refl w).alloc _
   have hltX : w.heap.size < X.heap.size := by rw [hX]; simp
   have hEl : ElemAt X (.mk k f r l h o) RA OA rc oc w.heap.size 0 := by rw [hX]; exact ElemAt.new w (.mk k f r l h o) RA OA rc oc 59
   have HB := Lib.hid (show ∀ W, Keep X W -> ElemAt W (.mk k f r l h o) RA OA rc oc w.heap.size 0 from fun W hk => hEl.kept hltX hk)
   have hEX := hE.kept hkX
   clear hEl hE
   have hO : Exs X OA o := hEX.exs
   clear hEX
   go_enter Tryz.func46, Tryz.ntmps46
   go_wp2
   rw [<- hX]
   clear hX
   go_loopw [5] (fun iv wr => ∃ j : Nat, j <= o.length ∧ iv = .int .i64 j ∧ Hid ((o.take j).all (fun x => small x (d - 1)) = true) ∧ Keep X wr) (fun iv _ => o.length - (intOf iv).toNat)
   case atStart => exact ⟨0, Nat.zero_le _, rfl, rfl, Keep.refl _⟩
   case round =>
    obtain ⟨j, hj, rfl, hall, hk⟩ := hrel
    obtain ⟨b0, b1, b2, b3, b4, b5⟩ := HB.out _ hk
    simp only [kind, field, rs, lo, hi, of] at b0 b1 b2 b3 b4 b5
    by_cases hlt : j < o.length
    ·have hi1 : (j : Int) < o.length := by omega
     have hj0 : (0 : Int) <= j := by omega
     have hOw := hO.kept hk
     obtain ⟨b, off, rfl, hbb⟩ := hOw.addr (by omega)
     obtain ⟨_, RA', OA', rc', oc', ⟨x0, x1, x2, x3, x4, x5⟩, hx⟩ := hOw.elem j hlt
     have hmem := getD_mem zero o j hlt
     have hdp := hsub _ hmem
     have HA := Lib.hid (all_snoc (fun x => small x (d - 1)) zero o j hlt)
     have HNo := Lib.hid (all_no (fun x => small x (d - 1)) zero o j hlt)
     generalize o.getD j zero = x at *
     cases hsm : small x (d - 1)
     ·have HC := Lib.hid (show ∀ W, Keep wr W -> Calls Tryz.prog 46 #[.agg #[.int .i64 (kind x), .int .i64 (field x), .slice RA' (rs x).length rc', .float .f64 (lo x), .float .f64 (hi x), .slice OA' (of x).length oc'], .int .i64 (d - 1)] W fun e' w' => e' = .returned (.bool false) ∧ Keep W w' from fun W hW => by
       have := ih x RA' OA' rc' oc' (d - 1) W (by omega) (by omega) (by omega) (hx.kept hW)
       rwa [hsm] at this)
      have HF := Lib.hid (HNo.out hsm)
      clear hx hsub hdp hmem HA HNo hsm
      go_wp2_with fail
      refine (HC.out _ (Keep.refl _)).mono ?_
      rintro e w1 ⟨rfl, hk1⟩
      go_wp2
      go_ret
      exact ⟨ret_bool (by rw [HS.out, HF.out]), (hkX.trans hk).trans hk1⟩
     ·have HC := Lib.hid (show ∀ W, Keep wr W -> Calls Tryz.prog 46 #[.agg #[.int .i64 (kind x), .int .i64 (field x), .slice RA' (rs x).length rc', .float .f64 (lo x), .float .f64 (hi x), .slice OA' (of x).length oc'], .int .i64 (d - 1)] W fun e' w' => e' = .returned (.bool true) ∧ Keep W w' from fun W hW => by
       have := ih x RA' OA' rc' oc' (d - 1) W (by omega) (by omega) (by omega) (hx.kept hW)
       rwa [hsm] at this)
      have HF := Lib.hid (show (o.take (j + 1)).all (fun x => small x (d - 1)) = true by rw [HA.out, hall.out, hsm]; rfl)
      clear hx hsub hdp hmem HA HNo hsm
      go_wp2_with fail
      refine (HC.out _ (Keep.refl _)).mono ?_
      rintro e w1 ⟨rfl, hk1⟩
      go_wp2
      go_roundw
      case rel => exact ⟨j + 1, by omega, by go_num, HF, hk.trans hk1⟩
      case measure => simp [intOf]; omega
    ·obtain rfl : j = o.length := by omega
     have HF := Lib.hid (show o.all (fun x => small x (d - 1)) = true by have := hall.out; rwa [List.take_length] at this)
     go_wp2
     go_ret
     exact ⟨ret_bool (by rw [HS.out, HF.out]), hkX.trans hk⟩
end Go.Proofs.YtaciogcpghbhjaaGreat.Tr
namespace Go.Proofs.YtaciogcpghbhjaaGreat.Tr
set_option linter.unusedVariables false
open Go.ChangeShapes Go.WideShapes Go.ChangeAt Go.RowKit
open Go.Proofs.YtaciogcpghbhjaaGreat.Fp (sameB)
open Go.Proofs.YtaciogcpghbhjaaGreat.Re (tOk tL)
end Go.Proofs.YtaciogcpghbhjaaGreat.Tr
namespace Go.Proofs.YtaciogcpghbhjaaGreat.Tr
set_option linter.unusedVariables false
open Go.ChangeShapes Go.WideShapes Go.ChangeAt Go.RowKit
open Go.Proofs.YtaciogcpghbhjaaGreat.Fp (sameB)
open Go.Proofs.YtaciogcpghbhjaaGreat.Re (tOk tL)
end Go.Proofs.YtaciogcpghbhjaaGreat.Tr
namespace Go.Proofs.YtaciogcpghbhjaaGreat.Tr
set_option linter.unusedVariables false
open Go.ChangeShapes Go.WideShapes Go.ChangeAt Go.RowKit
open Go.Proofs.YtaciogcpghbhjaaGreat.Fp (sameB)
open Go.Proofs.YtaciogcpghbhjaaGreat.Re (tOk tL)
theorem plain_any (b : Nat) (hb : b < 18446744073709551616) (w : World) : Calls Tryz.prog 112 #[.float .f64 b] w fun e w' => e = .returned (.bool (plain b)) ∧ w = w' := by
 have HC := Lib.hid (Ref3.same_any b 0 hb (by omega) w)
 go_enter Tryz.func112, Tryz.ntmps112
 go_wp2_with fail
 refine HC.out.mono ?_
 rintro e _ ⟨rfl, rfl⟩
 go_wp2
 go_ret
 exact ⟨rfl, rfl⟩
theorem bound_any (b : Nat) (hb : b < 18446744073709551616) (w : World) : Calls Tryz.prog 124 #[.float .f64 b] w fun e w' => e = .returned (.bool (tOk b)) ∧ Keep w w' := by
 have HC := Lib.hid (Ref3.text_any b hb w)
 go_enter Tryz.func124, Tryz.ntmps124
 go_wp2_with fail
 refine HC.out.mono ?_
 rintro e w1 ⟨rfl, hk⟩
 go_wp2
 go_ret
 exact ⟨rfl, hk⟩
theorem num_any (n : Int) (w : World) : Calls Tryz.prog 92 #[.int .i64 n] w fun e w' => e = .returned (.bool (numR n)) ∧ w = w' := by
 by_cases h0 : n < 0
 ·have e1 : numR n = false := Gu.inR_lo h0
  rw [e1]
  clear e1
  go_enter Tryz.func92, Tryz.ntmps92
  go_wp2
  go_ret
  exact ⟨rfl, rfl⟩
 ·by_cases h1 : 9007199254740992 < n
  ·have e1 : numR n = false := Gu.inR_hi h1
   have dn : decide (n <= 9007199254740992) = false := by simp; omega
   rw [e1]
   clear e1
   go_enter Tryz.func92, Tryz.ntmps92
   go_wp2
   go_ret
   exact ⟨rfl, rfl⟩
  ·have e1 : numR n = true := Gu.inR_mk (by omega) (by omega)
   rw [e1]
   clear e1
   go_enter Tryz.func92, Tryz.ntmps92
   go_wp2
   go_ret
   exact ⟨rfl, rfl⟩
theorem atomR_off {f : Int} {r : List (Int × Int)} {l h n : Nat} (h1 : 0 < n ∨ f < 1 ∨ 6 < f) : atomR f r l h n = false := by
 unfold atomR
 rcases h1 with h1 | h1 | h1
 ·rw [show (n == 0) = false by simp; omega]; rfl
 ·rw [show decide (1 <= f) = false by simp; omega]; simp
 ·rw [show decide (f <= 6) = false by simp; omega]; simp
theorem atomR_on {f : Int} {r : List (Int × Int)} {l h n : Nat} (h1 : n = 0 ∧ 1 <= f ∧ f <= 6) : atomR f r l h n = if f = 6 then r.length == 0 && (tOk l && tOk h) else rangesR r && (!(r.length == 0) && (plain l && plain h)) := by
 unfold atomR
 rw [show (n == 0) = true by simp; omega, show decide (1 <= f) = true by simp; omega, show decide (f <= 6) = true by simp; omega]; rfl
set_option maxHeartbeats 4000000 in
theorem atom_any (e : ExprP) (RA OA : Option Addr) (rc oc : Nat) (w : World) (hfit : fits e) (hE : Ex w e RA OA) :
  Calls Tryz.prog 111 #[.agg #[.int .i64 (kind e), .int .i64 (field e), .slice RA (rs e).length rc, .float .f64 (lo e), .float .f64 (hi e), .slice OA (of e).length oc]] w fun e' w' => e' = .returned (.bool (atomR (field e) (rs e) (lo e) (hi e) (of e).length)) ∧ Keep w w' := by
 obtain ⟨k, f, r, l, h, o⟩ := e
 rw [fits] at hfit
 obtain ⟨⟨hrl, hol⟩, ⟨hl64, hh64⟩, _⟩ := hfit
 simp only [kind, field, rs, lo, hi, of]
 obtain ⟨X, hX⟩ : ∃ X, X = w.alloc (.cells #[.int .i64 k, .int .i64 f, .slice RA r.length rc, .float .f64 l, .float .f64 h, .slice OA o.length oc] 59) := ⟨_, rfl⟩
 have hkX : Keep w X := by rw [hX]; exact (Keep.refl w).alloc _
 have hltX : w.heap.size < X.heap.size := by rw [hX]; simp
 have hEl : ElemAt X (.mk k f r l h o) RA OA rc oc w.heap.size 0 := by rw [hX]; exact ElemAt.new w (.mk k f r l h o) RA OA rc oc 59
 have HB := Lib.hid (show ∀ W, Keep X W -> W.cell? ⟨w.heap.size, 0, none⟩ = some (.int .i64 k) ∧ W.cell? ⟨w.heap.size, 1, none⟩ = some (.int .i64 f) ∧ W.cell? ⟨w.heap.size, 2, none⟩ = some (.slice RA r.length rc) ∧ W.cell? ⟨w.heap.size, 3, none⟩ = some (.float .f64 l) ∧ W.cell? ⟨w.heap.size, 4, none⟩ = some (.float .f64 h) ∧ W.cell? ⟨w.heap.size, 5, none⟩ = some (.slice OA o.length oc) from fun W hk => hEl.kept hltX hk)
 have hEX := hE.kept hkX
 clear hEl hE hltX
 have hRX := hEX.1
 simp only [rs] at hRX
 clear hEX
 have CBL := Lib.hid (fun W => bound_any l hl64 W)
 have CBH := Lib.hid (fun W => bound_any h hh64 W)
 have CPL := Lib.hid (fun W => plain_any l hl64 W)
 have CPH := Lib.hid (fun W => plain_any h hh64 W)
 clear hl64 hh64
 by_cases h1 : 0 < o.length
 ·have HS := Lib.hid (show atomR f r l h o.length = false from atomR_off (.inl h1))
  have q1 : decide (0 < o.length) = true := by simpa using h1
  have q1' : decide ((0 : Int) < (o.length : Int)) = true := by simpa using h1
  clear h1
  go_enter Tryz.func111, Tryz.ntmps111
  go_wp2
  go_ret
  exact ⟨ret_bool HS.out.symm, by rw [<- hX]; exact hkX⟩
 have q1 : decide (0 < o.length) = false := by simpa using h1
 have q1' : decide ((0 : Int) < (o.length : Int)) = false := by simpa using h1
 by_cases h2 : f < 1
 ·have HS := Lib.hid (show atomR f r l h o.length = false from atomR_off (.inr (.inl h2)))
  have q2 : decide (f < 1) = true := by simpa using h2
  clear h1 h2
  go_enter Tryz.func111, Tryz.ntmps111
  go_wp2
  go_ret
  exact ⟨ret_bool HS.out.symm, by rw [<- hX]; exact hkX⟩
 have q2 : decide (f < 1) = false := by simpa using h2
 by_cases h3 : 6 < f
 ·have HS := Lib.hid (show atomR f r l h o.length = false from atomR_off (.inr (.inr h3)))
  have q3 : decide (6 < f) = true := by simpa using h3
  clear h1 h2 h3
  go_enter Tryz.func111, Tryz.ntmps111
  go_wp2
  go_ret
  exact ⟨ret_bool HS.out.symm, by rw [<- hX]; exact hkX⟩
 have q3 : decide (6 < f) = false := by simpa using h3
 have HON := Lib.hid (show atomR f r l h o.length = if f = 6 then r.length == 0 && (tOk l && tOk h) else rangesR r && (!(r.length == 0) && (plain l && plain h)) from atomR_on ⟨by omega, by omega, by omega⟩)
 clear h1 h2 h3
 by_cases h6 : f = 6
 ·have HON := Lib.hid (show atomR f r l h o.length = (r.length == 0 && (tOk l && tOk h)) by rw [HON.out, if_pos h6])
  have d6 : (f == 6) = true := by simpa using h6
  clear h6
  by_cases hr0 : r.length = 0
  ·have dr : ((r.length : Int) == 0) = true := by simpa using hr0
   have dr' : (r.length == 0) = true := by simpa using hr0
   have HON := Lib.hid (show atomR f r l h o.length = (tOk l && tOk h) by rw [HON.out, show (r.length == 0) = true by rw [beq_iff_eq]; omega]; simp)
   clear hr0
   generalize tOk l = bl at *
   generalize tOk h = bh at *
   cases bl
   ·go_enter Tryz.func111, Tryz.ntmps111
    go_wp2_with fail
    rw [<- hX]
    clear hX
    refine (CBL.out _).mono ?_
    rintro e w1 ⟨rfl, hk1⟩
    go_wp2
    go_ret
    exact ⟨ret_bool (by rw [HON.out]; rfl), hkX.trans hk1⟩
   ·go_enter Tryz.func111, Tryz.ntmps111
    go_wp2_with fail
    rw [<- hX]
    clear hX
    refine (CBL.out _).mono ?_
    rintro e w1 ⟨rfl, hk1⟩
    obtain ⟨b0, b1, b2, b3, b4, b5⟩ := HB.out _ hk1
    go_wp2_with fail
    refine (CBH.out _).mono ?_
    rintro e w2 ⟨rfl, hk2⟩
    go_wp2
    go_ret
    have hz : atomR f r l h o.length = bh := by rw [HON.out, Bool.true_and]
    rw [hz]
    exact ⟨rfl, (hkX.trans hk1).trans hk2⟩
  ·have dr : ((r.length : Int) == 0) = false := by simpa using hr0
   have dr' : (r.length == 0) = false := by simpa using hr0
   have HS := Lib.hid (show atomR f r l h o.length = false by rw [HON.out, show (r.length == 0) = false by rw [beq_eq_false_iff_ne]; omega]; simp)
   clear hr0
   go_enter Tryz.func111, Tryz.ntmps111
   go_wp2
   go_ret
   exact ⟨ret_bool HS.out.symm, by rw [<- hX]; exact hkX⟩
 ·have HON := Lib.hid (show atomR f r l h o.length = (rangesR r && (!(r.length == 0) && (plain l && plain h))) by rw [HON.out, if_neg h6])
  have d6 : (f == 6) = false := by simpa using h6
  clear h6
  go_enter Tryz.func111, Tryz.ntmps111
  go_wp2
  rw [<- hX]
  clear hX
  go_loopw [3] (fun iv wr => ∃ j : Nat, j <= r.length ∧ iv = .int .i64 j ∧ Hid ((r.take j).all (fun p => numR p.1 && numR p.2) = true) ∧ Keep X wr) (fun iv _ => r.length - (intOf iv).toNat)
  case atStart => exact ⟨0, Nat.zero_le _, rfl, rfl, Keep.refl _⟩
  case round =>
   obtain ⟨j, hj, rfl, hall, hk⟩ := hrel
   obtain ⟨b0, b1, b2, b3, b4, b5⟩ := HB.out _ hk
   by_cases hlt : j < r.length
   ·have hi1 : (j : Int) < r.length := by omega
    have hj0 : (0 : Int) <= j := by omega
    have hRw := hRX.kept hk
    obtain ⟨b, off, rfl, hbb⟩ := hRw.addr (by omega)
    obtain ⟨_, x0, x1⟩ := hRw.pair j hlt
    have HA := Lib.hid (all_snoc (fun p : Int × Int => numR p.1 && numR p.2) (0, 0) r j hlt)
    have HNo := Lib.hid (all_no (fun p : Int × Int => numR p.1 && numR p.2) (0, 0) r j hlt)
    generalize r.getD j (0, 0) = p at *
    obtain ⟨p1, p2⟩ := p
    simp only at x0 x1
    have CN1 := Lib.hid (fun W => num_any p1 W)
    have CN2 := Lib.hid (fun W => num_any p2 W)
    cases g1 : numR p1
    ·rw [g1] at CN1
     have HF := Lib.hid (show rangesR r = false from HNo.out (by simp [g1]))
     clear HA HNo g1 hRw
     go_wp2_with fail
     refine (CN1.out _).mono ?_
     rintro e _ ⟨rfl, rfl⟩
     go_wp2
     go_ret
     exact ⟨ret_bool (by rw [HON.out, HF.out, Bool.false_and]), hkX.trans hk⟩
    ·rw [g1] at CN1
     cases g2 : numR p2
     ·rw [g2] at CN2
      have HF := Lib.hid (show rangesR r = false from HNo.out (by simp [g2]))
      clear HA HNo g1 g2 hRw
      go_wp2_with fail
      refine (CN1.out _).mono ?_
      rintro e _ ⟨rfl, rfl⟩
      go_wp2_with fail
      refine (CN2.out _).mono ?_
      rintro e _ ⟨rfl, rfl⟩
      go_wp2
      go_ret
      exact ⟨ret_bool (by rw [HON.out, HF.out, Bool.false_and]), hkX.trans hk⟩
     ·rw [g2] at CN2
      have HF := Lib.hid (show (r.take (j + 1)).all (fun p => numR p.1 && numR p.2) = true by rw [HA.out, hall.out, g1, g2]; rfl)
      clear HA HNo g1 g2 hRw
      go_wp2_with fail
      refine (CN1.out _).mono ?_
      rintro e _ ⟨rfl, rfl⟩
      go_wp2_with fail
      refine (CN2.out _).mono ?_
      rintro e _ ⟨rfl, rfl⟩
      go_wp2
      go_roundw
      case rel => exact ⟨j + 1, by omega, by go_num, HF, hk⟩
      case measure => simp [intOf]; omega
   ·obtain rfl : j = r.length := by omega
    have hF : rangesR r = true := by have := hall.out; rwa [List.take_length] at this
    by_cases hr0 : 0 < r.length
    ·have q7 : decide (0 < r.length) = true := by simpa using hr0
     have q7' : decide ((0 : Int) < (r.length : Int)) = true := by simpa using hr0
     have HON := Lib.hid (show atomR f r l h o.length = (plain l && plain h) by rw [HON.out, hF, show (r.length == 0) = false by rw [beq_eq_false_iff_ne]; omega]; simp)
     clear hr0
     generalize plain l = bl at *
     generalize plain h = bh at *
     cases bl
     ·go_wp2_with fail
      refine (CPL.out _).mono ?_
      rintro e _ ⟨rfl, rfl⟩
      go_wp2
      go_ret
      exact ⟨ret_bool (by rw [HON.out]; rfl), hkX.trans hk⟩
     ·go_wp2_with fail
      refine (CPL.out _).mono ?_
      rintro e _ ⟨rfl, rfl⟩
      go_wp2_with fail
      refine (CPH.out _).mono ?_
      rintro e _ ⟨rfl, rfl⟩
      go_wp2
      go_ret
      have hz : atomR f r l h o.length = bh := by rw [HON.out, Bool.true_and]
      rw [hz]
      exact ⟨rfl, hkX.trans hk⟩
    ·have HS := Lib.hid (show atomR f r l h o.length = false by rw [HON.out, hF, show (r.length == 0) = true by rw [beq_iff_eq]; omega]; simp)
     have q7 : decide (0 < r.length) = false := by simpa using hr0
     have q7' : decide ((0 : Int) < (r.length : Int)) = false := by simpa using hr0
     clear hr0
     go_wp2
     go_ret
     exact ⟨ret_bool HS.out.symm, hkX.trans hk⟩
set_option maxHeartbeats 8000000 in
theorem right_any : ∀ (N : Nat) (e : ExprP) (RA OA : Option Addr) (rc oc : Nat) (w : World), dp e <= N -> fits e -> Ex w e RA OA ->
  Calls Tryz.prog 91 #[.agg #[.int .i64 (kind e), .int .i64 (field e), .slice RA (rs e).length rc, .float .f64 (lo e), .float .f64 (hi e), .slice OA (of e).length oc]] w fun e' w' => e' = .returned (.bool (right e)) ∧ Keep w w' := by
 intro N
 induction N with
 | zero => intro e RA OA rc oc w hN; exact absurd (dp_pos e) (by omega)
 | succ N ih =>
   intro e RA OA rc oc w hN hfit hE
   have hsub := fun x (hx : x ∈ of e) => dp_of hx
   have CA := Lib.hid (fun (W : World) (hW : Keep w W) => atom_any e RA OA rc oc W hfit (hE.kept hW))
   obtain ⟨k, f, r, l, h, o⟩ := e
   rw [fits] at hfit
   obtain ⟨⟨hrl, hol⟩, ⟨hl64, hh64⟩, hfo⟩ := hfit
   replace hfo := fitsL_mem hfo
   simp only [kind, field, rs, lo, hi, of] at hsub CA ⊢
   obtain ⟨X, hX⟩ : ∃ X, X = w.alloc (.cells #[.int .i64 k, .int .i64 f, .slice RA r.length rc, .float .f64 l, .float .f64 h, .slice OA o.length oc] 59) := ⟨_, rfl⟩
   have hkX : Keep w X := by rw [hX]; exact (Keep.refl w).alloc _
   have hltX : w.heap.size < X.heap.size := by rw [hX]; simp
   have hEl : ElemAt X (.mk k f r l h o) RA OA rc oc w.heap.size 0 := by rw [hX]; exact ElemAt.new w (.mk k f r l h o) RA OA rc oc 59
   have HB := Lib.hid (show ∀ W, Keep X W -> W.cell? ⟨w.heap.size, 0, none⟩ = some (.int .i64 k) ∧ W.cell? ⟨w.heap.size, 1, none⟩ = some (.int .i64 f) ∧ W.cell? ⟨w.heap.size, 2, none⟩ = some (.slice RA r.length rc) ∧ W.cell? ⟨w.heap.size, 3, none⟩ = some (.float .f64 l) ∧ W.cell? ⟨w.heap.size, 4, none⟩ = some (.float .f64 h) ∧ W.cell? ⟨w.heap.size, 5, none⟩ = some (.slice OA o.length oc) from fun W hk => hEl.kept hltX hk)
   have hEX := hE.kept hkX
   clear hEl hE hltX
   have hO : Exs X OA o := hEX.exs
   clear hEX
   have CPL := Lib.hid (fun W => plain_any l hl64 W)
   have CPH := Lib.hid (fun W => plain_any h hh64 W)
   clear hl64 hh64 hrl
   by_cases h1 : k = 1
   ·have HON := Lib.hid (show right (.mk k f r l h o) = atomR f r l h o.length by rw [right, if_pos h1])
    have d1 : (k == 1) = true := by simpa using h1
    clear h1 hsub hfo ih hO
    go_enter Tryz.func91, Tryz.ntmps91
    go_wp2_with fail
    rw [<- hX]
    clear hX
    refine (CA.out _ hkX).mono ?_
    rintro e w1 ⟨rfl, hk1⟩
    go_wp2
    go_ret
    exact ⟨ret_bool HON.out.symm, hkX.trans hk1⟩
   have HON := Lib.hid (show right (.mk k f r l h o) = ((f == 0 && (r.length == 0 && (plain l && plain h))) && (manyR k o.length && rightL o)) by rw [right, if_neg h1])
   have d1 : (k == 1) = false := by simpa using h1
   clear h1 CA
   by_cases h2 : f = 0
   ·have d2 : (f != 0) = false := by simpa using h2
    by_cases h3 : 0 < r.length
    ·have q3 : decide (0 < r.length) = true := by simpa using h3
     have q3' : decide ((0 : Int) < (r.length : Int)) = true := by simpa using h3
     have HS := Lib.hid (show right (.mk k f r l h o) = false by rw [HON.out, show (r.length == 0) = false by rw [beq_eq_false_iff_ne]; omega]; simp)
     clear h2 h3 hsub hfo ih hO
     go_enter Tryz.func91, Tryz.ntmps91
     go_wp2
     go_ret
     exact ⟨ret_bool HS.out.symm, by rw [<- hX]; exact hkX⟩
    ·have q3 : decide (0 < r.length) = false := by simpa using h3
     have q3' : decide ((0 : Int) < (r.length : Int)) = false := by simpa using h3
     have HON := Lib.hid (show right (.mk k f r l h o) = ((plain l && plain h) && (manyR k o.length && rightL o)) by rw [HON.out, show (r.length == 0) = true by rw [beq_iff_eq]; omega, show (f == 0) = true by simpa using h2]; rfl)
     clear h2 h3
     cases hpl : plain l
     ·have HS := Lib.hid (show right (.mk k f r l h o) = false by rw [HON.out, hpl]; rfl)
      rw [hpl] at CPL
      clear hpl hsub hfo ih hO
      go_enter Tryz.func91, Tryz.ntmps91
      go_wp2_with fail
      rw [<- hX]
      clear hX
      refine (CPL.out _).mono ?_
      rintro e _ ⟨rfl, rfl⟩
      obtain ⟨b0, b1, b2, b3, b4, b5⟩ := HB.out _ (Keep.refl _)
      go_wp2
      go_ret
      exact ⟨ret_bool HS.out.symm, hkX⟩
     ·rw [hpl] at CPL
      cases hph : plain h
      ·have HS := Lib.hid (show right (.mk k f r l h o) = false by rw [HON.out, hph]; simp)
       rw [hph] at CPH
       clear hpl hph hsub hfo ih hO
       go_enter Tryz.func91, Tryz.ntmps91
       go_wp2_with fail
       rw [<- hX]
       clear hX
       refine (CPL.out _).mono ?_
       rintro e _ ⟨rfl, rfl⟩
       obtain ⟨b0, b1, b2, b3, b4, b5⟩ := HB.out _ (Keep.refl _)
       go_wp2_with fail
       refine (CPH.out _).mono ?_
       rintro e _ ⟨rfl, rfl⟩
       go_wp2
       go_ret
       exact ⟨ret_bool HS.out.symm, hkX⟩
      ·rw [hph] at CPH
       have HON := Lib.hid (show right (.mk k f r l h o) = (manyR k o.length && rightL o) by rw [HON.out, hpl, hph]; rfl)
       clear hpl hph
       by_cases k0 : k = 0
       ·have dk0 : (k == 0) = true := by simpa using k0
        have HON := Lib.hid (show right (.mk k f r l h o) = (o.length == 0) by
         rw [HON.out, manyR, if_pos k0]
         cases ho : (o.length == 0)
         ·rfl
         ·obtain rfl : o = [] := List.eq_nil_of_length_eq_zero (by simpa using ho)
          rw [rightL]; rfl)
        have hcast : ((o.length : Int) == 0) = (o.length == 0) := by rw [Bool.eq_iff_iff]; simp
        clear k0 hsub hfo ih hO
        go_enter Tryz.func91, Tryz.ntmps91
        go_wp2_with fail
        rw [<- hX]
        clear hX
        refine (CPL.out _).mono ?_
        rintro e _ ⟨rfl, rfl⟩
        obtain ⟨b0, b1, b2, b3, b4, b5⟩ := HB.out _ (Keep.refl _)
        go_wp2_with fail
        refine (CPH.out _).mono ?_
        rintro e _ ⟨rfl, rfl⟩
        go_wp2
        go_ret
        exact ⟨ret_bool (by first | (rw [HON.out]; done) | (rw [HON.out, hcast]; done)), hkX⟩
       ·have dk0 : (k == 0) = false := by simpa using k0
        by_cases k2 : k = 2
        ·have dk2 : (k == 2) = true := by simpa using k2
         by_cases hn : o.length = 1
         ·have dn : ((o.length : Int) != 1) = false := by simp; omega
          have HON := Lib.hid (show right (.mk k f r l h o) = rightL o by rw [HON.out, manyR, if_neg k0, if_pos k2, show (o.length == 1) = true by rw [beq_iff_eq]; omega]; rfl)
          clear k0 k2 hn
          go_enter Tryz.func91, Tryz.ntmps91
          go_wp2_with fail
          rw [<- hX]
          clear hX
          refine (CPL.out _).mono ?_
          rintro e _ ⟨rfl, rfl⟩
          obtain ⟨b0, b1, b2, b3, b4, b5⟩ := HB.out _ (Keep.refl _)
          go_wp2_with fail
          refine (CPH.out _).mono ?_
          rintro e _ ⟨rfl, rfl⟩
          go_wp2
          go_loopw [3] (fun iv wr => ∃ j : Nat, j <= o.length ∧ iv = .int .i64 j ∧ Hid ((o.take j).all (fun x => !(kind x == 0) && right x) = true) ∧ Keep X wr) (fun iv _ => o.length - (intOf iv).toNat)
          case atStart => exact ⟨0, Nat.zero_le _, rfl, rfl, Keep.refl _⟩
          case round =>
           obtain ⟨j, hj, rfl, hall, hk⟩ := hrel
           clear b0 b1 b2 b3 b4 b5
           obtain ⟨b0, b1, b2, b3, b4, b5⟩ := HB.out _ hk
           by_cases hlt : j < o.length
           ·skip
            have hi1 : (j : Int) < o.length := by omega
            have hj0 : (0 : Int) <= j := by omega
            have hOw := hO.kept hk
            obtain ⟨b, off, rfl, hbb⟩ := hOw.addr (by omega)
            obtain ⟨_, RA', OA', rc', oc', hx6, hx⟩ := hOw.elem j hlt
            have hmem := getD_mem zero o j hlt
            have hdp := hsub _ hmem
            have hfi := hfo _ hmem
            have HA := Lib.hid (all_snoc (fun x => !(kind x == 0) && right x) zero o j hlt)
            have HNo := Lib.hid (all_no (fun x => !(kind x == 0) && right x) zero o j hlt)
            generalize o.getD j zero = x at *
            obtain ⟨x0, x1, x2, x3, x4, x5⟩ := hx6
            cases g1 : (kind x == 0)
            ·cases g2 : right x
             ·have HC := Lib.hid (show ∀ W, Keep wr W -> Calls Tryz.prog 91 #[.agg #[.int .i64 (kind x), .int .i64 (field x), .slice RA' (rs x).length rc', .float .f64 (lo x), .float .f64 (hi x), .slice OA' (of x).length oc']] W fun e' w' => e' = .returned (.bool false) ∧ Keep W w' from fun W hW => by
               have := ih x RA' OA' rc' oc' W (by omega) hfi (hx.kept hW)
               rwa [g2] at this)
              have HF := Lib.hid (show rightL o = false by rw [rightL_all]; exact HNo.out (by simp [g2]))
              clear HA HNo g2 hx hsub hdp hmem hfi hfo ih
              go_wp2_with fail
              refine (HC.out _ (Keep.refl _)).mono ?_
              rintro e w1 ⟨rfl, hk1⟩
              go_wp2
              go_ret
              exact ⟨ret_bool (by rw [HON.out, HF.out]), (hkX.trans hk).trans hk1⟩
             ·have HC := Lib.hid (show ∀ W, Keep wr W -> Calls Tryz.prog 91 #[.agg #[.int .i64 (kind x), .int .i64 (field x), .slice RA' (rs x).length rc', .float .f64 (lo x), .float .f64 (hi x), .slice OA' (of x).length oc']] W fun e' w' => e' = .returned (.bool true) ∧ Keep W w' from fun W hW => by
               have := ih x RA' OA' rc' oc' W (by omega) hfi (hx.kept hW)
               rwa [g2] at this)
              have HF := Lib.hid (show (o.take (j + 1)).all (fun x => !(kind x == 0) && right x) = true by rw [HA.out, hall.out, g1, g2]; rfl)
              clear HA HNo g2 hx hsub hdp hmem hfi hfo ih
              go_wp2_with fail
              refine (HC.out _ (Keep.refl _)).mono ?_
              rintro e w1 ⟨rfl, hk1⟩
              go_wp2
              go_roundw
              case rel => exact ⟨j + 1, by omega, by go_num, HF, hk.trans hk1⟩
              case measure => simp [intOf]; omega
            ·have HF := Lib.hid (show rightL o = false by rw [rightL_all]; exact HNo.out (by simp [g1]))
             clear HA HNo hx hsub hdp hmem hfi hfo ih
             go_wp2
             go_ret
             exact ⟨ret_bool (by rw [HON.out, HF.out]), hkX.trans hk⟩
           ·obtain rfl : j = o.length := by omega
            have HF := Lib.hid (show rightL o = true by rw [rightL_all]; have := hall.out; rwa [List.take_length] at this)
            go_wp2
            go_ret
            exact ⟨ret_bool (by rw [HON.out, HF.out]), hkX.trans hk⟩
         ·have dn : ((o.length : Int) != 1) = true := by simp; omega
          have HS := Lib.hid (show right (.mk k f r l h o) = false by rw [HON.out, manyR, if_neg k0, if_pos k2, show (o.length == 1) = false by rw [beq_eq_false_iff_ne]; omega]; rfl)
          clear k0 k2 hn hsub hfo ih hO
          go_enter Tryz.func91, Tryz.ntmps91
          go_wp2_with fail
          rw [<- hX]
          clear hX
          refine (CPL.out _).mono ?_
          rintro e _ ⟨rfl, rfl⟩
          obtain ⟨b0, b1, b2, b3, b4, b5⟩ := HB.out _ (Keep.refl _)
          go_wp2_with fail
          refine (CPH.out _).mono ?_
          rintro e _ ⟨rfl, rfl⟩
          go_wp2
          go_ret
          exact ⟨ret_bool HS.out.symm, hkX⟩
        ·have dk2 : (k == 2) = false := by simpa using k2
         have hk34 : k = 3 ∨ k ≠ 3 := by omega
         rcases hk34 with k3 | k3
         ·have dk3 : (k == 3) = true := by simpa using k3
          by_cases hn : o.length < 2
          ·have HS := Lib.hid (show right (.mk k f r l h o) = false by rw [HON.out, manyR, if_neg k0, if_neg k2, if_pos (Or.inl k3), show decide (2 <= o.length) = false by simp; omega]; rfl)
           have q8 : decide (o.length < 2) = true := by simpa using hn
           have q8' : decide ((o.length : Int) < 2) = true := by simp; omega
           clear k0 k2 k3 hn hsub hfo ih hO
           go_enter Tryz.func91, Tryz.ntmps91
           go_wp2_with fail
           rw [<- hX]
           clear hX
           refine (CPL.out _).mono ?_
           rintro e _ ⟨rfl, rfl⟩
           obtain ⟨b0, b1, b2, b3, b4, b5⟩ := HB.out _ (Keep.refl _)
           go_wp2_with fail
           refine (CPH.out _).mono ?_
           rintro e _ ⟨rfl, rfl⟩
           go_wp2
           go_ret
           exact ⟨ret_bool HS.out.symm, hkX⟩
          ·have q8 : decide (o.length < 2) = false := by simp; omega
           have q8' : decide ((o.length : Int) < 2) = false := by simp; omega
           have HON := Lib.hid (show right (.mk k f r l h o) = rightL o by rw [HON.out, manyR, if_neg k0, if_neg k2, if_pos (Or.inl k3), show decide (2 <= o.length) = true by simp; omega]; rfl)
           clear k0 k2 k3 hn
           go_enter Tryz.func91, Tryz.ntmps91
           go_wp2_with fail
           rw [<- hX]
           clear hX
           refine (CPL.out _).mono ?_
           rintro e _ ⟨rfl, rfl⟩
           obtain ⟨b0, b1, b2, b3, b4, b5⟩ := HB.out _ (Keep.refl _)
           go_wp2_with fail
           refine (CPH.out _).mono ?_
           rintro e _ ⟨rfl, rfl⟩
           go_wp2
           go_loopw [3] (fun iv wr => ∃ j : Nat, j <= o.length ∧ iv = .int .i64 j ∧ Hid ((o.take j).all (fun x => !(kind x == 0) && right x) = true) ∧ Keep X wr) (fun iv _ => o.length - (intOf iv).toNat)
           case atStart => exact ⟨0, Nat.zero_le _, rfl, rfl, Keep.refl _⟩
           case round =>
            obtain ⟨j, hj, rfl, hall, hk⟩ := hrel
            clear b0 b1 b2 b3 b4 b5
            obtain ⟨b0, b1, b2, b3, b4, b5⟩ := HB.out _ hk
            by_cases hlt : j < o.length
            ·skip
             have hi1 : (j : Int) < o.length := by omega
             have hj0 : (0 : Int) <= j := by omega
             have hOw := hO.kept hk
             obtain ⟨b, off, rfl, hbb⟩ := hOw.addr (by omega)
             obtain ⟨_, RA', OA', rc', oc', hx6, hx⟩ := hOw.elem j hlt
             have hmem := getD_mem zero o j hlt
             have hdp := hsub _ hmem
             have hfi := hfo _ hmem
             have HA := Lib.hid (all_snoc (fun x => !(kind x == 0) && right x) zero o j hlt)
             have HNo := Lib.hid (all_no (fun x => !(kind x == 0) && right x) zero o j hlt)
             generalize o.getD j zero = x at *
             obtain ⟨x0, x1, x2, x3, x4, x5⟩ := hx6
             cases g1 : (kind x == 0)
             ·cases g2 : right x
              ·have HC := Lib.hid (show ∀ W, Keep wr W -> Calls Tryz.prog 91 #[.agg #[.int .i64 (kind x), .int .i64 (field x), .slice RA' (rs x).length rc', .float .f64 (lo x), .float .f64 (hi x), .slice OA' (of x).length oc']] W fun e' w' => e' = .returned (.bool false) ∧ Keep W w' from fun W hW => by
                have := ih x RA' OA' rc' oc' W (by omega) hfi (hx.kept hW)
                rwa [g2] at this)
               have HF := Lib.hid (show rightL o = false by rw [rightL_all]; exact HNo.out (by simp [g2]))
               clear HA HNo g2 hx hsub hdp hmem hfi hfo ih
               go_wp2_with fail
               refine (HC.out _ (Keep.refl _)).mono ?_
               rintro e w1 ⟨rfl, hk1⟩
               go_wp2
               go_ret
               exact ⟨ret_bool (by rw [HON.out, HF.out]), (hkX.trans hk).trans hk1⟩
              ·have HC := Lib.hid (show ∀ W, Keep wr W -> Calls Tryz.prog 91 #[.agg #[.int .i64 (kind x), .int .i64 (field x), .slice RA' (rs x).length rc', .float .f64 (lo x), .float .f64 (hi x), .slice OA' (of x).length oc']] W fun e' w' => e' = .returned (.bool true) ∧ Keep W w' from fun W hW => by
                have := ih x RA' OA' rc' oc' W (by omega) hfi (hx.kept hW)
                rwa [g2] at this)
               have HF := Lib.hid (show (o.take (j + 1)).all (fun x => !(kind x == 0) && right x) = true by rw [HA.out, hall.out, g1, g2]; rfl)
               clear HA HNo g2 hx hsub hdp hmem hfi hfo ih
               go_wp2_with fail
               refine (HC.out _ (Keep.refl _)).mono ?_
               rintro e w1 ⟨rfl, hk1⟩
               go_wp2
               go_roundw
               case rel => exact ⟨j + 1, by omega, by go_num, HF, hk.trans hk1⟩
               case measure => simp [intOf]; omega
             ·have HF := Lib.hid (show rightL o = false by rw [rightL_all]; exact HNo.out (by simp [g1]))
              clear HA HNo hx hsub hdp hmem hfi hfo ih
              go_wp2
              go_ret
              exact ⟨ret_bool (by rw [HON.out, HF.out]), hkX.trans hk⟩
            ·obtain rfl : j = o.length := by omega
             have HF := Lib.hid (show rightL o = true by rw [rightL_all]; have := hall.out; rwa [List.take_length] at this)
             go_wp2
             go_ret
             exact ⟨ret_bool (by rw [HON.out, HF.out]), hkX.trans hk⟩
         ·have dk3 : (k == 3) = false := by simpa using k3
          by_cases k4 : k = 4
          ·have dk4 : (k == 4) = true := by simpa using k4
           by_cases hn : o.length < 2
           ·have HS := Lib.hid (show right (.mk k f r l h o) = false by rw [HON.out, manyR, if_neg k0, if_neg k2, if_pos (Or.inr k4), show decide (2 <= o.length) = false by simp; omega]; rfl)
            have q8 : decide (o.length < 2) = true := by simpa using hn
            have q8' : decide ((o.length : Int) < 2) = true := by simp; omega
            clear k0 k2 k3 k4 hn hsub hfo ih hO
            go_enter Tryz.func91, Tryz.ntmps91
            go_wp2_with fail
            rw [<- hX]
            clear hX
            refine (CPL.out _).mono ?_
            rintro e _ ⟨rfl, rfl⟩
            obtain ⟨b0, b1, b2, b3, b4, b5⟩ := HB.out _ (Keep.refl _)
            go_wp2_with fail
            refine (CPH.out _).mono ?_
            rintro e _ ⟨rfl, rfl⟩
            go_wp2
            go_ret
            exact ⟨ret_bool HS.out.symm, hkX⟩
           ·have q8 : decide (o.length < 2) = false := by simp; omega
            have q8' : decide ((o.length : Int) < 2) = false := by simp; omega
            have HON := Lib.hid (show right (.mk k f r l h o) = rightL o by rw [HON.out, manyR, if_neg k0, if_neg k2, if_pos (Or.inr k4), show decide (2 <= o.length) = true by simp; omega]; rfl)
            clear k0 k2 k3 k4 hn
            go_enter Tryz.func91, Tryz.ntmps91
            go_wp2_with fail
            rw [<- hX]
            clear hX
            refine (CPL.out _).mono ?_
            rintro e _ ⟨rfl, rfl⟩
            obtain ⟨b0, b1, b2, b3, b4, b5⟩ := HB.out _ (Keep.refl _)
            go_wp2_with fail
            refine (CPH.out _).mono ?_
            rintro e _ ⟨rfl, rfl⟩
            go_wp2
            go_loopw [3] (fun iv wr => ∃ j : Nat, j <= o.length ∧ iv = .int .i64 j ∧ Hid ((o.take j).all (fun x => !(kind x == 0) && right x) = true) ∧ Keep X wr) (fun iv _ => o.length - (intOf iv).toNat)
            case atStart => exact ⟨0, Nat.zero_le _, rfl, rfl, Keep.refl _⟩
            case round =>
             obtain ⟨j, hj, rfl, hall, hk⟩ := hrel
             clear b0 b1 b2 b3 b4 b5
             obtain ⟨b0, b1, b2, b3, b4, b5⟩ := HB.out _ hk
             by_cases hlt : j < o.length
             ·skip
              have hi1 : (j : Int) < o.length := by omega
              have hj0 : (0 : Int) <= j := by omega
              have hOw := hO.kept hk
              obtain ⟨b, off, rfl, hbb⟩ := hOw.addr (by omega)
              obtain ⟨_, RA', OA', rc', oc', hx6, hx⟩ := hOw.elem j hlt
              have hmem := getD_mem zero o j hlt
              have hdp := hsub _ hmem
              have hfi := hfo _ hmem
              have HA := Lib.hid (all_snoc (fun x => !(kind x == 0) && right x) zero o j hlt)
              have HNo := Lib.hid (all_no (fun x => !(kind x == 0) && right x) zero o j hlt)
              generalize o.getD j zero = x at *
              obtain ⟨x0, x1, x2, x3, x4, x5⟩ := hx6
              cases g1 : (kind x == 0)
              ·cases g2 : right x
               ·have HC := Lib.hid (show ∀ W, Keep wr W -> Calls Tryz.prog 91 #[.agg #[.int .i64 (kind x), .int .i64 (field x), .slice RA' (rs x).length rc', .float .f64 (lo x), .float .f64 (hi x), .slice OA' (of x).length oc']] W fun e' w' => e' = .returned (.bool false) ∧ Keep W w' from fun W hW => by
                 have := ih x RA' OA' rc' oc' W (by omega) hfi (hx.kept hW)
                 rwa [g2] at this)
                have HF := Lib.hid (show rightL o = false by rw [rightL_all]; exact HNo.out (by simp [g2]))
                clear HA HNo g2 hx hsub hdp hmem hfi hfo ih
                go_wp2_with fail
                refine (HC.out _ (Keep.refl _)).mono ?_
                rintro e w1 ⟨rfl, hk1⟩
                go_wp2
                go_ret
                exact ⟨ret_bool (by rw [HON.out, HF.out]), (hkX.trans hk).trans hk1⟩
               ·have HC := Lib.hid (show ∀ W, Keep wr W -> Calls Tryz.prog 91 #[.agg #[.int .i64 (kind x), .int .i64 (field x), .slice RA' (rs x).length rc', .float .f64 (lo x), .float .f64 (hi x), .slice OA' (of x).length oc']] W fun e' w' => e' = .returned (.bool true) ∧ Keep W w' from fun W hW => by
                 have := ih x RA' OA' rc' oc' W (by omega) hfi (hx.kept hW)
                 rwa [g2] at this)
                have HF := Lib.hid (show (o.take (j + 1)).all (fun x => !(kind x == 0) && right x) = true by rw [HA.out, hall.out, g1, g2]; rfl)
                clear HA HNo g2 hx hsub hdp hmem hfi hfo ih
                go_wp2_with fail
                refine (HC.out _ (Keep.refl _)).mono ?_
                rintro e w1 ⟨rfl, hk1⟩
                go_wp2
                go_roundw
                case rel => exact ⟨j + 1, by omega, by go_num, HF, hk.trans hk1⟩
                case measure => simp [intOf]; omega
              ·have HF := Lib.hid (show rightL o = false by rw [rightL_all]; exact HNo.out (by simp [g1]))
               clear HA HNo hx hsub hdp hmem hfi hfo ih
               go_wp2
               go_ret
               exact ⟨ret_bool (by rw [HON.out, HF.out]), hkX.trans hk⟩
             ·obtain rfl : j = o.length := by omega
              have HF := Lib.hid (show rightL o = true by rw [rightL_all]; have := hall.out; rwa [List.take_length] at this)
              go_wp2
              go_ret
              exact ⟨ret_bool (by rw [HON.out, HF.out]), hkX.trans hk⟩
          ·have dk4 : (k == 4) = false := by simpa using k4
           have HS := Lib.hid (show right (.mk k f r l h o) = false by rw [HON.out, manyR, if_neg k0, if_neg k2, if_neg (by omega)]; rfl)
           clear k0 k2 k3 k4 hsub hfo ih hO
           go_enter Tryz.func91, Tryz.ntmps91
           go_wp2_with fail
           rw [<- hX]
           clear hX
           refine (CPL.out _).mono ?_
           rintro e _ ⟨rfl, rfl⟩
           obtain ⟨b0, b1, b2, b3, b4, b5⟩ := HB.out _ (Keep.refl _)
           go_wp2_with fail
           refine (CPH.out _).mono ?_
           rintro e _ ⟨rfl, rfl⟩
           go_wp2
           go_ret
           exact ⟨ret_bool HS.out.symm, hkX⟩
   ·have d2 : (f != 0) = true := by simpa using h2
    have HS := Lib.hid (show right (.mk k f r l h o) = false by rw [HON.out, show (f == 0) = false by simpa using h2]; rfl)
    clear h2 hsub hfo ih hO
    go_enter Tryz.func91, Tryz.ntmps91
    go_wp2
    go_ret
    exact ⟨ret_bool HS.out.symm, by rw [<- hX]; exact hkX⟩
end Go.Proofs.YtaciogcpghbhjaaGreat.Tr
namespace Go.Proofs.YtaciogcpghbhjaaGreat.Tr
set_option linter.unusedVariables false
open Go.ChangeShapes Go.WideShapes Go.ChangeAt Go.RowKit
open Go.Proofs.YtaciogcpghbhjaaGreat.Fp (sameB)
open Go.Proofs.YtaciogcpghbhjaaGreat.Re (tOk tL)
theorem ret_str {a b : ByteArray} (h : a = b) : Ending.returned (.string a) = Ending.returned (.string b) := by rw [h]
theorem rng_snoc : ∀ (l : List (Int × Int)) (p : Int × Int), rng (l ++ [p]) = if l.length = 0 then range1 p else rng l ++ (44 :: range1 p)
 | [], p => rfl
 | [q], p => rfl
 | q :: q' :: l, p => by
   have ih := rng_snoc (q' :: l) p
   rw [List.cons_append] at ih
   rw [List.cons_append, List.cons_append, rng, ih, rng, if_neg (by simp), if_neg (by simp), List.append_assoc, List.cons_append]
theorem range1_len (p : Int × Int) : (range1 p).length <= 33 := by
 unfold range1
 have h1 := Gu.put_len p.1
 have h2 := Gu.put_len p.2
 split
 ·omega
 ·rw [List.length_append, List.length_cons]; omega
theorem rng_len : ∀ l : List (Int × Int), (rng l).length <= 34 * l.length
 | [] => Nat.le_refl _
 | [p] => by have := range1_len p; rw [rng, List.length_singleton]; omega
 | p :: q :: l => by
   have h1 := range1_len p
   have h2 := rng_len (q :: l)
   rw [rng, List.length_append, List.length_cons]
   simp only [List.length_cons] at h2 ⊢
   omega
theorem digits_any (n : Int) (w : World) : Calls Tryz.prog 69 #[.int .i64 n] w fun e w' => e = .returned (.string (st (Gu.put n))) ∧ Keep w w' := by
 have HC := Lib.hid (Ref2.put_any n w)
 go_enter Tryz.func69, Tryz.ntmps69
 go_wp2_with fail
 refine HC.out.mono ?_
 rintro e w1 ⟨rfl, hk⟩
 go_wp2
 go_ret
 exact ⟨rfl, hk⟩
theorem bracket_any (t : List UInt8) (m : Bool) (w : World) (ht : t.length <= 4000000000) : Calls Tryz.prog 95 #[.string (st t), .bool m] w fun e w' => e = .returned (.string (st (brack t m))) ∧ w = w' := by
 cases m
 ·go_enter Tryz.func95, Tryz.ntmps95
  go_wp2
  go_ret
  exact ⟨rfl, rfl⟩
 ·have a1 : ∀ W : World, (Op.stringOp .add ⟨#[40]⟩ (st t)).run Tryz.prog W = .ok (.string (st (40 :: t))) W := add_st [40] t (by simp; omega)
  have a2 : ∀ W : World, (Op.stringOp .add (st (40 :: t)) ⟨#[41]⟩).run Tryz.prog W = .ok (.string (st (40 :: t ++ [41]))) W := add_st (40 :: t) [41] (by simp; omega)
  go_enter Tryz.func95, Tryz.ntmps95
  go_wp2
  go_ret
  exact ⟨rfl, rfl⟩
set_option maxHeartbeats 2000000 in
theorem ranges_any (RA : Option Addr) (rc : Nat) (r : List (Int × Int)) (w : World) (hrl : r.length <= 1000000) (hR : Row encP 2 w w.heap.size RA r.length r) :
  Calls Tryz.prog 94 #[.slice RA r.length rc] w fun e w' => e = .returned (.string (st (rng r))) ∧ Keep w w' := by
 go_enter Tryz.func94, Tryz.ntmps94
 go_wp2
 go_loopw [3, 4] (fun sv iv wr => ∃ j : Nat, j <= r.length ∧ iv = .int .i64 j ∧ sv = .string (st (rng (r.take j))) ∧ Keep w wr) (fun _ iv _ => r.length - (intOf iv).toNat)
 case atStart => exact ⟨0, Nat.zero_le _, rfl, rfl, Keep.refl _⟩
 case round =>
  obtain ⟨j, hj, rfl, rfl, hk⟩ := hrel
  by_cases hlt : j < r.length
  ·have hi1 : (j : Int) < r.length := by omega
   have hj0 : (0 : Int) <= j := by omega
   have hRw := hR.kept hk
   obtain ⟨b, off, rfl, hbb⟩ := hRw.addr (by omega)
   have hsn := rng_snoc (r.take j) (r.getD j (0, 0))
   rw [<- take_snoc (0, 0) r j hlt, List.length_take, Nat.min_eq_left hj] at hsn
   have hpl := rng_len (r.take j)
   rw [List.length_take, Nat.min_eq_left hj] at hpl
   have hxl := Gu.put_len (r.getD j (0, 0)).1
   have hyl := Gu.put_len (r.getD j (0, 0)).2
   have HSN := Lib.hid hsn
   have hX6 : ∀ p : KeptOf wr, p.w.cell? ⟨b, off + j * 2, none⟩ = some (.int .i64 (r.getD j (0, 0)).1) ∧ p.w.cell? ⟨b, off + j * 2 + 1, none⟩ = some (.int .i64 (r.getD j (0, 0)).2) := fun p => ((hRw.kept p.h).pair j hlt).2
   clear hsn hRw
   generalize rng (r.take j) = p at *
   generalize r.getD j (0, 0) = x at *
   obtain ⟨lo', hi'⟩ := x
   simp only at hX6 hxl hyl
   obtain ⟨x0, x1⟩ := hX6 ⟨wr, Keep.refl _⟩
   have HXW := Lib.hid (show ∀ W, Keep wr W -> W.cell? ⟨b, off + j * 2, none⟩ = some (.int .i64 lo') ∧ W.cell? ⟨b, off + j * 2 + 1, none⟩ = some (.int .i64 hi') from fun W hW => hX6 ⟨W, hW⟩)
   clear hX6
   simp only at x0 x1
   obtain ⟨dl, hdl⟩ : ∃ d, d = Gu.put lo' := ⟨_, rfl⟩
   obtain ⟨dh, hdh⟩ : ∃ d, d = Gu.put hi' := ⟨_, rfl⟩
   rw [<- hdl] at hxl
   rw [<- hdh] at hyl
   have CL := Lib.hid (show ∀ W, Calls Tryz.prog 69 #[.int .i64 lo'] W fun e w' => e = .returned (.string (st dl)) ∧ Keep W w' from fun W => by rw [hdl]; exact digits_any lo' W)
   have CH := Lib.hid (show ∀ W, Calls Tryz.prog 69 #[.int .i64 hi'] W fun e w' => e = .returned (.string (st dh)) ∧ Keep W w' from fun W => by rw [hdh]; exact digits_any hi' W)
   have H1 : hi' = lo' -> range1 (lo', hi') = dl := fun e => by rw [range1, if_pos e, hdl]
   have H2 : hi' ≠ lo' -> range1 (lo', hi') = dl ++ (45 :: dh) := fun e => by rw [range1, if_neg e, hdl, hdh]
   clear hdl hdh
   by_cases hjz : j = 0
   ·have hpz : p = [] := List.eq_nil_of_length_eq_zero (by omega)
    have dj : decide (0 < j) = false := by simpa using hjz
    have dj' : decide ((0 : Int) < (j : Int)) = false := by simp; omega
    have a2 : ∀ W : World, (Op.stringOp .add (st p) (st dl)).run Tryz.prog W = .ok (.string (st (p ++ dl))) W := add_st p dl (by omega)
    by_cases hne : hi' = lo'
    ·have dne : (hi' != lo') = false := by simpa using hne
     have HF := Lib.hid (show rng (r.take (j + 1)) = p ++ dl by rw [HSN.out, H1 hne, if_pos hjz, hpz]; rfl)
     clear hne H1 H2 HSN hjz hpz
     go_wp2_with fail
     refine (CL.out _).mono ?_
     rintro e w1 ⟨rfl, hk1⟩
     clear x0 x1
     obtain ⟨x0, x1⟩ := HXW.out _ hk1
     go_wp2
     go_quiet (fail)
     go_wp2
     go_roundw
     case rel => exact ⟨j + 1, by omega, by go_num, by rw [HF.out], (hk.trans hk1).trans (((Quiet.refl w1).drewN _).keep)⟩
     case measure => simp [intOf]; omega
    ·have dne : (hi' != lo') = true := by simpa using hne
     obtain ⟨q1, hq1⟩ : ∃ q, q = p ++ dl := ⟨_, rfl⟩
     obtain ⟨q2, hq2⟩ : ∃ q, q = q1 ++ [45] := ⟨_, rfl⟩
     obtain ⟨q3, hq3⟩ : ∃ q, q = q2 ++ dh := ⟨_, rfl⟩
     have hq2l : q2.length <= 35000000 := by rw [hq2, hq1, List.length_append, List.length_append]; simp; omega
     have a3 : ∀ W : World, (Op.stringOp .add (st q1) ⟨#[45]⟩).run Tryz.prog W = .ok (.string (st q2)) W := by rw [hq2]; exact add_st q1 [45] (by rw [hq2, List.length_append] at hq2l; simp at hq2l ⊢; omega)
     have a4 : ∀ W : World, (Op.stringOp .add (st q2) (st dh)).run Tryz.prog W = .ok (.string (st q3)) W := by rw [hq3]; exact add_st q2 dh (by omega)
     rw [<- hq1] at a2
     have HF := Lib.hid (show rng (r.take (j + 1)) = q3 by rw [HSN.out, H2 hne, if_pos hjz, hq3, hq2, hq1, hpz]; simp)
     clear hq1 hq2 hq3 hq2l hne H1 H2 HSN hjz hpz
     go_wp2_with fail
     refine (CL.out _).mono ?_
     rintro e w1 ⟨rfl, hk1⟩
     clear x0 x1
     obtain ⟨x0, x1⟩ := HXW.out _ hk1
     go_wp2
     go_quiet (fail)
     go_wp2_with fail
     refine (CH.out _).mono ?_
     rintro e w2 ⟨rfl, hk2⟩
     go_wp2
     go_roundw
     case rel => exact ⟨j + 1, by omega, by go_num, by rw [HF.out], ((hk.trans hk1).trans (((Quiet.refl w1).drewN _).keep)).trans hk2⟩
     case measure => simp [intOf]; omega
   ·have dj : decide (0 < j) = true := by simp; omega
    have dj' : decide ((0 : Int) < (j : Int)) = true := by simp; omega
    obtain ⟨s1, hs1⟩ : ∃ s, s = p ++ [44] := ⟨_, rfl⟩
    have hs1l : s1.length = p.length + 1 := by rw [hs1, List.length_append]; rfl
    have a1 : ∀ W : World, (Op.stringOp .add (st p) ⟨#[44]⟩).run Tryz.prog W = .ok (.string (st s1)) W := by rw [hs1]; exact add_st p [44] (by simp; omega)
    have a2 : ∀ W : World, (Op.stringOp .add (st s1) (st dl)).run Tryz.prog W = .ok (.string (st (s1 ++ dl))) W := add_st s1 dl (by rw [hs1l]; omega)
    by_cases hne : hi' = lo'
    ·have dne : (hi' != lo') = false := by simpa using hne
     have HF := Lib.hid (show rng (r.take (j + 1)) = s1 ++ dl by rw [HSN.out, H1 hne, if_neg hjz, hs1, List.append_assoc]; rfl)
     clear hne H1 H2 HSN hjz hs1
     go_wp2_with fail
     refine (CL.out _).mono ?_
     rintro e w1 ⟨rfl, hk1⟩
     clear x0 x1
     obtain ⟨x0, x1⟩ := HXW.out _ hk1
     go_wp2
     go_quiet (fail)
     go_wp2
     go_roundw
     case rel => exact ⟨j + 1, by omega, by go_num, by rw [HF.out], (hk.trans hk1).trans (((Quiet.refl w1).drewN _).keep)⟩
     case measure => simp [intOf]; omega
    ·have dne : (hi' != lo') = true := by simpa using hne
     obtain ⟨q1, hq1⟩ : ∃ q, q = s1 ++ dl := ⟨_, rfl⟩
     obtain ⟨q2, hq2⟩ : ∃ q, q = q1 ++ [45] := ⟨_, rfl⟩
     obtain ⟨q3, hq3⟩ : ∃ q, q = q2 ++ dh := ⟨_, rfl⟩
     have hq2l : q2.length <= 35000000 := by rw [hq2, hq1, List.length_append, List.length_append]; simp; rw [hs1l]; omega
     have a3 : ∀ W : World, (Op.stringOp .add (st q1) ⟨#[45]⟩).run Tryz.prog W = .ok (.string (st q2)) W := by rw [hq2]; exact add_st q1 [45] (by rw [hq2, List.length_append] at hq2l; simp at hq2l ⊢; omega)
     have a4 : ∀ W : World, (Op.stringOp .add (st q2) (st dh)).run Tryz.prog W = .ok (.string (st q3)) W := by rw [hq3]; exact add_st q2 dh (by omega)
     rw [<- hq1] at a2
     have HF := Lib.hid (show rng (r.take (j + 1)) = q3 by rw [HSN.out, H2 hne, if_neg hjz, hq3, hq2, hq1, hs1]; simp)
     clear hq1 hq2 hq3 hq2l hne H1 H2 HSN hjz hs1
     go_wp2_with fail
     refine (CL.out _).mono ?_
     rintro e w1 ⟨rfl, hk1⟩
     clear x0 x1
     obtain ⟨x0, x1⟩ := HXW.out _ hk1
     go_wp2
     go_quiet (fail)
     go_wp2_with fail
     refine (CH.out _).mono ?_
     rintro e w2 ⟨rfl, hk2⟩
     go_wp2
     go_roundw
     case rel => exact ⟨j + 1, by omega, by go_num, by rw [HF.out], ((hk.trans hk1).trans (((Quiet.refl w1).drewN _).keep)).trans hk2⟩
     case measure => simp [intOf]; omega
  ·obtain rfl : j = r.length := by omega
   rw [List.take_length]
   go_wp2
   go_ret
   exact ⟨rfl, hk⟩
end Go.Proofs.YtaciogcpghbhjaaGreat.Tr
namespace Go.Proofs.YtaciogcpghbhjaaGreat.Tr
set_option linter.unusedVariables false
open Go.ChangeShapes Go.WideShapes Go.ChangeAt Go.RowKit
open Go.Proofs.YtaciogcpghbhjaaGreat.Fp (sameB)
open Go.Proofs.YtaciogcpghbhjaaGreat.Re (tOk tL)
theorem txtL_snoc (k : Int) : ∀ (l : List ExprP) (e : ExprP), txtL k (l ++ [e]) = if l.length = 0 then brack (txt e) (must k (kind e)) else txtL k l ++ (sep k ++ brack (txt e) (must k (kind e)))
 | [], e => by
   show txtL k [e] = brack (txt e) (must k (kind e))
   rw [txtL]; simp
 | a :: l, e => by
   rw [List.cons_append, txtL, txtL_snoc k l e, if_neg (by simp), txtL]
   cases l with
   | nil => simp
   | cons b l => simp
theorem brack_len (t : List UInt8) (m : Bool) : t.length <= (brack t m).length ∧ (brack t m).length <= t.length + 2 := by
 unfold brack; split <;> simp <;> omega
theorem txtL_take (k : Int) (l : List ExprP) (j : Nat) : (txtL k (l.take j)).length <= (txtL k l).length := by
 have h : ∀ (m a : List ExprP), (txtL k a).length <= (txtL k (a ++ m)).length := by
  intro m
  induction m with
  | nil => intro a; rw [List.append_nil]; exact Nat.le_refl _
  | cons x m ih =>
    intro a
    have h1 := ih (a ++ [x])
    rw [List.append_assoc, List.singleton_append] at h1
    refine Nat.le_trans ?_ h1
    rw [txtL_snoc]
    split
    ·rename_i h0
     rw [List.eq_nil_of_length_eq_zero h0, txtL]; simp
    ·rw [List.length_append]; omega
 have := h (l.drop j) (l.take j)
 rwa [List.take_append_drop] at this
theorem right_cases {k f : Int} {r : List (Int × Int)} {l h : Nat} {o : List ExprP} (hr : right (.mk k f r l h o) = true) :
  (k = 1 ∧ 1 <= f ∧ f <= 6) ∨ (k = 0 ∧ o = []) ∨ (k = 2 ∧ ∃ x, o = [x] ∧ kind x ≠ 0 ∧ right x = true) ∨ ((k = 3 ∨ k = 4) ∧ 2 <= o.length ∧ ∀ x ∈ o, kind x ≠ 0 ∧ right x = true) := by
 have hall : rightL o = true -> ∀ x ∈ o, kind x ≠ 0 ∧ right x = true := by
  intro h x hx
  rw [rightL_all, List.all_eq_true] at h
  have := h x hx
  simp only [Bool.and_eq_true, Bool.not_eq_true', beq_eq_false_iff_ne] at this
  exact this
 rw [right] at hr
 by_cases k1 : k = 1
 ·rw [if_pos k1, atomR] at hr
  simp only [Bool.and_eq_true, decide_eq_true_eq] at hr
  exact .inl ⟨k1, hr.2.1, hr.2.2.1⟩
 ·rw [if_neg k1, Bool.and_eq_true] at hr
  obtain ⟨_, hr⟩ := hr
  rw [Bool.and_eq_true] at hr
  obtain ⟨hm, hR⟩ := hr
  rw [manyR] at hm
  by_cases k0 : k = 0
  ·rw [if_pos k0] at hm
   exact .inr (.inl ⟨k0, List.eq_nil_of_length_eq_zero (by simpa using hm)⟩)
  ·rw [if_neg k0] at hm
   by_cases k2 : k = 2
   ·rw [if_pos k2] at hm
    have hm : o.length = 1 := by simpa using hm
    match o, hm with
    | [x], _ =>
      obtain ⟨h1, h2⟩ := hall hR x (List.mem_cons_self ..)
      exact .inr (.inr (.inl ⟨k2, x, rfl, h1, h2⟩))
   ·rw [if_neg k2] at hm
    by_cases k3 : k = 3 ∨ k = 4
    ·rw [if_pos k3] at hm
     exact .inr (.inr (.inr ⟨k3, by simpa using hm, hall hR⟩))
    ·rw [if_neg k3] at hm; exact absurd hm (by decide)
set_option maxHeartbeats 4000000 in
theorem text_real (f : Int) (hf : f = 6) (RA OA : Option Addr) (rc oc : Nat) (r : List (Int × Int)) (l h : Nat) (o : List ExprP) (w : World) (hl64 : l < 18446744073709551616) (hh64 : h < 18446744073709551616) (hE : Ex w (.mk 1 f r l h o) RA OA) :
  Calls Tryz.prog 68 #[.agg #[.int .i64 1, .int .i64 f, .slice RA r.length rc, .float .f64 l, .float .f64 h, .slice OA o.length oc]] w fun e' w' => e' = .returned (.string (st (txt (.mk 1 f r l h o)))) ∧ Keep w w' := by
 subst hf
 obtain ⟨tl, htl⟩ : ∃ t, t = tL l := ⟨_, rfl⟩
 obtain ⟨th, hth⟩ : ∃ t, t = tL h := ⟨_, rfl⟩
 have n1 : tl.length <= 17 := by rw [htl]; exact Re.tL_len l
 have n2 : th.length <= 17 := by rw [hth]; exact Re.tL_len h
 have CL := Lib.hid (show ∀ W, Calls Tryz.prog 93 #[.float .f64 l] W fun e w' => e = .returned (.tuple #[.string (st tl), .bool (tOk l)]) ∧ Keep W w' from fun W => by rw [htl]; exact Ref3.text_any l hl64 W)
 have CH := Lib.hid (show ∀ W, Calls Tryz.prog 93 #[.float .f64 h] W fun e w' => e = .returned (.tuple #[.string (st th), .bool (tOk h)]) ∧ Keep W w' from fun W => by rw [hth]; exact Ref3.text_any h hh64 W)
 obtain ⟨q1, hq1⟩ : ∃ q, q = wReal ++ tl := ⟨_, rfl⟩
 obtain ⟨q2, hq2⟩ : ∃ q, q = q1 ++ wTo := ⟨_, rfl⟩
 obtain ⟨q3, hq3⟩ : ∃ q, q = q2 ++ th := ⟨_, rfl⟩
 have m1 : q1.length <= 22 := by rw [hq1, List.length_append]; have : wReal.length = 5 := rfl; omega
 have m2 : q2.length <= 26 := by rw [hq2, List.length_append]; have : wTo.length = 4 := rfl; omega
 have a1 : ∀ W : World, (Op.stringOp .add ⟨#[114, 101, 97, 108, 32]⟩ (st tl)).run Tryz.prog W = .ok (.string (st q1)) W := by rw [hq1]; exact add_st wReal tl (by have : wReal.length = 5 := rfl; omega)
 have a2 : ∀ W : World, (Op.stringOp .add (st q1) ⟨#[32, 116, 111, 32]⟩).run Tryz.prog W = .ok (.string (st q2)) W := by rw [hq2]; exact add_st q1 wTo (by have : wTo.length = 4 := rfl; omega)
 have a3 : ∀ W : World, (Op.stringOp .add (st q2) (st th)).run Tryz.prog W = .ok (.string (st q3)) W := by rw [hq3]; exact add_st q2 th (by omega)
 have HF := Lib.hid (show txt (.mk 1 6 r l h o) = q3 by rw [txt, if_pos rfl, if_pos rfl, hq3, hq2, hq1, htl, hth]; simp)
 clear hq1 hq2 hq3 htl hth m1 m2 n1 n2 hl64 hh64
 generalize tOk l = bl at *
 generalize tOk h = bh at *
 obtain ⟨X, hX⟩ : ∃ X, X = w.alloc (.cells #[.int .i64 1, .int .i64 6, .slice RA r.length rc, .float .f64 l, .float .f64 h, .slice OA o.length oc] 59) := ⟨_, rfl⟩
 have hkX : Keep w X := by rw [hX]; exact (Keep.refl w).alloc _
 have hltX : w.heap.size < X.heap.size := by rw [hX]; simp
 have hEl : ElemAt X (.mk 1 6 r l h o) RA OA rc oc w.heap.size 0 := by rw [hX]; exact ElemAt.new w (.mk 1 6 r l h o) RA OA rc oc 59
 have HB := Lib.hid (show ∀ W, Keep X W -> W.cell? ⟨w.heap.size, 0, none⟩ = some (.int .i64 1) ∧ W.cell? ⟨w.heap.size, 1, none⟩ = some (.int .i64 6) ∧ W.cell? ⟨w.heap.size, 2, none⟩ = some (.slice RA r.length rc) ∧ W.cell? ⟨w.heap.size, 3, none⟩ = some (.float .f64 l) ∧ W.cell? ⟨w.heap.size, 4, none⟩ = some (.float .f64 h) ∧ W.cell? ⟨w.heap.size, 5, none⟩ = some (.slice OA o.length oc) from fun W hk => hEl.kept hltX hk)
 have hEX := hE.kept hkX
 clear hEl hE hltX
 clear hEX
 go_enter Tryz.func68, Tryz.ntmps68
 go_wp2_with fail
 rw [<- hX]
 clear hX
 refine (CL.out _).mono ?_
 rintro e w1 ⟨rfl, k1⟩
 obtain ⟨b0, b1, b2, b3, b4, b5⟩ := HB.out _ k1
 go_wp2_with fail
 refine (CH.out _).mono ?_
 rintro e w2 ⟨rfl, k2⟩
 go_wp2
 go_ret
 exact ⟨ret_str (by rw [HF.out]), (hkX.trans k1).trans k2⟩
theorem keep_drew' {a b : World} (h : Keep a b) : Keep a b.drew := h.trans ((Quiet.refl b).drew).keep
theorem word_len (f : Int) : (word f).length <= 6 := by
 unfold word
 repeat' split
 all_goals decide
set_option maxHeartbeats 4000000 in
theorem text_word (f : Int) (hf1 : 1 <= f) (hf5 : f <= 5) (RA OA : Option Addr) (rc oc : Nat) (r : List (Int × Int)) (l h : Nat) (o : List ExprP) (w : World) (hrl : r.length <= 1000000) (hE : Ex w (.mk 1 f r l h o) RA OA) :
  Calls Tryz.prog 68 #[.agg #[.int .i64 1, .int .i64 f, .slice RA r.length rc, .float .f64 l, .float .f64 h, .slice OA o.length oc]] w fun e' w' => e' = .returned (.string (st (txt (.mk 1 f r l h o)))) ∧ Keep w w' := by
 obtain ⟨rt, hrt⟩ : ∃ t, t = rng r := ⟨_, rfl⟩
 have n1 : rt.length <= 34000000 := by rw [hrt]; have := rng_len r; omega
 obtain ⟨q1, hq1⟩ : ∃ q, q = word f ++ [32] := ⟨_, rfl⟩
 obtain ⟨q2, hq2⟩ : ∃ q, q = q1 ++ rt := ⟨_, rfl⟩
 have n2 : q1.length <= 10 := by rw [hq1, List.length_append]; have := word_len f; simp; omega
 have a1 : ∀ W : World, (Op.stringOp .add (st (word f)) ⟨#[32]⟩).run Tryz.prog W = .ok (.string (st q1)) W := by rw [hq1]; exact add_st (word f) [32] (by have := word_len f; simp; omega)
 have a2 : ∀ W : World, (Op.stringOp .add (st q1) (st rt)).run Tryz.prog W = .ok (.string (st q2)) W := by rw [hq2]; exact add_st q1 rt (by omega)
 have HT := Lib.hid (show txt (.mk 1 f r l h o) = q2 by rw [txt, if_pos rfl, if_neg (by omega), hq2, hq1, hrt]; simp)
 have CR := Lib.hid (show ∀ W, Keep w W -> Calls Tryz.prog 94 #[.slice RA r.length rc] W fun e w' => e = .returned (.string (st rt)) ∧ Keep W w' from fun W hW => by rw [hrt]; exact ranges_any RA rc r W hrl (hE.1.kept hW))
 have hd6 : (f == 6) = false := by rw [beq_eq_false_iff_ne]; omega
 have hf0 : (0 : Int) <= f := by omega
 have hf6 : f < 6 := by omega
 have hel0 : ∀ (W V : World), (∀ j, V.cell? ⟨W.heap.size, j, none⟩ = (W.alloc (.cells #[.string ⟨#[]⟩, .string ⟨#[99, 108, 105, 101, 110, 116]⟩, .string ⟨#[117, 110, 105, 116]⟩, .string ⟨#[102, 117, 110, 99]⟩, .string ⟨#[97, 100, 100, 114]⟩, .string ⟨#[118, 97, 108, 117, 101]⟩] 9)).cell? ⟨W.heap.size, j, none⟩) -> V.cell? ⟨W.heap.size, f.toNat, none⟩ = some (.string (st (word f))) := fun W V hV => by
  rw [hV, World.cell?_alloc_at (hn := rfl)]
  obtain rfl | rfl | rfl | rfl | rfl : f = 1 ∨ f = 2 ∨ f = 3 ∨ f = 4 ∨ f = 5 := by omega
  all_goals rfl
 have hel1 : ∀ W : World, (W.alloc (.cells #[.string ⟨#[]⟩, .string ⟨#[99, 108, 105, 101, 110, 116]⟩, .string ⟨#[117, 110, 105, 116]⟩, .string ⟨#[102, 117, 110, 99]⟩, .string ⟨#[97, 100, 100, 114]⟩, .string ⟨#[118, 97, 108, 117, 101]⟩] 9)).cell? ⟨W.heap.size, f.toNat, none⟩ = some (.string (st (word f))) := fun W => hel0 W _ fun _ => rfl
 clear hq1 hq2 hrt n1 n2 hf1 hf5
 obtain ⟨wd, hwd⟩ : ∃ t, t = st (word f) := ⟨_, rfl⟩
 rw [<- hwd] at a1 hel0 hel1
 clear hwd
 obtain ⟨X, hX⟩ : ∃ X, X = w.alloc (.cells #[.int .i64 1, .int .i64 f, .slice RA r.length rc, .float .f64 l, .float .f64 h, .slice OA o.length oc] 59) := ⟨_, rfl⟩
 have hkX : Keep w X := by rw [hX]; exact (Keep.refl w).alloc _
 have hltX : w.heap.size < X.heap.size := by rw [hX]; simp
 have hEl : ElemAt X (.mk 1 f r l h o) RA OA rc oc w.heap.size 0 := by rw [hX]; exact ElemAt.new w (.mk 1 f r l h o) RA OA rc oc 59
 have HB := Lib.hid (show ∀ W, Keep X W -> W.cell? ⟨w.heap.size, 0, none⟩ = some (.int .i64 1) ∧ W.cell? ⟨w.heap.size, 1, none⟩ = some (.int .i64 f) ∧ W.cell? ⟨w.heap.size, 2, none⟩ = some (.slice RA r.length rc) ∧ W.cell? ⟨w.heap.size, 3, none⟩ = some (.float .f64 l) ∧ W.cell? ⟨w.heap.size, 4, none⟩ = some (.float .f64 h) ∧ W.cell? ⟨w.heap.size, 5, none⟩ = some (.slice OA o.length oc) from fun W hk => hEl.kept hltX hk)
 have hEX := hE.kept hkX
 clear hEl hE hltX
 have hltX : w.heap.size < X.heap.size := by rw [hX]; simp
 have hneX : w.heap.size ≠ X.heap.size := by omega
 have bA : ∀ O, (X.alloc O).cell? ⟨w.heap.size, 1, none⟩ = some (.int .i64 f) ∧ (X.alloc O).cell? ⟨w.heap.size, 2, none⟩ = some (.slice RA r.length rc) := fun O => ⟨(HB.out _ ((Keep.refl X).alloc O)).2.1, (HB.out _ ((Keep.refl X).alloc O)).2.2.1⟩
 have bA1 := fun O => (bA O).1
 have bA2 := fun O => (bA O).2
 clear hEX bA hltX
 obtain ⟨b0, b1, b2, b3, b4, b5⟩ := HB.out _ (Keep.refl X)
 go_enter Tryz.func68, Tryz.ntmps68
 go_wp2
 rw [<- hX]
 clear hX
 have kX := Keep.refl X
 have kD := keep_drew' (Keep.refl X)
 go_region_with (first
   | (go_at_call 94; refine (CR.out _ (hkX.trans (keep_drew' (kX.alloc _)))).mono ?_; rintro e w5 ⟨rfl, hb5⟩; have hw : Keep X w5 := Keep.trans (keep_drew' (kX.alloc _)) hb5; obtain ⟨g0, g1, g2, g3, g4, g5⟩ := HB.out _ hw; clear g0 g3 g4 g5; have hel := hel0 X w5 (fun j => Below.cell hb5 (by simp)))
   | (go_at_call 94; refine (CR.out _ (hkX.trans (kD.alloc _))).mono ?_; rintro e w5 ⟨rfl, hb5⟩; have hw : Keep X w5 := Keep.trans (kD.alloc _) hb5; obtain ⟨g0, g1, g2, g3, g4, g5⟩ := HB.out _ hw; clear g0 g3 g4 g5; have hel := hel0 X w5 (fun j => Below.cell hb5 (by simp)))
   | (go_at_call 94; refine (CR.out _ (hkX.trans kX)).mono ?_; rintro e w5 ⟨rfl, hb5⟩; have hw : Keep X w5 := Keep.trans kX hb5; obtain ⟨g0, g1, g2, g3, g4, g5⟩ := HB.out _ hw; clear g0 g3 g4 g5; have bB1 := fun O => (HB.out _ (hw.alloc O)).2.1; have bB2 := fun O => (HB.out _ (hw.alloc O)).2.2.1)
   | (go_at_call 94; refine (CR.out _ (hkX.trans kD)).mono ?_; rintro e w5 ⟨rfl, hb5⟩; have hw : Keep X w5 := Keep.trans kD hb5; obtain ⟨g0, g1, g2, g3, g4, g5⟩ := HB.out _ hw; clear g0 g3 g4 g5; have bB1 := fun O => (HB.out _ (hw.alloc O)).2.1; have bB2 := fun O => (HB.out _ (hw.alloc O)).2.2.1)
   | fail)
 all_goals (
  go_simp
  go_wp2
  go_ret
  exact ⟨ret_str (by rw [HT.out]), hkX.trans (by first | exact hw | exact hw.alloc _)⟩)
end Go.Proofs.YtaciogcpghbhjaaGreat.Tr
namespace Go.Proofs.YtaciogcpghbhjaaGreat.Tr
set_option linter.unusedVariables false
open Go.ChangeShapes Go.WideShapes Go.ChangeAt Go.RowKit
open Go.Proofs.YtaciogcpghbhjaaGreat.Fp (sameB)
open Go.Proofs.YtaciogcpghbhjaaGreat.Re (tOk tL)
theorem store_float (P : Program) (w : World) (a : Addr) (k : FloatKind) (b : Nat) (m : Mode) : (store a (.float k b) m).run P w = stored P w a (.float k b) m := run_store P w a _ m rfl
theorem txtL_one (k : Int) (x : ExprP) : txtL k [x] = brack (txt x) (must k (kind x)) := by rw [txtL]; simp
theorem elem_len (k : Int) (l : List ExprP) (j : Nat) (h : j < l.length) : (txt (l.getD j zero)).length <= (txtL k l).length ∧ (txtL k (l.take j)).length + (if j = 0 then 0 else (sep k).length) + (brack (txt (l.getD j zero)) (must k (kind (l.getD j zero)))).length <= (txtL k l).length := by
 have h1 := txtL_take k l (j + 1)
 have h2 := brack_len (txt (l.getD j zero)) (must k (kind (l.getD j zero)))
 rw [take_snoc zero l j h, txtL_snoc, List.length_take, Nat.min_eq_left (Nat.le_of_lt h)] at h1
 by_cases hj : j = 0
 ·rw [if_pos hj] at h1 ⊢
  subst hj
  rw [List.take_zero, txtL]
  simp only [List.length_nil]
  omega
 ·rw [if_neg hj] at h1 ⊢
  rw [List.length_append, List.length_append] at h1
  omega
set_option maxHeartbeats 4000000 in
theorem text_any : ∀ (N : Nat) (e : ExprP) (RA OA : Option Addr) (rc oc : Nat) (w : World), dp e <= N -> fits e -> right e = true -> (txt e).length <= 1000000000 -> Ex w e RA OA ->
  Calls Tryz.prog 68 #[.agg #[.int .i64 (kind e), .int .i64 (field e), .slice RA (rs e).length rc, .float .f64 (lo e), .float .f64 (hi e), .slice OA (of e).length oc]] w fun e' w' => e' = .returned (.string (st (txt e))) ∧ Keep w w' := by
 intro N
 induction N with
 | zero => intro e RA OA rc oc w hN; exact absurd (dp_pos e) (by omega)
 | succ N ih =>
   intro e RA OA rc oc w hN hfit hri0 hbd hE
   have hsub := fun x (hx : x ∈ of e) => dp_of hx
   obtain ⟨k, f, r, l, h, o⟩ := e
   rw [fits] at hfit
   obtain ⟨⟨hrl, hol⟩, ⟨hl64, hh64⟩, hfo⟩ := hfit
   replace hfo := fitsL_mem hfo
   simp only [kind, field, rs, lo, hi, of] at hsub ⊢
   have hsf := store_float Tryz.prog
   rcases right_cases hri0 with ⟨rfl, hf1, hf6⟩ | ⟨rfl, rfl⟩ | ⟨rfl, x, rfl, hxk, hri⟩ | ⟨hk34, h2o, hall⟩
   ·by_cases h6 : f = 6
    ·exact text_real f h6 RA OA rc oc r l h o w hl64 hh64 hE
    ·exact text_word f hf1 (by omega) RA OA rc oc r l h o w hrl hE
   ·have HT := Lib.hid (show txt (.mk 0 f r l h []) = [] by rw [txt, if_neg (by decide), if_neg (by decide), txtL])
    obtain ⟨k, hk⟩ : ∃ k : Int, k = 0 := ⟨_, rfl⟩
    clear ih hsub hfo hE hbd hri0
    go_enter Tryz.func68, Tryz.ntmps68
    go_wp2
    go_loopw [8, 9] (fun sv iv wr => sv = .string (st []) ∧ iv = .int .i64 0 ∧ Keep (w.alloc (.cells #[.int .i64 0, .int .i64 f, .slice RA r.length rc, .float .f64 l, .float .f64 h, .slice OA 0 oc] 59)) wr) (fun _ _ _ => 0)
    case atStart => exact ⟨rfl, rfl, Keep.refl _⟩
    case round =>
     obtain ⟨rfl, rfl, hk⟩ := hrel
     have b5 : wr.cell? ⟨w.heap.size, 5, none⟩ = some (.slice OA 0 oc) := (Below.cell hk (by simp)).trans (by rw [World.cell?_alloc_at (hn := rfl)]; rfl)
     go_wp2
     go_ret
     exact ⟨ret_str (by rw [HT.out]), ((Keep.refl w).alloc _).trans hk⟩
   ·have HT0 := Lib.hid (show txt (.mk 2 f r l h [x]) = wNot ++ brack (txt x) (must 2 (kind x)) by rw [txt, if_neg (by decide), if_pos rfl, txtL_one])
    have hdp := hsub x (List.mem_cons_self ..)
    have hfi := hfo x (List.mem_cons_self ..)
    rw [HT0.out] at hbd
    obtain ⟨tx, htx⟩ : ∃ t, t = txt x := ⟨_, rfl⟩
    rw [<- htx] at hbd HT0
    rw [List.length_append] at hbd
    have hb0 := (brack_len tx (must 2 (kind x))).1
    have hO : Exs w OA [x] := hE.exs
    obtain ⟨b, off, rfl, hbb⟩ := hO.addr (by simp)
    obtain ⟨_, RX, OX, rx, ox, hx6, hx⟩ := hO.elem 0 (by simp)
    rw [List.getD_cons_zero] at hx6 hx
    obtain ⟨x0, x1, x2, x3, x4, x5⟩ := hx6
    simp only [Nat.zero_mul, Nat.add_zero] at x0 x1 x2 x3 x4 x5
    have hneb : b ≠ w.heap.size := by omega
    simp only [List.length_singleton] at hE ⊢
    obtain ⟨X, hX⟩ : ∃ X, X = w.alloc (.cells #[.int .i64 2, .int .i64 f, .slice RA r.length rc, .float .f64 l, .float .f64 h, .slice (some ⟨b, off, none⟩) 1 oc] 59) := ⟨_, rfl⟩
    have hkX : Keep w X := by rw [hX]; exact (Keep.refl w).alloc _
    have hltX : w.heap.size < X.heap.size := by rw [hX]; simp
    have hEl : ElemAt X (.mk 2 f r l h [x]) RA (some ⟨b, off, none⟩) rc oc w.heap.size 0 := by rw [hX]; exact ElemAt.new w (.mk 2 f r l h [x]) RA (some ⟨b, off, none⟩) rc oc 59
    have HB := Lib.hid (show ∀ W, Keep X W -> W.cell? ⟨w.heap.size, 0, none⟩ = some (.int .i64 2) ∧ W.cell? ⟨w.heap.size, 1, none⟩ = some (.int .i64 f) ∧ W.cell? ⟨w.heap.size, 2, none⟩ = some (.slice RA r.length rc) ∧ W.cell? ⟨w.heap.size, 3, none⟩ = some (.float .f64 l) ∧ W.cell? ⟨w.heap.size, 4, none⟩ = some (.float .f64 h) ∧ W.cell? ⟨w.heap.size, 5, none⟩ = some (.slice (some ⟨b, off, none⟩) 1 oc) from fun W hk => hEl.kept hltX hk)
    have hEX := hE.kept hkX
    clear hEl hE hltX
    clear hEX hsub hfo hri0 hO
    replace hx := hx.kept hkX
    obtain ⟨Y, hY⟩ : ∃ Y, Y = X.alloc (.cells #[.int .i64 (kind x), .int .i64 (field x), .slice RX (rs x).length rx, .float .f64 (lo x), .float .f64 (hi x), .slice OX (of x).length ox] 59) := ⟨_, rfl⟩
    have hltY : X.heap.size < Y.heap.size := by rw [hY]; simp
    have hkY : Keep X Y := by rw [hY]; exact (Keep.refl _).alloc _
    have hEY : ElemAt Y x RX OX rx ox X.heap.size 0 := by rw [hY]; exact ElemAt.new X x RX OX rx ox 59
    have hXs : X.heap.size = w.heap.size + 1 := by rw [hX]; simp
    rw [hXs] at hEY hltY
    have hXY : Ex Y x RX OX := hx.kept hkY
    have hX6 := fun p : KeptOf Y => hEY.kept hltY p.h
    have q0 := fun p => (hX6 p).1
    have q1 := fun p => (hX6 p).2.1
    have q2 := fun p => (hX6 p).2.2.1
    have q3 := fun p => (hX6 p).2.2.2.1
    have q4 := fun p => (hX6 p).2.2.2.2.1
    have q5 := fun p => (hX6 p).2.2.2.2.2
    have s0 := fun p : KeptOf Y => (HB.out _ ((Keep.refl X).trans (hkY.trans p.h))).1
    have hC : ∀ p : KeptOf Y, Calls Tryz.prog 68 #[.agg #[.int .i64 (kind x), .int .i64 (field x), .slice RX (rs x).length rx, .float .f64 (lo x), .float .f64 (hi x), .slice OX (of x).length ox]] p.w fun e w' => e = .returned (.string (st tx)) ∧ Keep p.w w' := fun p => by rw [htx]; exact ih x RX OX rx ox p.w (by omega) hfi hri (by rw [<- htx]; omega) (hXY.kept p.h)
    simp only [Nat.zero_add] at q0 q1 q2 q3 q4 q5
    obtain ⟨b0, b1, b2, b3, b4, b5⟩ := HB.out _ (Keep.refl X)
    by_cases kx3 : kind x = 3
    ·have d3 : (kind x == 3) = true := by simpa using kx3
     have d4 : (kind x == 4) = false := by rw [beq_eq_false_iff_ne]; omega
     have hmu : must 2 (kind x) = true := by unfold must; rw [kx3]; rfl
     have hD : ∀ p : KeptOf Y, Calls Tryz.prog 95 #[.string (st tx), .bool true] p.w fun e w' => e = .returned (.string (st (brack tx true))) ∧ Keep p.w w' := fun p => (bracket_any tx true p.w (by omega)).mono fun e w' ⟨h1, h2⟩ => ⟨h1, h2 ▸ Keep.refl _⟩
     obtain ⟨bt, hbt⟩ : ∃ t, t = brack tx true := ⟨_, rfl⟩
     have hbl := brack_len tx true
     rw [<- hbt] at hD hbl
     obtain ⟨q, hq⟩ : ∃ q, q = wNot ++ bt := ⟨_, rfl⟩
     have a1 : ∀ W : World, (Op.stringOp .add ⟨#[110, 111, 116, 32]⟩ (st bt)).run Tryz.prog W = .ok (.string (st q)) W := by rw [hq]; exact add_st wNot bt (by have : wNot.length = 4 := rfl; omega)
     have HT := Lib.hid (show txt (.mk 2 f r l h [x]) = q by rw [HT0.out, hmu, <- hbt, hq])
     clear HT0 hq hbt hbl hfi hri ih htx hdp hmu kx3  hbd hb0
     go_enter Tryz.func68, Tryz.ntmps68
     go_wp2
     rw [<- hX]
     clear hX x0 x1 x2 x3 x4 x5
     rw [<- hY]
     clear hY b0 b1 b2 b3 b4 b5
     refine wp_region_kept (by kernel_rfl) (by kernel_rfl) ?_
     repeat (go_big_quiet_step (first | with_reducible exact KeptOf.of (hC _) | with_reducible exact KeptOf.of (hD _)))
     refine Go.wpQuiet_nil ?_
     intro _ hw'
     obtain ⟨⟨V, hw⟩, hw''⟩ := hw'
     subst hw''
     go_wp2
     go_ret
     exact ⟨ret_str (by rw [HT.out]), (hkX.trans hkY).trans hw⟩
    ·have d3 : (kind x == 3) = false := by simpa using kx3
     by_cases kx4 : kind x = 4
     ·have d4 : (kind x == 4) = true := by simpa using kx4
      have hmu : must 2 (kind x) = true := by unfold must; rw [kx4]; rfl
      have hD : ∀ p : KeptOf Y, Calls Tryz.prog 95 #[.string (st tx), .bool true] p.w fun e w' => e = .returned (.string (st (brack tx true))) ∧ Keep p.w w' := fun p => (bracket_any tx true p.w (by omega)).mono fun e w' ⟨h1, h2⟩ => ⟨h1, h2 ▸ Keep.refl _⟩
      obtain ⟨bt, hbt⟩ : ∃ t, t = brack tx true := ⟨_, rfl⟩
      have hbl := brack_len tx true
      rw [<- hbt] at hD hbl
      obtain ⟨q, hq⟩ : ∃ q, q = wNot ++ bt := ⟨_, rfl⟩
      have a1 : ∀ W : World, (Op.stringOp .add ⟨#[110, 111, 116, 32]⟩ (st bt)).run Tryz.prog W = .ok (.string (st q)) W := by rw [hq]; exact add_st wNot bt (by have : wNot.length = 4 := rfl; omega)
      have HT := Lib.hid (show txt (.mk 2 f r l h [x]) = q by rw [HT0.out, hmu, <- hbt, hq])
      clear HT0 hq hbt hbl hfi hri ih htx hdp hmu kx3 kx4 hbd hb0
      go_enter Tryz.func68, Tryz.ntmps68
      go_wp2
      rw [<- hX]
      clear hX x0 x1 x2 x3 x4 x5
      rw [<- hY]
      clear hY b0 b1 b2 b3 b4 b5
      refine wp_region_kept (by kernel_rfl) (by kernel_rfl) ?_
      repeat (go_big_quiet_step (first | with_reducible exact KeptOf.of (hC _) | with_reducible exact KeptOf.of (hD _)))
      refine Go.wpQuiet_nil ?_
      intro _ hw'
      obtain ⟨⟨V, hw⟩, hw''⟩ := hw'
      subst hw''
      go_wp2
      go_ret
      exact ⟨ret_str (by rw [HT.out]), (hkX.trans hkY).trans hw⟩
     ·have d4 : (kind x == 4) = false := by simpa using kx4
      have hmu : must 2 (kind x) = false := by unfold must; rw [d3, d4]; rfl
      have hD : ∀ p : KeptOf Y, Calls Tryz.prog 95 #[.string (st tx), .bool false] p.w fun e w' => e = .returned (.string (st (brack tx false))) ∧ Keep p.w w' := fun p => (bracket_any tx false p.w (by omega)).mono fun e w' ⟨h1, h2⟩ => ⟨h1, h2 ▸ Keep.refl _⟩
      obtain ⟨bt, hbt⟩ : ∃ t, t = brack tx false := ⟨_, rfl⟩
      have hbl := brack_len tx false
      rw [<- hbt] at hD hbl
      obtain ⟨q, hq⟩ : ∃ q, q = wNot ++ bt := ⟨_, rfl⟩
      have a1 : ∀ W : World, (Op.stringOp .add ⟨#[110, 111, 116, 32]⟩ (st bt)).run Tryz.prog W = .ok (.string (st q)) W := by rw [hq]; exact add_st wNot bt (by have : wNot.length = 4 := rfl; omega)
      have HT := Lib.hid (show txt (.mk 2 f r l h [x]) = q by rw [HT0.out, hmu, <- hbt, hq])
      clear HT0 hq hbt hbl hfi hri ih htx hdp hmu kx3 kx4 hbd hb0
      go_enter Tryz.func68, Tryz.ntmps68
      go_wp2
      rw [<- hX]
      clear hX x0 x1 x2 x3 x4 x5
      rw [<- hY]
      clear hY b0 b1 b2 b3 b4 b5
      refine wp_region_kept (by kernel_rfl) (by kernel_rfl) ?_
      repeat (go_big_quiet_step (first | with_reducible exact KeptOf.of (hC _) | with_reducible exact KeptOf.of (hD _)))
      refine Go.wpQuiet_nil ?_
      intro _ hw'
      obtain ⟨⟨V, hw⟩, hw''⟩ := hw'
      subst hw''
      go_wp2
      go_ret
      exact ⟨ret_str (by rw [HT.out]), (hkX.trans hkY).trans hw⟩
   ·rcases hk34 with rfl | rfl
    ·have HT := Lib.hid (show txt (.mk 3 f r l h o) = txtL 3 o by rw [txt, if_neg (by decide), if_neg (by decide)])
     rw [HT.out] at hbd
     obtain ⟨X, hX⟩ : ∃ X, X = w.alloc (.cells #[.int .i64 3, .int .i64 f, .slice RA r.length rc, .float .f64 l, .float .f64 h, .slice OA o.length oc] 59) := ⟨_, rfl⟩
     have hkX : Keep w X := by rw [hX]; exact (Keep.refl w).alloc _
     have hltX : w.heap.size < X.heap.size := by rw [hX]; simp
     have hEl : ElemAt X (.mk 3 f r l h o) RA OA rc oc w.heap.size 0 := by rw [hX]; exact ElemAt.new w (.mk 3 f r l h o) RA OA rc oc 59
     have HB := Lib.hid (show ∀ W, Keep X W -> W.cell? ⟨w.heap.size, 0, none⟩ = some (.int .i64 3) ∧ W.cell? ⟨w.heap.size, 1, none⟩ = some (.int .i64 f) ∧ W.cell? ⟨w.heap.size, 2, none⟩ = some (.slice RA r.length rc) ∧ W.cell? ⟨w.heap.size, 3, none⟩ = some (.float .f64 l) ∧ W.cell? ⟨w.heap.size, 4, none⟩ = some (.float .f64 h) ∧ W.cell? ⟨w.heap.size, 5, none⟩ = some (.slice OA o.length oc) from fun W hk => hEl.kept hltX hk)
     have hEX := hE.kept hkX
     clear hEl hE hltX
     have hO : Exs X OA o := hEX.exs
     have hltX : w.heap.size < X.heap.size := by rw [hX]; simp
     clear hEX hri0
     go_enter Tryz.func68, Tryz.ntmps68
     go_wp2
     rw [<- hX]
     clear hX
     go_loopw [8, 9, 10] (fun sv iv _ wr => ∃ j : Nat, j <= o.length ∧ iv = .int .i64 j ∧ sv = .string (st (txtL 3 (o.take j))) ∧ Keep X wr) (fun _ iv _ _ => o.length - (intOf iv).toNat)
     case atStart => exact ⟨0, Nat.zero_le _, rfl, by rw [List.take_zero, txtL]; rfl, Keep.refl _⟩
     case round =>
      obtain ⟨j, hj, rfl, rfl, hk⟩ := hrel
      obtain ⟨b0, b1, b2, b3, b4, b5⟩ := HB.out _ hk
      by_cases hlt : j < o.length
      ·have hi1 : (j : Int) < o.length := by omega
       have hj0 : (0 : Int) <= j := by omega
       have hneX : w.heap.size ≠ wr.heap.size := by have := hk.size; omega
       have bA0 := fun O => (HB.out _ (hk.alloc O)).1
       have bA5 := fun O => (HB.out _ (hk.alloc O)).2.2.2.2.2
       have hOw := hO.kept hk
       obtain ⟨b, off, rfl, hbb⟩ := hOw.addr (by omega)
       obtain ⟨_, RX, OX, rx, ox, hx6, hx⟩ := hOw.elem j hlt
       have hmem := getD_mem zero o j hlt
       have hdp := hsub _ hmem
       have hfi := hfo _ hmem
       obtain ⟨_, hri⟩ := hall _ hmem
       obtain ⟨hl1, hpl⟩ := elem_len 3 o j hlt
       have hsn := txtL_snoc 3 (o.take j) (o.getD j zero)
       rw [<- take_snoc zero o j hlt, List.length_take, Nat.min_eq_left hj] at hsn
       have HSN := Lib.hid hsn
       have hp0 : j = 0 -> txtL 3 (o.take j) = [] := fun h => by subst h; rw [List.take_zero, txtL]
       clear hsn hmem hsub hfo hall hOw
       generalize o.getD j zero = x at *
       generalize txtL 3 (o.take j) = p at *
       obtain ⟨tx, htx⟩ : ∃ t, t = txt x := ⟨_, rfl⟩
       rw [<- htx] at hl1 hpl HSN
       have hb0 := (brack_len tx (must 3 (kind x))).1
       obtain ⟨x0, x1, x2, x3, x4, x5⟩ := hx6
       obtain ⟨Y, hY⟩ : ∃ Y, Y = wr.alloc (.cells #[.int .i64 (kind x), .int .i64 (field x), .slice RX (rs x).length rx, .float .f64 (lo x), .float .f64 (hi x), .slice OX (of x).length ox] 59) := ⟨_, rfl⟩
       have hltY : wr.heap.size < Y.heap.size := by rw [hY]; simp
       have hkY : Keep wr Y := by rw [hY]; exact (Keep.refl _).alloc _
       have hEY : ElemAt Y x RX OX rx ox wr.heap.size 0 := by rw [hY]; exact ElemAt.new wr x RX OX rx ox 59
       have hXY : Ex Y x RX OX := hx.kept hkY
       have hX6 := fun p : KeptOf Y => hEY.kept hltY p.h
       have q0 := fun p => (hX6 p).1
       have q1 := fun p => (hX6 p).2.1
       have q2 := fun p => (hX6 p).2.2.1
       have q3 := fun p => (hX6 p).2.2.2.1
       have q4 := fun p => (hX6 p).2.2.2.2.1
       have q5 := fun p => (hX6 p).2.2.2.2.2
       have s0 := fun p : KeptOf Y => (HB.out _ (hk.trans (hkY.trans p.h))).1
       have hC : ∀ p : KeptOf Y, Calls Tryz.prog 68 #[.agg #[.int .i64 (kind x), .int .i64 (field x), .slice RX (rs x).length rx, .float .f64 (lo x), .float .f64 (hi x), .slice OX (of x).length ox]] p.w fun e w' => e = .returned (.string (st tx)) ∧ Keep p.w w' := fun p => by rw [htx]; exact ih x RX OX rx ox p.w (by omega) hfi hri (by rw [<- htx]; omega) (hXY.kept p.h)
       simp only [Nat.zero_add] at q0 q1 q2 q3 q4 q5
       by_cases hjz : j = 0
       ·have hpz : p = [] := hp0 hjz
        clear hp0
        have dj : decide (0 < j) = false := by simpa using hjz
        have dj' : decide ((0 : Int) < (j : Int)) = false := by simp; omega
        by_cases kx3 : kind x = 3
        ·have d3 : (kind x == 3) = true := by simpa using kx3
         have d4 : (kind x == 4) = false := by rw [beq_eq_false_iff_ne]; omega
         have hmu : must 3 (kind x) = true := by unfold must; rw [kx3]; rfl
         have hD : ∀ p : KeptOf Y, Calls Tryz.prog 95 #[.string (st tx), .bool true] p.w fun e w' => e = .returned (.string (st (brack tx true))) ∧ Keep p.w w' := fun p => (bracket_any tx true p.w (by omega)).mono fun e w' ⟨h1, h2⟩ => ⟨h1, h2 ▸ Keep.refl _⟩
         obtain ⟨bt, hbt⟩ : ∃ t, t = brack tx true := ⟨_, rfl⟩
         have hbl := brack_len tx true
         rw [<- hbt] at hD hbl
         obtain ⟨s2, hs2⟩ : ∃ q, q = p ++ bt := ⟨_, rfl⟩
         have a2 : ∀ W : World, (Op.stringOp .add (st p) (st bt)).run Tryz.prog W = .ok (.string (st s2)) W := by rw [hs2]; exact add_st p bt (by omega)
         have HF := Lib.hid (show txtL 3 (o.take (j + 1)) = s2 by rw [HSN.out, hmu, <- hbt, hs2, if_pos hjz, hpz]; rfl)
         clear HSN hs2 hbt hbl hfi hri ih htx hdp hmu kx3  hjz hpz hpl
         go_wp2
         rw [<- hY]
         clear hY b0 b1 b2 b3 b4 b5 x0 x1 x2 x3 x4 x5
         refine wp_region_kept (by kernel_rfl) (by kernel_rfl) ?_
         repeat (go_big_quiet_step (first | with_reducible exact KeptOf.of (hC _) | with_reducible exact KeptOf.of (hD _)))
         refine Go.wpQuiet_nil ?_
         intro _ hw'
         obtain ⟨⟨V, hw⟩, hw''⟩ := hw'
         subst hw''
         go_wp2
         refine ⟨⟨j + 1, by omega, by go_num, by rw [HF.out], (hk.trans hkY).trans hw⟩, by simp [intOf]; omega⟩
        ·have d3 : (kind x == 3) = false := by simpa using kx3
         by_cases kx4 : kind x = 4
         ·have d4 : (kind x == 4) = true := by simpa using kx4
          have hmu : must 3 (kind x) = true := by unfold must; rw [kx4]; rfl
          have hD : ∀ p : KeptOf Y, Calls Tryz.prog 95 #[.string (st tx), .bool true] p.w fun e w' => e = .returned (.string (st (brack tx true))) ∧ Keep p.w w' := fun p => (bracket_any tx true p.w (by omega)).mono fun e w' ⟨h1, h2⟩ => ⟨h1, h2 ▸ Keep.refl _⟩
          obtain ⟨bt, hbt⟩ : ∃ t, t = brack tx true := ⟨_, rfl⟩
          have hbl := brack_len tx true
          rw [<- hbt] at hD hbl
          obtain ⟨s2, hs2⟩ : ∃ q, q = p ++ bt := ⟨_, rfl⟩
          have a2 : ∀ W : World, (Op.stringOp .add (st p) (st bt)).run Tryz.prog W = .ok (.string (st s2)) W := by rw [hs2]; exact add_st p bt (by omega)
          have HF := Lib.hid (show txtL 3 (o.take (j + 1)) = s2 by rw [HSN.out, hmu, <- hbt, hs2, if_pos hjz, hpz]; rfl)
          clear HSN hs2 hbt hbl hfi hri ih htx hdp hmu kx3 kx4 hjz hpz hpl
          go_wp2
          rw [<- hY]
          clear hY b0 b1 b2 b3 b4 b5 x0 x1 x2 x3 x4 x5
          refine wp_region_kept (by kernel_rfl) (by kernel_rfl) ?_
          repeat (go_big_quiet_step (first | with_reducible exact KeptOf.of (hC _) | with_reducible exact KeptOf.of (hD _)))
          refine Go.wpQuiet_nil ?_
          intro _ hw'
          obtain ⟨⟨V, hw⟩, hw''⟩ := hw'
          subst hw''
          go_wp2
          refine ⟨⟨j + 1, by omega, by go_num, by rw [HF.out], (hk.trans hkY).trans hw⟩, by simp [intOf]; omega⟩
         ·have d4 : (kind x == 4) = false := by simpa using kx4
          have hmu : must 3 (kind x) = false := by unfold must; rw [d3, d4]; rfl
          have hD : ∀ p : KeptOf Y, Calls Tryz.prog 95 #[.string (st tx), .bool false] p.w fun e w' => e = .returned (.string (st (brack tx false))) ∧ Keep p.w w' := fun p => (bracket_any tx false p.w (by omega)).mono fun e w' ⟨h1, h2⟩ => ⟨h1, h2 ▸ Keep.refl _⟩
          obtain ⟨bt, hbt⟩ : ∃ t, t = brack tx false := ⟨_, rfl⟩
          have hbl := brack_len tx false
          rw [<- hbt] at hD hbl
          obtain ⟨s2, hs2⟩ : ∃ q, q = p ++ bt := ⟨_, rfl⟩
          have a2 : ∀ W : World, (Op.stringOp .add (st p) (st bt)).run Tryz.prog W = .ok (.string (st s2)) W := by rw [hs2]; exact add_st p bt (by omega)
          have HF := Lib.hid (show txtL 3 (o.take (j + 1)) = s2 by rw [HSN.out, hmu, <- hbt, hs2, if_pos hjz, hpz]; rfl)
          clear HSN hs2 hbt hbl hfi hri ih htx hdp hmu kx3 kx4 hjz hpz hpl
          go_wp2
          rw [<- hY]
          clear hY b0 b1 b2 b3 b4 b5 x0 x1 x2 x3 x4 x5
          refine wp_region_kept (by kernel_rfl) (by kernel_rfl) ?_
          repeat (go_big_quiet_step (first | with_reducible exact KeptOf.of (hC _) | with_reducible exact KeptOf.of (hD _)))
          refine Go.wpQuiet_nil ?_
          intro _ hw'
          obtain ⟨⟨V, hw⟩, hw''⟩ := hw'
          subst hw''
          go_wp2
          refine ⟨⟨j + 1, by omega, by go_num, by rw [HF.out], (hk.trans hkY).trans hw⟩, by simp [intOf]; omega⟩
       ·clear hp0
        have dj : decide (0 < j) = true := by simp; omega
        have dj' : decide ((0 : Int) < (j : Int)) = true := by simp; omega
        obtain ⟨s1, hs1⟩ : ∃ s, s = p ++ wAnd := ⟨_, rfl⟩
        have hs1l : s1.length <= p.length + 5 := by rw [hs1, List.length_append]; have h5 : wAnd.length <= 5 := (by decide); omega
        have a1 : ∀ W : World, (Op.stringOp .add (st p) ⟨#[32, 97, 110, 100, 32]⟩).run Tryz.prog W = .ok (.string (st s1)) W := by rw [hs1]; exact add_st p wAnd (by have h5 : wAnd.length <= 5 := (by decide); omega)
        by_cases kx3 : kind x = 3
        ·have d3 : (kind x == 3) = true := by simpa using kx3
         have d4 : (kind x == 4) = false := by rw [beq_eq_false_iff_ne]; omega
         have hmu : must 3 (kind x) = true := by unfold must; rw [kx3]; rfl
         have hD : ∀ p : KeptOf Y, Calls Tryz.prog 95 #[.string (st tx), .bool true] p.w fun e w' => e = .returned (.string (st (brack tx true))) ∧ Keep p.w w' := fun p => (bracket_any tx true p.w (by omega)).mono fun e w' ⟨h1, h2⟩ => ⟨h1, h2 ▸ Keep.refl _⟩
         obtain ⟨bt, hbt⟩ : ∃ t, t = brack tx true := ⟨_, rfl⟩
         have hbl := brack_len tx true
         rw [<- hbt] at hD hbl
         obtain ⟨s2, hs2⟩ : ∃ q, q = s1 ++ bt := ⟨_, rfl⟩
         have a2 : ∀ W : World, (Op.stringOp .add (st s1) (st bt)).run Tryz.prog W = .ok (.string (st s2)) W := by rw [hs2]; exact add_st s1 bt (by omega)
         have HF := Lib.hid (show txtL 3 (o.take (j + 1)) = s2 by rw [HSN.out, hmu, <- hbt, hs2, if_neg hjz, hs1, List.append_assoc]; rfl)
         clear HSN hs2 hbt hbl hfi hri ih htx hdp hmu kx3  hjz hs1 hs1l hpl
         go_wp2
         rw [<- hY]
         clear hY b0 b1 b2 b3 b4 b5 x0 x1 x2 x3 x4 x5
         refine wp_region_kept (by kernel_rfl) (by kernel_rfl) ?_
         repeat (go_big_quiet_step (first | with_reducible exact KeptOf.of (hC _) | with_reducible exact KeptOf.of (hD _)))
         refine Go.wpQuiet_nil ?_
         intro _ hw'
         obtain ⟨⟨V, hw⟩, hw''⟩ := hw'
         subst hw''
         go_wp2
         refine ⟨⟨j + 1, by omega, by go_num, by rw [HF.out], (hk.trans hkY).trans hw⟩, by simp [intOf]; omega⟩
        ·have d3 : (kind x == 3) = false := by simpa using kx3
         by_cases kx4 : kind x = 4
         ·have d4 : (kind x == 4) = true := by simpa using kx4
          have hmu : must 3 (kind x) = true := by unfold must; rw [kx4]; rfl
          have hD : ∀ p : KeptOf Y, Calls Tryz.prog 95 #[.string (st tx), .bool true] p.w fun e w' => e = .returned (.string (st (brack tx true))) ∧ Keep p.w w' := fun p => (bracket_any tx true p.w (by omega)).mono fun e w' ⟨h1, h2⟩ => ⟨h1, h2 ▸ Keep.refl _⟩
          obtain ⟨bt, hbt⟩ : ∃ t, t = brack tx true := ⟨_, rfl⟩
          have hbl := brack_len tx true
          rw [<- hbt] at hD hbl
          obtain ⟨s2, hs2⟩ : ∃ q, q = s1 ++ bt := ⟨_, rfl⟩
          have a2 : ∀ W : World, (Op.stringOp .add (st s1) (st bt)).run Tryz.prog W = .ok (.string (st s2)) W := by rw [hs2]; exact add_st s1 bt (by omega)
          have HF := Lib.hid (show txtL 3 (o.take (j + 1)) = s2 by rw [HSN.out, hmu, <- hbt, hs2, if_neg hjz, hs1, List.append_assoc]; rfl)
          clear HSN hs2 hbt hbl hfi hri ih htx hdp hmu kx3 kx4 hjz hs1 hs1l hpl
          go_wp2
          rw [<- hY]
          clear hY b0 b1 b2 b3 b4 b5 x0 x1 x2 x3 x4 x5
          refine wp_region_kept (by kernel_rfl) (by kernel_rfl) ?_
          repeat (go_big_quiet_step (first | with_reducible exact KeptOf.of (hC _) | with_reducible exact KeptOf.of (hD _)))
          refine Go.wpQuiet_nil ?_
          intro _ hw'
          obtain ⟨⟨V, hw⟩, hw''⟩ := hw'
          subst hw''
          go_wp2
          refine ⟨⟨j + 1, by omega, by go_num, by rw [HF.out], (hk.trans hkY).trans hw⟩, by simp [intOf]; omega⟩
         ·have d4 : (kind x == 4) = false := by simpa using kx4
          have hmu : must 3 (kind x) = false := by unfold must; rw [d3, d4]; rfl
          have hD : ∀ p : KeptOf Y, Calls Tryz.prog 95 #[.string (st tx), .bool false] p.w fun e w' => e = .returned (.string (st (brack tx false))) ∧ Keep p.w w' := fun p => (bracket_any tx false p.w (by omega)).mono fun e w' ⟨h1, h2⟩ => ⟨h1, h2 ▸ Keep.refl _⟩
          obtain ⟨bt, hbt⟩ : ∃ t, t = brack tx false := ⟨_, rfl⟩
          have hbl := brack_len tx false
          rw [<- hbt] at hD hbl
          obtain ⟨s2, hs2⟩ : ∃ q, q = s1 ++ bt := ⟨_, rfl⟩
          have a2 : ∀ W : World, (Op.stringOp .add (st s1) (st bt)).run Tryz.prog W = .ok (.string (st s2)) W := by rw [hs2]; exact add_st s1 bt (by omega)
          have HF := Lib.hid (show txtL 3 (o.take (j + 1)) = s2 by rw [HSN.out, hmu, <- hbt, hs2, if_neg hjz, hs1, List.append_assoc]; rfl)
          clear HSN hs2 hbt hbl hfi hri ih htx hdp hmu kx3 kx4 hjz hs1 hs1l hpl
          go_wp2
          rw [<- hY]
          clear hY b0 b1 b2 b3 b4 b5 x0 x1 x2 x3 x4 x5
          refine wp_region_kept (by kernel_rfl) (by kernel_rfl) ?_
          repeat (go_big_quiet_step (first | with_reducible exact KeptOf.of (hC _) | with_reducible exact KeptOf.of (hD _)))
          refine Go.wpQuiet_nil ?_
          intro _ hw'
          obtain ⟨⟨V, hw⟩, hw''⟩ := hw'
          subst hw''
          go_wp2
          refine ⟨⟨j + 1, by omega, by go_num, by rw [HF.out], (hk.trans hkY).trans hw⟩, by simp [intOf]; omega⟩
      ·obtain rfl : j = o.length := by omega
       rw [List.take_length]
       go_wp2
       go_ret
       exact ⟨ret_str (by rw [HT.out]), hkX.trans hk⟩
    ·have HT := Lib.hid (show txt (.mk 4 f r l h o) = txtL 4 o by rw [txt, if_neg (by decide), if_neg (by decide)])
     rw [HT.out] at hbd
     obtain ⟨X, hX⟩ : ∃ X, X = w.alloc (.cells #[.int .i64 4, .int .i64 f, .slice RA r.length rc, .float .f64 l, .float .f64 h, .slice OA o.length oc] 59) := ⟨_, rfl⟩
     have hkX : Keep w X := by rw [hX]; exact (Keep.refl w).alloc _
     have hltX : w.heap.size < X.heap.size := by rw [hX]; simp
     have hEl : ElemAt X (.mk 4 f r l h o) RA OA rc oc w.heap.size 0 := by rw [hX]; exact ElemAt.new w (.mk 4 f r l h o) RA OA rc oc 59
     have HB := Lib.hid (show ∀ W, Keep X W -> W.cell? ⟨w.heap.size, 0, none⟩ = some (.int .i64 4) ∧ W.cell? ⟨w.heap.size, 1, none⟩ = some (.int .i64 f) ∧ W.cell? ⟨w.heap.size, 2, none⟩ = some (.slice RA r.length rc) ∧ W.cell? ⟨w.heap.size, 3, none⟩ = some (.float .f64 l) ∧ W.cell? ⟨w.heap.size, 4, none⟩ = some (.float .f64 h) ∧ W.cell? ⟨w.heap.size, 5, none⟩ = some (.slice OA o.length oc) from fun W hk => hEl.kept hltX hk)
     have hEX := hE.kept hkX
     clear hEl hE hltX
     have hO : Exs X OA o := hEX.exs
     have hltX : w.heap.size < X.heap.size := by rw [hX]; simp
     clear hEX hri0
     go_enter Tryz.func68, Tryz.ntmps68
     go_wp2
     rw [<- hX]
     clear hX
     go_loopw [8, 9, 10] (fun sv iv _ wr => ∃ j : Nat, j <= o.length ∧ iv = .int .i64 j ∧ sv = .string (st (txtL 4 (o.take j))) ∧ Keep X wr) (fun _ iv _ _ => o.length - (intOf iv).toNat)
     case atStart => exact ⟨0, Nat.zero_le _, rfl, by rw [List.take_zero, txtL]; rfl, Keep.refl _⟩
     case round =>
      obtain ⟨j, hj, rfl, rfl, hk⟩ := hrel
      obtain ⟨b0, b1, b2, b3, b4, b5⟩ := HB.out _ hk
      by_cases hlt : j < o.length
      ·have hi1 : (j : Int) < o.length := by omega
       have hj0 : (0 : Int) <= j := by omega
       have hneX : w.heap.size ≠ wr.heap.size := by have := hk.size; omega
       have bA0 := fun O => (HB.out _ (hk.alloc O)).1
       have bA5 := fun O => (HB.out _ (hk.alloc O)).2.2.2.2.2
       have hOw := hO.kept hk
       obtain ⟨b, off, rfl, hbb⟩ := hOw.addr (by omega)
       obtain ⟨_, RX, OX, rx, ox, hx6, hx⟩ := hOw.elem j hlt
       have hmem := getD_mem zero o j hlt
       have hdp := hsub _ hmem
       have hfi := hfo _ hmem
       obtain ⟨_, hri⟩ := hall _ hmem
       obtain ⟨hl1, hpl⟩ := elem_len 4 o j hlt
       have hsn := txtL_snoc 4 (o.take j) (o.getD j zero)
       rw [<- take_snoc zero o j hlt, List.length_take, Nat.min_eq_left hj] at hsn
       have HSN := Lib.hid hsn
       have hp0 : j = 0 -> txtL 4 (o.take j) = [] := fun h => by subst h; rw [List.take_zero, txtL]
       clear hsn hmem hsub hfo hall hOw
       generalize o.getD j zero = x at *
       generalize txtL 4 (o.take j) = p at *
       obtain ⟨tx, htx⟩ : ∃ t, t = txt x := ⟨_, rfl⟩
       rw [<- htx] at hl1 hpl HSN
       have hb0 := (brack_len tx (must 4 (kind x))).1
       obtain ⟨x0, x1, x2, x3, x4, x5⟩ := hx6
       obtain ⟨Y, hY⟩ : ∃ Y, Y = wr.alloc (.cells #[.int .i64 (kind x), .int .i64 (field x), .slice RX (rs x).length rx, .float .f64 (lo x), .float .f64 (hi x), .slice OX (of x).length ox] 59) := ⟨_, rfl⟩
       have hltY : wr.heap.size < Y.heap.size := by rw [hY]; simp
       have hkY : Keep wr Y := by rw [hY]; exact (Keep.refl _).alloc _
       have hEY : ElemAt Y x RX OX rx ox wr.heap.size 0 := by rw [hY]; exact ElemAt.new wr x RX OX rx ox 59
       have hXY : Ex Y x RX OX := hx.kept hkY
       have hX6 := fun p : KeptOf Y => hEY.kept hltY p.h
       have q0 := fun p => (hX6 p).1
       have q1 := fun p => (hX6 p).2.1
       have q2 := fun p => (hX6 p).2.2.1
       have q3 := fun p => (hX6 p).2.2.2.1
       have q4 := fun p => (hX6 p).2.2.2.2.1
       have q5 := fun p => (hX6 p).2.2.2.2.2
       have s0 := fun p : KeptOf Y => (HB.out _ (hk.trans (hkY.trans p.h))).1
       have hC : ∀ p : KeptOf Y, Calls Tryz.prog 68 #[.agg #[.int .i64 (kind x), .int .i64 (field x), .slice RX (rs x).length rx, .float .f64 (lo x), .float .f64 (hi x), .slice OX (of x).length ox]] p.w fun e w' => e = .returned (.string (st tx)) ∧ Keep p.w w' := fun p => by rw [htx]; exact ih x RX OX rx ox p.w (by omega) hfi hri (by rw [<- htx]; omega) (hXY.kept p.h)
       simp only [Nat.zero_add] at q0 q1 q2 q3 q4 q5
       by_cases hjz : j = 0
       ·have hpz : p = [] := hp0 hjz
        clear hp0
        have dj : decide (0 < j) = false := by simpa using hjz
        have dj' : decide ((0 : Int) < (j : Int)) = false := by simp; omega
        by_cases kx3 : kind x = 3
        ·have d3 : (kind x == 3) = true := by simpa using kx3
         have d4 : (kind x == 4) = false := by rw [beq_eq_false_iff_ne]; omega
         have hmu : must 4 (kind x) = false := by unfold must; rw [kx3]; rfl
         have hD : ∀ p : KeptOf Y, Calls Tryz.prog 95 #[.string (st tx), .bool false] p.w fun e w' => e = .returned (.string (st (brack tx false))) ∧ Keep p.w w' := fun p => (bracket_any tx false p.w (by omega)).mono fun e w' ⟨h1, h2⟩ => ⟨h1, h2 ▸ Keep.refl _⟩
         obtain ⟨bt, hbt⟩ : ∃ t, t = brack tx false := ⟨_, rfl⟩
         have hbl := brack_len tx false
         rw [<- hbt] at hD hbl
         obtain ⟨s2, hs2⟩ : ∃ q, q = p ++ bt := ⟨_, rfl⟩
         have a2 : ∀ W : World, (Op.stringOp .add (st p) (st bt)).run Tryz.prog W = .ok (.string (st s2)) W := by rw [hs2]; exact add_st p bt (by omega)
         have HF := Lib.hid (show txtL 4 (o.take (j + 1)) = s2 by rw [HSN.out, hmu, <- hbt, hs2, if_pos hjz, hpz]; rfl)
         clear HSN hs2 hbt hbl hfi hri ih htx hdp hmu kx3  hjz hpz hpl
         go_wp2
         rw [<- hY]
         clear hY b0 b1 b2 b3 b4 b5 x0 x1 x2 x3 x4 x5
         refine wp_region_kept (by kernel_rfl) (by kernel_rfl) ?_
         repeat (go_big_quiet_step (first | with_reducible exact KeptOf.of (hC _) | with_reducible exact KeptOf.of (hD _)))
         refine Go.wpQuiet_nil ?_
         intro _ hw'
         obtain ⟨⟨V, hw⟩, hw''⟩ := hw'
         subst hw''
         go_wp2
         refine ⟨⟨j + 1, by omega, by go_num, by rw [HF.out], (hk.trans hkY).trans hw⟩, by simp [intOf]; omega⟩
        ·have d3 : (kind x == 3) = false := by simpa using kx3
         by_cases kx4 : kind x = 4
         ·have d4 : (kind x == 4) = true := by simpa using kx4
          have hmu : must 4 (kind x) = true := by unfold must; rw [kx4]; rfl
          have hD : ∀ p : KeptOf Y, Calls Tryz.prog 95 #[.string (st tx), .bool true] p.w fun e w' => e = .returned (.string (st (brack tx true))) ∧ Keep p.w w' := fun p => (bracket_any tx true p.w (by omega)).mono fun e w' ⟨h1, h2⟩ => ⟨h1, h2 ▸ Keep.refl _⟩
          obtain ⟨bt, hbt⟩ : ∃ t, t = brack tx true := ⟨_, rfl⟩
          have hbl := brack_len tx true
          rw [<- hbt] at hD hbl
          obtain ⟨s2, hs2⟩ : ∃ q, q = p ++ bt := ⟨_, rfl⟩
          have a2 : ∀ W : World, (Op.stringOp .add (st p) (st bt)).run Tryz.prog W = .ok (.string (st s2)) W := by rw [hs2]; exact add_st p bt (by omega)
          have HF := Lib.hid (show txtL 4 (o.take (j + 1)) = s2 by rw [HSN.out, hmu, <- hbt, hs2, if_pos hjz, hpz]; rfl)
          clear HSN hs2 hbt hbl hfi hri ih htx hdp hmu kx3 kx4 hjz hpz hpl
          go_wp2
          rw [<- hY]
          clear hY b0 b1 b2 b3 b4 b5 x0 x1 x2 x3 x4 x5
          refine wp_region_kept (by kernel_rfl) (by kernel_rfl) ?_
          repeat (go_big_quiet_step (first | with_reducible exact KeptOf.of (hC _) | with_reducible exact KeptOf.of (hD _)))
          refine Go.wpQuiet_nil ?_
          intro _ hw'
          obtain ⟨⟨V, hw⟩, hw''⟩ := hw'
          subst hw''
          go_wp2
          refine ⟨⟨j + 1, by omega, by go_num, by rw [HF.out], (hk.trans hkY).trans hw⟩, by simp [intOf]; omega⟩
         ·have d4 : (kind x == 4) = false := by simpa using kx4
          have hmu : must 4 (kind x) = false := by unfold must; rw [d3, d4]; rfl
          have hD : ∀ p : KeptOf Y, Calls Tryz.prog 95 #[.string (st tx), .bool false] p.w fun e w' => e = .returned (.string (st (brack tx false))) ∧ Keep p.w w' := fun p => (bracket_any tx false p.w (by omega)).mono fun e w' ⟨h1, h2⟩ => ⟨h1, h2 ▸ Keep.refl _⟩
          obtain ⟨bt, hbt⟩ : ∃ t, t = brack tx false := ⟨_, rfl⟩
          have hbl := brack_len tx false
          rw [<- hbt] at hD hbl
          obtain ⟨s2, hs2⟩ : ∃ q, q = p ++ bt := ⟨_, rfl⟩
          have a2 : ∀ W : World, (Op.stringOp .add (st p) (st bt)).run Tryz.prog W = .ok (.string (st s2)) W := by rw [hs2]; exact add_st p bt (by omega)
          have HF := Lib.hid (show txtL 4 (o.take (j + 1)) = s2 by rw [HSN.out, hmu, <- hbt, hs2, if_pos hjz, hpz]; rfl)
          clear HSN hs2 hbt hbl hfi hri ih htx hdp hmu kx3 kx4 hjz hpz hpl
          go_wp2
          rw [<- hY]
          clear hY b0 b1 b2 b3 b4 b5 x0 x1 x2 x3 x4 x5
          refine wp_region_kept (by kernel_rfl) (by kernel_rfl) ?_
          repeat (go_big_quiet_step (first | with_reducible exact KeptOf.of (hC _) | with_reducible exact KeptOf.of (hD _)))
          refine Go.wpQuiet_nil ?_
          intro _ hw'
          obtain ⟨⟨V, hw⟩, hw''⟩ := hw'
          subst hw''
          go_wp2
          refine ⟨⟨j + 1, by omega, by go_num, by rw [HF.out], (hk.trans hkY).trans hw⟩, by simp [intOf]; omega⟩
       ·clear hp0
        have dj : decide (0 < j) = true := by simp; omega
        have dj' : decide ((0 : Int) < (j : Int)) = true := by simp; omega
        obtain ⟨s1, hs1⟩ : ∃ s, s = p ++ wOr := ⟨_, rfl⟩
        have hs1l : s1.length <= p.length + 5 := by rw [hs1, List.length_append]; have h5 : wOr.length <= 5 := (by decide); omega
        have a1 : ∀ W : World, (Op.stringOp .add (st p) ⟨#[32, 111, 114, 32]⟩).run Tryz.prog W = .ok (.string (st s1)) W := by rw [hs1]; exact add_st p wOr (by have h5 : wOr.length <= 5 := (by decide); omega)
        by_cases kx3 : kind x = 3
        ·have d3 : (kind x == 3) = true := by simpa using kx3
         have d4 : (kind x == 4) = false := by rw [beq_eq_false_iff_ne]; omega
         have hmu : must 4 (kind x) = false := by unfold must; rw [kx3]; rfl
         have hD : ∀ p : KeptOf Y, Calls Tryz.prog 95 #[.string (st tx), .bool false] p.w fun e w' => e = .returned (.string (st (brack tx false))) ∧ Keep p.w w' := fun p => (bracket_any tx false p.w (by omega)).mono fun e w' ⟨h1, h2⟩ => ⟨h1, h2 ▸ Keep.refl _⟩
         obtain ⟨bt, hbt⟩ : ∃ t, t = brack tx false := ⟨_, rfl⟩
         have hbl := brack_len tx false
         rw [<- hbt] at hD hbl
         obtain ⟨s2, hs2⟩ : ∃ q, q = s1 ++ bt := ⟨_, rfl⟩
         have a2 : ∀ W : World, (Op.stringOp .add (st s1) (st bt)).run Tryz.prog W = .ok (.string (st s2)) W := by rw [hs2]; exact add_st s1 bt (by omega)
         have HF := Lib.hid (show txtL 4 (o.take (j + 1)) = s2 by rw [HSN.out, hmu, <- hbt, hs2, if_neg hjz, hs1, List.append_assoc]; rfl)
         clear HSN hs2 hbt hbl hfi hri ih htx hdp hmu kx3  hjz hs1 hs1l hpl
         go_wp2
         rw [<- hY]
         clear hY b0 b1 b2 b3 b4 b5 x0 x1 x2 x3 x4 x5
         refine wp_region_kept (by kernel_rfl) (by kernel_rfl) ?_
         repeat (go_big_quiet_step (first | with_reducible exact KeptOf.of (hC _) | with_reducible exact KeptOf.of (hD _)))
         refine Go.wpQuiet_nil ?_
         intro _ hw'
         obtain ⟨⟨V, hw⟩, hw''⟩ := hw'
         subst hw''
         go_wp2
         refine ⟨⟨j + 1, by omega, by go_num, by rw [HF.out], (hk.trans hkY).trans hw⟩, by simp [intOf]; omega⟩
        ·have d3 : (kind x == 3) = false := by simpa using kx3
         by_cases kx4 : kind x = 4
         ·have d4 : (kind x == 4) = true := by simpa using kx4
          have hmu : must 4 (kind x) = true := by unfold must; rw [kx4]; rfl
          have hD : ∀ p : KeptOf Y, Calls Tryz.prog 95 #[.string (st tx), .bool true] p.w fun e w' => e = .returned (.string (st (brack tx true))) ∧ Keep p.w w' := fun p => (bracket_any tx true p.w (by omega)).mono fun e w' ⟨h1, h2⟩ => ⟨h1, h2 ▸ Keep.refl _⟩
          obtain ⟨bt, hbt⟩ : ∃ t, t = brack tx true := ⟨_, rfl⟩
          have hbl := brack_len tx true
          rw [<- hbt] at hD hbl
          obtain ⟨s2, hs2⟩ : ∃ q, q = s1 ++ bt := ⟨_, rfl⟩
          have a2 : ∀ W : World, (Op.stringOp .add (st s1) (st bt)).run Tryz.prog W = .ok (.string (st s2)) W := by rw [hs2]; exact add_st s1 bt (by omega)
          have HF := Lib.hid (show txtL 4 (o.take (j + 1)) = s2 by rw [HSN.out, hmu, <- hbt, hs2, if_neg hjz, hs1, List.append_assoc]; rfl)
          clear HSN hs2 hbt hbl hfi hri ih htx hdp hmu kx3 kx4 hjz hs1 hs1l hpl
          go_wp2
          rw [<- hY]
          clear hY b0 b1 b2 b3 b4 b5 x0 x1 x2 x3 x4 x5
          refine wp_region_kept (by kernel_rfl) (by kernel_rfl) ?_
          repeat (go_big_quiet_step (first | with_reducible exact KeptOf.of (hC _) | with_reducible exact KeptOf.of (hD _)))
          refine Go.wpQuiet_nil ?_
          intro _ hw'
          obtain ⟨⟨V, hw⟩, hw''⟩ := hw'
          subst hw''
          go_wp2
          refine ⟨⟨j + 1, by omega, by go_num, by rw [HF.out], (hk.trans hkY).trans hw⟩, by simp [intOf]; omega⟩
         ·have d4 : (kind x == 4) = false := by simpa using kx4
          have hmu : must 4 (kind x) = false := by unfold must; rw [d3, d4]; rfl
          have hD : ∀ p : KeptOf Y, Calls Tryz.prog 95 #[.string (st tx), .bool false] p.w fun e w' => e = .returned (.string (st (brack tx false))) ∧ Keep p.w w' := fun p => (bracket_any tx false p.w (by omega)).mono fun e w' ⟨h1, h2⟩ => ⟨h1, h2 ▸ Keep.refl _⟩
          obtain ⟨bt, hbt⟩ : ∃ t, t = brack tx false := ⟨_, rfl⟩
          have hbl := brack_len tx false
          rw [<- hbt] at hD hbl
          obtain ⟨s2, hs2⟩ : ∃ q, q = s1 ++ bt := ⟨_, rfl⟩
          have a2 : ∀ W : World, (Op.stringOp .add (st s1) (st bt)).run Tryz.prog W = .ok (.string (st s2)) W := by rw [hs2]; exact add_st s1 bt (by omega)
          have HF := Lib.hid (show txtL 4 (o.take (j + 1)) = s2 by rw [HSN.out, hmu, <- hbt, hs2, if_neg hjz, hs1, List.append_assoc]; rfl)
          clear HSN hs2 hbt hbl hfi hri ih htx hdp hmu kx3 kx4 hjz hs1 hs1l hpl
          go_wp2
          rw [<- hY]
          clear hY b0 b1 b2 b3 b4 b5 x0 x1 x2 x3 x4 x5
          refine wp_region_kept (by kernel_rfl) (by kernel_rfl) ?_
          repeat (go_big_quiet_step (first | with_reducible exact KeptOf.of (hC _) | with_reducible exact KeptOf.of (hD _)))
          refine Go.wpQuiet_nil ?_
          intro _ hw'
          obtain ⟨⟨V, hw⟩, hw''⟩ := hw'
          subst hw''
          go_wp2
          refine ⟨⟨j + 1, by omega, by go_num, by rw [HF.out], (hk.trans hkY).trans hw⟩, by simp [intOf]; omega⟩
      ·obtain rfl : j = o.length := by omega
       rw [List.take_length]
       go_wp2
       go_ret
       exact ⟨ret_str (by rw [HT.out]), hkX.trans hk⟩
end Go.Proofs.YtaciogcpghbhjaaGreat.Tr
