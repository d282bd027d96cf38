/- Of these texts: ChR. Conditions: as each part says. -/
import Derived.Test.YtaciogcpghbhjaaGreatZTReU
import Derived.Test.YtaciogcpghbhjaaGreatZTTrRu
import Derived.Test.YtaciogcpghbhjaaGreatZTLib
/- Layer 13's reference: most, fine, small, Rule. Conditions: lists of at most a million; a rule's text of at most three million bytes. -/
namespace Go.Proofs.YtaciogcpghbhjaaGreat.Ref13
set_option linter.unusedVariables false
set_option linter.unusedSimpArgs false
set_option maxRecDepth 100000
open Go.ChangeShapes Go.WideShapes Go.ChangeAt Go.RowKit
open Tr
theorem all_snoc' {α : Type} (p : α -> Bool) (z : α) (l : List α) (k : Nat) (h : k < l.length) : (l.take (k + 1)).all p = ((l.take k).all p && p (l.getD k z)) := by
 rw [List.take_succ_eq_append_getElem h, List.all_append, show l.getD k z = l[k] by simp [List.getD, List.getElem?_eq_getElem h]]; simp
theorem all_no' {α : Type} (p : α -> Bool) (z : α) (l : List α) (k : Nat) (h : k < l.length) (hp : p (l.getD k z) = false) : l.all p = false := by
 rw [List.all_eq_false]
 refine ⟨l.getD k z, ?_, by rw [hp]; simp⟩
 rw [show l.getD k z = l[k] by simp [List.getD, List.getElem?_eq_getElem h]]; exact List.getElem_mem h
set_option maxHeartbeats 400000 in
theorem most_any (f : Int) (w : World) : Calls Tryz.prog 70 #[.int .i64 f] w fun e w' => e = .returned (.int .i64 (Ck.most f)) ∧ w = w' := by
 by_cases h : f <= 3
 ·have d : decide (f <= 3) = true := by simp [h]
  have HE := Lib.hid (show Ck.most f = 255 by unfold Ck.most; rw [if_pos h])
  clear h
  go_enter Tryz.func70, Tryz.ntmps70
  go_wp2
  go_ret
  exact ⟨by rw [HE.out]; rfl, rfl⟩
 ·have d : decide (f <= 3) = false := by simp; omega
  have HE := Lib.hid (show Ck.most f = 65535 by unfold Ck.most; rw [if_neg h])
  clear h
  go_enter Tryz.func70, Tryz.ntmps70
  go_wp2
  go_ret
  exact ⟨by rw [HE.out]; rfl, rfl⟩
set_option maxHeartbeats 400000 in
theorem small_any (n : Int) (w : World) : Calls Tryz.prog 49 #[.int .i64 n] w fun e w' => e = .returned (.bool (Ck.small n)) ∧ w = w' := by
 have HE := Lib.hid (show Ck.small n = (decide (1 <= n) && decide (n <= 1048576)) from rfl)
 cases d1 : decide (1 <= n)
 ·have HD := Lib.hid d1
  go_enter Tryz.func49, Tryz.ntmps49
  go_wp2
  go_ret
  exact ⟨ret_bool (by rw [HE.out, HD.out]; rfl), rfl⟩
 ·have HD := Lib.hid d1
  go_enter Tryz.func49, Tryz.ntmps49
  go_wp2
  go_ret
  exact ⟨ret_bool (by rw [HE.out, HD.out]; rfl), rfl⟩
set_option maxHeartbeats 8000000 in
theorem fineN : ∀ (N : Nat) (e : ExprP) (RA OA : Option Addr) (rc oc : Nat) (w : World), dp e <= N -> fits e -> Ex w e RA OA ->
  Calls Tryz.prog 48 #[.agg #[.int .i64 (kind e), .int .i64 (field e), .slice RA (rs e).length rc, .float .f64 (lo e), .float .f64 (hi e), .slice OA (of e).length oc]] w fun e' w' => e' = .returned (.bool (Ck.fine e)) ∧ Keep w w' := by
 intro N
 induction N with
 | zero => intro e RA OA rc oc w hN; exact absurd (dp_pos e) (by omega)
 | succ N ih =>
   intro e RA OA rc oc w hN hfit hE
   have hsub := fun x (hx : x ∈ of e) => dp_of hx
   obtain ⟨k, f, r, l, h, o⟩ := e
   rw [fits] at hfit
   obtain ⟨⟨hrl, hol⟩, ⟨hl64, hh64⟩, hfo⟩ := hfit
   replace hfo := fitsL_mem hfo
   simp only [kind, field, rs, lo, hi, of] at hsub ⊢
   obtain ⟨X, hX⟩ : ∃ X, X = w.alloc (.cells #[.int .i64 k, .int .i64 f, .slice RA r.length rc, .float .f64 l, .float .f64 h, .slice OA o.length oc] 59) := ⟨_, rfl⟩
   have hkX : Keep w X := by rw [hX]; exact (Keep.refl w).alloc _
   have hltX : w.heap.size < X.heap.size := by rw [hX]; simp
   have hEl : ElemAt X (.mk k f r l h o) RA OA rc oc w.heap.size 0 := by rw [hX]; exact ElemAt.new w (.mk k f r l h o) RA OA rc oc 59
   have HB := Lib.hid (show ∀ W, Keep X W -> W.cell? ⟨w.heap.size, 0, none⟩ = some (.int .i64 k) ∧ W.cell? ⟨w.heap.size, 1, none⟩ = some (.int .i64 f) ∧ W.cell? ⟨w.heap.size, 2, none⟩ = some (.slice RA r.length rc) ∧ W.cell? ⟨w.heap.size, 3, none⟩ = some (.float .f64 l) ∧ W.cell? ⟨w.heap.size, 4, none⟩ = some (.float .f64 h) ∧ W.cell? ⟨w.heap.size, 5, none⟩ = some (.slice OA o.length oc) from fun W hk => hEl.kept hltX hk)
   have hRX : Row encP 2 X X.heap.size RA r.length r := (hE.kept hkX).1
   have hO : Exs X OA o := (hE.kept hkX).exs
   clear hEl hE hltX
   by_cases h1 : k = 1
   ·have d1 : (k == 1) = true := by simpa using h1
    by_cases h6 : f = 6
    ·have d6 : (f == 6) = true := by simpa using h6
     have HON := Lib.hid (show Ck.fine (.mk k f r l h o) = Ck.le l h by rw [Ck.fine, if_pos h1, if_pos h6])
     clear h1 h6 hO hRX hsub hfo ih
     go_enter Tryz.func48, Tryz.ntmps48
     go_wp2_with fail
     rw [<- hX]
     clear hX
     obtain ⟨b0, b1, b2, b3, b4, b5⟩ := HB.out _ (Keep.refl X)
     go_wp2
     go_ret
     exact ⟨by rw [HON.out]; rfl, hkX⟩
    ·have d6 : (f == 6) = false := by simpa using h6
     have HON := Lib.hid (show Ck.fine (.mk k f r l h o) = Ck.rangesF f r by rw [Ck.fine, if_pos h1, if_neg h6])
     have HM := Lib.hid (fun W => most_any f W)
     obtain ⟨m, hm⟩ : ∃ m, m = Ck.most f := ⟨_, rfl⟩
     rw [<- hm] at HM
     have HR2 := Lib.hid (show Ck.rangesF f r = r.all fun p => decide (p.1 <= p.2) && decide (p.2 <= m) by rw [hm]; rfl)
     clear h1 h6 hO hsub hfo ih hm
     go_enter Tryz.func48, Tryz.ntmps48
     go_wp2_with fail
     rw [<- hX]
     clear hX
     obtain ⟨b0, b1, b2, b3, b4, b5⟩ := HB.out _ (Keep.refl X)
     go_wp2
     go_loopw [3] (fun iv wr => ∃ j : Nat, j <= r.length ∧ iv = .int .i64 j ∧ Hid ((r.take j).all (fun p => decide (p.1 <= p.2) && decide (p.2 <= m)) = true) ∧ Keep X wr) (fun iv _ => r.length - (intOf iv).toNat)
     case atStart => exact ⟨0, Nat.zero_le _, rfl, Lib.hid rfl, Keep.refl _⟩
     case round =>
      clear b0 b1 b2 b3 b4 b5
      obtain ⟨j, hj, rfl, HA, hk⟩ := hrel
      have b2 := (HB.out _ hk).2.2.1
      by_cases hlt : j < r.length
      ·have hi1 : (j : Int) < r.length := by omega
       have hj0 : (0 : Int) <= j := by omega
       obtain ⟨b, off, rfl, _⟩ := hRX.addr (by omega)
       obtain ⟨hb, q0, q1⟩ := Row.pair (hRX.kept hk) j hlt
       have hsn := all_snoc' (fun p : Int × Int => decide (p.1 <= p.2) && decide (p.2 <= m)) (0, 0) r j hlt
       have hno := all_no' (fun p : Int × Int => decide (p.1 <= p.2) && decide (p.2 <= m)) (0, 0) r j hlt
       rw [HA.out, Bool.true_and] at hsn
       generalize r.getD j (0, 0) = pp at q0 q1 hsn hno
       obtain ⟨p1, p2⟩ := pp
       simp only at q0 q1 hsn hno
       have z := fun q : KeptOf wr => HB.out q.w (hk.trans q.h)
       have z1 := fun q => (z q).2.1
       have z2 := fun q => (z q).2.2.1
       have y0 := fun q : KeptOf wr => (Below.cell (p := ⟨b, off + j * 2, none⟩) q.h hb).trans q0
       have y1 := fun q : KeptOf wr => (Below.cell (p := ⟨b, off + j * 2 + 1, none⟩) q.h hb).trans q1
       have hM := fun q : KeptOf wr => (HM.out q.w).mono fun e w' h => And.intro h.1 (show Keep q.w w' from h.2 ▸ Keep.refl _)
       have HSN := Lib.hid hsn
       have HNO := Lib.hid hno
       clear z q0 q1 hsn hno
       by_cases c1 : p2 < p1
       ·have d2 : decide (p2 < p1) = true := by simp [c1]
        have HF := Lib.hid (show Ck.fine (.mk k f r l h o) = false by rw [HON.out, HR2.out]; exact HNO.out (by rw [show decide (p1 <= p2) = false by simp; omega]; rfl))
        clear c1
        go_wp2_with fail
        refine wp_region_kept (by kernel_rfl) (by kernel_rfl) ?_
        repeat (go_big_quiet_step (first | with_reducible exact KeptOf.of (hM _)))
        refine Go.wpQuiet_nil ?_
        intro _ hw'
        obtain ⟨⟨W, hw⟩, hw''⟩ := hw'
        subst hw''
        go_wp2
        go_ret
        exact ⟨by rw [HF.out]; rfl, (hkX.trans hk).trans hw⟩
       ·have d2 : decide (p2 < p1) = false := by simp; omega
        by_cases c2 : m < p2
        ·have d3 : decide (m < p2) = true := by simp [c2]
         have HF := Lib.hid (show Ck.fine (.mk k f r l h o) = false by rw [HON.out, HR2.out]; exact HNO.out (by rw [show decide (p2 <= m) = false by simp; omega, Bool.and_false]))
         clear c1 c2
         go_wp2_with fail
         refine wp_region_kept (by kernel_rfl) (by kernel_rfl) ?_
         repeat (go_big_quiet_step (first | with_reducible exact KeptOf.of (hM _)))
         refine Go.wpQuiet_nil ?_
         intro _ hw'
         obtain ⟨⟨W, hw⟩, hw''⟩ := hw'
         subst hw''
         go_wp2
         go_ret
         exact ⟨by rw [HF.out]; rfl, (hkX.trans hk).trans hw⟩
        ·have d3 : decide (m < p2) = false := by simp; omega
         have HN := Lib.hid (show (r.take (j + 1)).all (fun p => decide (p.1 <= p.2) && decide (p.2 <= m)) = true by rw [HSN.out]; simp; omega)
         clear c1 c2
         go_wp2_with fail
         refine wp_region_kept (by kernel_rfl) (by kernel_rfl) ?_
         repeat (go_big_quiet_step (first | with_reducible exact KeptOf.of (hM _)))
         refine Go.wpQuiet_nil ?_
         intro _ hw'
         obtain ⟨⟨W, hw⟩, hw''⟩ := hw'
         subst hw''
         have kk := hk.trans hw
         clear z1 z2 y0 y1 hM hw b2
         go_wp2
         exact ⟨⟨j + 1, by omega, by go_num, HN, kk⟩, by simp [intOf]; omega⟩
      ·obtain rfl : j = r.length := by omega
       have HT := Lib.hid (show Ck.fine (.mk k f r l h o) = true by
        have := HA.out
        rw [List.take_of_length_le (Nat.le_refl _)] at this
        rw [HON.out, HR2.out]; exact this)
       go_wp2
       go_ret
       exact ⟨by rw [HT.out]; rfl, hkX.trans hk⟩
   ·have d1 : (k == 1) = false := by simpa using h1
    have HON := Lib.hid (show Ck.fine (.mk k f r l h o) = o.all Ck.fine by rw [Ck.fine, if_neg h1, Ck.fineL_all])
    clear h1 hRX
    go_enter Tryz.func48, Tryz.ntmps48
    go_wp2_with fail
    rw [<- hX]
    clear hX
    obtain ⟨b0, b1, b2, b3, b4, b5⟩ := HB.out _ (Keep.refl X)
    go_wp2
    go_loopw [4] (fun iv wr => ∃ j : Nat, j <= o.length ∧ iv = .int .i64 j ∧ Hid ((o.take j).all Ck.fine = true) ∧ Keep X wr) (fun iv _ => o.length - (intOf iv).toNat)
    case atStart => exact ⟨0, Nat.zero_le _, rfl, Lib.hid rfl, Keep.refl _⟩
    case round =>
     clear b0 b1 b2 b3 b4 b5
     obtain ⟨j, hj, rfl, HA, hk⟩ := hrel
     obtain ⟨b0, b1, b2, b3, b4, b5⟩ := HB.out _ hk
     by_cases hlt : j < o.length
     ·have hi1 : (j : Int) < o.length := by omega
      have hj0 : (0 : Int) <= j := by omega
      have hOw := hO.kept hk
      obtain ⟨b, off, rfl, hbb⟩ := hOw.addr (by omega)
      obtain ⟨_, RA', OA', rc', oc', hx6, hx⟩ := hOw.elem j hlt
      have hmem := getD_mem zero o j hlt
      have hdp := hsub _ hmem
      have hfi := hfo _ hmem
      have hsn := all_snoc' Ck.fine zero o j hlt
      have hno := all_no' Ck.fine zero o j hlt
      rw [HA.out, Bool.true_and] at hsn
      generalize o.getD j zero = x at *
      have HC := Lib.hid (ih x RA' OA' rc' oc' wr (by omega) hfi hx)
      obtain ⟨x0, x1, x2, x3, x4, x5⟩ := hx6
      have HSN := Lib.hid hsn
      have HNO := Lib.hid hno
      obtain ⟨q, hq⟩ : ∃ q, q = Ck.fine x := ⟨_, rfl⟩
      rw [<- hq] at HC HSN HNO
      clear hx hsub hdp hmem hfi hfo hsn hno hq
      cases q
      ·have HF := Lib.hid (show Ck.fine (.mk k f r l h o) = false by rw [HON.out]; exact HNO.out rfl)
       go_wp2_with fail
       refine HC.out.mono ?_
       rintro e w1 ⟨rfl, hk1⟩
       go_wp2
       go_ret
       exact ⟨by rw [HF.out]; rfl, (hkX.trans hk).trans hk1⟩
      ·go_wp2_with fail
       refine HC.out.mono ?_
       rintro e w1 ⟨rfl, hk1⟩
       have kk := hk.trans hk1
       clear hk hk1
       go_wp2
       exact ⟨⟨j + 1, by omega, by go_num, HSN, kk⟩, by simp [intOf]; omega⟩
     ·obtain rfl : j = o.length := by omega
      have HT := Lib.hid (show Ck.fine (.mk k f r l h o) = true by
       have := HA.out
       rw [List.take_of_length_le (Nat.le_refl _)] at this
       rw [HON.out]; exact this)
      go_wp2
      go_ret
      exact ⟨by rw [HT.out]; rfl, hkX.trans hk⟩
theorem rus_one {W : World} {r : RuleP} {RA OA : Option Addr} {rc oc : Nat} {t : TypeId} (hE : Ex W r.when_ RA OA) :
  Rus (W.alloc (.cells #[.bool r.allow, .int .i64 (kind r.when_), .int .i64 (field r.when_), .slice RA (rs r.when_).length rc, .float .f64 (lo r.when_), .float .f64 (hi r.when_), .slice OA (of r.when_).length oc, .int .i64 r.num, .int .i64 r.per, .int .i64 r.burst, .int .i64 r.line] t)) (some ⟨W.heap.size, 0, none⟩) [r] := fun _ => by
 refine ⟨_, _, rfl, by simp, fun k hk => ?_⟩
 have hk0 : k = 0 := by simpa using hk
 subst hk0
 refine ⟨[.bool r.allow, .int .i64 (kind r.when_), .int .i64 (field r.when_), .slice RA (rs r.when_).length rc, .float .f64 (lo r.when_), .float .f64 (hi r.when_), .slice OA (of r.when_).length oc, .int .i64 r.num, .int .i64 r.per, .int .i64 r.burst, .int .i64 r.line], fun j v hv => ?_, _, rfl, rfl, (hE.kept ((Keep.refl W).alloc _)).into _ _⟩
 rw [World.cell?_alloc_at (hn := rfl)]
 simpa using hv
set_option maxHeartbeats 8000000 in
theorem rule_any (r : RuleP) (RA OA : Option Addr) (rc oc : Nat) (w : World) (hfit : fits r.when_) (hlen : ruleR r = true -> (rtxt r).length <= 3000000) (hE : Ex w r.when_ RA OA) :
  Calls Tryz.prog 26 #[.agg #[.bool r.allow, .int .i64 (kind r.when_), .int .i64 (field r.when_), .slice RA (rs r.when_).length rc, .float .f64 (lo r.when_), .float .f64 (hi r.when_), .slice OA (of r.when_).length oc, .int .i64 r.num, .int .i64 r.per, .int .i64 r.burst, .int .i64 r.line]] w fun e' w' => e' = .returned (.int .i64 (Ck.rule r)) ∧ Keep w w' := by
 have CT := Lib.hid (fun (W : World) (B : Addr) (hB : Rus W (some B) [r]) => texts_any (some B) 1 [r] W (by simp) (fun x hx => by rw [List.mem_singleton] at hx; subst hx; exact hfit) (fun x hx => by rw [List.mem_singleton] at hx; subst hx; exact hlen) hB)
 have e1 : textOk [r] = ruleR r := by simp [textOk]
 rw [e1] at CT
 have HN := Lib.hid (fun (W : World) (hW : Keep w W) => rus_one (W := W) (r := r) (RA := RA) (OA := OA) (rc := rc) (oc := oc) (t := 63) (hE.kept hW))
 have CI := Lib.hid (fun W (hW : Keep w W) => fineN _ r.when_ RA OA rc oc W (Nat.le_refl _) hfit (hE.kept hW))
 have HRU : Ck.rule r = if ruleR r then (if Ck.fine r.when_ then (if r.per = 0 then 0 else if r.allow then (if Ck.small r.num && (Ck.small r.per && Ck.small r.burst) then 0 else 10) else 7) else 10) else 1 := rfl
 generalize Ck.rule r = ru at *
 generalize ruleR r = rr at *
 generalize text [r] = tt at *
 generalize Ck.fine r.when_ = ff at *
 clear e1 hfit hlen hE
 have hcl : RuleAt (w.alloc (.cells #[.bool r.allow, .int .i64 (kind r.when_), .int .i64 (field r.when_), .slice RA (rs r.when_).length rc, .float .f64 (lo r.when_), .float .f64 (hi r.when_), .slice OA (of r.when_).length oc, .int .i64 r.num, .int .i64 r.per, .int .i64 r.burst, .int .i64 r.line] 63)) r RA OA rc oc w.heap.size 0 := RuleAt.new w r RA OA rc oc 63
 obtain ⟨al, ⟨k, f, r, l, h, o⟩, n1, n2, n3, ln⟩ := r
 simp only [kind, field, rs, lo, hi, of] at HN HRU hcl CI CT ⊢
 obtain ⟨X, hX⟩ : ∃ X, X = w.alloc (.cells #[.bool al, .int .i64 k, .int .i64 f, .slice RA r.length rc, .float .f64 l, .float .f64 h, .slice OA o.length oc, .int .i64 n1, .int .i64 n2, .int .i64 n3, .int .i64 ln] 63) := ⟨_, rfl⟩
 have hkX : Keep w X := by rw [hX]; exact (Keep.refl w).alloc _
 have hltX : w.heap.size < X.heap.size := by rw [hX]; simp
 rw [<- hX] at hcl
 have HB := Lib.hid (show ∀ W, Keep X W -> W.cell? ⟨w.heap.size, 0, none⟩ = some (.bool al) ∧ W.cell? ⟨w.heap.size, 1, none⟩ = some (.int .i64 k) ∧ W.cell? ⟨w.heap.size, 2, none⟩ = some (.int .i64 f) ∧ W.cell? ⟨w.heap.size, 3, none⟩ = some (.slice RA r.length rc) ∧ W.cell? ⟨w.heap.size, 4, none⟩ = some (.float .f64 l) ∧ W.cell? ⟨w.heap.size, 5, none⟩ = some (.float .f64 h) ∧ W.cell? ⟨w.heap.size, 6, none⟩ = some (.slice OA o.length oc) ∧ W.cell? ⟨w.heap.size, 7, none⟩ = some (.int .i64 n1) ∧ W.cell? ⟨w.heap.size, 8, none⟩ = some (.int .i64 n2) ∧ W.cell? ⟨w.heap.size, 9, none⟩ = some (.int .i64 n3) ∧ W.cell? ⟨w.heap.size, 10, none⟩ = some (.int .i64 ln) from fun W hk => hcl.kept hltX hk)
 obtain ⟨Y, hY⟩ : ∃ Y, Y = X.alloc (.cells #[.bool al, .int .i64 k, .int .i64 f, .slice RA r.length rc, .float .f64 l, .float .f64 h, .slice OA o.length oc, .int .i64 n1, .int .i64 n2, .int .i64 n3, .int .i64 ln] 63) := ⟨_, rfl⟩
 have kXY : Keep X Y := by rw [hY]; exact (Keep.refl X).alloc _
 have hsX : X.heap.size = w.heap.size + 1 := by rw [hX]; simp
 have HN := Lib.hid (HN.out X hkX)
 rw [<- hY, hsX] at HN
 have CT := Lib.hid (CT.out _ _ HN.out)
 have CI := Lib.hid (fun W (hW : Keep X W) => CI.out W (hkX.trans hW))
 have HY := Lib.hid hY
 have HR := Lib.hid HRU
 have S1 := Lib.hid (fun W => small_any n1 W)
 have S2 := Lib.hid (fun W => small_any n2 W)
 have S3 := Lib.hid (fun W => small_any n3 W)
 clear HN hcl hltX hY HRU hsX
 cases rr
 ·have HE := Lib.hid (show ru = 1 from HR.out)
  go_enter Tryz.func26, Tryz.ntmps26
  go_wp2_with fail
  rw [<- hX]
  clear hX
  obtain ⟨b0, b1, b2, b3, b4, b5, b6, b7, b8, b9, b10⟩ := HB.out _ (Keep.refl X)
  go_wp2_with fail
  rw [<- HY.out]
  refine CT.out.mono ?_
  rintro e w1 ⟨rfl, hk1⟩
  replace hk1 := kXY.trans hk1
  clear b0 b1 b2 b3 b4 b5 b6 b7 b8 b9 b10
  obtain ⟨b0, b1, b2, b3, b4, b5, b6, b7, b8, b9, b10⟩ := HB.out _ hk1
  go_wp2
  go_ret
  exact ⟨by rw [HE.out]; rfl, hkX.trans hk1⟩
 cases ff
 ·have HE := Lib.hid (show ru = 10 from HR.out)
  go_enter Tryz.func26, Tryz.ntmps26
  go_wp2_with fail
  rw [<- hX]
  clear hX
  obtain ⟨b0, b1, b2, b3, b4, b5, b6, b7, b8, b9, b10⟩ := HB.out _ (Keep.refl X)
  go_wp2_with fail
  rw [<- HY.out]
  refine CT.out.mono ?_
  rintro e w1 ⟨rfl, hk1⟩
  replace hk1 := kXY.trans hk1
  clear b0 b1 b2 b3 b4 b5 b6 b7 b8 b9 b10
  obtain ⟨b0, b1, b2, b3, b4, b5, b6, b7, b8, b9, b10⟩ := HB.out _ hk1
  go_wp2_with fail
  refine (CI.out _ hk1).mono ?_
  rintro e w2 ⟨rfl, hk2⟩
  replace hk2 := hk1.trans hk2
  clear b0 b1 b2 b3 b4 b5 b6 b7 b8 b9 b10
  obtain ⟨b0, b1, b2, b3, b4, b5, b6, b7, b8, b9, b10⟩ := HB.out _ hk2
  go_wp2
  go_ret
  exact ⟨by rw [HE.out]; rfl, hkX.trans hk2⟩
 by_cases h0 : n2 = 0
 ·have d0 : (n2 == 0) = true := by simp [h0]
  have HE := Lib.hid (show ru = 0 by have := HR.out; simpa [h0] using this)
  clear h0
  go_enter Tryz.func26, Tryz.ntmps26
  go_wp2_with fail
  rw [<- hX]
  clear hX
  obtain ⟨b0, b1, b2, b3, b4, b5, b6, b7, b8, b9, b10⟩ := HB.out _ (Keep.refl X)
  go_wp2_with fail
  rw [<- HY.out]
  refine CT.out.mono ?_
  rintro e w1 ⟨rfl, hk1⟩
  replace hk1 := kXY.trans hk1
  clear b0 b1 b2 b3 b4 b5 b6 b7 b8 b9 b10
  obtain ⟨b0, b1, b2, b3, b4, b5, b6, b7, b8, b9, b10⟩ := HB.out _ hk1
  go_wp2_with fail
  refine (CI.out _ hk1).mono ?_
  rintro e w2 ⟨rfl, hk2⟩
  replace hk2 := hk1.trans hk2
  clear b0 b1 b2 b3 b4 b5 b6 b7 b8 b9 b10
  obtain ⟨b0, b1, b2, b3, b4, b5, b6, b7, b8, b9, b10⟩ := HB.out _ hk2
  go_wp2
  go_ret
  exact ⟨by rw [HE.out]; rfl, hkX.trans hk2⟩
 have d0 : (n2 == 0) = false := by simpa using h0
 have HR2 := Lib.hid (show ru = if al then (if Ck.small n1 && (Ck.small n2 && Ck.small n3) then 0 else 10) else 7 by have := HR.out; simpa [h0] using this)
 clear h0
 cases al
 ·have HE := Lib.hid (show ru = 7 from HR2.out)
  go_enter Tryz.func26, Tryz.ntmps26
  go_wp2_with fail
  rw [<- hX]
  clear hX
  obtain ⟨b0, b1, b2, b3, b4, b5, b6, b7, b8, b9, b10⟩ := HB.out _ (Keep.refl X)
  go_wp2_with fail
  rw [<- HY.out]
  refine CT.out.mono ?_
  rintro e w1 ⟨rfl, hk1⟩
  replace hk1 := kXY.trans hk1
  clear b0 b1 b2 b3 b4 b5 b6 b7 b8 b9 b10
  obtain ⟨b0, b1, b2, b3, b4, b5, b6, b7, b8, b9, b10⟩ := HB.out _ hk1
  go_wp2_with fail
  refine (CI.out _ hk1).mono ?_
  rintro e w2 ⟨rfl, hk2⟩
  replace hk2 := hk1.trans hk2
  clear b0 b1 b2 b3 b4 b5 b6 b7 b8 b9 b10
  obtain ⟨b0, b1, b2, b3, b4, b5, b6, b7, b8, b9, b10⟩ := HB.out _ hk2
  go_wp2
  go_ret
  exact ⟨by rw [HE.out]; rfl, hkX.trans hk2⟩
 obtain ⟨s1, hs1⟩ : ∃ s, s = Ck.small n1 := ⟨_, rfl⟩
 obtain ⟨s2, hs2⟩ : ∃ s, s = Ck.small n2 := ⟨_, rfl⟩
 obtain ⟨s3, hs3⟩ : ∃ s, s = Ck.small n3 := ⟨_, rfl⟩
 rw [<- hs1] at S1 HR2
 rw [<- hs2] at S2 HR2
 rw [<- hs3] at S3 HR2
 clear hs1 hs2 hs3
 cases s1
 ·have HE := Lib.hid (show ru = 10 from HR2.out)
  go_enter Tryz.func26, Tryz.ntmps26
  go_wp2_with fail
  rw [<- hX]
  clear hX
  obtain ⟨b0, b1, b2, b3, b4, b5, b6, b7, b8, b9, b10⟩ := HB.out _ (Keep.refl X)
  go_wp2_with fail
  rw [<- HY.out]
  refine CT.out.mono ?_
  rintro e w1 ⟨rfl, hk1⟩
  replace hk1 := kXY.trans hk1
  clear b0 b1 b2 b3 b4 b5 b6 b7 b8 b9 b10
  obtain ⟨b0, b1, b2, b3, b4, b5, b6, b7, b8, b9, b10⟩ := HB.out _ hk1
  go_wp2_with fail
  refine (CI.out _ hk1).mono ?_
  rintro e w2 ⟨rfl, hk2⟩
  replace hk2 := hk1.trans hk2
  clear b0 b1 b2 b3 b4 b5 b6 b7 b8 b9 b10
  obtain ⟨b0, b1, b2, b3, b4, b5, b6, b7, b8, b9, b10⟩ := HB.out _ hk2
  go_wp2_with fail
  refine (S1.out _).mono ?_
  rintro e _ ⟨rfl, rfl⟩
  go_wp2
  go_ret
  exact ⟨by rw [HE.out]; rfl, hkX.trans hk2⟩
 cases s2
 ·have HE := Lib.hid (show ru = 10 from HR2.out)
  go_enter Tryz.func26, Tryz.ntmps26
  go_wp2_with fail
  rw [<- hX]
  clear hX
  obtain ⟨b0, b1, b2, b3, b4, b5, b6, b7, b8, b9, b10⟩ := HB.out _ (Keep.refl X)
  go_wp2_with fail
  rw [<- HY.out]
  refine CT.out.mono ?_
  rintro e w1 ⟨rfl, hk1⟩
  replace hk1 := kXY.trans hk1
  clear b0 b1 b2 b3 b4 b5 b6 b7 b8 b9 b10
  obtain ⟨b0, b1, b2, b3, b4, b5, b6, b7, b8, b9, b10⟩ := HB.out _ hk1
  go_wp2_with fail
  refine (CI.out _ hk1).mono ?_
  rintro e w2 ⟨rfl, hk2⟩
  replace hk2 := hk1.trans hk2
  clear b0 b1 b2 b3 b4 b5 b6 b7 b8 b9 b10
  obtain ⟨b0, b1, b2, b3, b4, b5, b6, b7, b8, b9, b10⟩ := HB.out _ hk2
  go_wp2_with fail
  refine (S1.out _).mono ?_
  rintro e _ ⟨rfl, rfl⟩
  go_wp2_with fail
  refine (S2.out _).mono ?_
  rintro e _ ⟨rfl, rfl⟩
  go_wp2
  go_ret
  exact ⟨by rw [HE.out]; rfl, hkX.trans hk2⟩
 cases s3
 ·have HE := Lib.hid (show ru = 10 from HR2.out)
  go_enter Tryz.func26, Tryz.ntmps26
  go_wp2_with fail
  rw [<- hX]
  clear hX
  obtain ⟨b0, b1, b2, b3, b4, b5, b6, b7, b8, b9, b10⟩ := HB.out _ (Keep.refl X)
  go_wp2_with fail
  rw [<- HY.out]
  refine CT.out.mono ?_
  rintro e w1 ⟨rfl, hk1⟩
  replace hk1 := kXY.trans hk1
  clear b0 b1 b2 b3 b4 b5 b6 b7 b8 b9 b10
  obtain ⟨b0, b1, b2, b3, b4, b5, b6, b7, b8, b9, b10⟩ := HB.out _ hk1
  go_wp2_with fail
  refine (CI.out _ hk1).mono ?_
  rintro e w2 ⟨rfl, hk2⟩
  replace hk2 := hk1.trans hk2
  clear b0 b1 b2 b3 b4 b5 b6 b7 b8 b9 b10
  obtain ⟨b0, b1, b2, b3, b4, b5, b6, b7, b8, b9, b10⟩ := HB.out _ hk2
  go_wp2_with fail
  refine (S1.out _).mono ?_
  rintro e _ ⟨rfl, rfl⟩
  go_wp2_with fail
  refine (S2.out _).mono ?_
  rintro e _ ⟨rfl, rfl⟩
  go_wp2_with fail
  refine (S3.out _).mono ?_
  rintro e _ ⟨rfl, rfl⟩
  go_wp2
  go_ret
  exact ⟨by rw [HE.out]; rfl, hkX.trans hk2⟩
 ·have HE := Lib.hid (show ru = 0 from HR2.out)
  go_enter Tryz.func26, Tryz.ntmps26
  go_wp2_with fail
  rw [<- hX]
  clear hX
  obtain ⟨b0, b1, b2, b3, b4, b5, b6, b7, b8, b9, b10⟩ := HB.out _ (Keep.refl X)
  go_wp2_with fail
  rw [<- HY.out]
  refine CT.out.mono ?_
  rintro e w1 ⟨rfl, hk1⟩
  replace hk1 := kXY.trans hk1
  clear b0 b1 b2 b3 b4 b5 b6 b7 b8 b9 b10
  obtain ⟨b0, b1, b2, b3, b4, b5, b6, b7, b8, b9, b10⟩ := HB.out _ hk1
  go_wp2_with fail
  refine (CI.out _ hk1).mono ?_
  rintro e w2 ⟨rfl, hk2⟩
  replace hk2 := hk1.trans hk2
  clear b0 b1 b2 b3 b4 b5 b6 b7 b8 b9 b10
  obtain ⟨b0, b1, b2, b3, b4, b5, b6, b7, b8, b9, b10⟩ := HB.out _ hk2
  go_wp2_with fail
  refine (S1.out _).mono ?_
  rintro e _ ⟨rfl, rfl⟩
  go_wp2_with fail
  refine (S2.out _).mono ?_
  rintro e _ ⟨rfl, rfl⟩
  go_wp2_with fail
  refine (S3.out _).mono ?_
  rintro e _ ⟨rfl, rfl⟩
  go_wp2
  go_ret
  exact ⟨by rw [HE.out]; rfl, hkX.trans hk2⟩
end Go.Proofs.YtaciogcpghbhjaaGreat.Ref13
