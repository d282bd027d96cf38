/- Several texts in one: TrR, TrS, TrT, TrU, TrV, TrW, TrX. Conditions: as each part says. -/
import Derived.Test.YtdkeibgfehblaaaGreatDoorTrI
import Derived.Test.YtdkeibgfehblaaaGreatDoorReW
import Derived.Test.YtdkeibgfehblaaaGreatDoorSpAll
import Derived.Test.YtdkeibgfehblaaaGreatDoorKept
import Derived.Deep.RegionHeld3
import Derived.BigQuiet
import Derived.Test.YtdkeibgfehblaaaGreatDoorGuAll
import Derived.RegionTactic
/- Layer 11's reference: small ones, atoms, depth, sameness, which may be. Conditions: lists at most a million. -/
namespace Go.Proofs.YtdkeibgfehblaaaGreatDoor.Tr
set_option linter.unusedVariables false
open Go.ChangeShapes Go.WideShapes Go.ChangeAt Go.RowKit

theorem ret_bool {b c : Bool} (h : b = c) : Ending.returned (.bool b) = Ending.returned (.bool c) := by rw [h]
theorem ret_int {a b : Int} (h : a = b) : Ending.returned (.int .i64 a) = Ending.returned (.int .i64 b) := by rw [h]

set_option maxHeartbeats 1000000 in
theorem small_any : ∀ (N : Nat) (e : ExprP) (RA OA : Option Addr) (rc oc : Nat) (d : Int) (w : World), dp e ≤ N → -1000 ≤ d → d ≤ 1000 → Ex w e RA OA →
    Calls Tryz.prog 15 #[.agg #[.int .i64 (kind e), .int .i64 (field e), .slice RA (rs e).length rc, .float .f64 (lo e), .float .f64 (hi e), .slice OA (of e).length oc], .int .i64 d] w fun e' w' => e' = .returned (.bool (small e d)) ∧ Keep w w' := by
  intro N
  induction N with
  | zero => intro e RA OA rc oc d w hN; exact absurd (dp_pos e) (by omega)
  | succ N ih =>
    intro e RA OA rc oc d w hN hd0 hd1 hE
    have hsub := fun x (hx : x ∈ of e) => dp_of hx
    obtain ⟨k, f, r, l, h, o⟩ := e
    simp only [kind, field, rs, lo, hi, of] at hsub ⊢
    by_cases h1 : d < 0
    · have e1 : small (.mk k f r l h o) d = false := by rw [small, show decide (0 ≤ d) = false by simp; omega]; rfl
      rw [e1]
      clear e1 hE hsub
      go_enter Tryz.func15, Tryz.ntmps15
      go_wp2
      go_ret
      exact ⟨rfl, (Keep.refl w).alloc _⟩
    by_cases h2 : (o.length : Int) > 6
    · have e1 : small (.mk k f r l h o) d = false := by rw [small, show decide (o.length ≤ 6) = false by simp; omega]; simp
      rw [e1]
      clear e1 hE hsub
      go_enter Tryz.func15, Tryz.ntmps15
      go_wp2
      go_ret
      exact ⟨rfl, (Keep.refl w).alloc _⟩
    by_cases h3 : (r.length : Int) > 8
    · have e1 : small (.mk k f r l h o) d = false := by rw [small, show decide (r.length ≤ 8) = false by simp; omega]; simp
      rw [e1]
      clear e1 hE hsub
      go_enter Tryz.func15, Tryz.ntmps15
      go_wp2
      go_ret
      exact ⟨rfl, (Keep.refl w).alloc _⟩
    have HS := Lib.hid (show small (.mk k f r l h o) d = o.all fun x => small x (d - 1) by
      rw [small, show decide (0 ≤ d) = true by simp; omega, show decide (o.length ≤ 6) = true by simp; omega, show decide (r.length ≤ 8) = true by simp; omega, smallL_all]; rfl)
    obtain ⟨X, hX⟩ : ∃ X, X = w.alloc (.cells #[.int .i64 k, .int .i64 f, .slice RA r.length rc, .float .f64 l, .float .f64 h, .slice OA o.length oc] 35) := ⟨_, rfl⟩
    have hkX : Keep w X := by rw [hX]; exact (Keep.refl w).alloc _
    have hltX : w.heap.size < X.heap.size := by rw [hX]; simp
    have hEl : ElemAt X (.mk k f r l h o) RA OA rc oc w.heap.size 0 := by rw [hX]; exact ElemAt.new w (.mk k f r l h o) RA OA rc oc 35
    have HB := Lib.hid (show ∀ W, Keep X W → ElemAt W (.mk k f r l h o) RA OA rc oc w.heap.size 0 from fun W hk => hEl.kept hltX hk)
    have hEX := hE.kept hkX
    clear hEl hE
    have hO : Exs X OA o := hEX.exs
    clear hEX
    go_enter Tryz.func15, Tryz.ntmps15
    go_wp2
    rw [← hX]
    clear hX
    go_loopw [5] (fun iv wr => ∃ j : Nat, j ≤ o.length ∧ iv = .int .i64 j ∧ Hid ((o.take j).all (fun x => small x (d - 1)) = true) ∧ Keep X wr) (fun iv _ => o.length - (intOf iv).toNat)
    case atStart => exact ⟨0, Nat.zero_le _, rfl, rfl, Keep.refl _⟩
    case round =>
      obtain ⟨j, hj, rfl, hall, hk⟩ := hrel
      obtain ⟨b0, b1, b2, b3, b4, b5⟩ := HB.out _ hk
      simp only [kind, field, rs, lo, hi, of] at b0 b1 b2 b3 b4 b5
      by_cases hlt : j < o.length
      · have hi1 : (j : Int) < o.length := by omega
        have hj0 : (0 : Int) ≤ j := by omega
        have hOw := hO.kept hk
        obtain ⟨b, off, rfl, hbb⟩ := hOw.addr (by omega)
        obtain ⟨_, RA', OA', rc', oc', ⟨x0, x1, x2, x3, x4, x5⟩, hx⟩ := hOw.elem j hlt
        have hmem := getD_mem zero o j hlt
        have hdp := hsub _ hmem
        have HA := Lib.hid (all_snoc (fun x => small x (d - 1)) zero o j hlt)
        have HNo := Lib.hid (all_no (fun x => small x (d - 1)) zero o j hlt)
        generalize o.getD j zero = x at *
        cases hsm : small x (d - 1)
        · have HC := Lib.hid (show ∀ W, Keep wr W → Calls Tryz.prog 15 #[.agg #[.int .i64 (kind x), .int .i64 (field x), .slice RA' (rs x).length rc', .float .f64 (lo x), .float .f64 (hi x), .slice OA' (of x).length oc'], .int .i64 (d - 1)] W fun e' w' => e' = .returned (.bool false) ∧ Keep W w' from fun W hW => by
            have := ih x RA' OA' rc' oc' (d - 1) W (by omega) (by omega) (by omega) (hx.kept hW)
            rwa [hsm] at this)
          have HF := Lib.hid (HNo.out hsm)
          clear hx hsub hdp hmem HA HNo hsm
          go_wp2_with fail
          refine (HC.out _ (Keep.refl _)).mono ?_
          rintro e w1 ⟨rfl, hk1⟩
          go_wp2
          go_ret
          exact ⟨ret_bool (by rw [HS.out, HF.out]), (hkX.trans hk).trans hk1⟩
        · have HC := Lib.hid (show ∀ W, Keep wr W → Calls Tryz.prog 15 #[.agg #[.int .i64 (kind x), .int .i64 (field x), .slice RA' (rs x).length rc', .float .f64 (lo x), .float .f64 (hi x), .slice OA' (of x).length oc'], .int .i64 (d - 1)] W fun e' w' => e' = .returned (.bool true) ∧ Keep W w' from fun W hW => by
            have := ih x RA' OA' rc' oc' (d - 1) W (by omega) (by omega) (by omega) (hx.kept hW)
            rwa [hsm] at this)
          have HF := Lib.hid (show (o.take (j + 1)).all (fun x => small x (d - 1)) = true by rw [HA.out, hall.out, hsm]; rfl)
          clear hx hsub hdp hmem HA HNo hsm
          go_wp2_with fail
          refine (HC.out _ (Keep.refl _)).mono ?_
          rintro e w1 ⟨rfl, hk1⟩
          go_wp2
          go_roundw
          case rel => exact ⟨j + 1, by omega, by go_num, HF, hk.trans hk1⟩
          case measure => simp [intOf]; omega
      · obtain rfl : j = o.length := by omega
        have HF := Lib.hid (show o.all (fun x => small x (d - 1)) = true by have := hall.out; rwa [List.take_length] at this)
        go_wp2
        go_ret
        exact ⟨ret_bool (by rw [HS.out, HF.out]), hkX.trans hk⟩
end Go.Proofs.YtdkeibgfehblaaaGreatDoor.Tr
/- Layer 11's reference: atoms, depth, sameness, which may be. Conditions: lists at most a million. -/
namespace Go.Proofs.YtdkeibgfehblaaaGreatDoor.Tr
set_option linter.unusedVariables false
open Go.ChangeShapes Go.WideShapes Go.ChangeAt Go.RowKit
open Go.Proofs.YtdkeibgfehblaaaGreatDoor.Fp (sameB)
open Go.Proofs.YtdkeibgfehblaaaGreatDoor.Re (tOk tL)
theorem atomsL_take (o : List ExprP) (j : Nat) : atomsL (o.take j) ≤ atomsL o := by
  have h : ∀ a b : List ExprP, atomsL a ≤ atomsL (a ++ b) := by
    intro a b
    induction a with
    | nil => rw [atomsL]; omega
    | cons x a ih => rw [List.cons_append, atomsL, atomsL]; omega
  have := h (o.take j) (o.drop j)
  rwa [List.take_append_drop] at this
theorem deepL_take (o : List ExprP) (j : Nat) : deepL (o.take j) ≤ deepL o := by
  have h : ∀ a b : List ExprP, deepL a ≤ deepL (a ++ b) := by
    intro a b
    induction a with
    | nil => rw [deepL]; omega
    | cons x a ih => rw [List.cons_append, deepL, deepL]; omega
  have := h (o.take j) (o.drop j)
  rwa [List.take_append_drop] at this






end Go.Proofs.YtdkeibgfehblaaaGreatDoor.Tr
/- Layer 11's reference: the same ones, few ones. Conditions: lists at most a million. -/
namespace Go.Proofs.YtdkeibgfehblaaaGreatDoor.Tr
set_option linter.unusedVariables false
open Go.ChangeShapes Go.WideShapes Go.ChangeAt Go.RowKit
open Go.Proofs.YtdkeibgfehblaaaGreatDoor.Fp (sameB)
open Go.Proofs.YtdkeibgfehblaaaGreatDoor.Re (tOk tL)


set_option maxHeartbeats 4000000 in
theorem same_any : ∀ (N : Nat) (e e' : ExprP) (RA OA : Option Addr) (rc oc : Nat) (RA' OA' : Option Addr) (rc' oc' : Nat) (w : World), dp e ≤ N → fits e → fits e' → Ex w e RA OA → Ex w e' RA' OA' →
    Calls Tryz.prog 16 #[.agg #[.int .i64 (kind e), .int .i64 (field e), .slice RA (rs e).length rc, .float .f64 (lo e), .float .f64 (hi e), .slice OA (of e).length oc], .agg #[.int .i64 (kind e'), .int .i64 (field e'), .slice RA' (rs e').length rc', .float .f64 (lo e'), .float .f64 (hi e'), .slice OA' (of e').length oc']] w fun e₁ w' => e₁ = .returned (.bool (same e e')) ∧ Keep w w' := by
  intro N
  induction N with
  | zero => intro e e' RA OA rc oc RA' OA' rc' oc' w hN; exact absurd (dp_pos e) (by omega)
  | succ N ih =>
    intro e e' RA OA rc oc RA' OA' rc' oc' w hN hfit hfit' hE hE'
    have hsub := fun x (hx : x ∈ of e) => dp_of hx
    obtain ⟨k, f, r, l, h, o⟩ := e
    obtain ⟨k', f', r', l', h', o'⟩ := e'
    rw [fits] at hfit hfit'
    obtain ⟨⟨hrl, hol⟩, ⟨hl64, hh64⟩, hfo⟩ := hfit
    obtain ⟨⟨hrl', hol2⟩, ⟨hl64', hh64'⟩, hfo'⟩ := hfit'
    replace hfo := fitsL_mem hfo
    replace hfo' := fitsL_mem hfo'
    simp only [kind, field, rs, lo, hi, of] at hsub ⊢
    have HSE := Lib.hid (show same (.mk k f r l h o) (.mk k' f' r' l' h' o') = (k == k' && (f == f' && (decide (r = r') && (sameB l l' && (sameB h h' && sameL o o'))))) by rw [same])
    obtain ⟨X, hX⟩ : ∃ X, X = (w.alloc (.cells #[.int .i64 k, .int .i64 f, .slice RA r.length rc, .float .f64 l, .float .f64 h, .slice OA o.length oc] 35)).alloc (.cells #[.int .i64 k', .int .i64 f', .slice RA' r'.length rc', .float .f64 l', .float .f64 h', .slice OA' o'.length oc'] 35) := ⟨_, rfl⟩
    have hs1 : (w.alloc (.cells #[.int .i64 k, .int .i64 f, .slice RA r.length rc, .float .f64 l, .float .f64 h, .slice OA o.length oc] 35)).heap.size = w.heap.size + 1 := by simp
    have hkX : Keep w X := by rw [hX]; exact ((Keep.refl w).alloc _).alloc _
    have hltX : w.heap.size + 1 < X.heap.size := by rw [hX]; simp
    have hEl : ElemAt X (.mk k f r l h o) RA OA rc oc w.heap.size 0 := by
      rw [hX]
      exact (ElemAt.new w (.mk k f r l h o) RA OA rc oc 35).kept (by simp) ((Keep.refl _).alloc _)
    have hEl2 : ElemAt X (.mk k' f' r' l' h' o') RA' OA' rc' oc' (w.heap.size + 1) 0 := by
      have hq := ElemAt.new (w.alloc (.cells #[.int .i64 k, .int .i64 f, .slice RA r.length rc, .float .f64 l, .float .f64 h, .slice OA o.length oc] 35)) (.mk k' f' r' l' h' o') RA' OA' rc' oc' 35
      rw [hs1] at hq
      rw [hX]
      exact hq
    have HB := Lib.hid (show ∀ W, Keep X W → W.cell? ⟨w.heap.size, 0, none⟩ = some (.int .i64 k) ∧ W.cell? ⟨w.heap.size, 1, none⟩ = some (.int .i64 f) ∧ W.cell? ⟨w.heap.size, 2, none⟩ = some (.slice RA r.length rc) ∧ W.cell? ⟨w.heap.size, 3, none⟩ = some (.float .f64 l) ∧ W.cell? ⟨w.heap.size, 4, none⟩ = some (.float .f64 h) ∧ W.cell? ⟨w.heap.size, 5, none⟩ = some (.slice OA o.length oc) from fun W hk => hEl.kept (by omega) hk)
    have HB2 := Lib.hid (show ∀ W, Keep X W → W.cell? ⟨(w.heap.size + 1), 0, none⟩ = some (.int .i64 k') ∧ W.cell? ⟨(w.heap.size + 1), 1, none⟩ = some (.int .i64 f') ∧ W.cell? ⟨(w.heap.size + 1), 2, none⟩ = some (.slice RA' r'.length rc') ∧ W.cell? ⟨(w.heap.size + 1), 3, none⟩ = some (.float .f64 l') ∧ W.cell? ⟨(w.heap.size + 1), 4, none⟩ = some (.float .f64 h') ∧ W.cell? ⟨(w.heap.size + 1), 5, none⟩ = some (.slice OA' o'.length oc') from fun W hk => hEl2.kept hltX hk)
    have hEX := hE.kept hkX
    have hEX' := hE'.kept hkX
    clear hEl hEl2 hE hE' hs1
    have hO : Exs X OA o := hEX.exs
    have hO' : Exs X OA' o' := hEX'.exs
    have CR := fun W (hW : Keep X W) => Span.ref_same_any RA r.length rc r RA' r'.length rc' r' W hrl hrl' (hEX.1.kept hW) (hEX'.1.kept hW)
    have CL := fun W => Ref3.same_any l l' hl64 hl64' W
    have CH := fun W => Ref3.same_any h h' hh64 hh64' W
    clear hEX hEX' hl64 hh64 hl64' hh64' hrl hrl'
    by_cases h1 : k = k'
    · have b1 : (k == k') = true := by simpa using h1
      have d1 : (k != k') = false := by simpa using h1
      clear h1
      by_cases h2 : f = f'
      · have b2 : (f == f') = true := by simpa using h2
        have d2 : (f != f') = false := by simpa using h2
        clear h2
        cases b3 : decide (r = r')
        · have HS := Lib.hid (show same (.mk k f r l h o) (.mk k' f' r' l' h' o') = false by rw [HSE.out, b1, b2, b3]; rfl)
          rw [b3] at CR
          clear b1 b2 b3 HSE hsub hfo hfo' ih hO hO'

          go_enter Tryz.func16, Tryz.ntmps16
          go_wp2_with fail
          rw [← hX]
          clear hX
          refine (CR _ (Keep.refl _)).mono ?_
          rintro e w1 ⟨rfl, k1⟩
          replace k1 := k1.keep
          obtain ⟨b0, b1, b2, b3, b4, b5⟩ := HB.out _ k1
          obtain ⟨c0, c1, c2, c3, c4, c5⟩ := HB2.out _ k1
          go_wp2
          go_ret
          exact ⟨ret_bool HS.out.symm, hkX.trans k1⟩
        · rw [b3] at CR
          cases b4 : sameB l l'
          · have HS := Lib.hid (show same (.mk k f r l h o) (.mk k' f' r' l' h' o') = false by rw [HSE.out, b1, b2, b3, b4]; rfl)
            rw [b4] at CL
            clear b1 b2 b3 b4 HSE hsub hfo hfo' ih hO hO'

            go_enter Tryz.func16, Tryz.ntmps16
            go_wp2_with fail
            rw [← hX]
            clear hX
            refine (CR _ (Keep.refl _)).mono ?_
            rintro e w1 ⟨rfl, k1⟩
            replace k1 := k1.keep
            obtain ⟨b0, b1, b2, b3, b4, b5⟩ := HB.out _ k1
            obtain ⟨c0, c1, c2, c3, c4, c5⟩ := HB2.out _ k1
            go_wp2_with fail
            refine (CL _).mono ?_
            rintro e _ ⟨rfl, rfl⟩
            go_wp2
            go_ret
            exact ⟨ret_bool HS.out.symm, hkX.trans k1⟩
          · rw [b4] at CL
            cases b5 : sameB h h'
            · have HS := Lib.hid (show same (.mk k f r l h o) (.mk k' f' r' l' h' o') = false by rw [HSE.out, b1, b2, b3, b4, b5]; rfl)
              rw [b5] at CH
              clear b1 b2 b3 b4 b5 HSE hsub hfo hfo' ih hO hO'

              go_enter Tryz.func16, Tryz.ntmps16
              go_wp2_with fail
              rw [← hX]
              clear hX
              refine (CR _ (Keep.refl _)).mono ?_
              rintro e w1 ⟨rfl, k1⟩
              replace k1 := k1.keep
              obtain ⟨b0, b1, b2, b3, b4, b5⟩ := HB.out _ k1
              obtain ⟨c0, c1, c2, c3, c4, c5⟩ := HB2.out _ k1
              go_wp2_with fail
              refine (CL _).mono ?_
              rintro e _ ⟨rfl, rfl⟩
              go_wp2_with fail
              refine (CH _).mono ?_
              rintro e _ ⟨rfl, rfl⟩
              go_wp2
              go_ret
              exact ⟨ret_bool HS.out.symm, hkX.trans k1⟩
            · rw [b5] at CH
              by_cases hol' : o.length = o'.length
              · have d6 : ((o.length : Int) != (o'.length : Int)) = false := by simp; omega
                have HOL := Lib.hid hol'
                clear hol'
                have HS := Lib.hid (show same (.mk k f r l h o) (.mk k' f' r' l' h' o') = sameL o o' by rw [HSE.out, b1, b2, b3, b4, b5]; rfl)
                clear b1 b2 b3 b4 b5 HSE
                go_enter Tryz.func16, Tryz.ntmps16
                go_wp2_with fail
                rw [← hX]
                clear hX
                refine (CR _ (Keep.refl _)).mono ?_
                rintro e w1 ⟨rfl, k1⟩
                replace k1 := k1.keep
                obtain ⟨b0, b1, b2, b3, b4, b5⟩ := HB.out _ k1
                obtain ⟨c0, c1, c2, c3, c4, c5⟩ := HB2.out _ k1
                go_wp2_with fail
                refine (CL _).mono ?_
                rintro e _ ⟨rfl, rfl⟩
                go_wp2_with fail
                refine (CH _).mono ?_
                rintro e _ ⟨rfl, rfl⟩
                go_wp2
                go_loopw [5] (fun iv wr => ∃ j : Nat, j ≤ o.length ∧ iv = .int .i64 j ∧ Hid (sameL o o' = sameL (o.drop j) (o'.drop j)) ∧ Keep w1 wr) (fun iv _ => o.length - (intOf iv).toNat)
                case atStart => exact ⟨0, Nat.zero_le _, rfl, rfl, Keep.refl _⟩
                case round =>
                  obtain ⟨j, hj, rfl, hd, hk⟩ := hrel
                  replace k1 := k1.trans hk
                  clear b0 b1 b2 b3 b4 b5
                  clear c0 c1 c2 c3 c4 c5
                  obtain ⟨b0, b1, b2, b3, b4, b5⟩ := HB.out _ k1
                  obtain ⟨c0, c1, c2, c3, c4, c5⟩ := HB2.out _ k1
                  by_cases hlt : j < o.length
                  · have hi1 : (j : Int) < o.length := by omega
                    have hi2 : (j : Int) < o'.length := by have := HOL.out; omega
                    have hj0 : (0 : Int) ≤ j := by omega
                    have hO1 := hO.kept k1
                    have hO2 := hO'.kept k1
                    obtain ⟨b, off, rfl, hbb⟩ := hO1.addr (by omega)
                    obtain ⟨b', off', rfl, hbb'⟩ := hO2.addr (by have := HOL.out; omega)
                    obtain ⟨_, RX, OX, rx, ox, hx6, hx⟩ := hO1.elem j hlt
                    obtain ⟨_, RY, OY, ry, oy, hy6, hy⟩ := hO2.elem j (by have := HOL.out; omega)
                    have hmem := getD_mem zero o j hlt
                    have hmem' := getD_mem zero o' j (by have := HOL.out; omega)
                    have hdp := hsub _ hmem
                    have hfi := hfo _ hmem
                    have hfi' := hfo' _ hmem'
                    have HD := Lib.hid (hd.out.trans (sameL_at zero o o' j HOL.out hlt))
                    generalize o.getD j zero = x at *
                    generalize o'.getD j zero = y at *
                    have hC : ∀ p : KeptOf wr, Calls Tryz.prog 16 #[.agg #[.int .i64 (kind x), .int .i64 (field x), .slice RX (rs x).length rx, .float .f64 (lo x), .float .f64 (hi x), .slice OX (of x).length ox], .agg #[.int .i64 (kind y), .int .i64 (field y), .slice RY (rs y).length ry, .float .f64 (lo y), .float .f64 (hi y), .slice OY (of y).length oy]] p.w fun e w' => e = .returned (.bool (same x y)) ∧ Keep p.w w' := fun p => ih x y RX OX rx ox RY OY ry oy p.w (by omega) hfi hfi' (hx.kept p.h) (hy.kept p.h)
                    have hX6 := fun p : KeptOf wr => hx6.kept hbb p.h
                    have hY6 := fun p : KeptOf wr => hy6.kept hbb' p.h
                    have q0 := fun p => (hX6 p).1
                    have q1 := fun p => (hX6 p).2.1
                    have q2 := fun p => (hX6 p).2.2.1
                    have q3 := fun p => (hX6 p).2.2.2.1
                    have q4 := fun p => (hX6 p).2.2.2.2.1
                    have q5 := fun p => (hX6 p).2.2.2.2.2
                    have r0 := fun p => (hY6 p).1
                    have r1 := fun p => (hY6 p).2.1
                    have r2 := fun p => (hY6 p).2.2.1
                    have r3 := fun p => (hY6 p).2.2.2.1
                    have r4 := fun p => (hY6 p).2.2.2.2.1
                    have r5 := fun p => (hY6 p).2.2.2.2.2
                    have s5 := fun p : KeptOf wr => (HB.out _ (k1.trans p.h)).2.2.2.2.2
                    have t5 := fun p : KeptOf wr => (HB2.out _ (k1.trans p.h)).2.2.2.2.2
                    clear hX6 hY6 hx6 hy6 hx hy hsub hdp hmem hmem' hfi hfi' hfo hfo' hd hO1 hO2
                    cases hs : same x y
                    · rw [hs] at hC
                      have HF := Lib.hid (show sameL o o' = false by rw [HD.out, hs]; rfl)
                      clear HD hs ih
                      go_wp2
                      clear b0 b1 b2 b3 b4 b5
                      clear c0 c1 c2 c3 c4 c5
                      refine wp_region_kept (by kernel_rfl) (by kernel_rfl) ?_
                      repeat (go_big_quiet_step (first | with_reducible exact KeptOf.of (hC _)))
                      refine Go.wpQuiet_nil ?_
                      intro _ hw'
                      obtain ⟨⟨V, hw⟩, hw''⟩ := hw'
                      subst hw''
                      go_wp2
                      go_ret
                      exact ⟨ret_bool (by rw [HS.out, HF.out]), (hkX.trans k1).trans hw⟩
                    · rw [hs] at hC
                      have HF := Lib.hid (show sameL o o' = sameL (o.drop (j + 1)) (o'.drop (j + 1)) by rw [HD.out, hs]; rfl)
                      clear HD hs ih
                      go_wp2
                      clear b0 b1 b2 b3 b4 b5
                      clear c0 c1 c2 c3 c4 c5
                      refine wp_region_kept (by kernel_rfl) (by kernel_rfl) ?_
                      repeat (go_big_quiet_step (first | with_reducible exact KeptOf.of (hC _)))
                      refine Go.wpQuiet_nil ?_
                      intro _ hw'
                      obtain ⟨⟨V, hw⟩, hw''⟩ := hw'
                      subst hw''
                      go_wp2
                      go_roundw
                      case rel => exact ⟨j + 1, by omega, by go_num, HF, hk.trans hw⟩
                      case measure => simp [intOf]; omega
                  · obtain rfl : j = o.length := by omega
                    have HF := Lib.hid (show sameL o o' = true by rw [hd.out, List.drop_length, show o'.drop o.length = [] from by rw [HOL.out, List.drop_length], sameL])
                    go_wp2
                    go_ret
                    exact ⟨ret_bool (by rw [HS.out, HF.out]), hkX.trans k1⟩
              · have d6 : ((o.length : Int) != (o'.length : Int)) = true := by simp; omega
                have HS := Lib.hid (show same (.mk k f r l h o) (.mk k' f' r' l' h' o') = false by rw [HSE.out, b1, b2, b3, b4, b5, sameL_len o o' hol']; rfl)
                clear b1 b2 b3 b4 b5 HSE hsub hfo hfo' ih hO hO'

                go_enter Tryz.func16, Tryz.ntmps16
                go_wp2_with fail
                rw [← hX]
                clear hX
                refine (CR _ (Keep.refl _)).mono ?_
                rintro e w1 ⟨rfl, k1⟩
                replace k1 := k1.keep
                obtain ⟨b0, b1, b2, b3, b4, b5⟩ := HB.out _ k1
                obtain ⟨c0, c1, c2, c3, c4, c5⟩ := HB2.out _ k1
                go_wp2_with fail
                refine (CL _).mono ?_
                rintro e _ ⟨rfl, rfl⟩
                go_wp2_with fail
                refine (CH _).mono ?_
                rintro e _ ⟨rfl, rfl⟩
                go_wp2
                go_ret
                exact ⟨ret_bool HS.out.symm, hkX.trans k1⟩
      · have b2 : (f == f') = false := by simpa using h2
        have d2 : (f != f') = true := by simpa using h2
        have HS := Lib.hid (show same (.mk k f r l h o) (.mk k' f' r' l' h' o') = false by rw [HSE.out, b1, b2]; rfl)
        clear b1 b2 h2 HSE CR CL CH hsub hfo hfo' ih hO hO'

        go_enter Tryz.func16, Tryz.ntmps16
        go_wp2
        go_ret
        exact ⟨ret_bool HS.out.symm, by rw [← hX]; exact hkX⟩
    · have b1 : (k == k') = false := by simpa using h1
      have d1 : (k != k') = true := by simpa using h1
      have HS := Lib.hid (show same (.mk k f r l h o) (.mk k' f' r' l' h' o') = false by rw [HSE.out, b1]; rfl)
      clear b1 h1 HSE CR CL CH hsub hfo hfo' ih hO hO'

      go_enter Tryz.func16, Tryz.ntmps16
      go_wp2
      go_ret
      exact ⟨ret_bool HS.out.symm, by rw [← hX]; exact hkX⟩
end Go.Proofs.YtdkeibgfehblaaaGreatDoor.Tr
/- Layer 11's reference: which expressions may be. Conditions: lists at most a million. -/
namespace Go.Proofs.YtdkeibgfehblaaaGreatDoor.Tr
set_option linter.unusedVariables false
open Go.ChangeShapes Go.WideShapes Go.ChangeAt Go.RowKit
open Go.Proofs.YtdkeibgfehblaaaGreatDoor.Fp (sameB)
open Go.Proofs.YtdkeibgfehblaaaGreatDoor.Re (tOk tL)

theorem plain_any (b : Nat) (hb : b < 18446744073709551616) (w : World) : Calls Tryz.prog 40 #[.float .f64 b] w fun e w' => e = .returned (.bool (plain b)) ∧ w = w' := by
  have HC := Lib.hid (Ref3.same_any b 0 hb (by omega) w)
  go_enter Tryz.func40, Tryz.ntmps40
  go_wp2_with fail
  refine HC.out.mono ?_
  rintro e _ ⟨rfl, rfl⟩
  go_wp2
  go_ret
  exact ⟨rfl, rfl⟩
theorem bound_any (b : Nat) (hb : b < 18446744073709551616) (w : World) : Calls Tryz.prog 49 #[.float .f64 b] w fun e w' => e = .returned (.bool (tOk b)) ∧ Keep w w' := by
  have HC := Lib.hid (Ref3.text_any b hb w)
  go_enter Tryz.func49, Tryz.ntmps49
  go_wp2_with fail
  refine HC.out.mono ?_
  rintro e w1 ⟨rfl, hk⟩
  go_wp2
  go_ret
  exact ⟨rfl, hk⟩
theorem num_any (n : Int) (w : World) : Calls Tryz.prog 50 #[.int .i64 n] w fun e w' => e = .returned (.bool (numR n)) ∧ w = w' := by
  by_cases h0 : n < 0
  · have e1 : numR n = false := Gu.inR_lo h0
    rw [e1]
    clear e1
    go_enter Tryz.func50, Tryz.ntmps50
    go_wp2
    go_ret
    exact ⟨rfl, rfl⟩
  · by_cases h1 : 9007199254740992 < n
    · have e1 : numR n = false := Gu.inR_hi h1
      have dn : decide (n ≤ 9007199254740992) = false := by simp; omega
      rw [e1]
      clear e1
      go_enter Tryz.func50, Tryz.ntmps50
      go_wp2
      go_ret
      exact ⟨rfl, rfl⟩
    · have e1 : numR n = true := Gu.inR_mk (by omega) (by omega)
      rw [e1]
      clear e1
      go_enter Tryz.func50, Tryz.ntmps50
      go_wp2
      go_ret
      exact ⟨rfl, rfl⟩


theorem atomR_off {f : Int} {r : List (Int × Int)} {l h n : Nat} (h1 : 0 < n ∨ f < 1 ∨ 6 < f) : atomR f r l h n = false := by
  unfold atomR
  rcases h1 with h1 | h1 | h1
  · rw [show (n == 0) = false by simp; omega]; rfl
  · rw [show decide (1 ≤ f) = false by simp; omega]; simp
  · rw [show decide (f ≤ 6) = false by simp; omega]; simp
theorem atomR_on {f : Int} {r : List (Int × Int)} {l h n : Nat} (h1 : n = 0 ∧ 1 ≤ f ∧ f ≤ 6) : atomR f r l h n = if f = 6 then r.length == 0 && (tOk l && tOk h) else rangesR r && (!(r.length == 0) && (plain l && plain h)) := by
  unfold atomR
  rw [show (n == 0) = true by simp; omega, show decide (1 ≤ f) = true by simp; omega, show decide (f ≤ 6) = true by simp; omega]; rfl
set_option maxHeartbeats 4000000 in
theorem atom_any (e : ExprP) (RA OA : Option Addr) (rc oc : Nat) (w : World) (hfit : fits e) (hE : Ex w e RA OA) :
    Calls Tryz.prog 39 #[.agg #[.int .i64 (kind e), .int .i64 (field e), .slice RA (rs e).length rc, .float .f64 (lo e), .float .f64 (hi e), .slice OA (of e).length oc]] w fun e' w' => e' = .returned (.bool (atomR (field e) (rs e) (lo e) (hi e) (of e).length)) ∧ Keep w w' := by
  obtain ⟨k, f, r, l, h, o⟩ := e
  rw [fits] at hfit
  obtain ⟨⟨hrl, hol⟩, ⟨hl64, hh64⟩, _⟩ := hfit
  simp only [kind, field, rs, lo, hi, of]
  obtain ⟨X, hX⟩ : ∃ X, X = w.alloc (.cells #[.int .i64 k, .int .i64 f, .slice RA r.length rc, .float .f64 l, .float .f64 h, .slice OA o.length oc] 35) := ⟨_, rfl⟩
  have hkX : Keep w X := by rw [hX]; exact (Keep.refl w).alloc _
  have hltX : w.heap.size < X.heap.size := by rw [hX]; simp
  have hEl : ElemAt X (.mk k f r l h o) RA OA rc oc w.heap.size 0 := by rw [hX]; exact ElemAt.new w (.mk k f r l h o) RA OA rc oc 35
  have HB := Lib.hid (show ∀ W, Keep X W → W.cell? ⟨w.heap.size, 0, none⟩ = some (.int .i64 k) ∧ W.cell? ⟨w.heap.size, 1, none⟩ = some (.int .i64 f) ∧ W.cell? ⟨w.heap.size, 2, none⟩ = some (.slice RA r.length rc) ∧ W.cell? ⟨w.heap.size, 3, none⟩ = some (.float .f64 l) ∧ W.cell? ⟨w.heap.size, 4, none⟩ = some (.float .f64 h) ∧ W.cell? ⟨w.heap.size, 5, none⟩ = some (.slice OA o.length oc) from fun W hk => hEl.kept hltX hk)
  have hEX := hE.kept hkX
  clear hEl hE hltX
  have hRX := hEX.1
  simp only [rs] at hRX
  clear hEX
  have CBL := Lib.hid (fun W => bound_any l hl64 W)
  have CBH := Lib.hid (fun W => bound_any h hh64 W)
  have CPL := Lib.hid (fun W => plain_any l hl64 W)
  have CPH := Lib.hid (fun W => plain_any h hh64 W)
  clear hl64 hh64
  by_cases h1 : 0 < o.length
  · have HS := Lib.hid (show atomR f r l h o.length = false from atomR_off (.inl h1))
    have q1 : decide (0 < o.length) = true := by simpa using h1
    have q1' : decide ((0 : Int) < (o.length : Int)) = true := by simpa using h1
    clear h1
    go_enter Tryz.func39, Tryz.ntmps39
    go_wp2
    go_ret
    exact ⟨ret_bool HS.out.symm, by rw [← hX]; exact hkX⟩
  have q1 : decide (0 < o.length) = false := by simpa using h1
  have q1' : decide ((0 : Int) < (o.length : Int)) = false := by simpa using h1
  by_cases h2 : f < 1
  · have HS := Lib.hid (show atomR f r l h o.length = false from atomR_off (.inr (.inl h2)))
    have q2 : decide (f < 1) = true := by simpa using h2
    clear h1 h2
    go_enter Tryz.func39, Tryz.ntmps39
    go_wp2
    go_ret
    exact ⟨ret_bool HS.out.symm, by rw [← hX]; exact hkX⟩
  have q2 : decide (f < 1) = false := by simpa using h2
  by_cases h3 : 6 < f
  · have HS := Lib.hid (show atomR f r l h o.length = false from atomR_off (.inr (.inr h3)))
    have q3 : decide (6 < f) = true := by simpa using h3
    clear h1 h2 h3
    go_enter Tryz.func39, Tryz.ntmps39
    go_wp2
    go_ret
    exact ⟨ret_bool HS.out.symm, by rw [← hX]; exact hkX⟩
  have q3 : decide (6 < f) = false := by simpa using h3
  have HON := Lib.hid (show atomR f r l h o.length = if f = 6 then r.length == 0 && (tOk l && tOk h) else rangesR r && (!(r.length == 0) && (plain l && plain h)) from atomR_on ⟨by omega, by omega, by omega⟩)
  clear h1 h2 h3
  by_cases h6 : f = 6
  · have HON := Lib.hid (show atomR f r l h o.length = (r.length == 0 && (tOk l && tOk h)) by rw [HON.out, if_pos h6])
    have d6 : (f == 6) = true := by simpa using h6
    clear h6
    by_cases hr0 : r.length = 0
    · have dr : ((r.length : Int) == 0) = true := by simpa using hr0
      have dr' : (r.length == 0) = true := by simpa using hr0
      have HON := Lib.hid (show atomR f r l h o.length = (tOk l && tOk h) by rw [HON.out, show (r.length == 0) = true by rw [beq_iff_eq]; omega]; simp)
      clear hr0
      generalize tOk l = bl at *
      generalize tOk h = bh at *
      cases bl
      · go_enter Tryz.func39, Tryz.ntmps39
        go_wp2_with fail
        rw [← hX]
        clear hX
        refine (CBL.out _).mono ?_
        rintro e w1 ⟨rfl, hk1⟩
        go_wp2
        go_ret
        exact ⟨ret_bool (by rw [HON.out]; rfl), hkX.trans hk1⟩
      · go_enter Tryz.func39, Tryz.ntmps39
        go_wp2_with fail
        rw [← hX]
        clear hX
        refine (CBL.out _).mono ?_
        rintro e w1 ⟨rfl, hk1⟩
        obtain ⟨b0, b1, b2, b3, b4, b5⟩ := HB.out _ hk1
        go_wp2_with fail
        refine (CBH.out _).mono ?_
        rintro e w2 ⟨rfl, hk2⟩
        go_wp2
        go_ret
        have hz : atomR f r l h o.length = bh := by rw [HON.out, Bool.true_and]
        rw [hz]
        exact ⟨rfl, (hkX.trans hk1).trans hk2⟩
    · have dr : ((r.length : Int) == 0) = false := by simpa using hr0
      have dr' : (r.length == 0) = false := by simpa using hr0
      have HS := Lib.hid (show atomR f r l h o.length = false by rw [HON.out, show (r.length == 0) = false by rw [beq_eq_false_iff_ne]; omega]; simp)
      clear hr0
      go_enter Tryz.func39, Tryz.ntmps39
      go_wp2
      go_ret
      exact ⟨ret_bool HS.out.symm, by rw [← hX]; exact hkX⟩
  · have HON := Lib.hid (show atomR f r l h o.length = (rangesR r && (!(r.length == 0) && (plain l && plain h))) by rw [HON.out, if_neg h6])
    have d6 : (f == 6) = false := by simpa using h6
    clear h6
    go_enter Tryz.func39, Tryz.ntmps39
    go_wp2
    rw [← hX]
    clear hX
    go_loopw [3] (fun iv wr => ∃ j : Nat, j ≤ r.length ∧ iv = .int .i64 j ∧ Hid ((r.take j).all (fun p => numR p.1 && numR p.2) = true) ∧ Keep X wr) (fun iv _ => r.length - (intOf iv).toNat)
    case atStart => exact ⟨0, Nat.zero_le _, rfl, rfl, Keep.refl _⟩
    case round =>
      obtain ⟨j, hj, rfl, hall, hk⟩ := hrel
      obtain ⟨b0, b1, b2, b3, b4, b5⟩ := HB.out _ hk
      by_cases hlt : j < r.length
      · have hi1 : (j : Int) < r.length := by omega
        have hj0 : (0 : Int) ≤ j := by omega
        have hRw := hRX.kept hk
        obtain ⟨b, off, rfl, hbb⟩ := hRw.addr (by omega)
        obtain ⟨_, x0, x1⟩ := hRw.pair j hlt
        have HA := Lib.hid (all_snoc (fun p : Int × Int => numR p.1 && numR p.2) (0, 0) r j hlt)
        have HNo := Lib.hid (all_no (fun p : Int × Int => numR p.1 && numR p.2) (0, 0) r j hlt)
        generalize r.getD j (0, 0) = p at *
        obtain ⟨p1, p2⟩ := p
        simp only at x0 x1
        have CN1 := Lib.hid (fun W => num_any p1 W)
        have CN2 := Lib.hid (fun W => num_any p2 W)
        cases g1 : numR p1
        · rw [g1] at CN1
          have HF := Lib.hid (show rangesR r = false from HNo.out (by simp [g1]))
          clear HA HNo g1 hRw
          go_wp2_with fail
          refine (CN1.out _).mono ?_
          rintro e _ ⟨rfl, rfl⟩
          go_wp2
          go_ret
          exact ⟨ret_bool (by rw [HON.out, HF.out, Bool.false_and]), hkX.trans hk⟩
        · rw [g1] at CN1
          cases g2 : numR p2
          · rw [g2] at CN2
            have HF := Lib.hid (show rangesR r = false from HNo.out (by simp [g2]))
            clear HA HNo g1 g2 hRw
            go_wp2_with fail
            refine (CN1.out _).mono ?_
            rintro e _ ⟨rfl, rfl⟩
            go_wp2_with fail
            refine (CN2.out _).mono ?_
            rintro e _ ⟨rfl, rfl⟩
            go_wp2
            go_ret
            exact ⟨ret_bool (by rw [HON.out, HF.out, Bool.false_and]), hkX.trans hk⟩
          · rw [g2] at CN2
            have HF := Lib.hid (show (r.take (j + 1)).all (fun p => numR p.1 && numR p.2) = true by rw [HA.out, hall.out, g1, g2]; rfl)
            clear HA HNo g1 g2 hRw
            go_wp2_with fail
            refine (CN1.out _).mono ?_
            rintro e _ ⟨rfl, rfl⟩
            go_wp2_with fail
            refine (CN2.out _).mono ?_
            rintro e _ ⟨rfl, rfl⟩
            go_wp2
            go_roundw
            case rel => exact ⟨j + 1, by omega, by go_num, HF, hk⟩
            case measure => simp [intOf]; omega
      · obtain rfl : j = r.length := by omega
        have hF : rangesR r = true := by have := hall.out; rwa [List.take_length] at this
        by_cases hr0 : 0 < r.length
        · have q7 : decide (0 < r.length) = true := by simpa using hr0
          have q7' : decide ((0 : Int) < (r.length : Int)) = true := by simpa using hr0
          have HON := Lib.hid (show atomR f r l h o.length = (plain l && plain h) by rw [HON.out, hF, show (r.length == 0) = false by rw [beq_eq_false_iff_ne]; omega]; simp)
          clear hr0
          generalize plain l = bl at *
          generalize plain h = bh at *
          cases bl
          · go_wp2_with fail
            refine (CPL.out _).mono ?_
            rintro e _ ⟨rfl, rfl⟩
            go_wp2
            go_ret
            exact ⟨ret_bool (by rw [HON.out]; rfl), hkX.trans hk⟩
          · go_wp2_with fail
            refine (CPL.out _).mono ?_
            rintro e _ ⟨rfl, rfl⟩
            go_wp2_with fail
            refine (CPH.out _).mono ?_
            rintro e _ ⟨rfl, rfl⟩
            go_wp2
            go_ret
            have hz : atomR f r l h o.length = bh := by rw [HON.out, Bool.true_and]
            rw [hz]
            exact ⟨rfl, hkX.trans hk⟩
        · have HS := Lib.hid (show atomR f r l h o.length = false by rw [HON.out, hF, show (r.length == 0) = true by rw [beq_iff_eq]; omega]; simp)
          have q7 : decide (0 < r.length) = false := by simpa using hr0
          have q7' : decide ((0 : Int) < (r.length : Int)) = false := by simpa using hr0
          clear hr0
          go_wp2
          go_ret
          exact ⟨ret_bool HS.out.symm, hkX.trans hk⟩


set_option maxHeartbeats 8000000 in
theorem right_any : ∀ (N : Nat) (e : ExprP) (RA OA : Option Addr) (rc oc : Nat) (w : World), dp e ≤ N → fits e → Ex w e RA OA →
    Calls Tryz.prog 25 #[.agg #[.int .i64 (kind e), .int .i64 (field e), .slice RA (rs e).length rc, .float .f64 (lo e), .float .f64 (hi e), .slice OA (of e).length oc]] w fun e' w' => e' = .returned (.bool (right e)) ∧ Keep w w' := by
  intro N
  induction N with
  | zero => intro e RA OA rc oc w hN; exact absurd (dp_pos e) (by omega)
  | succ N ih =>
    intro e RA OA rc oc w hN hfit hE
    have hsub := fun x (hx : x ∈ of e) => dp_of hx
    have CA := Lib.hid (fun (W : World) (hW : Keep w W) => atom_any e RA OA rc oc W hfit (hE.kept hW))
    obtain ⟨k, f, r, l, h, o⟩ := e
    rw [fits] at hfit
    obtain ⟨⟨hrl, hol⟩, ⟨hl64, hh64⟩, hfo⟩ := hfit
    replace hfo := fitsL_mem hfo
    simp only [kind, field, rs, lo, hi, of] at hsub CA ⊢
    obtain ⟨X, hX⟩ : ∃ X, X = w.alloc (.cells #[.int .i64 k, .int .i64 f, .slice RA r.length rc, .float .f64 l, .float .f64 h, .slice OA o.length oc] 35) := ⟨_, rfl⟩
    have hkX : Keep w X := by rw [hX]; exact (Keep.refl w).alloc _
    have hltX : w.heap.size < X.heap.size := by rw [hX]; simp
    have hEl : ElemAt X (.mk k f r l h o) RA OA rc oc w.heap.size 0 := by rw [hX]; exact ElemAt.new w (.mk k f r l h o) RA OA rc oc 35
    have HB := Lib.hid (show ∀ W, Keep X W → W.cell? ⟨w.heap.size, 0, none⟩ = some (.int .i64 k) ∧ W.cell? ⟨w.heap.size, 1, none⟩ = some (.int .i64 f) ∧ W.cell? ⟨w.heap.size, 2, none⟩ = some (.slice RA r.length rc) ∧ W.cell? ⟨w.heap.size, 3, none⟩ = some (.float .f64 l) ∧ W.cell? ⟨w.heap.size, 4, none⟩ = some (.float .f64 h) ∧ W.cell? ⟨w.heap.size, 5, none⟩ = some (.slice OA o.length oc) from fun W hk => hEl.kept hltX hk)
    have hEX := hE.kept hkX
    clear hEl hE hltX
    have hO : Exs X OA o := hEX.exs
    clear hEX
    have CPL := Lib.hid (fun W => plain_any l hl64 W)
    have CPH := Lib.hid (fun W => plain_any h hh64 W)
    clear hl64 hh64 hrl
    by_cases h1 : k = 1
    · have HON := Lib.hid (show right (.mk k f r l h o) = atomR f r l h o.length by rw [right, if_pos h1])
      have d1 : (k == 1) = true := by simpa using h1
      clear h1 hsub hfo ih hO
      go_enter Tryz.func25, Tryz.ntmps25
      go_wp2_with fail
      rw [← hX]
      clear hX
      refine (CA.out _ hkX).mono ?_
      rintro e w1 ⟨rfl, hk1⟩
      go_wp2
      go_ret
      exact ⟨ret_bool HON.out.symm, hkX.trans hk1⟩
    have HON := Lib.hid (show right (.mk k f r l h o) = ((f == 0 && (r.length == 0 && (plain l && plain h))) && (manyR k o.length && rightL o)) by rw [right, if_neg h1])
    have d1 : (k == 1) = false := by simpa using h1
    clear h1 CA
    by_cases h2 : f = 0
    · have d2 : (f != 0) = false := by simpa using h2
      by_cases h3 : 0 < r.length
      · have q3 : decide (0 < r.length) = true := by simpa using h3
        have q3' : decide ((0 : Int) < (r.length : Int)) = true := by simpa using h3
        have HS := Lib.hid (show right (.mk k f r l h o) = false by rw [HON.out, show (r.length == 0) = false by rw [beq_eq_false_iff_ne]; omega]; simp)
        clear h2 h3 hsub hfo ih hO
        go_enter Tryz.func25, Tryz.ntmps25
        go_wp2
        go_ret
        exact ⟨ret_bool HS.out.symm, by rw [← hX]; exact hkX⟩
      · have q3 : decide (0 < r.length) = false := by simpa using h3
        have q3' : decide ((0 : Int) < (r.length : Int)) = false := by simpa using h3
        have HON := Lib.hid (show right (.mk k f r l h o) = ((plain l && plain h) && (manyR k o.length && rightL o)) by rw [HON.out, show (r.length == 0) = true by rw [beq_iff_eq]; omega, show (f == 0) = true by simpa using h2]; rfl)
        clear h2 h3
        cases hpl : plain l
        · have HS := Lib.hid (show right (.mk k f r l h o) = false by rw [HON.out, hpl]; rfl)
          rw [hpl] at CPL
          clear hpl hsub hfo ih hO
          go_enter Tryz.func25, Tryz.ntmps25
          go_wp2_with fail
          rw [← hX]
          clear hX
          refine (CPL.out _).mono ?_
          rintro e _ ⟨rfl, rfl⟩
          obtain ⟨b0, b1, b2, b3, b4, b5⟩ := HB.out _ (Keep.refl _)
          go_wp2
          go_ret
          exact ⟨ret_bool HS.out.symm, hkX⟩
        · rw [hpl] at CPL
          cases hph : plain h
          · have HS := Lib.hid (show right (.mk k f r l h o) = false by rw [HON.out, hph]; simp)
            rw [hph] at CPH
            clear hpl hph hsub hfo ih hO
            go_enter Tryz.func25, Tryz.ntmps25
            go_wp2_with fail
            rw [← hX]
            clear hX
            refine (CPL.out _).mono ?_
            rintro e _ ⟨rfl, rfl⟩
            obtain ⟨b0, b1, b2, b3, b4, b5⟩ := HB.out _ (Keep.refl _)
            go_wp2_with fail
            refine (CPH.out _).mono ?_
            rintro e _ ⟨rfl, rfl⟩
            go_wp2
            go_ret
            exact ⟨ret_bool HS.out.symm, hkX⟩
          · rw [hph] at CPH
            have HON := Lib.hid (show right (.mk k f r l h o) = (manyR k o.length && rightL o) by rw [HON.out, hpl, hph]; rfl)
            clear hpl hph
            by_cases k0 : k = 0
            · have dk0 : (k == 0) = true := by simpa using k0
              have HON := Lib.hid (show right (.mk k f r l h o) = (o.length == 0) by
                rw [HON.out, manyR, if_pos k0]
                cases ho : (o.length == 0)
                · rfl
                · obtain rfl : o = [] := List.eq_nil_of_length_eq_zero (by simpa using ho)
                  rw [rightL]; rfl)
              have hcast : ((o.length : Int) == 0) = (o.length == 0) := by rw [Bool.eq_iff_iff]; simp
              clear k0 hsub hfo ih hO
              go_enter Tryz.func25, Tryz.ntmps25
              go_wp2_with fail
              rw [← hX]
              clear hX
              refine (CPL.out _).mono ?_
              rintro e _ ⟨rfl, rfl⟩
              obtain ⟨b0, b1, b2, b3, b4, b5⟩ := HB.out _ (Keep.refl _)
              go_wp2_with fail
              refine (CPH.out _).mono ?_
              rintro e _ ⟨rfl, rfl⟩
              go_wp2
              go_ret
              exact ⟨ret_bool (by first | (rw [HON.out]; done) | (rw [HON.out, hcast]; done)), hkX⟩
            · have dk0 : (k == 0) = false := by simpa using k0
              by_cases k2 : k = 2
              · have dk2 : (k == 2) = true := by simpa using k2
                by_cases hn : o.length = 1
                · have dn : ((o.length : Int) != 1) = false := by simp; omega
                  have HON := Lib.hid (show right (.mk k f r l h o) = rightL o by rw [HON.out, manyR, if_neg k0, if_pos k2, show (o.length == 1) = true by rw [beq_iff_eq]; omega]; rfl)
                  clear k0 k2 hn
                  go_enter Tryz.func25, Tryz.ntmps25
                  go_wp2_with fail
                  rw [← hX]
                  clear hX
                  refine (CPL.out _).mono ?_
                  rintro e _ ⟨rfl, rfl⟩
                  obtain ⟨b0, b1, b2, b3, b4, b5⟩ := HB.out _ (Keep.refl _)
                  go_wp2_with fail
                  refine (CPH.out _).mono ?_
                  rintro e _ ⟨rfl, rfl⟩
                  go_wp2
                  go_loopw [3] (fun iv wr => ∃ j : Nat, j ≤ o.length ∧ iv = .int .i64 j ∧ Hid ((o.take j).all (fun x => !(kind x == 0) && right x) = true) ∧ Keep X wr) (fun iv _ => o.length - (intOf iv).toNat)
                  case atStart => exact ⟨0, Nat.zero_le _, rfl, rfl, Keep.refl _⟩
                  case round =>
                    obtain ⟨j, hj, rfl, hall, hk⟩ := hrel
                    clear b0 b1 b2 b3 b4 b5
                    obtain ⟨b0, b1, b2, b3, b4, b5⟩ := HB.out _ hk
                    by_cases hlt : j < o.length
                    · skip
                      have hi1 : (j : Int) < o.length := by omega
                      have hj0 : (0 : Int) ≤ j := by omega
                      have hOw := hO.kept hk
                      obtain ⟨b, off, rfl, hbb⟩ := hOw.addr (by omega)
                      obtain ⟨_, RA', OA', rc', oc', hx6, hx⟩ := hOw.elem j hlt
                      have hmem := getD_mem zero o j hlt
                      have hdp := hsub _ hmem
                      have hfi := hfo _ hmem
                      have HA := Lib.hid (all_snoc (fun x => !(kind x == 0) && right x) zero o j hlt)
                      have HNo := Lib.hid (all_no (fun x => !(kind x == 0) && right x) zero o j hlt)
                      generalize o.getD j zero = x at *
                      obtain ⟨x0, x1, x2, x3, x4, x5⟩ := hx6
                      cases g1 : (kind x == 0)
                      · cases g2 : right x
                        · have HC := Lib.hid (show ∀ W, Keep wr W → Calls Tryz.prog 25 #[.agg #[.int .i64 (kind x), .int .i64 (field x), .slice RA' (rs x).length rc', .float .f64 (lo x), .float .f64 (hi x), .slice OA' (of x).length oc']] W fun e' w' => e' = .returned (.bool false) ∧ Keep W w' from fun W hW => by
                            have := ih x RA' OA' rc' oc' W (by omega) hfi (hx.kept hW)
                            rwa [g2] at this)
                          have HF := Lib.hid (show rightL o = false by rw [rightL_all]; exact HNo.out (by simp [g2]))
                          clear HA HNo g2 hx hsub hdp hmem hfi hfo ih
                          go_wp2_with fail
                          refine (HC.out _ (Keep.refl _)).mono ?_
                          rintro e w1 ⟨rfl, hk1⟩
                          go_wp2
                          go_ret
                          exact ⟨ret_bool (by rw [HON.out, HF.out]), (hkX.trans hk).trans hk1⟩
                        · have HC := Lib.hid (show ∀ W, Keep wr W → Calls Tryz.prog 25 #[.agg #[.int .i64 (kind x), .int .i64 (field x), .slice RA' (rs x).length rc', .float .f64 (lo x), .float .f64 (hi x), .slice OA' (of x).length oc']] W fun e' w' => e' = .returned (.bool true) ∧ Keep W w' from fun W hW => by
                            have := ih x RA' OA' rc' oc' W (by omega) hfi (hx.kept hW)
                            rwa [g2] at this)
                          have HF := Lib.hid (show (o.take (j + 1)).all (fun x => !(kind x == 0) && right x) = true by rw [HA.out, hall.out, g1, g2]; rfl)
                          clear HA HNo g2 hx hsub hdp hmem hfi hfo ih
                          go_wp2_with fail
                          refine (HC.out _ (Keep.refl _)).mono ?_
                          rintro e w1 ⟨rfl, hk1⟩
                          go_wp2
                          go_roundw
                          case rel => exact ⟨j + 1, by omega, by go_num, HF, hk.trans hk1⟩
                          case measure => simp [intOf]; omega
                      · have HF := Lib.hid (show rightL o = false by rw [rightL_all]; exact HNo.out (by simp [g1]))
                        clear HA HNo hx hsub hdp hmem hfi hfo ih
                        go_wp2
                        go_ret
                        exact ⟨ret_bool (by rw [HON.out, HF.out]), hkX.trans hk⟩
                    · obtain rfl : j = o.length := by omega
                      have HF := Lib.hid (show rightL o = true by rw [rightL_all]; have := hall.out; rwa [List.take_length] at this)
                      go_wp2
                      go_ret
                      exact ⟨ret_bool (by rw [HON.out, HF.out]), hkX.trans hk⟩
                · have dn : ((o.length : Int) != 1) = true := by simp; omega
                  have HS := Lib.hid (show right (.mk k f r l h o) = false by rw [HON.out, manyR, if_neg k0, if_pos k2, show (o.length == 1) = false by rw [beq_eq_false_iff_ne]; omega]; rfl)
                  clear k0 k2 hn hsub hfo ih hO
                  go_enter Tryz.func25, Tryz.ntmps25
                  go_wp2_with fail
                  rw [← hX]
                  clear hX
                  refine (CPL.out _).mono ?_
                  rintro e _ ⟨rfl, rfl⟩
                  obtain ⟨b0, b1, b2, b3, b4, b5⟩ := HB.out _ (Keep.refl _)
                  go_wp2_with fail
                  refine (CPH.out _).mono ?_
                  rintro e _ ⟨rfl, rfl⟩
                  go_wp2
                  go_ret
                  exact ⟨ret_bool HS.out.symm, hkX⟩
              · have dk2 : (k == 2) = false := by simpa using k2
                have hk34 : k = 3 ∨ k ≠ 3 := by omega
                rcases hk34 with k3 | k3
                · have dk3 : (k == 3) = true := by simpa using k3
                  by_cases hn : o.length < 2
                  · have HS := Lib.hid (show right (.mk k f r l h o) = false by rw [HON.out, manyR, if_neg k0, if_neg k2, if_pos (Or.inl k3), show decide (2 ≤ o.length) = false by simp; omega]; rfl)
                    have q8 : decide (o.length < 2) = true := by simpa using hn
                    have q8' : decide ((o.length : Int) < 2) = true := by simp; omega
                    clear k0 k2 k3 hn hsub hfo ih hO
                    go_enter Tryz.func25, Tryz.ntmps25
                    go_wp2_with fail
                    rw [← hX]
                    clear hX
                    refine (CPL.out _).mono ?_
                    rintro e _ ⟨rfl, rfl⟩
                    obtain ⟨b0, b1, b2, b3, b4, b5⟩ := HB.out _ (Keep.refl _)
                    go_wp2_with fail
                    refine (CPH.out _).mono ?_
                    rintro e _ ⟨rfl, rfl⟩
                    go_wp2
                    go_ret
                    exact ⟨ret_bool HS.out.symm, hkX⟩
                  · have q8 : decide (o.length < 2) = false := by simp; omega
                    have q8' : decide ((o.length : Int) < 2) = false := by simp; omega
                    have HON := Lib.hid (show right (.mk k f r l h o) = rightL o by rw [HON.out, manyR, if_neg k0, if_neg k2, if_pos (Or.inl k3), show decide (2 ≤ o.length) = true by simp; omega]; rfl)
                    clear k0 k2 k3 hn
                    go_enter Tryz.func25, Tryz.ntmps25
                    go_wp2_with fail
                    rw [← hX]
                    clear hX
                    refine (CPL.out _).mono ?_
                    rintro e _ ⟨rfl, rfl⟩
                    obtain ⟨b0, b1, b2, b3, b4, b5⟩ := HB.out _ (Keep.refl _)
                    go_wp2_with fail
                    refine (CPH.out _).mono ?_
                    rintro e _ ⟨rfl, rfl⟩
                    go_wp2
                    go_loopw [3] (fun iv wr => ∃ j : Nat, j ≤ o.length ∧ iv = .int .i64 j ∧ Hid ((o.take j).all (fun x => !(kind x == 0) && right x) = true) ∧ Keep X wr) (fun iv _ => o.length - (intOf iv).toNat)
                    case atStart => exact ⟨0, Nat.zero_le _, rfl, rfl, Keep.refl _⟩
                    case round =>
                      obtain ⟨j, hj, rfl, hall, hk⟩ := hrel
                      clear b0 b1 b2 b3 b4 b5
                      obtain ⟨b0, b1, b2, b3, b4, b5⟩ := HB.out _ hk
                      by_cases hlt : j < o.length
                      · skip
                        have hi1 : (j : Int) < o.length := by omega
                        have hj0 : (0 : Int) ≤ j := by omega
                        have hOw := hO.kept hk
                        obtain ⟨b, off, rfl, hbb⟩ := hOw.addr (by omega)
                        obtain ⟨_, RA', OA', rc', oc', hx6, hx⟩ := hOw.elem j hlt
                        have hmem := getD_mem zero o j hlt
                        have hdp := hsub _ hmem
                        have hfi := hfo _ hmem
                        have HA := Lib.hid (all_snoc (fun x => !(kind x == 0) && right x) zero o j hlt)
                        have HNo := Lib.hid (all_no (fun x => !(kind x == 0) && right x) zero o j hlt)
                        generalize o.getD j zero = x at *
                        obtain ⟨x0, x1, x2, x3, x4, x5⟩ := hx6
                        cases g1 : (kind x == 0)
                        · cases g2 : right x
                          · have HC := Lib.hid (show ∀ W, Keep wr W → Calls Tryz.prog 25 #[.agg #[.int .i64 (kind x), .int .i64 (field x), .slice RA' (rs x).length rc', .float .f64 (lo x), .float .f64 (hi x), .slice OA' (of x).length oc']] W fun e' w' => e' = .returned (.bool false) ∧ Keep W w' from fun W hW => by
                              have := ih x RA' OA' rc' oc' W (by omega) hfi (hx.kept hW)
                              rwa [g2] at this)
                            have HF := Lib.hid (show rightL o = false by rw [rightL_all]; exact HNo.out (by simp [g2]))
                            clear HA HNo g2 hx hsub hdp hmem hfi hfo ih
                            go_wp2_with fail
                            refine (HC.out _ (Keep.refl _)).mono ?_
                            rintro e w1 ⟨rfl, hk1⟩
                            go_wp2
                            go_ret
                            exact ⟨ret_bool (by rw [HON.out, HF.out]), (hkX.trans hk).trans hk1⟩
                          · have HC := Lib.hid (show ∀ W, Keep wr W → Calls Tryz.prog 25 #[.agg #[.int .i64 (kind x), .int .i64 (field x), .slice RA' (rs x).length rc', .float .f64 (lo x), .float .f64 (hi x), .slice OA' (of x).length oc']] W fun e' w' => e' = .returned (.bool true) ∧ Keep W w' from fun W hW => by
                              have := ih x RA' OA' rc' oc' W (by omega) hfi (hx.kept hW)
                              rwa [g2] at this)
                            have HF := Lib.hid (show (o.take (j + 1)).all (fun x => !(kind x == 0) && right x) = true by rw [HA.out, hall.out, g1, g2]; rfl)
                            clear HA HNo g2 hx hsub hdp hmem hfi hfo ih
                            go_wp2_with fail
                            refine (HC.out _ (Keep.refl _)).mono ?_
                            rintro e w1 ⟨rfl, hk1⟩
                            go_wp2
                            go_roundw
                            case rel => exact ⟨j + 1, by omega, by go_num, HF, hk.trans hk1⟩
                            case measure => simp [intOf]; omega
                        · have HF := Lib.hid (show rightL o = false by rw [rightL_all]; exact HNo.out (by simp [g1]))
                          clear HA HNo hx hsub hdp hmem hfi hfo ih
                          go_wp2
                          go_ret
                          exact ⟨ret_bool (by rw [HON.out, HF.out]), hkX.trans hk⟩
                      · obtain rfl : j = o.length := by omega
                        have HF := Lib.hid (show rightL o = true by rw [rightL_all]; have := hall.out; rwa [List.take_length] at this)
                        go_wp2
                        go_ret
                        exact ⟨ret_bool (by rw [HON.out, HF.out]), hkX.trans hk⟩
                · have dk3 : (k == 3) = false := by simpa using k3
                  by_cases k4 : k = 4
                  · have dk4 : (k == 4) = true := by simpa using k4
                    by_cases hn : o.length < 2
                    · have HS := Lib.hid (show right (.mk k f r l h o) = false by rw [HON.out, manyR, if_neg k0, if_neg k2, if_pos (Or.inr k4), show decide (2 ≤ o.length) = false by simp; omega]; rfl)
                      have q8 : decide (o.length < 2) = true := by simpa using hn
                      have q8' : decide ((o.length : Int) < 2) = true := by simp; omega
                      clear k0 k2 k3 k4 hn hsub hfo ih hO
                      go_enter Tryz.func25, Tryz.ntmps25
                      go_wp2_with fail
                      rw [← hX]
                      clear hX
                      refine (CPL.out _).mono ?_
                      rintro e _ ⟨rfl, rfl⟩
                      obtain ⟨b0, b1, b2, b3, b4, b5⟩ := HB.out _ (Keep.refl _)
                      go_wp2_with fail
                      refine (CPH.out _).mono ?_
                      rintro e _ ⟨rfl, rfl⟩
                      go_wp2
                      go_ret
                      exact ⟨ret_bool HS.out.symm, hkX⟩
                    · have q8 : decide (o.length < 2) = false := by simp; omega
                      have q8' : decide ((o.length : Int) < 2) = false := by simp; omega
                      have HON := Lib.hid (show right (.mk k f r l h o) = rightL o by rw [HON.out, manyR, if_neg k0, if_neg k2, if_pos (Or.inr k4), show decide (2 ≤ o.length) = true by simp; omega]; rfl)
                      clear k0 k2 k3 k4 hn
                      go_enter Tryz.func25, Tryz.ntmps25
                      go_wp2_with fail
                      rw [← hX]
                      clear hX
                      refine (CPL.out _).mono ?_
                      rintro e _ ⟨rfl, rfl⟩
                      obtain ⟨b0, b1, b2, b3, b4, b5⟩ := HB.out _ (Keep.refl _)
                      go_wp2_with fail
                      refine (CPH.out _).mono ?_
                      rintro e _ ⟨rfl, rfl⟩
                      go_wp2
                      go_loopw [3] (fun iv wr => ∃ j : Nat, j ≤ o.length ∧ iv = .int .i64 j ∧ Hid ((o.take j).all (fun x => !(kind x == 0) && right x) = true) ∧ Keep X wr) (fun iv _ => o.length - (intOf iv).toNat)
                      case atStart => exact ⟨0, Nat.zero_le _, rfl, rfl, Keep.refl _⟩
                      case round =>
                        obtain ⟨j, hj, rfl, hall, hk⟩ := hrel
                        clear b0 b1 b2 b3 b4 b5
                        obtain ⟨b0, b1, b2, b3, b4, b5⟩ := HB.out _ hk
                        by_cases hlt : j < o.length
                        · skip
                          have hi1 : (j : Int) < o.length := by omega
                          have hj0 : (0 : Int) ≤ j := by omega
                          have hOw := hO.kept hk
                          obtain ⟨b, off, rfl, hbb⟩ := hOw.addr (by omega)
                          obtain ⟨_, RA', OA', rc', oc', hx6, hx⟩ := hOw.elem j hlt
                          have hmem := getD_mem zero o j hlt
                          have hdp := hsub _ hmem
                          have hfi := hfo _ hmem
                          have HA := Lib.hid (all_snoc (fun x => !(kind x == 0) && right x) zero o j hlt)
                          have HNo := Lib.hid (all_no (fun x => !(kind x == 0) && right x) zero o j hlt)
                          generalize o.getD j zero = x at *
                          obtain ⟨x0, x1, x2, x3, x4, x5⟩ := hx6
                          cases g1 : (kind x == 0)
                          · cases g2 : right x
                            · have HC := Lib.hid (show ∀ W, Keep wr W → Calls Tryz.prog 25 #[.agg #[.int .i64 (kind x), .int .i64 (field x), .slice RA' (rs x).length rc', .float .f64 (lo x), .float .f64 (hi x), .slice OA' (of x).length oc']] W fun e' w' => e' = .returned (.bool false) ∧ Keep W w' from fun W hW => by
                                have := ih x RA' OA' rc' oc' W (by omega) hfi (hx.kept hW)
                                rwa [g2] at this)
                              have HF := Lib.hid (show rightL o = false by rw [rightL_all]; exact HNo.out (by simp [g2]))
                              clear HA HNo g2 hx hsub hdp hmem hfi hfo ih
                              go_wp2_with fail
                              refine (HC.out _ (Keep.refl _)).mono ?_
                              rintro e w1 ⟨rfl, hk1⟩
                              go_wp2
                              go_ret
                              exact ⟨ret_bool (by rw [HON.out, HF.out]), (hkX.trans hk).trans hk1⟩
                            · have HC := Lib.hid (show ∀ W, Keep wr W → Calls Tryz.prog 25 #[.agg #[.int .i64 (kind x), .int .i64 (field x), .slice RA' (rs x).length rc', .float .f64 (lo x), .float .f64 (hi x), .slice OA' (of x).length oc']] W fun e' w' => e' = .returned (.bool true) ∧ Keep W w' from fun W hW => by
                                have := ih x RA' OA' rc' oc' W (by omega) hfi (hx.kept hW)
                                rwa [g2] at this)
                              have HF := Lib.hid (show (o.take (j + 1)).all (fun x => !(kind x == 0) && right x) = true by rw [HA.out, hall.out, g1, g2]; rfl)
                              clear HA HNo g2 hx hsub hdp hmem hfi hfo ih
                              go_wp2_with fail
                              refine (HC.out _ (Keep.refl _)).mono ?_
                              rintro e w1 ⟨rfl, hk1⟩
                              go_wp2
                              go_roundw
                              case rel => exact ⟨j + 1, by omega, by go_num, HF, hk.trans hk1⟩
                              case measure => simp [intOf]; omega
                          · have HF := Lib.hid (show rightL o = false by rw [rightL_all]; exact HNo.out (by simp [g1]))
                            clear HA HNo hx hsub hdp hmem hfi hfo ih
                            go_wp2
                            go_ret
                            exact ⟨ret_bool (by rw [HON.out, HF.out]), hkX.trans hk⟩
                        · obtain rfl : j = o.length := by omega
                          have HF := Lib.hid (show rightL o = true by rw [rightL_all]; have := hall.out; rwa [List.take_length] at this)
                          go_wp2
                          go_ret
                          exact ⟨ret_bool (by rw [HON.out, HF.out]), hkX.trans hk⟩
                  · have dk4 : (k == 4) = false := by simpa using k4
                    have HS := Lib.hid (show right (.mk k f r l h o) = false by rw [HON.out, manyR, if_neg k0, if_neg k2, if_neg (by omega)]; rfl)
                    clear k0 k2 k3 k4 hsub hfo ih hO
                    go_enter Tryz.func25, Tryz.ntmps25
                    go_wp2_with fail
                    rw [← hX]
                    clear hX
                    refine (CPL.out _).mono ?_
                    rintro e _ ⟨rfl, rfl⟩
                    obtain ⟨b0, b1, b2, b3, b4, b5⟩ := HB.out _ (Keep.refl _)
                    go_wp2_with fail
                    refine (CPH.out _).mono ?_
                    rintro e _ ⟨rfl, rfl⟩
                    go_wp2
                    go_ret
                    exact ⟨ret_bool HS.out.symm, hkX⟩
    · have d2 : (f != 0) = true := by simpa using h2
      have HS := Lib.hid (show right (.mk k f r l h o) = false by rw [HON.out, show (f == 0) = false by simpa using h2]; rfl)
      clear h2 hsub hfo ih hO
      go_enter Tryz.func25, Tryz.ntmps25
      go_wp2
      go_ret
      exact ⟨ret_bool HS.out.symm, by rw [← hX]; exact hkX⟩
end Go.Proofs.YtdkeibgfehblaaaGreatDoor.Tr
/- Layer 11's reference: digits, ranges' text, brackets. Conditions: lists at most a million. -/
namespace Go.Proofs.YtdkeibgfehblaaaGreatDoor.Tr
set_option linter.unusedVariables false
open Go.ChangeShapes Go.WideShapes Go.ChangeAt Go.RowKit
open Go.Proofs.YtdkeibgfehblaaaGreatDoor.Fp (sameB)
open Go.Proofs.YtdkeibgfehblaaaGreatDoor.Re (tOk tL)
theorem ret_str {a b : ByteArray} (h : a = b) : Ending.returned (.string a) = Ending.returned (.string b) := by rw [h]
theorem rng_snoc : ∀ (l : List (Int × Int)) (p : Int × Int), rng (l ++ [p]) = if l.length = 0 then range1 p else rng l ++ (44 :: range1 p)
  | [], p => rfl
  | [q], p => rfl
  | q :: q' :: l, p => by
    have ih := rng_snoc (q' :: l) p
    rw [List.cons_append] at ih
    rw [List.cons_append, List.cons_append, rng, ih, rng, if_neg (by simp), if_neg (by simp), List.append_assoc, List.cons_append]
theorem range1_len (p : Int × Int) : (range1 p).length ≤ 33 := by
  unfold range1
  have h1 := Gu.put_len p.1
  have h2 := Gu.put_len p.2
  split
  · omega
  · rw [List.length_append, List.length_cons]; omega
theorem rng_len : ∀ l : List (Int × Int), (rng l).length ≤ 34 * l.length
  | [] => Nat.le_refl _
  | [p] => by have := range1_len p; rw [rng, List.length_singleton]; omega
  | p :: q :: l => by
    have h1 := range1_len p
    have h2 := rng_len (q :: l)
    rw [rng, List.length_append, List.length_cons]
    simp only [List.length_cons] at h2 ⊢
    omega
end Go.Proofs.YtdkeibgfehblaaaGreatDoor.Tr
/- Layer 11's reference: an expression's text. Conditions: lists at most a million. -/
namespace Go.Proofs.YtdkeibgfehblaaaGreatDoor.Tr
set_option linter.unusedVariables false
open Go.ChangeShapes Go.WideShapes Go.ChangeAt Go.RowKit
open Go.Proofs.YtdkeibgfehblaaaGreatDoor.Fp (sameB)
open Go.Proofs.YtdkeibgfehblaaaGreatDoor.Re (tOk tL)
theorem txtL_snoc (k : Int) : ∀ (l : List ExprP) (e : ExprP), txtL k (l ++ [e]) = if l.length = 0 then brack (txt e) (must k (kind e)) else txtL k l ++ (sep k ++ brack (txt e) (must k (kind e)))
  | [], e => by
    show txtL k [e] = brack (txt e) (must k (kind e))
    rw [txtL]; simp
  | a :: l, e => by
    rw [List.cons_append, txtL, txtL_snoc k l e, if_neg (by simp), txtL]
    cases l with
    | nil => simp
    | cons b l => simp
theorem brack_len (t : List UInt8) (m : Bool) : t.length ≤ (brack t m).length ∧ (brack t m).length ≤ t.length + 2 := by
  unfold brack; split <;> simp <;> omega
theorem txtL_take (k : Int) (l : List ExprP) (j : Nat) : (txtL k (l.take j)).length ≤ (txtL k l).length := by
  have h : ∀ (m a : List ExprP), (txtL k a).length ≤ (txtL k (a ++ m)).length := by
    intro m
    induction m with
    | nil => intro a; rw [List.append_nil]; exact Nat.le_refl _
    | cons x m ih =>
      intro a
      have h1 := ih (a ++ [x])
      rw [List.append_assoc, List.singleton_append] at h1
      refine Nat.le_trans ?_ h1
      rw [txtL_snoc]
      split
      · rename_i h0
        rw [List.eq_nil_of_length_eq_zero h0, txtL]; simp
      · rw [List.length_append]; omega
  have := h (l.drop j) (l.take j)
  rwa [List.take_append_drop] at this
theorem right_cases {k f : Int} {r : List (Int × Int)} {l h : Nat} {o : List ExprP} (hr : right (.mk k f r l h o) = true) :
    (k = 1 ∧ 1 ≤ f ∧ f ≤ 6) ∨ (k = 0 ∧ o = []) ∨ (k = 2 ∧ ∃ x, o = [x] ∧ kind x ≠ 0 ∧ right x = true) ∨ ((k = 3 ∨ k = 4) ∧ 2 ≤ o.length ∧ ∀ x ∈ o, kind x ≠ 0 ∧ right x = true) := by
  have hall : rightL o = true → ∀ x ∈ o, kind x ≠ 0 ∧ right x = true := by
    intro h x hx
    rw [rightL_all, List.all_eq_true] at h
    have := h x hx
    simp only [Bool.and_eq_true, Bool.not_eq_true', beq_eq_false_iff_ne] at this
    exact this
  rw [right] at hr
  by_cases k1 : k = 1
  · rw [if_pos k1, atomR] at hr
    simp only [Bool.and_eq_true, decide_eq_true_eq] at hr
    exact .inl ⟨k1, hr.2.1, hr.2.2.1⟩
  · rw [if_neg k1, Bool.and_eq_true] at hr
    obtain ⟨_, hr⟩ := hr
    rw [Bool.and_eq_true] at hr
    obtain ⟨hm, hR⟩ := hr
    rw [manyR] at hm
    by_cases k0 : k = 0
    · rw [if_pos k0] at hm
      exact .inr (.inl ⟨k0, List.eq_nil_of_length_eq_zero (by simpa using hm)⟩)
    · rw [if_neg k0] at hm
      by_cases k2 : k = 2
      · rw [if_pos k2] at hm
        have hm : o.length = 1 := by simpa using hm
        match o, hm with
        | [x], _ =>
          obtain ⟨h1, h2⟩ := hall hR x (List.mem_cons_self ..)
          exact .inr (.inr (.inl ⟨k2, x, rfl, h1, h2⟩))
      · rw [if_neg k2] at hm
        by_cases k3 : k = 3 ∨ k = 4
        · rw [if_pos k3] at hm
          exact .inr (.inr (.inr ⟨k3, by simpa using hm, hall hR⟩))
        · rw [if_neg k3] at hm; exact absurd hm (by decide)
theorem keep_drew' {a b : World} (h : Keep a b) : Keep a b.drew := h.trans ((Quiet.refl b).drew).keep
theorem word_len (f : Int) : (word f).length ≤ 6 := by
  unfold word
  repeat' split
  all_goals decide
end Go.Proofs.YtdkeibgfehblaaaGreatDoor.Tr
/- Layer 11's reference: the text of nots, ands and ors. Conditions: lists at most a million, texts at most a thousand million bytes. -/
namespace Go.Proofs.YtdkeibgfehblaaaGreatDoor.Tr
set_option linter.unusedVariables false
open Go.ChangeShapes Go.WideShapes Go.ChangeAt Go.RowKit
open Go.Proofs.YtdkeibgfehblaaaGreatDoor.Fp (sameB)
open Go.Proofs.YtdkeibgfehblaaaGreatDoor.Re (tOk tL)
theorem store_float (P : Program) (w : World) (a : Addr) (k : FloatKind) (b : Nat) (m : Mode) : (store a (.float k b) m).run P w = stored P w a (.float k b) m := run_store P w a _ m rfl
theorem txtL_one (k : Int) (x : ExprP) : txtL k [x] = brack (txt x) (must k (kind x)) := by rw [txtL]; simp
theorem elem_len (k : Int) (l : List ExprP) (j : Nat) (h : j < l.length) : (txt (l.getD j zero)).length ≤ (txtL k l).length ∧ (txtL k (l.take j)).length + (if j = 0 then 0 else (sep k).length) + (brack (txt (l.getD j zero)) (must k (kind (l.getD j zero)))).length ≤ (txtL k l).length := by
  have h1 := txtL_take k l (j + 1)
  have h2 := brack_len (txt (l.getD j zero)) (must k (kind (l.getD j zero)))
  rw [take_snoc zero l j h, txtL_snoc, List.length_take, Nat.min_eq_left (Nat.le_of_lt h)] at h1
  by_cases hj : j = 0
  · rw [if_pos hj] at h1 ⊢
    subst hj
    rw [List.take_zero, txtL]
    simp only [List.length_nil]
    omega
  · rw [if_neg hj] at h1 ⊢
    rw [List.length_append, List.length_append] at h1
    omega


end Go.Proofs.YtdkeibgfehblaaaGreatDoor.Tr
