/- Layer 11's reference: small ones, atoms, depth, sameness, which may be. Conditions: lists at most a million. -/
import Derived.Test.YtffojilbhpefbaaTrI
import Derived.Test.YtffojilbhpefbaaReW
import Derived.Test.YtffojilbhpefbaaSpS
import Derived.Test.YtffojilbhpefbaaKept
import Derived.Deep.RegionHeld3
import Derived.BigQuiet
namespace Go.Proofs.Ytffojilbhpefbaa.Tr
set_option linter.unusedVariables false
open Go.ChangeShapes Go.WideShapes Go.ChangeAt Go.RowKit

theorem ret_bool {b c : Bool} (h : b = c) : Ending.returned (.bool b) = Ending.returned (.bool c) := by rw [h]
theorem ret_int {a b : Int} (h : a = b) : Ending.returned (.int .i64 a) = Ending.returned (.int .i64 b) := by rw [h]

set_option maxHeartbeats 1000000 in
theorem small_any : ∀ (N : Nat) (e : ExprP) (RA OA : Option Addr) (rc oc : Nat) (d : Int) (w : World), dp e ≤ N → -1000 ≤ d → d ≤ 1000 → Ex w e RA OA →
    Calls Try.prog 14 #[.agg #[.int .i64 (kind e), .int .i64 (field e), .slice RA (rs e).length rc, .float .f64 (lo e), .float .f64 (hi e), .slice OA (of e).length oc], .int .i64 d] w fun e' w' => e' = .returned (.bool (small e d)) ∧ Keep w w' := by
  intro N
  induction N with
  | zero => intro e RA OA rc oc d w hN; exact absurd (dp_pos e) (by omega)
  | succ N ih =>
    intro e RA OA rc oc d w hN hd0 hd1 hE
    have hsub := fun x (hx : x ∈ of e) => dp_of hx
    obtain ⟨k, f, r, l, h, o⟩ := e
    simp only [kind, field, rs, lo, hi, of] at hsub ⊢
    by_cases h1 : d < 0
    · have e1 : small (.mk k f r l h o) d = false := by rw [small, show decide (0 ≤ d) = false by simp; omega]; rfl
      rw [e1]
      clear e1 hE hsub
      go_enter Try.func14, Try.ntmps14
      go_wp2
      go_ret
      exact ⟨rfl, (Keep.refl w).alloc _⟩
    by_cases h2 : (o.length : Int) > 6
    · have e1 : small (.mk k f r l h o) d = false := by rw [small, show decide (o.length ≤ 6) = false by simp; omega]; simp
      rw [e1]
      clear e1 hE hsub
      go_enter Try.func14, Try.ntmps14
      go_wp2
      go_ret
      exact ⟨rfl, (Keep.refl w).alloc _⟩
    by_cases h3 : (r.length : Int) > 8
    · have e1 : small (.mk k f r l h o) d = false := by rw [small, show decide (r.length ≤ 8) = false by simp; omega]; simp
      rw [e1]
      clear e1 hE hsub
      go_enter Try.func14, Try.ntmps14
      go_wp2
      go_ret
      exact ⟨rfl, (Keep.refl w).alloc _⟩
    have HS := Lib.hid (show small (.mk k f r l h o) d = o.all fun x => small x (d - 1) by
      rw [small, show decide (0 ≤ d) = true by simp; omega, show decide (o.length ≤ 6) = true by simp; omega, show decide (r.length ≤ 8) = true by simp; omega, smallL_all]; rfl)
    obtain ⟨X, hX⟩ : ∃ X, X = w.alloc (.cells #[.int .i64 k, .int .i64 f, .slice RA r.length rc, .float .f64 l, .float .f64 h, .slice OA o.length oc] 39) := ⟨_, rfl⟩
    have hkX : Keep w X := by rw [hX]; exact (Keep.refl w).alloc _
    have hltX : w.heap.size < X.heap.size := by rw [hX]; simp
    have hEl : ElemAt X (.mk k f r l h o) RA OA rc oc w.heap.size 0 := by rw [hX]; exact ElemAt.new w (.mk k f r l h o) RA OA rc oc 39
    have HB := Lib.hid (show ∀ W, Keep X W → ElemAt W (.mk k f r l h o) RA OA rc oc w.heap.size 0 from fun W hk => hEl.kept hltX hk)
    have hEX := hE.kept hkX
    clear hEl hE
    have hO : Exs X OA o := hEX.exs
    clear hEX
    go_enter Try.func14, Try.ntmps14
    go_wp2
    rw [← hX]
    clear hX
    go_loopw [5] (fun iv wr => ∃ j : Nat, j ≤ o.length ∧ iv = .int .i64 j ∧ Hid ((o.take j).all (fun x => small x (d - 1)) = true) ∧ Keep X wr) (fun iv _ => o.length - (intOf iv).toNat)
    case atStart => exact ⟨0, Nat.zero_le _, rfl, rfl, Keep.refl _⟩
    case round =>
      obtain ⟨j, hj, rfl, hall, hk⟩ := hrel
      obtain ⟨b0, b1, b2, b3, b4, b5⟩ := HB.out _ hk
      simp only [kind, field, rs, lo, hi, of] at b0 b1 b2 b3 b4 b5
      by_cases hlt : j < o.length
      · have hi1 : (j : Int) < o.length := by omega
        have hj0 : (0 : Int) ≤ j := by omega
        have hOw := hO.kept hk
        obtain ⟨b, off, rfl, hbb⟩ := hOw.addr (by omega)
        obtain ⟨_, RA', OA', rc', oc', ⟨x0, x1, x2, x3, x4, x5⟩, hx⟩ := hOw.elem j hlt
        have hmem := getD_mem zero o j hlt
        have hdp := hsub _ hmem
        have HA := Lib.hid (all_snoc (fun x => small x (d - 1)) zero o j hlt)
        have HNo := Lib.hid (all_no (fun x => small x (d - 1)) zero o j hlt)
        generalize o.getD j zero = x at *
        cases hsm : small x (d - 1)
        · have HC := Lib.hid (show ∀ W, Keep wr W → Calls Try.prog 14 #[.agg #[.int .i64 (kind x), .int .i64 (field x), .slice RA' (rs x).length rc', .float .f64 (lo x), .float .f64 (hi x), .slice OA' (of x).length oc'], .int .i64 (d - 1)] W fun e' w' => e' = .returned (.bool false) ∧ Keep W w' from fun W hW => by
            have := ih x RA' OA' rc' oc' (d - 1) W (by omega) (by omega) (by omega) (hx.kept hW)
            rwa [hsm] at this)
          have HF := Lib.hid (HNo.out hsm)
          clear hx hsub hdp hmem HA HNo hsm
          go_wp2_with fail
          refine (HC.out _ (Keep.refl _)).mono ?_
          rintro e w1 ⟨rfl, hk1⟩
          go_wp2
          go_ret
          exact ⟨ret_bool (by rw [HS.out, HF.out]), (hkX.trans hk).trans hk1⟩
        · have HC := Lib.hid (show ∀ W, Keep wr W → Calls Try.prog 14 #[.agg #[.int .i64 (kind x), .int .i64 (field x), .slice RA' (rs x).length rc', .float .f64 (lo x), .float .f64 (hi x), .slice OA' (of x).length oc'], .int .i64 (d - 1)] W fun e' w' => e' = .returned (.bool true) ∧ Keep W w' from fun W hW => by
            have := ih x RA' OA' rc' oc' (d - 1) W (by omega) (by omega) (by omega) (hx.kept hW)
            rwa [hsm] at this)
          have HF := Lib.hid (show (o.take (j + 1)).all (fun x => small x (d - 1)) = true by rw [HA.out, hall.out, hsm]; rfl)
          clear hx hsub hdp hmem HA HNo hsm
          go_wp2_with fail
          refine (HC.out _ (Keep.refl _)).mono ?_
          rintro e w1 ⟨rfl, hk1⟩
          go_wp2
          go_roundw
          case rel => exact ⟨j + 1, by omega, by go_num, HF, hk.trans hk1⟩
          case measure => simp [intOf]; omega
      · obtain rfl : j = o.length := by omega
        have HF := Lib.hid (show o.all (fun x => small x (d - 1)) = true by have := hall.out; rwa [List.take_length] at this)
        go_wp2
        go_ret
        exact ⟨ret_bool (by rw [HS.out, HF.out]), hkX.trans hk⟩
end Go.Proofs.Ytffojilbhpefbaa.Tr
