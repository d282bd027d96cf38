/- Layer 11's reference: atoms, depth, sameness, which may be. Conditions: lists at most a million. -/
import Derived.Test.YtffojilbhpefbaaTrR
namespace Go.Proofs.Ytffojilbhpefbaa.Tr
set_option linter.unusedVariables false
open Go.ChangeShapes Go.WideShapes Go.ChangeAt Go.RowKit
open Go.Proofs.Ytffojilbhpefbaa.Fp (sameB)
open Go.Proofs.Ytffojilbhpefbaa.Re (tOk tL)
theorem atomsL_take (o : List ExprP) (j : Nat) : atomsL (o.take j) ≤ atomsL o := by
  have h : ∀ a b : List ExprP, atomsL a ≤ atomsL (a ++ b) := by
    intro a b
    induction a with
    | nil => rw [atomsL]; omega
    | cons x a ih => rw [List.cons_append, atomsL, atomsL]; omega
  have := h (o.take j) (o.drop j)
  rwa [List.take_append_drop] at this
theorem deepL_take (o : List ExprP) (j : Nat) : deepL (o.take j) ≤ deepL o := by
  have h : ∀ a b : List ExprP, deepL a ≤ deepL (a ++ b) := by
    intro a b
    induction a with
    | nil => rw [deepL]; omega
    | cons x a ih => rw [List.cons_append, deepL, deepL]; omega
  have := h (o.take j) (o.drop j)
  rwa [List.take_append_drop] at this


set_option maxHeartbeats 1000000 in
theorem inner_any (e : ExprP) (RA OA : Option Addr) (rc oc : Nat) (w : World) :
    Calls Try.prog 21 #[.agg #[.int .i64 (kind e), .int .i64 (field e), .slice RA (rs e).length rc, .float .f64 (lo e), .float .f64 (hi e), .slice OA (of e).length oc]] w fun e' w' => e' = .returned (.bool (inner (kind e))) ∧ Keep w w' := by
  obtain ⟨k, f, r, l, h, o⟩ := e
  simp only [kind, field, rs, lo, hi, of]
  go_enter Try.func21, Try.ntmps21
  go_wp2
  all_goals (go_ret; refine ⟨ret_bool ?_, (Keep.refl w).alloc _⟩; rw [Bool.eq_iff_iff]; simp [inner] <;> omega)


set_option maxHeartbeats 1000000 in
theorem atoms_any : ∀ (N : Nat) (e : ExprP) (RA OA : Option Addr) (rc oc : Nat) (w : World), dp e ≤ N → fits e → atoms e ≤ 1000000000 → Ex w e RA OA →
    Calls Try.prog 12 #[.agg #[.int .i64 (kind e), .int .i64 (field e), .slice RA (rs e).length rc, .float .f64 (lo e), .float .f64 (hi e), .slice OA (of e).length oc]] w fun e' w' => e' = .returned (.int .i64 (atoms e : Nat)) ∧ Keep w w' := by
  intro N
  induction N with
  | zero => intro e RA OA rc oc w hN; exact absurd (dp_pos e) (by omega)
  | succ N ih =>
    intro e RA OA rc oc w hN hfit hbd hE
    have hsub := fun x (hx : x ∈ of e) => dp_of hx
    obtain ⟨k, f, r, l, h, o⟩ := e
    rw [fits] at hfit
    obtain ⟨⟨hrl, hol⟩, ⟨hl64, hh64⟩, hfo⟩ := hfit
    replace hfo := fitsL_mem hfo
    simp only [kind, field, rs, lo, hi, of] at hsub ⊢
    by_cases h1 : k = 1
    · have e1 : atoms (.mk k f r l h o) = 1 := by rw [atoms, if_pos h1]
      rw [e1]
      subst h1
      clear e1 hE hsub ih hfo hbd
      go_enter Try.func12, Try.ntmps12
      go_wp2
      go_ret
      exact ⟨rfl, (Keep.refl w).alloc _⟩
    have d1 : (k == 1) = false := by simpa using h1
    have HAT := Lib.hid (show atoms (.mk k f r l h o) = if inner k then atomsL o else 0 by rw [atoms, if_neg h1])
    have hin : ∀ W : World, Calls Try.prog 21 #[.agg #[.int .i64 k, .int .i64 f, .slice RA r.length rc, .float .f64 l, .float .f64 h, .slice OA o.length oc]] W fun e' w' => e' = .returned (.bool (inner k)) ∧ Keep W w' := fun W => inner_any (.mk k f r l h o) RA OA rc oc W
    obtain ⟨X, hX⟩ : ∃ X, X = w.alloc (.cells #[.int .i64 k, .int .i64 f, .slice RA r.length rc, .float .f64 l, .float .f64 h, .slice OA o.length oc] 39) := ⟨_, rfl⟩
    have hkX : Keep w X := by rw [hX]; exact (Keep.refl w).alloc _
    have hltX : w.heap.size < X.heap.size := by rw [hX]; simp
    have hEl : ElemAt X (.mk k f r l h o) RA OA rc oc w.heap.size 0 := by rw [hX]; exact ElemAt.new w (.mk k f r l h o) RA OA rc oc 39
    have HB := Lib.hid (show ∀ W, Keep X W → W.cell? ⟨w.heap.size, 0, none⟩ = some (.int .i64 k) ∧ W.cell? ⟨w.heap.size, 1, none⟩ = some (.int .i64 f) ∧ W.cell? ⟨w.heap.size, 2, none⟩ = some (.slice RA r.length rc) ∧ W.cell? ⟨w.heap.size, 3, none⟩ = some (.float .f64 l) ∧ W.cell? ⟨w.heap.size, 4, none⟩ = some (.float .f64 h) ∧ W.cell? ⟨w.heap.size, 5, none⟩ = some (.slice OA o.length oc) from fun W hk => hEl.kept hltX hk)
    have hEX := hE.kept hkX
    clear hEl hE hltX
    have hO : Exs X OA o := hEX.exs
    clear hEX
    cases hI : inner k
    · have HI := Lib.hid (show atoms (.mk k f r l h o) = 0 by rw [HAT.out, hI]; rfl)
      rw [hI] at hin
      rw [HI.out]
      clear HAT HI hbd hsub ih hfo hO
      go_enter Try.func12, Try.ntmps12
      go_wp2
      rw [← hX]
      clear hX
      go_loopw [3, 4] (fun nv iv wr => nv = .int .i64 0 ∧ iv = .int .i64 0 ∧ Keep X wr) (fun _ _ _ => 0)
      case atStart => exact ⟨rfl, rfl, Keep.refl _⟩
      case round =>
        obtain ⟨rfl, rfl, hk⟩ := hrel
        obtain ⟨b0, b1, b2, b3, b4, b5⟩ := HB.out _ hk
        by_cases hlt : (0 : Int) < o.length
        · go_wp2_with fail
          refine (hin _).mono ?_
          rintro e w1 ⟨rfl, hk1⟩
          go_wp2
          go_ret
          exact ⟨rfl, (hkX.trans hk).trans hk1⟩
        · go_wp2
          go_ret
          exact ⟨rfl, hkX.trans hk⟩
    · have HI := Lib.hid (show atoms (.mk k f r l h o) = atomsL o by rw [HAT.out, hI]; rfl)
      have hbd2 : atomsL o ≤ 1000000000 := by rw [← HI.out]; exact hbd
      rw [hI] at hin
      rw [HI.out]
      clear HAT HI hbd
      go_enter Try.func12, Try.ntmps12
      go_wp2
      rw [← hX]
      clear hX
      go_loopw [3, 4] (fun nv iv wr => ∃ j : Nat, j ≤ o.length ∧ iv = .int .i64 j ∧ nv = .int .i64 (atomsL (o.take j) : Nat) ∧ Keep X wr) (fun _ iv _ => o.length - (intOf iv).toNat)
      case atStart => exact ⟨0, Nat.zero_le _, rfl, by rw [List.take_zero, atomsL]; rfl, Keep.refl _⟩
      case round =>
        obtain ⟨j, hj, rfl, rfl, hk⟩ := hrel
        obtain ⟨b0, b1, b2, b3, b4, b5⟩ := HB.out _ hk
        by_cases hlt : j < o.length
        · skip
          have hi1 : (j : Int) < o.length := by omega
          have hj0 : (0 : Int) ≤ j := by omega
          have hOw := hO.kept hk
          obtain ⟨b, off, rfl, hbb⟩ := hOw.addr (by omega)
          obtain ⟨_, RA', OA', rc', oc', hx6, hx⟩ := hOw.elem j hlt
          have hmem := getD_mem zero o j hlt
          have hdp := hsub _ hmem
          have hfi := hfo _ hmem
          have hsn : atomsL (o.take (j + 1)) = atomsL (o.take j) + atoms (o.getD j zero) := by rw [take_snoc zero o j hlt, atomsL_snoc]
          have hle := atomsL_take o (j + 1)
          generalize o.getD j zero = x at *
          have HC := Lib.hid (show ∀ W, Keep wr W → Calls Try.prog 12 #[.agg #[.int .i64 (kind x), .int .i64 (field x), .slice RA' (rs x).length rc', .float .f64 (lo x), .float .f64 (hi x), .slice OA' (of x).length oc']] W fun e' w' => e' = .returned (.int .i64 (atoms x : Nat)) ∧ Keep W w' from fun W hW => ih x RA' OA' rc' oc' W (by omega) hfi (by omega) (hx.kept hW))
          have HX6 := Lib.hid (fun W hW => hx6.kept (W' := W) hbb hW)
          have HSN := Lib.hid hsn
          rw [hsn] at hle
          generalize atomsL (o.take j) = p at *
          generalize atoms x = q at *
          clear hx hsub hdp hmem hfi hfo hsn hx6
          go_wp2_with fail
          refine (hin _).mono ?_
          rintro e w1 ⟨rfl, hk1⟩
          obtain ⟨x0, x1, x2, x3, x4, x5⟩ := HX6.out _ hk1
          clear b0 b1 b2 b3 b4 b5
          obtain ⟨b0, b1, b2, b3, b4, b5⟩ := HB.out _ (hk.trans hk1)
          go_wp2_with fail
          refine (HC.out _ hk1).mono ?_
          rintro e w2 ⟨rfl, hk2⟩
          go_wp2
          go_roundw
          case rel => exact ⟨j + 1, by omega, by go_num, by rw [HSN.out]; go_num, (hk.trans hk1).trans hk2⟩
          case measure => simp [intOf]; omega
        · obtain rfl : j = o.length := by omega
          rw [List.take_length]
          go_wp2
          go_ret
          exact ⟨rfl, hkX.trans hk⟩


end Go.Proofs.Ytffojilbhpefbaa.Tr
