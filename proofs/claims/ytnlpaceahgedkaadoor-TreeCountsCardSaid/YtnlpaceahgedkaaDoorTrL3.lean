/- Layer 11's law TreeCounts. Conditions: none beyond the law's own. -/
import Derived.Test.YtnlpaceahgedkaaDoorTrL2
namespace Go.Proofs.YtnlpaceahgedkaaDoor.Tree
set_option linter.unusedVariables false
open Go.ChangeShapes Go.WideShapes Go.ChangeAt Go.RowKit
open Tr
theorem deep_pos : ∀ (l : List ExprP), 0 < l.length → 1 ≤ deepL l
  | a :: l, _ => by rw [deepL]; omega
theorem wf_u8 {z : Int} (h : (Lit.int .u8 z).wf = true) : 0 ≤ z ∧ z ≤ 255 := by
  simp [Lit.wf] at h
  have e1 : IntKind.u8.min = 0 := rfl
  have e2 : IntKind.u8.max = 255 := rfl
  omega
set_option maxHeartbeats 4000000 in
theorem counts_any (A : Option Addr) (n c : Nat) (l : List ExprP) (z : Int) (w : World) (ht : Tab w) (hA : ExprsIn w A n l) (hz : 0 ≤ z ∧ z ≤ 255) :
    Calls Tryd.prog 6 #[.slice A n c, .int .u8 z] w fun e₁ w' => e₁ = .returned (.bool true) ∧ Keep w w' := by
  obtain ⟨rfl, rA, wA⟩ := hA
  have CW := fun (W : World) (hW : Keep w W) => awake_any W (ht.keep hW)
  by_cases h0 : l.length = 0
  · have d0 : ((l.length : Int) == 0) = true := by simpa using h0
    have d0' : (l.length == 0) = true := by simpa using h0
    replace CW := Lib.hid CW
    clear h0 rA wA
    go_enter Tryd.func6, Tryd.ntmps6
    go_wp2_with fail
    refine (CW.out _ (Keep.refl w)).mono ?_
    rintro e w2 ⟨rfl, k2⟩
    go_wp2
    go_ret
    exact ⟨rfl, k2⟩
  have d0 : ((l.length : Int) == 0) = false := by simpa using h0
  have d0' : (l.length == 0) = false := by simpa using h0
  by_cases h6 : 6 < l.length
  · have d6 : decide (6 < l.length) = true := by simpa using h6
    have d6' : decide ((6 : Int) < (l.length : Int)) = true := by simp; omega
    replace CW := Lib.hid CW
    clear h0 h6 rA wA
    go_enter Tryd.func6, Tryd.ntmps6
    go_wp2_with fail
    refine (CW.out _ (Keep.refl w)).mono ?_
    rintro e w2 ⟨rfl, k2⟩
    go_wp2
    go_ret
    exact ⟨rfl, k2⟩
  have d6 : decide (6 < l.length) = false := by simpa using h6
  have d6' : decide ((6 : Int) < (l.length : Int)) = false := by simp; omega
  have HL := Lib.hid (show 0 < l.length ∧ l.length ≤ 6 by omega)
  have hl7 : l.length ≤ 1000000 := by omega
  have HZ := Lib.hid hz
  clear hz
  replace CW := Lib.hid CW
  clear h0 h6
  go_enter Tryd.func6, Tryd.ntmps6
  go_wp2
  go_loopw [5, 6, 7] (fun av dv iv wr => ∃ j : Nat, j ≤ l.length ∧ iv = .int .i64 j ∧ av = .int .i64 (atomsL (l.take j) : Nat) ∧ dv = .int .i64 ((deepL (l.take j) - 1 : Nat) : Int) ∧ Hid ((l.take j).all (fun x => small x 4) = true) ∧ Keep w wr) (fun _ _ iv _ => l.length - (intOf iv).toNat)
  case atStart => exact ⟨0, Nat.zero_le _, rfl, by rw [List.take_zero, atomsL]; rfl, by rw [List.take_zero, deepL]; rfl, rfl, Keep.refl _⟩
  case round =>
    obtain ⟨j, hj, rfl, rfl, rfl, hall, hk⟩ := hrel
    by_cases hlt : j < l.length
    · have hi1 : (j : Int) < l.length := by omega
      have hj0 : (0 : Int) ≤ j := by omega
      have hOw := rA.kept hk
      obtain ⟨b, off, rfl, hbb⟩ := hOw.addr (by omega)
      obtain ⟨_, RX, OX, rx, ox, hx6, hx⟩ := hOw.elem j hlt
      have hmem := getD_mem zero l j hlt
      have hwx := wA _ hmem
      have HA := Lib.hid (all_snoc (fun x => small x 4) zero l j hlt)
      have ha1 : atomsL (l.take (j + 1)) = atomsL (l.take j) + atoms (l.getD j zero) := by rw [take_snoc zero l j hlt, atomsL_snoc]
      have hd1 : deepL (l.take (j + 1)) = max (deepL (l.take j)) (deep (l.getD j zero) + 1) := by rw [take_snoc zero l j hlt, deepL_snoc]
      have hatl : atomsL (l.take j) ≤ 6 * 16807 ∧ deepL (l.take j) ≤ 6 := by
        have hw9 : ∀ q : List ExprP, (∀ x ∈ q, wf x) → q.all (fun x => small x 4) = true → atomsL q ≤ q.length * 16807 ∧ deepL q ≤ 6 := by
          intro q
          induction q with
          | nil => intro _ _; rw [atomsL, deepL]; omega
          | cons a q iq =>
            intro h1 h2
            rw [List.all_cons, Bool.and_eq_true] at h2
            have h3 := iq (fun x hx => h1 x (List.mem_cons_of_mem _ hx)) h2.2
            obtain ⟨_, h4, h5⟩ := small_fits _ a 4 (Nat.le_refl _) (h1 a (List.mem_cons_self ..)) h2.1
            have e7 : 7 ^ ((4 : Int) + 1).toNat = 16807 := by decide
            rw [e7] at h5
            rw [atomsL, deepL, List.length_cons]
            omega
        have h8 := hw9 (l.take j) (fun x hx => wA x (List.mem_of_mem_take hx)) hall.out
        rw [List.length_take, Nat.min_eq_left hj] at h8
        exact ⟨Nat.le_trans h8.1 (Nat.mul_le_mul_right _ (Nat.le_trans hj HL.out.2)), h8.2⟩
      have HA1 := Lib.hid ha1
      have HD1 := Lib.hid hd1
      clear ha1 hd1 hmem hOw
      generalize l.getD j zero = x at *
      generalize atomsL (l.take j) = p at *
      generalize deepL (l.take j) = q at *
      have HX6 := Lib.hid (fun W hW => hx6.kept (W' := W) hbb hW)
      obtain ⟨x0, x1, x2, x3, x4, x5⟩ := hx6
      have CS := fun W (hW : Keep wr W) => small_any _ x RX OX rx ox 4 W (Nat.le_refl _) (by omega) (by omega) (hx.kept hW)
      cases hsm : small x 4
      · rw [hsm] at CS
        replace CS := Lib.hid CS
        clear HA HA1 HD1 hsm hx hwx hatl HX6
        go_wp2_with fail
        refine (CS.out _ (Keep.refl _)).mono ?_
        rintro e w1 ⟨rfl, k1⟩
        go_wp2_with fail
        refine (CW.out _ (hk.trans k1)).mono ?_
        rintro e w2 ⟨rfl, k2⟩
        go_wp2
        go_ret
        exact ⟨rfl, (hk.trans k1).trans k2⟩
      · rw [hsm] at CS
        replace CS := Lib.hid CS
        obtain ⟨fx, dx, ax⟩ := small_fits _ x 4 (Nat.le_refl _) hwx hsm
        have e7 : 7 ^ ((4 : Int) + 1).toNat = 16807 := by decide
        rw [e7] at ax
        have HF := Lib.hid (show (l.take (j + 1)).all (fun x => small x 4) = true by rw [HA.out, hall.out, hsm]; rfl)
        have CA := Lib.hid (show ∀ W, Keep wr W → Calls Tryd.prog 13 #[.agg #[.int .i64 (kind x), .int .i64 (field x), .slice RX (rs x).length rx, .float .f64 (lo x), .float .f64 (hi x), .slice OX (of x).length ox]] W fun e w' => e = .returned (.int .i64 (atoms x : Nat)) ∧ Keep W w' from fun W hW => atoms_any x RX OX rx ox W (ht.keep (hk.trans hW)) fx (by omega) (hx.kept hW))
        have CD := Lib.hid (show ∀ W, Keep wr W → Calls Tryd.prog 15 #[.agg #[.int .i64 (kind x), .int .i64 (field x), .slice RX (rs x).length rx, .float .f64 (lo x), .float .f64 (hi x), .slice OX (of x).length ox]] W fun e w' => e = .returned (.int .i64 (deep x : Nat)) ∧ Keep W w' from fun W hW => deep_any x RX OX rx ox W (ht.keep (hk.trans hW)) fx (by omega) (hx.kept hW))
        clear HA hsm hx hwx fx e7
        generalize atoms x = s at *
        generalize deep x = u at *
        have hcase : q - 1 ≤ u ∨ u < q - 1 := by omega
        rcases hcase with hc | hc
        · have HD2 := Lib.hid (show deepL (l.take (j + 1)) - 1 = u by rw [HD1.out]; omega)
          have hmx : max ((q - 1 : Nat) : Int) (u : Int) = (u : Int) := by omega
          clear HD1 hc
          generalize q - 1 = q1 at *
          go_wp2_with fail
          refine (CS.out _ (Keep.refl _)).mono ?_
          rintro e w1 ⟨rfl, k1⟩
          clear x0 x1 x2 x3 x4 x5
          obtain ⟨x0, x1, x2, x3, x4, x5⟩ := HX6.out _ k1
          go_wp2_with fail
          refine (CA.out _ k1).mono ?_
          rintro e w2 ⟨rfl, k2⟩
          replace k1 := k1.trans k2
          clear x0 x1 x2 x3 x4 x5
          obtain ⟨x0, x1, x2, x3, x4, x5⟩ := HX6.out _ k1
          go_wp2_with fail
          refine (CD.out _ k1).mono ?_
          rintro e w3 ⟨rfl, k3⟩
          go_wp2
          go_roundw
          case rel => exact ⟨j + 1, by omega, by go_num, by rw [HA1.out]; go_num, by rw [HD2.out], HF, (hk.trans k1).trans k3⟩
          case measure => simp [intOf]; omega
        · have HD2 := Lib.hid (show deepL (l.take (j + 1)) - 1 = q - 1 by rw [HD1.out]; omega)
          have hmx : max ((q - 1 : Nat) : Int) (u : Int) = ((q - 1 : Nat) : Int) := by omega
          clear HD1 hc
          generalize q - 1 = q1 at *
          go_wp2_with fail
          refine (CS.out _ (Keep.refl _)).mono ?_
          rintro e w1 ⟨rfl, k1⟩
          clear x0 x1 x2 x3 x4 x5
          obtain ⟨x0, x1, x2, x3, x4, x5⟩ := HX6.out _ k1
          go_wp2_with fail
          refine (CA.out _ k1).mono ?_
          rintro e w2 ⟨rfl, k2⟩
          replace k1 := k1.trans k2
          clear x0 x1 x2 x3 x4 x5
          obtain ⟨x0, x1, x2, x3, x4, x5⟩ := HX6.out _ k1
          go_wp2_with fail
          refine (CD.out _ k1).mono ?_
          rintro e w3 ⟨rfl, k3⟩
          go_wp2
          go_roundw
          case rel => exact ⟨j + 1, by omega, by go_num, by rw [HA1.out]; go_num, by rw [HD2.out], HF, (hk.trans k1).trans k3⟩
          case measure => simp [intOf]; omega
    · obtain rfl : j = l.length := by omega
      rw [List.take_length]
      have hsa : ∀ x ∈ l, small x 4 = true := by
        have := hall.out
        rw [List.take_length, List.all_eq_true] at this
        exact this
      have hfl : ∀ x ∈ l, fits x := fun x hx => (small_fits _ x 4 (Nat.le_refl _) (wA x hx) (hsa x hx)).1
      have hdp := deep_pos l HL.out.1
      have hbd : atomsL l ≤ 1000000 ∧ deepL l ≤ 6 := by
        have hw9 : ∀ q : List ExprP, (∀ x ∈ q, wf x) → (∀ x ∈ q, small x 4 = true) → atomsL q ≤ q.length * 16807 ∧ deepL q ≤ 6 := by
          intro q
          induction q with
          | nil => intro _ _; rw [atomsL, deepL]; omega
          | cons a q iq =>
            intro h1 h2
            have h3 := iq (fun x hx => h1 x (List.mem_cons_of_mem _ hx)) (fun x hx => h2 x (List.mem_cons_of_mem _ hx))
            obtain ⟨_, h4, h5⟩ := small_fits _ a 4 (Nat.le_refl _) (h1 a (List.mem_cons_self ..)) (h2 a (List.mem_cons_self ..))
            have e7 : 7 ^ ((4 : Int) + 1).toNat = 16807 := by decide
            rw [e7] at h5
            rw [atomsL, deepL, List.length_cons]
            omega
        have h8 := hw9 l wA hsa
        exact ⟨Nat.le_trans h8.1 (Nat.le_trans (Nat.mul_le_mul_right _ HL.out.2) (by decide)), h8.2⟩
      obtain ⟨t, ht3⟩ : ∃ t : Int, t = z % 3 := ⟨_, rfl⟩
      have ht4 : z.tmod 3 = t := by rw [ht3, Int.tmod_eq_emod_of_nonneg HZ.out.1]
      have ht0 : 0 ≤ t ∧ t ≤ 2 := by omega
      have hin : inner (2 + t) = true := by unfold inner; simp; omega
      have e1 : atoms (.mk (2 + t) 0 [] 0 0 l) = atomsL l := by rw [atoms, if_neg (by omega), if_pos hin]
      have e2 : deep (.mk (2 + t) 0 [] 0 0 l) = deepL l := by rw [deep, if_pos hin]; omega
      have hfe : fits (.mk (2 + t) 0 [] 0 0 l) := by rw [fits]; exact ⟨⟨by simp, by have := HL.out; omega⟩, ⟨by omega, by omega⟩, fitsL_mk hfl⟩
      obtain ⟨t0, t2⟩ := ht0
      have w8 : IntKind.u8.wrap t = t := by rw [IntKind.wrap_u8]; omega
      have w9 : IntKind.i64.wrap t = t := by rw [IntKind.wrap_i64]; omega
      have w10 : IntKind.i64.wrap (2 + t) = 2 + t := by rw [IntKind.wrap_i64]; omega
      obtain ⟨Y, hY⟩ : ∃ Y, Y = wr.alloc (.cells #[.int .i64 (2 + t), .int .i64 0, .slice none 0 0, .float .f64 0, .float .f64 0, .slice A l.length c] 26) := ⟨_, rfl⟩
      have hltY : wr.heap.size < Y.heap.size := by rw [hY]; simp
      have hkY : Keep wr Y := by rw [hY]; exact (Keep.refl _).alloc _
      have hEY : ElemAt Y (.mk (2 + t) 0 [] 0 0 l) none A 0 c wr.heap.size 0 := by rw [hY]; exact ElemAt.new wr (.mk (2 + t) 0 [] 0 0 l) none A 0 c 26
      have HB := Lib.hid (show ∀ W, Keep Y W → W.cell? ⟨wr.heap.size, 0, none⟩ = some (.int .i64 (2 + t)) ∧ W.cell? ⟨wr.heap.size, 1, none⟩ = some (.int .i64 0) ∧ W.cell? ⟨wr.heap.size, 2, none⟩ = some (.slice none 0 0) ∧ W.cell? ⟨wr.heap.size, 3, none⟩ = some (.float .f64 0) ∧ W.cell? ⟨wr.heap.size, 4, none⟩ = some (.float .f64 0) ∧ W.cell? ⟨wr.heap.size, 5, none⟩ = some (.slice A l.length c) from fun W hW => hEY.kept hltY hW)
      have hXY : Ex Y (.mk (2 + t) 0 [] 0 0 l) none A := ⟨Row.none_ _ _ _, (rA.kept (hk.trans hkY))⟩
      have CA := Lib.hid (show ∀ W, Keep Y W → Calls Tryd.prog 13 #[.agg #[.int .i64 (2 + t), .int .i64 0, .slice none 0 0, .float .f64 0, .float .f64 0, .slice A l.length c]] W fun e w' => e = .returned (.int .i64 (atomsL l : Nat)) ∧ Keep W w' from fun W hW => by
        have := atoms_any (.mk (2 + t) 0 [] 0 0 l) none A 0 c W (ht.keep ((hk.trans hkY).trans hW)) hfe (by rw [e1]; omega) (hXY.kept hW)
        rwa [e1] at this)
      have CD := Lib.hid (show ∀ W, Keep Y W → Calls Tryd.prog 15 #[.agg #[.int .i64 (2 + t), .int .i64 0, .slice none 0 0, .float .f64 0, .float .f64 0, .slice A l.length c]] W fun e w' => e = .returned (.int .i64 (deepL l : Nat)) ∧ Keep W w' from fun W hW => by
        have := deep_any (.mk (2 + t) 0 [] 0 0 l) none A 0 c W (ht.keep ((hk.trans hkY).trans hW)) hfe (by rw [e2]; omega) (hXY.kept hW)
        rwa [e2] at this)
      have hsf := store_float Tryd.prog
      clear hXY hEY hfe e1 e2 hin hfl hsa hall rA wA
      obtain ⟨q, hq⟩ : ∃ q, q = deepL l - 1 := ⟨_, rfl⟩
      have hdq : deepL l = q + 1 := by omega
      rw [hdq] at CD hbd
      rw [← hq]
      generalize atomsL l = p at *
      clear hdp hdq hq
      have ht3' : z % 3 = t := ht3.symm
      clear ht3
      go_wp2_with fail
      rw [← hY]
      clear hY
      refine (CW.out _ (hk.trans hkY)).mono ?_
      rintro e w1 ⟨rfl, k1⟩
      have k1 : Keep Y w1 := k1
      obtain ⟨b0, b1, b2, b3, b4, b5⟩ := HB.out _ k1
      go_wp2_with fail
      refine (CA.out _ k1).mono ?_
      rintro e w2 ⟨rfl, k2⟩
      replace k1 := k1.trans k2
      clear b0 b1 b2 b3 b4 b5
      obtain ⟨b0, b1, b2, b3, b4, b5⟩ := HB.out _ k1
      go_wp2_with fail
      refine (CD.out _ k1).mono ?_
      rintro e w3 ⟨rfl, k3⟩
      go_wp2
      go_ret
      exact ⟨rfl, ((hk.trans hkY).trans k1).trans k3⟩
end Go.Proofs.YtnlpaceahgedkaaDoor.Tree
