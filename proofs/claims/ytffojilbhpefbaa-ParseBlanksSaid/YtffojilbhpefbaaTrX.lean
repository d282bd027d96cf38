/- Layer 11's reference: the text of nots, ands and ors. Conditions: lists at most a million, texts at most a thousand million bytes. -/
import Derived.Test.YtffojilbhpefbaaTrW
namespace Go.Proofs.Ytffojilbhpefbaa.Tr
set_option linter.unusedVariables false
open Go.ChangeShapes Go.WideShapes Go.ChangeAt Go.RowKit
open Go.Proofs.Ytffojilbhpefbaa.Fp (sameB)
open Go.Proofs.Ytffojilbhpefbaa.Re (tOk tL)
theorem store_float (P : Program) (w : World) (a : Addr) (k : FloatKind) (b : Nat) (m : Mode) : (store a (.float k b) m).run P w = stored P w a (.float k b) m := run_store P w a _ m rfl
theorem txtL_one (k : Int) (x : ExprP) : txtL k [x] = brack (txt x) (must k (kind x)) := by rw [txtL]; simp
theorem elem_len (k : Int) (l : List ExprP) (j : Nat) (h : j < l.length) : (txt (l.getD j zero)).length ≤ (txtL k l).length ∧ (txtL k (l.take j)).length + (if j = 0 then 0 else (sep k).length) + (brack (txt (l.getD j zero)) (must k (kind (l.getD j zero)))).length ≤ (txtL k l).length := by
  have h1 := txtL_take k l (j + 1)
  have h2 := brack_len (txt (l.getD j zero)) (must k (kind (l.getD j zero)))
  rw [take_snoc zero l j h, txtL_snoc, List.length_take, Nat.min_eq_left (Nat.le_of_lt h)] at h1
  by_cases hj : j = 0
  · rw [if_pos hj] at h1 ⊢
    subst hj
    rw [List.take_zero, txtL]
    simp only [List.length_nil]
    omega
  · rw [if_neg hj] at h1 ⊢
    rw [List.length_append, List.length_append] at h1
    omega


set_option maxHeartbeats 4000000 in
theorem text_any : ∀ (N : Nat) (e : ExprP) (RA OA : Option Addr) (rc oc : Nat) (w : World), dp e ≤ N → fits e → right e = true → (txt e).length ≤ 1000000000 → Ex w e RA OA →
    Calls Try.prog 16 #[.agg #[.int .i64 (kind e), .int .i64 (field e), .slice RA (rs e).length rc, .float .f64 (lo e), .float .f64 (hi e), .slice OA (of e).length oc]] w fun e' w' => e' = .returned (.string (st (txt e))) ∧ Keep w w' := by
  intro N
  induction N with
  | zero => intro e RA OA rc oc w hN; exact absurd (dp_pos e) (by omega)
  | succ N ih =>
    intro e RA OA rc oc w hN hfit hri0 hbd hE
    have hsub := fun x (hx : x ∈ of e) => dp_of hx
    obtain ⟨k, f, r, l, h, o⟩ := e
    rw [fits] at hfit
    obtain ⟨⟨hrl, hol⟩, ⟨hl64, hh64⟩, hfo⟩ := hfit
    replace hfo := fitsL_mem hfo
    simp only [kind, field, rs, lo, hi, of] at hsub ⊢
    have hsf := store_float Try.prog
    rcases right_cases hri0 with ⟨rfl, hf1, hf6⟩ | ⟨rfl, rfl⟩ | ⟨rfl, x, rfl, hxk, hri⟩ | ⟨hk34, h2o, hall⟩
    · by_cases h6 : f = 6
      · exact text_real f h6 RA OA rc oc r l h o w hl64 hh64 hE
      · exact text_word f hf1 (by omega) RA OA rc oc r l h o w hrl hE
    · have HT := Lib.hid (show txt (.mk 0 f r l h []) = [] by rw [txt, if_neg (by decide), if_neg (by decide), txtL])
      obtain ⟨k, hk⟩ : ∃ k : Int, k = 0 := ⟨_, rfl⟩
      clear ih hsub hfo hE hbd hri0
      go_enter Try.func16, Try.ntmps16
      go_wp2
      go_loopw [8, 9] (fun sv iv wr => sv = .string (st []) ∧ iv = .int .i64 0 ∧ Keep (w.alloc (.cells #[.int .i64 0, .int .i64 f, .slice RA r.length rc, .float .f64 l, .float .f64 h, .slice OA 0 oc] 39)) wr) (fun _ _ _ => 0)
      case atStart => exact ⟨rfl, rfl, Keep.refl _⟩
      case round =>
        obtain ⟨rfl, rfl, hk⟩ := hrel
        have b5 : wr.cell? ⟨w.heap.size, 5, none⟩ = some (.slice OA 0 oc) := (Below.cell hk (by simp)).trans (by rw [World.cell?_alloc_at (hn := rfl)]; rfl)
        go_wp2
        go_ret
        exact ⟨ret_str (by rw [HT.out]), ((Keep.refl w).alloc _).trans hk⟩
    · have HT0 := Lib.hid (show txt (.mk 2 f r l h [x]) = wNot ++ brack (txt x) (must 2 (kind x)) by rw [txt, if_neg (by decide), if_pos rfl, txtL_one])
      have hdp := hsub x (List.mem_cons_self ..)
      have hfi := hfo x (List.mem_cons_self ..)
      rw [HT0.out] at hbd
      obtain ⟨tx, htx⟩ : ∃ t, t = txt x := ⟨_, rfl⟩
      rw [← htx] at hbd HT0
      rw [List.length_append] at hbd
      have hb0 := (brack_len tx (must 2 (kind x))).1
      have hO : Exs w OA [x] := hE.exs
      obtain ⟨b, off, rfl, hbb⟩ := hO.addr (by simp)
      obtain ⟨_, RX, OX, rx, ox, hx6, hx⟩ := hO.elem 0 (by simp)
      rw [List.getD_cons_zero] at hx6 hx
      obtain ⟨x0, x1, x2, x3, x4, x5⟩ := hx6
      simp only [Nat.zero_mul, Nat.add_zero] at x0 x1 x2 x3 x4 x5
      have hneb : b ≠ w.heap.size := by omega
      simp only [List.length_singleton] at hE ⊢
      obtain ⟨X, hX⟩ : ∃ X, X = w.alloc (.cells #[.int .i64 2, .int .i64 f, .slice RA r.length rc, .float .f64 l, .float .f64 h, .slice (some ⟨b, off, none⟩) 1 oc] 39) := ⟨_, rfl⟩
      have hkX : Keep w X := by rw [hX]; exact (Keep.refl w).alloc _
      have hltX : w.heap.size < X.heap.size := by rw [hX]; simp
      have hEl : ElemAt X (.mk 2 f r l h [x]) RA (some ⟨b, off, none⟩) rc oc w.heap.size 0 := by rw [hX]; exact ElemAt.new w (.mk 2 f r l h [x]) RA (some ⟨b, off, none⟩) rc oc 39
      have HB := Lib.hid (show ∀ W, Keep X W → W.cell? ⟨w.heap.size, 0, none⟩ = some (.int .i64 2) ∧ W.cell? ⟨w.heap.size, 1, none⟩ = some (.int .i64 f) ∧ W.cell? ⟨w.heap.size, 2, none⟩ = some (.slice RA r.length rc) ∧ W.cell? ⟨w.heap.size, 3, none⟩ = some (.float .f64 l) ∧ W.cell? ⟨w.heap.size, 4, none⟩ = some (.float .f64 h) ∧ W.cell? ⟨w.heap.size, 5, none⟩ = some (.slice (some ⟨b, off, none⟩) 1 oc) from fun W hk => hEl.kept hltX hk)
      have hEX := hE.kept hkX
      clear hEl hE hltX
      clear hEX hsub hfo hri0 hO
      replace hx := hx.kept hkX
      obtain ⟨Y, hY⟩ : ∃ Y, Y = X.alloc (.cells #[.int .i64 (kind x), .int .i64 (field x), .slice RX (rs x).length rx, .float .f64 (lo x), .float .f64 (hi x), .slice OX (of x).length ox] 39) := ⟨_, rfl⟩
      have hltY : X.heap.size < Y.heap.size := by rw [hY]; simp
      have hkY : Keep X Y := by rw [hY]; exact (Keep.refl _).alloc _
      have hEY : ElemAt Y x RX OX rx ox X.heap.size 0 := by rw [hY]; exact ElemAt.new X x RX OX rx ox 39
      have hXs : X.heap.size = w.heap.size + 1 := by rw [hX]; simp
      rw [hXs] at hEY hltY
      have hXY : Ex Y x RX OX := hx.kept hkY
      have hX6 := fun p : KeptOf Y => hEY.kept hltY p.h
      have q0 := fun p => (hX6 p).1
      have q1 := fun p => (hX6 p).2.1
      have q2 := fun p => (hX6 p).2.2.1
      have q3 := fun p => (hX6 p).2.2.2.1
      have q4 := fun p => (hX6 p).2.2.2.2.1
      have q5 := fun p => (hX6 p).2.2.2.2.2
      have s0 := fun p : KeptOf Y => (HB.out _ ((Keep.refl X).trans (hkY.trans p.h))).1
      have hC : ∀ p : KeptOf Y, Calls Try.prog 16 #[.agg #[.int .i64 (kind x), .int .i64 (field x), .slice RX (rs x).length rx, .float .f64 (lo x), .float .f64 (hi x), .slice OX (of x).length ox]] p.w fun e w' => e = .returned (.string (st tx)) ∧ Keep p.w w' := fun p => by rw [htx]; exact ih x RX OX rx ox p.w (by omega) hfi hri (by rw [← htx]; omega) (hXY.kept p.h)
      simp only [Nat.zero_add] at q0 q1 q2 q3 q4 q5
      obtain ⟨b0, b1, b2, b3, b4, b5⟩ := HB.out _ (Keep.refl X)
      by_cases kx3 : kind x = 3
      · have d3 : (kind x == 3) = true := by simpa using kx3
        have d4 : (kind x == 4) = false := by rw [beq_eq_false_iff_ne]; omega
        have hmu : must 2 (kind x) = true := by unfold must; rw [kx3]; rfl
        have hD : ∀ p : KeptOf Y, Calls Try.prog 27 #[.string (st tx), .bool true] p.w fun e w' => e = .returned (.string (st (brack tx true))) ∧ Keep p.w w' := fun p => (bracket_any tx true p.w (by omega)).mono fun e w' ⟨h1, h2⟩ => ⟨h1, h2 ▸ Keep.refl _⟩
        obtain ⟨bt, hbt⟩ : ∃ t, t = brack tx true := ⟨_, rfl⟩
        have hbl := brack_len tx true
        rw [← hbt] at hD hbl
        obtain ⟨q, hq⟩ : ∃ q, q = wNot ++ bt := ⟨_, rfl⟩
        have a1 : ∀ W : World, (Op.stringOp .add ⟨#[110, 111, 116, 32]⟩ (st bt)).run Try.prog W = .ok (.string (st q)) W := by rw [hq]; exact add_st wNot bt (by have : wNot.length = 4 := rfl; omega)
        have HT := Lib.hid (show txt (.mk 2 f r l h [x]) = q by rw [HT0.out, hmu, ← hbt, hq])
        clear HT0 hq hbt hbl hfi hri ih htx hdp hmu kx3  hbd hb0
        go_enter Try.func16, Try.ntmps16
        go_wp2
        rw [← hX]
        clear hX x0 x1 x2 x3 x4 x5
        rw [← hY]
        clear hY b0 b1 b2 b3 b4 b5
        refine wp_region_kept (by kernel_rfl) (by kernel_rfl) ?_
        repeat (go_big_quiet_step (first | with_reducible exact KeptOf.of (hC _) | with_reducible exact KeptOf.of (hD _)))
        refine Go.wpQuiet_nil ?_
        intro _ hw'
        obtain ⟨⟨V, hw⟩, hw''⟩ := hw'
        subst hw''
        go_wp2
        go_ret
        exact ⟨ret_str (by rw [HT.out]), (hkX.trans hkY).trans hw⟩
      · have d3 : (kind x == 3) = false := by simpa using kx3
        by_cases kx4 : kind x = 4
        · have d4 : (kind x == 4) = true := by simpa using kx4
          have hmu : must 2 (kind x) = true := by unfold must; rw [kx4]; rfl
          have hD : ∀ p : KeptOf Y, Calls Try.prog 27 #[.string (st tx), .bool true] p.w fun e w' => e = .returned (.string (st (brack tx true))) ∧ Keep p.w w' := fun p => (bracket_any tx true p.w (by omega)).mono fun e w' ⟨h1, h2⟩ => ⟨h1, h2 ▸ Keep.refl _⟩
          obtain ⟨bt, hbt⟩ : ∃ t, t = brack tx true := ⟨_, rfl⟩
          have hbl := brack_len tx true
          rw [← hbt] at hD hbl
          obtain ⟨q, hq⟩ : ∃ q, q = wNot ++ bt := ⟨_, rfl⟩
          have a1 : ∀ W : World, (Op.stringOp .add ⟨#[110, 111, 116, 32]⟩ (st bt)).run Try.prog W = .ok (.string (st q)) W := by rw [hq]; exact add_st wNot bt (by have : wNot.length = 4 := rfl; omega)
          have HT := Lib.hid (show txt (.mk 2 f r l h [x]) = q by rw [HT0.out, hmu, ← hbt, hq])
          clear HT0 hq hbt hbl hfi hri ih htx hdp hmu kx3 kx4 hbd hb0
          go_enter Try.func16, Try.ntmps16
          go_wp2
          rw [← hX]
          clear hX x0 x1 x2 x3 x4 x5
          rw [← hY]
          clear hY b0 b1 b2 b3 b4 b5
          refine wp_region_kept (by kernel_rfl) (by kernel_rfl) ?_
          repeat (go_big_quiet_step (first | with_reducible exact KeptOf.of (hC _) | with_reducible exact KeptOf.of (hD _)))
          refine Go.wpQuiet_nil ?_
          intro _ hw'
          obtain ⟨⟨V, hw⟩, hw''⟩ := hw'
          subst hw''
          go_wp2
          go_ret
          exact ⟨ret_str (by rw [HT.out]), (hkX.trans hkY).trans hw⟩
        · have d4 : (kind x == 4) = false := by simpa using kx4
          have hmu : must 2 (kind x) = false := by unfold must; rw [d3, d4]; rfl
          have hD : ∀ p : KeptOf Y, Calls Try.prog 27 #[.string (st tx), .bool false] p.w fun e w' => e = .returned (.string (st (brack tx false))) ∧ Keep p.w w' := fun p => (bracket_any tx false p.w (by omega)).mono fun e w' ⟨h1, h2⟩ => ⟨h1, h2 ▸ Keep.refl _⟩
          obtain ⟨bt, hbt⟩ : ∃ t, t = brack tx false := ⟨_, rfl⟩
          have hbl := brack_len tx false
          rw [← hbt] at hD hbl
          obtain ⟨q, hq⟩ : ∃ q, q = wNot ++ bt := ⟨_, rfl⟩
          have a1 : ∀ W : World, (Op.stringOp .add ⟨#[110, 111, 116, 32]⟩ (st bt)).run Try.prog W = .ok (.string (st q)) W := by rw [hq]; exact add_st wNot bt (by have : wNot.length = 4 := rfl; omega)
          have HT := Lib.hid (show txt (.mk 2 f r l h [x]) = q by rw [HT0.out, hmu, ← hbt, hq])
          clear HT0 hq hbt hbl hfi hri ih htx hdp hmu kx3 kx4 hbd hb0
          go_enter Try.func16, Try.ntmps16
          go_wp2
          rw [← hX]
          clear hX x0 x1 x2 x3 x4 x5
          rw [← hY]
          clear hY b0 b1 b2 b3 b4 b5
          refine wp_region_kept (by kernel_rfl) (by kernel_rfl) ?_
          repeat (go_big_quiet_step (first | with_reducible exact KeptOf.of (hC _) | with_reducible exact KeptOf.of (hD _)))
          refine Go.wpQuiet_nil ?_
          intro _ hw'
          obtain ⟨⟨V, hw⟩, hw''⟩ := hw'
          subst hw''
          go_wp2
          go_ret
          exact ⟨ret_str (by rw [HT.out]), (hkX.trans hkY).trans hw⟩
    · rcases hk34 with rfl | rfl
      · have HT := Lib.hid (show txt (.mk 3 f r l h o) = txtL 3 o by rw [txt, if_neg (by decide), if_neg (by decide)])
        rw [HT.out] at hbd
        obtain ⟨X, hX⟩ : ∃ X, X = w.alloc (.cells #[.int .i64 3, .int .i64 f, .slice RA r.length rc, .float .f64 l, .float .f64 h, .slice OA o.length oc] 39) := ⟨_, rfl⟩
        have hkX : Keep w X := by rw [hX]; exact (Keep.refl w).alloc _
        have hltX : w.heap.size < X.heap.size := by rw [hX]; simp
        have hEl : ElemAt X (.mk 3 f r l h o) RA OA rc oc w.heap.size 0 := by rw [hX]; exact ElemAt.new w (.mk 3 f r l h o) RA OA rc oc 39
        have HB := Lib.hid (show ∀ W, Keep X W → W.cell? ⟨w.heap.size, 0, none⟩ = some (.int .i64 3) ∧ W.cell? ⟨w.heap.size, 1, none⟩ = some (.int .i64 f) ∧ W.cell? ⟨w.heap.size, 2, none⟩ = some (.slice RA r.length rc) ∧ W.cell? ⟨w.heap.size, 3, none⟩ = some (.float .f64 l) ∧ W.cell? ⟨w.heap.size, 4, none⟩ = some (.float .f64 h) ∧ W.cell? ⟨w.heap.size, 5, none⟩ = some (.slice OA o.length oc) from fun W hk => hEl.kept hltX hk)
        have hEX := hE.kept hkX
        clear hEl hE hltX
        have hO : Exs X OA o := hEX.exs
        have hltX : w.heap.size < X.heap.size := by rw [hX]; simp
        clear hEX hri0
        go_enter Try.func16, Try.ntmps16
        go_wp2
        rw [← hX]
        clear hX
        go_loopw [8, 9, 10] (fun sv iv _ wr => ∃ j : Nat, j ≤ o.length ∧ iv = .int .i64 j ∧ sv = .string (st (txtL 3 (o.take j))) ∧ Keep X wr) (fun _ iv _ _ => o.length - (intOf iv).toNat)
        case atStart => exact ⟨0, Nat.zero_le _, rfl, by rw [List.take_zero, txtL]; rfl, Keep.refl _⟩
        case round =>
          obtain ⟨j, hj, rfl, rfl, hk⟩ := hrel
          obtain ⟨b0, b1, b2, b3, b4, b5⟩ := HB.out _ hk
          by_cases hlt : j < o.length
          · have hi1 : (j : Int) < o.length := by omega
            have hj0 : (0 : Int) ≤ j := by omega
            have hneX : w.heap.size ≠ wr.heap.size := by have := hk.size; omega
            have bA0 := fun O => (HB.out _ (hk.alloc O)).1
            have bA5 := fun O => (HB.out _ (hk.alloc O)).2.2.2.2.2
            have hOw := hO.kept hk
            obtain ⟨b, off, rfl, hbb⟩ := hOw.addr (by omega)
            obtain ⟨_, RX, OX, rx, ox, hx6, hx⟩ := hOw.elem j hlt
            have hmem := getD_mem zero o j hlt
            have hdp := hsub _ hmem
            have hfi := hfo _ hmem
            obtain ⟨_, hri⟩ := hall _ hmem
            obtain ⟨hl1, hpl⟩ := elem_len 3 o j hlt
            have hsn := txtL_snoc 3 (o.take j) (o.getD j zero)
            rw [← take_snoc zero o j hlt, List.length_take, Nat.min_eq_left hj] at hsn
            have HSN := Lib.hid hsn
            have hp0 : j = 0 → txtL 3 (o.take j) = [] := fun h => by subst h; rw [List.take_zero, txtL]
            clear hsn hmem hsub hfo hall hOw
            generalize o.getD j zero = x at *
            generalize txtL 3 (o.take j) = p at *
            obtain ⟨tx, htx⟩ : ∃ t, t = txt x := ⟨_, rfl⟩
            rw [← htx] at hl1 hpl HSN
            have hb0 := (brack_len tx (must 3 (kind x))).1
            obtain ⟨x0, x1, x2, x3, x4, x5⟩ := hx6
            obtain ⟨Y, hY⟩ : ∃ Y, Y = wr.alloc (.cells #[.int .i64 (kind x), .int .i64 (field x), .slice RX (rs x).length rx, .float .f64 (lo x), .float .f64 (hi x), .slice OX (of x).length ox] 39) := ⟨_, rfl⟩
            have hltY : wr.heap.size < Y.heap.size := by rw [hY]; simp
            have hkY : Keep wr Y := by rw [hY]; exact (Keep.refl _).alloc _
            have hEY : ElemAt Y x RX OX rx ox wr.heap.size 0 := by rw [hY]; exact ElemAt.new wr x RX OX rx ox 39
            have hXY : Ex Y x RX OX := hx.kept hkY
            have hX6 := fun p : KeptOf Y => hEY.kept hltY p.h
            have q0 := fun p => (hX6 p).1
            have q1 := fun p => (hX6 p).2.1
            have q2 := fun p => (hX6 p).2.2.1
            have q3 := fun p => (hX6 p).2.2.2.1
            have q4 := fun p => (hX6 p).2.2.2.2.1
            have q5 := fun p => (hX6 p).2.2.2.2.2
            have s0 := fun p : KeptOf Y => (HB.out _ (hk.trans (hkY.trans p.h))).1
            have hC : ∀ p : KeptOf Y, Calls Try.prog 16 #[.agg #[.int .i64 (kind x), .int .i64 (field x), .slice RX (rs x).length rx, .float .f64 (lo x), .float .f64 (hi x), .slice OX (of x).length ox]] p.w fun e w' => e = .returned (.string (st tx)) ∧ Keep p.w w' := fun p => by rw [htx]; exact ih x RX OX rx ox p.w (by omega) hfi hri (by rw [← htx]; omega) (hXY.kept p.h)
            simp only [Nat.zero_add] at q0 q1 q2 q3 q4 q5
            by_cases hjz : j = 0
            · have hpz : p = [] := hp0 hjz
              clear hp0
              have dj : decide (0 < j) = false := by simpa using hjz
              have dj' : decide ((0 : Int) < (j : Int)) = false := by simp; omega
              by_cases kx3 : kind x = 3
              · have d3 : (kind x == 3) = true := by simpa using kx3
                have d4 : (kind x == 4) = false := by rw [beq_eq_false_iff_ne]; omega
                have hmu : must 3 (kind x) = true := by unfold must; rw [kx3]; rfl
                have hD : ∀ p : KeptOf Y, Calls Try.prog 27 #[.string (st tx), .bool true] p.w fun e w' => e = .returned (.string (st (brack tx true))) ∧ Keep p.w w' := fun p => (bracket_any tx true p.w (by omega)).mono fun e w' ⟨h1, h2⟩ => ⟨h1, h2 ▸ Keep.refl _⟩
                obtain ⟨bt, hbt⟩ : ∃ t, t = brack tx true := ⟨_, rfl⟩
                have hbl := brack_len tx true
                rw [← hbt] at hD hbl
                obtain ⟨s2, hs2⟩ : ∃ q, q = p ++ bt := ⟨_, rfl⟩
                have a2 : ∀ W : World, (Op.stringOp .add (st p) (st bt)).run Try.prog W = .ok (.string (st s2)) W := by rw [hs2]; exact add_st p bt (by omega)
                have HF := Lib.hid (show txtL 3 (o.take (j + 1)) = s2 by rw [HSN.out, hmu, ← hbt, hs2, if_pos hjz, hpz]; rfl)
                clear HSN hs2 hbt hbl hfi hri ih htx hdp hmu kx3  hjz hpz hpl
                go_wp2
                rw [← hY]
                clear hY b0 b1 b2 b3 b4 b5 x0 x1 x2 x3 x4 x5
                refine wp_region_kept (by kernel_rfl) (by kernel_rfl) ?_
                repeat (go_big_quiet_step (first | with_reducible exact KeptOf.of (hC _) | with_reducible exact KeptOf.of (hD _)))
                refine Go.wpQuiet_nil ?_
                intro _ hw'
                obtain ⟨⟨V, hw⟩, hw''⟩ := hw'
                subst hw''
                go_wp2
                refine ⟨⟨j + 1, by omega, by go_num, by rw [HF.out], (hk.trans hkY).trans hw⟩, by simp [intOf]; omega⟩
              · have d3 : (kind x == 3) = false := by simpa using kx3
                by_cases kx4 : kind x = 4
                · have d4 : (kind x == 4) = true := by simpa using kx4
                  have hmu : must 3 (kind x) = true := by unfold must; rw [kx4]; rfl
                  have hD : ∀ p : KeptOf Y, Calls Try.prog 27 #[.string (st tx), .bool true] p.w fun e w' => e = .returned (.string (st (brack tx true))) ∧ Keep p.w w' := fun p => (bracket_any tx true p.w (by omega)).mono fun e w' ⟨h1, h2⟩ => ⟨h1, h2 ▸ Keep.refl _⟩
                  obtain ⟨bt, hbt⟩ : ∃ t, t = brack tx true := ⟨_, rfl⟩
                  have hbl := brack_len tx true
                  rw [← hbt] at hD hbl
                  obtain ⟨s2, hs2⟩ : ∃ q, q = p ++ bt := ⟨_, rfl⟩
                  have a2 : ∀ W : World, (Op.stringOp .add (st p) (st bt)).run Try.prog W = .ok (.string (st s2)) W := by rw [hs2]; exact add_st p bt (by omega)
                  have HF := Lib.hid (show txtL 3 (o.take (j + 1)) = s2 by rw [HSN.out, hmu, ← hbt, hs2, if_pos hjz, hpz]; rfl)
                  clear HSN hs2 hbt hbl hfi hri ih htx hdp hmu kx3 kx4 hjz hpz hpl
                  go_wp2
                  rw [← hY]
                  clear hY b0 b1 b2 b3 b4 b5 x0 x1 x2 x3 x4 x5
                  refine wp_region_kept (by kernel_rfl) (by kernel_rfl) ?_
                  repeat (go_big_quiet_step (first | with_reducible exact KeptOf.of (hC _) | with_reducible exact KeptOf.of (hD _)))
                  refine Go.wpQuiet_nil ?_
                  intro _ hw'
                  obtain ⟨⟨V, hw⟩, hw''⟩ := hw'
                  subst hw''
                  go_wp2
                  refine ⟨⟨j + 1, by omega, by go_num, by rw [HF.out], (hk.trans hkY).trans hw⟩, by simp [intOf]; omega⟩
                · have d4 : (kind x == 4) = false := by simpa using kx4
                  have hmu : must 3 (kind x) = false := by unfold must; rw [d3, d4]; rfl
                  have hD : ∀ p : KeptOf Y, Calls Try.prog 27 #[.string (st tx), .bool false] p.w fun e w' => e = .returned (.string (st (brack tx false))) ∧ Keep p.w w' := fun p => (bracket_any tx false p.w (by omega)).mono fun e w' ⟨h1, h2⟩ => ⟨h1, h2 ▸ Keep.refl _⟩
                  obtain ⟨bt, hbt⟩ : ∃ t, t = brack tx false := ⟨_, rfl⟩
                  have hbl := brack_len tx false
                  rw [← hbt] at hD hbl
                  obtain ⟨s2, hs2⟩ : ∃ q, q = p ++ bt := ⟨_, rfl⟩
                  have a2 : ∀ W : World, (Op.stringOp .add (st p) (st bt)).run Try.prog W = .ok (.string (st s2)) W := by rw [hs2]; exact add_st p bt (by omega)
                  have HF := Lib.hid (show txtL 3 (o.take (j + 1)) = s2 by rw [HSN.out, hmu, ← hbt, hs2, if_pos hjz, hpz]; rfl)
                  clear HSN hs2 hbt hbl hfi hri ih htx hdp hmu kx3 kx4 hjz hpz hpl
                  go_wp2
                  rw [← hY]
                  clear hY b0 b1 b2 b3 b4 b5 x0 x1 x2 x3 x4 x5
                  refine wp_region_kept (by kernel_rfl) (by kernel_rfl) ?_
                  repeat (go_big_quiet_step (first | with_reducible exact KeptOf.of (hC _) | with_reducible exact KeptOf.of (hD _)))
                  refine Go.wpQuiet_nil ?_
                  intro _ hw'
                  obtain ⟨⟨V, hw⟩, hw''⟩ := hw'
                  subst hw''
                  go_wp2
                  refine ⟨⟨j + 1, by omega, by go_num, by rw [HF.out], (hk.trans hkY).trans hw⟩, by simp [intOf]; omega⟩
            · clear hp0
              have dj : decide (0 < j) = true := by simp; omega
              have dj' : decide ((0 : Int) < (j : Int)) = true := by simp; omega
              obtain ⟨s1, hs1⟩ : ∃ s, s = p ++ wAnd := ⟨_, rfl⟩
              have hs1l : s1.length ≤ p.length + 5 := by rw [hs1, List.length_append]; have h5 : wAnd.length ≤ 5 := (by decide); omega
              have a1 : ∀ W : World, (Op.stringOp .add (st p) ⟨#[32, 97, 110, 100, 32]⟩).run Try.prog W = .ok (.string (st s1)) W := by rw [hs1]; exact add_st p wAnd (by have h5 : wAnd.length ≤ 5 := (by decide); omega)
              by_cases kx3 : kind x = 3
              · have d3 : (kind x == 3) = true := by simpa using kx3
                have d4 : (kind x == 4) = false := by rw [beq_eq_false_iff_ne]; omega
                have hmu : must 3 (kind x) = true := by unfold must; rw [kx3]; rfl
                have hD : ∀ p : KeptOf Y, Calls Try.prog 27 #[.string (st tx), .bool true] p.w fun e w' => e = .returned (.string (st (brack tx true))) ∧ Keep p.w w' := fun p => (bracket_any tx true p.w (by omega)).mono fun e w' ⟨h1, h2⟩ => ⟨h1, h2 ▸ Keep.refl _⟩
                obtain ⟨bt, hbt⟩ : ∃ t, t = brack tx true := ⟨_, rfl⟩
                have hbl := brack_len tx true
                rw [← hbt] at hD hbl
                obtain ⟨s2, hs2⟩ : ∃ q, q = s1 ++ bt := ⟨_, rfl⟩
                have a2 : ∀ W : World, (Op.stringOp .add (st s1) (st bt)).run Try.prog W = .ok (.string (st s2)) W := by rw [hs2]; exact add_st s1 bt (by omega)
                have HF := Lib.hid (show txtL 3 (o.take (j + 1)) = s2 by rw [HSN.out, hmu, ← hbt, hs2, if_neg hjz, hs1, List.append_assoc]; rfl)
                clear HSN hs2 hbt hbl hfi hri ih htx hdp hmu kx3  hjz hs1 hs1l hpl
                go_wp2
                rw [← hY]
                clear hY b0 b1 b2 b3 b4 b5 x0 x1 x2 x3 x4 x5
                refine wp_region_kept (by kernel_rfl) (by kernel_rfl) ?_
                repeat (go_big_quiet_step (first | with_reducible exact KeptOf.of (hC _) | with_reducible exact KeptOf.of (hD _)))
                refine Go.wpQuiet_nil ?_
                intro _ hw'
                obtain ⟨⟨V, hw⟩, hw''⟩ := hw'
                subst hw''
                go_wp2
                refine ⟨⟨j + 1, by omega, by go_num, by rw [HF.out], (hk.trans hkY).trans hw⟩, by simp [intOf]; omega⟩
              · have d3 : (kind x == 3) = false := by simpa using kx3
                by_cases kx4 : kind x = 4
                · have d4 : (kind x == 4) = true := by simpa using kx4
                  have hmu : must 3 (kind x) = true := by unfold must; rw [kx4]; rfl
                  have hD : ∀ p : KeptOf Y, Calls Try.prog 27 #[.string (st tx), .bool true] p.w fun e w' => e = .returned (.string (st (brack tx true))) ∧ Keep p.w w' := fun p => (bracket_any tx true p.w (by omega)).mono fun e w' ⟨h1, h2⟩ => ⟨h1, h2 ▸ Keep.refl _⟩
                  obtain ⟨bt, hbt⟩ : ∃ t, t = brack tx true := ⟨_, rfl⟩
                  have hbl := brack_len tx true
                  rw [← hbt] at hD hbl
                  obtain ⟨s2, hs2⟩ : ∃ q, q = s1 ++ bt := ⟨_, rfl⟩
                  have a2 : ∀ W : World, (Op.stringOp .add (st s1) (st bt)).run Try.prog W = .ok (.string (st s2)) W := by rw [hs2]; exact add_st s1 bt (by omega)
                  have HF := Lib.hid (show txtL 3 (o.take (j + 1)) = s2 by rw [HSN.out, hmu, ← hbt, hs2, if_neg hjz, hs1, List.append_assoc]; rfl)
                  clear HSN hs2 hbt hbl hfi hri ih htx hdp hmu kx3 kx4 hjz hs1 hs1l hpl
                  go_wp2
                  rw [← hY]
                  clear hY b0 b1 b2 b3 b4 b5 x0 x1 x2 x3 x4 x5
                  refine wp_region_kept (by kernel_rfl) (by kernel_rfl) ?_
                  repeat (go_big_quiet_step (first | with_reducible exact KeptOf.of (hC _) | with_reducible exact KeptOf.of (hD _)))
                  refine Go.wpQuiet_nil ?_
                  intro _ hw'
                  obtain ⟨⟨V, hw⟩, hw''⟩ := hw'
                  subst hw''
                  go_wp2
                  refine ⟨⟨j + 1, by omega, by go_num, by rw [HF.out], (hk.trans hkY).trans hw⟩, by simp [intOf]; omega⟩
                · have d4 : (kind x == 4) = false := by simpa using kx4
                  have hmu : must 3 (kind x) = false := by unfold must; rw [d3, d4]; rfl
                  have hD : ∀ p : KeptOf Y, Calls Try.prog 27 #[.string (st tx), .bool false] p.w fun e w' => e = .returned (.string (st (brack tx false))) ∧ Keep p.w w' := fun p => (bracket_any tx false p.w (by omega)).mono fun e w' ⟨h1, h2⟩ => ⟨h1, h2 ▸ Keep.refl _⟩
                  obtain ⟨bt, hbt⟩ : ∃ t, t = brack tx false := ⟨_, rfl⟩
                  have hbl := brack_len tx false
                  rw [← hbt] at hD hbl
                  obtain ⟨s2, hs2⟩ : ∃ q, q = s1 ++ bt := ⟨_, rfl⟩
                  have a2 : ∀ W : World, (Op.stringOp .add (st s1) (st bt)).run Try.prog W = .ok (.string (st s2)) W := by rw [hs2]; exact add_st s1 bt (by omega)
                  have HF := Lib.hid (show txtL 3 (o.take (j + 1)) = s2 by rw [HSN.out, hmu, ← hbt, hs2, if_neg hjz, hs1, List.append_assoc]; rfl)
                  clear HSN hs2 hbt hbl hfi hri ih htx hdp hmu kx3 kx4 hjz hs1 hs1l hpl
                  go_wp2
                  rw [← hY]
                  clear hY b0 b1 b2 b3 b4 b5 x0 x1 x2 x3 x4 x5
                  refine wp_region_kept (by kernel_rfl) (by kernel_rfl) ?_
                  repeat (go_big_quiet_step (first | with_reducible exact KeptOf.of (hC _) | with_reducible exact KeptOf.of (hD _)))
                  refine Go.wpQuiet_nil ?_
                  intro _ hw'
                  obtain ⟨⟨V, hw⟩, hw''⟩ := hw'
                  subst hw''
                  go_wp2
                  refine ⟨⟨j + 1, by omega, by go_num, by rw [HF.out], (hk.trans hkY).trans hw⟩, by simp [intOf]; omega⟩
          · obtain rfl : j = o.length := by omega
            rw [List.take_length]
            go_wp2
            go_ret
            exact ⟨ret_str (by rw [HT.out]), hkX.trans hk⟩
      · have HT := Lib.hid (show txt (.mk 4 f r l h o) = txtL 4 o by rw [txt, if_neg (by decide), if_neg (by decide)])
        rw [HT.out] at hbd
        obtain ⟨X, hX⟩ : ∃ X, X = w.alloc (.cells #[.int .i64 4, .int .i64 f, .slice RA r.length rc, .float .f64 l, .float .f64 h, .slice OA o.length oc] 39) := ⟨_, rfl⟩
        have hkX : Keep w X := by rw [hX]; exact (Keep.refl w).alloc _
        have hltX : w.heap.size < X.heap.size := by rw [hX]; simp
        have hEl : ElemAt X (.mk 4 f r l h o) RA OA rc oc w.heap.size 0 := by rw [hX]; exact ElemAt.new w (.mk 4 f r l h o) RA OA rc oc 39
        have HB := Lib.hid (show ∀ W, Keep X W → W.cell? ⟨w.heap.size, 0, none⟩ = some (.int .i64 4) ∧ W.cell? ⟨w.heap.size, 1, none⟩ = some (.int .i64 f) ∧ W.cell? ⟨w.heap.size, 2, none⟩ = some (.slice RA r.length rc) ∧ W.cell? ⟨w.heap.size, 3, none⟩ = some (.float .f64 l) ∧ W.cell? ⟨w.heap.size, 4, none⟩ = some (.float .f64 h) ∧ W.cell? ⟨w.heap.size, 5, none⟩ = some (.slice OA o.length oc) from fun W hk => hEl.kept hltX hk)
        have hEX := hE.kept hkX
        clear hEl hE hltX
        have hO : Exs X OA o := hEX.exs
        have hltX : w.heap.size < X.heap.size := by rw [hX]; simp
        clear hEX hri0
        go_enter Try.func16, Try.ntmps16
        go_wp2
        rw [← hX]
        clear hX
        go_loopw [8, 9, 10] (fun sv iv _ wr => ∃ j : Nat, j ≤ o.length ∧ iv = .int .i64 j ∧ sv = .string (st (txtL 4 (o.take j))) ∧ Keep X wr) (fun _ iv _ _ => o.length - (intOf iv).toNat)
        case atStart => exact ⟨0, Nat.zero_le _, rfl, by rw [List.take_zero, txtL]; rfl, Keep.refl _⟩
        case round =>
          obtain ⟨j, hj, rfl, rfl, hk⟩ := hrel
          obtain ⟨b0, b1, b2, b3, b4, b5⟩ := HB.out _ hk
          by_cases hlt : j < o.length
          · have hi1 : (j : Int) < o.length := by omega
            have hj0 : (0 : Int) ≤ j := by omega
            have hneX : w.heap.size ≠ wr.heap.size := by have := hk.size; omega
            have bA0 := fun O => (HB.out _ (hk.alloc O)).1
            have bA5 := fun O => (HB.out _ (hk.alloc O)).2.2.2.2.2
            have hOw := hO.kept hk
            obtain ⟨b, off, rfl, hbb⟩ := hOw.addr (by omega)
            obtain ⟨_, RX, OX, rx, ox, hx6, hx⟩ := hOw.elem j hlt
            have hmem := getD_mem zero o j hlt
            have hdp := hsub _ hmem
            have hfi := hfo _ hmem
            obtain ⟨_, hri⟩ := hall _ hmem
            obtain ⟨hl1, hpl⟩ := elem_len 4 o j hlt
            have hsn := txtL_snoc 4 (o.take j) (o.getD j zero)
            rw [← take_snoc zero o j hlt, List.length_take, Nat.min_eq_left hj] at hsn
            have HSN := Lib.hid hsn
            have hp0 : j = 0 → txtL 4 (o.take j) = [] := fun h => by subst h; rw [List.take_zero, txtL]
            clear hsn hmem hsub hfo hall hOw
            generalize o.getD j zero = x at *
            generalize txtL 4 (o.take j) = p at *
            obtain ⟨tx, htx⟩ : ∃ t, t = txt x := ⟨_, rfl⟩
            rw [← htx] at hl1 hpl HSN
            have hb0 := (brack_len tx (must 4 (kind x))).1
            obtain ⟨x0, x1, x2, x3, x4, x5⟩ := hx6
            obtain ⟨Y, hY⟩ : ∃ Y, Y = wr.alloc (.cells #[.int .i64 (kind x), .int .i64 (field x), .slice RX (rs x).length rx, .float .f64 (lo x), .float .f64 (hi x), .slice OX (of x).length ox] 39) := ⟨_, rfl⟩
            have hltY : wr.heap.size < Y.heap.size := by rw [hY]; simp
            have hkY : Keep wr Y := by rw [hY]; exact (Keep.refl _).alloc _
            have hEY : ElemAt Y x RX OX rx ox wr.heap.size 0 := by rw [hY]; exact ElemAt.new wr x RX OX rx ox 39
            have hXY : Ex Y x RX OX := hx.kept hkY
            have hX6 := fun p : KeptOf Y => hEY.kept hltY p.h
            have q0 := fun p => (hX6 p).1
            have q1 := fun p => (hX6 p).2.1
            have q2 := fun p => (hX6 p).2.2.1
            have q3 := fun p => (hX6 p).2.2.2.1
            have q4 := fun p => (hX6 p).2.2.2.2.1
            have q5 := fun p => (hX6 p).2.2.2.2.2
            have s0 := fun p : KeptOf Y => (HB.out _ (hk.trans (hkY.trans p.h))).1
            have hC : ∀ p : KeptOf Y, Calls Try.prog 16 #[.agg #[.int .i64 (kind x), .int .i64 (field x), .slice RX (rs x).length rx, .float .f64 (lo x), .float .f64 (hi x), .slice OX (of x).length ox]] p.w fun e w' => e = .returned (.string (st tx)) ∧ Keep p.w w' := fun p => by rw [htx]; exact ih x RX OX rx ox p.w (by omega) hfi hri (by rw [← htx]; omega) (hXY.kept p.h)
            simp only [Nat.zero_add] at q0 q1 q2 q3 q4 q5
            by_cases hjz : j = 0
            · have hpz : p = [] := hp0 hjz
              clear hp0
              have dj : decide (0 < j) = false := by simpa using hjz
              have dj' : decide ((0 : Int) < (j : Int)) = false := by simp; omega
              by_cases kx3 : kind x = 3
              · have d3 : (kind x == 3) = true := by simpa using kx3
                have d4 : (kind x == 4) = false := by rw [beq_eq_false_iff_ne]; omega
                have hmu : must 4 (kind x) = false := by unfold must; rw [kx3]; rfl
                have hD : ∀ p : KeptOf Y, Calls Try.prog 27 #[.string (st tx), .bool false] p.w fun e w' => e = .returned (.string (st (brack tx false))) ∧ Keep p.w w' := fun p => (bracket_any tx false p.w (by omega)).mono fun e w' ⟨h1, h2⟩ => ⟨h1, h2 ▸ Keep.refl _⟩
                obtain ⟨bt, hbt⟩ : ∃ t, t = brack tx false := ⟨_, rfl⟩
                have hbl := brack_len tx false
                rw [← hbt] at hD hbl
                obtain ⟨s2, hs2⟩ : ∃ q, q = p ++ bt := ⟨_, rfl⟩
                have a2 : ∀ W : World, (Op.stringOp .add (st p) (st bt)).run Try.prog W = .ok (.string (st s2)) W := by rw [hs2]; exact add_st p bt (by omega)
                have HF := Lib.hid (show txtL 4 (o.take (j + 1)) = s2 by rw [HSN.out, hmu, ← hbt, hs2, if_pos hjz, hpz]; rfl)
                clear HSN hs2 hbt hbl hfi hri ih htx hdp hmu kx3  hjz hpz hpl
                go_wp2
                rw [← hY]
                clear hY b0 b1 b2 b3 b4 b5 x0 x1 x2 x3 x4 x5
                refine wp_region_kept (by kernel_rfl) (by kernel_rfl) ?_
                repeat (go_big_quiet_step (first | with_reducible exact KeptOf.of (hC _) | with_reducible exact KeptOf.of (hD _)))
                refine Go.wpQuiet_nil ?_
                intro _ hw'
                obtain ⟨⟨V, hw⟩, hw''⟩ := hw'
                subst hw''
                go_wp2
                refine ⟨⟨j + 1, by omega, by go_num, by rw [HF.out], (hk.trans hkY).trans hw⟩, by simp [intOf]; omega⟩
              · have d3 : (kind x == 3) = false := by simpa using kx3
                by_cases kx4 : kind x = 4
                · have d4 : (kind x == 4) = true := by simpa using kx4
                  have hmu : must 4 (kind x) = true := by unfold must; rw [kx4]; rfl
                  have hD : ∀ p : KeptOf Y, Calls Try.prog 27 #[.string (st tx), .bool true] p.w fun e w' => e = .returned (.string (st (brack tx true))) ∧ Keep p.w w' := fun p => (bracket_any tx true p.w (by omega)).mono fun e w' ⟨h1, h2⟩ => ⟨h1, h2 ▸ Keep.refl _⟩
                  obtain ⟨bt, hbt⟩ : ∃ t, t = brack tx true := ⟨_, rfl⟩
                  have hbl := brack_len tx true
                  rw [← hbt] at hD hbl
                  obtain ⟨s2, hs2⟩ : ∃ q, q = p ++ bt := ⟨_, rfl⟩
                  have a2 : ∀ W : World, (Op.stringOp .add (st p) (st bt)).run Try.prog W = .ok (.string (st s2)) W := by rw [hs2]; exact add_st p bt (by omega)
                  have HF := Lib.hid (show txtL 4 (o.take (j + 1)) = s2 by rw [HSN.out, hmu, ← hbt, hs2, if_pos hjz, hpz]; rfl)
                  clear HSN hs2 hbt hbl hfi hri ih htx hdp hmu kx3 kx4 hjz hpz hpl
                  go_wp2
                  rw [← hY]
                  clear hY b0 b1 b2 b3 b4 b5 x0 x1 x2 x3 x4 x5
                  refine wp_region_kept (by kernel_rfl) (by kernel_rfl) ?_
                  repeat (go_big_quiet_step (first | with_reducible exact KeptOf.of (hC _) | with_reducible exact KeptOf.of (hD _)))
                  refine Go.wpQuiet_nil ?_
                  intro _ hw'
                  obtain ⟨⟨V, hw⟩, hw''⟩ := hw'
                  subst hw''
                  go_wp2
                  refine ⟨⟨j + 1, by omega, by go_num, by rw [HF.out], (hk.trans hkY).trans hw⟩, by simp [intOf]; omega⟩
                · have d4 : (kind x == 4) = false := by simpa using kx4
                  have hmu : must 4 (kind x) = false := by unfold must; rw [d3, d4]; rfl
                  have hD : ∀ p : KeptOf Y, Calls Try.prog 27 #[.string (st tx), .bool false] p.w fun e w' => e = .returned (.string (st (brack tx false))) ∧ Keep p.w w' := fun p => (bracket_any tx false p.w (by omega)).mono fun e w' ⟨h1, h2⟩ => ⟨h1, h2 ▸ Keep.refl _⟩
                  obtain ⟨bt, hbt⟩ : ∃ t, t = brack tx false := ⟨_, rfl⟩
                  have hbl := brack_len tx false
                  rw [← hbt] at hD hbl
                  obtain ⟨s2, hs2⟩ : ∃ q, q = p ++ bt := ⟨_, rfl⟩
                  have a2 : ∀ W : World, (Op.stringOp .add (st p) (st bt)).run Try.prog W = .ok (.string (st s2)) W := by rw [hs2]; exact add_st p bt (by omega)
                  have HF := Lib.hid (show txtL 4 (o.take (j + 1)) = s2 by rw [HSN.out, hmu, ← hbt, hs2, if_pos hjz, hpz]; rfl)
                  clear HSN hs2 hbt hbl hfi hri ih htx hdp hmu kx3 kx4 hjz hpz hpl
                  go_wp2
                  rw [← hY]
                  clear hY b0 b1 b2 b3 b4 b5 x0 x1 x2 x3 x4 x5
                  refine wp_region_kept (by kernel_rfl) (by kernel_rfl) ?_
                  repeat (go_big_quiet_step (first | with_reducible exact KeptOf.of (hC _) | with_reducible exact KeptOf.of (hD _)))
                  refine Go.wpQuiet_nil ?_
                  intro _ hw'
                  obtain ⟨⟨V, hw⟩, hw''⟩ := hw'
                  subst hw''
                  go_wp2
                  refine ⟨⟨j + 1, by omega, by go_num, by rw [HF.out], (hk.trans hkY).trans hw⟩, by simp [intOf]; omega⟩
            · clear hp0
              have dj : decide (0 < j) = true := by simp; omega
              have dj' : decide ((0 : Int) < (j : Int)) = true := by simp; omega
              obtain ⟨s1, hs1⟩ : ∃ s, s = p ++ wOr := ⟨_, rfl⟩
              have hs1l : s1.length ≤ p.length + 5 := by rw [hs1, List.length_append]; have h5 : wOr.length ≤ 5 := (by decide); omega
              have a1 : ∀ W : World, (Op.stringOp .add (st p) ⟨#[32, 111, 114, 32]⟩).run Try.prog W = .ok (.string (st s1)) W := by rw [hs1]; exact add_st p wOr (by have h5 : wOr.length ≤ 5 := (by decide); omega)
              by_cases kx3 : kind x = 3
              · have d3 : (kind x == 3) = true := by simpa using kx3
                have d4 : (kind x == 4) = false := by rw [beq_eq_false_iff_ne]; omega
                have hmu : must 4 (kind x) = false := by unfold must; rw [kx3]; rfl
                have hD : ∀ p : KeptOf Y, Calls Try.prog 27 #[.string (st tx), .bool false] p.w fun e w' => e = .returned (.string (st (brack tx false))) ∧ Keep p.w w' := fun p => (bracket_any tx false p.w (by omega)).mono fun e w' ⟨h1, h2⟩ => ⟨h1, h2 ▸ Keep.refl _⟩
                obtain ⟨bt, hbt⟩ : ∃ t, t = brack tx false := ⟨_, rfl⟩
                have hbl := brack_len tx false
                rw [← hbt] at hD hbl
                obtain ⟨s2, hs2⟩ : ∃ q, q = s1 ++ bt := ⟨_, rfl⟩
                have a2 : ∀ W : World, (Op.stringOp .add (st s1) (st bt)).run Try.prog W = .ok (.string (st s2)) W := by rw [hs2]; exact add_st s1 bt (by omega)
                have HF := Lib.hid (show txtL 4 (o.take (j + 1)) = s2 by rw [HSN.out, hmu, ← hbt, hs2, if_neg hjz, hs1, List.append_assoc]; rfl)
                clear HSN hs2 hbt hbl hfi hri ih htx hdp hmu kx3  hjz hs1 hs1l hpl
                go_wp2
                rw [← hY]
                clear hY b0 b1 b2 b3 b4 b5 x0 x1 x2 x3 x4 x5
                refine wp_region_kept (by kernel_rfl) (by kernel_rfl) ?_
                repeat (go_big_quiet_step (first | with_reducible exact KeptOf.of (hC _) | with_reducible exact KeptOf.of (hD _)))
                refine Go.wpQuiet_nil ?_
                intro _ hw'
                obtain ⟨⟨V, hw⟩, hw''⟩ := hw'
                subst hw''
                go_wp2
                refine ⟨⟨j + 1, by omega, by go_num, by rw [HF.out], (hk.trans hkY).trans hw⟩, by simp [intOf]; omega⟩
              · have d3 : (kind x == 3) = false := by simpa using kx3
                by_cases kx4 : kind x = 4
                · have d4 : (kind x == 4) = true := by simpa using kx4
                  have hmu : must 4 (kind x) = true := by unfold must; rw [kx4]; rfl
                  have hD : ∀ p : KeptOf Y, Calls Try.prog 27 #[.string (st tx), .bool true] p.w fun e w' => e = .returned (.string (st (brack tx true))) ∧ Keep p.w w' := fun p => (bracket_any tx true p.w (by omega)).mono fun e w' ⟨h1, h2⟩ => ⟨h1, h2 ▸ Keep.refl _⟩
                  obtain ⟨bt, hbt⟩ : ∃ t, t = brack tx true := ⟨_, rfl⟩
                  have hbl := brack_len tx true
                  rw [← hbt] at hD hbl
                  obtain ⟨s2, hs2⟩ : ∃ q, q = s1 ++ bt := ⟨_, rfl⟩
                  have a2 : ∀ W : World, (Op.stringOp .add (st s1) (st bt)).run Try.prog W = .ok (.string (st s2)) W := by rw [hs2]; exact add_st s1 bt (by omega)
                  have HF := Lib.hid (show txtL 4 (o.take (j + 1)) = s2 by rw [HSN.out, hmu, ← hbt, hs2, if_neg hjz, hs1, List.append_assoc]; rfl)
                  clear HSN hs2 hbt hbl hfi hri ih htx hdp hmu kx3 kx4 hjz hs1 hs1l hpl
                  go_wp2
                  rw [← hY]
                  clear hY b0 b1 b2 b3 b4 b5 x0 x1 x2 x3 x4 x5
                  refine wp_region_kept (by kernel_rfl) (by kernel_rfl) ?_
                  repeat (go_big_quiet_step (first | with_reducible exact KeptOf.of (hC _) | with_reducible exact KeptOf.of (hD _)))
                  refine Go.wpQuiet_nil ?_
                  intro _ hw'
                  obtain ⟨⟨V, hw⟩, hw''⟩ := hw'
                  subst hw''
                  go_wp2
                  refine ⟨⟨j + 1, by omega, by go_num, by rw [HF.out], (hk.trans hkY).trans hw⟩, by simp [intOf]; omega⟩
                · have d4 : (kind x == 4) = false := by simpa using kx4
                  have hmu : must 4 (kind x) = false := by unfold must; rw [d3, d4]; rfl
                  have hD : ∀ p : KeptOf Y, Calls Try.prog 27 #[.string (st tx), .bool false] p.w fun e w' => e = .returned (.string (st (brack tx false))) ∧ Keep p.w w' := fun p => (bracket_any tx false p.w (by omega)).mono fun e w' ⟨h1, h2⟩ => ⟨h1, h2 ▸ Keep.refl _⟩
                  obtain ⟨bt, hbt⟩ : ∃ t, t = brack tx false := ⟨_, rfl⟩
                  have hbl := brack_len tx false
                  rw [← hbt] at hD hbl
                  obtain ⟨s2, hs2⟩ : ∃ q, q = s1 ++ bt := ⟨_, rfl⟩
                  have a2 : ∀ W : World, (Op.stringOp .add (st s1) (st bt)).run Try.prog W = .ok (.string (st s2)) W := by rw [hs2]; exact add_st s1 bt (by omega)
                  have HF := Lib.hid (show txtL 4 (o.take (j + 1)) = s2 by rw [HSN.out, hmu, ← hbt, hs2, if_neg hjz, hs1, List.append_assoc]; rfl)
                  clear HSN hs2 hbt hbl hfi hri ih htx hdp hmu kx3 kx4 hjz hs1 hs1l hpl
                  go_wp2
                  rw [← hY]
                  clear hY b0 b1 b2 b3 b4 b5 x0 x1 x2 x3 x4 x5
                  refine wp_region_kept (by kernel_rfl) (by kernel_rfl) ?_
                  repeat (go_big_quiet_step (first | with_reducible exact KeptOf.of (hC _) | with_reducible exact KeptOf.of (hD _)))
                  refine Go.wpQuiet_nil ?_
                  intro _ hw'
                  obtain ⟨⟨V, hw⟩, hw''⟩ := hw'
                  subst hw''
                  go_wp2
                  refine ⟨⟨j + 1, by omega, by go_num, by rw [HF.out], (hk.trans hkY).trans hw⟩, by simp [intOf]; omega⟩
          · obtain rfl : j = o.length := by omega
            rw [List.take_length]
            go_wp2
            go_ret
            exact ⟨ret_str (by rw [HT.out]), hkX.trans hk⟩
end Go.Proofs.Ytffojilbhpefbaa.Tr
