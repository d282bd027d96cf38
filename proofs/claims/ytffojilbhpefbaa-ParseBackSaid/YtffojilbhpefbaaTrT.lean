/- Layer 11's reference: the same ones, few ones. Conditions: lists at most a million. -/
import Derived.Test.YtffojilbhpefbaaTrS
namespace Go.Proofs.Ytffojilbhpefbaa.Tr
set_option linter.unusedVariables false
open Go.ChangeShapes Go.WideShapes Go.ChangeAt Go.RowKit
open Go.Proofs.Ytffojilbhpefbaa.Fp (sameB)
open Go.Proofs.Ytffojilbhpefbaa.Re (tOk tL)


set_option maxHeartbeats 4000000 in
theorem same_any : ∀ (N : Nat) (e e' : ExprP) (RA OA : Option Addr) (rc oc : Nat) (RA' OA' : Option Addr) (rc' oc' : Nat) (w : World), dp e ≤ N → fits e → fits e' → Ex w e RA OA → Ex w e' RA' OA' →
    Calls Try.prog 20 #[.agg #[.int .i64 (kind e), .int .i64 (field e), .slice RA (rs e).length rc, .float .f64 (lo e), .float .f64 (hi e), .slice OA (of e).length oc], .agg #[.int .i64 (kind e'), .int .i64 (field e'), .slice RA' (rs e').length rc', .float .f64 (lo e'), .float .f64 (hi e'), .slice OA' (of e').length oc']] w fun e₁ w' => e₁ = .returned (.bool (same e e')) ∧ Keep w w' := by
  intro N
  induction N with
  | zero => intro e e' RA OA rc oc RA' OA' rc' oc' w hN; exact absurd (dp_pos e) (by omega)
  | succ N ih =>
    intro e e' RA OA rc oc RA' OA' rc' oc' w hN hfit hfit' hE hE'
    have hsub := fun x (hx : x ∈ of e) => dp_of hx
    obtain ⟨k, f, r, l, h, o⟩ := e
    obtain ⟨k', f', r', l', h', o'⟩ := e'
    rw [fits] at hfit hfit'
    obtain ⟨⟨hrl, hol⟩, ⟨hl64, hh64⟩, hfo⟩ := hfit
    obtain ⟨⟨hrl', hol2⟩, ⟨hl64', hh64'⟩, hfo'⟩ := hfit'
    replace hfo := fitsL_mem hfo
    replace hfo' := fitsL_mem hfo'
    simp only [kind, field, rs, lo, hi, of] at hsub ⊢
    have HSE := Lib.hid (show same (.mk k f r l h o) (.mk k' f' r' l' h' o') = (k == k' && (f == f' && (decide (r = r') && (sameB l l' && (sameB h h' && sameL o o'))))) by rw [same])
    obtain ⟨X, hX⟩ : ∃ X, X = (w.alloc (.cells #[.int .i64 k, .int .i64 f, .slice RA r.length rc, .float .f64 l, .float .f64 h, .slice OA o.length oc] 39)).alloc (.cells #[.int .i64 k', .int .i64 f', .slice RA' r'.length rc', .float .f64 l', .float .f64 h', .slice OA' o'.length oc'] 39) := ⟨_, rfl⟩
    have hs1 : (w.alloc (.cells #[.int .i64 k, .int .i64 f, .slice RA r.length rc, .float .f64 l, .float .f64 h, .slice OA o.length oc] 39)).heap.size = w.heap.size + 1 := by simp
    have hkX : Keep w X := by rw [hX]; exact ((Keep.refl w).alloc _).alloc _
    have hltX : w.heap.size + 1 < X.heap.size := by rw [hX]; simp
    have hEl : ElemAt X (.mk k f r l h o) RA OA rc oc w.heap.size 0 := by
      rw [hX]
      exact (ElemAt.new w (.mk k f r l h o) RA OA rc oc 39).kept (by simp) ((Keep.refl _).alloc _)
    have hEl2 : ElemAt X (.mk k' f' r' l' h' o') RA' OA' rc' oc' (w.heap.size + 1) 0 := by
      have hq := ElemAt.new (w.alloc (.cells #[.int .i64 k, .int .i64 f, .slice RA r.length rc, .float .f64 l, .float .f64 h, .slice OA o.length oc] 39)) (.mk k' f' r' l' h' o') RA' OA' rc' oc' 39
      rw [hs1] at hq
      rw [hX]
      exact hq
    have HB := Lib.hid (show ∀ W, Keep X W → W.cell? ⟨w.heap.size, 0, none⟩ = some (.int .i64 k) ∧ W.cell? ⟨w.heap.size, 1, none⟩ = some (.int .i64 f) ∧ W.cell? ⟨w.heap.size, 2, none⟩ = some (.slice RA r.length rc) ∧ W.cell? ⟨w.heap.size, 3, none⟩ = some (.float .f64 l) ∧ W.cell? ⟨w.heap.size, 4, none⟩ = some (.float .f64 h) ∧ W.cell? ⟨w.heap.size, 5, none⟩ = some (.slice OA o.length oc) from fun W hk => hEl.kept (by omega) hk)
    have HB2 := Lib.hid (show ∀ W, Keep X W → W.cell? ⟨(w.heap.size + 1), 0, none⟩ = some (.int .i64 k') ∧ W.cell? ⟨(w.heap.size + 1), 1, none⟩ = some (.int .i64 f') ∧ W.cell? ⟨(w.heap.size + 1), 2, none⟩ = some (.slice RA' r'.length rc') ∧ W.cell? ⟨(w.heap.size + 1), 3, none⟩ = some (.float .f64 l') ∧ W.cell? ⟨(w.heap.size + 1), 4, none⟩ = some (.float .f64 h') ∧ W.cell? ⟨(w.heap.size + 1), 5, none⟩ = some (.slice OA' o'.length oc') from fun W hk => hEl2.kept hltX hk)
    have hEX := hE.kept hkX
    have hEX' := hE'.kept hkX
    clear hEl hEl2 hE hE' hs1
    have hO : Exs X OA o := hEX.exs
    have hO' : Exs X OA' o' := hEX'.exs
    have CR := fun W (hW : Keep X W) => Span.ref_same_any RA r.length rc r RA' r'.length rc' r' W hrl hrl' (hEX.1.kept hW) (hEX'.1.kept hW)
    have CL := fun W => Ref3.same_any l l' hl64 hl64' W
    have CH := fun W => Ref3.same_any h h' hh64 hh64' W
    clear hEX hEX' hl64 hh64 hl64' hh64' hrl hrl'
    by_cases h1 : k = k'
    · have b1 : (k == k') = true := by simpa using h1
      have d1 : (k != k') = false := by simpa using h1
      clear h1
      by_cases h2 : f = f'
      · have b2 : (f == f') = true := by simpa using h2
        have d2 : (f != f') = false := by simpa using h2
        clear h2
        cases b3 : decide (r = r')
        · have HS := Lib.hid (show same (.mk k f r l h o) (.mk k' f' r' l' h' o') = false by rw [HSE.out, b1, b2, b3]; rfl)
          rw [b3] at CR
          clear b1 b2 b3 HSE hsub hfo hfo' ih hO hO'

          go_enter Try.func20, Try.ntmps20
          go_wp2_with fail
          rw [← hX]
          clear hX
          refine (CR _ (Keep.refl _)).mono ?_
          rintro e w1 ⟨rfl, k1⟩
          replace k1 := k1.keep
          obtain ⟨b0, b1, b2, b3, b4, b5⟩ := HB.out _ k1
          obtain ⟨c0, c1, c2, c3, c4, c5⟩ := HB2.out _ k1
          go_wp2
          go_ret
          exact ⟨ret_bool HS.out.symm, hkX.trans k1⟩
        · rw [b3] at CR
          cases b4 : sameB l l'
          · have HS := Lib.hid (show same (.mk k f r l h o) (.mk k' f' r' l' h' o') = false by rw [HSE.out, b1, b2, b3, b4]; rfl)
            rw [b4] at CL
            clear b1 b2 b3 b4 HSE hsub hfo hfo' ih hO hO'

            go_enter Try.func20, Try.ntmps20
            go_wp2_with fail
            rw [← hX]
            clear hX
            refine (CR _ (Keep.refl _)).mono ?_
            rintro e w1 ⟨rfl, k1⟩
            replace k1 := k1.keep
            obtain ⟨b0, b1, b2, b3, b4, b5⟩ := HB.out _ k1
            obtain ⟨c0, c1, c2, c3, c4, c5⟩ := HB2.out _ k1
            go_wp2_with fail
            refine (CL _).mono ?_
            rintro e _ ⟨rfl, rfl⟩
            go_wp2
            go_ret
            exact ⟨ret_bool HS.out.symm, hkX.trans k1⟩
          · rw [b4] at CL
            cases b5 : sameB h h'
            · have HS := Lib.hid (show same (.mk k f r l h o) (.mk k' f' r' l' h' o') = false by rw [HSE.out, b1, b2, b3, b4, b5]; rfl)
              rw [b5] at CH
              clear b1 b2 b3 b4 b5 HSE hsub hfo hfo' ih hO hO'

              go_enter Try.func20, Try.ntmps20
              go_wp2_with fail
              rw [← hX]
              clear hX
              refine (CR _ (Keep.refl _)).mono ?_
              rintro e w1 ⟨rfl, k1⟩
              replace k1 := k1.keep
              obtain ⟨b0, b1, b2, b3, b4, b5⟩ := HB.out _ k1
              obtain ⟨c0, c1, c2, c3, c4, c5⟩ := HB2.out _ k1
              go_wp2_with fail
              refine (CL _).mono ?_
              rintro e _ ⟨rfl, rfl⟩
              go_wp2_with fail
              refine (CH _).mono ?_
              rintro e _ ⟨rfl, rfl⟩
              go_wp2
              go_ret
              exact ⟨ret_bool HS.out.symm, hkX.trans k1⟩
            · rw [b5] at CH
              by_cases hol' : o.length = o'.length
              · have d6 : ((o.length : Int) != (o'.length : Int)) = false := by simp; omega
                have HOL := Lib.hid hol'
                clear hol'
                have HS := Lib.hid (show same (.mk k f r l h o) (.mk k' f' r' l' h' o') = sameL o o' by rw [HSE.out, b1, b2, b3, b4, b5]; rfl)
                clear b1 b2 b3 b4 b5 HSE
                go_enter Try.func20, Try.ntmps20
                go_wp2_with fail
                rw [← hX]
                clear hX
                refine (CR _ (Keep.refl _)).mono ?_
                rintro e w1 ⟨rfl, k1⟩
                replace k1 := k1.keep
                obtain ⟨b0, b1, b2, b3, b4, b5⟩ := HB.out _ k1
                obtain ⟨c0, c1, c2, c3, c4, c5⟩ := HB2.out _ k1
                go_wp2_with fail
                refine (CL _).mono ?_
                rintro e _ ⟨rfl, rfl⟩
                go_wp2_with fail
                refine (CH _).mono ?_
                rintro e _ ⟨rfl, rfl⟩
                go_wp2
                go_loopw [5] (fun iv wr => ∃ j : Nat, j ≤ o.length ∧ iv = .int .i64 j ∧ Hid (sameL o o' = sameL (o.drop j) (o'.drop j)) ∧ Keep w1 wr) (fun iv _ => o.length - (intOf iv).toNat)
                case atStart => exact ⟨0, Nat.zero_le _, rfl, rfl, Keep.refl _⟩
                case round =>
                  obtain ⟨j, hj, rfl, hd, hk⟩ := hrel
                  replace k1 := k1.trans hk
                  clear b0 b1 b2 b3 b4 b5
                  clear c0 c1 c2 c3 c4 c5
                  obtain ⟨b0, b1, b2, b3, b4, b5⟩ := HB.out _ k1
                  obtain ⟨c0, c1, c2, c3, c4, c5⟩ := HB2.out _ k1
                  by_cases hlt : j < o.length
                  · have hi1 : (j : Int) < o.length := by omega
                    have hi2 : (j : Int) < o'.length := by have := HOL.out; omega
                    have hj0 : (0 : Int) ≤ j := by omega
                    have hO1 := hO.kept k1
                    have hO2 := hO'.kept k1
                    obtain ⟨b, off, rfl, hbb⟩ := hO1.addr (by omega)
                    obtain ⟨b', off', rfl, hbb'⟩ := hO2.addr (by have := HOL.out; omega)
                    obtain ⟨_, RX, OX, rx, ox, hx6, hx⟩ := hO1.elem j hlt
                    obtain ⟨_, RY, OY, ry, oy, hy6, hy⟩ := hO2.elem j (by have := HOL.out; omega)
                    have hmem := getD_mem zero o j hlt
                    have hmem' := getD_mem zero o' j (by have := HOL.out; omega)
                    have hdp := hsub _ hmem
                    have hfi := hfo _ hmem
                    have hfi' := hfo' _ hmem'
                    have HD := Lib.hid (hd.out.trans (sameL_at zero o o' j HOL.out hlt))
                    generalize o.getD j zero = x at *
                    generalize o'.getD j zero = y at *
                    have hC : ∀ p : KeptOf wr, Calls Try.prog 20 #[.agg #[.int .i64 (kind x), .int .i64 (field x), .slice RX (rs x).length rx, .float .f64 (lo x), .float .f64 (hi x), .slice OX (of x).length ox], .agg #[.int .i64 (kind y), .int .i64 (field y), .slice RY (rs y).length ry, .float .f64 (lo y), .float .f64 (hi y), .slice OY (of y).length oy]] p.w fun e w' => e = .returned (.bool (same x y)) ∧ Keep p.w w' := fun p => ih x y RX OX rx ox RY OY ry oy p.w (by omega) hfi hfi' (hx.kept p.h) (hy.kept p.h)
                    have hX6 := fun p : KeptOf wr => hx6.kept hbb p.h
                    have hY6 := fun p : KeptOf wr => hy6.kept hbb' p.h
                    have q0 := fun p => (hX6 p).1
                    have q1 := fun p => (hX6 p).2.1
                    have q2 := fun p => (hX6 p).2.2.1
                    have q3 := fun p => (hX6 p).2.2.2.1
                    have q4 := fun p => (hX6 p).2.2.2.2.1
                    have q5 := fun p => (hX6 p).2.2.2.2.2
                    have r0 := fun p => (hY6 p).1
                    have r1 := fun p => (hY6 p).2.1
                    have r2 := fun p => (hY6 p).2.2.1
                    have r3 := fun p => (hY6 p).2.2.2.1
                    have r4 := fun p => (hY6 p).2.2.2.2.1
                    have r5 := fun p => (hY6 p).2.2.2.2.2
                    have s5 := fun p : KeptOf wr => (HB.out _ (k1.trans p.h)).2.2.2.2.2
                    have t5 := fun p : KeptOf wr => (HB2.out _ (k1.trans p.h)).2.2.2.2.2
                    clear hX6 hY6 hx6 hy6 hx hy hsub hdp hmem hmem' hfi hfi' hfo hfo' hd hO1 hO2
                    cases hs : same x y
                    · rw [hs] at hC
                      have HF := Lib.hid (show sameL o o' = false by rw [HD.out, hs]; rfl)
                      clear HD hs ih
                      go_wp2
                      clear b0 b1 b2 b3 b4 b5
                      clear c0 c1 c2 c3 c4 c5
                      refine wp_region_kept (by kernel_rfl) (by kernel_rfl) ?_
                      repeat (go_big_quiet_step (first | with_reducible exact KeptOf.of (hC _)))
                      refine Go.wpQuiet_nil ?_
                      intro _ hw'
                      obtain ⟨⟨V, hw⟩, hw''⟩ := hw'
                      subst hw''
                      go_wp2
                      go_ret
                      exact ⟨ret_bool (by rw [HS.out, HF.out]), (hkX.trans k1).trans hw⟩
                    · rw [hs] at hC
                      have HF := Lib.hid (show sameL o o' = sameL (o.drop (j + 1)) (o'.drop (j + 1)) by rw [HD.out, hs]; rfl)
                      clear HD hs ih
                      go_wp2
                      clear b0 b1 b2 b3 b4 b5
                      clear c0 c1 c2 c3 c4 c5
                      refine wp_region_kept (by kernel_rfl) (by kernel_rfl) ?_
                      repeat (go_big_quiet_step (first | with_reducible exact KeptOf.of (hC _)))
                      refine Go.wpQuiet_nil ?_
                      intro _ hw'
                      obtain ⟨⟨V, hw⟩, hw''⟩ := hw'
                      subst hw''
                      go_wp2
                      go_roundw
                      case rel => exact ⟨j + 1, by omega, by go_num, HF, hk.trans hw⟩
                      case measure => simp [intOf]; omega
                  · obtain rfl : j = o.length := by omega
                    have HF := Lib.hid (show sameL o o' = true by rw [hd.out, List.drop_length, show o'.drop o.length = [] from by rw [HOL.out, List.drop_length], sameL])
                    go_wp2
                    go_ret
                    exact ⟨ret_bool (by rw [HS.out, HF.out]), hkX.trans k1⟩
              · have d6 : ((o.length : Int) != (o'.length : Int)) = true := by simp; omega
                have HS := Lib.hid (show same (.mk k f r l h o) (.mk k' f' r' l' h' o') = false by rw [HSE.out, b1, b2, b3, b4, b5, sameL_len o o' hol']; rfl)
                clear b1 b2 b3 b4 b5 HSE hsub hfo hfo' ih hO hO'

                go_enter Try.func20, Try.ntmps20
                go_wp2_with fail
                rw [← hX]
                clear hX
                refine (CR _ (Keep.refl _)).mono ?_
                rintro e w1 ⟨rfl, k1⟩
                replace k1 := k1.keep
                obtain ⟨b0, b1, b2, b3, b4, b5⟩ := HB.out _ k1
                obtain ⟨c0, c1, c2, c3, c4, c5⟩ := HB2.out _ k1
                go_wp2_with fail
                refine (CL _).mono ?_
                rintro e _ ⟨rfl, rfl⟩
                go_wp2_with fail
                refine (CH _).mono ?_
                rintro e _ ⟨rfl, rfl⟩
                go_wp2
                go_ret
                exact ⟨ret_bool HS.out.symm, hkX.trans k1⟩
      · have b2 : (f == f') = false := by simpa using h2
        have d2 : (f != f') = true := by simpa using h2
        have HS := Lib.hid (show same (.mk k f r l h o) (.mk k' f' r' l' h' o') = false by rw [HSE.out, b1, b2]; rfl)
        clear b1 b2 h2 HSE CR CL CH hsub hfo hfo' ih hO hO'

        go_enter Try.func20, Try.ntmps20
        go_wp2
        go_ret
        exact ⟨ret_bool HS.out.symm, by rw [← hX]; exact hkX⟩
    · have b1 : (k == k') = false := by simpa using h1
      have d1 : (k != k') = true := by simpa using h1
      have HS := Lib.hid (show same (.mk k f r l h o) (.mk k' f' r' l' h' o') = false by rw [HSE.out, b1]; rfl)
      clear b1 h1 HSE CR CL CH hsub hfo hfo' ih hO hO'

      go_enter Try.func20, Try.ntmps20
      go_wp2
      go_ret
      exact ⟨ret_bool HS.out.symm, by rw [← hX]; exact hkX⟩
end Go.Proofs.Ytffojilbhpefbaa.Tr
