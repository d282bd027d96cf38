/- Layer 11's reference: the same rules; how long small ones' texts are. Conditions: lists at most a million. -/
import Derived.Test.YtffojilbhpefbaaTrZ
namespace Go.Proofs.Ytffojilbhpefbaa.Tr
set_option linter.unusedVariables false
open Go.ChangeShapes Go.WideShapes Go.ChangeAt Go.RowKit
open Go.Proofs.Ytffojilbhpefbaa.Fp (sameB)
open Go.Proofs.Ytffojilbhpefbaa.Re (tOk tL)
theorem rules_len : ∀ l m : List RuleP, l.length ≠ m.length → rules l m = false
  | [], [], h => absurd rfl h
  | [], b :: m, _ => rfl
  | a :: l, [], _ => rfl
  | a :: l, b :: m, h => by rw [rules, rules_len l m (by simpa using h), Bool.and_false]
theorem rules_at : ∀ (l m : List RuleP) (k : Nat), l.length = m.length → k < l.length → rules (l.drop k) (m.drop k) = (rule1 (l.getD k zeroR) (m.getD k zeroR) && rules (l.drop (k + 1)) (m.drop (k + 1)))
  | a :: l, b :: m, 0, _, _ => rfl
  | a :: l, b :: m, k + 1, h, hk => rules_at l m k (by simpa using h) (by simpa using hk)
theorem eqRate2 (a b c a' b' c' : Int) (w : World) : (Op.equalIn 10000 41 (.agg #[.int .i64 a, .int .i64 b, .int .i64 c]) (.agg #[.int .i64 a', .int .i64 b', .int .i64 c'])).run Try.prog w = .ok (a == a' && (b == b' && c == c')) w := by
  have u3 := Try.underlying3
  have a3 := Try.isAgg3
  have z3 := Try.sizeOf3
  have hS : Try.prog.underlying 41 = some (.struct (Try.prog.fieldsOf 41)) := by kernel_rfl
  have hp : Try.prog.stoodInHeld 41 = false := by kernel_rfl
  rw [show (10000 : Nat) = 9999 + 1 from rfl, run_equalIn_agg w 9999 41 _ _ hS hp]
  simp only [Program.fieldsOf, Try.underlying41]
  cases h1 : (a == a')
  · go_simp
  · cases h2 : (b == b') <;> cases h3 : (c == c') <;> (go_simp; try simp [h1, h2, h3])
set_option maxHeartbeats 4000000 in
theorem rules_any (A : Option Addr) (c : Nat) (xs : List RuleP) (B : Option Addr) (d : Nat) (ys : List RuleP) (w : World) (hx1 : xs.length ≤ 1000000) (hy1 : ys.length ≤ 1000000) (hfx : ∀ r ∈ xs, fits r.when_) (hfy : ∀ r ∈ ys, fits r.when_) (hA : Rus w A xs) (hB : Rus w B ys) :
    Calls Try.prog 11 #[.slice A xs.length c, .slice B ys.length d] w fun e' w' => e' = .returned (.bool (rules xs ys)) ∧ Keep w w' := by
  by_cases hne : xs.length = ys.length
  · have dn : ((xs.length : Int) != (ys.length : Int)) = false := by simp; omega
    have HNE := Lib.hid hne
    clear hne
    have hgd := guardRate
    go_enter Try.func11, Try.ntmps11
    go_wp2
    go_loopw [5] (fun iv wr => ∃ j : Nat, j ≤ xs.length ∧ iv = .int .i64 j ∧ Hid (rules xs ys = rules (xs.drop j) (ys.drop j)) ∧ Keep w wr) (fun iv _ => xs.length - (intOf iv).toNat)
    case atStart => exact ⟨0, Nat.zero_le _, rfl, rfl, Keep.refl _⟩
    case round =>
      obtain ⟨j, hj, rfl, hd, hk⟩ := hrel
      by_cases hlt : j < xs.length
      · have hlt2 : j < ys.length := by have := HNE.out; omega
        have hi1 : (j : Int) < xs.length := by omega
        have hi2 : (j : Int) < ys.length := by omega
        have hj0 : (0 : Int) ≤ j := by omega
        have hAw := hA.kept hk
        have hBw := hB.kept hk
        obtain ⟨b, off, rfl, hbb⟩ := hAw.addr (by omega)
        obtain ⟨b', off', rfl, hbb'⟩ := hBw.addr (by omega)
        obtain ⟨_, RA, OA, rc, oc, hp6, hpx⟩ := hAw.elem j hlt
        obtain ⟨_, RB, OB, rd, od, hq6, hqx⟩ := hBw.elem j hlt2
        have hfp := hfx _ (getD_mem zeroR xs j hlt)
        have hfq := hfy _ (getD_mem zeroR ys j hlt2)
        have HD := Lib.hid (hd.out.trans (rules_at xs ys j HNE.out hlt))
        clear hd hAw hBw
        generalize xs.getD j zeroR = r at *
        generalize ys.getD j zeroR = s at *
        have hC : ∀ p : KeptOf wr, Calls Try.prog 20 #[.agg #[.int .i64 (kind r.when_), .int .i64 (field r.when_), .slice RA (rs r.when_).length rc, .float .f64 (lo r.when_), .float .f64 (hi r.when_), .slice OA (of r.when_).length oc], .agg #[.int .i64 (kind s.when_), .int .i64 (field s.when_), .slice RB (rs s.when_).length rd, .float .f64 (lo s.when_), .float .f64 (hi s.when_), .slice OB (of s.when_).length od]] p.w fun e w' => e = .returned (.bool (same r.when_ s.when_)) ∧ Keep p.w w' := fun p => same_any _ r.when_ s.when_ RA OA rc oc RB OB rd od p.w (Nat.le_refl _) hfp hfq (hpx.kept p.h) (hqx.kept p.h)
        have hP := fun p : KeptOf wr => hp6.kept hbb p.h
        have hQ := fun p : KeptOf wr => hq6.kept hbb' p.h
        have p0 := fun p => (hP p).1
        have p1 := fun p => (hP p).2.1
        have p2 := fun p => (hP p).2.2.1
        have p3 := fun p => (hP p).2.2.2.1
        have p4 := fun p => (hP p).2.2.2.2.1
        have p5 := fun p => (hP p).2.2.2.2.2.1
        have p6 := fun p => (hP p).2.2.2.2.2.2.1
        have p7 := fun p => (hP p).2.2.2.2.2.2.2.1
        have p8 := fun p => (hP p).2.2.2.2.2.2.2.2.1
        have p9 := fun p => (hP p).2.2.2.2.2.2.2.2.2.1
        have q0 := fun p => (hQ p).1
        have q1 := fun p => (hQ p).2.1
        have q2 := fun p => (hQ p).2.2.1
        have q3 := fun p => (hQ p).2.2.2.1
        have q4 := fun p => (hQ p).2.2.2.2.1
        have q5 := fun p => (hQ p).2.2.2.2.2.1
        have q6 := fun p => (hQ p).2.2.2.2.2.2.1
        have q7 := fun p => (hQ p).2.2.2.2.2.2.2.1
        have q8 := fun p => (hQ p).2.2.2.2.2.2.2.2.1
        have q9 := fun p => (hQ p).2.2.2.2.2.2.2.2.2.1
        have he := eqRate2 r.num r.per r.burst s.num s.per s.burst
        have HR1 := Lib.hid (show rule1 r s = ((r.allow == s.allow) && ((r.num == s.num && (r.per == s.per && r.burst == s.burst)) && same r.when_ s.when_)) from rfl)
        clear hP hQ hp6 hq6 hpx hqx hfp hfq
        obtain ⟨rr, hrr⟩ : ∃ q, q = (r.num == s.num && (r.per == s.per && r.burst == s.burst)) := ⟨_, rfl⟩
        rw [← hrr] at he HR1
        clear hrr
        generalize same r.when_ s.when_ = ss at *
        generalize r.allow = al at *
        generalize s.allow = bl at *
        cases al <;> cases bl

        · cases rr
          · have HF := Lib.hid (show rules xs ys = false by rw [HD.out, HR1.out]; rfl)
            clear HD HR1
            go_wp2
            refine wp_region_kept (by kernel_rfl) (by kernel_rfl) ?_
            repeat (go_big_quiet_step (first | with_reducible exact KeptOf.of (hC _)))
            refine Go.wpQuiet_nil ?_
            intro _ hw'
            obtain ⟨⟨V, hw⟩, hw''⟩ := hw'
            subst hw''
            go_wp2
            go_ret
            exact ⟨ret_bool (by rw [HF.out]), hk.trans hw⟩
          · cases ss
            · have HF := Lib.hid (show rules xs ys = false by rw [HD.out, HR1.out]; rfl)
              clear HD HR1
              go_wp2
              refine wp_region_kept (by kernel_rfl) (by kernel_rfl) ?_
              repeat (go_big_quiet_step (first | with_reducible exact KeptOf.of (hC _)))
              refine Go.wpQuiet_nil ?_
              intro _ hw'
              obtain ⟨⟨V, hw⟩, hw''⟩ := hw'
              subst hw''
              go_wp2
              go_ret
              exact ⟨ret_bool (by rw [HF.out]), hk.trans hw⟩
            · have HF := Lib.hid (show rules xs ys = rules (xs.drop (j + 1)) (ys.drop (j + 1)) by rw [HD.out, HR1.out]; rfl)
              clear HD HR1
              go_wp2
              refine wp_region_kept (by kernel_rfl) (by kernel_rfl) ?_
              repeat (go_big_quiet_step (first | with_reducible exact KeptOf.of (hC _)))
              refine Go.wpQuiet_nil ?_
              intro _ hw'
              obtain ⟨⟨V, hw⟩, hw''⟩ := hw'
              subst hw''
              go_wp2
              go_roundw
              case rel => exact ⟨j + 1, by omega, by go_num, HF, hk.trans hw⟩
              case measure => simp [intOf]; omega
        · have HF := Lib.hid (show rules xs ys = false by rw [HD.out, HR1.out]; rfl)
          clear HD HR1
          go_wp2
          refine wp_region_kept (by kernel_rfl) (by kernel_rfl) ?_
          repeat (go_big_quiet_step (first | with_reducible exact KeptOf.of (hC _)))
          refine Go.wpQuiet_nil ?_
          intro _ hw'
          obtain ⟨⟨V, hw⟩, hw''⟩ := hw'
          subst hw''
          go_wp2
          go_ret
          exact ⟨ret_bool (by rw [HF.out]), hk.trans hw⟩
        · have HF := Lib.hid (show rules xs ys = false by rw [HD.out, HR1.out]; rfl)
          clear HD HR1
          go_wp2
          refine wp_region_kept (by kernel_rfl) (by kernel_rfl) ?_
          repeat (go_big_quiet_step (first | with_reducible exact KeptOf.of (hC _)))
          refine Go.wpQuiet_nil ?_
          intro _ hw'
          obtain ⟨⟨V, hw⟩, hw''⟩ := hw'
          subst hw''
          go_wp2
          go_ret
          exact ⟨ret_bool (by rw [HF.out]), hk.trans hw⟩
        · cases rr
          · have HF := Lib.hid (show rules xs ys = false by rw [HD.out, HR1.out]; rfl)
            clear HD HR1
            go_wp2
            refine wp_region_kept (by kernel_rfl) (by kernel_rfl) ?_
            repeat (go_big_quiet_step (first | with_reducible exact KeptOf.of (hC _)))
            refine Go.wpQuiet_nil ?_
            intro _ hw'
            obtain ⟨⟨V, hw⟩, hw''⟩ := hw'
            subst hw''
            go_wp2
            go_ret
            exact ⟨ret_bool (by rw [HF.out]), hk.trans hw⟩
          · cases ss
            · have HF := Lib.hid (show rules xs ys = false by rw [HD.out, HR1.out]; rfl)
              clear HD HR1
              go_wp2
              refine wp_region_kept (by kernel_rfl) (by kernel_rfl) ?_
              repeat (go_big_quiet_step (first | with_reducible exact KeptOf.of (hC _)))
              refine Go.wpQuiet_nil ?_
              intro _ hw'
              obtain ⟨⟨V, hw⟩, hw''⟩ := hw'
              subst hw''
              go_wp2
              go_ret
              exact ⟨ret_bool (by rw [HF.out]), hk.trans hw⟩
            · have HF := Lib.hid (show rules xs ys = rules (xs.drop (j + 1)) (ys.drop (j + 1)) by rw [HD.out, HR1.out]; rfl)
              clear HD HR1
              go_wp2
              refine wp_region_kept (by kernel_rfl) (by kernel_rfl) ?_
              repeat (go_big_quiet_step (first | with_reducible exact KeptOf.of (hC _)))
              refine Go.wpQuiet_nil ?_
              intro _ hw'
              obtain ⟨⟨V, hw⟩, hw''⟩ := hw'
              subst hw''
              go_wp2
              go_roundw
              case rel => exact ⟨j + 1, by omega, by go_num, HF, hk.trans hw⟩
              case measure => simp [intOf]; omega
      · obtain rfl : j = xs.length := by omega
        have HF := Lib.hid (show rules xs ys = true by rw [hd.out, List.drop_length, show ys.drop xs.length = [] from by rw [HNE.out, List.drop_length]]; rfl)
        go_wp2
        go_ret
        exact ⟨ret_bool (by rw [HF.out]), hk⟩
  · have dn : ((xs.length : Int) != (ys.length : Int)) = true := by simp; omega
    have HS := Lib.hid (rules_len xs ys hne)
    clear hne
    go_enter Try.func11, Try.ntmps11
    go_wp2
    go_ret
    exact ⟨ret_bool HS.out.symm, Keep.refl _⟩
/-- How long a small one's text is. -/
theorem txt_len : ∀ (N : Nat) (e : ExprP) (d : Int), dp e ≤ N → small e d = true → (txt e).length ≤ 300 * 7 ^ d.toNat := by
  intro N
  induction N with
  | zero => intro e d h; exact absurd (dp_pos e) (by omega)
  | succ N ih =>
    intro e d hN hs
    have hsub := fun x (hx : x ∈ of e) => dp_of hx
    obtain ⟨k, f, r, l, h, o⟩ := e
    simp only [of] at hsub
    rw [small, smallL_all] at hs
    simp only [Bool.and_eq_true, decide_eq_true_eq, List.all_eq_true] at hs
    obtain ⟨h0, h1, h2, h3⟩ := hs
    have h5 : 0 < 7 ^ d.toNat := Nat.pow_pos (by omega)
    have each := fun x hx => ih x (d - 1) (by have := hsub x hx; omega) (h3 x hx)
    have hall : ∀ (k : Int) (M : Nat) (q : List ExprP), (∀ x ∈ q, (txt x).length ≤ M) → (txtL k q).length ≤ q.length * (M + 7) := by
      intro k M q
      induction q with
      | nil => intro _; rw [txtL]; simp
      | cons a q iq =>
        intro hq
        have h1 := hq a (List.mem_cons_self ..)
        have h2 := iq fun x hx => hq x (List.mem_cons_of_mem _ hx)
        have h3 := (brack_len (txt a) (must k (kind a))).2
        have h4 : (sep k).length ≤ 5 := by unfold sep; split <;> decide
        rw [txtL, List.length_append, List.length_cons, Nat.add_mul, Nat.one_mul]
        split
        · simp; omega
        · rw [List.length_append]; omega
    have hO : ∀ k : Int, (txtL k o).length ≤ 300 * 7 ^ d.toNat - 4 := by
      intro k
      rcases Nat.eq_zero_or_pos o.length with hz | hz
      · rw [List.eq_nil_of_length_eq_zero hz, txtL]; simp
      · obtain ⟨x, hx⟩ : ∃ x, x ∈ o := by
          match o, hz with
          | x :: _, _ => exact ⟨x, List.mem_cons_self ..⟩
        have hd1 : 1 ≤ d := by
          have h6 := h3 x hx
          obtain ⟨k', f', r', l', h', o'⟩ := x
          rw [small] at h6
          simp only [Bool.and_eq_true, decide_eq_true_eq] at h6
          omega
        have h6 := hall k (300 * 7 ^ (d - 1).toNat) o each
        have h7 : 0 < 7 ^ (d - 1).toNat := Nat.pow_pos (by omega)
        have h8 : 7 ^ d.toNat = 7 ^ (d - 1).toNat * 7 := by rw [← Nat.pow_succ]; congr 1; omega
        have h9 : o.length * (300 * 7 ^ (d - 1).toNat + 7) ≤ 6 * (300 * 7 ^ (d - 1).toNat + 7) := Nat.mul_le_mul_right _ h1
        omega
    rw [txt]
    split
    · have n1 := Re.tL_len l
      have n2 := Re.tL_len h
      have n3 := rng_len r
      have n4 := word_len f
      split
      · simp only [List.length_append]
        have : wReal.length = 5 := rfl
        have : wTo.length = 4 := rfl
        omega
      · simp only [List.length_append, List.length_cons]
        omega
    · split
      · rw [List.length_append]
        have := hO 2
        have : wNot.length = 4 := rfl
        omega
      · have := hO k
        omega
end Go.Proofs.Ytffojilbhpefbaa.Tr
