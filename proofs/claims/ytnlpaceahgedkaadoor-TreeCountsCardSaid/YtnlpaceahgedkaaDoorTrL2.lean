/- Layer 11's law TreeTells. Conditions: none beyond the law's own. -/
import Derived.Test.YtnlpaceahgedkaaDoorTrL
namespace Go.Proofs.YtnlpaceahgedkaaDoor.Tree
set_option linter.unusedVariables false
open Go.ChangeShapes Go.WideShapes Go.ChangeAt Go.RowKit
open Tr
open Go.Proofs.YtnlpaceahgedkaaDoor.Fp (sameB nanB)
theorem sameB_self (a : Nat) : sameB a a = true := by
  unfold sameB
  cases h : nanB a
  · rw [if_neg (by decide)]
    unfold nanB at h
    have : (FloatKind.f64.format.order a a == some Ordering.eq) = true := by
      rw [bne, Bool.not_eq_false'] at h; exact h
    rw [this]; simp
  · rfl
theorem same_self : ∀ (N : Nat) (e : ExprP), dp e ≤ N → same e e = true := by
  intro N
  induction N with
  | zero => intro e h; exact absurd (dp_pos e) (by omega)
  | succ N ih =>
    intro e hN
    have hsub := fun x (hx : x ∈ of e) => dp_of hx
    obtain ⟨k, f, r, l, h, o⟩ := e
    simp only [of] at hsub
    have hL : ∀ q : List ExprP, (∀ x ∈ q, same x x = true) → sameL q q = true := by
      intro q
      induction q with
      | nil => intro _; rw [sameL]
      | cons a q iq => intro hq; rw [sameL, hq a (List.mem_cons_self ..), iq fun x hx => hq x (List.mem_cons_of_mem _ hx)]; rfl
    rw [same, sameB_self, sameB_self, hL o fun x hx => ih x (by have := hsub x hx; omega)]
    simp
set_option maxHeartbeats 4000000 in
theorem tells_any (e e' : ExprP) (RA OA : Option Addr) (rc oc : Nat) (RA' OA' : Option Addr) (rc' oc' : Nat) (w : World) (ht : Tab w) (hE : Ex w e RA OA) (hE' : Ex w e' RA' OA') (hw : wf e) (hw' : wf e') :
    Calls Tryd.prog 3 #[.agg #[.int .i64 (kind e), .int .i64 (field e), .slice RA (rs e).length rc, .float .f64 (lo e), .float .f64 (hi e), .slice OA (of e).length oc], .agg #[.int .i64 (kind e'), .int .i64 (field e'), .slice RA' (rs e').length rc', .float .f64 (lo e'), .float .f64 (hi e'), .slice OA' (of e').length oc']] w fun e₁ w' => e₁ = .returned (.bool true) ∧ Keep w w' := by
  obtain ⟨k, f, r, l, h, o⟩ := e
  obtain ⟨k', f', r', l', h', o'⟩ := e'
  simp only [kind, field, rs, lo, hi, of]
  obtain ⟨X, hX⟩ : ∃ X, X = (w.alloc (.cells #[.int .i64 k, .int .i64 f, .slice RA r.length rc, .float .f64 l, .float .f64 h, .slice OA o.length oc] 26)).alloc (.cells #[.int .i64 k', .int .i64 f', .slice RA' r'.length rc', .float .f64 l', .float .f64 h', .slice OA' o'.length oc'] 26) := ⟨_, rfl⟩
  have hs1 : (w.alloc (.cells #[.int .i64 k, .int .i64 f, .slice RA r.length rc, .float .f64 l, .float .f64 h, .slice OA o.length oc] 26)).heap.size = w.heap.size + 1 := by simp
  have hkX : Keep w X := by rw [hX]; exact ((Keep.refl w).alloc _).alloc _
  have hltX : w.heap.size + 1 < X.heap.size := by rw [hX]; simp
  have hEl : ElemAt X (.mk k f r l h o) RA OA rc oc w.heap.size 0 := by
    rw [hX]
    exact (ElemAt.new w (.mk k f r l h o) RA OA rc oc 26).kept (by simp) ((Keep.refl _).alloc _)
  have hEl2 : ElemAt X (.mk k' f' r' l' h' o') RA' OA' rc' oc' (w.heap.size + 1) 0 := by
    have hq := ElemAt.new (w.alloc (.cells #[.int .i64 k, .int .i64 f, .slice RA r.length rc, .float .f64 l, .float .f64 h, .slice OA o.length oc] 26)) (.mk k' f' r' l' h' o') RA' OA' rc' oc' 26
    rw [hs1] at hq
    rw [hX]
    exact hq
  have HB := Lib.hid (show ∀ W, Keep X W → W.cell? ⟨w.heap.size, 0, none⟩ = some (.int .i64 k) ∧ W.cell? ⟨w.heap.size, 1, none⟩ = some (.int .i64 f) ∧ W.cell? ⟨w.heap.size, 2, none⟩ = some (.slice RA r.length rc) ∧ W.cell? ⟨w.heap.size, 3, none⟩ = some (.float .f64 l) ∧ W.cell? ⟨w.heap.size, 4, none⟩ = some (.float .f64 h) ∧ W.cell? ⟨w.heap.size, 5, none⟩ = some (.slice OA o.length oc) from fun W hk => hEl.kept (by omega) hk)
  have HB2 := Lib.hid (show ∀ W, Keep X W → W.cell? ⟨(w.heap.size + 1), 0, none⟩ = some (.int .i64 k') ∧ W.cell? ⟨(w.heap.size + 1), 1, none⟩ = some (.int .i64 f') ∧ W.cell? ⟨(w.heap.size + 1), 2, none⟩ = some (.slice RA' r'.length rc') ∧ W.cell? ⟨(w.heap.size + 1), 3, none⟩ = some (.float .f64 l') ∧ W.cell? ⟨(w.heap.size + 1), 4, none⟩ = some (.float .f64 h') ∧ W.cell? ⟨(w.heap.size + 1), 5, none⟩ = some (.slice OA' o'.length oc') from fun W hk => hEl2.kept hltX hk)
  have hEX := hE.kept hkX
  have hEX' := hE'.kept hkX
  clear hEl hEl2 hE hE' hs1
  have CFA := fun (W : World) (hW : Keep X W) => small_any _ (.mk k f r l h o) RA OA rc oc 5 W (Nat.le_refl _) (by omega) (by omega) (hEX.kept hW)
  have CFB := fun (W : World) (hW : Keep X W) => small_any _ (.mk k' f' r' l' h' o') RA' OA' rc' oc' 5 W (Nat.le_refl _) (by omega) (by omega) (hEX'.kept hW)
  have CW := fun (W : World) (hW : Keep w W) => awake_any W (ht.keep hW)
  simp only [kind, field, rs, lo, hi, of] at CFA CFB
  cases fA : small (.mk k f r l h o) 5
  · rw [fA] at CFA
    replace CFA := Lib.hid CFA
    replace CW := Lib.hid CW
    clear CFB fA hEX hEX' hw hw'
    go_enter Tryd.func3, Tryd.ntmps3
    go_wp2_with fail
    rw [← hX]
    clear hX
    refine (CFA.out _ (Keep.refl X)).mono ?_
    rintro e w1 ⟨rfl, k1⟩
    go_wp2_with fail
    refine (CW.out _ (hkX.trans k1)).mono ?_
    rintro e w2 ⟨rfl, k2⟩
    go_wp2
    go_ret
    exact ⟨rfl, (hkX.trans k1).trans k2⟩
  rw [fA] at CFA
  replace CFA := Lib.hid CFA
  cases fB : small (.mk k' f' r' l' h' o') 5
  · rw [fB] at CFB
    replace CFB := Lib.hid CFB
    replace CW := Lib.hid CW
    clear fA fB hEX hEX' hw hw'
    go_enter Tryd.func3, Tryd.ntmps3
    go_wp2_with fail
    rw [← hX]
    clear hX
    refine (CFA.out _ (Keep.refl X)).mono ?_
    rintro e w1 ⟨rfl, k1⟩
    obtain ⟨b0, b1, b2, b3, b4, b5⟩ := HB.out _ k1
    obtain ⟨c0, c1, c2, c3, c4, c5⟩ := HB2.out _ k1
    go_wp2_with fail
    refine (CFB.out _ k1).mono ?_
    rintro e w2 ⟨rfl, k2⟩
    replace k1 := k1.trans k2
    go_wp2_with fail
    refine (CW.out _ (hkX.trans k1)).mono ?_
    rintro e w3 ⟨rfl, k3⟩
    go_wp2
    go_ret
    exact ⟨rfl, (hkX.trans k1).trans k3⟩
  rw [fB] at CFB
  replace CFB := Lib.hid CFB
  obtain ⟨fe, de, ae⟩ := small_fits _ (.mk k f r l h o) 5 (Nat.le_refl _) hw fA
  obtain ⟨fe', _, _⟩ := small_fits _ (.mk k' f' r' l' h' o') 5 (Nat.le_refl _) hw' fB
  have e7 : 7 ^ ((5 : Int) + 1).toNat = 117649 := by decide
  rw [e7] at ae
  clear fA fB e7 hw hw'
  go_enter Tryd.func3, Tryd.ntmps3
  go_wp2_with fail
  rw [← hX]
  clear hX
  refine (CFA.out _ (Keep.refl X)).mono ?_
  rintro e w1 ⟨rfl, k1⟩
  obtain ⟨b0, b1, b2, b3, b4, b5⟩ := HB.out _ k1
  obtain ⟨c0, c1, c2, c3, c4, c5⟩ := HB2.out _ k1
  go_wp2_with fail
  refine (CFB.out _ k1).mono ?_
  rintro e w2 ⟨rfl, k2⟩
  replace k1 := k1.trans k2
  clear b0 b1 b2 b3 b4 b5
  clear c0 c1 c2 c3 c4 c5
  go_wp2
  have KX := fun p : KeptOf w2 => k1.trans p.h
  have hT := fun p : KeptOf w2 => ht.keep (hkX.trans (KX p))
  have b0 := fun p : KeptOf w2 => (HB.out _ (KX p)).1
  have b1 := fun p : KeptOf w2 => (HB.out _ (KX p)).2.1
  have b2 := fun p : KeptOf w2 => (HB.out _ (KX p)).2.2.1
  have b3 := fun p : KeptOf w2 => (HB.out _ (KX p)).2.2.2.1
  have b4 := fun p : KeptOf w2 => (HB.out _ (KX p)).2.2.2.2.1
  have b5 := fun p : KeptOf w2 => (HB.out _ (KX p)).2.2.2.2.2
  have c0 := fun p : KeptOf w2 => (HB2.out _ (KX p)).1
  have c1 := fun p : KeptOf w2 => (HB2.out _ (KX p)).2.1
  have c2 := fun p : KeptOf w2 => (HB2.out _ (KX p)).2.2.1
  have c3 := fun p : KeptOf w2 => (HB2.out _ (KX p)).2.2.2.1
  have c4 := fun p : KeptOf w2 => (HB2.out _ (KX p)).2.2.2.2.1
  have c5 := fun p : KeptOf w2 => (HB2.out _ (KX p)).2.2.2.2.2
  have q0 : ∀ p : KeptOf w2, Calls Tryd.prog 8 #[] p.w fun e' w' => e' = .returned (.bool true) ∧ Keep p.w w' := fun p => CW _ (hkX.trans (KX p))
  have q1 : ∀ p : KeptOf w2, Calls Tryd.prog 9 #[.agg #[.int .i64 k, .int .i64 f, .slice RA r.length rc, .float .f64 l, .float .f64 h, .slice OA o.length oc]] p.w fun e' w' => e' = .returned (.bool (right (.mk k f r l h o))) ∧ Keep p.w w' := fun p => right_any (.mk k f r l h o) RA OA rc oc p.w (hT p) fe (hEX.kept (KX p))
  have q2 : ∀ p : KeptOf w2, Calls Tryd.prog 10 #[.agg #[.int .i64 k, .int .i64 f, .slice RA r.length rc, .float .f64 l, .float .f64 h, .slice OA o.length oc]] p.w fun e' w' => e' = .returned (.bool (right (.mk k f r l h o))) ∧ Keep p.w w' := fun p => Tr.right_any _ (.mk k f r l h o) RA OA rc oc p.w (Nat.le_refl _) fe (hEX.kept (KX p))
  have q3 : ∀ p : KeptOf w2, Calls Tryd.prog 11 #[.agg #[.int .i64 k, .int .i64 f, .slice RA r.length rc, .float .f64 l, .float .f64 h, .slice OA o.length oc], .agg #[.int .i64 k', .int .i64 f', .slice RA' r'.length rc', .float .f64 l', .float .f64 h', .slice OA' o'.length oc']] p.w fun e' w' => e' = .returned (.bool (same (.mk k f r l h o) (.mk k' f' r' l' h' o'))) ∧ Keep p.w w' := fun p => same_any (.mk k f r l h o) (.mk k' f' r' l' h' o') RA OA rc oc RA' OA' rc' oc' p.w (hT p) fe fe' (hEX.kept (KX p)) (hEX'.kept (KX p))
  have q4 : ∀ p : KeptOf w2, Calls Tryd.prog 12 #[.agg #[.int .i64 k, .int .i64 f, .slice RA r.length rc, .float .f64 l, .float .f64 h, .slice OA o.length oc], .agg #[.int .i64 k', .int .i64 f', .slice RA' r'.length rc', .float .f64 l', .float .f64 h', .slice OA' o'.length oc']] p.w fun e' w' => e' = .returned (.bool (same (.mk k f r l h o) (.mk k' f' r' l' h' o'))) ∧ Keep p.w w' := fun p => Tr.same_any _ (.mk k f r l h o) (.mk k' f' r' l' h' o') RA OA rc oc RA' OA' rc' oc' p.w (Nat.le_refl _) fe fe' (hEX.kept (KX p)) (hEX'.kept (KX p))
  have q5 : ∀ p : KeptOf w2, Calls Tryd.prog 11 #[.agg #[.int .i64 k, .int .i64 f, .slice RA r.length rc, .float .f64 l, .float .f64 h, .slice OA o.length oc], .agg #[.int .i64 k, .int .i64 f, .slice RA r.length rc, .float .f64 l, .float .f64 h, .slice OA o.length oc]] p.w fun e' w' => e' = .returned (.bool true) ∧ Keep p.w w' := fun p => (same_any (.mk k f r l h o) (.mk k f r l h o) RA OA rc oc RA OA rc oc p.w (hT p) fe fe (hEX.kept (KX p)) (hEX.kept (KX p))).mono fun e' w' ⟨a, b⟩ => ⟨by rw [a, same_self _ (.mk k f r l h o) (Nat.le_refl _)], b⟩
  have q6 : ∀ p : KeptOf w2, Calls Tryd.prog 13 #[.agg #[.int .i64 k, .int .i64 f, .slice RA r.length rc, .float .f64 l, .float .f64 h, .slice OA o.length oc]] p.w fun e' w' => e' = .returned (.int .i64 (atoms (.mk k f r l h o) : Nat)) ∧ Keep p.w w' := fun p => atoms_any (.mk k f r l h o) RA OA rc oc p.w (hT p) fe (by omega) (hEX.kept (KX p))
  have q7 : ∀ p : KeptOf w2, Calls Tryd.prog 14 #[.agg #[.int .i64 k, .int .i64 f, .slice RA r.length rc, .float .f64 l, .float .f64 h, .slice OA o.length oc]] p.w fun e' w' => e' = .returned (.int .i64 (atoms (.mk k f r l h o) : Nat)) ∧ Keep p.w w' := fun p => Tr.atoms_any _ (.mk k f r l h o) RA OA rc oc p.w (Nat.le_refl _) fe (by omega) (hEX.kept (KX p))
  have q8 : ∀ p : KeptOf w2, Calls Tryd.prog 15 #[.agg #[.int .i64 k, .int .i64 f, .slice RA r.length rc, .float .f64 l, .float .f64 h, .slice OA o.length oc]] p.w fun e' w' => e' = .returned (.int .i64 (deep (.mk k f r l h o) : Nat)) ∧ Keep p.w w' := fun p => deep_any (.mk k f r l h o) RA OA rc oc p.w (hT p) fe (by omega) (hEX.kept (KX p))
  have q9 : ∀ p : KeptOf w2, Calls Tryd.prog 16 #[.agg #[.int .i64 k, .int .i64 f, .slice RA r.length rc, .float .f64 l, .float .f64 h, .slice OA o.length oc]] p.w fun e' w' => e' = .returned (.int .i64 (deep (.mk k f r l h o) : Nat)) ∧ Keep p.w w' := fun p => Tr.deep_any _ (.mk k f r l h o) RA OA rc oc p.w (Nat.le_refl _) fe (by omega) (hEX.kept (KX p))
  clear CW hEX hEX' hT fe fe' de ae
  generalize right (.mk k f r l h o) = v1 at *
  generalize same (.mk k f r l h o) (.mk k' f' r' l' h' o') = v2 at *
  generalize atoms (.mk k f r l h o) = v3 at *
  generalize deep (.mk k f r l h o) = v4 at *
  cases v1 <;> cases v2
  all_goals (
    refine wp_region_kept (by kernel_rfl) (by kernel_rfl) ?_
    repeat (go_big_quiet_step (first | with_reducible exact KeptOf.of (q0 _) | with_reducible exact KeptOf.of (q1 _) | with_reducible exact KeptOf.of (q2 _) | with_reducible exact KeptOf.of (q3 _) | with_reducible exact KeptOf.of (q4 _) | with_reducible exact KeptOf.of (q5 _) | with_reducible exact KeptOf.of (q6 _) | with_reducible exact KeptOf.of (q7 _) | with_reducible exact KeptOf.of (q8 _) | with_reducible exact KeptOf.of (q9 _)))
    refine Go.wpQuiet_nil ?_
    intro _ hw'
    obtain ⟨⟨V, hwv⟩, hw''⟩ := hw'
    subst hw''
    go_wp2
    go_ret
    exact ⟨rfl, (hkX.trans k1).trans hwv⟩)
end Go.Proofs.YtnlpaceahgedkaaDoor.Tree
