/- Layer 4: the law SpanTells. Conditions: none beyond the law's own. -/
import Derived.Test.YtabmgneoliopaaaSpW
namespace Go.Proofs.Ytabmgneoliopaaa.Span
open Go.Shelf Go.ChangeShapes Go.WideShapes Go.ChangeAt Go.RowKit

set_option maxHeartbeats 2000000 in
theorem tells_any (A : Option Addr) (na ca : Nat) (za : List (Int × Int)) (B : Option Addr) (nb cb : Nat) (zb : List (Int × Int)) (m p q : Int) (w : World) (ha : na ≤ maxLen) (iA : PairsIn w A na za) (hb : nb ≤ maxLen) (iB : PairsIn w B nb zb) :
    Calls Try.prog 3 #[.agg #[.slice A na ca, .slice B nb cb, .int .i64 m, .int .i64 p, .int .i64 q]] w fun e w' => e = .returned (.bool true) ∧ Keep w w' := by
  unfold maxLen at ha hb
  have hmix := mixed
  obtain ⟨X, hX⟩ : ∃ X, X = ((w.alloc (.cells #[.slice A na ca, .slice B nb cb, .int .i64 m, .int .i64 p, .int .i64 q] 26)).alloc (.cells #[.int .i64 p, .int .i64 q] 24)).drew := ⟨_, rfl⟩
  have hkX : Keep w X := by rw [hX]; exact keep_drew (Keep.alloc (Keep.alloc (Keep.refl w) _) _)
  have b0 : X.cell? ⟨w.heap.size + 1, 0, none⟩ = some (.int .i64 p) := by rw [hX]; simp
  have b1 : X.cell? ⟨w.heap.size + 1, 1, none⟩ = some (.int .i64 q) := by rw [hX]; simp
  have hXs : w.heap.size + 1 < X.heap.size := by rw [hX]; simp
  have HXX := Lib.hid hX
  clear hX
  have caw := fun W (_ : Keep X W) => awake_any W
  by_cases hbig : na ≤ 30 ∧ nb ≤ 30
  · obtain ⟨hA30, hB30⟩ := hbig
    have rA : ∀ W, Keep X W → Row encP 2 W W.heap.size A na za := fun W h => iA.1.kept (hkX.trans h)
    have rB : ∀ W, Keep X W → Row encP 2 W W.heap.size B nb zb := fun W h => iB.1.kept (hkX.trans h)
    have fA := fit_of_in iA.2
    obtain ⟨r1, hr1⟩ : ∃ r, r = Sp.rightB za := ⟨_, rfl⟩
    obtain ⟨h1, hh1⟩ : ∃ r, r = Sp.has za m := ⟨_, rfl⟩
    obtain ⟨v1, hv1⟩ : ∃ r, r = Sp.covers (Sp.norm za) (p, q) := ⟨_, rfl⟩
    obtain ⟨s1, hs1⟩ : ∃ r, r = decide (za = zb) := ⟨_, rfl⟩
    have cR : ∀ W, Keep X W → Calls Try.prog 8 #[.slice A na ca] W fun e w' => e = .returned (.bool r1) ∧ Keep W w' := fun W h => hr1 ▸ right_any A na ca za W (by omega) (rA W h) fA
    have cR' : ∀ W, Keep X W → Calls Try.prog 9 #[.slice A na ca] W fun e w' => e = .returned (.bool r1) ∧ Keep W w' := fun W h => hr1 ▸ (ref_right_any A na ca za W (by omega) (rA W h) fA).mono fun _ _ ⟨he, hq⟩ => ⟨he, hq.keep⟩
    have cN := fun W (h : Keep X W) => norm_any A na ca za W (by omega) (rA W h) fA
    have cN' := fun W (h : Keep X W) => ref_norm_any A na ca za W (by omega) (rA W h) fA
    have cH : ∀ W, Keep X W → Calls Try.prog 13 #[.slice A na ca, .int .i64 m] W fun e w' => e = .returned (.bool h1) ∧ Keep W w' := fun W h => hh1 ▸ has_any A na ca za m W (by omega) (rA W h)
    have cH' : ∀ W, Keep X W → Calls Try.prog 14 #[.slice A na ca, .int .i64 m] W fun e w' => e = .returned (.bool h1) ∧ Keep W w' := fun W h => hh1 ▸ (ref_has_any A na ca za m W (by omega) (rA W h)).mono fun _ _ ⟨he, hq⟩ => ⟨he, hq.keep⟩
    have cC : ∀ W, Keep X W → Calls Try.prog 15 #[.slice A na ca, .agg #[.int .i64 p, .int .i64 q]] W fun e w' => e = .returned (.bool v1) ∧ Keep W w' := fun W h => hv1 ▸ covers_any A na ca za p q W (by omega) (rA W h) fA
    have cC' : ∀ W, Keep X W → Calls Try.prog 16 #[.slice A na ca, .agg #[.int .i64 p, .int .i64 q]] W fun e w' => e = .returned (.bool v1) ∧ Keep W w' := fun W h => hv1 ▸ ref_covers_any A na ca za p q W (by omega) (rA W h) fA
    have cS : ∀ W, Keep X W → Calls Try.prog 17 #[.slice A na ca, .slice B nb cb] W fun e w' => e = .returned (.bool s1) ∧ Keep W w' := fun W h => hs1 ▸ (same_any A na ca za B nb cb zb W (by omega) (by omega) (rA W h) (rB W h)).mono fun _ _ ⟨he, hq⟩ => ⟨he, hq.keep⟩
    have cS' : ∀ W, Keep X W → Calls Try.prog 10 #[.slice A na ca, .slice B nb cb] W fun e w' => e = .returned (.bool s1) ∧ Keep W w' := fun W h => hs1 ▸ (ref_same_any A na ca za B nb cb zb W (by omega) (by omega) (rA W h) (rB W h)).mono fun _ _ ⟨he, hq⟩ => ⟨he, hq.keep⟩
    have hzl := iA.1.1
    have cE : ∀ (W : World) (A1 A2 : Option Addr) (n1 c1 n2 c2 : Nat), n1 ≤ 1000000 → n2 ≤ 1000000 → Row encP 2 W W.heap.size A1 n1 (Sp.norm za) → Row encP 2 W W.heap.size A2 n2 (Sp.norm za) → Calls Try.prog 10 #[.slice A1 n1 c1, .slice A2 n2 c2] W fun e w' => e = .returned (.bool true) ∧ Keep W w' :=
      fun W A1 A2 n1 c1 n2 c2 h1 h2 r1 r2 => (ref_same_any A1 n1 c1 _ A2 n2 c2 _ W h1 h2 r1 r2).mono fun _ _ ⟨he, hq⟩ => ⟨by rw [he, decide_eq_true rfl], hq.keep⟩
    clear hr1 hh1 hv1 hs1 rA rB fA iA iB
    go_enter Try.func3, Try.ntmps3
    go_wp2
    go_region
    rw [← HXX.out]
    go_wp2
    go_region_held3 (fun w' => Keep X w' ∧ w'.cell? ⟨w.heap.size + 1, 0, none⟩ = some (.int .i64 p) ∧ w'.cell? ⟨w.heap.size + 1, 1, none⟩ = some (.int .i64 q))
      (first
        | exact ⟨Keep.refl X, b0, b1⟩
        | exact ⟨keep_drew (Keep.refl X), b0, b1⟩
        | exact ⟨hw, (hw.cell (p := ⟨w.heap.size + 1, 0, none⟩) hXs).trans b0, (hw.cell (p := ⟨w.heap.size + 1, 1, none⟩) hXs).trans b1⟩
        | fail)
      ((first
        | (go_at_call 7; (with_reducible refine (caw _  (And.left (by assumption))).mono ?_); rintro e w1 ⟨rfl, kk⟩; have hw := Keep.trans (a := X) (And.left (by assumption)) kk)
        | (go_at_call 8; (with_reducible refine (cR _  (And.left (by assumption))).mono ?_); rintro e w1 ⟨rfl, kk⟩; have hw := Keep.trans (a := X) (And.left (by assumption)) kk)
        | (go_at_call 9; (with_reducible refine (cR' _  (And.left (by assumption))).mono ?_); rintro e w1 ⟨rfl, kk⟩; have hw := Keep.trans (a := X) (And.left (by assumption)) kk)
        | (go_at_call 11; (with_reducible refine (cN _  (And.left (by assumption))).mono ?_); rintro e w1 ⟨⟨A1, n1, c1, rfl, l1, l1', rowN, kk⟩, okN, lenN⟩; have hw := Keep.trans (a := X) (And.left (by assumption)) kk)
        | (go_at_call 12; (with_reducible refine (cN' _  (And.left (by assumption))).mono ?_); rintro e w1 ⟨⟨A2, n2, c2, rfl, l2, l2', rowN2, kk⟩, okN2⟩; have rowN1 := rowN.kept kk; have hw := Keep.trans (a := X) (And.left (by assumption)) kk)
        | (go_at_call 13; (with_reducible refine (cH _  (And.left (by assumption))).mono ?_); rintro e w1 ⟨rfl, kk⟩; have hw := Keep.trans (a := X) (And.left (by assumption)) kk)
        | (go_at_call 14; (with_reducible refine (cH' _  (And.left (by assumption))).mono ?_); rintro e w1 ⟨rfl, kk⟩; have hw := Keep.trans (a := X) (And.left (by assumption)) kk)
        | (go_at_call 15; (with_reducible refine (cC _  (And.left (by assumption))).mono ?_); rintro e w1 ⟨rfl, kk⟩; have hw := Keep.trans (a := X) (And.left (by assumption)) kk)
        | (go_at_call 16; (with_reducible refine (cC' _  (And.left (by assumption))).mono ?_); rintro e w1 ⟨rfl, kk⟩; have hw := Keep.trans (a := X) (And.left (by assumption)) kk)
        | (go_at_call 17; (with_reducible refine (cS _  (And.left (by assumption))).mono ?_); rintro e w1 ⟨rfl, kk⟩; have hw := Keep.trans (a := X) (And.left (by assumption)) kk)
        | (go_at_call 10; (with_reducible refine (cS' _  (And.left (by assumption))).mono ?_); rintro e w1 ⟨rfl, kk⟩; have hw := Keep.trans (a := X) (And.left (by assumption)) kk)
        | (go_at_call 10; have q1 : n1 ≤ 1000000 := (by have := rowN1.1; omega); have q2 : n2 ≤ 1000000 := (by have := rowN2.1; omega); (with_reducible refine (cE _ _ _ _ _ _ _ q1 q2 rowN1 rowN2).mono ?_); rintro e w1 ⟨rfl, kk⟩; have hw := Keep.trans (a := X) (And.left (by assumption)) kk)
        | fail))
    go_wp2
    go_ret
    exact ⟨rfl, hkX.trans hw⟩
  · clear iA iB
    by_cases hA30 : 30 < na
    · have hA30' : (30 : Int) < na := by omega
      go_enter Try.func3, Try.ntmps3
      go_wp2
      go_region
      rw [← HXX.out]
      go_wp2_with fail
      refine (awake_any _).mono ?_
      rintro e w1 ⟨rfl, k1⟩
      go_wp2
      go_ret
      exact ⟨rfl, hkX.trans k1⟩
    · have hB30 : 30 < nb := by omega
      have hB30' : (30 : Int) < nb := by omega
      have hA30' : decide ((30 : Int) < na) = false := by simp; omega
      go_enter Try.func3, Try.ntmps3
      go_wp2
      go_region
      rw [← HXX.out]
      go_wp2_with fail
      refine (awake_any _).mono ?_
      rintro e w1 ⟨rfl, k1⟩
      go_wp2
      go_ret
      exact ⟨rfl, hkX.trans k1⟩

theorem opens_range : Opens Try.prog 24 fun _ cs => ∃ p q, cs = [.int .i64 p, .int .i64 q] :=
  ((opens_field Try.underlying24 0 _ rfl 2 1 (by kernel_rfl) (by kernel_rfl) (opens_int Try.underlying3)).and (opens_field Try.underlying24 1 _ rfl 2 1 (by kernel_rfl) (by kernel_rfl) (opens_int Try.underlying3))).mono
  fun W cs ⟨⟨hl, p, e0, h0⟩, _, q, e1, h1⟩ => by
    match cs, hl with
    | [c0, c1], _ =>
      simp at e0 e1
      subst e0 e1
      exact ⟨p, q, rfl⟩
theorem opens_ask : Opens Try.prog 26 fun W cs => ∃ A na ca za B nb cb zb m p q, cs = [.slice A na ca, .slice B nb cb, .int .i64 m, .int .i64 p, .int .i64 q] ∧ na ≤ maxLen ∧ PairsIn W A na za ∧ nb ≤ maxLen ∧ PairsIn W B nb zb :=
  ((((opens_field Try.underlying26 0 _ rfl 5 1 (by kernel_rfl) (by kernel_rfl) (opens_pairs Try.underlying22 Try.underlying24 Try.underlying3 (by kernel_rfl) (by kernel_rfl) _ _ rfl rfl rfl rfl rfl rfl)).and
    (opens_field Try.underlying26 1 _ rfl 5 1 (by kernel_rfl) (by kernel_rfl) (opens_pairs Try.underlying22 Try.underlying24 Try.underlying3 (by kernel_rfl) (by kernel_rfl) _ _ rfl rfl rfl rfl rfl rfl))).and
    (opens_field Try.underlying26 2 _ rfl 5 1 (by kernel_rfl) (by kernel_rfl) (opens_int Try.underlying3))).and
    (opens_field Try.underlying26 3 _ rfl 5 2 (by kernel_rfl) (by kernel_rfl) opens_range)).mono
  fun W cs ⟨⟨⟨⟨hl, A, na, ca, za, e0, l0, m0, h0⟩, _, B, nb, cb, zb, e1, l1, m1, h1⟩, _, m, e2, h2⟩, _, p, q, e3⟩ => by
    match cs, hl with
    | [c0, c1, c2, c3, c4], _ =>
      simp at e0 e1 e2 e3
      obtain ⟨rfl, rfl⟩ := e3
      subst e0 e1 e2
      exact ⟨A, na, ca, za, B, nb, cb, zb, m, p, q, rfl, Nat.le_trans l0 m0, h0, Nat.le_trans l1 m1, h1⟩
end Go.Proofs.Ytabmgneoliopaaa.Span
