/- Layer 3's reference: each function answers what the plain words of ReA say. Conditions: none. -/
import Derived.Test.YtdkeibgfehblaaaGreatDoorRe
namespace Go.Proofs.YtdkeibgfehblaaaGreatDoor.Ref3
open Go.Proofs.YtdkeibgfehblaaaGreatDoor.Fp Go.Proofs.YtdkeibgfehblaaaGreatDoor.Re Go.ChangeShapes Go.WideShapes Go.ChangeAt Go.RowKit

theorem minus_any (s : Bool) {v : Nat} (hv : Ex v) (w : World) : Calls Tryz.prog 42 #[.float .f64 (fl s v)] w fun e w' => e = .returned (.bool s) ∧ w = w' := by
  have h1 := lt0 (s := s) hv
  have h2 := eq0 (s := s) hv
  by_cases h0 : v = 0
  · subst h0
    have hq : ∀ t w, (binOp .quo t (.float .f64 4607182418800017408) (.float .f64 (fl s 0))).run Tryz.prog w = .ok (.float .f64 (fl s top)) w := fun t w => run_float_arith w .quo t .f64 _ _ _ (one_over s)
    have h3 := lt0 (s := s) ex_top
    rw [decide_eq_true (show top ≠ 0 from Nat.ne_of_gt top_pos), Bool.and_true] at h3
    rw [decide_eq_false (by simp), Bool.and_false] at h1
    rw [decide_eq_true rfl] at h2
    go_enter Tryz.func42, Tryz.ntmps42
    go_wp2
    go_ret
    exact ⟨rfl, rfl⟩
  · rw [decide_eq_true h0, Bool.and_true] at h1
    rw [decide_eq_false h0] at h2
    cases s
    · go_enter Tryz.func42, Tryz.ntmps42
      go_wp2
      go_ret
      exact ⟨rfl, rfl⟩
    · go_enter Tryz.func42, Tryz.ntmps42
      go_wp2
      go_ret
      exact ⟨rfl, rfl⟩




set_option maxHeartbeats 400000 in
theorem same_any (a b : Nat) (ha : a < 18446744073709551616) (hb : b < 18446744073709551616) (w : World) : Calls Tryz.prog 31 #[.float .f64 a, .float .f64 b] w fun e w' => e = .returned (.bool (sameB a b)) ∧ w = w' := by
  cases hna : nanB a <;> cases hnb : nanB b
  · have hna' : (FloatKind.f64.format.order a a != some Ordering.eq) = false := hna
    have hnb' : (FloatKind.f64.format.order b b != some Ordering.eq) = false := hnb
    obtain ⟨s, v, hv, e1⟩ : ∃ s v, Ex v ∧ a = fl s v := by
      rcases kinds ha with ⟨_, h⟩ | ⟨_, h⟩
      · rw [hna] at h; cases h
      · exact h
    obtain ⟨t, u, hu, e2⟩ : ∃ s v, Ex v ∧ b = fl s v := by
      rcases kinds hb with ⟨_, h⟩ | ⟨_, h⟩
      · rw [hnb] at h; cases h
      · exact h
    have m1 := fun w => minus_any s hv w
    have m2 := fun w => minus_any t hu w
    have s1 := signB_fl (s := s) hv
    have s2 := signB_fl (s := t) hu
    rw [← e1] at m1 s1
    rw [← e2] at m2 s2
    clear e1 e2
    cases heq : (FloatKind.f64.format.order a b == some Ordering.eq)
    · go_enter Tryz.func31, Tryz.ntmps31
      go_wp2
      go_ret
      exact ⟨by unfold sameB; rw [hna, hnb, heq]; rfl, rfl⟩
    · go_enter Tryz.func31, Tryz.ntmps31
      go_wp2_with fail
      refine (m1 _).mono ?_
      rintro e w1 ⟨rfl, rfl⟩
      go_wp2_with fail
      refine (m2 _).mono ?_
      rintro e w1 ⟨rfl, rfl⟩
      go_wp2
      go_ret
      exact ⟨by unfold sameB; rw [hna, hnb, heq, s1, s2]; rfl, rfl⟩
  · have hna' : (FloatKind.f64.format.order a a != some Ordering.eq) = false := hna
    have hnb' : (FloatKind.f64.format.order b b != some Ordering.eq) = true := hnb
    go_enter Tryz.func31, Tryz.ntmps31
    go_wp2
    go_ret
    exact ⟨by unfold sameB; rw [hna, hnb]; rfl, rfl⟩
  · have hna' : (FloatKind.f64.format.order a a != some Ordering.eq) = true := hna
    have hnb' : (FloatKind.f64.format.order b b != some Ordering.eq) = false := hnb
    go_enter Tryz.func31, Tryz.ntmps31
    go_wp2
    go_ret
    exact ⟨by unfold sameB; rw [hna, hnb]; rfl, rfl⟩
  · have hna' : (FloatKind.f64.format.order a a != some Ordering.eq) = true := hna
    have hnb' : (FloatKind.f64.format.order b b != some Ordering.eq) = true := hnb
    go_enter Tryz.func31, Tryz.ntmps31
    go_wp2
    go_ret
    exact ⟨by unfold sameB; rw [hna, hnb]; rfl, rfl⟩

theorem two_times {Q0 : Program} (s : Bool) {v : Nat} (h : Ex v) (ht : 2 * v < top) : ∀ t w, (binOp .mul t (.float .f64 (fl s v)) (.float .f64 4611686018427387904)).run Q0 w = .ok (.float .f64 (fl s (2 * v))) w :=
  fun t w => run_float_arith w .mul t .f64 _ _ _ (mul2 s h ht)
theorem halved {Q0 : Program} (s : Bool) {v : Nat} (h : Ex (2 * v)) (ht : 2 * v < top) : ∀ t w, (binOp .quo t (.float .f64 (fl s (2 * v))) (.float .f64 4611686018427387904)).run Q0 w = .ok (.float .f64 (fl s v)) w :=
  fun t w => run_float_arith w .quo t .f64 _ _ _ (half_even s h ht)

def UpRel (s : Bool) (v n : Nat) (w : World) (x i : Value) (wr : World) : Prop :=
  ∃ k j : Nat, k + j = n ∧ x = .float .f64 (fl s (v * 2 ^ j)) ∧ i = .int .i64 (k : Int) ∧ wr = w
def StayRel (w : World) (x0 i0 x i : Value) (wr : World) : Prop := x = x0 ∧ i = i0 ∧ wr = w
def DownRel (s : Bool) (v : Nat) (n : Nat) (w : World) (x i : Value) (wr : World) : Prop :=
  ∃ (k : Nat) (z : Int), k ≤ n ∧ x = .float .f64 (fl s (v * 2 ^ k)) ∧ i = .int .i64 z ∧ wr = w ∧ z + k = 0


def Of3Rel (w : World) (zs : List Int) (v i : Value) (wr : World) : Prop :=
  ∃ k : Nat, k ≤ 4 ∧ i = .int .i64 (k : Int) ∧ v = .int .i64 ((bitsL ((zs.take k).drop 1) : Nat) : Int) ∧ Tw.allIn (zs.take k) = true ∧ wr = w

end Go.Proofs.YtdkeibgfehblaaaGreatDoor.Ref3
