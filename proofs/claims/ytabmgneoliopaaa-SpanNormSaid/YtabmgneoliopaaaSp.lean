/- Layer 4 (span): the small functions answer what the plain words of SpA say. Conditions: ends fit 64 bits. -/
import Derived.Test.YtabmgneoliopaaaRows
import Derived.Test.YtabmgneoliopaaaRow
import Derived.Test.YtabmgneoliopaaaSpA
import Derived.IntWalk
namespace Go.Proofs.Ytabmgneoliopaaa.Span
open Go.ChangeShapes Go.WideShapes Go.ChangeAt Go.RowKit

/-- A range whose ends fit. -/
def Fit (r : Int × Int) : Prop := (-9223372036854775808 ≤ r.1 ∧ r.1 ≤ 9223372036854775807) ∧ (-9223372036854775808 ≤ r.2 ∧ r.2 ≤ 9223372036854775807)

set_option maxHeartbeats 400000 in
theorem isEmpty_any (a b : Int) (w : World) :
    Calls Try.prog 18 #[.agg #[.int .i64 a, .int .i64 b]] w fun e w' => e = .returned (.bool (Sp.emp (a, b))) ∧ Grew w w' := by
  have he : Sp.emp (a, b) = decide (b < a) := rfl
  rw [he]
  clear he
  go_enter Try.func18, Try.ntmps18
  go_wp2
  go_ret
  exact ⟨rfl, (Grew.refl _).alloc _⟩

set_option maxHeartbeats 400000 in
theorem isApart_any (a b c d : Int) (w : World) (h0 : -9223372036854775808 ≤ b) (h1 : c ≤ 9223372036854775807) :
    Calls Try.prog 19 #[.agg #[.int .i64 a, .int .i64 b], .agg #[.int .i64 c, .int .i64 d]] w fun e w' => e = .returned (.bool (Sp.apart (a, b) (c, d))) ∧ Grew w w' := by
  have he : Sp.apart (a, b) (c, d) = decide (b + 1 < c) := rfl
  rw [he]
  clear he
  by_cases h : b < c
  · go_enter Try.func19, Try.ntmps19
    go_wp2
    go_ret
    exact ⟨rfl, ((Grew.refl _).alloc _).alloc _⟩
  · have e : decide (b + 1 < c) = false := by simp; omega
    rw [e]
    clear e
    go_enter Try.func19, Try.ntmps19
    go_wp2
    go_ret
    exact ⟨rfl, ((Grew.refl _).alloc _).alloc _⟩

set_option maxHeartbeats 400000 in
theorem ref_right_any (A : Option Addr) (n c : Nat) (zs : List (Int × Int)) (w : World) (hn : n ≤ 1000000) (hA : Row encP 2 w w.heap.size A n zs) (hf : ∀ r ∈ zs, Fit r) :
    Calls Try.prog 9 #[.slice A n c] w fun e w' => e = .returned (.bool (Sp.rightB zs)) ∧ Quiet w w' := by
  have hlen := hA.1
  have gd : ∀ j, j < n → zs.getD j (0, 0) ∈ zs := fun j hj => by
    have hj' : j < zs.length := by omega
    rw [List.getD_eq_getElem?_getD, List.getElem?_eq_getElem hj']
    exact List.getElem_mem _
  have HL := Lib.hid hlen
  clear hlen
  go_enter Try.func9, Try.ntmps9
  go_wp2
  go_loopw [3] (fun i wr => ∃ k : Nat, k ≤ n ∧ i = .int .i64 k ∧ Quiet w wr ∧ Hid (∀ j, j < k → Sp.good zs j = true)) (fun i _ => n - (intOf i).toNat)
  case atStart => exact ⟨0, Nat.zero_le _, rfl, Quiet.refl _, fun j hj => absurd hj (Nat.not_lt_zero _)⟩
  case round =>
    obtain ⟨k, hk, rfl, hq, hg⟩ := hrel
    by_cases hlt : k < n
    · obtain ⟨b, off, rfl, _⟩ := hA.addr (by omega)
      obtain ⟨_, c1, c2⟩ := hA.pair k hlt
      have f1 := hf _ (gd k hlt)
      have d1 := (hq.cell _).trans c1
      have d2 := (hq.cell _).trans c2
      clear c1 c2
      obtain ⟨p, q, hpq⟩ : ∃ p q, zs.getD k (0, 0) = (p, q) := ⟨_, _, rfl⟩
      rw [hpq] at d1 d2 f1
      have HPQ := Lib.hid hpq
      clear hpq
      simp only [Fit] at f1 d1 d2
      obtain ⟨⟨f1, f2⟩, f3, f4⟩ := f1
      have hltz : (k : Int) < n := by omega
      have hk0 : (0 : Int) ≤ k := by omega
      by_cases e1 : q < p
      · have t1 : decide (q < p) = true := by simpa using e1
        have G := Lib.hid (show Sp.good zs k = false by unfold Sp.good Sp.emp; rw [HPQ.out]; simp [e1])
        go_wp2
        go_quiet (fail)
        go_wp2
        go_ret
        rw [Sp.rightB_false zs k (by rw [HL.out]; exact hlt) G.out]
        exact ⟨rfl, (hq.drewN _)⟩
      · have t1 : decide (q < p) = false := by simpa using e1
        by_cases e2 : k = 0
        · subst e2
          have G := Lib.hid (show Sp.good zs 0 = true by unfold Sp.good Sp.emp; rw [HPQ.out]; simp [t1])
          have hltn : 0 < n := hlt
          simp only [Nat.zero_mul, Nat.add_zero] at d1 d2
          clear hk0
          go_wp2
          go_quiet (fail)
          go_wp2
          go_roundw
          case rel => exact ⟨0 + 1, by omega, by go_num, hq.drewN _, fun j hj => by
            obtain rfl : j = 0 := by omega
            exact G.out⟩
          case measure => simp [intOf]; omega
        · obtain ⟨m, rfl⟩ : ∃ m, k = m + 1 := ⟨k - 1, by omega⟩
          obtain ⟨_, c3, c4⟩ := hA.pair m (by omega)
          have f5 := hf _ (gd m (by omega))
          have d3 := (hq.cell _).trans c3
          have d4 := (hq.cell _).trans c4
          clear c3 c4
          obtain ⟨p', q', hpq'⟩ : ∃ p q, zs.getD m (0, 0) = (p, q) := ⟨_, _, rfl⟩
          rw [hpq'] at d3 d4 f5
          have HPQ' := Lib.hid hpq'
          clear hpq'
          simp only [Fit] at f5 d3 d4
          obtain ⟨_, f7, f8⟩ := f5
          have hgood : Sp.good zs (m + 1) = decide (q' + 1 < p) := by
            unfold Sp.good Sp.emp Sp.apart
            rw [HPQ.out, show m + 1 - 1 = m from rfl, HPQ'.out]
            simp [t1]
          have HG := Lib.hid hgood
          clear hgood
          have hm0 : (0 : Int) ≤ m := by omega
          have hm1 : (m : Int) < n := by omega
          by_cases e3 : p ≤ q'
          · have G := Lib.hid (show Sp.good zs (m + 1) = false by rw [HG.out]; simp; omega)
            go_wp2
            go_quiet (fail)
            go_wp2
            go_ret
            rw [Sp.rightB_false zs (m + 1) (by rw [HL.out]; exact hlt) G.out]
            exact ⟨rfl, (hq.drewN _)⟩
          · by_cases e4 : p - 1 ≤ q'
            · have G := Lib.hid (show Sp.good zs (m + 1) = false by rw [HG.out]; simp; omega)
              have t3 : decide (p ≤ q') = false := by simpa using e3
              have hw : IntKind.i64.wrap (p - 1) = p - 1 := IntWalk.i64_in _ (by omega)
              go_wp2
              go_quiet (fail)
              go_wp2
              go_ret
              rw [Sp.rightB_false zs (m + 1) (by rw [HL.out]; exact hlt) G.out]
              exact ⟨rfl, (hq.drewN _)⟩
            · have G := Lib.hid (show Sp.good zs (m + 1) = true by rw [HG.out]; simp; omega)
              have hw : IntKind.i64.wrap (p - 1) = p - 1 := IntWalk.i64_in _ (by omega)
              have t3 : decide (p ≤ q') = false := by simpa using e3
              have t4 : decide (p - 1 ≤ q') = false := by simpa using e4
              go_wp2
              go_quiet (fail)
              go_wp2
              go_roundw
              case rel => exact ⟨m + 1 + 1, by omega, by go_num, hq.drewN _, fun j hj => by
                rcases Nat.lt_or_ge j (m + 1) with h | h
                · exact hg.out j h
                · obtain rfl : j = m + 1 := by omega
                  exact G.out⟩
              case measure => simp [intOf]; omega
    · obtain rfl : k = n := by omega
      go_wp2
      go_ret
      rw [Sp.rightB_true zs (fun j hj => hg.out j (by rw [← HL.out]; exact hj))]
      exact ⟨rfl, hq⟩
end Go.Proofs.Ytabmgneoliopaaa.Span
