/- Several texts in one: Sp, SpS. Conditions: as each part says. -/
import Derived.Test.YtdkeibgfehblaaaGreatDoorRows
import Derived.Test.YtdkeibgfehblaaaGreatDoorRow
import Derived.Test.YtdkeibgfehblaaaGreatDoorSpA
import Derived.IntWalk
import Derived.Laws.StructEq
/- Layer 4 (span): the small functions answer what the plain words of SpA say. Conditions: ends fit 64 bits. -/
namespace Go.Proofs.YtdkeibgfehblaaaGreatDoor.Span
open Go.ChangeShapes Go.WideShapes Go.ChangeAt Go.RowKit

/-- A range whose ends fit. -/
def Fit (r : Int × Int) : Prop := (-9223372036854775808 ≤ r.1 ∧ r.1 ≤ 9223372036854775807) ∧ (-9223372036854775808 ≤ r.2 ∧ r.2 ≤ 9223372036854775807)

set_option maxHeartbeats 400000 in
theorem isEmpty_any (a b : Int) (w : World) :
    Calls Tryz.prog 56 #[.agg #[.int .i64 a, .int .i64 b]] w fun e w' => e = .returned (.bool (Sp.emp (a, b))) ∧ Grew w w' := by
  have he : Sp.emp (a, b) = decide (b < a) := rfl
  rw [he]
  clear he
  go_enter Tryz.func56, Tryz.ntmps56
  go_wp2
  go_ret
  exact ⟨rfl, (Grew.refl _).alloc _⟩

set_option maxHeartbeats 400000 in
theorem isApart_any (a b c d : Int) (w : World) (h0 : -9223372036854775808 ≤ b) (h1 : c ≤ 9223372036854775807) :
    Calls Tryz.prog 60 #[.agg #[.int .i64 a, .int .i64 b], .agg #[.int .i64 c, .int .i64 d]] w fun e w' => e = .returned (.bool (Sp.apart (a, b) (c, d))) ∧ Grew w w' := by
  have he : Sp.apart (a, b) (c, d) = decide (b + 1 < c) := rfl
  rw [he]
  clear he
  by_cases h : b < c
  · go_enter Tryz.func60, Tryz.ntmps60
    go_wp2
    go_ret
    exact ⟨rfl, ((Grew.refl _).alloc _).alloc _⟩
  · have e : decide (b + 1 < c) = false := by simp; omega
    rw [e]
    clear e
    go_enter Tryz.func60, Tryz.ntmps60
    go_wp2
    go_ret
    exact ⟨rfl, ((Grew.refl _).alloc _).alloc _⟩

end Go.Proofs.YtdkeibgfehblaaaGreatDoor.Span
/- Layer 4: 'Same' and 'Has', the reference's and the program's (slices.Equal, slices.ContainsFunc), answer what the plain words of SpA say. Conditions: lengths at most a million. -/
namespace Go.Proofs.YtdkeibgfehblaaaGreatDoor.Span
open Go.ChangeShapes Go.WideShapes Go.ChangeAt Go.RowKit

/-- '==' of two ranges. -/
theorem eqR (a b c d : Int) (w : World) : (Op.equalIn 10000 42 (.agg #[.int .i64 a, .int .i64 b]) (.agg #[.int .i64 c, .int .i64 d])).run Tryz.prog w = .ok (decide ((a, b) = (c, d))) w := by
  have u3 := Tryz.underlying3
  have a3 := Tryz.isAgg3
  have z3 := Tryz.sizeOf3
  have hS : Tryz.prog.underlying 42 = some (.struct (Tryz.prog.fieldsOf 42)) := by kernel_rfl
  have hp : Tryz.prog.stoodInHeld 42 = false := by kernel_rfl
  rw [show (10000 : Nat) = 9999 + 1 from rfl, run_equalIn_agg w 9999 42 _ _ hS hp]
  simp only [Program.fieldsOf, Tryz.underlying42]
  go_simp
  by_cases h1 : a = c <;> by_cases h2 : b = d <;> simp [h1, h2]
theorem guardR : Tryz.prog.eqGuardType Tryz.prog.depth 42 = false := by kernel_rfl

theorem getD_take {α : Type} (l : List α) (d : α) (k : Nat) (hk : k < l.length) : l.take (k + 1) = l.take k ++ [l.getD k d] := by
  rw [List.take_succ_eq_append_getElem hk]
  simp [List.getD, List.getElem?_eq_getElem hk]
theorem ne_of_getD {α : Type} {a b : List α} {d : α} {k : Nat} (h : a.getD k d ≠ b.getD k d) : a ≠ b := fun e => h (by rw [e])

set_option maxHeartbeats 400000 in
theorem ref_same_any (A : Option Addr) (n c : Nat) (xs : List (Int × Int)) (A' : Option Addr) (n' c' : Nat) (ys : List (Int × Int)) (w : World) (hn : n ≤ 1000000) (hn' : n' ≤ 1000000) (hA : Row encP 2 w w.heap.size A n xs) (hA' : Row encP 2 w w.heap.size A' n' ys) :
    Calls Tryz.prog 30 #[.slice A n c, .slice A' n' c'] w fun e w' => e = .returned (.bool (decide (xs = ys))) ∧ Quiet w w' := by
  have HL := Lib.hid hA.1
  have HL' := Lib.hid hA'.1
  by_cases hnn : n = n'
  · subst hnn
    go_enter Tryz.func30, Tryz.ntmps30
    go_wp2
    go_loopw [5] (fun i wr => ∃ k : Nat, k ≤ n ∧ i = .int .i64 k ∧ Quiet w wr ∧ Hid (xs.take k = ys.take k)) (fun i _ => n - (intOf i).toNat)
    case atStart => exact ⟨0, Nat.zero_le _, rfl, Quiet.refl _, (rfl : xs.take 0 = ys.take 0)⟩
    case round =>
      obtain ⟨k, hk, rfl, hq, hg⟩ := hrel
      by_cases hlt : k < n
      · obtain ⟨b, off, rfl, _⟩ := hA.addr (by omega)
        obtain ⟨b', off', rfl, _⟩ := hA'.addr (by omega)
        obtain ⟨_, c1, c2⟩ := hA.pair k hlt
        obtain ⟨_, c3, c4⟩ := hA'.pair k hlt
        have d1 := (hq.cell _).trans c1
        have d2 := (hq.cell _).trans c2
        have d3 := (hq.cell _).trans c3
        have d4 := (hq.cell _).trans c4
        clear c1 c2 c3 c4
        obtain ⟨x1, x2, hx⟩ : ∃ p q, xs.getD k (0, 0) = (p, q) := ⟨_, _, rfl⟩
        obtain ⟨y1, y2, hy⟩ : ∃ p q, ys.getD k (0, 0) = (p, q) := ⟨_, _, rfl⟩
        rw [hx] at d1 d2
        rw [hy] at d3 d4
        have HX := Lib.hid hx
        have HY := Lib.hid hy
        clear hx hy
        simp only at d1 d2 d3 d4
        have hltz : (k : Int) < n := by omega
        have hk0 : (0 : Int) ≤ k := by omega
        have hgd := guardR
        by_cases e : (x1, x2) = (y1, y2)
        · have E := Lib.hid e
          have he : ∀ w, (Op.equalIn 10000 42 (.agg #[.int .i64 x1, .int .i64 x2]) (.agg #[.int .i64 y1, .int .i64 y2])).run Tryz.prog w = .ok true w := fun w => by rw [eqR, decide_eq_true e]
          clear e
          go_wp2
          go_quiet (fail)
          go_wp2
          go_roundw
          case rel => exact ⟨k + 1, by omega, by go_num, hq.drewN _, by
            show xs.take (k + 1) = ys.take (k + 1)
            rw [getD_take xs (0, 0) k (by rw [HL.out]; exact hlt), getD_take ys (0, 0) k (by rw [HL'.out]; exact hlt), hg.out, HX.out, HY.out, E.out]⟩
          case measure => simp [intOf]; omega
        · have E := Lib.hid e
          have he : ∀ w, (Op.equalIn 10000 42 (.agg #[.int .i64 x1, .int .i64 x2]) (.agg #[.int .i64 y1, .int .i64 y2])).run Tryz.prog w = .ok false w := fun w => by rw [eqR, decide_eq_false e]
          clear e
          go_wp2
          go_quiet (fail)
          go_wp2
          go_ret
          rw [decide_eq_false (ne_of_getD (d := (0, 0)) (k := k) (by rw [HX.out, HY.out]; exact E.out))]
          exact ⟨rfl, hq.drewN _⟩
      · obtain rfl : k = n := by omega
        go_wp2
        go_ret
        have e := hg.out
        rw [List.take_of_length_le (by rw [HL.out]; omega), List.take_of_length_le (by rw [HL'.out]; omega)] at e
        rw [decide_eq_true e]
        exact ⟨rfl, hq⟩
  · have hne := Lib.hid (show xs ≠ ys from fun e => hnn (by rw [← HL.out, ← HL'.out, e]))
    have h0 : decide (n = n') = false := decide_eq_false hnn
    go_enter Tryz.func30, Tryz.ntmps30
    go_wp2
    go_ret
    rw [decide_eq_false hne.out]
    exact ⟨rfl, Quiet.refl _⟩
set_option maxHeartbeats 400000 in
theorem equal_any (A : Option Addr) (n c : Nat) (xs : List (Int × Int)) (A' : Option Addr) (n' c' : Nat) (ys : List (Int × Int)) (w : World) (hn : n ≤ 1000000) (hn' : n' ≤ 1000000) (hA : Row encP 2 w w.heap.size A n xs) (hA' : Row encP 2 w w.heap.size A' n' ys) :
    Calls Tryz.prog 68 #[.slice A n c, .slice A' n' c'] w fun e w' => e = .returned (.bool (decide (xs = ys))) ∧ Quiet w w' := by
  have HL := Lib.hid hA.1
  have HL' := Lib.hid hA'.1
  by_cases hnn : n = n'
  · subst hnn
    go_enter Tryz.func68, Tryz.ntmps68
    go_wp2
    go_loopw [13] (fun i wr => ∃ k : Nat, k ≤ n ∧ i = .int .i64 k ∧ Quiet w wr ∧ Hid (xs.take k = ys.take k)) (fun i _ => n - (intOf i).toNat)
    case atStart => exact ⟨0, Nat.zero_le _, rfl, Quiet.refl _, (rfl : xs.take 0 = ys.take 0)⟩
    case round =>
      obtain ⟨k, hk, rfl, hq, hg⟩ := hrel
      by_cases hlt : k < n
      · obtain ⟨b, off, rfl, _⟩ := hA.addr (by omega)
        obtain ⟨b', off', rfl, _⟩ := hA'.addr (by omega)
        obtain ⟨_, c1, c2⟩ := hA.pair k hlt
        obtain ⟨_, c3, c4⟩ := hA'.pair k hlt
        have d1 := (hq.cell _).trans c1
        have d2 := (hq.cell _).trans c2
        have d3 := (hq.cell _).trans c3
        have d4 := (hq.cell _).trans c4
        clear c1 c2 c3 c4
        obtain ⟨x1, x2, hx⟩ : ∃ p q, xs.getD k (0, 0) = (p, q) := ⟨_, _, rfl⟩
        obtain ⟨y1, y2, hy⟩ : ∃ p q, ys.getD k (0, 0) = (p, q) := ⟨_, _, rfl⟩
        rw [hx] at d1 d2
        rw [hy] at d3 d4
        have HX := Lib.hid hx
        have HY := Lib.hid hy
        clear hx hy
        simp only at d1 d2 d3 d4
        have hltz : (k : Int) < n := by omega
        have hk0 : (0 : Int) ≤ k := by omega
        have hgd := guardR
        by_cases e : (x1, x2) = (y1, y2)
        · have E := Lib.hid e
          have he : ∀ w, (Op.equalIn 10000 42 (.agg #[.int .i64 x1, .int .i64 x2]) (.agg #[.int .i64 y1, .int .i64 y2])).run Tryz.prog w = .ok true w := fun w => by rw [eqR, decide_eq_true e]
          clear e
          go_wp2
          go_quiet (fail)
          go_wp2
          go_roundw
          case rel => exact ⟨k + 1, by omega, by go_num, hq.drewN _, by
            show xs.take (k + 1) = ys.take (k + 1)
            rw [getD_take xs (0, 0) k (by rw [HL.out]; exact hlt), getD_take ys (0, 0) k (by rw [HL'.out]; exact hlt), hg.out, HX.out, HY.out, E.out]⟩
          case measure => simp [intOf]; omega
        · have E := Lib.hid e
          have he : ∀ w, (Op.equalIn 10000 42 (.agg #[.int .i64 x1, .int .i64 x2]) (.agg #[.int .i64 y1, .int .i64 y2])).run Tryz.prog w = .ok false w := fun w => by rw [eqR, decide_eq_false e]
          clear e
          go_wp2
          go_quiet (fail)
          go_wp2
          go_ret
          rw [decide_eq_false (ne_of_getD (d := (0, 0)) (k := k) (by rw [HX.out, HY.out]; exact E.out))]
          exact ⟨rfl, hq.drewN _⟩
      · obtain rfl : k = n := by omega
        go_wp2
        go_ret
        have e := hg.out
        rw [List.take_of_length_le (by rw [HL.out]; omega), List.take_of_length_le (by rw [HL'.out]; omega)] at e
        rw [decide_eq_true e]
        exact ⟨rfl, hq⟩
  · have hne := Lib.hid (show xs ≠ ys from fun e => hnn (by rw [← HL.out, ← HL'.out, e]))
    have h0 : decide (n = n') = false := decide_eq_false hnn
    go_enter Tryz.func68, Tryz.ntmps68
    go_wp2
    go_ret
    rw [decide_eq_false hne.out]
    exact ⟨rfl, Quiet.refl _⟩

set_option maxHeartbeats 400000 in
theorem same_any (A : Option Addr) (n c : Nat) (xs : List (Int × Int)) (A' : Option Addr) (n' c' : Nat) (ys : List (Int × Int)) (w : World) (hn : n ≤ 1000000) (hn' : n' ≤ 1000000) (hA : Row encP 2 w w.heap.size A n xs) (hA' : Row encP 2 w w.heap.size A' n' ys) :
    Calls Tryz.prog 51 #[.slice A n c, .slice A' n' c'] w fun e w' => e = .returned (.bool (decide (xs = ys))) ∧ Quiet w w' := by
  have hcon := equal_any A n c xs A' n' c' ys w hn hn' hA hA'
  generalize decide (xs = ys) = r at hcon ⊢
  go_enter Tryz.func51, Tryz.ntmps51
  go_wp2_with fail
  refine hcon.mono ?_
  rintro e w1 ⟨rfl, hq⟩
  go_wp2
  go_ret
  exact ⟨rfl, hq⟩

theorem has_true (zs : List (Int × Int)) (m : Int) (k : Nat) (hk : k < zs.length) (h : Sp.inR (zs.getD k (0, 0)) m = true) : Sp.has zs m = true := by
  simp only [Sp.has, List.any_eq_true]
  refine ⟨_, ?_, h⟩
  rw [List.getD_eq_getElem?_getD, List.getElem?_eq_getElem hk]
  exact List.getElem_mem _
theorem has_false (zs : List (Int × Int)) (m : Int) (h : ∀ k, k < zs.length → Sp.inR (zs.getD k (0, 0)) m = false) : Sp.has zs m = false := by
  cases e : Sp.has zs m with
  | false => rfl
  | true =>
    simp only [Sp.has, List.any_eq_true] at e
    obtain ⟨r, hr, h1⟩ := e
    obtain ⟨i, hi, rfl⟩ := List.mem_iff_getElem.1 hr
    have := h i hi
    rw [List.getD_eq_getElem?_getD, List.getElem?_eq_getElem hi] at this
    simp [h1] at this


/-- What is asked of a test of a range: in every world behind w it answers p, and leaves what there was. -/
def Tests (g : Nat) (lb : Array Value) (p : Int × Int → Bool) (w : World) : Prop :=
  ∀ (W : World) (x1 x2 : Int), Keep w W → Calls Tryz.prog g (#[.agg #[.int .i64 x1, .int .i64 x2]] ++ lb) W fun e w' => e = .returned (.bool (p (x1, x2))) ∧ Keep W w'

theorem any_true (zs : List (Int × Int)) (p : Int × Int → Bool) (k : Nat) (hk : k < zs.length) (h : p (zs.getD k (0, 0)) = true) : zs.any p = true := by
  simp only [List.any_eq_true]
  refine ⟨_, ?_, h⟩
  rw [List.getD_eq_getElem?_getD, List.getElem?_eq_getElem hk]
  exact List.getElem_mem _
theorem any_false (zs : List (Int × Int)) (p : Int × Int → Bool) (h : ∀ k, k < zs.length → p (zs.getD k (0, 0)) = false) : zs.any p = false := by
  cases e : zs.any p with
  | false => rfl
  | true =>
    simp only [List.any_eq_true] at e
    obtain ⟨r, hr, h1⟩ := e
    obtain ⟨i, hi, rfl⟩ := List.mem_iff_getElem.1 hr
    have := h i hi
    rw [List.getD_eq_getElem?_getD, List.getElem?_eq_getElem hi] at this
    simp [h1] at this

/-- What slices.IndexFunc answers: the first place of which p holds, or -1. -/
def First (zs : List (Int × Int)) (p : Int × Int → Bool) (w : World) (e : Ending) (w' : World) : Prop :=
  ∃ i : Int, e = .returned (.int .i64 i) ∧ Keep w w' ∧ ((i = -1 ∧ ∀ j, j < zs.length → p (zs.getD j (0, 0)) = false) ∨ ∃ k : Nat, i = k ∧ k < zs.length ∧ p (zs.getD k (0, 0)) = true ∧ ∀ j, j < k → p (zs.getD j (0, 0)) = false)

set_option maxHeartbeats 400000 in
theorem index_any (A : Option Addr) (n c : Nat) (zs : List (Int × Int)) (g : Nat) (lb : Array Value) (p : Int × Int → Bool) (w : World) (hn : n ≤ 1000000) (hA : Row encP 2 w w.heap.size A n zs)
    (eg : ∀ args w, (callFunc g args).run Tryz.prog w = .ok (.enter g args) w) (hp : Tests g lb p w) :
    Calls Tryz.prog 71 #[.slice A n c, .func (.func g) #[] lb] w (First zs p w) := by
  have HL := Lib.hid hA.1
  go_enter Tryz.func71, Tryz.ntmps71
  go_wp2
  go_loopw [8] (fun i wr => ∃ k : Nat, k ≤ n ∧ i = .int .i64 k ∧ Keep w wr ∧ Hid (∀ j, j < k → p (zs.getD j (0, 0)) = false)) (fun i _ => n - (intOf i).toNat)
  case atStart => exact ⟨0, Nat.zero_le _, rfl, Keep.refl _, fun j hj => absurd hj (Nat.not_lt_zero _)⟩
  case round =>
    obtain ⟨k, hk, rfl, hq, hg⟩ := hrel
    by_cases hlt : k < n
    · obtain ⟨b, off, rfl, _⟩ := hA.addr (by omega)
      obtain ⟨hb, c1, c2⟩ := hA.pair k hlt
      have d1 := (hq.cell (p := ⟨b, off + k * 2, none⟩) hb).trans c1
      have d2 := (hq.cell (p := ⟨b, off + k * 2 + 1, none⟩) hb).trans c2
      clear c1 c2
      obtain ⟨x1, x2, hx⟩ : ∃ p q, zs.getD k (0, 0) = (p, q) := ⟨_, _, rfl⟩
      rw [hx] at d1 d2
      have HX := Lib.hid hx
      clear hx
      simp only at d1 d2
      have hltz : (k : Int) < n := by omega
      have hk0 : (0 : Int) ≤ k := by omega
      have hcall := hp wr x1 x2 hq
      have go_on : p (x1, x2) = false → ∀ j, j < k + 1 → p (zs.getD j (0, 0)) = false := fun h j hj => by
        rcases Nat.lt_or_ge j k with h1 | h1
        · exact hg.out j h1
        · obtain rfl : j = k := by omega
          rw [HX.out]; exact h
      cases hv : p (x1, x2) with
      | true =>
        rw [hv] at hcall
        have HV := Lib.hid hv
        clear hv
        go_wp2_with fail
        refine hcall.mono ?_
        rintro e w1 ⟨rfl, hk1⟩
        go_wp2
        go_ret
        exact ⟨k, rfl, hq.trans hk1, .inr ⟨k, rfl, by rw [HL.out]; exact hlt, by rw [HX.out]; exact HV.out, hg.out⟩⟩
      | false =>
        rw [hv] at hcall
        have HV := Lib.hid hv
        clear hv
        go_wp2_with fail
        refine hcall.mono ?_
        rintro e w1 ⟨rfl, hk1⟩
        go_wp2
        go_roundw
        case rel => exact ⟨k + 1, by omega, by go_num, hq.trans hk1, go_on HV.out⟩
        case measure => simp [intOf]; omega
    · obtain rfl : k = n := by omega
      go_wp2
      go_ret
      exact ⟨-1, rfl, hq, .inl ⟨rfl, fun j hj => hg.out j (by rw [← HL.out]; exact hj)⟩⟩

set_option maxHeartbeats 400000 in
theorem contains_any (A : Option Addr) (n c : Nat) (zs : List (Int × Int)) (g : Nat) (lb : Array Value) (p : Int × Int → Bool) (w : World) (hn : n ≤ 1000000) (hA : Row encP 2 w w.heap.size A n zs)
    (eg : ∀ args w, (callFunc g args).run Tryz.prog w = .ok (.enter g args) w) (hp : Tests g lb p w) :
    Calls Tryz.prog 76 #[.slice A n c, .func (.func g) #[] lb] w fun e w' => e = .returned (.bool (zs.any p)) ∧ Keep w w' := by
  have hcon := index_any A n c zs g lb p w hn hA eg hp
  obtain ⟨r, hr⟩ : ∃ r, r = zs.any p := ⟨_, rfl⟩
  rw [← hr]
  have HR := Lib.hid hr
  clear hr hp hA
  go_enter Tryz.func76, Tryz.ntmps76
  go_wp2_with fail
  refine hcon.mono ?_
  rintro e w1 ⟨i, rfl, hk, hi⟩
  have HI := Lib.hid hi
  clear hi hcon
  rcases HI.out with ⟨h1, h2⟩ | ⟨k, h1, h2, h3, h4⟩
  · obtain rfl := h1
    have e := any_false zs p h2
    clear h2
    rw [← HR.out] at e
    subst e
    go_wp2
    go_ret
    exact ⟨rfl, hk⟩
  · obtain rfl := h1
    have e := any_true zs p k h2 h3
    clear h2 h3 h4
    rw [← HR.out] at e
    subst e
    have h0 : (0 : Int) ≤ k := by omega
    go_wp2
    go_ret
    exact ⟨rfl, hk⟩
end Go.Proofs.YtdkeibgfehblaaaGreatDoor.Span
