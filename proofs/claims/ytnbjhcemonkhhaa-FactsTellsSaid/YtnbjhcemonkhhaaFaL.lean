/- Layer 14's laws: the example, and FactsReals. Conditions: none beyond the law's own. -/
import Derived.Test.YtnbjhcemonkhhaaFa
import Derived.Test.YtnbjhcemonkhhaaOpen
namespace Go.Proofs.Ytnbjhcemonkhhaa.Facts
set_option linter.unusedVariables false
open Go.ChangeShapes Go.WideShapes Go.ChangeAt Go.RowKit
open Fa
open Re (okL ofB regsN canon)
open Fp (IsN sameB)
theorem own_le {w : World} {base : Nat} {e : TypeId} {k : Nat} {A : Option Addr} {n c : Nat} {xs : List Value} (h : w.ownsRow base e k (.slice A n c) n xs) : n ≤ c ∧ c ≤ maxLen := by
  rcases h.2 with ⟨h, _⟩ | ⟨_, cap, _, h, _, _, h1, h2, _⟩
  · injection h with _ h1 h2
    subst h1 h2
    exact ⟨Nat.le_refl _, Nat.zero_le _⟩
  · injection h with _ h3 h4
    subst h4
    exact ⟨h1, h2⟩
theorem ex_reals : reals [16368, 0, 0, 0] = some [4607182418800017408] := by decide
theorem ex_of : of 1 2 ⟨16, 0, 0, 10, 2, [5, 6]⟩ = ⟨1, 2, 16, [(10, 11)], [5, 6], [5, 6]⟩ := by rfl
theorem ex_one {x : Nat} (h : near x 4607182418800017408) : x = 4607182418800017408 := by
  rcases h.1 with ⟨h, _⟩ | h
  · have h1 := Fp.nanB_nan h
    have h2 : Fp.nanB 4607182418800017408 = false := by kernel_rfl
    rw [h2] at h1; cases h1
  · exact h
/-- Reals of the example's numbers. -/
theorem ex_ret {w : World} {e : Ending} {w' : World} (h : RetReals [16368, 0, 0, 0] w e w') : ∃ A c, e = .returned (.tuple #[.slice A 1 c, .bool true]) ∧ Row encFl 1 w' w'.heap.size A 1 [4607182418800017408] ∧ Keep w w' := by
  obtain ⟨b, hb⟩ : ∃ b : Nat, b = 4607182418800017408 := ⟨_, rfl⟩
  have hx := ex_reals
  rw [← hb] at hx
  unfold RetReals at h
  rw [hx] at h
  obtain ⟨A, c, xs, rfl, hr, hn, hk⟩ := h
  have hl : xs.length = 1 := hn.len
  obtain ⟨x, rfl⟩ : ∃ x, xs = [x] := List.length_eq_one_iff.1 hl
  have hxb := hn.1
  rw [hb] at hxb
  have e := ex_one hxb
  rw [e] at hr
  exact ⟨A, c, rfl, hr, hk⟩
set_option maxHeartbeats 4000000 in
theorem awake_any (w : World) : Calls Try.prog 8 #[] w fun e w' => e = .returned (.bool true) ∧ Keep w w' := by
  have HI := Ints.new .i64 w 3 [5, 6] #[.int .i64 5, .int .i64 6] rfl
  have k0 := (Keep.refl w).alloc (.cells #[.int .i64 5, .int .i64 6] 3)
  have C1 : Calls Try.prog 13 #[.int .i64 1, .int .i64 2, .agg #[.int .i64 16, .int .i64 0, .int .i64 0, .int .i64 10, .int .i64 2, .slice (some ⟨w.heap.size, 0, none⟩) 2 2]] (w.alloc (.cells #[.int .i64 5, .int .i64 6] 3))
      (fun e w' => ∃ SA VA RA c1 c2 c3, e = .returned (.agg #[.int .i64 1, .int .i64 2, .int .i64 16, .slice SA 1 c1, .slice VA 2 c2, .slice RA 2 c3]) ∧ Row encP 2 w' w'.heap.size SA 1 [(10, 11)] ∧ Keep (w.alloc (.cells #[.int .i64 5, .int .i64 6] 3)) w') := by
    refine (of_any 1 2 ⟨16, 0, 0, 10, 2, [5, 6]⟩ (some ⟨w.heap.size, 0, none⟩) 2 _ (by decide) (by unfold Fit; decide) (by decide) (by decide) (HI.more (by simp))).mono ?_
    rw [ex_of]
    rintro e w1 ⟨SA, VA, RA, c1, c2, c3, rfl, ⟨hS, _, _⟩, k1, _⟩
    exact ⟨SA, VA, RA, c1, c2, c3, rfl, hS, k1⟩
  replace C1 := Lib.hid C1
  have he : ∀ W : World, (Op.equalIn 10000 60 (.agg #[.int .i64 10, .int .i64 11]) (.agg #[.int .i64 10, .int .i64 11])).run Try.prog W = .ok true W := fun W => by rw [Span.eqR, decide_eq_true rfl]
  clear HI
  go_enter Try.func8, Try.ntmps8
  go_wp2_with fail
  refine C1.out.mono ?_
  rintro e w1 ⟨SA, VA, RA, c1, c2, c3, rfl, hS, k1⟩
  obtain ⟨Y, hY⟩ : ∃ Y, Y = w1.alloc (.cells #[.int .i64 1, .int .i64 2, .int .i64 16, .slice SA 1 c1, .slice VA 2 c2, .slice RA 2 c3] 36) := ⟨_, rfl⟩
  have hY6 : Six Y w1.heap.size (.int .i64 1) (.int .i64 2) (.int .i64 16) (.slice SA 1 c1) (.slice VA 2 c2) (.slice RA 2 c3) := by
    rw [hY]
    refine ⟨?_, ?_, ?_, ?_, ?_, ?_⟩ <;> go_simp
  have hYs : w1.heap.size < Y.heap.size := by rw [hY]; simp
  have kY : Keep w Y := by rw [hY]; exact (k0.trans k1).alloc _
  have hSY : Row encP 2 Y Y.heap.size SA 1 [(10, 11)] := hS.kept (by rw [hY]; exact (Keep.refl w1).alloc _)
  have HI2 := Ints.new .i64 Y 3 [16368, 0, 0, 0] #[.int .i64 16368, .int .i64 0, .int .i64 0, .int .i64 0] rfl
  have kZ := (Keep.refl Y).alloc (.cells #[.int .i64 16368, .int .i64 0, .int .i64 0, .int .i64 0] 3)
  have hYsz : Y.heap.size = w1.heap.size + 1 := by rw [hY]; simp
  have C2 := reals_any (some ⟨Y.heap.size, 0, none⟩) 4 4 [16368, 0, 0, 0] _ (by omega) (Nat.le_refl _) (by decide) (HI2.more (by simp))
  rw [hYsz] at C2
  replace C2 := Lib.hid C2
  clear hYsz
  have HY := Lib.hid hY
  have HSY := Lib.hid hSY
  have HY6 := Lib.hid hY6
  have HYS := Lib.hid hYs
  have HKZ := Lib.hid kZ
  have HKY := Lib.hid kY
  clear hS HI2 hY hSY hY6 hYs kZ kY
  go_wp2_with fail
  rw [← HY.out]
  refine C2.out.mono ?_
  intro e w2 h2
  obtain ⟨A, c, rfl, hr, k2⟩ := ex_ret h2
  clear h2
  replace k2 := HKZ.out.trans k2
  obtain ⟨b, off, rfl, _⟩ := hr.addr (by decide)
  have x0 := (row_float hr 0 (by decide)).2
  rw [Nat.add_zero, List.getD_cons_zero] at x0
  have hS2 := HSY.out.kept k2
  obtain ⟨sb, so, rfl, _⟩ := hS2.addr (by decide)
  obtain ⟨_, hc⟩ := hS2.cells (by decide)
  have y0 := hc 0 (by decide) 0 _ rfl
  have y1 := hc 0 (by decide) 1 _ rfl
  simp only [Nat.zero_mul, Nat.add_zero] at y0 y1
  obtain ⟨z0, z1, z2, z3, z4, z5⟩ := HY6.out.below k2 HYS.out
  clear hS2 hc hr
  have hf : (FloatKind.f64.format.order 4607182418800017408 4607182418800017408 == some Ordering.eq) = true := by kernel_rfl
  go_wp2
  go_ret
  exact ⟨by first | rfl | (rw [hf]; rfl), HKY.out.trans k2⟩
theorem own_keep3 {w w' : World} {base : Nat} {e : TypeId} {k n : Nat} {v : Value} {xs : List Value} (h : w.ownsRow base e k v n xs) (hk : Keep w w') : w'.ownsRow base e k v n xs :=
  h.kept (row := none) ⟨hk.os, hk.tape, hk.output, hk.size, fun i hi _ => hk.block i hi⟩ (by cases v.ownBlock <;> simp)
/-- The numbers of floats, one behind the other. -/
def regsOf (l : List Nat) : List Int := l.flatMap fun b => regsN (canon b)
theorem regsOf_len (l : List Nat) : (regsOf l).length = 4 * l.length := by
  induction l with
  | nil => rfl
  | cons b l ih =>
    show (regsN (canon b) ++ regsOf l).length = _
    rw [List.length_append, ih, List.length_cons]
    have : (regsN (canon b)).length = 4 := rfl
    omega
theorem regsOf_take (l : List Nat) (k : Nat) (h : k < l.length) : regsOf (l.take (k + 1)) = regsOf (l.take k) ++ regsN (canon (l.getD k 0)) := by
  have e : l.take (k + 1) = l.take k ++ [l[k]] := List.take_succ_eq_append_getElem h
  rw [List.getD_eq_getElem?_getD, List.getElem?_eq_getElem h, e]
  unfold regsOf
  rw [List.flatMap_append]
  rfl
theorem reals_regs : ∀ (l : List Nat), (∀ b ∈ l, b < 18446744073709551616) → reals (regsOf l) = some (l.map canon)
  | [], _ => rfl
  | b :: l, h => by
    show reals (regsN (canon b) ++ regsOf l) = _
    have hb := Re.canon_lt (h b (List.mem_cons_self ..))
    have e : reals (regsN (canon b)) = some [canon b] := by
      show (if okL (regsN (canon b)) then _ else _) = _
      rw [Re.regs_ok, if_pos rfl]
      show some [ofB (regsN (canon b))] = _
      rw [Re.ofB_regs _ hb]
    rw [reals_app _ _ (by have h4 : (regsN (canon b)).length = 4 := rfl
                          rw [h4]), e, reals_regs l fun x hx => h x (List.mem_cons_of_mem _ hx)]
    rfl
theorem near_canon {x b : Nat} (hb : b < 18446744073709551616) (h : near x (canon b)) : sameB x b = true := by
  cases hn : Fp.nanB b
  · have e : canon b = b := by unfold canon; rw [hn, if_neg (by decide)]
    rw [e] at h
    rcases h.1 with ⟨h1, _⟩ | rfl
    · rw [Fp.nanB_nan h1] at hn; cases hn
    · exact Fp.sameB_self hb
  · have e : canon b = 9221120237041090560 := by unfold canon; rw [hn, if_pos rfl]
    rw [e] at h
    rcases h.1 with ⟨_, h1⟩ | rfl
    · exact Fp.sameB_nan (Fp.nanB_nan h1) hn
    · exact Fp.sameB_nan (by kernel_rfl) hn
theorem floats_canon : ∀ {xs bs : List Nat}, (∀ b ∈ bs, b < 18446744073709551616) → Near xs (bs.map canon) → floats xs bs = true
  | [], [], _, _ => rfl
  | x :: xs, b :: bs, h, hn => by
    rw [floats, near_canon (h b (List.mem_cons_self ..)) hn.1, floats_canon (fun c hc => h c (List.mem_cons_of_mem _ hc)) hn.2]; rfl
  | [], b :: bs, _, h => h.elim
  | x :: xs, [], _, h => h.elim
/-- A slice of floats that came in. -/
def FloatsIn (w : World) (A : Option Addr) (n : Nat) (zs : List Nat) : Prop := Row encFl 1 w w.heap.size A n zs ∧ ∀ z ∈ zs, z < 18446744073709551616
theorem opens_floats : Opens Try.prog 29 fun W cs => ∃ A n c zs, cs = [.slice A n c] ∧ n ≤ c ∧ c ≤ maxLen ∧ FloatsIn W A n zs :=
  (opens_slice Try.underlying29 (show Try.prog.cellsOf 40 = 1 by kernel_rfl) (by omega) (opens_float Try.underlying40)).mono fun W cs ⟨A, n, c, hcs, hn, hc, hE⟩ => by
    rcases Nat.eq_zero_or_pos n with rfl | hp
    · exact ⟨A, 0, c, [], hcs, hn, hc, Row.none_ _ _ _, fun z hz => by cases hz⟩
    · obtain ⟨b, off, hA, hb, hE⟩ := hE hp
      obtain ⟨l, hl, hls⟩ := choose_list n (fun i (z : Nat) => W.cell? ⟨b, off + i * 1, none⟩ = some (.float .f64 z) ∧ z < 18446744073709551616) (fun i hi => by
        obtain ⟨es, hl, hc, z, hz, hw⟩ := hE i hi
        subst hz
        exact ⟨z, by simpa using hc 0 (by omega), by simpa [Lit.wf] using hw⟩)
      refine ⟨A, n, c, l, hcs, hn, hc, ⟨hl, fun _ => ⟨b, off, hA, hb, fun j hj i v hv => ?_⟩⟩, fun z hz => ?_⟩
      · match i, hv with
        | 0, hv => simp [encFl] at hv; subst hv; exact (hls j _ (List.getElem?_eq_getElem hj)).1
        | i + 1, hv => simp [encFl] at hv
      · obtain ⟨j, hj, rfl⟩ := List.mem_iff_getElem.1 hz
        exact (hls j _ (List.getElem?_eq_getElem hj)).2
theorem info_int : (Try.prog.info? 3).map (fun i => (i.zero, i.size, i.bytes)) = some (some (.int .i64 0), 1, 8) := by kernel_rfl
end Go.Proofs.Ytnbjhcemonkhhaa.Facts
