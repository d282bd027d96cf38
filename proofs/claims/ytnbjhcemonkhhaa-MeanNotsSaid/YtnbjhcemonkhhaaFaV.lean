/- The developers' facts: Reals. Conditions: at most a hundred thousand numbers. -/
import Derived.RangeFuncBox
import Derived.Test.YtnbjhcemonkhhaaFaN
namespace Go.Proofs.Ytnbjhcemonkhhaa.Facts
set_option linter.unusedVariables false
open Go.RowKit Go.Shelf
open Fa
open Re (okL ofB)
attribute [local go_sem] Oper.semAt_some
/-- The group of four at a place, as the iterator hands it out. -/
def sl4 (A : Option Addr) (n c : Nat) (k : Gix n) : Value := .slice (sh A (4 * k.1)) (min 4 (n - 4 * k.1)) (c - 4 * k.1)
theorem part_grp {W : World} {A : Option Addr} {n : Nat} {zs : List Int} (hA : Ints .i64 W W.heap.size A n zs) (k : Nat) (hk : 4 * k < n) : Ints .i64 W W.heap.size (sh A (4 * k)) (min 4 (n - 4 * k)) (grp zs k) := by
  have hl := hA.1
  obtain ⟨b, off, rfl, _⟩ := hA.2 (by omega)
  have h := Fa.Ints.part hA (4 * k) (min 4 (n - 4 * k)) (by omega)
  have e : (zs.drop (4 * k)).take (min 4 (n - 4 * k)) = grp zs k := by
    unfold grp
    rw [List.take_eq_take_iff, List.length_drop]
    omega
  rw [e] at h
  exact h
theorem near_refl : ∀ (xs : List Nat), (∀ x ∈ xs, x < 18446744073709551616) → Near xs xs
  | [], _ => trivial
  | x :: xs, h => ⟨⟨.inr rfl, h x (List.mem_cons_self ..)⟩, near_refl xs fun y hy => h y (List.mem_cons_of_mem _ hy)⟩
/-- The floats of the groups that came. -/
def fls {n : Nat} (zs : List Int) (ys : List (Gix n)) : List Nat := ys.map fun k => ofB (grp zs k.1)
theorem fls_snoc {n : Nat} (zs : List Int) (ys : List (Gix n)) (x : Gix n) : fls zs (ys ++ [x]) = fls zs ys ++ [ofB (grp zs x.1)] := by simp [fls]
theorem fls_len {n : Nat} (zs : List Int) (ys : List (Gix n)) : (fls zs ys).length = ys.length := by simp [fls]
theorem fls_near {n : Nat} (zs : List Int) (ys : List (Gix n)) : Near (fls zs ys) (fls zs ys) := near_refl _ fun x hx => by
  unfold fls at hx
  obtain ⟨k, _, rfl⟩ := List.mem_map.1 hx
  exact Re.ofB_lt _
theorem fls_all {n : Nat} (zs : List Int) (hl : zs.length = n) (ys : List (Gix n)) (h : ys.map (·.1) = List.range ((n + 3) / 4)) (hk : ∀ k ∈ ys, okL (grp zs k.1) = true) : reals zs = some (fls zs ys) := by
  rw [reals_all zs]
  · rw [hl, ← h]
    simp [fls]
  · intro k hkn
    have : k ∈ ys.map (·.1) := by rw [h, List.mem_range]; omega
    obtain ⟨y, hy, rfl⟩ := List.mem_map.1 this
    exact hk y hy
set_option maxRecDepth 100000 in
set_option maxHeartbeats 8000000 in
theorem reals_any (A : Option Addr) (n c : Nat) (zs : List Int) (w : World) (hn : n ≤ 100000) (hc : n ≤ c) (hcm : c ≤ maxLen) (hA : Ints .i64 w w.heap.size A n zs) :
    Calls Try.prog 9 #[.slice A n c] w (RetReals zs w) := by
  have HL := Lib.hid hA.1
  have hA0 : 0 < n → ∃ b off, A = some ⟨b, off, none⟩ := fun h => by obtain ⟨b, off, e, _⟩ := hA.2 h; exact ⟨b, off, e⟩
  refine (callsIn_wide (n := 9)).1 ?_
  refine callsIn_of_wp_marks Try.func9 rfl trivial ?_ rfl
  simp only [Try.ntmps9, List.size_toArray, List.length_cons, List.length_nil, Nat.reduceAdd, Nat.reduceSub, Array.replicate_succ, Array.replicate_zero, List.push_toArray, List.append_toArray, List.nil_append, List.cons_append]
  obtain ⟨i0, hi, hz0, hz1, hz2⟩ := info_parts info_float
  have hw0 := Boxed.new w 29 (.slice none 0 0)
  have r1 := hw0.alloc (.cells #[.bool false] 4)
  have r2 := Boxed.new (w.alloc (.cells #[.slice none 0 0] 29)) 4 (.bool false)
  have hB0 : Below w.heap.size w ((w.alloc (.cells #[.slice none 0 0] 29)).alloc (.cells #[.bool false] 4)) := ((Below.refl _ w).alloc (Nat.le_refl _) _).alloc (by simp) _
  rw [World.size_alloc] at r2
  gi_wp2_with (gi_at_make; refine wpListIn_make_own _ rfl _ _ 29 rfl w.heap.size 40 i0 (.float .f64 0) 1 Try.underlying29 hi hz0 hz1 .i64 .i64 ((n : Int) / 4) (n / 4) rfl rfl (by omega) (by rw [hz2]; omega) (by unfold maxLen; omega) (by simp; omega) ?_; intro w1 hown1 hgrow1)
  have hs1 : w.heap.size + 2 ≤ w1.heap.size := by have := hgrow1.size; simp at this; omega
  have r1 := r1.kept hgrow1 (by simp)
  have r2 := r2.kept hgrow1 (by simp)
  have hB1 : Below w.heap.size w w1 := hB0.trans ((Below.refl _ _).grown hgrow1 (by simp; omega) (fun k e => by cases e))
  have hown1 : w1.ownsRow w.heap.size 40 1 (.slice (some ⟨w.heap.size + 1 + 1, 0, none⟩) 0 (n / 4)) 0 [] := by simpa using hown1
  clear hgrow1 hw0 hB0
  have bX := Boxed.new w1 29 (.slice (some ⟨w.heap.size + 1 + 1, 0, none⟩) 0 (n / 4))
  have hK1 : Keep w (w1.alloc (.cells #[(.slice (some ⟨w.heap.size + 1 + 1, 0, none⟩) 0 (n / 4))] 29)) := hB1.alloc (by omega) _
  refine ⟨trivial, ?_⟩
  refine (callsIn_wide.2 (fours_any A n c _)).mono ?_
  rintro e w2 ⟨rfl, rfl⟩
  gi_wp2_with fail
  obtain ⟨V0, hV0⟩ : ∃ V0, V0 = w1.alloc (.cells #[(.slice (some ⟨w.heap.size + 1 + 1, 0, none⟩) 0 (n / 4))] 29) := ⟨_, rfl⟩
  have r1 := r1.alloc (.cells #[(.slice (some ⟨w.heap.size + 1 + 1, 0, none⟩) 0 (n / 4))] 29)
  have r2 := r2.alloc (.cells #[(.slice (some ⟨w.heap.size + 1 + 1, 0, none⟩) 0 (n / 4))] 29)
  have hown0 := hown1.alloc (.cells #[(.slice (some ⟨w.heap.size + 1 + 1, 0, none⟩) 0 (n / 4))] 29)
  have hV0s : V0.heap.size = w1.heap.size + 1 := by rw [hV0]; simp
  rw [← hV0] at r1 r2 bX hK1 hown0 ⊢
  have bN := Boxed.new V0 23 (.slice A n c)
  rw [hV0s] at bN
  have hBV : Below w.heap.size w (V0.alloc (.cells #[.slice A n c] 23)) := hK1.alloc _
  refine wpIn_rangeFunc_ownG rfl (by omega) (gf := 47) (encs := fun x => #[sl4 A n c x]) (lb := #[.pointer (some ⟨w1.heap.size + 1, 0, none⟩)]) rfl trivial (enters_of Try.func47 (by kernel_rfl) rfl)
    (fours_stops Fence.wide _ trivial rfl (by omega) (w1.heap.size + 1) A n c hn hc hcm hA0 (V0.alloc (.cells #[.slice A n c] 23)) bN) KB.t (KB.b bN.lt) (Below.refl _ _) (fun _ => rfl)
    (fun pre W => ((∃ v, Boxed W w1.heap.size 29 v ∧ W.ownsRow w.heap.size 40 1 v pre.length (flat encFl (fls zs pre)) ∧ ∀ k ∈ pre, okL (grp zs k.1) = true) ∧ (Boxed W w.heap.size 29 (.slice none 0 0) ∧ Boxed W (w.heap.size + 1) 4 (.bool false))) ∧ Below w.heap.size w W)
    (fun c pre W => ((c = .ret ∧ ∃ k ∈ pre, okL (grp zs k.1) = false) ∧ (Boxed W w.heap.size 29 (.slice none 0 0) ∧ Boxed W (w.heap.size + 1) 4 (.bool false))) ∧ Below w.heap.size w W)
    (OwnFrom.and (OwnFrom.and (Own.from (holdsRow_own w.heap.size w1.heap.size 29 40 1 (fun pre => pre.length) (fun pre => flat encFl (fls zs pre)) (fun pre v => ∀ k ∈ pre, okL (grp zs k.1) = true)) _) (OwnFrom.and (Own.from (boxed_own _ _ _) _) (Own.from (boxed_own _ _ _) _))) (ownFrom_below (Nat.le_refl _) (by simp; omega)))
    (fun c => OwnFrom.and (OwnFrom.and (ownFrom_pure _ _) (OwnFrom.and (Own.from (boxed_own _ _ _) _) (Own.from (boxed_own _ _ _) _))) (ownFrom_below (Nat.le_refl _) (by simp; omega)))
    ⟨⟨⟨(.slice (some ⟨w.heap.size + 1 + 1, 0, none⟩) 0 (n / 4)), bX.alloc _, hown0.alloc _, fun k hk => by cases hk⟩, r1.alloc _, r2.alloc _⟩, hBV⟩
    (fun x => { tmps := #[.slice A n c, undef, .pointer (some ⟨w.heap.size, 0, none⟩), .pointer (some ⟨w.heap.size + 1, 0, none⟩), .pointer (some ⟨w1.heap.size, 0, none⟩), sl4 A n c x, undef, undef, .slice A n c, .int .i64 n, .int .i64 ((n : Int) / 4), (.slice (some ⟨w.heap.size + 1 + 1, 0, none⟩) 0 (n / 4)), .slice A n c, .func (.func 47) #[] #[.pointer (some ⟨w1.heap.size + 1, 0, none⟩)], sl4 A n c x, undef, undef, undef, undef, undef, undef, undef, undef, undef, undef, undef, undef], defers := [] }) ?assign ?body ?done ?stop
  case assign =>
    intro l x W K hK
    gi_wp2
    exact hK
  case body =>
    rintro l pre x W ⟨⟨⟨v, hv, hrow, hok⟩, hr1, hr2⟩, hB⟩ hlt
    have hP := part_grp (hA.kept hB) x.1 x.2
    have CC : Calls Try.prog 27 #[sl4 A n c x] W fun e w' => e = .returned (.tuple #[.float .f64 (ofB (grp zs x.1)), .bool (okL (grp zs x.1))]) ∧ W = w' := Re.of_any (sh A (4 * x.1)) (min 4 (n - 4 * x.1)) (c - 4 * x.1) (grp zs x.1) W hP
    have c1 := hr1.cell
    have f1 := hr1.frozen
    have c2 := hr2.cell
    have f2 := hr2.frozen
    have hcv := hv.cell
    clear hP
    cases hg : okL (grp zs x.1)
    · rw [hg] at CC
      have HG := Lib.hid hg
      replace CC := Lib.hid CC
      clear hg
      gi_wp2_with (refine ⟨trivial, ?_⟩; gi_at_call 27; refine (CallsIn.inRound l (callsIn_wide.2 CC.out)).mono ?_; rintro e w' ⟨rfl, rfl⟩)
      exact ⟨((KeepsOthers.setCell _ _ _).trans (KeepsOthers.setCell _ _ _)).from _, ⟨⟨rfl, x, List.mem_append.2 (.inr (List.mem_singleton.2 rfl)), HG.out⟩, (hr1.set _).other (by omega) _, (hr2.other (by omega) _).set _⟩, (hB.setCell (p := ⟨w.heap.size, 0, none⟩) (Nat.le_refl _) _).setCell (p := ⟨w.heap.size + 1, 0, none⟩) (by simp) _⟩
    · rw [hg] at CC
      have HG := Lib.hid hg
      replace CC := Lib.hid CC
      clear hg c1 f1 c2 f2
      obtain ⟨b, hb⟩ : ∃ b, b = ofB (grp zs x.1) := ⟨_, rfl⟩
      rw [← hb] at CC
      have HB := Lib.hid hb
      clear hb
      gi_wp2_with (first
        | (refine ⟨trivial, ?_⟩; gi_at_call 27; refine (CallsIn.inRound l (callsIn_wide.2 CC.out)).mono ?_; rintro e w' ⟨rfl, rfl⟩)
        | (gi_at_builtin; refine wpListIn_append_own _ rfl _ _ 29 rfl w.heap.size 40 i0 (.float .f64 0) 1 8 Try.underlying29 hi hz0 hz1 hz2 rfl (by decide) _ _ _ rfl (hrow.alloc _) ⟨W.heap.size, 0, none⟩ 1 1 [.float .f64 b] rfl rfl (cell_one_new _ _ _) (by simp [Value.oneCell']) (by unfold maxLen; omega) (by omega) (by have := hB.size; simp; omega) ?_; intro v' w3 hown' hgrow _; obtain ⟨g', cap', rfl⟩ := ownsRow_succ hown'; obtain ⟨hv1, hv2, hr3, hk2, hb2⟩ := hv.appended (by decide) hrow hB.size (by omega) hown' hgrow; have hc1 := hv1.cell; have hf1 := hv1.frozen)
        | fail)
      refine ⟨hk2.from _, fun hbx => ((hbx.alloc _).kept hgrow (hbx.not_row (by decide) hrow)).other (by omega) _, ⟨⟨_, hv2, ?_, ?_⟩, ((hr1.alloc _).kept hgrow (hr1.not_row (by decide) hrow)).other (by omega) _, ((hr2.alloc _).kept hgrow (hr2.not_row (by decide) hrow)).other (by omega) _⟩, hB.trans hb2⟩
      · rw [fls_snoc, ← HB.out, flat_append, flat_one, List.length_append]
        exact hr3
      · intro k hk
        rcases List.mem_append.1 hk with h | h
        · exact hok k h
        · rw [List.mem_singleton.1 h]; exact HG.out
  case done =>
    rintro D ys W hD hys ⟨⟨⟨v, hv, hrow, hok⟩, hr1, hr2⟩, hB⟩ hK
    have hR := fls_all zs HL.out ys hys hok
    obtain ⟨OA, oc, rfl⟩ := own_slice hrow
    have c1 := hr1.cell
    have f1 := hr1.frozen
    have c2 := hr2.cell
    have f2 := hr2.frozen
    have hcv := hv.cell
    have HR := Lib.hid hR
    have HY := Lib.hid hys
    have HO := Lib.hid hok
    clear hR hys hok
    gi_wp2
    have hK' := ((KeepsOthers.setCell W ⟨w.heap.size, 0, none⟩ (.slice OA ys.length oc)).trans (KeepsOthers.setCell _ ⟨w.heap.size + 1, 0, none⟩ (.bool true))).same D _ hK rfl
    have q1 := (hr1.set (.slice OA ys.length oc)).other (B' := w.heap.size + 1) (by omega) (.bool true)
    have q2 := (hr2.other (B' := w.heap.size) (by omega) (.slice OA ys.length oc)).set (.bool true)
    have hB2 := (hB.setCell (p := ⟨w.heap.size, 0, none⟩) (Nat.le_refl _) (.slice OA ys.length oc)).setCell (p := ⟨w.heap.size + 1, 0, none⟩) (by simp) (.bool true)
    have hrow2 := (hrow.kept (grownBy_setCell' W w.heap.size (.slice OA ys.length oc)) (.inr (hr1.not_row (by decide) hrow).symm)).kept (grownBy_setCell' _ (w.heap.size + 1) (.bool true)) (.inr (hr2.not_row (by decide) hrow).symm)
    refine ⟨by simp, .inl ⟨_, _, rfl, run_takeDeferred hK', ?_⟩⟩
    have p1 := cell_kept q1.cell (grownBy_putObj' _ D (.deferred none)) (fun r e => by cases e; exact ⟨_, hK', rfl⟩)
    have p2 := cell_kept q2.cell (grownBy_putObj' _ D (.deferred none)) (fun r e => by cases e; exact ⟨_, hK', rfl⟩)
    refine ⟨.tuple #[.slice OA ys.length oc, .bool true], ?_, ?_⟩
    · simp [results, Try.f9, go_sem, p1, p2]
    · have h := RetReals.some_ (c := oc) (A := OA) HR.out (by rw [fls_len]; exact Row.of_own encFl_len (ownsRow_putObj hrow2 (.deferred none) hK' rfl) (by omega)) (fls_near zs ys) (hB2.trans (belowK_b (w := w) (Nat.le_refl _) _ D _ _ (by simp at hD; omega) hK' rfl rfl))
      rw [fls_len] at h
      exact h
  case stop =>
    rintro D cc pre W hD hpre ⟨⟨⟨rfl, k, hk, hbad⟩, hr1, hr2⟩, hB⟩ hK
    have HR := Lib.hid (reals_bad zs k.1 (by have := k.2; have := HL.out; omega) hbad)
    clear hbad
    gi_wp2
    refine ⟨by simp, .inl ⟨_, _, rfl, run_takeDeferred hK, ?_⟩⟩
    have p1 := cell_kept hr1.cell (grownBy_putObj' _ D (.deferred none)) (fun r e => by cases e; exact ⟨_, hK, rfl⟩)
    have p2 := cell_kept hr2.cell (grownBy_putObj' _ D (.deferred none)) (fun r e => by cases e; exact ⟨_, hK, rfl⟩)
    refine ⟨.tuple #[.slice none 0 0, .bool false], ?_, RetReals.none_ HR.out (hB.trans (belowK_b (w := w) (Nat.le_refl _) W D _ _ (by simp at hD; omega) hK rfl rfl))⟩
    simp [results, Try.f9, go_sem, p1, p2]
end Go.Proofs.Ytnbjhcemonkhhaa.Facts
