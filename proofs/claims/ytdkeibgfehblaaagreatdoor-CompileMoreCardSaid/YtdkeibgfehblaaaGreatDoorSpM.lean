/- Layer 4: the program's Norm merges what package slices has put in order; Covers. Conditions: lengths at most a million, ends that fit. -/
import Derived.Test.YtdkeibgfehblaaaGreatDoorSpN
import Derived.Shelf.SlSortCmp.QuietGrown
namespace Go.Proofs.YtdkeibgfehblaaaGreatDoor.Span
open Go.Shelf Go.ChangeShapes Go.WideShapes Go.ChangeAt Go.RowKit

theorem mixed : Tryz.prog.follows .mixedOrders = true := by kernel_rfl
theorem fit_get {zs : List (Int × Int)} (hf : ∀ r ∈ zs, Fit r) {j : Nat} (hj : j < zs.length) : Fit (zs.getD j (0, 0)) := by
  rw [List.getD_eq_getElem?_getD, List.getElem?_eq_getElem hj]
  exact hf _ (List.getElem_mem _)
theorem mem_get {zs : List (Int × Int)} {j : Nat} (hj : j < zs.length) : zs.getD j (0, 0) ∈ zs := by
  rw [List.getD_eq_getElem?_getD, List.getElem?_eq_getElem hj]
  exact List.getElem_mem _

/-- A round of the merging: k of the sorted ranges are in 'merged'. -/
def NormRel (w3 : World) (ys : List (Int × Int)) (n2 : Nat) (s4 s15 : Value) (wr : World) : Prop :=
  ∃ (k : Nat) (m : List (Int × Int)) (L : Nat), k ≤ n2 ∧ s15 = .int .i64 k ∧ L ≤ k ∧ wr.ownsRow w3.heap.size 42 2 s4 L (flat encP m) ∧ Keep w3 wr ∧ Hid (Sp.Merge ys k m) ∧ Hid (∀ r ∈ m, Fit r)

set_option maxHeartbeats 1000000 in
theorem norm_own (A : Option Addr) (n c : Nat) (zs : List (Int × Int)) (w : World) (hn : n ≤ 100000) (hA : Row encP 2 w w.heap.size A n zs) (hf : ∀ r ∈ zs, Fit r) :
    Calls Tryz.prog 43 #[.slice A n c] w fun e w' => RetRowF encP 2 (Sp.norm zs) w e w' ∧ Sp.NormOk zs ∧ (Sp.norm zs).length ≤ zs.length := by
  have HL := Lib.hid hA.1
  have hmix := mixed
  have hcl := clone_any A n c zs w (by omega) hA
  have htest : Tests 56 #[] Sp.emp w := fun W x1 x2 _ => (isEmpty_any x1 x2 W).mono fun _ _ ⟨he, hg⟩ => ⟨he, hg.keep⟩
  have hen := enters_of (P := Tryz.prog) Tryz.func56 (by kernel_rfl) rfl
  go_enter Tryz.func43, Tryz.ntmps43
  go_wp2_with fail
  refine hcl.mono ?_
  rintro e w1 ⟨A1, n1, c1, rfl, hown1, hk1⟩
  have hn1 := Row.length_own encP_len hown1 (by omega)
  rw [HL.out] at hn1
  subst hn1
  have hde := delete_any A1 n c1 zs 56 Sp.emp w w1 (by omega) hk1 hown1 hen htest
  clear hown1 hk1 hcl hA
  go_wp2_with fail
  refine hde.mono ?_
  rintro e w2 ⟨A2, n2, c2, rfl, hown2, hk2⟩
  have hn2 := Row.length_own encP_len hown2 (by omega)
  have hn2' : n2 ≤ n := by
    rw [← hn2, ← HL.out]
    exact List.length_filter_le _ _
  have hso := sort_any A2 n2 c2 _ w w2 (by omega) hk2 hown2
  have HN2 := Lib.hid hn2
  clear hown2 hk2 hde htest hen hn2
  go_wp2_with fail
  refine hso.mono ?_
  rintro e w3 ⟨rfl, ys, hrow, hperm, hlow, hk3⟩
  have HP := Lib.hid hperm
  have HLOW := Lib.hid (show Sp.Lows ys from hlow)
  have HYL := Lib.hid hrow.1
  have HNE := Lib.hid (show ∀ r ∈ ys, r.1 ≤ r.2 ∧ Fit r from fun r hr => by
    obtain ⟨h1, h2⟩ := List.mem_filter.1 (HP.out.mem_iff.1 hr)
    refine ⟨?_, hf r h1⟩
    simp [Sp.emp] at h2
    exact h2)
  clear hso hperm hlow hf
  go_wp2
  go_loopw [4, 6, 7, 15] (fun s4 _ _ s15 wr => NormRel w3 ys n2 s4 s15 wr) (fun _ _ _ s15 _ => n2 - (intOf s15).toNat)
  case atStart => exact ⟨0, [], 0, Nat.zero_le _, rfl, Nat.le_refl _, World.ownsRow_nil _ _ _ _, Keep.refl _, Sp.Merge.start ys, fun r h => by cases h⟩
  case round =>
    obtain ⟨k, m, L, hk, rfl, hLk, hown, hkr, HM, HF⟩ := hrel
    by_cases hlt : k < n2
    · obtain ⟨b0, off, rfl, _⟩ := hrow.addr (by omega)
      obtain ⟨hb0, q1, q2⟩ := hrow.pair k hlt
      have hky : k < ys.length := by rw [HYL.out]; exact hlt
      obtain ⟨fxy, fx⟩ := HNE.out _ (mem_get hky)
      have HKY := Lib.hid hky
      clear hky
      have d1 := (hkr.cell (p := ⟨b0, off + k * 2, none⟩) hb0).trans q1
      have d2 := (hkr.cell (p := ⟨b0, off + k * 2 + 1, none⟩) hb0).trans q2
      clear q1 q2
      obtain ⟨x, y, hx⟩ : ∃ x y, ys.getD k (0, 0) = (x, y) := ⟨_, _, rfl⟩
      rw [hx] at d1 d2 fx fxy
      have HX := Lib.hid hx
      clear hx
      have HFX := Lib.hid fx
      simp only [Fit] at d1 d2 fx fxy
      obtain ⟨⟨x0, x1⟩, y0, y1⟩ := fx
      have hkn : (k : Int) < n2 := by omega
      have hk0 : (0 : Int) ≤ k := by omega
      have hks := hkr.size
      have hbne : b0 ≠ wr.heap.size := by omega
      rcases List.eq_nil_or_concat m with rfl | ⟨m', ⟨a, b⟩, rfl⟩
      · obtain rfl : 0 = L := Row.length_own encP_len hown (by omega)
        obtain ⟨A4, c4, rfl⟩ := own_slice hown
        have hG : ∀ n, Grew wr ((wr.alloc (.cells #[.int .i64 x, .int .i64 y] 42)).drewN n) := fun n => ((Grew.refl _).alloc _).drewN n
        have e1 : ∀ n, ((wr.alloc (.cells #[.int .i64 x, .int .i64 y] 42)).drewN n).cell? ⟨wr.heap.size, 0, none⟩ = some (.int .i64 x) := fun n => by simp
        have e2 : ∀ n, ((wr.alloc (.cells #[.int .i64 x, .int .i64 y] 42)).drewN n).cell? ⟨wr.heap.size, 1, none⟩ = some (.int .i64 y) := fun n => by simp
        go_wp2
        go_quiet (fail)
        replace hG := hG nq
        replace e1 := e1 nq
        replace e2 := e2 nq
        generalize _root_.Go.World.drewN _ nq = Y at hG e1 e2 ⊢
        replace hown := own_keep hown hG.keep
        replace hkr := hkr.trans hG.keep
        have hky := hkr.size
        clear hG d1 d2
        go_wp2_with (at_builtin; refine append_rows rfl _ _ 31 rfl w3.heap.size 42 _ 16 Tryz.underlying31 info_range rfl (by omega) encP_len encP_one _ 0 [] rfl (hown.alloc _) (by simp; omega) _ _ 1 1 [(x, y)] rfl (Row.new encP_len Y 42 [(x, y)] #[.int .i64 x, .int .i64 y] rfl) (by unfold maxLen; omega) (by omega) ?_)
        intro v5 w5 hown5 hb5
        have hk5 : Keep w3 w5 := Below.trans (Keep.alloc hkr _) hb5
        clear hown hkr
        go_wp2
        go_roundw
        case rel => exact ⟨k + 1, [(x, y)], 1, by omega, by go_num, by omega, hown5, hk5, by
          have := HM.out.first HLOW.out HKY.out (by rw [HX.out]; exact fxy)
          rwa [HX.out] at this, fun r hr => by simp only [List.mem_singleton] at hr; subst hr; exact HFX.out⟩
        case measure => simp [intOf]; omega
      · simp only [List.concat_eq_append] at hown HM HF
        obtain ⟨M, hM⟩ : ∃ M, M = m'.length := ⟨_, rfl⟩
        obtain rfl : M + 1 = L := by
          have := Row.length_own encP_len hown (by omega)
          rw [List.length_append, ← hM] at this
          exact this
        have HM' := Lib.hid hM
        clear hM
        obtain ⟨g, c4, rfl, hg1, hg2⟩ := hown.form (by omega)
        obtain ⟨⟨q1, q2⟩, _, _⟩ := own_pair hown M (by omega)
        have hlast : (m' ++ [(a, b)]).getD M (0, 0) = (a, b) := by rw [HM'.out]; simp [List.getD]
        rw [hlast] at q1 q2
        have HLA := Lib.hid hlast
        clear hlast
        have fab : Fit (a, b) := HF.out (a, b) (by simp)
        have HFA := Lib.hid fab
        obtain ⟨⟨a0, a1⟩, hb0', hb1'⟩ := fab
        have hgne : g ≠ wr.heap.size := by omega
        have hgne' : wr.heap.size ≠ g := by omega
        have hM0 : (0 : Int) ≤ M := by omega
        have hM1 : (M : Int) < (M : Int) + 1 := by omega
        have hMk : M < k := by omega
        obtain ⟨X, hX⟩ : ∃ X, X = wr.alloc (.cells #[.int .i64 x, .int .i64 y] 42) := ⟨_, rfl⟩
        have hkX : Keep wr X := by rw [hX]; exact (Keep.refl _).alloc _
        have hXs : wr.heap.size < X.heap.size := by rw [hX]; simp
        have hgX : g < X.heap.size := by omega
        have r1 := (hkX.cell (p := ⟨g, M * 2, none⟩) hg2).trans q1
        have r2 := (hkX.cell (p := ⟨g, M * 2 + 1, none⟩) hg2).trans q2
        have r3 : X.cell? ⟨wr.heap.size, 0, none⟩ = some (.int .i64 x) := by rw [hX]; simp
        have r4 : X.cell? ⟨wr.heap.size, 1, none⟩ = some (.int .i64 y) := by rw [hX]; simp
        have r5 : X.frozen? ⟨wr.heap.size, 1, none⟩ = false := by rw [hX]; simp
        have hownX := own_keep hown hkX
        have HXX := Lib.hid hX
        clear hX q1 q2 hown
        have g1 := fun n os => Go.cell_grown (w := X) (a := ⟨g, M * 2, none⟩) hgX r1 n os
        have g2 := fun n os => Go.cell_grown (w := X) (a := ⟨g, M * 2 + 1, none⟩) hgX r2 n os
        have g3 := fun n os => Go.cell_grown (w := X) (a := ⟨wr.heap.size, 0, none⟩) hXs r3 n os
        have g4 := fun n os => Go.cell_grown (w := X) (a := ⟨wr.heap.size, 1, none⟩) hXs r4 n os
        have hcall : ∀ n os, Calls Tryz.prog 60 #[.agg #[.int .i64 a, .int .i64 b], .agg #[.int .i64 x, .int .i64 y]] (Sort.grow (X.drewN n) os) fun e w' => e = .returned (.bool (Sp.apart (a, b) (x, y))) ∧ ∃ q os', w' = Sort.grow ((Sort.grow (X.drewN n) os).drewN q) os' :=
          fun n os => isApart_any a b x y _ hb0' x1
        obtain ⟨ap, hap⟩ : ∃ ap, ap = Sp.apart (a, b) (x, y) := ⟨_, rfl⟩
        rw [← hap] at hcall
        have HAP := Lib.hid hap
        clear hap r1 r2 r3 r4
        have hGX : ∀ n os, Grew X (Sort.grow (X.drewN n) os) := fun n os => ⟨n, os, rfl⟩
        cases ap with
        | true =>
          go_wp2
          rw [← HXX.out]
          go_quiet_grown (first | (go_at_call 60; refine Go.Calls.grown_of (hcall _ _)))
          have hGY := hGX nq osq
          have e3 := g3 nq osq
          have e4 := g4 nq osq
          have e1 := g1 nq osq
          have e2 := g2 nq osq
          clear g1 g2 g3 g4 hGX hcall d1 d2
          generalize Sort.grow (_root_.Go.World.drewN X nq) osq = Y at hGY e1 e2 e3 e4 ⊢
          have hownY := own_keep hownX hGY.keep
          have hkY : Keep w3 Y := (hkr.trans hkX).trans hGY.keep
          have hYs := hkY.size
          have hXY := hGY.keep.size
          clear hownX hkr hGY r5
          go_wp2_with (at_builtin; refine append_rows rfl _ _ 31 rfl w3.heap.size 42 _ 16 Tryz.underlying31 info_range rfl (by omega) encP_len encP_one _ (M + 1) (m' ++ [(a, b)]) rfl (hownY.alloc _) (by simp; omega) _ _ 1 1 [(x, y)] rfl (Row.new encP_len Y 42 [(x, y)] #[.int .i64 x, .int .i64 y] rfl) (by unfold maxLen; omega) (by omega) ?_)
          intro v5 w5 hown5 hb5
          have hk5 : Keep w3 w5 := Below.trans (Keep.alloc hkY _) hb5
          clear hownY hkY
          go_wp2
          go_roundw
          case rel => exact ⟨k + 1, m' ++ [(a, b)] ++ [(x, y)], M + 1 + 1, by omega, by go_num, by omega, by simpa using hown5, hk5, by
            have := HM.out.apart HLOW.out HKY.out (by rw [HX.out]; exact fxy) (by rw [HX.out]; exact HAP.out.symm)
            rwa [HX.out] at this, fun r hr => by
              rw [List.mem_append] at hr
              rcases hr with hr | hr
              · exact HF.out r hr
              · simp only [List.mem_singleton] at hr; subst hr; exact HFX.out⟩
          case measure => simp [intOf]; omega
        | false =>
          go_wp2
          rw [← HXX.out]
          go_quiet_grown (first | (go_at_call 60; refine Go.Calls.grown_of (hcall _ _)))
          have hGY := hGX nq osq
          have e3 := g3 nq osq
          have e4 := g4 nq osq
          have e1 := g1 nq osq
          have e2 := g2 nq osq
          clear g1 g2 g3 g4 hGX hcall d1 d2
          generalize Sort.grow (_root_.Go.World.drewN X nq) osq = Y at hGY e1 e2 e3 e4 ⊢
          have hownY := own_keep hownX hGY.keep
          have hkY : Keep w3 Y := (hkr.trans hkX).trans hGY.keep
          have hYs := hkY.size
          have hXY := hGY.keep.size
          clear hownX hkr hGY r5
          obtain ⟨_, _, f2⟩ := own_pair hownY M (by omega)
          have hown6 := fun v => own_write_snd hownY M v
          rw [HLA.out] at hown6
          have hset : ∀ v, (m' ++ [(a, b)]).set M (a, v) = m' ++ [(a, v)] := fun v => by rw [HM'.out]; simp
          simp only [hset] at hown6
          have hk6 : ∀ v, Keep w3 (Y.setCell ⟨g, M * 2 + 1, none⟩ v) := fun v => Below.setCell hkY (by simpa using hg1) v
          clear hset hownY hkY
          go_wp2
          go_region
          all_goals go_wp2
          all_goals
            go_roundw
            case rel => exact ⟨k + 1, m' ++ [(a, max b y)], M + 1, by omega, by go_num, by omega, (hown6 (max b y)).drew, keep_drew (hk6 _), by
              have := HM.out.into HKY.out (by rw [HX.out]; exact HAP.out.symm)
              rwa [HX.out] at this, fun r hr => by
                rw [List.mem_append] at hr
                rcases hr with hr | hr
                · exact HF.out r (by simp [hr])
                · simp only [List.mem_singleton] at hr; subst hr; simp only [Fit]; omega⟩
            case measure => simp [intOf]; omega
    · obtain rfl : k = n2 := by omega
      have hz : ∀ t, Sp.has ys t = Sp.has zs t := fun t => by rw [Sp.has_perm HP.out, Sp.has_filter]
      have hm := HM.out
      rw [← HYL.out] at hm
      have H := Lib.hid (hm.done hz)
      have hle : m.length ≤ zs.length := by
        have h1 := HM.out.2.2.2
        have h2 := HYL.out
        rw [HL.out]
        omega
      have HLE := Lib.hid hle
      clear hm hle hz
      obtain ⟨A4, c4, rfl⟩ := own_slice hown
      have hle4 := own_le hown
      have hr4 := Row.of_own encP_len hown (by omega)
      have hks := hk3.trans hkr
      have HFR := Lib.hid (FreshR.of_own hown hk3.size)
      clear hown
      go_wp2
      go_ret
      exact ⟨⟨A4, L, c4, rfl, hle4.1, hle4.2, by rw [H.out.1]; exact hr4, hks, HFR.out⟩, H.out.2, by rw [H.out.1]; exact HLE.out⟩
theorem norm_any (A : Option Addr) (n c : Nat) (zs : List (Int × Int)) (w : World) (hn : n ≤ 100000) (hA : Row encP 2 w w.heap.size A n zs) (hf : ∀ r ∈ zs, Fit r) :
    Calls Tryz.prog 43 #[.slice A n c] w fun e w' => RetRow encP 2 (Sp.norm zs) w e w' ∧ Sp.NormOk zs ∧ (Sp.norm zs).length ≤ zs.length :=
  (norm_own A n c zs w hn hA hf).mono fun _ _ ⟨h1, h2⟩ => ⟨h1.row, h2⟩


end Go.Proofs.YtdkeibgfehblaaaGreatDoor.Span
