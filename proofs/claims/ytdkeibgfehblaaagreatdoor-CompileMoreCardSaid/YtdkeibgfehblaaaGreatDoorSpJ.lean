/- Layer 4's reference: Norm and Covers. Conditions: lengths at most a hundred thousand, ends that fit. -/
import Derived.Test.YtdkeibgfehblaaaGreatDoorSpI
namespace Go.Proofs.YtdkeibgfehblaaaGreatDoor.Span
open Go.ChangeShapes Go.WideShapes Go.ChangeAt Go.RowKit

theorem getD_mem {zs : List (Int × Int)} {j : Nat} (hj : j < zs.length) : zs.getD j (0, 0) ∈ zs := by
  rw [List.getD_eq_getElem?_getD, List.getElem?_eq_getElem hj]
  exact List.getElem_mem hj

set_option maxHeartbeats 400000 in
theorem ref_norm_own (A : Option Addr) (n c : Nat) (zs : List (Int × Int)) (w : World) (hn : n ≤ 100000) (hA : Row encP 2 w w.heap.size A n zs) (hf : ∀ r ∈ zs, Fit r) :
    Calls Tryz.prog 36 #[.slice A n c] w fun e w' => RetRowF encP 2 (Sp.norm zs) w e w' ∧ Sp.NormOk zs := by
  have HL := Lib.hid hA.1
  go_enter Tryz.func36, Tryz.ntmps36
  go_wp2
  go_loopw [3, 4] (fun s3 s4 wr => ∃ (k : Nat) (A' : Option Addr) (m c' : Nat) (ys : List (Int × Int)), k ≤ n ∧ s4 = .int .i64 k ∧ s3 = .slice A' m c' ∧ m ≤ c' ∧ c' ≤ maxLen ∧ Row encP 2 wr wr.heap.size A' m ys ∧ m ≤ k ∧ Keep w wr ∧ Hid (Sp.Right ys ∧ ∀ t, Sp.has ys t = Sp.has (zs.take k) t) ∧ Hid (∀ r ∈ ys, Fit r) ∧ Hid (FreshR w A' m)) (fun _ s4 _ => n - (intOf s4).toNat)
  case atStart => exact ⟨0, none, 0, 0, [], Nat.zero_le _, rfl, rfl, Nat.le_refl _, Nat.zero_le _, Row.none_ _ _ _, Nat.le_refl _, Keep.refl _, ⟨Sp.Right.nil, fun t => by simp⟩, (fun r h => by cases h), FreshR.zero _ _⟩
  case round =>
    obtain ⟨k, A', m, c', ys, hk, rfl, rfl, hmc, hcm, hrow, hmk, hkr, HY, HF, HFR⟩ := hrel
    by_cases hlt : k < n
    · obtain ⟨b, off, rfl, _⟩ := hA.addr (by omega)
      obtain ⟨hb, c1, c2⟩ := hA.pair k hlt
      have hkz : k < zs.length := by rw [HL.out]; exact hlt
      have fx := fit_getD hf hkz
      have HT := Lib.hid (Sp.take_snoc zs k hkz)
      clear hkz
      have d1 := (hkr.cell (p := ⟨b, off + k * 2, none⟩) hb).trans c1
      have d2 := (hkr.cell (p := ⟨b, off + k * 2 + 1, none⟩) hb).trans c2
      clear c1 c2
      obtain ⟨x, y, hx⟩ : ∃ x y, zs.getD k (0, 0) = (x, y) := ⟨_, _, rfl⟩
      rw [hx] at d1 d2 fx
      have HX := Lib.hid hx
      clear hx
      have HFX := Lib.hid fx
      clear fx
      simp only at d1 d2
      have hkn : (k : Int) < n := by omega
      have hk0 : (0 : Int) ≤ k := by omega
      by_cases hxy : x ≤ y
      · have hcon := into_own A' m c' ys x y
        go_wp2
        go_quiet (fail)
        have hq : Quiet wr (wr.drewN nq) := ⟨nq, rfl⟩
        generalize _root_.Go.World.drewN wr nq = X at hq ⊢
        have hcon := hcon X (by omega) (hrow.kept hq.keep) HF.out HY.out.1 hxy HFX.out
        have HKR := Lib.hid (hkr.trans hq.keep)
        replace hkr := hkr.trans hq.keep
        replace d1 := (hq.cell _).trans d1
        replace d2 := (hq.cell _).trans d2
        clear hq hrow
        go_wp2_with fail
        refine hcon.mono ?_
        rintro e w1 ⟨ys1, ⟨A1, m1, c1, rfl, hle1, hle2, hrow1, hk1, hfr1⟩, hys, hlen⟩
        have HFR1 := Lib.hid (hfr1.mono HKR.out)
        clear hfr1
        have HY1 := Lib.hid hys
        clear hys hcon
        have hm1 := hrow1.1
        have hm2 : m1 ≤ k + 1 := by omega
        clear hm1 hlen
        have HK : Hid (Sp.Right ys1 ∧ ∀ t, Sp.has ys1 t = Sp.has (zs.take (k + 1)) t) := ⟨HY1.out.1, fun t => by
          rw [HY1.out.2, HY.out.2, HT.out, HX.out, Sp.has_append, Sp.has_one]⟩
        have HF1 : Hid (∀ r ∈ ys1, Fit r) := by
          have h1 : Sp.NormOk (ys ++ [(x, y)]) := (Sp.norm_of HY1.out.1 fun t => by rw [HY1.out.2, Sp.has_append, Sp.has_one]).2
          have h2 := (Sp.norm_of (zs := ys ++ [(x, y)]) HY1.out.1 fun t => by rw [HY1.out.2, Sp.has_append, Sp.has_one]).1
          have h3 := Sp.norm_fit h1 (lo := -9223372036854775808) (hi := 9223372036854775807) (fun r hr => by
            rw [List.mem_append] at hr
            rcases hr with hr | hr
            · exact HF.out r hr
            · simp only [List.mem_singleton] at hr
              subst hr
              exact HFX.out)
          rw [h2] at h3
          exact h3
        go_wp2
        go_roundw
        case rel => exact ⟨k + 1, A1, m1, c1, ys1, by omega, by go_num, rfl, hle1, hle2, hrow1, hm2, hkr.trans hk1, HK, HF1, HFR1⟩
        case measure => simp [intOf]; omega
      · have HK : Hid (Sp.Right ys ∧ ∀ t, Sp.has ys t = Sp.has (zs.take (k + 1)) t) := ⟨HY.out.1, fun t => by
          rw [HY.out.2, HT.out, HX.out, Sp.has_snoc_emp (by simp [Sp.emp]; omega)]⟩
        go_wp2
        go_quiet (fail)
        go_wp2
        go_roundw
        case rel => exact ⟨k + 1, A', m, c', ys, by omega, by go_num, rfl, hmc, hcm, hrow.kept ⟨rfl, rfl, rfl, Nat.le_refl _, fun _ _ => rfl⟩, by omega, hkr.trans (Quiet.keep ⟨nq, rfl⟩), HK, HF, HFR⟩
        case measure => simp [intOf]; omega
    · obtain rfl : k = n := by omega
      have h := Sp.norm_of (zs := zs) HY.out.1 (fun t => by
        have e : zs.take k = zs := List.take_of_length_le (by rw [HL.out]; exact Nat.le_refl _)
        rw [HY.out.2, e])
      have H := Lib.hid h
      clear h
      go_wp2
      go_ret
      exact ⟨⟨A', m, c', rfl, hmc, hcm, by rw [H.out.1]; exact hrow, hkr, HFR.out⟩, H.out.2⟩
theorem ref_norm_any (A : Option Addr) (n c : Nat) (zs : List (Int × Int)) (w : World) (hn : n ≤ 100000) (hA : Row encP 2 w w.heap.size A n zs) (hf : ∀ r ∈ zs, Fit r) :
    Calls Tryz.prog 36 #[.slice A n c] w fun e w' => RetRow encP 2 (Sp.norm zs) w e w' ∧ Sp.NormOk zs :=
  (ref_norm_own A n c zs w hn hA hf).mono fun _ _ ⟨h1, h2⟩ => ⟨h1.row, h2⟩

theorem cov_true (zs : List (Int × Int)) (r : Int × Int) (k : Nat) (hk : k < zs.length) (h1 : (zs.getD k (0, 0)).1 ≤ r.1) (h2 : r.2 ≤ (zs.getD k (0, 0)).2) : Sp.cov zs r = true := by
  simp only [Sp.cov, List.any_eq_true, Bool.and_eq_true, decide_eq_true_eq]
  exact ⟨_, getD_mem hk, h1, h2⟩
theorem cov_false (zs : List (Int × Int)) (r : Int × Int) (h : ∀ k, k < zs.length → ¬ ((zs.getD k (0, 0)).1 ≤ r.1 ∧ r.2 ≤ (zs.getD k (0, 0)).2)) : Sp.cov zs r = false := by
  cases e : Sp.cov zs r with
  | false => rfl
  | true =>
    simp only [Sp.cov, List.any_eq_true, Bool.and_eq_true, decide_eq_true_eq] at e
    obtain ⟨o, ho, h1⟩ := e
    obtain ⟨i, hi, rfl⟩ := List.mem_iff_getElem.1 ho
    have := h i hi
    rw [List.getD_eq_getElem?_getD, List.getElem?_eq_getElem hi] at this
    exact absurd h1 this

end Go.Proofs.YtdkeibgfehblaaaGreatDoor.Span
