/- Layer 23's own code: All. Conditions: texts of Go's sizes (All: at most a hundred thousand bytes). -/
import Derived.Test.YtmnmlhbmhfhgaaaAuE
namespace Go.Proofs.Ytmnmlhbmhfhgaaa.Audit
set_option linter.unusedVariables false
set_option linter.unusedSimpArgs false
set_option maxRecDepth 100000
open Go.ChangeShapes Go.WideShapes Go.ChangeAt Go.RowKit
open Au
open Ref23 (aggR encR encR_len encR_one bx9 RetAll cellsR row_one set9 set9_keep set9_box ret_bool ret_int ret_string keepq info_rec)
theorem all_bad {s : ByteArray} (h : s.size % 20 ≠ 0) : all s = [] ∧ allOk s = false := by
  unfold Au.all allOk allOf; rw [if_neg h]; exact ⟨rfl, rfl⟩
theorem all_none {s : ByteArray} {k : Nat} (h : s.size % 20 = 0) (hk : k ≤ s.size / 20) (hn : allN k (bl s) = none) : all s = [] ∧ allOk s = false := by
  unfold Au.all allOk allOf; rw [if_pos h, allN_none hn hk]; exact ⟨rfl, rfl⟩
theorem all_some {s : ByteArray} {l : List RecP} (h : s.size % 20 = 0) (hn : allN (s.size / 20) (bl s) = some l) : all s = l ∧ allOk s = true := by
  unfold Au.all allOk allOf; rw [if_pos h, hn]; exact ⟨rfl, rfl⟩
set_option maxHeartbeats 2000000 in
theorem all_any (s : ByteArray) (w : World) (hs : s.size ≤ 100000) :
    Calls Try.prog 10 #[.string s] w (RetAll (all s) (allOk s) w) := by
  by_cases h : s.size % 20 = 0
  · obtain ⟨N, hN⟩ : ∃ N, s.size = 20 * N := ⟨s.size / 20, by omega⟩
    obtain ⟨i0, hi, hz0, hz1, hz2⟩ := info_parts info_rec
    have d : ((s.size : Int) % 20 != 0) = false := by
      simp only [bne_eq_false_iff_eq]; omega
    have hq : ((s.size : Int)).tdiv 20 = (N : Int) := by rw [Int.tdiv_eq_ediv_of_nonneg (by omega)]; omega
    have hN5 : (N : Int) ≤ 5000 := by omega
    have HN := Lib.hid hN
    have HM := Lib.hid h
    clear h hN
    go_enter Try.func10, Try.ntmps10
    go_wp2_with (at_make; (refine wpList_make_own _ rfl _ _ 29 rfl w.heap.size 23 i0 (.agg #[.int .i64 0, .int .i64 0, .int .i64 0, .int .i64 0, .int .i64 0, .int .i64 0, .int .i64 0, .int .i64 0, .int .i64 0]) 9 Try.underlying29 hi hz0 hz1 _ _ _ N rfl rfl rfl ?b2 ?b3 (Nat.le_refl _) ?_))
    case b2 => rw [hz2]; have := HN.out; omega
    case b3 => unfold maxLen; have := HN.out; omega
    intro w0 hown0 hgrow0
    have kk0 : Keep w w0 := Below.grown (Below.refl _ _) hgrow0 (Nat.le_refl _) (fun k h => by cases h)
    clear hgrow0
    go_wp2
    go_loopw [4, 5] (fun o1 iv wr => ∃ (k : Nat) (xs : List RecP), k ≤ N ∧ iv = .int .i64 (20 * (k : Int)) ∧ Hid (allN k (bl s) = some xs) ∧ wr.ownsRow w.heap.size 23 9 o1 xs.length (flat encR xs) ∧ Keep w wr ∧ Hid (xs.length = k)) (fun _ iv _ => s.size + 1 - (intOf iv).toNat)
    case atStart => exact ⟨0, [], Nat.zero_le _, rfl, Lib.hid rfl, hown0, kk0, Lib.hid rfl⟩
    case round =>
      clear hown0
      obtain ⟨k, xs, hk, rfl, HX, hown, hK, HXL⟩ := hrel
      obtain ⟨OA, oc, rfl⟩ := own_slice hown
      by_cases hlt : k < N
      · have hsz : s.size = 20 * N := HN.out
        have d1 : decide ((20 * (k : Int)) < (s.size : Int)) = true := by simp; omega
        have hsub : ∀ W : World, (Instr.slice 9 (.string s) (some (.int .i64 (20 * (k : Int)))) (some (.int .i64 (20 * (k : Int) + 20))) none).run Try.prog W = .ok (.string (st (((bl s).drop (20 * k)).take 20))) W := fun W => by
          have h := run_slice_string (P := Try.prog) (w := W) 9 s .i64 .i64 (20 * (k : Int)) (20 * (k : Int) + 20) Try.underlying9 (by omega) (by omega) (by omega)
          rw [h]
          have e : s.extract (20 * (k : Int)).toNat (20 * (k : Int) + 20).toNat = st (((bl s).drop (20 * k)).take 20) := by
            rw [Lib.extract_eq, show (20 * (k : Int)).toNat = 20 * k by omega, show (20 * (k : Int) + 20).toNat - 20 * k = 20 by omega]; rfl
          rw [e]
        have hss : (st (((bl s).drop (20 * k)).take 20)).size ≤ maxLen := by rw [st_size, List.length_take]; unfold maxLen; omega
        obtain ⟨u, hu⟩ : ∃ u, u = st (((bl s).drop (20 * k)).take 20) := ⟨_, rfl⟩
        rw [← hu] at hsub hss
        have hG := get_any u wr hss
        have hsn := allN_succ k (bl s)
        rw [HX.out] at hsn
        simp only [← hu] at hsn
        obtain ⟨ok, hok⟩ : ∃ b, b = getOk u := ⟨_, rfl⟩
        obtain ⟨r, hr⟩ : ∃ r, r = Au.get u := ⟨_, rfl⟩
        rw [← hok, ← hr] at hG
        have HSN := Lib.hid (show allN (k + 1) (bl s) = if ok then some (xs ++ [r]) else none by
          rw [hsn, hok, hr]; unfold Au.get
          cases getOk u <;> rfl)
        have HG := Lib.hid hG
        have HZ := Lib.hid hsz
        clear hsn hok hr hG hu hss hsz
        have b1 : (20 * (k : Int)) + 20 ≤ 9223372036854775807 := by have := HZ.out; omega
        go_wp2_with fail
        refine HG.out.mono ?_
        rintro e w1 ⟨rfl, k1⟩
        have hk1 := hK.trans k1
        have hown1 := own_keep hown k1
        cases ok
        · have hA := all_none (s := s) (k := k + 1) HM.out (by have := HZ.out; omega) HSN.out
          have HA := Lib.hid hA
          clear hA
          go_wp2
          go_ret2
          rw [HA.out.1, HA.out.2]
          exact ⟨none, 0, 0, rfl, Nat.le_refl _, Nat.zero_le _, Row.none_ _ _ _, hk1.alloc _⟩
        · have HB2 := Lib.hid (((Below.refl w.heap.size w1).alloc hk1.size (.cells (cellsR r) 23)).alloc (by have := hk1.size; simp; omega) (.cells (cellsR r) 23))
          have hrow := row_one (w1.alloc (.cells (cellsR r) 23)) r 23
          rw [show (w1.alloc (.cells (cellsR r) 23)).heap.size = w1.heap.size + 1 by simp] at hrow
          have ho1 := own_keep hown1 (((Keep.refl w1).alloc (.cells (cellsR r) 23)).alloc (.cells (cellsR r) 23))
          have hszw := hk1.size
          have hxn : xs.length ≤ 100000 := by have := HXL.out; have := HZ.out; omega
          go_wp2_with (at_builtin; refine append_rows rfl _ _ 29 rfl w.heap.size 23 _ 72 Try.underlying29 info_rec rfl (by omega) encR_len encR_one _ xs.length xs rfl ho1 (by simp; omega) _ _ 1 1 [r] rfl hrow (by unfold maxLen; omega) (by omega) ?_)
          intro v' w2 hown' hb1
          have hKw : Keep w w2 := Below.trans hk1 (HB2.out.trans hb1)
          go_wp2
          refine ⟨⟨k + 1, xs ++ [r], by omega, by go_num, HSN, by rw [List.length_append]; exact hown', hKw, Lib.hid (by rw [List.length_append, HXL.out]; rfl)⟩, by have := HZ.out; simp [intOf]; omega⟩
      · obtain rfl : k = N := by omega
        have hsz : s.size = 20 * k := HN.out
        have d1 : decide ((20 * (k : Int)) < (s.size : Int)) = false := by simp; omega
        have hA := all_some (s := s) (l := xs) HM.out (by rw [show s.size / 20 = k by omega]; exact HX.out)
        have HA := Lib.hid hA
        clear hA hsz
        go_wp2
        go_ret2
        rw [HA.out.1, HA.out.2]
        exact ⟨OA, xs.length, oc, rfl, (own_le hown).1, (own_le hown).2, Row.of_own encR_len hown (by omega), hK⟩
  · have d : ((s.size : Int) % 20 != 0) = true := by
      simp only [bne_iff_ne, ne_eq]
      omega
    have HA := Lib.hid (all_bad h)
    clear h
    go_enter Try.func10, Try.ntmps10
    go_wp2
    go_ret2
    rw [HA.out.1, HA.out.2]
    exact ⟨none, 0, 0, rfl, Nat.le_refl _, Nat.zero_le _, Row.none_ _ _ _, Keep.refl _⟩
end Go.Proofs.Ytmnmlhbmhfhgaaa.Audit
