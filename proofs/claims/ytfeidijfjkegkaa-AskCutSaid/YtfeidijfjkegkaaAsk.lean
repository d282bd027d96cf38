/- The developers' requests: Same, Get. Conditions: lengths at most a hundred thousand. -/
import Derived.Test.YtfeidijfjkegkaaAskZ
import Derived.Test.YtfeidijfjkegkaaStr
namespace Go.Proofs.Ytfeidijfjkegkaa.Ask
set_option linter.unusedVariables false
open Go.ChangeShapes Go.WideShapes Go.ChangeAt Go.RowKit
open Str (toList_eq)
open Ref6 (ret_bool ret_int Boxed below_drewN ints_box far_set RetAsk)

set_option maxHeartbeats 400000 in
theorem equal_any (A B : Option Addr) (n m c d : Nat) (xs ys : List Int) (w : World) (hn : n ≤ 1000000) (hA : Ints .i64 w w.heap.size A n xs) (hB : Ints .i64 w w.heap.size B m ys) :
    Calls Try.prog 31 #[.slice A n c, .slice B m d] w fun e w' => e = .returned (.bool (xs == ys)) ∧ Quiet w w' := by
  have hla := hA.1
  have hlb := hB.1
  by_cases hnm : n = m
  · subst hnm
    have HA := Lib.hid hla
    have HB := Lib.hid hlb
    clear hla hlb
    go_enter Try.func31, Try.ntmps31
    go_wp2
    go_loopw [13] (fun i wr => SameRel w n xs ys i wr) (fun i _ => n - (intOf i).toNat)
    case atStart => exact ⟨0, Nat.zero_le _, rfl, rfl, Quiet.refl _⟩
    case round =>
      obtain ⟨k, hk, rfl, hsame, hq⟩ := hrel
      have HS := Lib.hid hsame
      clear hsame
      by_cases hlt : k < n
      · obtain ⟨b, off, rfl, hb, hc⟩ := hA.2 (by omega)
        obtain ⟨b', off', rfl, hb', hc'⟩ := hB.2 (by omega)
        have hck := (hq.cell ⟨b, off + k, none⟩).trans (hc k hlt)
        have hck' := (hq.cell ⟨b', off' + k, none⟩).trans (hc' k hlt)
        clear hc hc'
        obtain ⟨x, hx⟩ : ∃ z, z = xs.getD k 0 := ⟨_, rfl⟩
        obtain ⟨y, hy⟩ : ∃ z, z = ys.getD k 0 := ⟨_, rfl⟩
        rw [← hx] at hck
        rw [← hy] at hck'
        have HX := Lib.hid hx
        have HY := Lib.hid hy
        clear hx hy
        have hi1 : (k : Int) < n := by omega
        by_cases hxy : x = y
        · have hb1 : (x != y) = false := by simp [hxy]
          have HXY := Lib.hid hxy
          clear hxy
          go_wp2
          go_quiet (fail)
          go_wp2
          go_roundw
          case rel =>
            refine ⟨k + 1, by omega, by go_num, ?_, hq.drewN _⟩
            rw [Tw.take_snoc xs k (by rw [HA.out]; exact hlt), Tw.take_snoc ys k (by rw [HB.out]; exact hlt), HS.out, ← HX.out, ← HY.out, HXY.out]
          case measure => simp [intOf]; omega
        · have hb1 : (x != y) = true := by simp [hxy]
          go_wp2
          go_quiet (fail)
          go_wp2
          go_ret
          refine ⟨?_, hq.drewN _⟩
          have : (xs == ys) = false := by
            rw [beq_eq_false_iff_ne]
            intro e
            rw [HX.out, HY.out, e] at hxy
            exact hxy rfl
          rw [this]
          rfl
      · obtain rfl : k = n := by omega
        go_wp2
        go_ret
        refine ⟨?_, hq⟩
        have e := HS.out
        rw [List.take_of_length_le (by rw [HA.out]; omega), List.take_of_length_le (by rw [HB.out]; omega)] at e
        simp [e]
  · have hne : (xs == ys) = false := by
      rw [beq_eq_false_iff_ne]
      intro e
      apply hnm
      rw [← hla, ← hlb, e]
    have hb1 : ((n : Int) != (m : Int)) = true := by simp; omega
    have HA := Lib.hid hla
    have HB := Lib.hid hlb
    clear hla hlb
    go_enter Try.func31, Try.ntmps31
    go_wp2
    go_ret
    rw [hne]
    exact ⟨rfl, Quiet.refl _⟩

set_option maxHeartbeats 1000000 in
theorem same_any (A B : Option Addr) (n c m d : Nat) (a b : AskP) (w : World) (hn : n ≤ 1000000) (hm : m ≤ 1000000) (hA : Ints .i64 w w.heap.size A n a.vs) (hB : Ints .i64 w w.heap.size B m b.vs) :
    Calls Try.prog 17 #[.agg #[.int .i64 a.fc, .int .i64 a.rd, .int .i64 a.ct, .int .i64 a.wr, .int .i64 a.mn, .slice A n c], .agg #[.int .i64 b.fc, .int .i64 b.rd, .int .i64 b.ct, .int .i64 b.wr, .int .i64 b.mn, .slice B m d]] w
      fun e w' => e = .returned (.bool (Ak.same a b)) ∧ Keep w w' := by
  obtain ⟨fc, rd, ct, wr, mn, vs⟩ := a
  obtain ⟨fc2, rd2, ct2, wr2, mn2, vs2⟩ := b
  simp only at hA hB ⊢
  go_enter Try.func17, Try.ntmps17
  cases h1 : (fc == fc2)
  · go_wp2
    go_ret
    refine ⟨ret_bool ?_, ((Keep.refl w).alloc _).alloc _⟩
    simp only [Ak.same, h1, Bool.false_and]
  cases h2 : (rd == rd2)
  · go_wp2
    go_ret
    refine ⟨ret_bool ?_, ((Keep.refl w).alloc _).alloc _⟩
    simp only [Ak.same, h1, h2, Bool.false_and, Bool.true_and]
  cases h3 : (ct == ct2)
  · go_wp2
    go_ret
    refine ⟨ret_bool ?_, ((Keep.refl w).alloc _).alloc _⟩
    simp only [Ak.same, h1, h2, h3, Bool.false_and, Bool.true_and]
  cases h4 : (wr == wr2)
  · go_wp2
    go_ret
    refine ⟨ret_bool ?_, ((Keep.refl w).alloc _).alloc _⟩
    simp only [Ak.same, h1, h2, h3, h4, Bool.false_and, Bool.true_and]
  cases h5 : (mn == mn2)
  · go_wp2
    go_ret
    refine ⟨ret_bool ?_, ((Keep.refl w).alloc _).alloc _⟩
    simp only [Ak.same, h1, h2, h3, h4, h5, Bool.false_and, Bool.true_and]
  go_wp2_with fail
  have hK := ((Keep.refl w).alloc (.cells #[.int .i64 fc, .int .i64 rd, .int .i64 ct, .int .i64 wr, .int .i64 mn, .slice A n c] 24)).alloc (.cells #[.int .i64 fc2, .int .i64 rd2, .int .i64 ct2, .int .i64 wr2, .int .i64 mn2, .slice B m d] 24)
  refine (equal_any _ _ _ _ _ _ _ _ _ hn (hA.kept hK) (hB.kept hK)).mono ?_
  rintro e w1 ⟨rfl, hq⟩
  replace hK := hK.trans hq.keep
  clear hq
  go_wp2
  go_ret
  refine ⟨ret_bool ?_, hK⟩
  simp only [Ak.same, h1, h2, h3, h4, h5, Bool.true_and]

theorem emptyB (s : ByteArray) (h : s.size = 0) : s = ⟨#[]⟩ := by
  apply ByteArray.ext
  exact Array.eq_empty_of_size_eq_zero h

set_option maxHeartbeats 2000000 in
theorem get_any (s : ByteArray) (w : World) (hs : s.size ≤ 100000) :
    Calls Try.prog 10 #[.string s] w (RetAsk (Ak.get s) (.int .i64 (Ak.err s)) w) := by
  have hse : (s.toList == []) = decide (s.size = 0) := by
    rw [toList_eq, Bool.eq_iff_iff, beq_iff_eq, decide_eq_true_eq, ← bl_length, List.length_eq_zero_iff]
  by_cases h0 : s.size = 0
  · have he : Ak.err s = 2 := by rw [Ak.err, Ak.begins, h0]; rfl
    have hg : Ak.get s = Ak.zero := by rw [Ak.get, he]; rfl
    have HE := Lib.hid he
    have HGT := Lib.hid hg
    clear he hg
    have d1 : (s.toList == []) = true := by rw [hse]; simpa using h0
    have hbW : Below w.heap.size w w := Below.refl _ _
    clear hse
    go_enter Try.func10, Try.ntmps10
    go_wp2
    (try simp only [Exit.inBlock, Exit.then])
    refine bodyPost_ret (v := .tuple #[.agg #[.int .i64 0, .int .i64 0, .int .i64 0, .int .i64 0, .int .i64 0, .slice none 0 0], .int .i64 2]) ?_ rfl ⟨none, 0, 0, by rw [HE.out, HGT.out]; rfl, ?_, ?_, Fresh.zero _ _⟩
    · rw [results_cell_tmp rfl]
      go_simp
    · rw [HGT.out]; exact Ints.none_ _ _ _ _
    · (repeat' (first | with_reducible exact hbW | with_reducible refine Below.setCell ?_ ?_ _ | with_reducible refine below_drewN ?_ _ | with_reducible refine Below.alloc ?_ ?_ _ | with_reducible exact Below.refl _ _ | (simp; done) | (simp; omega)))
  · have d1 : (s.toList == []) = false := by rw [hse]; simpa using h0
    clear hse
    have hx := idx (P := Try.prog) (k := .i64) s 0 Try.underlying9 (by omega) (by omega)
    have hr := byteAt_range s 0
    have hbg : Ak.begins s = Ak.known (byteAt s 0) := by rw [Ak.begins, show decide (0 < s.size) = true by simp; omega, Bool.true_and]
    cases hk : Ak.known (byteAt s 0)
    · rw [hk] at hbg
      have he : Ak.err s = 2 := by rw [Ak.err, hbg]; rfl
      have hg : Ak.get s = Ak.zero := by rw [Ak.get, he]; rfl
      have HE := Lib.hid he
      have HGT := Lib.hid hg
      clear he hg
      go_enter Try.func10, Try.ntmps10
      go_wp2_with fail
      refine (known_any (byteAt s 0) _).mono ?_
      rintro e W ⟨rfl, hb⟩
      rw [hk]
      have hbW : Below w.heap.size w W := Below.trans ((Below.refl _ _).alloc (Nat.le_refl _) _) (hb.mono (by simp))
      have hlt : w.heap.size < W.heap.size := by have := hb.size; simp at this; omega
      have c00 : W.cell? ⟨w.heap.size, 0, none⟩ = some (.int .i64 0) := (hb.cell (by simp)).trans (by go_simp)
      have c01 : W.cell? ⟨w.heap.size, 1, none⟩ = some (.int .i64 0) := (hb.cell (by simp)).trans (by go_simp)
      have c02 : W.cell? ⟨w.heap.size, 2, none⟩ = some (.int .i64 0) := (hb.cell (by simp)).trans (by go_simp)
      have c03 : W.cell? ⟨w.heap.size, 3, none⟩ = some (.int .i64 0) := (hb.cell (by simp)).trans (by go_simp)
      have c04 : W.cell? ⟨w.heap.size, 4, none⟩ = some (.int .i64 0) := (hb.cell (by simp)).trans (by go_simp)
      have c05 : W.cell? ⟨w.heap.size, 5, none⟩ = some (.slice none 0 0) := (hb.cell (by simp)).trans (by go_simp)
      have f0 : ∀ j, W.frozen? ⟨w.heap.size, j, none⟩ = false := fun j => (hb.frozen (by simp)).trans (by go_simp)
      clear d1 hx hr hbg hb h0
      go_wp2
      (try simp only [Exit.inBlock, Exit.then])
      refine bodyPost_ret (v := .tuple #[.agg #[.int .i64 0, .int .i64 0, .int .i64 0, .int .i64 0, .int .i64 0, .slice none 0 0], .int .i64 2]) ?_ rfl ⟨none, 0, 0, by rw [HE.out, HGT.out]; rfl, ?_, ?_, Fresh.zero _ _⟩
      · rw [results_cell_tmp rfl]
        go_simp
      · rw [HGT.out]; exact Ints.none_ _ _ _ _
      · clear c00 c01 c02 c03 c04 c05 f0; (repeat' (first | with_reducible exact hbW | with_reducible refine Below.setCell ?_ ?_ _ | with_reducible refine below_drewN ?_ _ | with_reducible refine Below.alloc ?_ ?_ _ | with_reducible exact Below.refl _ _ | (simp; done) | (simp; omega)))
    · rw [hk] at hbg
      by_cases hlg : 253 < s.size
      · have d2 : decide ((253 : Int) < s.size) = true := by simp; omega
        have he : Ak.err s = 4 := Ak.err_long hbg hlg
        have hg : Ak.get s = Ak.zero := by rw [Ak.get, he]; rfl
        have HE := Lib.hid he
        have HGT := Lib.hid hg
        clear he hg
        go_enter Try.func10, Try.ntmps10
        go_wp2_with fail
        refine (known_any (byteAt s 0) _).mono ?_
        rintro e W ⟨rfl, hb⟩
        rw [hk]
        have hbW : Below w.heap.size w W := Below.trans ((Below.refl _ _).alloc (Nat.le_refl _) _) (hb.mono (by simp))
        have hlt : w.heap.size < W.heap.size := by have := hb.size; simp at this; omega
        have c00 : W.cell? ⟨w.heap.size, 0, none⟩ = some (.int .i64 0) := (hb.cell (by simp)).trans (by go_simp)
        have c01 : W.cell? ⟨w.heap.size, 1, none⟩ = some (.int .i64 0) := (hb.cell (by simp)).trans (by go_simp)
        have c02 : W.cell? ⟨w.heap.size, 2, none⟩ = some (.int .i64 0) := (hb.cell (by simp)).trans (by go_simp)
        have c03 : W.cell? ⟨w.heap.size, 3, none⟩ = some (.int .i64 0) := (hb.cell (by simp)).trans (by go_simp)
        have c04 : W.cell? ⟨w.heap.size, 4, none⟩ = some (.int .i64 0) := (hb.cell (by simp)).trans (by go_simp)
        have c05 : W.cell? ⟨w.heap.size, 5, none⟩ = some (.slice none 0 0) := (hb.cell (by simp)).trans (by go_simp)
        have f0 : ∀ j, W.frozen? ⟨w.heap.size, j, none⟩ = false := fun j => (hb.frozen (by simp)).trans (by go_simp)
        clear d1 hx hr hbg hb h0
        go_wp2
        (try simp only [Exit.inBlock, Exit.then])
        refine bodyPost_ret (v := .tuple #[.agg #[.int .i64 0, .int .i64 0, .int .i64 0, .int .i64 0, .int .i64 0, .slice none 0 0], .int .i64 4]) ?_ rfl ⟨none, 0, 0, by rw [HE.out, HGT.out]; rfl, ?_, ?_, Fresh.zero _ _⟩
        · rw [results_cell_tmp rfl]
          go_simp
        · rw [HGT.out]; exact Ints.none_ _ _ _ _
        · clear c00 c01 c02 c03 c04 c05 f0; (repeat' (first | with_reducible exact hbW | with_reducible refine Below.setCell ?_ ?_ _ | with_reducible refine below_drewN ?_ _ | with_reducible refine Below.alloc ?_ ?_ _ | with_reducible exact Below.refl _ _ | (simp; done) | (simp; omega)))
      · have d2 : decide ((253 : Int) < s.size) = false := by simp; omega
        have HBG := Lib.hid hbg
        have hlen := Ak.taken_len s
        obtain ⟨a, ha⟩ : ∃ a, a = Ak.taken s := ⟨_, rfl⟩
        have HA := Lib.hid ha
        have hvl : a.vs.length ≤ 1000000 := by rw [ha]; omega
        clear hlen hbg ha
        go_enter Try.func10, Try.ntmps10
        go_wp2_with fail
        refine (known_any (byteAt s 0) _).mono ?_
        rintro e W ⟨rfl, hb⟩
        rw [hk]
        have hbW : Below w.heap.size w W := Below.trans ((Below.refl _ _).alloc (Nat.le_refl _) _) (hb.mono (by simp))
        have hlt : w.heap.size < W.heap.size := by have := hb.size; simp at this; omega
        have c00 : W.cell? ⟨w.heap.size, 0, none⟩ = some (.int .i64 0) := (hb.cell (by simp)).trans (by go_simp)
        have c01 : W.cell? ⟨w.heap.size, 1, none⟩ = some (.int .i64 0) := (hb.cell (by simp)).trans (by go_simp)
        have c02 : W.cell? ⟨w.heap.size, 2, none⟩ = some (.int .i64 0) := (hb.cell (by simp)).trans (by go_simp)
        have c03 : W.cell? ⟨w.heap.size, 3, none⟩ = some (.int .i64 0) := (hb.cell (by simp)).trans (by go_simp)
        have c04 : W.cell? ⟨w.heap.size, 4, none⟩ = some (.int .i64 0) := (hb.cell (by simp)).trans (by go_simp)
        have c05 : W.cell? ⟨w.heap.size, 5, none⟩ = some (.slice none 0 0) := (hb.cell (by simp)).trans (by go_simp)
        have f0 : ∀ j, W.frozen? ⟨w.heap.size, j, none⟩ = false := fun j => (hb.frozen (by simp)).trans (by go_simp)
        go_wp2_with fail
        refine (taken_any s _ (by omega) HBG.out).mono ?_
        rintro e V ⟨A, n, c, rfl, hI, hV, hfr⟩
        rw [← HA.out] at hI ⊢
        have hn : n ≤ 1000000 := by have := hI.1; omega
        have kb := (Keep.refl V).alloc (.cells #[.int .i64 a.fc, .int .i64 a.rd, .int .i64 a.ct, .int .i64 a.wr, .int .i64 a.mn, .slice A n c] 24)
        have b0 : Boxed w.heap.size Ak.zero none 0 0 V := Boxed.below ⟨c00, c01, c02, c03, c04, c05⟩ hV hlt
        have g0 : ∀ j, V.frozen? ⟨w.heap.size, j, none⟩ = false := fun j => (hV.frozen hlt).trans (f0 j)
        have hbV : Below w.heap.size w V := hbW.trans (hV.mono (by omega))
        have hltV : w.heap.size < V.heap.size := by have := hV.size; omega
        have hfr2 : 0 < n → ∃ b, A = some ⟨b, 0, none⟩ ∧ w.heap.size + 1 ≤ b := fun hn => by
          obtain ⟨b, e, h⟩ := hfr hn
          exact ⟨b, e, by omega⟩
        have HF := Lib.hid hfr2
        have HI := Lib.hid hI
        clear hV hb f0 c00 c01 c02 c03 c04 c05 hfr hfr2 hI hbW hlt
        obtain ⟨c00, c01, c02, c03, c04, c05⟩ := b0
        simp only [Ak.zero] at c00 c01 c02 c03 c04 c05
        go_wp2_with fail
        refine (isShaped_any A n c a.fc a.rd a.ct a.wr a.mn a.vs _ (by unfold maxLen; omega) (HI.out.kept kb)).mono ?_
        rintro e U ⟨rfl, hU⟩
        have hUV : Keep V U := kb.trans hU
        have b1 : Boxed V.heap.size a A n c U := (Boxed.new V a A n c 24).below hU (by simp)
        have b0 : Boxed w.heap.size Ak.zero none 0 0 U := Boxed.kept ⟨c00, c01, c02, c03, c04, c05⟩ hUV hltV
        have e0 : ∀ j, U.frozen? ⟨w.heap.size, j, none⟩ = false := fun j => (hUV.frozen hltV).trans (g0 j)
        have hbU : Below w.heap.size w U := hbV.trans (hUV.mono (by omega))
        have hltU : w.heap.size < U.heap.size := by have := hUV.size; omega
        have hltVU : V.heap.size < U.heap.size := by have := hU.size; simp at this; omega
        clear kb hU g0 c00 c01 c02 c03 c04 c05
        obtain ⟨c00, c01, c02, c03, c04, c05⟩ := b0
        simp only [Ak.zero] at c00 c01 c02 c03 c04 c05
        obtain ⟨c10, c11, c12, c13, c14, c15⟩ := b1
        cases hsh : Ak.shaped a
        · have he : Ak.err s = 4 := Ak.err_bad HBG.out (by rw [← HA.out, hsh]; rfl)
          have hg : Ak.get s = Ak.zero := by rw [Ak.get, he]; rfl
          have HE := Lib.hid he
          have HGT := Lib.hid hg
          clear he hg
          clear d1 d2 hx hr h0 hlg HI HF
          go_wp2
          (try simp only [Exit.inBlock, Exit.then])
          refine bodyPost_ret (v := .tuple #[.agg #[.int .i64 0, .int .i64 0, .int .i64 0, .int .i64 0, .int .i64 0, .slice none 0 0], .int .i64 4]) ?_ rfl ⟨none, 0, 0, by rw [HE.out, HGT.out]; rfl, ?_, ?_, Fresh.zero _ _⟩
          · rw [results_cell_tmp rfl]
            go_simp
          · rw [HGT.out]; exact Ints.none_ _ _ _ _
          · clear c00 c01 c02 c03 c04 c05 e0 c10 c11 c12 c13 c14 c15; (repeat' (first | with_reducible exact hbU | with_reducible refine Below.setCell ?_ ?_ _ | with_reducible refine below_drewN ?_ _ | with_reducible refine Below.alloc ?_ ?_ _ | with_reducible exact Below.refl _ _ | (simp; done) | (simp; omega)))
        · have hfm : Ak.formed a = true := by rw [HA.out]; exact Ak.taken_formed (by rw [← HA.out]; exact hsh)
          have hnn := Ak.shaped_nn hsh
          have HNN := Lib.hid hnn
          have HSH := Lib.hid hsh
          clear hnn hsh
          go_wp2_with fail
          refine (bytesOf_any A n c a _ hfm (HI.out.kept hUV)).mono ?_
          rintro e T ⟨rfl, hT⟩
          have hTV : Keep V T := hUV.trans hT
          have b1 : Boxed V.heap.size a A n c T := Boxed.kept ⟨c10, c11, c12, c13, c14, c15⟩ hT hltVU
          have b0 : Boxed w.heap.size Ak.zero none 0 0 T := Boxed.kept ⟨c00, c01, c02, c03, c04, c05⟩ hT hltU
          have t0 : ∀ j, T.frozen? ⟨w.heap.size, j, none⟩ = false := fun j => (hT.frozen hltU).trans (e0 j)
          have hbT : Below w.heap.size w T := hbU.trans (hT.mono (by omega))
          have hltT : w.heap.size < T.heap.size := by have := hT.size; omega
          have hltVT : V.heap.size < T.heap.size := by have := hT.size; omega
          clear hT e0 c00 c01 c02 c03 c04 c05 c10 c11 c12 c13 c14 c15 hbU hltVU hUV hltU
          obtain ⟨c00, c01, c02, c03, c04, c05⟩ := b0
          simp only [Ak.zero] at c00 c01 c02 c03 c04 c05
          obtain ⟨c10, c11, c12, c13, c14, c15⟩ := b1
          cases hbs : (Ak.bytes a == bl s)
          · have he : Ak.err s = 4 := Ak.err_bad HBG.out (by rw [← HA.out, HSH.out, hbs]; rfl)
            have hg : Ak.get s = Ak.zero := by rw [Ak.get, he]; rfl
            have HE := Lib.hid he
            have HGT := Lib.hid hg
            clear he hg
            have d3 : ((st (Ak.bytes a)).toList == s.toList) = false := by rw [toList_eq, toList_eq, bl_st, hbs]
            clear d1 d2 hx hr h0 hlg HI HF hbs
            go_wp2
            (try simp only [Exit.inBlock, Exit.then])
            refine bodyPost_ret (v := .tuple #[.agg #[.int .i64 0, .int .i64 0, .int .i64 0, .int .i64 0, .int .i64 0, .slice none 0 0], .int .i64 4]) ?_ rfl ⟨none, 0, 0, by rw [HE.out, HGT.out]; rfl, ?_, ?_, Fresh.zero _ _⟩
            · rw [results_cell_tmp rfl]
              go_simp
            · rw [HGT.out]; exact Ints.none_ _ _ _ _
            · clear c00 c01 c02 c03 c04 c05 t0 c10 c11 c12 c13 c14 c15; (repeat' (first | with_reducible exact hbT | with_reducible refine Below.setCell ?_ ?_ _ | with_reducible refine below_drewN ?_ _ | with_reducible refine Below.alloc ?_ ?_ _ | with_reducible exact Below.refl _ _ | (simp; done) | (simp; omega)))
          · have d3 : ((st (Ak.bytes a)).toList == s.toList) = true := by rw [toList_eq, toList_eq, bl_st, hbs]
            have HOK := Lib.hid (show (Ak.shaped (Ak.taken s) && Ak.bytes (Ak.taken s) == bl s) = true by rw [← HA.out, HSH.out, hbs]; rfl)
            clear hbs
            go_wp2_with fail
            refine (isInside_any A n c a.fc a.rd a.ct a.wr a.mn _ ⟨HNN.out.1.2.1, HNN.out.1.2.2, HNN.out.2.2.1, HNN.out.2.2.2⟩ a.vs).mono ?_
            rintro e R ⟨rfl, hR⟩
            have hRV : Keep V R := hTV.trans hR
            have b1 : Boxed V.heap.size a A n c R := Boxed.kept ⟨c10, c11, c12, c13, c14, c15⟩ hR hltVT
            have b0 : Boxed w.heap.size Ak.zero none 0 0 R := Boxed.kept ⟨c00, c01, c02, c03, c04, c05⟩ hR hltT
            have r0 : ∀ j, R.frozen? ⟨w.heap.size, j, none⟩ = false := fun j => (hR.frozen hltT).trans (t0 j)
            have hbR : Below w.heap.size w R := hbT.trans (hR.mono (by omega))
            have hltR : w.heap.size < R.heap.size := by have := hR.size; omega
            clear hR t0 c00 c01 c02 c03 c04 c05 c10 c11 c12 c13 c14 c15 hbT hltVT hTV hltT
            obtain ⟨c00, c01, c02, c03, c04, c05⟩ := b0
            simp only [Ak.zero] at c00 c01 c02 c03 c04 c05
            obtain ⟨c10, c11, c12, c13, c14, c15⟩ := b1
            cases hin : Ak.inside a
            · have he : Ak.err s = 3 := Ak.err_far HBG.out HOK.out (by rw [← HA.out]; exact hin)
              have hg : Ak.get s = Ak.zero := by rw [Ak.get, he]; rfl
              have HE := Lib.hid he
              have HGT := Lib.hid hg
              clear he hg
              have hin2 : Ak.inside ⟨a.fc, a.rd, a.ct, a.wr, a.mn, a.vs⟩ = false := hin
              clear d1 d2 d3 hx hr h0 hlg HI HF
              go_wp2
              (try simp only [Exit.inBlock, Exit.then])
              refine bodyPost_ret (v := .tuple #[.agg #[.int .i64 0, .int .i64 0, .int .i64 0, .int .i64 0, .int .i64 0, .slice none 0 0], .int .i64 3]) ?_ rfl ⟨none, 0, 0, by rw [HE.out, HGT.out]; rfl, ?_, ?_, Fresh.zero _ _⟩
              · rw [results_cell_tmp rfl]
                go_simp
              · rw [HGT.out]; exact Ints.none_ _ _ _ _
              · clear c00 c01 c02 c03 c04 c05 r0 c10 c11 c12 c13 c14 c15; (repeat' (first | with_reducible exact hbR | with_reducible refine Below.setCell ?_ ?_ _ | with_reducible refine below_drewN ?_ _ | with_reducible refine Below.alloc ?_ ?_ _ | with_reducible exact Below.refl _ _ | (simp; done) | (simp; omega)))
            · obtain ⟨he, hg⟩ := Ak.err_ok HBG.out HOK.out (by rw [← HA.out]; exact hin)
              have hin2 : Ak.inside ⟨a.fc, a.rd, a.ct, a.wr, a.mn, a.vs⟩ = true := hin
              rw [← HA.out] at hg
              have HE := Lib.hid he
              have HGT := Lib.hid hg
              clear he hg d1 d2 d3 hx hr h0 hlg
              go_wp2
              (try simp only [Exit.inBlock, Exit.then])
              refine bodyPost_ret (v := .tuple #[.agg #[.int .i64 a.fc, .int .i64 a.rd, .int .i64 a.ct, .int .i64 a.wr, .int .i64 a.mn, .slice A n c], .int .i64 0]) ?_ rfl ⟨A, n, c, by rw [HE.out, HGT.out], ?_, ?_, fun hn => by obtain ⟨b, e, h⟩ := HF.out hn; exact ⟨b, e, by omega⟩⟩
              · rw [results_cell_tmp rfl]
                go_simp
              · rw [HGT.out]
                refine ints_box (HI.out.kept hRV) HF.out _ (by simp) (fun p h1 h2 => ?_)
                repeat (rw [far_set _ (by show p.block ≠ _; simp; omega)])
              · clear c00 c01 c02 c03 c04 c05 c10 c11 c12 c13 c14 c15 r0
                (repeat' (first | with_reducible exact hbR | with_reducible refine Below.setCell ?_ ?_ _ | with_reducible refine below_drewN ?_ _ | with_reducible refine Below.alloc ?_ ?_ _ | with_reducible exact Below.refl _ _ | (simp; done) | (simp; omega)))
end Go.Proofs.Ytfeidijfjkegkaa.Ask
