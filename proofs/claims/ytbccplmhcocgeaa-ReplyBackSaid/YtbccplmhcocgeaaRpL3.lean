/- Layer 7's laws: ReplyBack. Conditions: none beyond the laws' own. -/
import Derived.Test.YtbccplmhcocgeaaRpL
namespace Go.Proofs.Ytbccplmhcocgeaa.Reply
set_option linter.unusedVariables false
open Go.ChangeShapes Go.WideShapes Go.ChangeAt Go.RowKit
open Ref6 (ret_bool ret_int Boxed)

set_option maxHeartbeats 2000000 in
theorem back_ask (A D : Option Addr) (n c m d : Nat) (a : AskP) (l : List Int) (s : ByteArray) (w : World) (hn : n ≤ maxLen) (hm : m ≤ maxLen) (hA : Ints .i64 w w.heap.size A n a.vs) (hD : Ints .i64 w w.heap.size D m l) (hs : s.size ≤ maxLen) :
    Calls Try.prog 5 #[.agg #[.int .i64 a.fc, .int .i64 a.rd, .int .i64 a.ct, .int .i64 a.wr, .int .i64 a.mn, .slice A n c], .slice D m d, .string s] w fun e w' => e = .returned (.bool true) ∧ Keep w w' := by
  unfold maxLen at hn hm hs
  by_cases hn : 3000 < n
  · have dn : decide ((3000 : Int) < (n : Int)) = true := by simp; omega
    obtain ⟨X, hX⟩ : ∃ X, X = w.alloc (.cells #[.int .i64 a.fc, .int .i64 a.rd, .int .i64 a.ct, .int .i64 a.wr, .int .i64 a.mn, .slice A n c] 24) := ⟨_, rfl⟩
    have k0 : Keep w X := by rw [hX]; exact (Keep.refl w).alloc _
    have hbX : Boxed w.heap.size a A n c X := by rw [hX]; exact Boxed.new w a A n c 24
    have hltX : w.heap.size < X.heap.size := by rw [hX]; simp
    have HXB := Lib.hid (show ∀ W, Keep X W → Boxed w.heap.size a A n c W from fun W h => hbX.below h hltX)
    have kx := Keep.refl X
    obtain ⟨c0, c1, c2, c3, c4, c5⟩ := hbX
    go_enter Try.func5, Try.ntmps5
    go_wp2_with fail
    rw [← hX]
    refine (awake_any _).mono ?_
    rintro e w1 ⟨rfl, hb⟩
    go_wp2
    go_ret
    exact ⟨rfl, k0.trans hb⟩
  have dn : decide ((3000 : Int) < (n : Int)) = false := by simp; omega
  by_cases hm : 3000 < m
  · have dm : decide ((3000 : Int) < (m : Int)) = true := by simp; omega
    obtain ⟨X, hX⟩ : ∃ X, X = w.alloc (.cells #[.int .i64 a.fc, .int .i64 a.rd, .int .i64 a.ct, .int .i64 a.wr, .int .i64 a.mn, .slice A n c] 24) := ⟨_, rfl⟩
    have k0 : Keep w X := by rw [hX]; exact (Keep.refl w).alloc _
    have hbX : Boxed w.heap.size a A n c X := by rw [hX]; exact Boxed.new w a A n c 24
    have hltX : w.heap.size < X.heap.size := by rw [hX]; simp
    have HXB := Lib.hid (show ∀ W, Keep X W → Boxed w.heap.size a A n c W from fun W h => hbX.below h hltX)
    have kx := Keep.refl X
    obtain ⟨c0, c1, c2, c3, c4, c5⟩ := hbX
    go_enter Try.func5, Try.ntmps5
    go_wp2_with fail
    rw [← hX]
    refine (awake_any _).mono ?_
    rintro e w1 ⟨rfl, hb⟩
    go_wp2
    go_ret
    exact ⟨rfl, k0.trans hb⟩
  have dm : decide ((3000 : Int) < (m : Int)) = false := by simp; omega
  by_cases hs : 300 < s.size
  · have ds : decide ((300 : Int) < (s.size : Int)) = true := by simp; omega
    obtain ⟨X, hX⟩ : ∃ X, X = w.alloc (.cells #[.int .i64 a.fc, .int .i64 a.rd, .int .i64 a.ct, .int .i64 a.wr, .int .i64 a.mn, .slice A n c] 24) := ⟨_, rfl⟩
    have k0 : Keep w X := by rw [hX]; exact (Keep.refl w).alloc _
    have hbX : Boxed w.heap.size a A n c X := by rw [hX]; exact Boxed.new w a A n c 24
    have hltX : w.heap.size < X.heap.size := by rw [hX]; simp
    have HXB := Lib.hid (show ∀ W, Keep X W → Boxed w.heap.size a A n c W from fun W h => hbX.below h hltX)
    have kx := Keep.refl X
    obtain ⟨c0, c1, c2, c3, c4, c5⟩ := hbX
    go_enter Try.func5, Try.ntmps5
    go_wp2_with fail
    rw [← hX]
    refine (awake_any _).mono ?_
    rintro e w1 ⟨rfl, hb⟩
    go_wp2
    go_ret
    exact ⟨rfl, k0.trans hb⟩
  have ds : decide ((300 : Int) < (s.size : Int)) = false := by simp; omega
  obtain ⟨q, hq⟩ : ∃ q, q = st (Rp.make a l) := ⟨_, rfl⟩
  have HQ := Lib.hid hq
  have HDL := Lib.hid (data_len a s)
  obtain ⟨kd, hkd⟩ : ∃ k, k = Rp.kind a s := ⟨_, rfl⟩
  have HKD := Lib.hid hkd
  clear hkd
  cases hok : Rp.ok a l
  · have HOK := Lib.hid hok
    obtain rfl : q = ⟨#[]⟩ := by rw [hq, Rp.make_not hok]; rfl
    clear hq hok
    obtain ⟨X, hX⟩ : ∃ X, X = w.alloc (.cells #[.int .i64 a.fc, .int .i64 a.rd, .int .i64 a.ct, .int .i64 a.wr, .int .i64 a.mn, .slice A n c] 24) := ⟨_, rfl⟩
    have k0 : Keep w X := by rw [hX]; exact (Keep.refl w).alloc _
    have hbX : Boxed w.heap.size a A n c X := by rw [hX]; exact Boxed.new w a A n c 24
    have hltX : w.heap.size < X.heap.size := by rw [hX]; simp
    have HXB := Lib.hid (show ∀ W, Keep X W → Boxed w.heap.size a A n c W from fun W h => hbX.below h hltX)
    have kx := Keep.refl X
    obtain ⟨c0, c1, c2, c3, c4, c5⟩ := hbX
    have hAX := hA.kept k0
    have hDX := hD.kept k0
    clear hA hD
    go_enter Try.func5, Try.ntmps5
    go_wp2_with fail
    rw [← hX]
    clear hX hltX
    refine (make_any A D n c m d a l _ (by omega) (by omega) (hAX.kept kx) (hDX.kept kx)).mono ?_
    rintro e w1 ⟨rfl, h1⟩
    rw [← HQ.out, HOK.out]
    replace kx := kx.trans h1
    replace k0 := k0.trans h1
    clear h1 c0 c1 c2 c3 c4 c5
    obtain ⟨c0, c1, c2, c3, c4, c5⟩ := HXB.out _ kx
    go_wp2_with fail
    refine (data_any A n c a s _ (by omega) (by omega) (hAX.kept kx)).mono ?_
    rintro e w5 ⟨A2, n2, c2', rfl, I2, h5⟩
    replace h5 : Keep w1 w5 := h5
    replace kx := kx.trans h5
    replace k0 := k0.trans h5
    clear h5 c0 c1 c2 c3 c4 c5
    obtain ⟨c0, c1, c2, c3, c4, c5⟩ := HXB.out _ kx
    have hn2 : n2 ≤ 1000000 := by have := I2.1; have := HDL.out; omega
    go_wp2_with fail
    refine (kind_any A n c a s _ (by omega) (by omega) (hAX.kept kx)).mono ?_
    rintro e w6 ⟨rfl, h6⟩
    replace I2 := I2.kept h6
    replace kx := kx.trans h6
    replace k0 := k0.trans h6
    clear h6 c0 c1 c2 c3 c4 c5
    obtain ⟨c0, c1, c2, c3, c4, c5⟩ := HXB.out _ kx
    rw [← HKD.out]
    cases hnm : Rp.norm a s
    · have hk1 : (kd == 1) = false := by rw [HKD.out, Rp.kind_one, hnm]
      have HNM := Lib.hid hnm
      clear hnm
      go_wp2_with fail
      refine (make_any A A2 n c n2 c2' a (Rp.data a s) _ (by omega) hn2 (hAX.kept kx) I2).mono ?_
      rintro e w7 ⟨rfl, h7⟩
      replace kx := kx.trans h7
      replace k0 := k0.trans h7
      clear h7 c0 c1 c2 c3 c4 c5
      obtain ⟨c0, c1, c2, c3, c4, c5⟩ := HXB.out _ kx
      go_wp2_with fail
      refine (awake_any _).mono ?_
      rintro e w8 ⟨rfl, h8⟩
      go_wp2
      go_ret
      exact ⟨rfl, k0.trans h8⟩
    · have hk1 : (kd == 1) = true := by rw [HKD.out, Rp.kind_one, hnm]
      have HNM := Lib.hid hnm
      clear hnm
      go_wp2_with fail
      refine (make_any A A2 n c n2 c2' a (Rp.data a s) _ (by omega) hn2 (hAX.kept kx) I2).mono ?_
      rintro e w7 ⟨rfl, h7⟩
      replace kx := kx.trans h7
      replace k0 := k0.trans h7
      clear h7 c0 c1 c2 c3 c4 c5
      obtain ⟨c0, c1, c2, c3, c4, c5⟩ := HXB.out _ kx
      have hnm2 := Rp.norm_make HNM.out
      rw [hnm2.1, hnm2.2, st_bl]
      clear hnm2
      go_wp2_with fail
      refine (awake_any _).mono ?_
      rintro e w8 ⟨rfl, h8⟩
      go_wp2
      go_ret
      exact ⟨rfl, k0.trans h8⟩
  · have HOK := Lib.hid hok
    have hb := Rp.back hok
    have hz := Rp.raw_size hok
    have HQS := Lib.hid (show q.size ≤ 100000 by rw [hq, Rp.make_ok hok, st_size]; omega)
    have hq253 : decide ((253 : Int) < q.size) = false := by rw [hq, Rp.make_ok hok, st_size]; simp; omega
    have HB := Lib.hid (show Rp.norm a q = true ∧ Rp.data a q = l ∧ Rp.kind a q = 1 by
      have h1 : Rp.norm a q = true := by rw [hq, Rp.make_ok hok]; exact hb.2.2
      refine ⟨h1, ?_, ?_⟩
      · rw [Rp.data, h1, hq, Rp.make_ok hok]; exact hb.1
      · rw [Rp.kind, h1]; rfl)
    clear hq hok hb hz
    obtain ⟨X, hX⟩ : ∃ X, X = w.alloc (.cells #[.int .i64 a.fc, .int .i64 a.rd, .int .i64 a.ct, .int .i64 a.wr, .int .i64 a.mn, .slice A n c] 24) := ⟨_, rfl⟩
    have k0 : Keep w X := by rw [hX]; exact (Keep.refl w).alloc _
    have hbX : Boxed w.heap.size a A n c X := by rw [hX]; exact Boxed.new w a A n c 24
    have hltX : w.heap.size < X.heap.size := by rw [hX]; simp
    have HXB := Lib.hid (show ∀ W, Keep X W → Boxed w.heap.size a A n c W from fun W h => hbX.below h hltX)
    have kx := Keep.refl X
    obtain ⟨c0, c1, c2, c3, c4, c5⟩ := hbX
    have hAX := hA.kept k0
    have hDX := hD.kept k0
    clear hA hD
    go_enter Try.func5, Try.ntmps5
    go_wp2_with fail
    rw [← hX]
    clear hX hltX
    refine (make_any A D n c m d a l _ (by omega) (by omega) (hAX.kept kx) (hDX.kept kx)).mono ?_
    rintro e w1 ⟨rfl, h1⟩
    rw [← HQ.out, HOK.out]
    replace kx := kx.trans h1
    replace k0 := k0.trans h1
    clear h1 c0 c1 c2 c3 c4 c5
    obtain ⟨c0, c1, c2, c3, c4, c5⟩ := HXB.out _ kx
    go_wp2_with fail
    refine (data_any A n c a q _ (by omega) HQS.out (hAX.kept kx)).mono ?_
    rintro e w2 ⟨A1, n1, c1', rfl, I1, h2⟩
    replace h2 : Keep w1 w2 := h2
    rw [HB.out.1]
    rw [HB.out.2.1] at I1
    replace kx := kx.trans h2
    replace k0 := k0.trans h2
    clear h2 c0 c1 c2 c3 c4 c5
    obtain ⟨c0, c1, c2, c3, c4, c5⟩ := HXB.out _ kx
    have hn1 : n1 ≤ 1000000 := by have h1 := I1.1; have h2 := hDX.1; omega
    go_wp2_with fail
    refine (Ref1.ints_any A1 D n1 m c1' d l l _ hn1 I1 (hDX.kept kx)).mono ?_
    rintro e w3 ⟨rfl, h3⟩
    replace h3 : Keep w2 w3 := h3.keep
    rw [beq_self_eq_true]
    replace kx := kx.trans h3
    replace k0 := k0.trans h3
    clear h3 c0 c1 c2 c3 c4 c5
    obtain ⟨c0, c1, c2, c3, c4, c5⟩ := HXB.out _ kx
    go_wp2_with fail
    refine (kind_any A n c a q _ (by omega) HQS.out (hAX.kept kx)).mono ?_
    rintro e w4 ⟨rfl, h4⟩
    rw [HB.out.2.2]
    replace kx := kx.trans h4
    replace k0 := k0.trans h4
    clear h4 c0 c1 c2 c3 c4 c5
    obtain ⟨c0, c1, c2, c3, c4, c5⟩ := HXB.out _ kx
    go_wp2_with fail
    refine (data_any A n c a s _ (by omega) (by omega) (hAX.kept kx)).mono ?_
    rintro e w5 ⟨A2, n2, c2', rfl, I2, h5⟩
    replace h5 : Keep w4 w5 := h5
    replace kx := kx.trans h5
    replace k0 := k0.trans h5
    clear h5 c0 c1 c2 c3 c4 c5
    obtain ⟨c0, c1, c2, c3, c4, c5⟩ := HXB.out _ kx
    have hn2 : n2 ≤ 1000000 := by have := I2.1; have := HDL.out; omega
    go_wp2_with fail
    refine (kind_any A n c a s _ (by omega) (by omega) (hAX.kept kx)).mono ?_
    rintro e w6 ⟨rfl, h6⟩
    replace I2 := I2.kept h6
    replace kx := kx.trans h6
    replace k0 := k0.trans h6
    clear h6 c0 c1 c2 c3 c4 c5
    obtain ⟨c0, c1, c2, c3, c4, c5⟩ := HXB.out _ kx
    rw [← HKD.out]
    cases hnm : Rp.norm a s
    · have hk1 : (kd == 1) = false := by rw [HKD.out, Rp.kind_one, hnm]
      have HNM := Lib.hid hnm
      clear hnm
      go_wp2_with fail
      refine (make_any A A2 n c n2 c2' a (Rp.data a s) _ (by omega) hn2 (hAX.kept kx) I2).mono ?_
      rintro e w7 ⟨rfl, h7⟩
      replace kx := kx.trans h7
      replace k0 := k0.trans h7
      clear h7 c0 c1 c2 c3 c4 c5
      obtain ⟨c0, c1, c2, c3, c4, c5⟩ := HXB.out _ kx
      go_wp2_with fail
      refine (awake_any _).mono ?_
      rintro e w8 ⟨rfl, h8⟩
      go_wp2
      go_ret
      exact ⟨rfl, k0.trans h8⟩
    · have hk1 : (kd == 1) = true := by rw [HKD.out, Rp.kind_one, hnm]
      have HNM := Lib.hid hnm
      clear hnm
      go_wp2_with fail
      refine (make_any A A2 n c n2 c2' a (Rp.data a s) _ (by omega) hn2 (hAX.kept kx) I2).mono ?_
      rintro e w7 ⟨rfl, h7⟩
      replace kx := kx.trans h7
      replace k0 := k0.trans h7
      clear h7 c0 c1 c2 c3 c4 c5
      obtain ⟨c0, c1, c2, c3, c4, c5⟩ := HXB.out _ kx
      have hnm2 := Rp.norm_make HNM.out
      rw [hnm2.1, hnm2.2, st_bl]
      clear hnm2
      go_wp2_with fail
      refine (awake_any _).mono ?_
      rintro e w8 ⟨rfl, h8⟩
      go_wp2
      go_ret
      exact ⟨rfl, k0.trans h8⟩
end Go.Proofs.Ytbccplmhcocgeaa.Reply
