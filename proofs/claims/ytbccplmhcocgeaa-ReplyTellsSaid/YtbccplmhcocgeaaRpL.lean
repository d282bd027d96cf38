/- Layer 7's laws: awake, ReplyTells. Conditions: none beyond the laws' own. -/
import Derived.Test.YtbccplmhcocgeaaRp
import Derived.Test.YtbccplmhcocgeaaOpen
namespace Go.Proofs.Ytbccplmhcocgeaa.Reply
set_option linter.unusedVariables false
open Go.ChangeShapes Go.WideShapes Go.ChangeAt Go.RowKit
open Ref6 (ret_bool ret_int Boxed)

set_option maxHeartbeats 1000000 in
theorem awake_any (w : World) : Calls Try.prog 7 #[] w fun e w' => e = .returned (.bool true) ∧ Keep w w' := by
  have e1 : st (Rp.make ⟨3, 100, 2, 0, 0, []⟩ [7, 8]) = ⟨#[3, 4, 0, 7, 0, 8]⟩ := by rw [show Rp.make ⟨3, 100, 2, 0, 0, []⟩ [7, 8] = [3, 4, 0, 7, 0, 8] from by decide]; rfl
  have e2 : Rp.ok ⟨3, 100, 2, 0, 0, []⟩ [7, 8] = true := by decide
  have e3 : st (Rp.fault 3 2) = ⟨#[131, 2]⟩ := by rw [show Rp.fault 3 2 = [131, 2] from by decide]; rfl
  have e4 : Rp.faultOk 3 2 = true := by decide
  have e5 : Rp.kind ⟨3, 100, 2, 0, 0, []⟩ ⟨#[3, 4, 0, 7, 0, 8]⟩ = 1 := by decide
  have e6 : Rp.kind ⟨3, 100, 2, 0, 0, []⟩ ⟨#[131, 2]⟩ = 2 := by decide
  have e7 : Rp.kind ⟨3, 100, 2, 0, 0, []⟩ ⟨#[131, 7]⟩ = 0 := by decide
  have hm : ∀ D W d, Ints .i64 W W.heap.size D 2 [7, 8] → Calls Try.prog 8 #[.agg #[.int .i64 3, .int .i64 100, .int .i64 2, .int .i64 0, .int .i64 0, .slice none 0 0], .slice D 2 d] W fun e w' => e = .returned (.tuple #[.string ⟨#[3, 4, 0, 7, 0, 8]⟩, .bool true]) ∧ Keep W w' := fun D W d hD => by
    have h := make_any none D 0 0 2 d ⟨3, 100, 2, 0, 0, []⟩ [7, 8] W (Nat.zero_le _) (by omega) (Ints.none_ _ _ _ _) hD
    rwa [e1, e2] at h
  have hf : ∀ W, Calls Try.prog 15 #[.int .i64 3, .int .i64 2] W fun e w' => e = .returned (.tuple #[.string ⟨#[131, 2]⟩, .bool true]) ∧ Keep W w' := fun W => by
    have h := fault_any 3 2 W
    rwa [e3, e4] at h
  have hk : ∀ (s : ByteArray) (k : Int) W, s.size ≤ 100000 → Rp.kind ⟨3, 100, 2, 0, 0, []⟩ s = k → Calls Try.prog 12 #[.agg #[.int .i64 3, .int .i64 100, .int .i64 2, .int .i64 0, .int .i64 0, .slice none 0 0], .string s] W fun e w' => e = .returned (.int .i64 k) ∧ Keep W w' := fun s k W hs hk => by
    have h := kind_any none 0 0 ⟨3, 100, 2, 0, 0, []⟩ s W (Nat.zero_le _) hs (Ints.none_ _ _ _ _)
    rwa [hk] at h
  have E5 := Lib.hid e5
  have E6 := Lib.hid e6
  have E7 := Lib.hid e7
  have HM := Lib.hid hm
  have HF := Lib.hid hf
  have HK := Lib.hid hk
  clear e1 e2 e3 e4 e5 e6 e7 hm hf hk
  have bx := Boxed.new w ⟨3, 100, 2, 0, 0, []⟩ none 0 0 24
  have k0 := (Keep.refl w).alloc (.cells #[.int .i64 3, .int .i64 100, .int .i64 2, .int .i64 0, .int .i64 0, .slice none 0 0] 24)
  have hsz : (w.alloc (.cells #[.int .i64 3, .int .i64 100, .int .i64 2, .int .i64 0, .int .i64 0, .slice none 0 0] 24)).heap.size = w.heap.size + 1 := by simp
  obtain ⟨X, hX⟩ : ∃ X, X = w.alloc (.cells #[.int .i64 3, .int .i64 100, .int .i64 2, .int .i64 0, .int .i64 0, .slice none 0 0] 24) := ⟨_, rfl⟩
  rw [← hX] at bx k0 hsz
  have HSZ := Lib.hid hsz
  have hlt : w.heap.size < X.heap.size := by omega
  clear hsz
  go_enter Try.func7, Try.ntmps7
  go_wp2_with fail
  rw [← hX, ← HSZ.out]
  clear hX
  refine (HM.out (some ⟨X.heap.size, 0, none⟩) _ 2 ((Ints.new .i64 X 3 [7, 8] _ rfl).more (by simp))).mono ?_
  rintro e w1 ⟨rfl, hb⟩
  have hb := ((Keep.refl X).alloc _).trans hb
  have bx := bx.below hb hlt
  have hlt : w.heap.size < w1.heap.size := Nat.lt_of_lt_of_le hlt hb.size
  have k0 := k0.trans hb
  clear hb
  go_wp2_with fail
  refine (HF.out _).mono ?_
  rintro e w2 ⟨rfl, hb⟩
  have bx := bx.below hb hlt
  have hlt : w.heap.size < w2.heap.size := Nat.lt_of_lt_of_le hlt hb.size
  have k0 := k0.trans hb
  obtain ⟨c0, c1, c2, c3, c4, c5⟩ := bx
  simp only at c0 c1 c2 c3 c4 c5
  clear hb
  go_wp2_with fail
  refine (HK.out _ 1 _ (by decide) E5.out).mono ?_
  rintro e w3 ⟨rfl, hb⟩
  have bx : Boxed w.heap.size ⟨3, 100, 2, 0, 0, []⟩ none 0 0 w3 := Boxed.below ⟨c0, c1, c2, c3, c4, c5⟩ hb hlt
  have hlt : w.heap.size < w3.heap.size := Nat.lt_of_lt_of_le hlt hb.size
  have k0 := k0.trans hb
  clear c0 c1 c2 c3 c4 c5 hb
  obtain ⟨c0, c1, c2, c3, c4, c5⟩ := bx
  simp only at c0 c1 c2 c3 c4 c5
  go_wp2_with fail
  refine (HK.out _ 2 _ (by decide) E6.out).mono ?_
  rintro e w4 ⟨rfl, hb⟩
  have bx : Boxed w.heap.size ⟨3, 100, 2, 0, 0, []⟩ none 0 0 w4 := Boxed.below ⟨c0, c1, c2, c3, c4, c5⟩ hb hlt
  have k0 := k0.trans hb
  clear c0 c1 c2 c3 c4 c5 hb
  obtain ⟨c0, c1, c2, c3, c4, c5⟩ := bx
  simp only at c0 c1 c2 c3 c4 c5
  go_wp2_with fail
  refine (HK.out _ 0 _ (by decide) E7.out).mono ?_
  rintro e w5 ⟨rfl, hb⟩
  have k0 := k0.trans hb
  go_wp2
  go_ret
  exact ⟨rfl, k0⟩

theorem data_len (a : AskP) (s : ByteArray) : (Rp.data a s).length ≤ 8 * s.size := by
  have hsub : (Ak.sub s 2).size ≤ s.size := by rw [Ak.sub, st_size, List.length_drop, bl_length]; omega
  have h1 := Co.get_len8 (Ak.sub s 2) a.ct
  have h2 := Tw.getAll_len (Ak.sub s 2)
  unfold Rp.data Rp.part
  repeat' (first | (simp; done) | omega | split)
set_option maxHeartbeats 2000000 in
theorem tells_ask (A D : Option Addr) (n c m d : Nat) (a : AskP) (l : List Int) (s : ByteArray) (w : World) (hn : n ≤ maxLen) (hm : m ≤ maxLen) (hA : Ints .i64 w w.heap.size A n a.vs) (hD : Ints .i64 w w.heap.size D m l) (hs : s.size ≤ maxLen) :
    Calls Try.prog 3 #[.agg #[.int .i64 a.fc, .int .i64 a.rd, .int .i64 a.ct, .int .i64 a.wr, .int .i64 a.mn, .slice A n c], .slice D m d, .string s] w fun e w' => e = .returned (.bool true) ∧ Keep w w' := by
  unfold maxLen at hn hm hs
  by_cases hn : 3000 < n
  · have dn : decide ((3000 : Int) < (n : Int)) = true := by simp; omega
    obtain ⟨X, hX⟩ : ∃ X, X = w.alloc (.cells #[.int .i64 a.fc, .int .i64 a.rd, .int .i64 a.ct, .int .i64 a.wr, .int .i64 a.mn, .slice A n c] 24) := ⟨_, rfl⟩
    have k0 : Keep w X := by rw [hX]; exact (Keep.refl w).alloc _
    have hbX : Boxed w.heap.size a A n c X := by rw [hX]; exact Boxed.new w a A n c 24
    have hltX : w.heap.size < X.heap.size := by rw [hX]; simp
    have HXB := Lib.hid (show ∀ W, Keep X W → Boxed w.heap.size a A n c W from fun W h => hbX.below h hltX)
    have kx := Keep.refl X
    obtain ⟨c0, c1, c2, c3, c4, c5⟩ := hbX
    go_enter Try.func3, Try.ntmps3
    go_wp2_with fail
    rw [← hX]
    refine (awake_any _).mono ?_
    rintro e w1 ⟨rfl, hb⟩
    go_wp2
    go_ret
    exact ⟨rfl, k0.trans hb⟩
  have dn : decide ((3000 : Int) < (n : Int)) = false := by simp; omega
  by_cases hm : 3000 < m
  · have dm : decide ((3000 : Int) < (m : Int)) = true := by simp; omega
    obtain ⟨X, hX⟩ : ∃ X, X = w.alloc (.cells #[.int .i64 a.fc, .int .i64 a.rd, .int .i64 a.ct, .int .i64 a.wr, .int .i64 a.mn, .slice A n c] 24) := ⟨_, rfl⟩
    have k0 : Keep w X := by rw [hX]; exact (Keep.refl w).alloc _
    have hbX : Boxed w.heap.size a A n c X := by rw [hX]; exact Boxed.new w a A n c 24
    have hltX : w.heap.size < X.heap.size := by rw [hX]; simp
    have HXB := Lib.hid (show ∀ W, Keep X W → Boxed w.heap.size a A n c W from fun W h => hbX.below h hltX)
    have kx := Keep.refl X
    obtain ⟨c0, c1, c2, c3, c4, c5⟩ := hbX
    go_enter Try.func3, Try.ntmps3
    go_wp2_with fail
    rw [← hX]
    refine (awake_any _).mono ?_
    rintro e w1 ⟨rfl, hb⟩
    go_wp2
    go_ret
    exact ⟨rfl, k0.trans hb⟩
  have dm : decide ((3000 : Int) < (m : Int)) = false := by simp; omega
  by_cases hs : 300 < s.size
  · have ds : decide ((300 : Int) < (s.size : Int)) = true := by simp; omega
    obtain ⟨X, hX⟩ : ∃ X, X = w.alloc (.cells #[.int .i64 a.fc, .int .i64 a.rd, .int .i64 a.ct, .int .i64 a.wr, .int .i64 a.mn, .slice A n c] 24) := ⟨_, rfl⟩
    have k0 : Keep w X := by rw [hX]; exact (Keep.refl w).alloc _
    have hbX : Boxed w.heap.size a A n c X := by rw [hX]; exact Boxed.new w a A n c 24
    have hltX : w.heap.size < X.heap.size := by rw [hX]; simp
    have HXB := Lib.hid (show ∀ W, Keep X W → Boxed w.heap.size a A n c W from fun W h => hbX.below h hltX)
    have kx := Keep.refl X
    obtain ⟨c0, c1, c2, c3, c4, c5⟩ := hbX
    go_enter Try.func3, Try.ntmps3
    go_wp2_with fail
    rw [← hX]
    refine (awake_any _).mono ?_
    rintro e w1 ⟨rfl, hb⟩
    go_wp2
    go_ret
    exact ⟨rfl, k0.trans hb⟩
  have ds : decide ((300 : Int) < (s.size : Int)) = false := by simp; omega
  obtain ⟨X, hX⟩ : ∃ X, X = w.alloc (.cells #[.int .i64 a.fc, .int .i64 a.rd, .int .i64 a.ct, .int .i64 a.wr, .int .i64 a.mn, .slice A n c] 24) := ⟨_, rfl⟩
  have k0 : Keep w X := by rw [hX]; exact (Keep.refl w).alloc _
  have hbX : Boxed w.heap.size a A n c X := by rw [hX]; exact Boxed.new w a A n c 24
  have hltX : w.heap.size < X.heap.size := by rw [hX]; simp
  have HXB := Lib.hid (show ∀ W, Keep X W → Boxed w.heap.size a A n c W from fun W h => hbX.below h hltX)
  have kx := Keep.refl X
  obtain ⟨c0, c1, c2, c3, c4, c5⟩ := hbX
  obtain ⟨q, hq⟩ : ∃ q, q = st (Rp.make a l) := ⟨_, rfl⟩
  obtain ⟨ok, hok⟩ : ∃ b, b = Rp.ok a l := ⟨_, rfl⟩
  obtain ⟨nm, hnm⟩ : ∃ b, b = Rp.norm a s := ⟨_, rfl⟩
  obtain ⟨kd, hkd⟩ : ∃ b, b = Rp.kind a s := ⟨_, rfl⟩
  have D1 := Lib.hid (show ∀ W, Keep X W → Calls Try.prog 8 #[.agg #[.int .i64 a.fc, .int .i64 a.rd, .int .i64 a.ct, .int .i64 a.wr, .int .i64 a.mn, .slice A n c], .slice D m d] W fun e w' => e = .returned (.tuple #[.string q, .bool ok]) ∧ Keep W w' from fun W h => by
    rw [hq, hok]; exact make_any A D n c m d a l W (by omega) (by omega) (hA.kept (k0.trans h)) (hD.kept (k0.trans h)))
  have D2 := Lib.hid (show ∀ W, Keep X W → Calls Try.prog 9 #[.agg #[.int .i64 a.fc, .int .i64 a.rd, .int .i64 a.ct, .int .i64 a.wr, .int .i64 a.mn, .slice A n c], .slice D m d] W fun e w' => e = .returned (.tuple #[.string q, .bool ok]) ∧ Keep W w' from fun W h => by
    rw [hq, hok]; exact Ref7.make_any A D n c m d a l W (by omega) (by omega) (hA.kept (k0.trans h)) (hD.kept (k0.trans h)))
  have D3 := Lib.hid (show ∀ W, Keep X W → Calls Try.prog 10 #[.agg #[.int .i64 a.fc, .int .i64 a.rd, .int .i64 a.ct, .int .i64 a.wr, .int .i64 a.mn, .slice A n c], .string s] W (RetInts (Rp.data a s) nm W) from fun W h => by
    rw [hnm]; exact data_any A n c a s W (by omega) (by omega) (hA.kept (k0.trans h)))
  have D4 := Lib.hid (show ∀ W, Keep X W → Calls Try.prog 11 #[.agg #[.int .i64 a.fc, .int .i64 a.rd, .int .i64 a.ct, .int .i64 a.wr, .int .i64 a.mn, .slice A n c], .string s] W (RetInts (Rp.data a s) nm W) from fun W h => by
    rw [hnm]; exact Ref7.data_any A n c a s W (by omega) (by omega) (hA.kept (k0.trans h)))
  have D5 := Lib.hid (show ∀ W, Keep X W → Calls Try.prog 12 #[.agg #[.int .i64 a.fc, .int .i64 a.rd, .int .i64 a.ct, .int .i64 a.wr, .int .i64 a.mn, .slice A n c], .string s] W fun e w' => e = .returned (.int .i64 kd) ∧ Keep W w' from fun W h => by
    rw [hkd]; exact kind_any A n c a s W (by omega) (by omega) (hA.kept (k0.trans h)))
  have D6 := Lib.hid (show ∀ W, Keep X W → Calls Try.prog 13 #[.agg #[.int .i64 a.fc, .int .i64 a.rd, .int .i64 a.ct, .int .i64 a.wr, .int .i64 a.mn, .slice A n c], .string s] W fun e w' => e = .returned (.int .i64 kd) ∧ Keep W w' from fun W h => by
    rw [hkd]; exact Ref7.kind_any A n c a s W (by omega) (by omega) (hA.kept (k0.trans h)))
  have hdl : (Rp.data a s).length ≤ 8 * s.size := data_len a s
  clear hq hok hnm hkd hA hD
  go_enter Try.func3, Try.ntmps3
  go_wp2_with fail
  rw [← hX]
  clear hX hltX
  refine (D1.out _ kx).mono ?_
  rintro e w1 ⟨rfl, h1⟩
  replace kx := kx.trans h1
  replace k0 := k0.trans h1
  clear h1 c0 c1 c2 c3 c4 c5
  obtain ⟨c0, c1, c2, c3, c4, c5⟩ := HXB.out _ kx
  go_wp2_with fail
  refine (D2.out _ kx).mono ?_
  rintro e w2 ⟨rfl, h2⟩
  replace kx := kx.trans h2
  replace k0 := k0.trans h2
  clear h2 c0 c1 c2 c3 c4 c5
  obtain ⟨c0, c1, c2, c3, c4, c5⟩ := HXB.out _ kx
  go_wp2_with fail
  refine (D3.out _ kx).mono ?_
  rintro e w3 ⟨A1, n1, c1', rfl, I1, h3⟩
  replace h3 : Keep w2 w3 := h3
  replace kx := kx.trans h3
  replace k0 := k0.trans h3
  clear h3 c0 c1 c2 c3 c4 c5
  obtain ⟨c0, c1, c2, c3, c4, c5⟩ := HXB.out _ kx
  go_wp2_with fail
  refine (D4.out _ kx).mono ?_
  rintro e w4 ⟨A2, n2, c2', rfl, I2, h4⟩
  replace h4 : Keep w3 w4 := h4
  replace I1 := I1.kept h4
  replace kx := kx.trans h4
  replace k0 := k0.trans h4
  clear h4 c0 c1 c2 c3 c4 c5
  obtain ⟨c0, c1, c2, c3, c4, c5⟩ := HXB.out _ kx
  have hn1 : n1 ≤ 1000000 := by have := I1.1; omega
  go_wp2
  have hk : ∀ p : KeptOf w4, Boxed w.heap.size a A n c p.w := fun p => HXB.out _ (kx.trans p.h)
  have hk0 : ∀ p : KeptOf w4, p.w.cell? ⟨w.heap.size, 0, none⟩ = some (.int .i64 a.fc) := fun p => (hk p).1
  have hk1 : ∀ p : KeptOf w4, p.w.cell? ⟨w.heap.size, 1, none⟩ = some (.int .i64 a.rd) := fun p => (hk p).2.1
  have hk2 : ∀ p : KeptOf w4, p.w.cell? ⟨w.heap.size, 2, none⟩ = some (.int .i64 a.ct) := fun p => (hk p).2.2.1
  have hk3 : ∀ p : KeptOf w4, p.w.cell? ⟨w.heap.size, 3, none⟩ = some (.int .i64 a.wr) := fun p => (hk p).2.2.2.1
  have hk4 : ∀ p : KeptOf w4, p.w.cell? ⟨w.heap.size, 4, none⟩ = some (.int .i64 a.mn) := fun p => (hk p).2.2.2.2.1
  have hk5 : ∀ p : KeptOf w4, p.w.cell? ⟨w.heap.size, 5, none⟩ = some (.slice A n c) := fun p => (hk p).2.2.2.2.2
  clear hk c0 c1 c2 c3 c4 c5
  have hAw : ∀ p : KeptOf w4, Calls Try.prog 7 #[] p.w fun e w' => e = .returned (.bool true) ∧ Keep p.w w' := fun p => awake_any p.w
  have hD5 : ∀ p : KeptOf w4, Calls Try.prog 12 #[.agg #[.int .i64 a.fc, .int .i64 a.rd, .int .i64 a.ct, .int .i64 a.wr, .int .i64 a.mn, .slice A n c], .string s] p.w fun e w' => e = .returned (.int .i64 kd) ∧ Keep p.w w' := fun p => D5.out _ (kx.trans p.h)
  have hD6 : ∀ p : KeptOf w4, Calls Try.prog 13 #[.agg #[.int .i64 a.fc, .int .i64 a.rd, .int .i64 a.ct, .int .i64 a.wr, .int .i64 a.mn, .slice A n c], .string s] p.w fun e w' => e = .returned (.int .i64 kd) ∧ Keep p.w w' := fun p => D6.out _ (kx.trans p.h)
  have hI : ∀ p : KeptOf w4, Calls Try.prog 14 #[.slice A1 n1 c1', .slice A2 n2 c2'] p.w fun e w' => e = .returned (.bool true) ∧ Keep p.w w' := fun p => by
    have h := Ref1.ints_any A1 A2 n1 n2 c1' c2' _ _ p.w hn1 (I1.kept p.h) (I2.kept p.h)
    rw [beq_self_eq_true] at h
    exact h.mono fun e w' h => ⟨h.1, h.2.keep⟩
  refine wp_region_kept (by kernel_rfl) (by kernel_rfl) ?_
  repeat (go_big_quiet_step (first | with_reducible exact KeptOf.of (hAw _) | with_reducible exact KeptOf.of (hD5 _) | with_reducible exact KeptOf.of (hD6 _) | with_reducible exact KeptOf.of (hI _)))
  refine Go.wpQuiet_nil ?_
  intro _ hw'
  obtain ⟨⟨V, hw⟩, hw''⟩ := hw'
  subst hw''
  go_wp2
  go_ret
  exact ⟨rfl, k0.trans hw⟩
end Go.Proofs.Ytbccplmhcocgeaa.Reply
