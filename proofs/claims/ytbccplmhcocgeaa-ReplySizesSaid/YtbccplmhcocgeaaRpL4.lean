/- Layer 7's laws: ReplySizes. Conditions: none beyond the laws' own. -/
import Derived.Test.YtbccplmhcocgeaaRpL
namespace Go.Proofs.Ytbccplmhcocgeaa.Reply
set_option linter.unusedVariables false
open Go.ChangeShapes Go.WideShapes Go.ChangeAt Go.RowKit
open Ref6 (ret_bool ret_int Boxed)

set_option maxHeartbeats 4000000 in
theorem sizes_any (A D : Option Addr) (n c m d : Nat) (a : AskP) (l : List Int) (w : World) (hn : n ≤ maxLen) (hm : m ≤ maxLen) (hA : Ints .i64 w w.heap.size A n a.vs) (hD : Ints .i64 w w.heap.size D m l) :
    Calls Try.prog 6 #[.agg #[.int .i64 a.fc, .int .i64 a.rd, .int .i64 a.ct, .int .i64 a.wr, .int .i64 a.mn, .slice A n c], .slice D m d] w fun e w' => e = .returned (.bool true) ∧ Keep w w' := by
  unfold maxLen at hn hm
  by_cases hn : 3000 < n
  · have dn : decide ((3000 : Int) < (n : Int)) = true := by simp; omega
    obtain ⟨X, hX⟩ : ∃ X, X = w.alloc (.cells #[.int .i64 a.fc, .int .i64 a.rd, .int .i64 a.ct, .int .i64 a.wr, .int .i64 a.mn, .slice A n c] 24) := ⟨_, rfl⟩
    have k0 : Keep w X := by rw [hX]; exact (Keep.refl w).alloc _
    have hbX : Boxed w.heap.size a A n c X := by rw [hX]; exact Boxed.new w a A n c 24
    have hltX : w.heap.size < X.heap.size := by rw [hX]; simp
    have HXB := Lib.hid (show ∀ W, Keep X W → Boxed w.heap.size a A n c W from fun W h => hbX.below h hltX)
    have kx := Keep.refl X
    obtain ⟨c0, c1, c2, c3, c4, c5⟩ := hbX
    go_enter Try.func6, Try.ntmps6
    go_wp2_with fail
    rw [← hX]
    refine (awake_any _).mono ?_
    rintro e w1 ⟨rfl, hb⟩
    go_wp2
    go_ret
    exact ⟨rfl, k0.trans hb⟩
  have dn : decide ((3000 : Int) < (n : Int)) = false := by simp; omega
  by_cases hm : 3000 < m
  · have dm : decide ((3000 : Int) < (m : Int)) = true := by simp; omega
    obtain ⟨X, hX⟩ : ∃ X, X = w.alloc (.cells #[.int .i64 a.fc, .int .i64 a.rd, .int .i64 a.ct, .int .i64 a.wr, .int .i64 a.mn, .slice A n c] 24) := ⟨_, rfl⟩
    have k0 : Keep w X := by rw [hX]; exact (Keep.refl w).alloc _
    have hbX : Boxed w.heap.size a A n c X := by rw [hX]; exact Boxed.new w a A n c 24
    have hltX : w.heap.size < X.heap.size := by rw [hX]; simp
    have HXB := Lib.hid (show ∀ W, Keep X W → Boxed w.heap.size a A n c W from fun W h => hbX.below h hltX)
    have kx := Keep.refl X
    obtain ⟨c0, c1, c2, c3, c4, c5⟩ := hbX
    go_enter Try.func6, Try.ntmps6
    go_wp2_with fail
    rw [← hX]
    refine (awake_any _).mono ?_
    rintro e w1 ⟨rfl, hb⟩
    go_wp2
    go_ret
    exact ⟨rfl, k0.trans hb⟩
  have dm : decide ((3000 : Int) < (m : Int)) = false := by simp; omega
  obtain ⟨q, hq⟩ : ∃ q, q = st (Rp.make a l) := ⟨_, rfl⟩
  have HQ := Lib.hid hq
  cases hok : Rp.ok a l
  · have HOK := Lib.hid hok
    obtain rfl : q = ⟨#[]⟩ := by rw [hq, Rp.make_not hok]; rfl
    clear hq hok
    obtain ⟨X, hX⟩ : ∃ X, X = w.alloc (.cells #[.int .i64 a.fc, .int .i64 a.rd, .int .i64 a.ct, .int .i64 a.wr, .int .i64 a.mn, .slice A n c] 24) := ⟨_, rfl⟩
    have k0 : Keep w X := by rw [hX]; exact (Keep.refl w).alloc _
    have hbX : Boxed w.heap.size a A n c X := by rw [hX]; exact Boxed.new w a A n c 24
    have hltX : w.heap.size < X.heap.size := by rw [hX]; simp
    have HXB := Lib.hid (show ∀ W, Keep X W → Boxed w.heap.size a A n c W from fun W h => hbX.below h hltX)
    have kx := Keep.refl X
    obtain ⟨c0, c1, c2, c3, c4, c5⟩ := hbX
    have hAX := hA.kept k0
    have hDX := hD.kept k0
    go_enter Try.func6, Try.ntmps6
    go_wp2_with fail
    rw [← hX]
    clear hX hltX hA hD
    refine (make_any A D n c m d a l _ (by omega) (by omega) (hAX.kept kx) (hDX.kept kx)).mono ?_
    rintro e w1 ⟨rfl, h1⟩
    rw [← HQ.out, HOK.out]
    replace kx := kx.trans h1
    replace k0 := k0.trans h1
    clear h1 c0 c1 c2 c3 c4 c5
    obtain ⟨c0, c1, c2, c3, c4, c5⟩ := HXB.out _ kx
    go_wp2_with fail
    refine (awake_any _).mono ?_
    rintro e w2 ⟨rfl, h2⟩
    go_wp2
    go_ret
    exact ⟨rfl, k0.trans h2⟩
  have HOK := Lib.hid hok
  have hr := (Rp.ok_right hok).1
  have HZ := Lib.hid (show (q.size : Int) = Rp.sizeOf a by rw [hq, Rp.make_ok hok, st_size]; exact (Rp.raw_size hok).1)
  have hq0 : 0 < q.size := by rw [hq, Rp.make_ok hok, st_size]; have := (Rp.raw_size hok).2.2; omega
  have hx : ∀ W : World, (Instr.index 9 (.string q) (.int .i64 0)).run Try.prog W = .ok (.int .u8 a.fc) W := by
    have hh : byteAt q 0 = a.fc := by
      obtain ⟨t, e⟩ := Rp.raw_cons a l
      have hfc := Rp.right_fc hr
      rw [hq, Rp.make_ok hok, e, Ak.byteAt_head, Ak.ofNat_int _ (by omega) (by omega)]
    rw [← hh]
    exact idx (P := Try.prog) (k := .i64) q 0 Try.underlying9 (by omega) (by omega)
  have hfc1 : 0 ≤ a.fc := by have := Rp.right_fc hr; omega
  have hfc2 : a.fc ≤ 255 := by have := Rp.right_fc hr; omega
  have hct := Rp.reads_cases hr
  have hct1 : 0 ≤ a.ct := by omega
  have hct2 : a.ct ≤ 2000 := by omega
  have hcases : a.fc = 1 ∨ a.fc = 2 ∨ a.fc = 3 ∨ a.fc = 4 ∨ a.fc = 5 ∨ a.fc = 6 ∨ a.fc = 15 ∨ a.fc = 16 ∨ a.fc = 22 ∨ a.fc = 23 := by omega
  clear hct hq hok hr
  rcases hcases with e | e | e | e | e | e | e | e | e | e
  · skip
    have e1 : (a.fc == 1) = true := by rw [e]; decide
    have hqs : (q.size : Int) = 2 + (a.ct + 7) / 8 := by rw [HZ.out, Rp.sizeOf, e]; simp
    have hqe : ((q.size : Int) == 2 + (a.ct + 7) / 8) = true := by rw [hqs]; simp
    have HQSZ := Lib.hid hqs
    clear e hqs
    obtain ⟨X, hX⟩ : ∃ X, X = w.alloc (.cells #[.int .i64 a.fc, .int .i64 a.rd, .int .i64 a.ct, .int .i64 a.wr, .int .i64 a.mn, .slice A n c] 24) := ⟨_, rfl⟩
    have k0 : Keep w X := by rw [hX]; exact (Keep.refl w).alloc _
    have hbX : Boxed w.heap.size a A n c X := by rw [hX]; exact Boxed.new w a A n c 24
    have hltX : w.heap.size < X.heap.size := by rw [hX]; simp
    have HXB := Lib.hid (show ∀ W, Keep X W → Boxed w.heap.size a A n c W from fun W h => hbX.below h hltX)
    have kx := Keep.refl X
    obtain ⟨c0, c1, c2, c3, c4, c5⟩ := hbX
    have hAX := hA.kept k0
    have hDX := hD.kept k0
    go_enter Try.func6, Try.ntmps6
    go_wp2_with fail
    rw [← hX]
    clear hX hltX hA hD
    refine (make_any A D n c m d a l _ (by omega) (by omega) (hAX.kept kx) (hDX.kept kx)).mono ?_
    rintro e w1 ⟨rfl, h1⟩
    rw [← HQ.out, HOK.out]
    replace kx := kx.trans h1
    replace k0 := k0.trans h1
    clear h1 c0 c1 c2 c3 c4 c5
    obtain ⟨c0, c1, c2, c3, c4, c5⟩ := HXB.out _ kx
    go_wp2
    have hk : ∀ p : KeptOf w1, Boxed w.heap.size a A n c p.w := fun p => HXB.out _ (kx.trans p.h)
    have hk0 : ∀ p : KeptOf w1, p.w.cell? ⟨w.heap.size, 0, none⟩ = some (.int .i64 a.fc) := fun p => (hk p).1
    have hk1 : ∀ p : KeptOf w1, p.w.cell? ⟨w.heap.size, 1, none⟩ = some (.int .i64 a.rd) := fun p => (hk p).2.1
    have hk2 : ∀ p : KeptOf w1, p.w.cell? ⟨w.heap.size, 2, none⟩ = some (.int .i64 a.ct) := fun p => (hk p).2.2.1
    have hk3 : ∀ p : KeptOf w1, p.w.cell? ⟨w.heap.size, 3, none⟩ = some (.int .i64 a.wr) := fun p => (hk p).2.2.2.1
    have hk4 : ∀ p : KeptOf w1, p.w.cell? ⟨w.heap.size, 4, none⟩ = some (.int .i64 a.mn) := fun p => (hk p).2.2.2.2.1
    have hk5 : ∀ p : KeptOf w1, p.w.cell? ⟨w.heap.size, 5, none⟩ = some (.slice A n c) := fun p => (hk p).2.2.2.2.2
    clear hk c0 c1 c2 c3 c4 c5
    have hAw : ∀ p : KeptOf w1, Calls Try.prog 7 #[] p.w fun e w' => e = .returned (.bool true) ∧ Keep p.w w' := fun p => awake_any p.w
    refine wp_region_kept (by kernel_rfl) (by kernel_rfl) ?_
    repeat (go_big_quiet_step (first | with_reducible exact KeptOf.of (hAw _)))
    refine Go.wpQuiet_nil ?_
    intro _ hw'
    obtain ⟨⟨V, hw⟩, hw''⟩ := hw'
    subst hw''
    go_wp2
    go_ret
    exact ⟨rfl, k0.trans hw⟩
  · skip
    have e1 : (a.fc == 1) = false := by rw [e]; decide
    have e2 : (a.fc == 2) = true := by rw [e]; decide
    have hqs : (q.size : Int) = 2 + (a.ct + 7) / 8 := by rw [HZ.out, Rp.sizeOf, e]; simp
    have hqe : ((q.size : Int) == 2 + (a.ct + 7) / 8) = true := by rw [hqs]; simp
    have HQSZ := Lib.hid hqs
    clear e hqs
    obtain ⟨X, hX⟩ : ∃ X, X = w.alloc (.cells #[.int .i64 a.fc, .int .i64 a.rd, .int .i64 a.ct, .int .i64 a.wr, .int .i64 a.mn, .slice A n c] 24) := ⟨_, rfl⟩
    have k0 : Keep w X := by rw [hX]; exact (Keep.refl w).alloc _
    have hbX : Boxed w.heap.size a A n c X := by rw [hX]; exact Boxed.new w a A n c 24
    have hltX : w.heap.size < X.heap.size := by rw [hX]; simp
    have HXB := Lib.hid (show ∀ W, Keep X W → Boxed w.heap.size a A n c W from fun W h => hbX.below h hltX)
    have kx := Keep.refl X
    obtain ⟨c0, c1, c2, c3, c4, c5⟩ := hbX
    have hAX := hA.kept k0
    have hDX := hD.kept k0
    go_enter Try.func6, Try.ntmps6
    go_wp2_with fail
    rw [← hX]
    clear hX hltX hA hD
    refine (make_any A D n c m d a l _ (by omega) (by omega) (hAX.kept kx) (hDX.kept kx)).mono ?_
    rintro e w1 ⟨rfl, h1⟩
    rw [← HQ.out, HOK.out]
    replace kx := kx.trans h1
    replace k0 := k0.trans h1
    clear h1 c0 c1 c2 c3 c4 c5
    obtain ⟨c0, c1, c2, c3, c4, c5⟩ := HXB.out _ kx
    go_wp2
    have hk : ∀ p : KeptOf w1, Boxed w.heap.size a A n c p.w := fun p => HXB.out _ (kx.trans p.h)
    have hk0 : ∀ p : KeptOf w1, p.w.cell? ⟨w.heap.size, 0, none⟩ = some (.int .i64 a.fc) := fun p => (hk p).1
    have hk1 : ∀ p : KeptOf w1, p.w.cell? ⟨w.heap.size, 1, none⟩ = some (.int .i64 a.rd) := fun p => (hk p).2.1
    have hk2 : ∀ p : KeptOf w1, p.w.cell? ⟨w.heap.size, 2, none⟩ = some (.int .i64 a.ct) := fun p => (hk p).2.2.1
    have hk3 : ∀ p : KeptOf w1, p.w.cell? ⟨w.heap.size, 3, none⟩ = some (.int .i64 a.wr) := fun p => (hk p).2.2.2.1
    have hk4 : ∀ p : KeptOf w1, p.w.cell? ⟨w.heap.size, 4, none⟩ = some (.int .i64 a.mn) := fun p => (hk p).2.2.2.2.1
    have hk5 : ∀ p : KeptOf w1, p.w.cell? ⟨w.heap.size, 5, none⟩ = some (.slice A n c) := fun p => (hk p).2.2.2.2.2
    clear hk c0 c1 c2 c3 c4 c5
    have hAw : ∀ p : KeptOf w1, Calls Try.prog 7 #[] p.w fun e w' => e = .returned (.bool true) ∧ Keep p.w w' := fun p => awake_any p.w
    refine wp_region_kept (by kernel_rfl) (by kernel_rfl) ?_
    repeat (go_big_quiet_step (first | with_reducible exact KeptOf.of (hAw _)))
    refine Go.wpQuiet_nil ?_
    intro _ hw'
    obtain ⟨⟨V, hw⟩, hw''⟩ := hw'
    subst hw''
    go_wp2
    go_ret
    exact ⟨rfl, k0.trans hw⟩
  · skip
    have e1 : (a.fc == 1) = false := by rw [e]; decide
    have e2 : (a.fc == 2) = false := by rw [e]; decide
    have e3 : (a.fc == 3) = true := by rw [e]; decide
    have hqs : (q.size : Int) = 2 + 2 * a.ct := by rw [HZ.out, Rp.sizeOf, e]; simp
    have hqe : ((q.size : Int) == 2 + 2 * a.ct) = true := by rw [hqs]; simp
    have HQSZ := Lib.hid hqs
    clear e hqs
    obtain ⟨X, hX⟩ : ∃ X, X = w.alloc (.cells #[.int .i64 a.fc, .int .i64 a.rd, .int .i64 a.ct, .int .i64 a.wr, .int .i64 a.mn, .slice A n c] 24) := ⟨_, rfl⟩
    have k0 : Keep w X := by rw [hX]; exact (Keep.refl w).alloc _
    have hbX : Boxed w.heap.size a A n c X := by rw [hX]; exact Boxed.new w a A n c 24
    have hltX : w.heap.size < X.heap.size := by rw [hX]; simp
    have HXB := Lib.hid (show ∀ W, Keep X W → Boxed w.heap.size a A n c W from fun W h => hbX.below h hltX)
    have kx := Keep.refl X
    obtain ⟨c0, c1, c2, c3, c4, c5⟩ := hbX
    have hAX := hA.kept k0
    have hDX := hD.kept k0
    go_enter Try.func6, Try.ntmps6
    go_wp2_with fail
    rw [← hX]
    clear hX hltX hA hD
    refine (make_any A D n c m d a l _ (by omega) (by omega) (hAX.kept kx) (hDX.kept kx)).mono ?_
    rintro e w1 ⟨rfl, h1⟩
    rw [← HQ.out, HOK.out]
    replace kx := kx.trans h1
    replace k0 := k0.trans h1
    clear h1 c0 c1 c2 c3 c4 c5
    obtain ⟨c0, c1, c2, c3, c4, c5⟩ := HXB.out _ kx
    go_wp2
    have hk : ∀ p : KeptOf w1, Boxed w.heap.size a A n c p.w := fun p => HXB.out _ (kx.trans p.h)
    have hk0 : ∀ p : KeptOf w1, p.w.cell? ⟨w.heap.size, 0, none⟩ = some (.int .i64 a.fc) := fun p => (hk p).1
    have hk1 : ∀ p : KeptOf w1, p.w.cell? ⟨w.heap.size, 1, none⟩ = some (.int .i64 a.rd) := fun p => (hk p).2.1
    have hk2 : ∀ p : KeptOf w1, p.w.cell? ⟨w.heap.size, 2, none⟩ = some (.int .i64 a.ct) := fun p => (hk p).2.2.1
    have hk3 : ∀ p : KeptOf w1, p.w.cell? ⟨w.heap.size, 3, none⟩ = some (.int .i64 a.wr) := fun p => (hk p).2.2.2.1
    have hk4 : ∀ p : KeptOf w1, p.w.cell? ⟨w.heap.size, 4, none⟩ = some (.int .i64 a.mn) := fun p => (hk p).2.2.2.2.1
    have hk5 : ∀ p : KeptOf w1, p.w.cell? ⟨w.heap.size, 5, none⟩ = some (.slice A n c) := fun p => (hk p).2.2.2.2.2
    clear hk c0 c1 c2 c3 c4 c5
    have hAw : ∀ p : KeptOf w1, Calls Try.prog 7 #[] p.w fun e w' => e = .returned (.bool true) ∧ Keep p.w w' := fun p => awake_any p.w
    refine wp_region_kept (by kernel_rfl) (by kernel_rfl) ?_
    repeat (go_big_quiet_step (first | with_reducible exact KeptOf.of (hAw _)))
    refine Go.wpQuiet_nil ?_
    intro _ hw'
    obtain ⟨⟨V, hw⟩, hw''⟩ := hw'
    subst hw''
    go_wp2
    go_ret
    exact ⟨rfl, k0.trans hw⟩
  · skip
    have e1 : (a.fc == 1) = false := by rw [e]; decide
    have e2 : (a.fc == 2) = false := by rw [e]; decide
    have e3 : (a.fc == 3) = false := by rw [e]; decide
    have e4 : (a.fc == 4) = true := by rw [e]; decide
    have hqs : (q.size : Int) = 2 + 2 * a.ct := by rw [HZ.out, Rp.sizeOf, e]; simp
    have hqe : ((q.size : Int) == 2 + 2 * a.ct) = true := by rw [hqs]; simp
    have HQSZ := Lib.hid hqs
    clear e hqs
    obtain ⟨X, hX⟩ : ∃ X, X = w.alloc (.cells #[.int .i64 a.fc, .int .i64 a.rd, .int .i64 a.ct, .int .i64 a.wr, .int .i64 a.mn, .slice A n c] 24) := ⟨_, rfl⟩
    have k0 : Keep w X := by rw [hX]; exact (Keep.refl w).alloc _
    have hbX : Boxed w.heap.size a A n c X := by rw [hX]; exact Boxed.new w a A n c 24
    have hltX : w.heap.size < X.heap.size := by rw [hX]; simp
    have HXB := Lib.hid (show ∀ W, Keep X W → Boxed w.heap.size a A n c W from fun W h => hbX.below h hltX)
    have kx := Keep.refl X
    obtain ⟨c0, c1, c2, c3, c4, c5⟩ := hbX
    have hAX := hA.kept k0
    have hDX := hD.kept k0
    go_enter Try.func6, Try.ntmps6
    go_wp2_with fail
    rw [← hX]
    clear hX hltX hA hD
    refine (make_any A D n c m d a l _ (by omega) (by omega) (hAX.kept kx) (hDX.kept kx)).mono ?_
    rintro e w1 ⟨rfl, h1⟩
    rw [← HQ.out, HOK.out]
    replace kx := kx.trans h1
    replace k0 := k0.trans h1
    clear h1 c0 c1 c2 c3 c4 c5
    obtain ⟨c0, c1, c2, c3, c4, c5⟩ := HXB.out _ kx
    go_wp2
    have hk : ∀ p : KeptOf w1, Boxed w.heap.size a A n c p.w := fun p => HXB.out _ (kx.trans p.h)
    have hk0 : ∀ p : KeptOf w1, p.w.cell? ⟨w.heap.size, 0, none⟩ = some (.int .i64 a.fc) := fun p => (hk p).1
    have hk1 : ∀ p : KeptOf w1, p.w.cell? ⟨w.heap.size, 1, none⟩ = some (.int .i64 a.rd) := fun p => (hk p).2.1
    have hk2 : ∀ p : KeptOf w1, p.w.cell? ⟨w.heap.size, 2, none⟩ = some (.int .i64 a.ct) := fun p => (hk p).2.2.1
    have hk3 : ∀ p : KeptOf w1, p.w.cell? ⟨w.heap.size, 3, none⟩ = some (.int .i64 a.wr) := fun p => (hk p).2.2.2.1
    have hk4 : ∀ p : KeptOf w1, p.w.cell? ⟨w.heap.size, 4, none⟩ = some (.int .i64 a.mn) := fun p => (hk p).2.2.2.2.1
    have hk5 : ∀ p : KeptOf w1, p.w.cell? ⟨w.heap.size, 5, none⟩ = some (.slice A n c) := fun p => (hk p).2.2.2.2.2
    clear hk c0 c1 c2 c3 c4 c5
    have hAw : ∀ p : KeptOf w1, Calls Try.prog 7 #[] p.w fun e w' => e = .returned (.bool true) ∧ Keep p.w w' := fun p => awake_any p.w
    refine wp_region_kept (by kernel_rfl) (by kernel_rfl) ?_
    repeat (go_big_quiet_step (first | with_reducible exact KeptOf.of (hAw _)))
    refine Go.wpQuiet_nil ?_
    intro _ hw'
    obtain ⟨⟨V, hw⟩, hw''⟩ := hw'
    subst hw''
    go_wp2
    go_ret
    exact ⟨rfl, k0.trans hw⟩
  · skip
    have e1 : (a.fc == 1) = false := by rw [e]; decide
    have e2 : (a.fc == 2) = false := by rw [e]; decide
    have e3 : (a.fc == 3) = false := by rw [e]; decide
    have e4 : (a.fc == 4) = false := by rw [e]; decide
    have e23 : (a.fc == 23) = false := by rw [e]; decide
    have e22 : (a.fc == 22) = false := by rw [e]; decide
    have hqs : (q.size : Int) = 5 := by rw [HZ.out, Rp.sizeOf, e]; simp
    have hqe : ((q.size : Int) == 5) = true := by rw [hqs]; simp
    have HQSZ := Lib.hid hqs
    clear e hqs
    obtain ⟨X, hX⟩ : ∃ X, X = w.alloc (.cells #[.int .i64 a.fc, .int .i64 a.rd, .int .i64 a.ct, .int .i64 a.wr, .int .i64 a.mn, .slice A n c] 24) := ⟨_, rfl⟩
    have k0 : Keep w X := by rw [hX]; exact (Keep.refl w).alloc _
    have hbX : Boxed w.heap.size a A n c X := by rw [hX]; exact Boxed.new w a A n c 24
    have hltX : w.heap.size < X.heap.size := by rw [hX]; simp
    have HXB := Lib.hid (show ∀ W, Keep X W → Boxed w.heap.size a A n c W from fun W h => hbX.below h hltX)
    have kx := Keep.refl X
    obtain ⟨c0, c1, c2, c3, c4, c5⟩ := hbX
    have hAX := hA.kept k0
    have hDX := hD.kept k0
    go_enter Try.func6, Try.ntmps6
    go_wp2_with fail
    rw [← hX]
    clear hX hltX hA hD
    refine (make_any A D n c m d a l _ (by omega) (by omega) (hAX.kept kx) (hDX.kept kx)).mono ?_
    rintro e w1 ⟨rfl, h1⟩
    rw [← HQ.out, HOK.out]
    replace kx := kx.trans h1
    replace k0 := k0.trans h1
    clear h1 c0 c1 c2 c3 c4 c5
    obtain ⟨c0, c1, c2, c3, c4, c5⟩ := HXB.out _ kx
    go_wp2
    have hk : ∀ p : KeptOf w1, Boxed w.heap.size a A n c p.w := fun p => HXB.out _ (kx.trans p.h)
    have hk0 : ∀ p : KeptOf w1, p.w.cell? ⟨w.heap.size, 0, none⟩ = some (.int .i64 a.fc) := fun p => (hk p).1
    have hk1 : ∀ p : KeptOf w1, p.w.cell? ⟨w.heap.size, 1, none⟩ = some (.int .i64 a.rd) := fun p => (hk p).2.1
    have hk2 : ∀ p : KeptOf w1, p.w.cell? ⟨w.heap.size, 2, none⟩ = some (.int .i64 a.ct) := fun p => (hk p).2.2.1
    have hk3 : ∀ p : KeptOf w1, p.w.cell? ⟨w.heap.size, 3, none⟩ = some (.int .i64 a.wr) := fun p => (hk p).2.2.2.1
    have hk4 : ∀ p : KeptOf w1, p.w.cell? ⟨w.heap.size, 4, none⟩ = some (.int .i64 a.mn) := fun p => (hk p).2.2.2.2.1
    have hk5 : ∀ p : KeptOf w1, p.w.cell? ⟨w.heap.size, 5, none⟩ = some (.slice A n c) := fun p => (hk p).2.2.2.2.2
    clear hk c0 c1 c2 c3 c4 c5
    have hAw : ∀ p : KeptOf w1, Calls Try.prog 7 #[] p.w fun e w' => e = .returned (.bool true) ∧ Keep p.w w' := fun p => awake_any p.w
    refine wp_region_kept (by kernel_rfl) (by kernel_rfl) ?_
    repeat (go_big_quiet_step (first | with_reducible exact KeptOf.of (hAw _)))
    refine Go.wpQuiet_nil ?_
    intro _ hw'
    obtain ⟨⟨V, hw⟩, hw''⟩ := hw'
    subst hw''
    go_wp2
    go_ret
    exact ⟨rfl, k0.trans hw⟩
  · skip
    have e1 : (a.fc == 1) = false := by rw [e]; decide
    have e2 : (a.fc == 2) = false := by rw [e]; decide
    have e3 : (a.fc == 3) = false := by rw [e]; decide
    have e4 : (a.fc == 4) = false := by rw [e]; decide
    have e23 : (a.fc == 23) = false := by rw [e]; decide
    have e22 : (a.fc == 22) = false := by rw [e]; decide
    have hqs : (q.size : Int) = 5 := by rw [HZ.out, Rp.sizeOf, e]; simp
    have hqe : ((q.size : Int) == 5) = true := by rw [hqs]; simp
    have HQSZ := Lib.hid hqs
    clear e hqs
    obtain ⟨X, hX⟩ : ∃ X, X = w.alloc (.cells #[.int .i64 a.fc, .int .i64 a.rd, .int .i64 a.ct, .int .i64 a.wr, .int .i64 a.mn, .slice A n c] 24) := ⟨_, rfl⟩
    have k0 : Keep w X := by rw [hX]; exact (Keep.refl w).alloc _
    have hbX : Boxed w.heap.size a A n c X := by rw [hX]; exact Boxed.new w a A n c 24
    have hltX : w.heap.size < X.heap.size := by rw [hX]; simp
    have HXB := Lib.hid (show ∀ W, Keep X W → Boxed w.heap.size a A n c W from fun W h => hbX.below h hltX)
    have kx := Keep.refl X
    obtain ⟨c0, c1, c2, c3, c4, c5⟩ := hbX
    have hAX := hA.kept k0
    have hDX := hD.kept k0
    go_enter Try.func6, Try.ntmps6
    go_wp2_with fail
    rw [← hX]
    clear hX hltX hA hD
    refine (make_any A D n c m d a l _ (by omega) (by omega) (hAX.kept kx) (hDX.kept kx)).mono ?_
    rintro e w1 ⟨rfl, h1⟩
    rw [← HQ.out, HOK.out]
    replace kx := kx.trans h1
    replace k0 := k0.trans h1
    clear h1 c0 c1 c2 c3 c4 c5
    obtain ⟨c0, c1, c2, c3, c4, c5⟩ := HXB.out _ kx
    go_wp2
    have hk : ∀ p : KeptOf w1, Boxed w.heap.size a A n c p.w := fun p => HXB.out _ (kx.trans p.h)
    have hk0 : ∀ p : KeptOf w1, p.w.cell? ⟨w.heap.size, 0, none⟩ = some (.int .i64 a.fc) := fun p => (hk p).1
    have hk1 : ∀ p : KeptOf w1, p.w.cell? ⟨w.heap.size, 1, none⟩ = some (.int .i64 a.rd) := fun p => (hk p).2.1
    have hk2 : ∀ p : KeptOf w1, p.w.cell? ⟨w.heap.size, 2, none⟩ = some (.int .i64 a.ct) := fun p => (hk p).2.2.1
    have hk3 : ∀ p : KeptOf w1, p.w.cell? ⟨w.heap.size, 3, none⟩ = some (.int .i64 a.wr) := fun p => (hk p).2.2.2.1
    have hk4 : ∀ p : KeptOf w1, p.w.cell? ⟨w.heap.size, 4, none⟩ = some (.int .i64 a.mn) := fun p => (hk p).2.2.2.2.1
    have hk5 : ∀ p : KeptOf w1, p.w.cell? ⟨w.heap.size, 5, none⟩ = some (.slice A n c) := fun p => (hk p).2.2.2.2.2
    clear hk c0 c1 c2 c3 c4 c5
    have hAw : ∀ p : KeptOf w1, Calls Try.prog 7 #[] p.w fun e w' => e = .returned (.bool true) ∧ Keep p.w w' := fun p => awake_any p.w
    refine wp_region_kept (by kernel_rfl) (by kernel_rfl) ?_
    repeat (go_big_quiet_step (first | with_reducible exact KeptOf.of (hAw _)))
    refine Go.wpQuiet_nil ?_
    intro _ hw'
    obtain ⟨⟨V, hw⟩, hw''⟩ := hw'
    subst hw''
    go_wp2
    go_ret
    exact ⟨rfl, k0.trans hw⟩
  · skip
    have e1 : (a.fc == 1) = false := by rw [e]; decide
    have e2 : (a.fc == 2) = false := by rw [e]; decide
    have e3 : (a.fc == 3) = false := by rw [e]; decide
    have e4 : (a.fc == 4) = false := by rw [e]; decide
    have e23 : (a.fc == 23) = false := by rw [e]; decide
    have e22 : (a.fc == 22) = false := by rw [e]; decide
    have hqs : (q.size : Int) = 5 := by rw [HZ.out, Rp.sizeOf, e]; simp
    have hqe : ((q.size : Int) == 5) = true := by rw [hqs]; simp
    have HQSZ := Lib.hid hqs
    clear e hqs
    obtain ⟨X, hX⟩ : ∃ X, X = w.alloc (.cells #[.int .i64 a.fc, .int .i64 a.rd, .int .i64 a.ct, .int .i64 a.wr, .int .i64 a.mn, .slice A n c] 24) := ⟨_, rfl⟩
    have k0 : Keep w X := by rw [hX]; exact (Keep.refl w).alloc _
    have hbX : Boxed w.heap.size a A n c X := by rw [hX]; exact Boxed.new w a A n c 24
    have hltX : w.heap.size < X.heap.size := by rw [hX]; simp
    have HXB := Lib.hid (show ∀ W, Keep X W → Boxed w.heap.size a A n c W from fun W h => hbX.below h hltX)
    have kx := Keep.refl X
    obtain ⟨c0, c1, c2, c3, c4, c5⟩ := hbX
    have hAX := hA.kept k0
    have hDX := hD.kept k0
    go_enter Try.func6, Try.ntmps6
    go_wp2_with fail
    rw [← hX]
    clear hX hltX hA hD
    refine (make_any A D n c m d a l _ (by omega) (by omega) (hAX.kept kx) (hDX.kept kx)).mono ?_
    rintro e w1 ⟨rfl, h1⟩
    rw [← HQ.out, HOK.out]
    replace kx := kx.trans h1
    replace k0 := k0.trans h1
    clear h1 c0 c1 c2 c3 c4 c5
    obtain ⟨c0, c1, c2, c3, c4, c5⟩ := HXB.out _ kx
    go_wp2
    have hk : ∀ p : KeptOf w1, Boxed w.heap.size a A n c p.w := fun p => HXB.out _ (kx.trans p.h)
    have hk0 : ∀ p : KeptOf w1, p.w.cell? ⟨w.heap.size, 0, none⟩ = some (.int .i64 a.fc) := fun p => (hk p).1
    have hk1 : ∀ p : KeptOf w1, p.w.cell? ⟨w.heap.size, 1, none⟩ = some (.int .i64 a.rd) := fun p => (hk p).2.1
    have hk2 : ∀ p : KeptOf w1, p.w.cell? ⟨w.heap.size, 2, none⟩ = some (.int .i64 a.ct) := fun p => (hk p).2.2.1
    have hk3 : ∀ p : KeptOf w1, p.w.cell? ⟨w.heap.size, 3, none⟩ = some (.int .i64 a.wr) := fun p => (hk p).2.2.2.1
    have hk4 : ∀ p : KeptOf w1, p.w.cell? ⟨w.heap.size, 4, none⟩ = some (.int .i64 a.mn) := fun p => (hk p).2.2.2.2.1
    have hk5 : ∀ p : KeptOf w1, p.w.cell? ⟨w.heap.size, 5, none⟩ = some (.slice A n c) := fun p => (hk p).2.2.2.2.2
    clear hk c0 c1 c2 c3 c4 c5
    have hAw : ∀ p : KeptOf w1, Calls Try.prog 7 #[] p.w fun e w' => e = .returned (.bool true) ∧ Keep p.w w' := fun p => awake_any p.w
    refine wp_region_kept (by kernel_rfl) (by kernel_rfl) ?_
    repeat (go_big_quiet_step (first | with_reducible exact KeptOf.of (hAw _)))
    refine Go.wpQuiet_nil ?_
    intro _ hw'
    obtain ⟨⟨V, hw⟩, hw''⟩ := hw'
    subst hw''
    go_wp2
    go_ret
    exact ⟨rfl, k0.trans hw⟩
  · skip
    have e1 : (a.fc == 1) = false := by rw [e]; decide
    have e2 : (a.fc == 2) = false := by rw [e]; decide
    have e3 : (a.fc == 3) = false := by rw [e]; decide
    have e4 : (a.fc == 4) = false := by rw [e]; decide
    have e23 : (a.fc == 23) = false := by rw [e]; decide
    have e22 : (a.fc == 22) = false := by rw [e]; decide
    have hqs : (q.size : Int) = 5 := by rw [HZ.out, Rp.sizeOf, e]; simp
    have hqe : ((q.size : Int) == 5) = true := by rw [hqs]; simp
    have HQSZ := Lib.hid hqs
    clear e hqs
    obtain ⟨X, hX⟩ : ∃ X, X = w.alloc (.cells #[.int .i64 a.fc, .int .i64 a.rd, .int .i64 a.ct, .int .i64 a.wr, .int .i64 a.mn, .slice A n c] 24) := ⟨_, rfl⟩
    have k0 : Keep w X := by rw [hX]; exact (Keep.refl w).alloc _
    have hbX : Boxed w.heap.size a A n c X := by rw [hX]; exact Boxed.new w a A n c 24
    have hltX : w.heap.size < X.heap.size := by rw [hX]; simp
    have HXB := Lib.hid (show ∀ W, Keep X W → Boxed w.heap.size a A n c W from fun W h => hbX.below h hltX)
    have kx := Keep.refl X
    obtain ⟨c0, c1, c2, c3, c4, c5⟩ := hbX
    have hAX := hA.kept k0
    have hDX := hD.kept k0
    go_enter Try.func6, Try.ntmps6
    go_wp2_with fail
    rw [← hX]
    clear hX hltX hA hD
    refine (make_any A D n c m d a l _ (by omega) (by omega) (hAX.kept kx) (hDX.kept kx)).mono ?_
    rintro e w1 ⟨rfl, h1⟩
    rw [← HQ.out, HOK.out]
    replace kx := kx.trans h1
    replace k0 := k0.trans h1
    clear h1 c0 c1 c2 c3 c4 c5
    obtain ⟨c0, c1, c2, c3, c4, c5⟩ := HXB.out _ kx
    go_wp2
    have hk : ∀ p : KeptOf w1, Boxed w.heap.size a A n c p.w := fun p => HXB.out _ (kx.trans p.h)
    have hk0 : ∀ p : KeptOf w1, p.w.cell? ⟨w.heap.size, 0, none⟩ = some (.int .i64 a.fc) := fun p => (hk p).1
    have hk1 : ∀ p : KeptOf w1, p.w.cell? ⟨w.heap.size, 1, none⟩ = some (.int .i64 a.rd) := fun p => (hk p).2.1
    have hk2 : ∀ p : KeptOf w1, p.w.cell? ⟨w.heap.size, 2, none⟩ = some (.int .i64 a.ct) := fun p => (hk p).2.2.1
    have hk3 : ∀ p : KeptOf w1, p.w.cell? ⟨w.heap.size, 3, none⟩ = some (.int .i64 a.wr) := fun p => (hk p).2.2.2.1
    have hk4 : ∀ p : KeptOf w1, p.w.cell? ⟨w.heap.size, 4, none⟩ = some (.int .i64 a.mn) := fun p => (hk p).2.2.2.2.1
    have hk5 : ∀ p : KeptOf w1, p.w.cell? ⟨w.heap.size, 5, none⟩ = some (.slice A n c) := fun p => (hk p).2.2.2.2.2
    clear hk c0 c1 c2 c3 c4 c5
    have hAw : ∀ p : KeptOf w1, Calls Try.prog 7 #[] p.w fun e w' => e = .returned (.bool true) ∧ Keep p.w w' := fun p => awake_any p.w
    refine wp_region_kept (by kernel_rfl) (by kernel_rfl) ?_
    repeat (go_big_quiet_step (first | with_reducible exact KeptOf.of (hAw _)))
    refine Go.wpQuiet_nil ?_
    intro _ hw'
    obtain ⟨⟨V, hw⟩, hw''⟩ := hw'
    subst hw''
    go_wp2
    go_ret
    exact ⟨rfl, k0.trans hw⟩
  · skip
    have e1 : (a.fc == 1) = false := by rw [e]; decide
    have e2 : (a.fc == 2) = false := by rw [e]; decide
    have e3 : (a.fc == 3) = false := by rw [e]; decide
    have e4 : (a.fc == 4) = false := by rw [e]; decide
    have e23 : (a.fc == 23) = false := by rw [e]; decide
    have e22 : (a.fc == 22) = true := by rw [e]; decide
    have hqs : (q.size : Int) = 7 := by rw [HZ.out, Rp.sizeOf, e]; simp
    have hqe : ((q.size : Int) == 7) = true := by rw [hqs]; simp
    have HQSZ := Lib.hid hqs
    clear e hqs
    obtain ⟨X, hX⟩ : ∃ X, X = w.alloc (.cells #[.int .i64 a.fc, .int .i64 a.rd, .int .i64 a.ct, .int .i64 a.wr, .int .i64 a.mn, .slice A n c] 24) := ⟨_, rfl⟩
    have k0 : Keep w X := by rw [hX]; exact (Keep.refl w).alloc _
    have hbX : Boxed w.heap.size a A n c X := by rw [hX]; exact Boxed.new w a A n c 24
    have hltX : w.heap.size < X.heap.size := by rw [hX]; simp
    have HXB := Lib.hid (show ∀ W, Keep X W → Boxed w.heap.size a A n c W from fun W h => hbX.below h hltX)
    have kx := Keep.refl X
    obtain ⟨c0, c1, c2, c3, c4, c5⟩ := hbX
    have hAX := hA.kept k0
    have hDX := hD.kept k0
    go_enter Try.func6, Try.ntmps6
    go_wp2_with fail
    rw [← hX]
    clear hX hltX hA hD
    refine (make_any A D n c m d a l _ (by omega) (by omega) (hAX.kept kx) (hDX.kept kx)).mono ?_
    rintro e w1 ⟨rfl, h1⟩
    rw [← HQ.out, HOK.out]
    replace kx := kx.trans h1
    replace k0 := k0.trans h1
    clear h1 c0 c1 c2 c3 c4 c5
    obtain ⟨c0, c1, c2, c3, c4, c5⟩ := HXB.out _ kx
    go_wp2
    have hk : ∀ p : KeptOf w1, Boxed w.heap.size a A n c p.w := fun p => HXB.out _ (kx.trans p.h)
    have hk0 : ∀ p : KeptOf w1, p.w.cell? ⟨w.heap.size, 0, none⟩ = some (.int .i64 a.fc) := fun p => (hk p).1
    have hk1 : ∀ p : KeptOf w1, p.w.cell? ⟨w.heap.size, 1, none⟩ = some (.int .i64 a.rd) := fun p => (hk p).2.1
    have hk2 : ∀ p : KeptOf w1, p.w.cell? ⟨w.heap.size, 2, none⟩ = some (.int .i64 a.ct) := fun p => (hk p).2.2.1
    have hk3 : ∀ p : KeptOf w1, p.w.cell? ⟨w.heap.size, 3, none⟩ = some (.int .i64 a.wr) := fun p => (hk p).2.2.2.1
    have hk4 : ∀ p : KeptOf w1, p.w.cell? ⟨w.heap.size, 4, none⟩ = some (.int .i64 a.mn) := fun p => (hk p).2.2.2.2.1
    have hk5 : ∀ p : KeptOf w1, p.w.cell? ⟨w.heap.size, 5, none⟩ = some (.slice A n c) := fun p => (hk p).2.2.2.2.2
    clear hk c0 c1 c2 c3 c4 c5
    have hAw : ∀ p : KeptOf w1, Calls Try.prog 7 #[] p.w fun e w' => e = .returned (.bool true) ∧ Keep p.w w' := fun p => awake_any p.w
    refine wp_region_kept (by kernel_rfl) (by kernel_rfl) ?_
    repeat (go_big_quiet_step (first | with_reducible exact KeptOf.of (hAw _)))
    refine Go.wpQuiet_nil ?_
    intro _ hw'
    obtain ⟨⟨V, hw⟩, hw''⟩ := hw'
    subst hw''
    go_wp2
    go_ret
    exact ⟨rfl, k0.trans hw⟩
  · skip
    have e1 : (a.fc == 1) = false := by rw [e]; decide
    have e2 : (a.fc == 2) = false := by rw [e]; decide
    have e3 : (a.fc == 3) = false := by rw [e]; decide
    have e4 : (a.fc == 4) = false := by rw [e]; decide
    have e23 : (a.fc == 23) = true := by rw [e]; decide
    have hqs : (q.size : Int) = 2 + 2 * a.ct := by rw [HZ.out, Rp.sizeOf, e]; simp
    have hqe : ((q.size : Int) == 2 + 2 * a.ct) = true := by rw [hqs]; simp
    have HQSZ := Lib.hid hqs
    clear e hqs
    obtain ⟨X, hX⟩ : ∃ X, X = w.alloc (.cells #[.int .i64 a.fc, .int .i64 a.rd, .int .i64 a.ct, .int .i64 a.wr, .int .i64 a.mn, .slice A n c] 24) := ⟨_, rfl⟩
    have k0 : Keep w X := by rw [hX]; exact (Keep.refl w).alloc _
    have hbX : Boxed w.heap.size a A n c X := by rw [hX]; exact Boxed.new w a A n c 24
    have hltX : w.heap.size < X.heap.size := by rw [hX]; simp
    have HXB := Lib.hid (show ∀ W, Keep X W → Boxed w.heap.size a A n c W from fun W h => hbX.below h hltX)
    have kx := Keep.refl X
    obtain ⟨c0, c1, c2, c3, c4, c5⟩ := hbX
    have hAX := hA.kept k0
    have hDX := hD.kept k0
    go_enter Try.func6, Try.ntmps6
    go_wp2_with fail
    rw [← hX]
    clear hX hltX hA hD
    refine (make_any A D n c m d a l _ (by omega) (by omega) (hAX.kept kx) (hDX.kept kx)).mono ?_
    rintro e w1 ⟨rfl, h1⟩
    rw [← HQ.out, HOK.out]
    replace kx := kx.trans h1
    replace k0 := k0.trans h1
    clear h1 c0 c1 c2 c3 c4 c5
    obtain ⟨c0, c1, c2, c3, c4, c5⟩ := HXB.out _ kx
    go_wp2
    have hk : ∀ p : KeptOf w1, Boxed w.heap.size a A n c p.w := fun p => HXB.out _ (kx.trans p.h)
    have hk0 : ∀ p : KeptOf w1, p.w.cell? ⟨w.heap.size, 0, none⟩ = some (.int .i64 a.fc) := fun p => (hk p).1
    have hk1 : ∀ p : KeptOf w1, p.w.cell? ⟨w.heap.size, 1, none⟩ = some (.int .i64 a.rd) := fun p => (hk p).2.1
    have hk2 : ∀ p : KeptOf w1, p.w.cell? ⟨w.heap.size, 2, none⟩ = some (.int .i64 a.ct) := fun p => (hk p).2.2.1
    have hk3 : ∀ p : KeptOf w1, p.w.cell? ⟨w.heap.size, 3, none⟩ = some (.int .i64 a.wr) := fun p => (hk p).2.2.2.1
    have hk4 : ∀ p : KeptOf w1, p.w.cell? ⟨w.heap.size, 4, none⟩ = some (.int .i64 a.mn) := fun p => (hk p).2.2.2.2.1
    have hk5 : ∀ p : KeptOf w1, p.w.cell? ⟨w.heap.size, 5, none⟩ = some (.slice A n c) := fun p => (hk p).2.2.2.2.2
    clear hk c0 c1 c2 c3 c4 c5
    have hAw : ∀ p : KeptOf w1, Calls Try.prog 7 #[] p.w fun e w' => e = .returned (.bool true) ∧ Keep p.w w' := fun p => awake_any p.w
    refine wp_region_kept (by kernel_rfl) (by kernel_rfl) ?_
    repeat (go_big_quiet_step (first | with_reducible exact KeptOf.of (hAw _)))
    refine Go.wpQuiet_nil ?_
    intro _ hw'
    obtain ⟨⟨V, hw⟩, hw''⟩ := hw'
    subst hw''
    go_wp2
    go_ret
    exact ⟨rfl, k0.trans hw⟩
end Go.Proofs.Ytbccplmhcocgeaa.Reply
