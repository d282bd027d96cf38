/- Layer 7's laws: ReplyFaults. Conditions: none beyond the laws' own. -/
import Derived.Test.YtbccplmhcocgeaaRpL
namespace Go.Proofs.Ytbccplmhcocgeaa.Reply
set_option linter.unusedVariables false
open Go.ChangeShapes Go.WideShapes Go.ChangeAt Go.RowKit
open Ref6 (ret_bool ret_int Boxed)

set_option maxHeartbeats 2000000 in
theorem faults_any (fc cd : Int) (A : Option Addr) (n c : Nat) (a : AskP) (w : World) (hn : n ≤ maxLen) (hA : Ints .i64 w w.heap.size A n a.vs) :
    Calls Try.prog 4 #[.int .i64 fc, .int .i64 cd, .agg #[.int .i64 a.fc, .int .i64 a.rd, .int .i64 a.ct, .int .i64 a.wr, .int .i64 a.mn, .slice A n c]] w fun e w' => e = .returned (.bool true) ∧ Keep w w' := by
  unfold maxLen at hn
  by_cases hn : 3000 < n
  · have dn : decide ((3000 : Int) < (n : Int)) = true := by simp; omega
    obtain ⟨X, hX⟩ : ∃ X, X = w.alloc (.cells #[.int .i64 a.fc, .int .i64 a.rd, .int .i64 a.ct, .int .i64 a.wr, .int .i64 a.mn, .slice A n c] 24) := ⟨_, rfl⟩
    have k0 : Keep w X := by rw [hX]; exact (Keep.refl w).alloc _
    have hbX : Boxed w.heap.size a A n c X := by rw [hX]; exact Boxed.new w a A n c 24
    have hltX : w.heap.size < X.heap.size := by rw [hX]; simp
    have HXB := Lib.hid (show ∀ W, Keep X W → Boxed w.heap.size a A n c W from fun W h => hbX.below h hltX)
    have kx := Keep.refl X
    obtain ⟨c0, c1, c2, c3, c4, c5⟩ := hbX
    go_enter Try.func4, Try.ntmps4
    go_wp2_with fail
    rw [← hX]
    refine (awake_any _).mono ?_
    rintro e w1 ⟨rfl, hb⟩
    go_wp2
    go_ret
    exact ⟨rfl, k0.trans hb⟩
  have dn : decide ((3000 : Int) < (n : Int)) = false := by simp; omega
  obtain ⟨t, ht⟩ : ∃ t, t = st (Rp.fault fc cd) := ⟨_, rfl⟩
  obtain ⟨ok, hok⟩ : ∃ b, b = Rp.faultOk fc cd := ⟨_, rfl⟩
  have D1 := Lib.hid (show ∀ W, Calls Try.prog 15 #[.int .i64 fc, .int .i64 cd] W fun e w' => e = .returned (.tuple #[.string t, .bool ok]) ∧ Keep W w' from fun W => by
    rw [ht, hok]; exact fault_any fc cd W)
  have D2 := Lib.hid (show ∀ W, Calls Try.prog 16 #[.int .i64 fc, .int .i64 cd] W fun e w' => e = .returned (.tuple #[.string t, .bool ok]) ∧ Keep W w' from fun W => by
    rw [ht, hok]; exact Ref7.fault_any fc cd W)
  have HT := Lib.hid (show t.size ≤ 100000 by rw [ht, st_size, Rp.fault]; split <;> simp)
  have HFK := Lib.hid (show ok = true → Ak.right a = true → (Rp.kind a t == 2) = (a.fc == fc) from fun h hr => by rw [ht]; exact Rp.fault_kind hr (by rw [← hok]; exact h))
  clear ht hok
  cases ok
  · skip
    obtain ⟨X, hX⟩ : ∃ X, X = w.alloc (.cells #[.int .i64 a.fc, .int .i64 a.rd, .int .i64 a.ct, .int .i64 a.wr, .int .i64 a.mn, .slice A n c] 24) := ⟨_, rfl⟩
    have k0 : Keep w X := by rw [hX]; exact (Keep.refl w).alloc _
    have hbX : Boxed w.heap.size a A n c X := by rw [hX]; exact Boxed.new w a A n c 24
    have hltX : w.heap.size < X.heap.size := by rw [hX]; simp
    have HXB := Lib.hid (show ∀ W, Keep X W → Boxed w.heap.size a A n c W from fun W h => hbX.below h hltX)
    have kx := Keep.refl X
    obtain ⟨c0, c1, c2, c3, c4, c5⟩ := hbX
    have hAX := hA.kept k0
    go_enter Try.func4, Try.ntmps4
    go_wp2_with fail
    rw [← hX]
    clear hX hltX hA
    refine (D1.out _).mono ?_
    rintro e w1 ⟨rfl, h1⟩
    replace kx := kx.trans h1
    replace k0 := k0.trans h1
    clear h1 c0 c1 c2 c3 c4 c5
    obtain ⟨c0, c1, c2, c3, c4, c5⟩ := HXB.out _ kx
    go_wp2_with fail
    refine (D2.out _).mono ?_
    rintro e w2 ⟨rfl, h2⟩
    replace kx := kx.trans h2
    replace k0 := k0.trans h2
    clear h2 c0 c1 c2 c3 c4 c5
    obtain ⟨c0, c1, c2, c3, c4, c5⟩ := HXB.out _ kx
    go_wp2_with fail
    refine (code_any cd _).mono ?_
    rintro e w3 ⟨rfl, h3⟩
    replace kx := kx.trans h3
    replace k0 := k0.trans h3
    clear h3 c0 c1 c2 c3 c4 c5
    obtain ⟨c0, c1, c2, c3, c4, c5⟩ := HXB.out _ kx
    go_wp2_with fail
    refine (Ref7.code_any cd _).mono ?_
    rintro e wx ⟨rfl, rfl⟩
    go_wp2
    have hk : ∀ p : KeptOf w3, Boxed w.heap.size a A n c p.w := fun p => HXB.out _ (kx.trans p.h)
    have hk0 : ∀ p : KeptOf w3, p.w.cell? ⟨w.heap.size, 0, none⟩ = some (.int .i64 a.fc) := fun p => (hk p).1
    have hk1 : ∀ p : KeptOf w3, p.w.cell? ⟨w.heap.size, 1, none⟩ = some (.int .i64 a.rd) := fun p => (hk p).2.1
    have hk2 : ∀ p : KeptOf w3, p.w.cell? ⟨w.heap.size, 2, none⟩ = some (.int .i64 a.ct) := fun p => (hk p).2.2.1
    have hk3 : ∀ p : KeptOf w3, p.w.cell? ⟨w.heap.size, 3, none⟩ = some (.int .i64 a.wr) := fun p => (hk p).2.2.2.1
    have hk4 : ∀ p : KeptOf w3, p.w.cell? ⟨w.heap.size, 4, none⟩ = some (.int .i64 a.mn) := fun p => (hk p).2.2.2.2.1
    have hk5 : ∀ p : KeptOf w3, p.w.cell? ⟨w.heap.size, 5, none⟩ = some (.slice A n c) := fun p => (hk p).2.2.2.2.2
    clear hk c0 c1 c2 c3 c4 c5
    have hAw : ∀ p : KeptOf w3, Calls Try.prog 7 #[] p.w fun e w' => e = .returned (.bool true) ∧ Keep p.w w' := fun p => awake_any p.w
    refine wp_region_kept (by kernel_rfl) (by kernel_rfl) ?_
    repeat (go_big_quiet_step (first | with_reducible exact KeptOf.of (hAw _)))
    refine Go.wpQuiet_nil ?_
    intro _ hw'
    obtain ⟨⟨V, hw⟩, hw''⟩ := hw'
    subst hw''
    go_wp2
    go_ret
    exact ⟨rfl, k0.trans hw⟩
  cases hr : Ak.right a
  · have HR := Lib.hid hr
    clear hr
    obtain ⟨X, hX⟩ : ∃ X, X = w.alloc (.cells #[.int .i64 a.fc, .int .i64 a.rd, .int .i64 a.ct, .int .i64 a.wr, .int .i64 a.mn, .slice A n c] 24) := ⟨_, rfl⟩
    have k0 : Keep w X := by rw [hX]; exact (Keep.refl w).alloc _
    have hbX : Boxed w.heap.size a A n c X := by rw [hX]; exact Boxed.new w a A n c 24
    have hltX : w.heap.size < X.heap.size := by rw [hX]; simp
    have HXB := Lib.hid (show ∀ W, Keep X W → Boxed w.heap.size a A n c W from fun W h => hbX.below h hltX)
    have kx := Keep.refl X
    obtain ⟨c0, c1, c2, c3, c4, c5⟩ := hbX
    have hAX := hA.kept k0
    go_enter Try.func4, Try.ntmps4
    go_wp2_with fail
    rw [← hX]
    clear hX hltX hA
    refine (D1.out _).mono ?_
    rintro e w1 ⟨rfl, h1⟩
    replace kx := kx.trans h1
    replace k0 := k0.trans h1
    clear h1 c0 c1 c2 c3 c4 c5
    obtain ⟨c0, c1, c2, c3, c4, c5⟩ := HXB.out _ kx
    go_wp2_with fail
    refine (D2.out _).mono ?_
    rintro e w2 ⟨rfl, h2⟩
    replace kx := kx.trans h2
    replace k0 := k0.trans h2
    clear h2 c0 c1 c2 c3 c4 c5
    obtain ⟨c0, c1, c2, c3, c4, c5⟩ := HXB.out _ kx
    go_wp2_with fail
    refine (code_any cd _).mono ?_
    rintro e w3 ⟨rfl, h3⟩
    replace kx := kx.trans h3
    replace k0 := k0.trans h3
    clear h3 c0 c1 c2 c3 c4 c5
    obtain ⟨c0, c1, c2, c3, c4, c5⟩ := HXB.out _ kx
    go_wp2_with fail
    refine (Ref7.code_any cd _).mono ?_
    rintro e wx ⟨rfl, rfl⟩
    go_wp2
    have hk : ∀ p : KeptOf w3, Boxed w.heap.size a A n c p.w := fun p => HXB.out _ (kx.trans p.h)
    have hk0 : ∀ p : KeptOf w3, p.w.cell? ⟨w.heap.size, 0, none⟩ = some (.int .i64 a.fc) := fun p => (hk p).1
    have hk1 : ∀ p : KeptOf w3, p.w.cell? ⟨w.heap.size, 1, none⟩ = some (.int .i64 a.rd) := fun p => (hk p).2.1
    have hk2 : ∀ p : KeptOf w3, p.w.cell? ⟨w.heap.size, 2, none⟩ = some (.int .i64 a.ct) := fun p => (hk p).2.2.1
    have hk3 : ∀ p : KeptOf w3, p.w.cell? ⟨w.heap.size, 3, none⟩ = some (.int .i64 a.wr) := fun p => (hk p).2.2.2.1
    have hk4 : ∀ p : KeptOf w3, p.w.cell? ⟨w.heap.size, 4, none⟩ = some (.int .i64 a.mn) := fun p => (hk p).2.2.2.2.1
    have hk5 : ∀ p : KeptOf w3, p.w.cell? ⟨w.heap.size, 5, none⟩ = some (.slice A n c) := fun p => (hk p).2.2.2.2.2
    clear hk c0 c1 c2 c3 c4 c5
    have hAw : ∀ p : KeptOf w3, Calls Try.prog 7 #[] p.w fun e w' => e = .returned (.bool true) ∧ Keep p.w w' := fun p => awake_any p.w
    have hR : ∀ p : KeptOf w3, Calls Try.prog 19 #[.agg #[.int .i64 a.fc, .int .i64 a.rd, .int .i64 a.ct, .int .i64 a.wr, .int .i64 a.mn, .slice A n c]] p.w fun e w' => e = .returned (.bool false) ∧ Keep p.w w' := fun p => by
      have h := Ref6.right_any A n c a p.w (by omega) (hAX.kept (kx.trans p.h))
      rwa [HR.out] at h
    refine wp_region_kept (by kernel_rfl) (by kernel_rfl) ?_
    repeat (go_big_quiet_step (first | with_reducible exact KeptOf.of (hAw _) | with_reducible exact KeptOf.of (hR _)))
    refine Go.wpQuiet_nil ?_
    intro _ hw'
    obtain ⟨⟨V, hw⟩, hw''⟩ := hw'
    subst hw''
    go_wp2
    go_ret
    exact ⟨rfl, k0.trans hw⟩
  have hfk := HFK.out rfl hr
  have HR := Lib.hid hr
  clear hr
  obtain ⟨kd, hkd⟩ : ∃ k, k = Rp.kind a t := ⟨_, rfl⟩
  have HKD := Lib.hid hkd
  rw [← hkd] at hfk
  clear hkd HFK
  cases he : (a.fc == fc)
  · rw [he] at hfk
    obtain ⟨X, hX⟩ : ∃ X, X = w.alloc (.cells #[.int .i64 a.fc, .int .i64 a.rd, .int .i64 a.ct, .int .i64 a.wr, .int .i64 a.mn, .slice A n c] 24) := ⟨_, rfl⟩
    have k0 : Keep w X := by rw [hX]; exact (Keep.refl w).alloc _
    have hbX : Boxed w.heap.size a A n c X := by rw [hX]; exact Boxed.new w a A n c 24
    have hltX : w.heap.size < X.heap.size := by rw [hX]; simp
    have HXB := Lib.hid (show ∀ W, Keep X W → Boxed w.heap.size a A n c W from fun W h => hbX.below h hltX)
    have kx := Keep.refl X
    obtain ⟨c0, c1, c2, c3, c4, c5⟩ := hbX
    have hAX := hA.kept k0
    go_enter Try.func4, Try.ntmps4
    go_wp2_with fail
    rw [← hX]
    clear hX hltX hA
    refine (D1.out _).mono ?_
    rintro e w1 ⟨rfl, h1⟩
    replace kx := kx.trans h1
    replace k0 := k0.trans h1
    clear h1 c0 c1 c2 c3 c4 c5
    obtain ⟨c0, c1, c2, c3, c4, c5⟩ := HXB.out _ kx
    go_wp2_with fail
    refine (D2.out _).mono ?_
    rintro e w2 ⟨rfl, h2⟩
    replace kx := kx.trans h2
    replace k0 := k0.trans h2
    clear h2 c0 c1 c2 c3 c4 c5
    obtain ⟨c0, c1, c2, c3, c4, c5⟩ := HXB.out _ kx
    go_wp2_with fail
    refine (code_any cd _).mono ?_
    rintro e w3 ⟨rfl, h3⟩
    replace kx := kx.trans h3
    replace k0 := k0.trans h3
    clear h3 c0 c1 c2 c3 c4 c5
    obtain ⟨c0, c1, c2, c3, c4, c5⟩ := HXB.out _ kx
    go_wp2_with fail
    refine (Ref7.code_any cd _).mono ?_
    rintro e wx ⟨rfl, rfl⟩
    go_wp2
    have hk : ∀ p : KeptOf w3, Boxed w.heap.size a A n c p.w := fun p => HXB.out _ (kx.trans p.h)
    have hk0 : ∀ p : KeptOf w3, p.w.cell? ⟨w.heap.size, 0, none⟩ = some (.int .i64 a.fc) := fun p => (hk p).1
    have hk1 : ∀ p : KeptOf w3, p.w.cell? ⟨w.heap.size, 1, none⟩ = some (.int .i64 a.rd) := fun p => (hk p).2.1
    have hk2 : ∀ p : KeptOf w3, p.w.cell? ⟨w.heap.size, 2, none⟩ = some (.int .i64 a.ct) := fun p => (hk p).2.2.1
    have hk3 : ∀ p : KeptOf w3, p.w.cell? ⟨w.heap.size, 3, none⟩ = some (.int .i64 a.wr) := fun p => (hk p).2.2.2.1
    have hk4 : ∀ p : KeptOf w3, p.w.cell? ⟨w.heap.size, 4, none⟩ = some (.int .i64 a.mn) := fun p => (hk p).2.2.2.2.1
    have hk5 : ∀ p : KeptOf w3, p.w.cell? ⟨w.heap.size, 5, none⟩ = some (.slice A n c) := fun p => (hk p).2.2.2.2.2
    clear hk c0 c1 c2 c3 c4 c5
    have hAw : ∀ p : KeptOf w3, Calls Try.prog 7 #[] p.w fun e w' => e = .returned (.bool true) ∧ Keep p.w w' := fun p => awake_any p.w
    have hR : ∀ p : KeptOf w3, Calls Try.prog 19 #[.agg #[.int .i64 a.fc, .int .i64 a.rd, .int .i64 a.ct, .int .i64 a.wr, .int .i64 a.mn, .slice A n c]] p.w fun e w' => e = .returned (.bool true) ∧ Keep p.w w' := fun p => by
      have h := Ref6.right_any A n c a p.w (by omega) (hAX.kept (kx.trans p.h))
      rwa [HR.out] at h
    have hKd : ∀ p : KeptOf w3, Calls Try.prog 12 #[.agg #[.int .i64 a.fc, .int .i64 a.rd, .int .i64 a.ct, .int .i64 a.wr, .int .i64 a.mn, .slice A n c], .string t] p.w fun e w' => e = .returned (.int .i64 kd) ∧ Keep p.w w' := fun p => by
      rw [HKD.out]; exact kind_any A n c a t p.w (by omega) HT.out (hAX.kept (kx.trans p.h))
    refine wp_region_kept (by kernel_rfl) (by kernel_rfl) ?_
    repeat (go_big_quiet_step (first | with_reducible exact KeptOf.of (hAw _) | with_reducible exact KeptOf.of (hR _) | with_reducible exact KeptOf.of (hKd _)))
    refine Go.wpQuiet_nil ?_
    intro _ hw'
    obtain ⟨⟨V, hw⟩, hw''⟩ := hw'
    subst hw''
    go_wp2
    go_ret
    exact ⟨rfl, k0.trans hw⟩
  · rw [he] at hfk
    obtain ⟨X, hX⟩ : ∃ X, X = w.alloc (.cells #[.int .i64 a.fc, .int .i64 a.rd, .int .i64 a.ct, .int .i64 a.wr, .int .i64 a.mn, .slice A n c] 24) := ⟨_, rfl⟩
    have k0 : Keep w X := by rw [hX]; exact (Keep.refl w).alloc _
    have hbX : Boxed w.heap.size a A n c X := by rw [hX]; exact Boxed.new w a A n c 24
    have hltX : w.heap.size < X.heap.size := by rw [hX]; simp
    have HXB := Lib.hid (show ∀ W, Keep X W → Boxed w.heap.size a A n c W from fun W h => hbX.below h hltX)
    have kx := Keep.refl X
    obtain ⟨c0, c1, c2, c3, c4, c5⟩ := hbX
    have hAX := hA.kept k0
    go_enter Try.func4, Try.ntmps4
    go_wp2_with fail
    rw [← hX]
    clear hX hltX hA
    refine (D1.out _).mono ?_
    rintro e w1 ⟨rfl, h1⟩
    replace kx := kx.trans h1
    replace k0 := k0.trans h1
    clear h1 c0 c1 c2 c3 c4 c5
    obtain ⟨c0, c1, c2, c3, c4, c5⟩ := HXB.out _ kx
    go_wp2_with fail
    refine (D2.out _).mono ?_
    rintro e w2 ⟨rfl, h2⟩
    replace kx := kx.trans h2
    replace k0 := k0.trans h2
    clear h2 c0 c1 c2 c3 c4 c5
    obtain ⟨c0, c1, c2, c3, c4, c5⟩ := HXB.out _ kx
    go_wp2_with fail
    refine (code_any cd _).mono ?_
    rintro e w3 ⟨rfl, h3⟩
    replace kx := kx.trans h3
    replace k0 := k0.trans h3
    clear h3 c0 c1 c2 c3 c4 c5
    obtain ⟨c0, c1, c2, c3, c4, c5⟩ := HXB.out _ kx
    go_wp2_with fail
    refine (Ref7.code_any cd _).mono ?_
    rintro e wx ⟨rfl, rfl⟩
    go_wp2
    have hk : ∀ p : KeptOf w3, Boxed w.heap.size a A n c p.w := fun p => HXB.out _ (kx.trans p.h)
    have hk0 : ∀ p : KeptOf w3, p.w.cell? ⟨w.heap.size, 0, none⟩ = some (.int .i64 a.fc) := fun p => (hk p).1
    have hk1 : ∀ p : KeptOf w3, p.w.cell? ⟨w.heap.size, 1, none⟩ = some (.int .i64 a.rd) := fun p => (hk p).2.1
    have hk2 : ∀ p : KeptOf w3, p.w.cell? ⟨w.heap.size, 2, none⟩ = some (.int .i64 a.ct) := fun p => (hk p).2.2.1
    have hk3 : ∀ p : KeptOf w3, p.w.cell? ⟨w.heap.size, 3, none⟩ = some (.int .i64 a.wr) := fun p => (hk p).2.2.2.1
    have hk4 : ∀ p : KeptOf w3, p.w.cell? ⟨w.heap.size, 4, none⟩ = some (.int .i64 a.mn) := fun p => (hk p).2.2.2.2.1
    have hk5 : ∀ p : KeptOf w3, p.w.cell? ⟨w.heap.size, 5, none⟩ = some (.slice A n c) := fun p => (hk p).2.2.2.2.2
    clear hk c0 c1 c2 c3 c4 c5
    have hAw : ∀ p : KeptOf w3, Calls Try.prog 7 #[] p.w fun e w' => e = .returned (.bool true) ∧ Keep p.w w' := fun p => awake_any p.w
    have hR : ∀ p : KeptOf w3, Calls Try.prog 19 #[.agg #[.int .i64 a.fc, .int .i64 a.rd, .int .i64 a.ct, .int .i64 a.wr, .int .i64 a.mn, .slice A n c]] p.w fun e w' => e = .returned (.bool true) ∧ Keep p.w w' := fun p => by
      have h := Ref6.right_any A n c a p.w (by omega) (hAX.kept (kx.trans p.h))
      rwa [HR.out] at h
    have hKd : ∀ p : KeptOf w3, Calls Try.prog 12 #[.agg #[.int .i64 a.fc, .int .i64 a.rd, .int .i64 a.ct, .int .i64 a.wr, .int .i64 a.mn, .slice A n c], .string t] p.w fun e w' => e = .returned (.int .i64 kd) ∧ Keep p.w w' := fun p => by
      rw [HKD.out]; exact kind_any A n c a t p.w (by omega) HT.out (hAX.kept (kx.trans p.h))
    refine wp_region_kept (by kernel_rfl) (by kernel_rfl) ?_
    repeat (go_big_quiet_step (first | with_reducible exact KeptOf.of (hAw _) | with_reducible exact KeptOf.of (hR _) | with_reducible exact KeptOf.of (hKd _)))
    refine Go.wpQuiet_nil ?_
    intro _ hw'
    obtain ⟨⟨V, hw⟩, hw''⟩ := hw'
    subst hw''
    go_wp2
    go_ret
    exact ⟨rfl, k0.trans hw⟩
end Go.Proofs.Ytbccplmhcocgeaa.Reply
