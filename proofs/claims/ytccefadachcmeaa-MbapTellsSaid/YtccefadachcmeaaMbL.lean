/- Layer 8's laws. Conditions: none beyond the laws' own. -/
import Derived.Test.YtccefadachcmeaaMb
import Derived.Test.YtccefadachcmeaaOpen
import Derived.Laws.StructEq
namespace Go.Proofs.Ytccefadachcmeaa.Mbap
set_option linter.unusedVariables false
open Go.ChangeShapes Go.WideShapes Go.ChangeAt Go.RowKit
open Ref8 (ret_bool BoxedF RetFrame)

/-- '==' of two frames that are one. -/
theorem eqF (f : FrameP) (w : World) : (Op.equalIn 10000 23 (.agg #[.int .i64 f.id, .int .i64 f.unit, .string f.pdu]) (.agg #[.int .i64 f.id, .int .i64 f.unit, .string f.pdu])).run Try.prog w = .ok true w := by
  have u3 := Try.underlying3
  have a3 := Try.isAgg3
  have z3 := Try.sizeOf3
  have u9 := Try.underlying9
  have a9 := Try.isAgg9
  have z9 := Try.sizeOf9
  have hS : Try.prog.underlying 23 = some (.struct (Try.prog.fieldsOf 23)) := by kernel_rfl
  have hp : Try.prog.stoodInHeld 23 = false := by kernel_rfl
  rw [show (10000 : Nat) = 9999 + 1 from rfl, run_equalIn_agg w 9999 23 _ _ hS hp]
  simp only [Program.fieldsOf, Try.underlying23]
  go_simp
theorem guardF : Try.prog.eqGuardType Try.prog.depth 23 = false := by kernel_rfl
/-- A frame in a box that is there. -/
def Bx (p : Nat) (f : FrameP) (w : World) : Prop := BoxedF p f w ∧ p < w.heap.size
theorem Bx.new (w : World) (f : FrameP) (e : TypeId) : Bx w.heap.size f (w.alloc (.cells #[.int .i64 f.id, .int .i64 f.unit, .string f.pdu] e)) := ⟨BoxedF.new w f e, by simp⟩
theorem Bx.kept {p : Nat} {f : FrameP} {w w' : World} (h : Bx p f w) (hk : Keep w w') : Bx p f w' := ⟨h.1.kept hk h.2, Nat.lt_of_lt_of_le h.2 hk.size⟩

set_option maxHeartbeats 1000000 in
theorem awake_any (w : World) : Calls Try.prog 6 #[] w fun e w' => e = .returned (.bool true) ∧ Keep w w' := by
  obtain ⟨f, hf⟩ : ∃ f : FrameP, f = ⟨1, 17, ⟨#[3, 0, 100, 0, 2]⟩⟩ := ⟨_, rfl⟩
  have e1 : Mb.getErr ⟨#[0, 1, 0, 0, 0, 6, 17, 3, 0, 100, 0, 2]⟩ = 0 := by decide
  have e2 : Mb.get ⟨#[0, 1, 0, 0, 0, 6, 17, 3, 0, 100, 0, 2]⟩ = f := by rw [hf, Mb.same_iff]; decide
  have e3 : st (Mb.put f) = ⟨#[0, 1, 0, 0, 0, 6, 17, 3, 0, 100, 0, 2]⟩ := by rw [hf, show Mb.put ⟨1, 17, ⟨#[3, 0, 100, 0, 2]⟩⟩ = [0, 1, 0, 0, 0, 6, 17, 3, 0, 100, 0, 2] from by decide]; rfl
  have e4 : Mb.right f = true := by rw [hf]; decide
  have e5 : Mb.need ⟨#[0, 1, 0, 0, 0, 6]⟩ = 12 := by decide
  have e6 : Mb.needErr ⟨#[0, 1, 0, 0, 0, 6]⟩ = 0 := by decide
  have hg : ∀ W, Calls Try.prog 11 #[.string ⟨#[0, 1, 0, 0, 0, 6, 17, 3, 0, 100, 0, 2]⟩] W fun e w' => e = .returned (.tuple #[.agg #[.int .i64 f.id, .int .i64 f.unit, .string f.pdu], .int .i64 0]) ∧ Keep W w' := fun W => by
    have h := get_any ⟨#[0, 1, 0, 0, 0, 6, 17, 3, 0, 100, 0, 2]⟩ W (by decide)
    rw [e1, e2] at h
    exact h
  have hp : ∀ W, Calls Try.prog 7 #[.agg #[.int .i64 f.id, .int .i64 f.unit, .string f.pdu]] W fun e w' => e = .returned (.tuple #[.string ⟨#[0, 1, 0, 0, 0, 6, 17, 3, 0, 100, 0, 2]⟩, .bool true]) ∧ Keep W w' := fun W => by
    have h := put_any f W (by rw [hf]; decide)
    rw [e3, e4] at h
    exact h
  have hn : ∀ W, Calls Try.prog 9 #[.string ⟨#[0, 1, 0, 0, 0, 6]⟩] W fun e w' => e = .returned (.tuple #[.int .i64 12, .int .i64 0]) ∧ Keep W w' := fun W => by
    have h := need_any ⟨#[0, 1, 0, 0, 0, 6]⟩ W (by decide)
    rw [e5, e6] at h
    exact h
  have i1 : f.id = 1 := by rw [hf]
  have i2 : f.unit = 17 := by rw [hf]
  have i3 : f.pdu.size = 5 := by rw [hf]; rfl
  have HG := Lib.hid hg
  have HP := Lib.hid hp
  have HN := Lib.hid hn
  have I1 := Lib.hid i1
  have I2 := Lib.hid i2
  have I3 := Lib.hid i3
  clear hg hp hn i1 i2 i3 e1 e2 e3 e4 e5 e6 hf
  go_enter Try.func6, Try.ntmps6
  go_wp2_with fail
  refine (HG.out _).mono ?_
  rintro e w1 ⟨rfl, h1⟩
  have k0 : Keep w w1 := h1
  clear h1
  go_wp2_with fail
  refine (HP.out _).mono ?_
  rintro e w2 ⟨rfl, h2⟩
  have B0 := Lib.hid ((Bx.new w1 f 23).kept h2)
  replace k0 := (k0.alloc _).trans h2
  clear h2
  obtain ⟨⟨a0, b0, d0⟩, _⟩ := B0.out
  go_wp2_with fail
  refine (HN.out _).mono ?_
  rintro e w3 ⟨rfl, h3⟩
  replace k0 := k0.trans h3
  clear a0 b0 d0
  replace B0 := Lib.hid (B0.out.kept h3)
  clear h3
  obtain ⟨⟨a0, b0, d0⟩, _⟩ := B0.out
  have i1 := I1.out
  have i2 := I2.out
  have i3 := I3.out
  go_wp2
  go_ret
  exact ⟨rfl, k0⟩

set_option maxHeartbeats 2000000 in
theorem tells_any (f : FrameP) (s : ByteArray) (w : World) (hp : f.pdu.size ≤ maxLen) (hs : s.size ≤ maxLen) :
    Calls Try.prog 3 #[.agg #[.int .i64 f.id, .int .i64 f.unit, .string f.pdu], .string s] w fun e w' => e = .returned (.bool true) ∧ Keep w w' := by
  have HPL := Lib.hid hp
  have HSL := Lib.hid hs
  unfold maxLen at hp hs
  by_cases hp : 500 < f.pdu.size
  · have dp : decide ((500 : Int) < (f.pdu.size : Int)) = true := by simp; omega
    obtain ⟨X, hX⟩ : ∃ X, X = w.alloc (.cells #[.int .i64 f.id, .int .i64 f.unit, .string f.pdu] 23) := ⟨_, rfl⟩
    have k0 : Keep w X := by rw [hX]; exact (Keep.refl w).alloc _
    have B0 : Hid (Bx w.heap.size f X) := Lib.hid (by rw [hX]; exact Bx.new w f _)
    obtain ⟨⟨a0, b0, d0⟩, _⟩ := B0.out
    go_enter Try.func3, Try.ntmps3
    go_wp2_with fail
    rw [← hX]
    refine (awake_any _).mono ?_
    rintro e w1 ⟨rfl, hb⟩
    go_wp2
    go_ret
    exact ⟨rfl, k0.trans hb⟩
  have dp : decide ((500 : Int) < (f.pdu.size : Int)) = false := by simp; omega
  by_cases hs : 500 < s.size
  · have ds : decide ((500 : Int) < (s.size : Int)) = true := by simp; omega
    obtain ⟨X, hX⟩ : ∃ X, X = w.alloc (.cells #[.int .i64 f.id, .int .i64 f.unit, .string f.pdu] 23) := ⟨_, rfl⟩
    have k0 : Keep w X := by rw [hX]; exact (Keep.refl w).alloc _
    have B0 : Hid (Bx w.heap.size f X) := Lib.hid (by rw [hX]; exact Bx.new w f _)
    obtain ⟨⟨a0, b0, d0⟩, _⟩ := B0.out
    go_enter Try.func3, Try.ntmps3
    go_wp2_with fail
    rw [← hX]
    refine (awake_any _).mono ?_
    rintro e w1 ⟨rfl, hb⟩
    go_wp2
    go_ret
    exact ⟨rfl, k0.trans hb⟩
  have ds : decide ((500 : Int) < (s.size : Int)) = false := by simp; omega
  obtain ⟨X, hX⟩ : ∃ X, X = w.alloc (.cells #[.int .i64 f.id, .int .i64 f.unit, .string f.pdu] 23) := ⟨_, rfl⟩
  have k0 : Keep w X := by rw [hX]; exact (Keep.refl w).alloc _
  have B0 : Hid (Bx w.heap.size f X) := Lib.hid (by rw [hX]; exact Bx.new w f _)
  obtain ⟨⟨a0, b0, d0⟩, _⟩ := B0.out
  obtain ⟨q, hq⟩ : ∃ q, q = st (Mb.put f) := ⟨_, rfl⟩
  obtain ⟨ok, hok⟩ : ∃ b, b = Mb.right f := ⟨_, rfl⟩
  obtain ⟨nd, hnd⟩ : ∃ b, b = Mb.need s := ⟨_, rfl⟩
  obtain ⟨ne, hne⟩ : ∃ b, b = Mb.needErr s := ⟨_, rfl⟩
  obtain ⟨g, hg⟩ : ∃ b, b = Mb.get s := ⟨_, rfl⟩
  obtain ⟨ge, hge⟩ : ∃ b, b = Mb.getErr s := ⟨_, rfl⟩
  have HQ := Lib.hid (And.intro hq hok)
  have HND := Lib.hid (And.intro hnd hne)
  have HG := Lib.hid (And.intro hg hge)
  have heq := eqF g
  have hgd := guardF
  clear hq hok hnd hne hg hge
  go_enter Try.func3, Try.ntmps3
  go_wp2_with fail
  rw [← hX]
  clear hX
  refine (put_any f _ HPL.out).mono ?_
  rintro e w1 ⟨rfl, h1⟩
  rw [← HQ.out.1, ← HQ.out.2]
  replace k0 := k0.trans h1
  clear a0 b0 d0
  replace B0 := Lib.hid (B0.out.kept h1)
  clear h1
  obtain ⟨⟨a0, b0, d0⟩, _⟩ := B0.out
  go_wp2_with fail
  refine (Ref8.put_any f _ HPL.out).mono ?_
  rintro e w2 ⟨rfl, h2⟩
  rw [← HQ.out.1, ← HQ.out.2]
  replace k0 := k0.trans h2
  clear a0 b0 d0
  replace B0 := Lib.hid (B0.out.kept h2)
  clear h2
  obtain ⟨⟨a0, b0, d0⟩, _⟩ := B0.out
  go_wp2_with fail
  refine (need_any s _ HSL.out).mono ?_
  rintro e w3 ⟨rfl, h3⟩
  rw [← HND.out.1, ← HND.out.2]
  replace k0 := k0.trans h3
  clear a0 b0 d0
  replace B0 := Lib.hid (B0.out.kept h3)
  clear h3
  obtain ⟨⟨a0, b0, d0⟩, _⟩ := B0.out
  go_wp2_with fail
  refine (Ref8.need_any s _ HSL.out).mono ?_
  rintro e w4 ⟨rfl, h4⟩
  rw [← HND.out.1, ← HND.out.2]
  replace k0 := k0.trans h4
  clear a0 b0 d0
  replace B0 := Lib.hid (B0.out.kept h4)
  clear h4
  obtain ⟨⟨a0, b0, d0⟩, _⟩ := B0.out
  go_wp2_with fail
  refine (get_any s _ HSL.out).mono ?_
  rintro e w5 ⟨rfl, h5⟩
  rw [← HG.out.1, ← HG.out.2]
  replace k0 := k0.trans h5
  clear a0 b0 d0
  replace B0 := Lib.hid (B0.out.kept h5)
  clear h5
  obtain ⟨⟨a0, b0, d0⟩, _⟩ := B0.out
  have h5a := (Keep.refl w5).alloc (.cells #[.int .i64 g.id, .int .i64 g.unit, .string g.pdu] 23)
  have B1 := Bx.new w5 g 23
  go_wp2_with fail
  refine (Ref8.get_any s _ HSL.out).mono ?_
  rintro e w6 ⟨rfl, h6⟩
  rw [← HG.out.1, ← HG.out.2]
  replace B1 := Lib.hid (B1.kept h6)
  replace h6 := h5a.trans h6
  replace k0 := k0.trans h6
  clear a0 b0 d0
  replace B0 := Lib.hid (B0.out.kept h6)
  clear h6
  obtain ⟨⟨a0, b0, d0⟩, _⟩ := B0.out
  have h6a := (Keep.refl w6).alloc (.cells #[.int .i64 g.id, .int .i64 g.unit, .string g.pdu] 23)
  go_wp2
  have B2 := Lib.hid (Bx.new w6 g 23)
  replace k0 := k0.trans h6a
  replace B0 := Lib.hid (B0.out.kept h6a)
  replace B1 := Lib.hid (B1.out.kept h6a)
  obtain ⟨Y, hY⟩ : ∃ Y, Y = w6.alloc (.cells #[.int .i64 g.id, .int .i64 g.unit, .string g.pdu] 23) := ⟨_, rfl⟩
  rw [← hY] at B0 B1 B2 k0 ⊢
  clear hY h6a h5a
  obtain ⟨⟨a1, b1, d1⟩, _⟩ := B1.out
  obtain ⟨⟨a2, b2, d2⟩, _⟩ := B2.out
  have hk00 : ∀ p : KeptOf Y, p.w.cell? ⟨w.heap.size, 0, none⟩ = some (.int .i64 f.id) := fun p => (B0.out.kept p.h).1.1
  have hk01 : ∀ p : KeptOf Y, p.w.cell? ⟨w.heap.size, 1, none⟩ = some (.int .i64 f.unit) := fun p => (B0.out.kept p.h).1.2.1
  have hk02 : ∀ p : KeptOf Y, p.w.cell? ⟨w.heap.size, 2, none⟩ = some (.string f.pdu) := fun p => (B0.out.kept p.h).1.2.2
  clear a0 b0 d0
  have hk10 : ∀ p : KeptOf Y, p.w.cell? ⟨w5.heap.size, 0, none⟩ = some (.int .i64 g.id) := fun p => (B1.out.kept p.h).1.1
  have hk11 : ∀ p : KeptOf Y, p.w.cell? ⟨w5.heap.size, 1, none⟩ = some (.int .i64 g.unit) := fun p => (B1.out.kept p.h).1.2.1
  have hk12 : ∀ p : KeptOf Y, p.w.cell? ⟨w5.heap.size, 2, none⟩ = some (.string g.pdu) := fun p => (B1.out.kept p.h).1.2.2
  clear a1 b1 d1
  have hk20 : ∀ p : KeptOf Y, p.w.cell? ⟨w6.heap.size, 0, none⟩ = some (.int .i64 g.id) := fun p => (B2.out.kept p.h).1.1
  have hk21 : ∀ p : KeptOf Y, p.w.cell? ⟨w6.heap.size, 1, none⟩ = some (.int .i64 g.unit) := fun p => (B2.out.kept p.h).1.2.1
  have hk22 : ∀ p : KeptOf Y, p.w.cell? ⟨w6.heap.size, 2, none⟩ = some (.string g.pdu) := fun p => (B2.out.kept p.h).1.2.2
  clear a2 b2 d2
  have hAw : ∀ p : KeptOf Y, Calls Try.prog 6 #[] p.w fun e w' => e = .returned (.bool true) ∧ Keep p.w w' := fun p => awake_any p.w
  have hR1 : ∀ p : KeptOf Y, Calls Try.prog 13 #[.agg #[.int .i64 f.id, .int .i64 f.unit, .string f.pdu]] p.w fun e w' => e = .returned (.bool ok) ∧ Keep p.w w' := fun p => by
    rw [HQ.out.2]; exact right_any f p.w HPL.out
  have hR2 : ∀ p : KeptOf Y, Calls Try.prog 14 #[.agg #[.int .i64 f.id, .int .i64 f.unit, .string f.pdu]] p.w fun e w' => e = .returned (.bool ok) ∧ Keep p.w w' := fun p => by
    rw [HQ.out.2]; exact Ref8.right_any f p.w HPL.out
  refine wp_region_kept (by kernel_rfl) (by kernel_rfl) ?_
  repeat (go_big_quiet_step (first | with_reducible exact KeptOf.of (hAw _) | with_reducible exact KeptOf.of (hR1 _) | with_reducible exact KeptOf.of (hR2 _)))
  refine Go.wpQuiet_nil ?_
  intro _ hw'
  obtain ⟨⟨V, hw⟩, hw''⟩ := hw'
  subst hw''
  go_wp2
  go_ret
  exact ⟨rfl, k0.trans hw⟩

set_option maxHeartbeats 2000000 in
theorem needs_any (s t : ByteArray) (w : World) (hs : s.size ≤ maxLen) (ht : t.size ≤ maxLen) :
    Calls Try.prog 5 #[.string s, .string t] w fun e w' => e = .returned (.bool true) ∧ Keep w w' := by
  have HSL := Lib.hid hs
  unfold maxLen at hs ht
  by_cases hs : 500 < s.size
  · have ds : decide ((500 : Int) < (s.size : Int)) = true := by simp; omega
    have k0 := Keep.refl w
    go_enter Try.func5, Try.ntmps5
    go_wp2_with fail
    refine (awake_any _).mono ?_
    rintro e w1 ⟨rfl, hb⟩
    go_wp2
    go_ret
    exact ⟨rfl, k0.trans hb⟩
  have ds : decide ((500 : Int) < (s.size : Int)) = false := by simp; omega
  by_cases ht : 500 < t.size
  · have dt : decide ((500 : Int) < (t.size : Int)) = true := by simp; omega
    have k0 := Keep.refl w
    go_enter Try.func5, Try.ntmps5
    go_wp2_with fail
    refine (awake_any _).mono ?_
    rintro e w1 ⟨rfl, hb⟩
    go_wp2
    go_ret
    exact ⟨rfl, k0.trans hb⟩
  have dt : decide ((500 : Int) < (t.size : Int)) = false := by simp; omega
  have hst : s ++ t = st (bl s ++ bl t) := by rw [← st_add, st_bl, st_bl]
  obtain ⟨u, hu⟩ : ∃ u, u = s ++ t := ⟨_, rfl⟩
  have a1 : ∀ W : World, (Op.stringOp .add s t).run Try.prog W = .ok (.string u) W := fun W => by rw [hu]; exact run_string_add_sum W _ _ (by omega)
  have HUL := Lib.hid (show u.size ≤ maxLen by
    rw [hu, hst, st_size, List.length_append, bl_length, bl_length]; unfold maxLen; omega)
  obtain ⟨nd, hnd⟩ : ∃ b, b = Mb.need s := ⟨_, rfl⟩
  obtain ⟨ne, hne⟩ : ∃ b, b = Mb.needErr s := ⟨_, rfl⟩
  have HN := Lib.hid (And.intro hnd hne)
  by_cases h6 : s.size < 6
  · have d6 : decide ((s.size : Int) < 6) = true := by simp; omega
    obtain ⟨m1, m2⟩ := Mb.need_short s h6
    rw [m1] at hnd
    rw [m2] at hne
    obtain ⟨md, hmd⟩ : ∃ b, b = Mb.need u := ⟨_, rfl⟩
    obtain ⟨me, hme⟩ : ∃ b, b = Mb.needErr u := ⟨_, rfl⟩
    have HM := Lib.hid (And.intro hmd hme)
    clear m1 m2 hmd hme hu hst
    subst hnd hne
    go_enter Try.func5, Try.ntmps5
    go_wp2_with fail
    refine (need_any s _ HSL.out).mono ?_
    rintro e w1 ⟨rfl, h1⟩
    rw [← HN.out.1, ← HN.out.2]
    go_wp2_with fail
    refine (need_any u _ HUL.out).mono ?_
    rintro e w2 ⟨rfl, h2⟩
    rw [← HM.out.1, ← HM.out.2]
    go_wp2_with fail
    refine (awake_any _).mono ?_
    rintro e w3 ⟨rfl, h3⟩
    go_wp2
    go_ret
    exact ⟨rfl, (h1.trans h2).trans h3⟩
  · have d6 : decide ((s.size : Int) < 6) = false := by simp; omega
    have hap := Mb.need_app (bl s) (bl t) (by rw [bl_length]; omega)
    rw [← hst, ← hu, st_bl] at hap
    have HM := Lib.hid (show nd = Mb.need u ∧ ne = Mb.needErr u by rw [hap.1, hap.2]; exact ⟨hnd, hne⟩)
    have hrg := Mb.need_range s (by omega)
    rw [← hnd, ← hne] at hrg
    clear hnd hne hu hst hap
    rcases hrg with ⟨r1, r2, r3⟩ | ⟨r1, r2⟩
    · subst r1
      go_enter Try.func5, Try.ntmps5
      go_wp2_with fail
      refine (need_any s _ HSL.out).mono ?_
      rintro e w1 ⟨rfl, h1⟩
      rw [← HN.out.1, ← HN.out.2]
      go_wp2_with fail
      refine (need_any u _ HUL.out).mono ?_
      rintro e w2 ⟨rfl, h2⟩
      rw [← HM.out.1, ← HM.out.2]
      go_wp2_with fail
      refine (awake_any _).mono ?_
      rintro e w3 ⟨rfl, h3⟩
      go_wp2
      go_ret
      exact ⟨rfl, (h1.trans h2).trans h3⟩
    · subst r1 r2
      go_enter Try.func5, Try.ntmps5
      go_wp2_with fail
      refine (need_any s _ HSL.out).mono ?_
      rintro e w1 ⟨rfl, h1⟩
      rw [← HN.out.1, ← HN.out.2]
      go_wp2_with fail
      refine (need_any u _ HUL.out).mono ?_
      rintro e w2 ⟨rfl, h2⟩
      rw [← HM.out.1, ← HM.out.2]
      go_wp2_with fail
      refine (awake_any _).mono ?_
      rintro e w3 ⟨rfl, h3⟩
      go_wp2
      go_ret
      exact ⟨rfl, (h1.trans h2).trans h3⟩

theorem six_of (l : List UInt8) : (st l).extract 0 6 = st (l.take 6) := by
  rw [Lib.extract_eq]; rfl
set_option maxHeartbeats 4000000 in
theorem back_any (f : FrameP) (s : ByteArray) (w : World) (hp : f.pdu.size ≤ maxLen) (hs : s.size ≤ maxLen) :
    Calls Try.prog 4 #[.agg #[.int .i64 f.id, .int .i64 f.unit, .string f.pdu], .string s] w fun e w' => e = .returned (.bool true) ∧ Keep w w' := by
  have HPL := Lib.hid hp
  have HSL := Lib.hid hs
  unfold maxLen at hp hs
  by_cases hp : 500 < f.pdu.size
  · have dp : decide ((500 : Int) < (f.pdu.size : Int)) = true := by simp; omega
    obtain ⟨X, hX⟩ : ∃ X, X = w.alloc (.cells #[.int .i64 f.id, .int .i64 f.unit, .string f.pdu] 23) := ⟨_, rfl⟩
    have k0 : Keep w X := by rw [hX]; exact (Keep.refl w).alloc _
    have B0 : Hid (Bx w.heap.size f X) := Lib.hid (by rw [hX]; exact Bx.new w f _)
    obtain ⟨⟨a0, b0, d0⟩, _⟩ := B0.out
    go_enter Try.func4, Try.ntmps4
    go_wp2_with fail
    rw [← hX]
    refine (awake_any _).mono ?_
    rintro e w1 ⟨rfl, hb⟩
    go_wp2
    go_ret
    exact ⟨rfl, k0.trans hb⟩
  have dp : decide ((500 : Int) < (f.pdu.size : Int)) = false := by simp; omega
  by_cases hs : 500 < s.size
  · have ds : decide ((500 : Int) < (s.size : Int)) = true := by simp; omega
    obtain ⟨X, hX⟩ : ∃ X, X = w.alloc (.cells #[.int .i64 f.id, .int .i64 f.unit, .string f.pdu] 23) := ⟨_, rfl⟩
    have k0 : Keep w X := by rw [hX]; exact (Keep.refl w).alloc _
    have B0 : Hid (Bx w.heap.size f X) := Lib.hid (by rw [hX]; exact Bx.new w f _)
    obtain ⟨⟨a0, b0, d0⟩, _⟩ := B0.out
    go_enter Try.func4, Try.ntmps4
    go_wp2_with fail
    rw [← hX]
    refine (awake_any _).mono ?_
    rintro e w1 ⟨rfl, hb⟩
    go_wp2
    go_ret
    exact ⟨rfl, k0.trans hb⟩
  have ds : decide ((500 : Int) < (s.size : Int)) = false := by simp; omega
  obtain ⟨X, hX⟩ : ∃ X, X = w.alloc (.cells #[.int .i64 f.id, .int .i64 f.unit, .string f.pdu] 23) := ⟨_, rfl⟩
  have k0 : Keep w X := by rw [hX]; exact (Keep.refl w).alloc _
  have B0 : Hid (Bx w.heap.size f X) := Lib.hid (by rw [hX]; exact Bx.new w f _)
  obtain ⟨⟨a0, b0, d0⟩, _⟩ := B0.out
  have hgd := guardF
  obtain ⟨q, hq⟩ : ∃ q, q = st (Mb.put f) := ⟨_, rfl⟩
  obtain ⟨y, hy⟩ : ∃ g, g = Mb.get s := ⟨_, rfl⟩
  have HQ := Lib.hid hq
  cases hok : Mb.right f
  · have HOK := Lib.hid hok
    obtain ⟨x, hx⟩ : ∃ x : FrameP, x = Mb.zero := ⟨_, rfl⟩
    have hq0 : q = ⟨#[]⟩ := by rw [hq, Mb.put, hok]; rfl
    have dq : (q.toList == []) = true := by rw [hq0, Str.toList_eq]; rfl
    have HQL := Lib.hid (show q.size ≤ maxLen by rw [hq0]; exact Nat.zero_le _)
    have HGQ := Lib.hid (show Mb.get q = x ∧ Mb.getErr q = 5 from ⟨by rw [hq0, hx, Mb.same_iff]; decide, by rw [hq0]; decide⟩)
    clear hq hok hx hq0
    cases hwh : Mb.whole s
    · have HG := Lib.hid (show y = Mb.get s ∧ Mb.getErr s = 5 from ⟨hy, by rw [Mb.getErr, hwh]; rfl⟩)
      have hyz : y = Mb.zero := by rw [hy, Mb.get, hwh]; rfl
      have HYL := Lib.hid (show y.pdu.size ≤ maxLen by rw [hyz]; exact Nat.zero_le _)
      have heq := eqF Mb.zero
      obtain ⟨yi, yu, yp⟩ := y
      obtain ⟨rfl, rfl, rfl⟩ : yi = 0 ∧ yu = 0 ∧ yp = ⟨#[]⟩ := by simpa [Mb.zero] using hyz
      simp only [Mb.zero] at heq
      clear hy hyz hwh
      go_enter Try.func4, Try.ntmps4
      go_wp2_with fail
      rw [← hX]
      clear hX
      refine (put_any f _ HPL.out).mono ?_
      rintro e w1 ⟨rfl, h1⟩
      rw [← HQ.out, HOK.out]
      replace k0 := k0.trans h1
      clear a0 b0 d0
      replace B0 := Lib.hid (B0.out.kept h1)
      clear h1
      obtain ⟨⟨a0, b0, d0⟩, _⟩ := B0.out
      go_wp2_with fail
      refine (get_any q _ HQL.out).mono ?_
      rintro e w2 ⟨rfl, h2⟩
      rw [HGQ.out.1, HGQ.out.2]
      replace k0 := k0.trans h2
      clear a0 b0 d0
      replace B0 := Lib.hid (B0.out.kept h2)
      clear h2
      obtain ⟨⟨a0, b0, d0⟩, _⟩ := B0.out
      have h2a := (Keep.refl w2).alloc (.cells #[.int .i64 x.id, .int .i64 x.unit, .string x.pdu] 23)
      have B1 := Bx.new w2 x 23
      go_wp2_with fail
      refine (right_any f _ HPL.out).mono ?_
      rintro e w3 ⟨rfl, h3⟩
      rw [HOK.out]
      replace B1 := Lib.hid (B1.kept h3)
      replace h3 := h2a.trans h3
      clear h2a
      replace k0 := k0.trans h3
      clear a0 b0 d0
      replace B0 := Lib.hid (B0.out.kept h3)
      clear h3
      obtain ⟨⟨a0, b0, d0⟩, _⟩ := B0.out
      obtain ⟨⟨a1, b1, d1⟩, _⟩ := B1.out
      go_wp2_with fail
      refine (get_any s _ HSL.out).mono ?_
      rintro e w5 ⟨rfl, h5⟩
      rw [← HG.out.1, HG.out.2]
      replace k0 := k0.trans h5
      clear a0 b0 d0
      replace B0 := Lib.hid (B0.out.kept h5)
      clear a1 b1 d1
      replace B1 := Lib.hid (B1.out.kept h5)
      clear h5
      obtain ⟨⟨a0, b0, d0⟩, _⟩ := B0.out
      obtain ⟨⟨a1, b1, d1⟩, _⟩ := B1.out
      have h5a := (Keep.refl w5).alloc (.cells #[.int .i64 0, .int .i64 0, .string ⟨#[]⟩] 23)
      have B2 := Bx.new w5 ⟨0, 0, ⟨#[]⟩⟩ 23
      go_wp2_with fail
      refine (put_any ⟨0, 0, ⟨#[]⟩⟩ _ HYL.out).mono ?_
      rintro e w6 ⟨rfl, h6⟩
      replace B2 := Lib.hid (B2.kept h6)
      replace h6 := h5a.trans h6
      clear h5a
      replace k0 := k0.trans h6
      clear a0 b0 d0
      replace B0 := Lib.hid (B0.out.kept h6)
      clear a1 b1 d1
      replace B1 := Lib.hid (B1.out.kept h6)
      clear h6
      obtain ⟨⟨a0, b0, d0⟩, _⟩ := B0.out
      obtain ⟨⟨a1, b1, d1⟩, _⟩ := B1.out
      obtain ⟨⟨a2, b2, d2⟩, _⟩ := B2.out
      go_wp2_with fail
      refine (awake_any _).mono ?_
      rintro e w7 ⟨rfl, h7⟩
      replace k0 := k0.trans h7
      clear a0 b0 d0
      replace B0 := Lib.hid (B0.out.kept h7)
      clear a1 b1 d1
      replace B1 := Lib.hid (B1.out.kept h7)
      clear a2 b2 d2
      replace B2 := Lib.hid (B2.out.kept h7)
      clear h7
      obtain ⟨⟨a0, b0, d0⟩, _⟩ := B0.out
      obtain ⟨⟨a1, b1, d1⟩, _⟩ := B1.out
      obtain ⟨⟨a2, b2, d2⟩, _⟩ := B2.out
      go_wp2
      go_ret
      exact ⟨rfl, k0⟩
    · have HG := Lib.hid (show y = Mb.get s ∧ Mb.getErr s = 0 from ⟨hy, by rw [Mb.getErr, hwh]; rfl⟩)
      have hpg := Mb.put_get hwh
      rw [← hy] at hpg
      have HYL := Lib.hid (show y.pdu.size ≤ maxLen by
        have := ((Mb.right_iff y).1 hpg.2).2.2.2
        unfold maxLen; omega)
      have HY := Lib.hid (show st (Mb.put y) = s ∧ Mb.right y = true by rw [hpg.1, st_bl]; exact ⟨rfl, hpg.2⟩)
      clear hy hpg hwh
      go_enter Try.func4, Try.ntmps4
      go_wp2_with fail
      rw [← hX]
      clear hX
      refine (put_any f _ HPL.out).mono ?_
      rintro e w1 ⟨rfl, h1⟩
      rw [← HQ.out, HOK.out]
      replace k0 := k0.trans h1
      clear a0 b0 d0
      replace B0 := Lib.hid (B0.out.kept h1)
      clear h1
      obtain ⟨⟨a0, b0, d0⟩, _⟩ := B0.out
      go_wp2_with fail
      refine (get_any q _ HQL.out).mono ?_
      rintro e w2 ⟨rfl, h2⟩
      rw [HGQ.out.1, HGQ.out.2]
      replace k0 := k0.trans h2
      clear a0 b0 d0
      replace B0 := Lib.hid (B0.out.kept h2)
      clear h2
      obtain ⟨⟨a0, b0, d0⟩, _⟩ := B0.out
      have h2a := (Keep.refl w2).alloc (.cells #[.int .i64 x.id, .int .i64 x.unit, .string x.pdu] 23)
      have B1 := Bx.new w2 x 23
      go_wp2_with fail
      refine (right_any f _ HPL.out).mono ?_
      rintro e w3 ⟨rfl, h3⟩
      rw [HOK.out]
      replace B1 := Lib.hid (B1.kept h3)
      replace h3 := h2a.trans h3
      clear h2a
      replace k0 := k0.trans h3
      clear a0 b0 d0
      replace B0 := Lib.hid (B0.out.kept h3)
      clear h3
      obtain ⟨⟨a0, b0, d0⟩, _⟩ := B0.out
      obtain ⟨⟨a1, b1, d1⟩, _⟩ := B1.out
      go_wp2_with fail
      refine (get_any s _ HSL.out).mono ?_
      rintro e w5 ⟨rfl, h5⟩
      rw [← HG.out.1, HG.out.2]
      replace k0 := k0.trans h5
      clear a0 b0 d0
      replace B0 := Lib.hid (B0.out.kept h5)
      clear a1 b1 d1
      replace B1 := Lib.hid (B1.out.kept h5)
      clear h5
      obtain ⟨⟨a0, b0, d0⟩, _⟩ := B0.out
      obtain ⟨⟨a1, b1, d1⟩, _⟩ := B1.out
      have h5a := (Keep.refl w5).alloc (.cells #[.int .i64 y.id, .int .i64 y.unit, .string y.pdu] 23)
      have B2 := Bx.new w5 y 23
      go_wp2_with fail
      refine (put_any y _ HYL.out).mono ?_
      rintro e w6 ⟨rfl, h6⟩
      replace B2 := Lib.hid (B2.kept h6)
      replace h6 := h5a.trans h6
      clear h5a
      replace k0 := k0.trans h6
      clear a0 b0 d0
      replace B0 := Lib.hid (B0.out.kept h6)
      clear a1 b1 d1
      replace B1 := Lib.hid (B1.out.kept h6)
      clear h6
      obtain ⟨⟨a0, b0, d0⟩, _⟩ := B0.out
      obtain ⟨⟨a1, b1, d1⟩, _⟩ := B1.out
      obtain ⟨⟨a2, b2, d2⟩, _⟩ := B2.out
      rw [HY.out.1, HY.out.2]
      go_wp2_with fail
      refine (awake_any _).mono ?_
      rintro e w7 ⟨rfl, h7⟩
      replace k0 := k0.trans h7
      clear a0 b0 d0
      replace B0 := Lib.hid (B0.out.kept h7)
      clear a1 b1 d1
      replace B1 := Lib.hid (B1.out.kept h7)
      clear a2 b2 d2
      replace B2 := Lib.hid (B2.out.kept h7)
      clear h7
      obtain ⟨⟨a0, b0, d0⟩, _⟩ := B0.out
      obtain ⟨⟨a1, b1, d1⟩, _⟩ := B1.out
      obtain ⟨⟨a2, b2, d2⟩, _⟩ := B2.out
      go_wp2
      go_ret
      exact ⟨rfl, k0⟩
  · have HOK := Lib.hid hok
    obtain ⟨g1, g2, g3, g4⟩ := Mb.get_put hok
    have n6 := Mb.need_six hok
    have hqs : q.size = (Mb.put f).length := by rw [hq, st_size]
    have HQL := Lib.hid (show q.size ≤ maxLen by unfold maxLen; omega)
    obtain ⟨x, hx⟩ : ∃ x : FrameP, x = f := ⟨_, rfl⟩
    have HGQ := Lib.hid (show Mb.get q = f ∧ Mb.getErr q = 0 by rw [hq]; exact ⟨g2, g1⟩)
    obtain ⟨q6, hq6⟩ : ∃ q6, q6 = q.extract 0 6 := ⟨_, rfl⟩
    have hq6' : q6 = st ((Mb.put f).take 6) := by rw [hq6, hq, six_of]
    have HQ6 := Lib.hid (show q6.size ≤ maxLen ∧ Mb.need q6 = (q.size : Int) ∧ Mb.needErr q6 = 0 by
      refine ⟨?_, ?_, ?_⟩
      · rw [hq6', st_size, List.length_take]; unfold maxLen; omega
      · rw [hq6', n6.1, hqs]
      · rw [hq6']; exact n6.2)
    have heqf := eqF f
    have z1 : 8 ≤ q.size := by omega
    have z2 : q.size ≤ 260 := by omega
    have hsl : ∀ W : World, (Instr.slice 9 (.string q) none (some (.int .i64 6)) none).run Try.prog W = .ok (.string q6) W := fun W => by
      rw [hq6]
      have u := Try.underlying9
      have h2 : (6 : Int) ≤ (q.size : Int) := by omega
      clear hq6 hq6' hqs hq hx n6 g1 g2 g3 g4
      go_simp
    clear hq hok g1 g2 g3 g4 n6 hqs hq6 hq6' hx
    cases hwh : Mb.whole s
    · have HG := Lib.hid (show y = Mb.get s ∧ Mb.getErr s = 5 from ⟨hy, by rw [Mb.getErr, hwh]; rfl⟩)
      have hyz : y = Mb.zero := by rw [hy, Mb.get, hwh]; rfl
      have HYL := Lib.hid (show y.pdu.size ≤ maxLen by rw [hyz]; exact Nat.zero_le _)
      have heq := eqF Mb.zero
      obtain ⟨yi, yu, yp⟩ := y
      obtain ⟨rfl, rfl, rfl⟩ : yi = 0 ∧ yu = 0 ∧ yp = ⟨#[]⟩ := by simpa [Mb.zero] using hyz
      simp only [Mb.zero] at heq
      clear hy hyz hwh
      go_enter Try.func4, Try.ntmps4
      go_wp2_with fail
      rw [← hX]
      clear hX
      refine (put_any f _ HPL.out).mono ?_
      rintro e w1 ⟨rfl, h1⟩
      rw [← HQ.out, HOK.out]
      replace k0 := k0.trans h1
      clear a0 b0 d0
      replace B0 := Lib.hid (B0.out.kept h1)
      clear h1
      obtain ⟨⟨a0, b0, d0⟩, _⟩ := B0.out
      go_wp2_with fail
      refine (get_any q _ HQL.out).mono ?_
      rintro e w2 ⟨rfl, h2⟩
      rw [HGQ.out.1, HGQ.out.2]
      replace k0 := k0.trans h2
      clear a0 b0 d0
      replace B0 := Lib.hid (B0.out.kept h2)
      clear h2
      obtain ⟨⟨a0, b0, d0⟩, _⟩ := B0.out
      have h2a := (Keep.refl w2).alloc (.cells #[.int .i64 f.id, .int .i64 f.unit, .string f.pdu] 23)
      have B1 := Bx.new w2 f 23
      go_wp2_with fail
      refine (right_any f _ HPL.out).mono ?_
      rintro e w3 ⟨rfl, h3⟩
      rw [HOK.out]
      replace B1 := Lib.hid (B1.kept h3)
      replace h3 := h2a.trans h3
      clear h2a
      replace k0 := k0.trans h3
      clear a0 b0 d0
      replace B0 := Lib.hid (B0.out.kept h3)
      clear h3
      obtain ⟨⟨a0, b0, d0⟩, _⟩ := B0.out
      obtain ⟨⟨a1, b1, d1⟩, _⟩ := B1.out
      go_wp2_with fail
      refine (need_any q6 _ HQ6.out.1).mono ?_
      rintro e w4 ⟨rfl, h4⟩
      rw [HQ6.out.2.1, HQ6.out.2.2]
      replace k0 := k0.trans h4
      clear a0 b0 d0
      replace B0 := Lib.hid (B0.out.kept h4)
      clear a1 b1 d1
      replace B1 := Lib.hid (B1.out.kept h4)
      clear h4
      obtain ⟨⟨a0, b0, d0⟩, _⟩ := B0.out
      obtain ⟨⟨a1, b1, d1⟩, _⟩ := B1.out
      go_wp2_with fail
      refine (get_any s _ HSL.out).mono ?_
      rintro e w5 ⟨rfl, h5⟩
      rw [← HG.out.1, HG.out.2]
      replace k0 := k0.trans h5
      clear a0 b0 d0
      replace B0 := Lib.hid (B0.out.kept h5)
      clear a1 b1 d1
      replace B1 := Lib.hid (B1.out.kept h5)
      clear h5
      obtain ⟨⟨a0, b0, d0⟩, _⟩ := B0.out
      obtain ⟨⟨a1, b1, d1⟩, _⟩ := B1.out
      have h5a := (Keep.refl w5).alloc (.cells #[.int .i64 0, .int .i64 0, .string ⟨#[]⟩] 23)
      have B2 := Bx.new w5 ⟨0, 0, ⟨#[]⟩⟩ 23
      go_wp2_with fail
      refine (put_any ⟨0, 0, ⟨#[]⟩⟩ _ HYL.out).mono ?_
      rintro e w6 ⟨rfl, h6⟩
      replace B2 := Lib.hid (B2.kept h6)
      replace h6 := h5a.trans h6
      clear h5a
      replace k0 := k0.trans h6
      clear a0 b0 d0
      replace B0 := Lib.hid (B0.out.kept h6)
      clear a1 b1 d1
      replace B1 := Lib.hid (B1.out.kept h6)
      clear h6
      obtain ⟨⟨a0, b0, d0⟩, _⟩ := B0.out
      obtain ⟨⟨a1, b1, d1⟩, _⟩ := B1.out
      obtain ⟨⟨a2, b2, d2⟩, _⟩ := B2.out
      go_wp2_with fail
      refine (awake_any _).mono ?_
      rintro e w7 ⟨rfl, h7⟩
      replace k0 := k0.trans h7
      clear a0 b0 d0
      replace B0 := Lib.hid (B0.out.kept h7)
      clear a1 b1 d1
      replace B1 := Lib.hid (B1.out.kept h7)
      clear a2 b2 d2
      replace B2 := Lib.hid (B2.out.kept h7)
      clear h7
      obtain ⟨⟨a0, b0, d0⟩, _⟩ := B0.out
      obtain ⟨⟨a1, b1, d1⟩, _⟩ := B1.out
      obtain ⟨⟨a2, b2, d2⟩, _⟩ := B2.out
      go_wp2
      go_ret
      exact ⟨rfl, k0⟩
    · have HG := Lib.hid (show y = Mb.get s ∧ Mb.getErr s = 0 from ⟨hy, by rw [Mb.getErr, hwh]; rfl⟩)
      have hpg := Mb.put_get hwh
      rw [← hy] at hpg
      have HYL := Lib.hid (show y.pdu.size ≤ maxLen by
        have := ((Mb.right_iff y).1 hpg.2).2.2.2
        unfold maxLen; omega)
      have HY := Lib.hid (show st (Mb.put y) = s ∧ Mb.right y = true by rw [hpg.1, st_bl]; exact ⟨rfl, hpg.2⟩)
      clear hy hpg hwh
      go_enter Try.func4, Try.ntmps4
      go_wp2_with fail
      rw [← hX]
      clear hX
      refine (put_any f _ HPL.out).mono ?_
      rintro e w1 ⟨rfl, h1⟩
      rw [← HQ.out, HOK.out]
      replace k0 := k0.trans h1
      clear a0 b0 d0
      replace B0 := Lib.hid (B0.out.kept h1)
      clear h1
      obtain ⟨⟨a0, b0, d0⟩, _⟩ := B0.out
      go_wp2_with fail
      refine (get_any q _ HQL.out).mono ?_
      rintro e w2 ⟨rfl, h2⟩
      rw [HGQ.out.1, HGQ.out.2]
      replace k0 := k0.trans h2
      clear a0 b0 d0
      replace B0 := Lib.hid (B0.out.kept h2)
      clear h2
      obtain ⟨⟨a0, b0, d0⟩, _⟩ := B0.out
      have h2a := (Keep.refl w2).alloc (.cells #[.int .i64 f.id, .int .i64 f.unit, .string f.pdu] 23)
      have B1 := Bx.new w2 f 23
      go_wp2_with fail
      refine (right_any f _ HPL.out).mono ?_
      rintro e w3 ⟨rfl, h3⟩
      rw [HOK.out]
      replace B1 := Lib.hid (B1.kept h3)
      replace h3 := h2a.trans h3
      clear h2a
      replace k0 := k0.trans h3
      clear a0 b0 d0
      replace B0 := Lib.hid (B0.out.kept h3)
      clear h3
      obtain ⟨⟨a0, b0, d0⟩, _⟩ := B0.out
      obtain ⟨⟨a1, b1, d1⟩, _⟩ := B1.out
      go_wp2_with fail
      refine (need_any q6 _ HQ6.out.1).mono ?_
      rintro e w4 ⟨rfl, h4⟩
      rw [HQ6.out.2.1, HQ6.out.2.2]
      replace k0 := k0.trans h4
      clear a0 b0 d0
      replace B0 := Lib.hid (B0.out.kept h4)
      clear a1 b1 d1
      replace B1 := Lib.hid (B1.out.kept h4)
      clear h4
      obtain ⟨⟨a0, b0, d0⟩, _⟩ := B0.out
      obtain ⟨⟨a1, b1, d1⟩, _⟩ := B1.out
      go_wp2_with fail
      refine (get_any s _ HSL.out).mono ?_
      rintro e w5 ⟨rfl, h5⟩
      rw [← HG.out.1, HG.out.2]
      replace k0 := k0.trans h5
      clear a0 b0 d0
      replace B0 := Lib.hid (B0.out.kept h5)
      clear a1 b1 d1
      replace B1 := Lib.hid (B1.out.kept h5)
      clear h5
      obtain ⟨⟨a0, b0, d0⟩, _⟩ := B0.out
      obtain ⟨⟨a1, b1, d1⟩, _⟩ := B1.out
      have h5a := (Keep.refl w5).alloc (.cells #[.int .i64 y.id, .int .i64 y.unit, .string y.pdu] 23)
      have B2 := Bx.new w5 y 23
      go_wp2_with fail
      refine (put_any y _ HYL.out).mono ?_
      rintro e w6 ⟨rfl, h6⟩
      replace B2 := Lib.hid (B2.kept h6)
      replace h6 := h5a.trans h6
      clear h5a
      replace k0 := k0.trans h6
      clear a0 b0 d0
      replace B0 := Lib.hid (B0.out.kept h6)
      clear a1 b1 d1
      replace B1 := Lib.hid (B1.out.kept h6)
      clear h6
      obtain ⟨⟨a0, b0, d0⟩, _⟩ := B0.out
      obtain ⟨⟨a1, b1, d1⟩, _⟩ := B1.out
      obtain ⟨⟨a2, b2, d2⟩, _⟩ := B2.out
      rw [HY.out.1, HY.out.2]
      go_wp2_with fail
      refine (awake_any _).mono ?_
      rintro e w7 ⟨rfl, h7⟩
      replace k0 := k0.trans h7
      clear a0 b0 d0
      replace B0 := Lib.hid (B0.out.kept h7)
      clear a1 b1 d1
      replace B1 := Lib.hid (B1.out.kept h7)
      clear a2 b2 d2
      replace B2 := Lib.hid (B2.out.kept h7)
      clear h7
      obtain ⟨⟨a0, b0, d0⟩, _⟩ := B0.out
      obtain ⟨⟨a1, b1, d1⟩, _⟩ := B1.out
      obtain ⟨⟨a2, b2, d2⟩, _⟩ := B2.out
      go_wp2
      go_ret
      exact ⟨rfl, k0⟩
end Go.Proofs.Ytccefadachcmeaa.Mbap
