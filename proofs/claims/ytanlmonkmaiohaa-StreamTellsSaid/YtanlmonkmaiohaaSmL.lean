/- Layer 9's laws: awake, StreamTells. Conditions: none beyond the laws' own. -/
import Derived.Test.YtanlmonkmaiohaaSm
import Derived.Test.YtanlmonkmaiohaaOpen
import Derived.Test.YtanlmonkmaiohaaKept
import Derived.Deep.Cut
namespace Go.Proofs.Ytanlmonkmaiohaa.Strm
set_option linter.unusedVariables false
open Go.ChangeShapes Go.WideShapes Go.ChangeAt Go.RowKit
open Ref8 (ret_bool)
open Ref9 (BoxedS RetPush encF encF_len row_frame frames_same)

/-- '==' of two streams that are one. -/
theorem eqS (buf : ByteArray) (bad : Bool) (w : World) : (Op.equalIn 10000 23 (.agg #[.string buf, .bool bad]) (.agg #[.string buf, .bool bad])).run Try.prog w = .ok true w := by
  have u3 := Try.underlying4
  have a3 := Try.isAgg4
  have z3 := Try.sizeOf4
  have u9 := Try.underlying9
  have a9 := Try.isAgg9
  have z9 := Try.sizeOf9
  have hS : Try.prog.underlying 23 = some (.struct (Try.prog.fieldsOf 23)) := by kernel_rfl
  have hp : Try.prog.stoodInHeld 23 = false := by kernel_rfl
  rw [show (10000 : Nat) = 9999 + 1 from rfl, run_equalIn_agg w 9999 23 _ _ hS hp]
  simp only [Program.fieldsOf, Try.underlying23]
  go_simp
theorem guardS : Try.prog.eqGuardType Try.prog.depth 23 = false := by kernel_rfl
/-- A stream in a box that is there. -/
def Bs (p : Nat) (buf : ByteArray) (bad : Bool) (w : World) : Prop := BoxedS p buf bad w ∧ p < w.heap.size
theorem Bs.new (w : World) (buf : ByteArray) (bad : Bool) (e : TypeId) : Bs w.heap.size buf bad (w.alloc (.cells #[.string buf, .bool bad] e)) := by
  refine ⟨⟨?_, ?_⟩, by simp⟩ <;> (rw [World.cell?_alloc_at (hn := rfl)]; rfl)
theorem Bs.kept {p : Nat} {buf : ByteArray} {bad : Bool} {w w' : World} (h : Bs p buf bad w) (hk : Keep w w') : Bs p buf bad w' :=
  ⟨⟨(Below.cell hk h.2).trans h.1.1, (Below.cell hk h.2).trans h.1.2⟩, Nat.lt_of_lt_of_le h.2 hk.size⟩
/-- What Push answers, of a stream and bytes that come to this. -/
theorem push_to (buf b : ByteArray) (bad : Bool) (x : StreamP) (fs : List FrameP) (w : World) (hs : buf.size ≤ 100000) (hb : b.size ≤ 100000) (hr : Sm.right ⟨bl buf, bad⟩ = true) (h : Sm.feed (⟨bl buf, bad⟩, []) (bl b) = (x, fs)) :
    Calls Try.prog 9 #[.agg #[.string buf, .bool bad], .string b] w (RetPush (x, fs) w) := by
  rw [← h]; exact push_any buf b bad w hs hb hr

theorem _root_.Go.Proofs.Ytanlmonkmaiohaa.Row.skip {α : Type} {enc : α → List Value} {k : Nat} {w w' : World} {n q : Nat} {A : Option Addr} {zs : List α} (h : Row enc k w w.heap.size A n zs) (hf : 0 < n → ∃ b, A = some ⟨b, 0, none⟩ ∧ b ≠ q) (hs : w.heap.size ≤ w'.heap.size)
    (hc : ∀ p : Addr, p.block ≠ q → w'.cell? p = w.cell? p) : Row enc k w' w'.heap.size A n zs :=
  ⟨h.1, fun hn => by
    obtain ⟨b, off, e, hb, hcl⟩ := h.2 hn
    obtain ⟨b', e', hq⟩ := hf hn
    have : b = b' := by rw [e] at e'; injection e' with e'; injection e'
    subst this
    exact ⟨b, off, e, by omega, fun j hj i v hv => (hc _ hq).trans (hcl j hj i v hv)⟩⟩
theorem keepd' {a b : World} (h : Keep a b) : Keep a b.drew := h.trans ((Quiet.refl b).drew).keep
theorem sets2 {W : World} {p q : Nat} {a b : Value} (h : p ≠ q) (j : Nat) : ((W.setCell ⟨q, 0, none⟩ a).setCell ⟨q, 1, none⟩ b).cell? ⟨p, j, none⟩ = W.cell? ⟨p, j, none⟩ := by
  rw [World.cell?_of_block (Below.heap_setCell _ _ _ _ h), World.cell?_of_block (Below.heap_setCell _ _ _ _ h)]
theorem zero_new {X w3 : World} {e : TypeId} {x y : Value} (h : Keep (X.alloc (.cells #[x, y] e)).drew w3) : w3.frozen? ⟨X.heap.size, 0, none⟩ = false ∧ w3.frozen? ⟨X.heap.size, 1, none⟩ = false ∧
    w3.cell? ⟨X.heap.size, 0, none⟩ = some x ∧ w3.cell? ⟨X.heap.size, 1, none⟩ = some y ∧ X.heap.size < w3.heap.size := by
  have hlt : X.heap.size < (X.alloc (.cells #[x, y] e)).drew.heap.size := by simp
  refine ⟨(Below.frozen h hlt).trans (by go_simp), (Below.frozen h hlt).trans (by go_simp), (Below.cell h hlt).trans ?_, (Below.cell h hlt).trans ?_, Nat.lt_of_lt_of_le hlt h.size⟩ <;> (show (X.alloc _).cell? _ = _; rw [World.cell?_alloc_at (hn := rfl)]; rfl)
set_option maxHeartbeats 1000000 in
theorem awake_any (w : World) : Calls Try.prog 6 #[] w fun e w' => e = .returned (.bool true) ∧ Keep w w' := by
  have f1 : Sm.feed (⟨[], false⟩, []) [0, 1, 0, 0, 0, 6, 17] = (⟨[0, 1, 0, 0, 0, 6, 17], false⟩, []) := by kernel_rfl
  have f2 : Sm.feed (⟨[0, 1, 0, 0, 0, 6, 17], false⟩, []) [3, 0, 100, 0, 2] = (⟨[], false⟩, [⟨1, 17, ⟨#[3, 0, 100, 0, 2]⟩⟩]) := by kernel_rfl
  have f3 : Sm.feed (⟨[], false⟩, []) [0, 1, 0, 1, 0, 6, 17] = (⟨[], true⟩, []) := by kernel_rfl
  have r1 : Sm.right ⟨[0, 1, 0, 0, 0, 6, 17], false⟩ = true := by kernel_rfl
  have P1 := Lib.hid (fun W => push_to ⟨#[]⟩ ⟨#[0, 1, 0, 0, 0, 6, 17]⟩ false _ _ W (by decide) (by decide) rfl f1)
  have P2 := Lib.hid (fun W => push_to (st [0, 1, 0, 0, 0, 6, 17]) ⟨#[3, 0, 100, 0, 2]⟩ false _ _ W (by decide) (by decide) r1 f2)
  have P3 := Lib.hid (fun W => push_to ⟨#[]⟩ ⟨#[0, 1, 0, 1, 0, 6, 17]⟩ false _ _ W (by decide) (by decide) rfl f3)
  have R1 := Lib.hid (fun W => right_any (st [0, 1, 0, 0, 0, 6, 17]) false W (by decide))
  have hr1 : Sm.right ⟨bl (st [0, 1, 0, 0, 0, 6, 17]), false⟩ = true := r1
  have HR1 := Lib.hid hr1
  have hgd := guardS
  have e1 := eqS ⟨#[]⟩ false
  have e2 := eqS ⟨#[]⟩ true
  have hs1 : ∀ W : World, (Instr.slice 9 (.string ⟨#[0, 1, 0, 0, 0, 6, 17, 3, 0, 100, 0, 2]⟩) none (some (.int .i64 7)) none).run Try.prog W = .ok (.string ⟨#[0, 1, 0, 0, 0, 6, 17]⟩) W := fun W => by
    have h := run_slice_string_h (P := Try.prog) (w := W) (t := 9) (s := ⟨#[0, 1, 0, 0, 0, 6, 17, 3, 0, 100, 0, 2]⟩) Try.underlying9 .i64 7 (by decide) (by decide)
    rw [h]; rfl
  have hs2 : ∀ W : World, (Instr.slice 9 (.string ⟨#[0, 1, 0, 0, 0, 6, 17, 3, 0, 100, 0, 2]⟩) (some (.int .i64 7)) none none).run Try.prog W = .ok (.string ⟨#[3, 0, 100, 0, 2]⟩) W := fun W => by
    have h := run_slice_string_l (P := Try.prog) (w := W) (t := 9) (s := ⟨#[0, 1, 0, 0, 0, 6, 17, 3, 0, 100, 0, 2]⟩) Try.underlying9 .i64 7 (by decide) (by decide)
    rw [h]; rfl
  clear f1 f2 f3 r1 hr1
  go_enter Try.func6, Try.ntmps6
  go_wp2_with fail
  refine (P1.out _).mono ?_
  rintro e w1 ⟨A1, n1, c1, rfl, i1, h1, _⟩
  obtain rfl : 0 = n1 := i1.1
  have k0 : Keep w w1 := h1
  clear h1 i1
  simp only
  go_wp2
  obtain ⟨X, hX⟩ : ∃ X, X = w1.alloc (.cells #[.string (st [0, 1, 0, 0, 0, 6, 17]), .bool false] 23) := ⟨_, rfl⟩
  have B1 := Lib.hid (show Bs w1.heap.size (st [0, 1, 0, 0, 0, 6, 17]) false X by rw [hX]; exact Bs.new _ _ _ _)
  replace k0 : Keep w X := by rw [hX]; exact k0.alloc _
  rw [← hX]
  have hS : ∀ W, Keep X W → W.cell? ⟨w1.heap.size, 0, none⟩ = some (.string (st [0, 1, 0, 0, 0, 6, 17])) ∧ W.cell? ⟨w1.heap.size, 1, none⟩ = some (.bool false) := fun W h => (B1.out.kept h).1
  clear hX
  have hp1 := B1.out.2
  go_cut [4, 5] from 16 (fun p v W => ∃ q A n c, p = .pointer (some ⟨q, 0, none⟩) ∧ v = .slice A n c ∧ Bs q ⟨#[]⟩ false W ∧ Row encF 3 W W.heap.size A n [⟨1, 17, ⟨#[3, 0, 100, 0, 2]⟩⟩] ∧ Keep X W)
  case first =>
    go_region_held3 (fun W => W.cell? ⟨w1.heap.size, 0, none⟩ = some (.string (st [0, 1, 0, 0, 0, 6, 17])) ∧ W.cell? ⟨w1.heap.size, 1, none⟩ = some (.bool false))
      (first
        | exact hS _ hw
        | exact hS _ (hw.alloc _)
        | exact hS _ (keepd' (Keep.refl X))
        | exact hS _ (keepd' ((Keep.refl X).alloc _))
        | exact ⟨(sets2 (by omega) 0).trans (hS _ hw).1, (sets2 (by omega) 1).trans (hS _ hw).2⟩
        | fail)
      ((first
        | (go_at_call 9; refine (P2.out _).mono ?_; rintro e w3 ⟨A2, n2, c2, rfl, i2, h2, hfr⟩; have hw : Keep X w3 := Keep.trans (keepd' ((Keep.refl X).alloc _)) h2; have hn := zero_new h2; simp only)
        | (go_at_call 9; refine (P2.out _).mono ?_; rintro e w3 ⟨A2, n2, c2, rfl, i2, h2, _⟩; have hw : Keep X w3 := Below.trans (keepd' (Keep.refl X)) h2; simp only)
        | fail))
    · go_wp2_with fail
      go_meet
      exact ⟨w3.heap.size, A2, n2, c2, rfl, rfl, Bs.new _ _ _ _, i2.kept ((Keep.refl w3).alloc _), hw.alloc _⟩
    · go_wp2_with fail
      go_meet
      obtain ⟨g0, g1, y0, y1, hlt⟩ := hn
      exact ⟨X.heap.size, A2, n2, c2, rfl, rfl, ⟨⟨by go_simp; rfl, by go_simp⟩, by simpa using hlt⟩,
        i2.skip (q := X.heap.size) (fun h => by obtain ⟨b, e, hb⟩ := hfr h; exact ⟨b, e, by simp at hb; omega⟩) (by simp) (fun p hp => by rw [World.cell?_of_block (Below.heap_setCell _ _ _ _ hp), World.cell?_of_block (Below.heap_setCell _ _ _ _ hp)]),
        (hw.setCell (Nat.le_refl _) _).setCell (Nat.le_refl _) _⟩
  case rest =>
    obtain ⟨q, A2, n2, c2, rfl, rfl, B2, i2, hk2⟩ := hcut
    have B2 := Lib.hid B2
    replace B1 := Lib.hid (B1.out.kept hk2)
    replace k0 := k0.trans hk2
    obtain rfl : 1 = n2 := i2.1
    clear hk2
    obtain ⟨⟨a1, b1⟩, _⟩ := B1.out
    obtain ⟨⟨a2, b2⟩, _⟩ := B2.out
    go_wp2_with fail
    refine (P3.out _).mono ?_
    rintro e w4 ⟨A3, n3, c3, rfl, i3, h3, _⟩
    obtain rfl : 0 = n3 := i3.1
    replace i2 := i2.kept h3
    replace k0 := k0.trans h3
    clear a1 b1
    replace B1 := Lib.hid (B1.out.kept h3)
    clear a2 b2
    replace B2 := Lib.hid (B2.out.kept h3)
    clear h3
    obtain ⟨⟨a1, b1⟩, _⟩ := B1.out
    obtain ⟨⟨a2, b2⟩, _⟩ := B2.out
    simp only
    rw [show st [] = (⟨#[]⟩ : ByteArray) from rfl]
    obtain ⟨b', off, rfl, _⟩ := i2.addr (by omega)
    obtain ⟨_, m0, m1, m2⟩ := row_frame i2 0 (by omega)
    simp only [Nat.zero_mul, Nat.add_zero, List.getD_cons_zero] at m0 m1 m2
    go_wp2_with fail
    refine (R1.out _).mono ?_
    rintro e w5 ⟨rfl, h5⟩
    rw [HR1.out]
    go_wp2
    go_ret
    exact ⟨rfl, (k0.alloc _).trans h5⟩

set_option maxHeartbeats 2000000 in
theorem tells_any (buf b : ByteArray) (bad : Bool) (w : World) (hs : buf.size ≤ maxLen) (hb : b.size ≤ maxLen) :
    Calls Try.prog 3 #[.agg #[.string buf, .bool bad], .string b] w fun e w' => e = .returned (.bool true) ∧ Keep w w' := by
  unfold maxLen at hs hb
  by_cases hs : 500 < buf.size
  · have ds : decide ((500 : Int) < (buf.size : Int)) = true := by simp; omega
    obtain ⟨X, hX⟩ : ∃ X, X = w.alloc (.cells #[.string buf, .bool bad] 23) := ⟨_, rfl⟩
    have k0 : Keep w X := by rw [hX]; exact (Keep.refl w).alloc _
    have B0 : Hid (Bs w.heap.size buf bad X) := Lib.hid (by rw [hX]; exact Bs.new w buf bad _)
    obtain ⟨⟨a0, b0⟩, _⟩ := B0.out
    go_enter Try.func3, Try.ntmps3
    go_wp2_with fail
    rw [← hX]
    refine (awake_any _).mono ?_
    rintro e w1 ⟨rfl, hb⟩
    go_wp2
    go_ret
    exact ⟨rfl, k0.trans hb⟩
  have ds : decide ((500 : Int) < (buf.size : Int)) = false := by simp; omega
  by_cases hb : 2000 < b.size
  · have db : decide ((2000 : Int) < (b.size : Int)) = true := by simp; omega
    obtain ⟨X, hX⟩ : ∃ X, X = w.alloc (.cells #[.string buf, .bool bad] 23) := ⟨_, rfl⟩
    have k0 : Keep w X := by rw [hX]; exact (Keep.refl w).alloc _
    have B0 : Hid (Bs w.heap.size buf bad X) := Lib.hid (by rw [hX]; exact Bs.new w buf bad _)
    obtain ⟨⟨a0, b0⟩, _⟩ := B0.out
    go_enter Try.func3, Try.ntmps3
    go_wp2_with fail
    rw [← hX]
    refine (awake_any _).mono ?_
    rintro e w1 ⟨rfl, hb⟩
    go_wp2
    go_ret
    exact ⟨rfl, k0.trans hb⟩
  have db : decide ((2000 : Int) < (b.size : Int)) = false := by simp; omega
  cases hr : Sm.right ⟨bl buf, bad⟩
  · have HR := Lib.hid hr
    clear hr
    obtain ⟨X, hX⟩ : ∃ X, X = w.alloc (.cells #[.string buf, .bool bad] 23) := ⟨_, rfl⟩
    have k0 : Keep w X := by rw [hX]; exact (Keep.refl w).alloc _
    have B0 : Hid (Bs w.heap.size buf bad X) := Lib.hid (by rw [hX]; exact Bs.new w buf bad _)
    obtain ⟨⟨a0, b0⟩, _⟩ := B0.out
    go_enter Try.func3, Try.ntmps3
    go_wp2
    rw [← hX]
    clear hX
    have hk0 : ∀ p : KeptOf X, p.w.cell? ⟨w.heap.size, 0, none⟩ = some (.string buf) := fun p => (B0.out.kept p.h).1.1
    have hk1 : ∀ p : KeptOf X, p.w.cell? ⟨w.heap.size, 1, none⟩ = some (.bool bad) := fun p => (B0.out.kept p.h).1.2
    have hR1 : ∀ p : KeptOf X, Calls Try.prog 7 #[.agg #[.string buf, .bool bad]] p.w fun e w' => e = .returned (.bool false) ∧ Keep p.w w' := fun p => by
      have h := right_any buf bad p.w (by unfold maxLen; omega)
      rwa [HR.out] at h
    have hR2 : ∀ p : KeptOf X, Calls Try.prog 8 #[.agg #[.string buf, .bool bad]] p.w fun e w' => e = .returned (.bool false) ∧ Keep p.w w' := fun p => by
      have h := Ref9.right_any buf bad p.w (by unfold maxLen; omega)
      rwa [HR.out] at h
    clear a0 b0
    refine wp_region_kept (by kernel_rfl) (by kernel_rfl) ?_
    repeat (go_big_quiet_step (first | with_reducible exact KeptOf.of (hR1 _) | with_reducible exact KeptOf.of (hR2 _)))
    refine Go.wpQuiet_nil ?_
    intro _ hw'
    obtain ⟨⟨V, hw⟩, hw''⟩ := hw'
    subst hw''
    replace B0 := Lib.hid (B0.out.kept hw)
    replace k0 := k0.trans hw
    clear hw hk0 hk1 hR1 hR2
    obtain ⟨⟨a0, b0⟩, _⟩ := B0.out
    go_wp2_with fail
    refine (Ref9.right_any buf bad _ (by unfold maxLen; omega)).mono ?_
    rintro e w1 ⟨rfl, h1⟩
    rw [HR.out]
    replace k0 := k0.trans h1
    clear a0 b0
    replace B0 := Lib.hid (B0.out.kept h1)
    clear h1
    obtain ⟨⟨a0, b0⟩, _⟩ := B0.out
    go_wp2_with fail
    refine (awake_any _).mono ?_
    rintro e w2 ⟨rfl, h2⟩
    go_wp2
    go_ret
    exact ⟨rfl, k0.trans h2⟩
  · have HR := Lib.hid hr
    have hrr := Sm.feed_right (bl b) ⟨bl buf, bad⟩ [] hr
    rcases hx : Sm.feed (⟨bl buf, bad⟩, []) (bl b) with ⟨⟨xb, xd⟩, fs⟩
    rw [hx] at hrr
    have hxl := Sm.right_len _ hrr
    simp only at hrr hxl
    have HX := Lib.hid hx
    have HRR := Lib.hid hrr
    have hgd := guardS
    have heq := eqS (st xb) xd
    have hsz : (st xb).size = xb.length := st_size xb
    have hfs : fs.length ≤ 3000 := by
      have := Sm.feed_count (bl b) ⟨bl buf, bad⟩ []
      rw [hx, bl_length] at this
      simp only [List.length_nil] at this
      omega
    clear hr hx hrr
    obtain ⟨X, hX⟩ : ∃ X, X = w.alloc (.cells #[.string buf, .bool bad] 23) := ⟨_, rfl⟩
    have k0 : Keep w X := by rw [hX]; exact (Keep.refl w).alloc _
    have B0 : Hid (Bs w.heap.size buf bad X) := Lib.hid (by rw [hX]; exact Bs.new w buf bad _)
    obtain ⟨⟨a0, b0⟩, _⟩ := B0.out
    go_enter Try.func3, Try.ntmps3
    go_wp2
    rw [← hX]
    clear hX
    have hk0 : ∀ p : KeptOf X, p.w.cell? ⟨w.heap.size, 0, none⟩ = some (.string buf) := fun p => (B0.out.kept p.h).1.1
    have hk1 : ∀ p : KeptOf X, p.w.cell? ⟨w.heap.size, 1, none⟩ = some (.bool bad) := fun p => (B0.out.kept p.h).1.2
    have hR1 : ∀ p : KeptOf X, Calls Try.prog 7 #[.agg #[.string buf, .bool bad]] p.w fun e w' => e = .returned (.bool true) ∧ Keep p.w w' := fun p => by
      have h := right_any buf bad p.w (by unfold maxLen; omega)
      rwa [HR.out] at h
    have hR2 : ∀ p : KeptOf X, Calls Try.prog 8 #[.agg #[.string buf, .bool bad]] p.w fun e w' => e = .returned (.bool true) ∧ Keep p.w w' := fun p => by
      have h := Ref9.right_any buf bad p.w (by unfold maxLen; omega)
      rwa [HR.out] at h
    clear a0 b0
    refine wp_region_kept (by kernel_rfl) (by kernel_rfl) ?_
    repeat (go_big_quiet_step (first | with_reducible exact KeptOf.of (hR1 _) | with_reducible exact KeptOf.of (hR2 _)))
    refine Go.wpQuiet_nil ?_
    intro _ hw'
    obtain ⟨⟨V, hw⟩, hw''⟩ := hw'
    subst hw''
    replace B0 := Lib.hid (B0.out.kept hw)
    replace k0 := k0.trans hw
    clear hw hk0 hk1 hR1 hR2
    obtain ⟨⟨a0, b0⟩, _⟩ := B0.out
    go_wp2_with fail
    refine (Ref9.right_any buf bad _ (by unfold maxLen; omega)).mono ?_
    rintro e w1 ⟨rfl, h1⟩
    rw [HR.out]
    replace k0 := k0.trans h1
    clear a0 b0
    replace B0 := Lib.hid (B0.out.kept h1)
    clear h1
    obtain ⟨⟨a0, b0⟩, _⟩ := B0.out
    go_wp2_with fail
    refine (push_to buf b bad _ _ _ (by omega) (by omega) HR.out HX.out).mono ?_
    rintro e w2 ⟨A1, n1, c1, rfl, i1, h2, _⟩
    replace k0 := k0.trans h2
    clear a0 b0
    replace B0 := Lib.hid (B0.out.kept h2)
    clear h2
    obtain ⟨⟨a0, b0⟩, _⟩ := B0.out
    simp only at i1 ⊢
    have B1 := Bs.new w2 (st xb) xd 23
    have h2a := (Keep.refl w2).alloc (.cells #[.string (st xb), .bool xd] 23)
    go_wp2_with fail
    refine (Ref9.push_any buf b bad _ (by omega) (by omega)).mono ?_
    rw [HX.out]
    rintro e w3 ⟨A2, n2, c2, rfl, i2, h3, _⟩
    replace B1 := Lib.hid (B1.kept h3)
    replace h3 := h2a.trans h3
    replace i1 := i1.kept h3
    replace k0 := k0.trans h3
    clear a0 b0
    replace B0 := Lib.hid (B0.out.kept h3)
    clear h3
    obtain ⟨⟨a0, b0⟩, _⟩ := B0.out
    simp only at i2 ⊢
    have hn1 : n1 ≤ 1000000 := by have := i1.1; omega
    have B2 := Bs.new w3 (st xb) xd 23
    have h3a := (Keep.refl w3).alloc (.cells #[.string (st xb), .bool xd] 23)
    go_wp2_with fail
    refine (awake_any _).mono ?_
    rintro e w4 ⟨rfl, h4⟩
    replace B2 := Lib.hid (B2.kept h4)
    replace h4 := h3a.trans h4
    replace B1 := Lib.hid (B1.out.kept h4)
    replace i1 := i1.kept h4
    replace i2 := i2.kept h4
    replace k0 := k0.trans h4
    clear a0 b0
    replace B0 := Lib.hid (B0.out.kept h4)
    clear h4
    obtain ⟨⟨a0, b0⟩, _⟩ := B0.out
    obtain ⟨⟨a1, b1⟩, _⟩ := B1.out
    obtain ⟨⟨a2, b2⟩, _⟩ := B2.out
    go_wp2_with fail
    refine (frames_same A1 A2 n1 n2 c1 c2 fs _ hn1 i1 i2).mono ?_
    rintro e w5 ⟨rfl, h5⟩
    replace k0 := k0.trans h5
    clear a0 b0
    replace B0 := Lib.hid (B0.out.kept h5)
    clear a1 b1
    replace B1 := Lib.hid (B1.out.kept h5)
    clear a2 b2
    replace B2 := Lib.hid (B2.out.kept h5)
    clear h5
    obtain ⟨⟨a0, b0⟩, _⟩ := B0.out
    obtain ⟨⟨a1, b1⟩, _⟩ := B1.out
    obtain ⟨⟨a2, b2⟩, _⟩ := B2.out
    go_wp2_with fail
    refine (right_any (st xb) xd _ (by rw [hsz]; unfold maxLen; omega)).mono ?_
    rintro e w6 ⟨rfl, h6⟩
    rw [show Sm.right ⟨bl (st xb), xd⟩ = true from HRR.out]
    replace k0 := k0.trans h6
    clear a0 b0
    replace B0 := Lib.hid (B0.out.kept h6)
    clear a1 b1
    replace B1 := Lib.hid (B1.out.kept h6)
    clear a2 b2
    replace B2 := Lib.hid (B2.out.kept h6)
    clear h6
    obtain ⟨⟨a0, b0⟩, _⟩ := B0.out
    obtain ⟨⟨a1, b1⟩, _⟩ := B1.out
    obtain ⟨⟨a2, b2⟩, _⟩ := B2.out
    go_wp2
    go_ret
    exact ⟨ret_bool (by simp; omega), k0⟩
end Go.Proofs.Ytanlmonkmaiohaa.Strm
