/- Layer 8's reference: each function answers what the plain words of MbA say. Conditions: lengths at most a million. -/
import Derived.Test.YtanlmonkmaiohaaMbA
import Derived.Test.YtanlmonkmaiohaaTw2
import Derived.Test.YtanlmonkmaiohaaStr
import Derived.Test.YtanlmonkmaiohaaKept
import Derived.Deep.RegionHeld
import Derived.Deep.RegionHeld3
import Derived.Laws.ResultCell
namespace Go.Proofs.Ytanlmonkmaiohaa.Ref8
set_option linter.unusedVariables false
open Go.ChangeShapes Go.WideShapes Go.ChangeAt Go.RowKit
open Str (toList_eq)

theorem ret_bool {b c : Bool} (h : b = c) : Ending.returned (.bool b) = Ending.returned (.bool c) := by rw [h]
theorem ret_ii {a b c d : Int} (h1 : a = c) (h2 : b = d) : Ending.returned (.tuple #[.int .i64 a, .int .i64 b]) = Ending.returned (.tuple #[.int .i64 c, .int .i64 d]) := by rw [h1, h2]
theorem ret_sb {a b : ByteArray} {c : Bool} (h : a = b) : Ending.returned (.tuple #[.string a, .bool c]) = Ending.returned (.tuple #[.string b, .bool c]) := by rw [h]
theorem keepd' {a b : World} (h : Keep a b) : Keep a b.drew := h.trans ((Quiet.refl b).drew).keep
theorem below_drewN' {B : Nat} {a w : World} (h : Below B a w) (n : Nat) : Below B a (w.drewN n) := h.trans (((Quiet.refl w).drewN n).below B)
/-- The three cells of a frame in a box. -/
def BoxedF (p : Nat) (f : FrameP) (w : World) : Prop := w.cell? ⟨p, 0, none⟩ = some (.int .i64 f.id) ∧ w.cell? ⟨p, 1, none⟩ = some (.int .i64 f.unit) ∧ w.cell? ⟨p, 2, none⟩ = some (.string f.pdu)
theorem BoxedF.new (w : World) (f : FrameP) (e : TypeId) : BoxedF w.heap.size f (w.alloc (.cells #[.int .i64 f.id, .int .i64 f.unit, .string f.pdu] e)) := by
  have hc : ∀ j v, (#[Value.int .i64 f.id, .int .i64 f.unit, .string f.pdu] : Array Value)[j]? = some v → (w.alloc (.cells #[.int .i64 f.id, .int .i64 f.unit, .string f.pdu] e)).cell? ⟨w.heap.size, j, none⟩ = some v := fun j v hj => by
    rw [World.cell?_alloc_at (hn := rfl), hj]
  exact ⟨hc 0 _ rfl, hc 1 _ rfl, hc 2 _ rfl⟩
theorem BoxedF.kept {p : Nat} {f : FrameP} {w w' : World} (h : BoxedF p f w) (hb : Keep w w') (hp : p < w.heap.size) : BoxedF p f w' := by
  obtain ⟨h0, h1, h2⟩ := h
  refine ⟨?_, ?_, ?_⟩ <;> (rw [Below.cell hb hp]; assumption)
theorem cell_new1 {X w5 : World} {v : Value} {e : TypeId} (hb : Keep (X.alloc (.cells #[v] e)).drew w5) : w5.cell? ⟨X.heap.size, 0, none⟩ = some v ∧ X.heap.size < w5.heap.size := by
  have hs : X.heap.size < (X.alloc (.cells #[v] e)).drew.heap.size := by simp
  refine ⟨(Below.cell hb hs).trans ?_, Nat.lt_of_lt_of_le hs hb.size⟩
  show (X.alloc (.cells #[v] e)).cell? _ = _
  rw [World.cell?_alloc_at (hn := rfl)]; rfl
theorem cell_new2 {X w5 : World} {v : Value} {e : TypeId} (hb : Keep (X.alloc (.cells #[v] e)) w5) : w5.cell? ⟨X.heap.size, 0, none⟩ = some v ∧ X.heap.size < w5.heap.size := by
  have hs : X.heap.size < (X.alloc (.cells #[v] e)).heap.size := by simp
  refine ⟨(Below.cell hb hs).trans ?_, Nat.lt_of_lt_of_le hs hb.size⟩
  rw [World.cell?_alloc_at (hn := rfl)]; rfl
theorem cell_on {W w5 : World} {g : Nat} {v : Value} (h : W.cell? ⟨g, 0, none⟩ = some v ∧ g < W.heap.size) (hb : Keep W w5) : w5.cell? ⟨g, 0, none⟩ = some v ∧ g < w5.heap.size :=
  ⟨(Below.cell hb h.2).trans h.1, Nat.lt_of_lt_of_le h.2 hb.size⟩
/-- One byte, as a text. -/
theorem conv_one {P : Program} {src e dst : TypeId} (hs : P.underlying src = some (.slice e)) (he : P.underlying e = some (.int .u8)) (hd : P.underlying dst = some .string) (u : Int) (h0 : 0 ≤ u) (h1 : u ≤ 255) (W : World) (g : Nat) (hg : W.cell? ⟨g, 0, none⟩ = some (.int .u8 u)) :
    (convert src dst (.slice (some ⟨g, 0, none⟩) 1 1)).run P W = .ok (.string (st [UInt8.ofNat u.toNat])) W := by
  have h := run_convert_bytes_arg (P := P) W src e hs he g 0 1 1 [u] rfl (fun i hi => by
    obtain rfl : i = 0 := by omega
    exact hg) dst hd
  rw [h]; rfl

set_option maxHeartbeats 400000 in
theorem right_any (f : FrameP) (w : World) (hs : f.pdu.size ≤ maxLen) :
    Calls Try.prog 18 #[.agg #[.int .i64 f.id, .int .i64 f.unit, .string f.pdu]] w fun e w' => e = .returned (.bool (Mb.right f)) ∧ Keep w w' := by
  obtain ⟨id, un, pdu⟩ := f
  unfold maxLen at hs
  simp only at hs ⊢
  go_enter Try.func18, Try.ntmps18
  go_wp2
  all_goals (go_ret; refine ⟨ret_bool ?_, (Keep.refl w).alloc _⟩; rw [Bool.eq_iff_iff, Mb.right_iff]; simp <;> omega)

set_option maxHeartbeats 400000 in
theorem need_any (s : ByteArray) (w : World) (hs : s.size ≤ maxLen) :
    Calls Try.prog 15 #[.string s] w fun e w' => e = .returned (.tuple #[.int .i64 (Mb.need s), .int .i64 (Mb.needErr s)]) ∧ Keep w w' := by
  by_cases h6 : s.size < 6
  · obtain ⟨e1, e2⟩ := Mb.need_short s h6
    rw [e1, e2]
    have d : decide ((s.size : Int) < 6) = true := by simp; omega
    clear e1 e2
    go_enter Try.func15, Try.ntmps15
    go_wp2
    go_ret2
    exact ⟨rfl, Keep.refl _⟩
  · have d : decide ((s.size : Int) < 6) = false := by simp; omega
    have g : ∀ i : Int, 0 ≤ i → i ≤ 4 → Tw.get s i = Tw.num s i := fun i h0 h4 => by
      rw [Tw.get, show Tw.getOk s i = true by simp [Tw.getOk]; omega]; rfl
    have HN := Lib.hid (show Mb.need s = (if Mb.bad s then 0 else 6 + Tw.num s 4) ∧ Mb.needErr s = (if Mb.bad s then 5 else 0) by
      unfold Mb.need Mb.needErr
      rw [if_neg h6, if_neg h6]; exact ⟨rfl, rfl⟩)
    obtain ⟨n2, hn2⟩ : ∃ n, n = Tw.num s 2 := ⟨_, rfl⟩
    obtain ⟨n4, hn4⟩ : ∃ n, n = Tw.num s 4 := ⟨_, rfl⟩
    have HB := Lib.hid (show Mb.bad s = (!(n2 == 0) || decide (n4 < 2) || decide (254 < n4)) by rw [hn2, hn4]; rfl)
    have H4 := Lib.hid hn4
    have E2 := Lib.hid (show Tw.get s 2 = n2 by rw [hn2]; exact g 2 (by omega) (by omega))
    have E4 := Lib.hid (show Tw.get s 4 = n4 by rw [hn4]; exact g 4 (by omega) (by omega))
    have hr4 := Tw.num_range s 4
    rw [← hn4] at hr4
    obtain ⟨r1, r2⟩ := hr4
    clear g hn2 hn4
    go_enter Try.func15, Try.ntmps15
    go_wp2_with fail
    refine (Ref1.at_any s 4 _ hs).mono ?_
    rintro e w1 ⟨rfl, h1⟩
    rw [E4.out]
    go_wp2_with fail
    refine (Ref1.at_any s 2 _ hs).mono ?_
    rintro e w2 ⟨rfl, h2⟩
    rw [E2.out]
    have k := h1.keep.trans h2.keep
    go_wp2
    all_goals (
      go_ret2
      refine ⟨ret_ii ?_ ?_, k⟩
      · rw [HN.out.1, HB.out, ← H4.out]; first | (simp_all; done) | (simp_all; omega)
      · rw [HN.out.2, HB.out]; first | (simp_all; done) | (simp_all; omega))

set_option maxHeartbeats 2000000 in
theorem put_any (f : FrameP) (w : World) (hs : f.pdu.size ≤ maxLen) :
    Calls Try.prog 12 #[.agg #[.int .i64 f.id, .int .i64 f.unit, .string f.pdu]] w fun e w' => e = .returned (.tuple #[.string (st (Mb.put f)), .bool (Mb.right f)]) ∧ Keep w w' := by
  have hbx := BoxedF.new w f 34
  have k0 := (Keep.refl w).alloc (.cells #[.int .i64 f.id, .int .i64 f.unit, .string f.pdu] 34)
  have hlt0 : w.heap.size < (w.alloc (.cells #[.int .i64 f.id, .int .i64 f.unit, .string f.pdu] 34)).heap.size := by simp
  cases hr : Mb.right f
  · have HP := Lib.hid (show Mb.put f = [] by rw [Mb.put, hr]; rfl)
    go_enter Try.func12, Try.ntmps12
    go_wp2_with fail
    refine (right_any f _ hs).mono ?_
    rintro e X ⟨rfl, hK⟩
    rw [hr]
    go_wp2
    go_ret2
    exact ⟨by rw [HP.out]; rfl, k0.trans hK⟩
  · obtain ⟨⟨i1, i2⟩, ⟨u1, u2⟩, l1, l2⟩ := (Mb.right_iff f).1 hr
    obtain ⟨p1, hp1⟩ : ∃ p, p = Tw.put [f.id] := ⟨_, rfl⟩
    obtain ⟨p2, hp2⟩ : ∃ p, p = Tw.put [1 + (f.pdu.size : Int)] := ⟨_, rfl⟩
    obtain ⟨b, hb0⟩ : ∃ b, b = UInt8.ofNat f.unit.toNat := ⟨_, rfl⟩
    have t1 : p1 = Tw.two f.id := by rw [hp1]; simp [Tw.put, Tw.allIn, Tw.inR_of i1 i2, Tw.bytes]
    have t2 : p2 = Tw.two (1 + (f.pdu.size : Int)) := by rw [hp2]; simp [Tw.put, Tw.allIn, Tw.inR_of (show 0 ≤ 1 + (f.pdu.size : Int) by omega) (show 1 + (f.pdu.size : Int) ≤ 65535 by omega), Tw.bytes]
    have n1 : p1.length = 2 := by rw [t1]; rfl
    have n2 : p2.length = 2 := by rw [t2]; rfl
    have HP := Lib.hid (show st (((p1 ++ [0, 0]) ++ p2) ++ [b]) ++ f.pdu = st (Mb.put f) by
      rw [Mb.put, hr, if_pos rfl, Mb.bytes, ← t1, ← t2, ← hb0, ← st_bl f.pdu, st_add, st_bl]
      congr 1
      simp [Tw.two])
    have h8 : IntKind.u8.wrap f.unit = f.unit := by rw [IntKind.wrap_u8]; omega
    have h9 : IntKind.i64.wrap (1 + (f.pdu.size : Int)) = 1 + (f.pdu.size : Int) := by rw [IntKind.wrap_i64]; omega
    obtain ⟨q1, hq1⟩ : ∃ q, q = p1 ++ [0, 0] := ⟨_, rfl⟩
    obtain ⟨q2, hq2⟩ : ∃ q, q = q1 ++ p2 := ⟨_, rfl⟩
    obtain ⟨q3, hq3⟩ : ∃ q, q = q2 ++ [b] := ⟨_, rfl⟩
    obtain ⟨t, ht⟩ : ∃ t, t = st q3 ++ f.pdu := ⟨_, rfl⟩
    have n3 : q1.length = 4 := by rw [hq1, List.length_append, n1]; rfl
    have n4 : q2.length = 6 := by rw [hq2, List.length_append, n3, n2]
    have n5 : q3.length = 7 := by rw [hq3, List.length_append, n4]; rfl
    have a1 : ∀ W : World, (Op.stringOp .add (st p1) ⟨#[0, 0]⟩).run Try.prog W = .ok (.string (st q1)) W := by rw [hq1]; exact add_st p1 [0, 0] (by rw [n1]; decide)
    have a2 : ∀ W : World, (Op.stringOp .add (st q1) (st p2)).run Try.prog W = .ok (.string (st q2)) W := by rw [hq2]; exact add_st q1 p2 (by omega)
    have a3 : ∀ W : World, (Op.stringOp .add (st q2) (st [b])).run Try.prog W = .ok (.string (st q3)) W := by rw [hq3]; exact add_st q2 [b] (by rw [n4]; simp)
    have a4 : ∀ W : World, (Op.stringOp .add (st q3) f.pdu).run Try.prog W = .ok (.string t) W := fun W => by rw [ht]; exact run_string_add_sum W _ _ (by rw [st_size]; omega)
    have HP := Lib.hid (show t = st (Mb.put f) by rw [ht, hq3, hq2, hq1]; exact HP.out)
    clear hq1 hq2 hq3 ht n1 n2 n3 n4 n5
    have hcv := fun (W : World) (g : Nat) (hg : W.cell? ⟨g, 0, none⟩ = some (.int .u8 f.unit)) => conv_one (P := Try.prog) Try.underlying31 Try.underlying5 Try.underlying9 f.unit u1 u2 W g hg
    rw [← hb0] at hcv
    have hcvA : ∀ w : World, (convert 31 9 (.slice (some ⟨w.heap.size, 0, none⟩) 1 1)).run Try.prog (w.alloc (.cells #[.int .u8 f.unit] 5)) = .ok (.string (st [b])) (w.alloc (.cells #[.int .u8 f.unit] 5)) :=
      fun w => hcv _ _ (by rw [World.cell?_alloc_at (hn := rfl)]; rfl)
    have hcvB : ∀ w : World, (convert 31 9 (.slice (some ⟨w.heap.size, 0, none⟩) 1 1)).run Try.prog (w.alloc (.cells #[.int .u8 f.unit] 5)).drew = .ok (.string (st [b])) (w.alloc (.cells #[.int .u8 f.unit] 5)).drew :=
      fun w => hcv _ _ (by show (w.alloc _).cell? _ = _; rw [World.cell?_alloc_at (hn := rfl)]; rfl)
    have HP1 := Lib.hid hp1
    have HP2 := Lib.hid hp2
    have HCV := Lib.hid hcv
    clear hp1 hp2 hb0 t1 t2 hcv
    go_enter Try.func12, Try.ntmps12
    go_wp2_with fail
    refine (right_any f _ hs).mono ?_
    rintro e X ⟨rfl, hK⟩
    rw [hr]
    have hbx := hbx.kept hK hlt0
    have hlt : w.heap.size < X.heap.size := Nat.lt_of_lt_of_le hlt0 hK.size
    replace k0 := k0.trans hK
    clear hK hlt0
    have hS : ∀ W, Keep X W → W.cell? ⟨w.heap.size, 0, none⟩ = some (.int .i64 f.id) ∧ W.cell? ⟨w.heap.size, 1, none⟩ = some (.int .i64 f.unit) ∧ W.cell? ⟨w.heap.size, 2, none⟩ = some (.string f.pdu) := fun W h => hbx.kept h hlt
    go_wp2
    clear hbx
    go_region_held (fun W => W.cell? ⟨w.heap.size, 0, none⟩ = some (.int .i64 f.id) ∧ W.cell? ⟨w.heap.size, 1, none⟩ = some (.int .i64 f.unit) ∧ W.cell? ⟨w.heap.size, 2, none⟩ = some (.string f.pdu))
      (first
        | exact hS _ hw
        | exact hS _ (hw.alloc _)
        | exact hS _ (keepd' (Keep.refl X))
        | exact hS _ (keepd' ((Keep.refl X).alloc _))
        | fail)
      ((first
        | (go_at_call 19; refine (Ref1.of_any _ _).mono ?_; rintro e w5 ⟨rfl, hb⟩; (first | rw [← HP1.out] | rw [← HP2.out]); replace hb : Keep _ w5 := hb; have hw : Keep X w5 := (by first | exact Keep.trans (keepd' ((Keep.refl X).alloc _)) hb | exact Keep.trans (keepd' (Keep.refl X)) hb | exact hw.trans hb | exact (hw.alloc _).trans hb); (first | (have hcell := cell_new1 hb; have hcv := HCV.out w5 _ hcell.1) | (have hcell := cell_new2 hb; have hcv := HCV.out w5 _ hcell.1) | (have hcell := cell_on hcell hb; have hcv := HCV.out w5 _ hcell.1) | skip))
        | fail))
    all_goals (
      clear hcvA hcvB a1 a2 a3 a4 HCV HP1 HP2 hS
      go_wp2
      go_ret2
      exact ⟨ret_sb HP.out, k0.trans (by first | exact hw | exact hw.alloc _)⟩)

theorem needs (s : ByteArray) : Mb.whole s = (Mb.needErr s == 0 && !(Mb.need s == 0) && Mb.need s == (s.size : Int)) := Mb.whole_need s
/-- What comes back: a frame, and something more. -/
def RetFrame (f : FrameP) (v : Value) (w : World) (e : Ending) (w' : World) : Prop := e = .returned (.tuple #[.agg #[.int .i64 f.id, .int .i64 f.unit, .string f.pdu], v]) ∧ Keep w w'
set_option maxHeartbeats 2000000 in
theorem get_any (s : ByteArray) (w : World) (hs : s.size ≤ maxLen) :
    Calls Try.prog 17 #[.string s] w (RetFrame (Mb.get s) (.int .i64 (Mb.getErr s)) w) := by
  obtain ⟨n, hn⟩ : ∃ n, n = Mb.need s := ⟨_, rfl⟩
  obtain ⟨er, her⟩ : ∃ n, n = Mb.needErr s := ⟨_, rfl⟩
  have hw0 := needs s
  rw [← hn, ← her] at hw0
  have hn0 : 0 ≤ n := by
    rw [hn]
    by_cases h : s.size < 6
    · rw [(Mb.need_short s h).1]; omega
    · rcases Mb.need_range s (by omega) with h | h <;> omega
  have HN := Lib.hid hn
  have HE := Lib.hid her
  clear hn her
  have bad : Mb.whole s = false → Calls Try.prog 17 #[.string s] w (RetFrame Mb.zero (.int .i64 5) w) := fun hno => by
    rw [hno] at hw0
    have hcase : (er != 0) = true ∨ ((er != 0) = false ∧ (n == 0) = true) ∨ ((er != 0) = false ∧ (n == 0) = false ∧ (n != (s.size : Int)) = true) := by
      cases h1 : (er == 0)
      · left; simp [bne, h1]
      · cases h2 : (n == 0)
        · right; right
          refine ⟨by simp [bne, h1], rfl, ?_⟩
          rw [h1, h2] at hw0
          simp only [Bool.not_false, Bool.and_true, Bool.true_and] at hw0
          rw [bne, ← hw0]; rfl
        · right; left; exact ⟨by simp [bne, h1], rfl⟩
    clear hw0 hno
    rcases hcase with d1 | ⟨d1, d2⟩ | ⟨d1, d2, d3⟩ <;> (
      go_enter Try.func17, Try.ntmps17
      go_wp2_with fail
      refine (need_any s _ hs).mono ?_
      rintro e V ⟨rfl, hb⟩
      rw [← HN.out, ← HE.out]
      have hz : w.heap.size < V.heap.size := by have := hb.size; simp at this; omega
      have c0 : V.cell? ⟨w.heap.size, 0, none⟩ = some (.int .i64 0) := (Below.cell hb (by simp)).trans (by go_simp)
      have c1 : V.cell? ⟨w.heap.size, 1, none⟩ = some (.int .i64 0) := (Below.cell hb (by simp)).trans (by go_simp)
      have c2 : V.cell? ⟨w.heap.size, 2, none⟩ = some (.string ⟨#[]⟩) := (Below.cell hb (by simp)).trans (by go_simp)
      have f0 : ∀ j, V.frozen? ⟨w.heap.size, j, none⟩ = false := fun j => (Below.frozen hb (by simp)).trans (by go_simp)
      have hbW : Keep w V := ((Keep.refl w).alloc _).trans hb
      clear hb
      go_wp2
      (try simp only [Exit.inBlock, Exit.then])
      refine bodyPost_ret (v := .tuple #[.agg #[.int .i64 0, .int .i64 0, .string ⟨#[]⟩], .int .i64 5]) ?_ rfl ⟨rfl, ?_⟩
      · rw [results_cell_tmp rfl]
        go_simp
      · clear c0 c1 c2 f0
        exact ((hbW.setCell (Nat.le_refl _) _).setCell (Nat.le_refl _) _).setCell (Nat.le_refl _) _)
  cases hw : Mb.whole s
  · have e1 : Mb.get s = Mb.zero := by rw [Mb.get, hw]; rfl
    have e2 : Mb.getErr s = 5 := by rw [Mb.getErr, hw]; rfl
    rw [e1, e2]
    exact bad hw
  · clear bad
    have e1 : Mb.get s = ⟨Tw.num s 0, byteAt s 6, Ak.sub s 7⟩ := by rw [Mb.get, hw]; rfl
    have e2 : Mb.getErr s = 0 := by rw [Mb.getErr, hw]; rfl
    obtain ⟨h6, hbad, hsz⟩ := (Mb.whole_iff s).1 hw
    have h4 := ((Mb.bad_false s).1 hbad).2.1
    rw [e1, e2]
    rw [hw] at hw0
    have d1 : (er != 0) = false := by
      cases h : (er == 0)
      · rw [h] at hw0; simp at hw0
      · simp [bne, h]
    have d2 : (n == 0) = false := by
      cases h : (n == 0)
      · rfl
      · rw [h] at hw0; simp at hw0
    have d3 : (n != (s.size : Int)) = false := by
      cases h : (n == (s.size : Int))
      · rw [h] at hw0; simp at hw0
      · simp [bne, h]
    have h8 : 8 ≤ s.size := by omega
    have HG := Lib.hid (show Tw.get s 0 = Tw.num s 0 by rw [Tw.get, show Tw.getOk s 0 = true by simp [Tw.getOk]; omega]; rfl)
    have hx := idx (P := Try.prog) (k := .i64) s 6 Try.underlying9 (by omega) (by omega)
    have hr := byteAt_range s 6
    have h10 : IntKind.i64.wrap (byteAt s 6) = byteAt s 6 := by rw [IntKind.wrap_i64]; omega
    have hsl : ∀ W : World, (Instr.slice 9 (.string s) (some (.int .i64 7)) none none).run Try.prog W = .ok (.string (Ak.sub s 7)) W := fun W => by
      rw [← Ak.extract_end]
      have u := Try.underlying9
      have h2 : (7 : Int) ≤ (s.size : Int) := by omega
      go_simp
    clear hw0 hw e1 e2 hbad hsz h4
    go_enter Try.func17, Try.ntmps17
    go_wp2_with fail
    refine (need_any s _ hs).mono ?_
    rintro e V ⟨rfl, hb⟩
    rw [← HN.out, ← HE.out]
    have hz : w.heap.size < V.heap.size := by have := hb.size; simp at this; omega
    have c0 : V.cell? ⟨w.heap.size, 0, none⟩ = some (.int .i64 0) := (Below.cell hb (by simp)).trans (by go_simp)
    have c1 : V.cell? ⟨w.heap.size, 1, none⟩ = some (.int .i64 0) := (Below.cell hb (by simp)).trans (by go_simp)
    have c2 : V.cell? ⟨w.heap.size, 2, none⟩ = some (.string ⟨#[]⟩) := (Below.cell hb (by simp)).trans (by go_simp)
    have f0 : ∀ j, V.frozen? ⟨w.heap.size, j, none⟩ = false := fun j => (Below.frozen hb (by simp)).trans (by go_simp)
    have hbW : Keep w V := ((Keep.refl w).alloc _).trans hb
    clear hb
    go_wp2
    have HC := Lib.hid (show ∀ U, Keep V U → (U.cell? ⟨w.heap.size, 0, none⟩ = some (.int .i64 0) ∧ U.cell? ⟨w.heap.size, 1, none⟩ = some (.int .i64 0) ∧ U.cell? ⟨w.heap.size, 2, none⟩ = some (.string ⟨#[]⟩)) ∧ ∀ j, U.frozen? ⟨w.heap.size, j, none⟩ = false from fun U h =>
      ⟨⟨(Below.cell h hz).trans c0, (Below.cell h hz).trans c1, (Below.cell h hz).trans c2⟩, fun j => (Below.frozen h hz).trans (f0 j)⟩)
    clear c0 c1 c2 f0
    go_region_held3 (fun _ => True) (exact trivial)
      ((first
        | (go_at_call 21; refine (Ref1.at_any s 0 _ hs).mono ?_; rintro e U ⟨rfl, hq⟩; rw [HG.out]; have hU : Keep V U := Below.trans (keepd' (Keep.refl V)) hq.keep; obtain ⟨⟨c0, c1, c2⟩, f0⟩ := HC.out _ hU)
        | fail))
    all_goals (
      go_wp2
      (try simp only [Exit.inBlock, Exit.then])
      refine bodyPost_ret (v := .tuple #[.agg #[.int .i64 (Tw.num s 0), .int .i64 (byteAt s 6), .string (Ak.sub s 7)], .int .i64 0]) ?_ rfl ⟨rfl, ?_⟩
      · rw [results_cell_tmp rfl]
        go_simp
      · exact (((hbW.trans hU).setCell (Nat.le_refl _) _).setCell (Nat.le_refl _) _).setCell (Nat.le_refl _) _)
end Go.Proofs.Ytanlmonkmaiohaa.Ref8
