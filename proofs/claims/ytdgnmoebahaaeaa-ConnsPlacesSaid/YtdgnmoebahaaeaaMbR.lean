/- Layer 8's reference: each function answers what the plain words of MbA say. Conditions: lengths at most a million. -/
import Derived.Test.YtdgnmoebahaaeaaMbA
import Derived.Test.YtdgnmoebahaaeaaTw2
import Derived.Test.YtdgnmoebahaaeaaStr
import Derived.Test.YtdgnmoebahaaeaaKept
import Derived.Deep.RegionHeld
import Derived.Deep.RegionHeld3
import Derived.Laws.ResultCell
namespace Go.Proofs.Ytdgnmoebahaaeaa.Ref8
set_option linter.unusedVariables false
open Go.ChangeShapes Go.WideShapes Go.ChangeAt Go.RowKit
open Str (toList_eq)

theorem ret_bool {b c : Bool} (h : b = c) : Ending.returned (.bool b) = Ending.returned (.bool c) := by rw [h]
theorem ret_ii {a b c d : Int} (h1 : a = c) (h2 : b = d) : Ending.returned (.tuple #[.int .i64 a, .int .i64 b]) = Ending.returned (.tuple #[.int .i64 c, .int .i64 d]) := by rw [h1, h2]
theorem ret_sb {a b : ByteArray} {c : Bool} (h : a = b) : Ending.returned (.tuple #[.string a, .bool c]) = Ending.returned (.tuple #[.string b, .bool c]) := by rw [h]
theorem keepd' {a b : World} (h : Keep a b) : Keep a b.drew := h.trans ((Quiet.refl b).drew).keep
theorem below_drewN' {B : Nat} {a w : World} (h : Below B a w) (n : Nat) : Below B a (w.drewN n) := h.trans (((Quiet.refl w).drewN n).below B)
/-- The three cells of a frame in a box. -/
def BoxedF (p : Nat) (f : FrameP) (w : World) : Prop := w.cell? ⟨p, 0, none⟩ = some (.int .i64 f.id) ∧ w.cell? ⟨p, 1, none⟩ = some (.int .i64 f.unit) ∧ w.cell? ⟨p, 2, none⟩ = some (.string f.pdu)
theorem BoxedF.new (w : World) (f : FrameP) (e : TypeId) : BoxedF w.heap.size f (w.alloc (.cells #[.int .i64 f.id, .int .i64 f.unit, .string f.pdu] e)) := by
  have hc : ∀ j v, (#[Value.int .i64 f.id, .int .i64 f.unit, .string f.pdu] : Array Value)[j]? = some v → (w.alloc (.cells #[.int .i64 f.id, .int .i64 f.unit, .string f.pdu] e)).cell? ⟨w.heap.size, j, none⟩ = some v := fun j v hj => by
    rw [World.cell?_alloc_at (hn := rfl), hj]
  exact ⟨hc 0 _ rfl, hc 1 _ rfl, hc 2 _ rfl⟩
theorem BoxedF.kept {p : Nat} {f : FrameP} {w w' : World} (h : BoxedF p f w) (hb : Keep w w') (hp : p < w.heap.size) : BoxedF p f w' := by
  obtain ⟨h0, h1, h2⟩ := h
  refine ⟨?_, ?_, ?_⟩ <;> (rw [Below.cell hb hp]; assumption)
theorem cell_new1 {X w5 : World} {v : Value} {e : TypeId} (hb : Keep (X.alloc (.cells #[v] e)).drew w5) : w5.cell? ⟨X.heap.size, 0, none⟩ = some v ∧ X.heap.size < w5.heap.size := by
  have hs : X.heap.size < (X.alloc (.cells #[v] e)).drew.heap.size := by simp
  refine ⟨(Below.cell hb hs).trans ?_, Nat.lt_of_lt_of_le hs hb.size⟩
  show (X.alloc (.cells #[v] e)).cell? _ = _
  rw [World.cell?_alloc_at (hn := rfl)]; rfl
theorem cell_new2 {X w5 : World} {v : Value} {e : TypeId} (hb : Keep (X.alloc (.cells #[v] e)) w5) : w5.cell? ⟨X.heap.size, 0, none⟩ = some v ∧ X.heap.size < w5.heap.size := by
  have hs : X.heap.size < (X.alloc (.cells #[v] e)).heap.size := by simp
  refine ⟨(Below.cell hb hs).trans ?_, Nat.lt_of_lt_of_le hs hb.size⟩
  rw [World.cell?_alloc_at (hn := rfl)]; rfl
theorem cell_on {W w5 : World} {g : Nat} {v : Value} (h : W.cell? ⟨g, 0, none⟩ = some v ∧ g < W.heap.size) (hb : Keep W w5) : w5.cell? ⟨g, 0, none⟩ = some v ∧ g < w5.heap.size :=
  ⟨(Below.cell hb h.2).trans h.1, Nat.lt_of_lt_of_le h.2 hb.size⟩
/-- One byte, as a text. -/
theorem conv_one {P : Program} {src e dst : TypeId} (hs : P.underlying src = some (.slice e)) (he : P.underlying e = some (.int .u8)) (hd : P.underlying dst = some .string) (u : Int) (h0 : 0 ≤ u) (h1 : u ≤ 255) (W : World) (g : Nat) (hg : W.cell? ⟨g, 0, none⟩ = some (.int .u8 u)) :
    (convert src dst (.slice (some ⟨g, 0, none⟩) 1 1)).run P W = .ok (.string (st [UInt8.ofNat u.toNat])) W := by
  have h := run_convert_bytes_arg (P := P) W src e hs he g 0 1 1 [u] rfl (fun i hi => by
    obtain rfl : i = 0 := by omega
    exact hg) dst hd
  rw [h]; rfl


set_option maxHeartbeats 400000 in
theorem need_any (s : ByteArray) (w : World) (hs : s.size ≤ maxLen) :
    Calls Try.prog 25 #[.string s] w fun e w' => e = .returned (.tuple #[.int .i64 (Mb.need s), .int .i64 (Mb.needErr s)]) ∧ Keep w w' := by
  by_cases h6 : s.size < 6
  · obtain ⟨e1, e2⟩ := Mb.need_short s h6
    rw [e1, e2]
    have d : decide ((s.size : Int) < 6) = true := by simp; omega
    clear e1 e2
    go_enter Try.func25, Try.ntmps25
    go_wp2
    go_ret2
    exact ⟨rfl, Keep.refl _⟩
  · have d : decide ((s.size : Int) < 6) = false := by simp; omega
    have g : ∀ i : Int, 0 ≤ i → i ≤ 4 → Tw.get s i = Tw.num s i := fun i h0 h4 => by
      rw [Tw.get, show Tw.getOk s i = true by simp [Tw.getOk]; omega]; rfl
    have HN := Lib.hid (show Mb.need s = (if Mb.bad s then 0 else 6 + Tw.num s 4) ∧ Mb.needErr s = (if Mb.bad s then 5 else 0) by
      unfold Mb.need Mb.needErr
      rw [if_neg h6, if_neg h6]; exact ⟨rfl, rfl⟩)
    obtain ⟨n2, hn2⟩ : ∃ n, n = Tw.num s 2 := ⟨_, rfl⟩
    obtain ⟨n4, hn4⟩ : ∃ n, n = Tw.num s 4 := ⟨_, rfl⟩
    have HB := Lib.hid (show Mb.bad s = (!(n2 == 0) || decide (n4 < 2) || decide (254 < n4)) by rw [hn2, hn4]; rfl)
    have H4 := Lib.hid hn4
    have E2 := Lib.hid (show Tw.get s 2 = n2 by rw [hn2]; exact g 2 (by omega) (by omega))
    have E4 := Lib.hid (show Tw.get s 4 = n4 by rw [hn4]; exact g 4 (by omega) (by omega))
    have hr4 := Tw.num_range s 4
    rw [← hn4] at hr4
    obtain ⟨r1, r2⟩ := hr4
    clear g hn2 hn4
    go_enter Try.func25, Try.ntmps25
    go_wp2_with fail
    refine (Ref1.at_any s 4 _ hs).mono ?_
    rintro e w1 ⟨rfl, h1⟩
    rw [E4.out]
    go_wp2_with fail
    refine (Ref1.at_any s 2 _ hs).mono ?_
    rintro e w2 ⟨rfl, h2⟩
    rw [E2.out]
    have k := h1.keep.trans h2.keep
    go_wp2
    all_goals (
      go_ret2
      refine ⟨ret_ii ?_ ?_, k⟩
      · rw [HN.out.1, HB.out, ← H4.out]; first | (simp_all; done) | (simp_all; omega)
      · rw [HN.out.2, HB.out]; first | (simp_all; done) | (simp_all; omega))


theorem needs (s : ByteArray) : Mb.whole s = (Mb.needErr s == 0 && !(Mb.need s == 0) && Mb.need s == (s.size : Int)) := Mb.whole_need s
/-- What comes back: a frame, and something more. -/
def RetFrame (f : FrameP) (v : Value) (w : World) (e : Ending) (w' : World) : Prop := e = .returned (.tuple #[.agg #[.int .i64 f.id, .int .i64 f.unit, .string f.pdu], v]) ∧ Keep w w'
end Go.Proofs.Ytdgnmoebahaaeaa.Ref8
