/- Layer 9's reference: Right, Push, and layer 8's Frames. Conditions: lengths at most a hundred thousand. -/
import Derived.Test.YtdgnmoebahaaeaaSmA
import Derived.Test.YtdgnmoebahaaeaaMbR
import Derived.Test.YtdgnmoebahaaeaaRow
import Derived.Laws.StructEq
import Derived.RegionTactic
namespace Go.Proofs.Ytdgnmoebahaaeaa.Ref9
set_option linter.unusedVariables false
open Go.ChangeShapes Go.WideShapes Go.ChangeAt Go.RowKit
open Str (toList_eq)
open Ref8 (ret_bool BoxedF RetFrame)

def encF (f : FrameP) : List Value := [.int .i64 f.id, .int .i64 f.unit, .string f.pdu]
theorem encF_len (f : FrameP) : (encF f).length = 3 := rfl
theorem encF_one (f : FrameP) : ∀ v ∈ encF f, v.oneCell' = true := by
  intro v hv
  simp [encF] at hv
  rcases hv with rfl | rfl | rfl <;> rfl
theorem info_frame : (Try.prog.info? 55).map (fun i => (i.zero, i.size, i.bytes)) = some (some (.agg #[.int .i64 0, .int .i64 0, .string ⟨#[]⟩]), 3, 32) := by kernel_rfl
theorem row_frame {w : World} {B n b off : Nat} {zs : List FrameP} (h : Row encF 3 w B (some ⟨b, off, none⟩) n zs) (j : Nat) (hj : j < n) :
    b < B ∧ w.cell? ⟨b, off + j * 3, none⟩ = some (.int .i64 (zs.getD j Mb.zero).id) ∧ w.cell? ⟨b, off + j * 3 + 1, none⟩ = some (.int .i64 (zs.getD j Mb.zero).unit) ∧ w.cell? ⟨b, off + j * 3 + 2, none⟩ = some (.string (zs.getD j Mb.zero).pdu) := by
  obtain ⟨hb, hc⟩ := h.cells (by omega)
  have hl := h.1
  have hj' : j < zs.length := by omega
  have e : zs.getD j Mb.zero = zs[j] := by rw [List.getD_eq_getElem?_getD, List.getElem?_eq_getElem hj']; rfl
  rw [e]
  exact ⟨hb, hc j hj' 0 _ rfl, hc j hj' 1 _ rfl, hc j hj' 2 _ rfl⟩
/-- '==' of two frames that are one. -/
theorem eqF (f : FrameP) (w : World) : (Op.equalIn 10000 55 (.agg #[.int .i64 f.id, .int .i64 f.unit, .string f.pdu]) (.agg #[.int .i64 f.id, .int .i64 f.unit, .string f.pdu])).run Try.prog w = .ok true w := by
  have u3 := Try.underlying3
  have a3 := Try.isAgg3
  have z3 := Try.sizeOf3
  have u9 := Try.underlying9
  have a9 := Try.isAgg9
  have z9 := Try.sizeOf9
  have hS : Try.prog.underlying 55 = some (.struct (Try.prog.fieldsOf 55)) := by kernel_rfl
  have hp : Try.prog.stoodInHeld 55 = false := by kernel_rfl
  rw [show (10000 : Nat) = 9999 + 1 from rfl, run_equalIn_agg w 9999 55 _ _ hS hp]
  simp only [Program.fieldsOf, Try.underlying55]
  go_simp
theorem guardF : Try.prog.eqGuardType Try.prog.depth 55 = false := by kernel_rfl


/-- A stream as its two cells. -/
def BoxedS (p : Nat) (buf : ByteArray) (bad : Bool) (w : World) : Prop := w.cell? ⟨p, 0, none⟩ = some (.string buf) ∧ w.cell? ⟨p, 1, none⟩ = some (.bool bad)
set_option maxHeartbeats 1000000 in
theorem right_any (buf : ByteArray) (bad : Bool) (w : World) (hs : buf.size ≤ maxLen) :
    Calls Try.prog 22 #[.agg #[.string buf, .bool bad]] w fun e w' => e = .returned (.bool (Sm.right ⟨bl buf, bad⟩)) ∧ Keep w w' := by
  have k0 := (Keep.refl w).alloc (.cells #[.string buf, .bool bad] 32)
  cases bad
  · obtain ⟨nd, hnd⟩ : ∃ n, n = Mb.need buf := ⟨_, rfl⟩
    obtain ⟨er, her⟩ : ∃ n, n = Mb.needErr buf := ⟨_, rfl⟩
    have HN := Lib.hid (And.intro hnd her)
    have HR := Lib.hid (show Sm.right ⟨bl buf, false⟩ = (er == 0 && (nd == 0 || decide ((buf.size : Int) < nd))) by
      simp only [Sm.right, Sm.err, Sm.need, st_bl, bl_length, ← hnd, ← her]; rfl)
    clear hnd her
    go_enter Try.func22, Try.ntmps22
    go_wp2_with fail
    refine (Ref8.need_any buf _ hs).mono ?_
    rintro e w1 ⟨rfl, h1⟩
    rw [← HN.out.1, ← HN.out.2]
    have c0 : w1.cell? ⟨w.heap.size, 0, none⟩ = some (.string buf) := (Below.cell h1 (by simp)).trans (by go_simp)
    replace k0 := k0.trans h1
    clear h1
    go_wp2
    all_goals (
      go_ret
      refine ⟨ret_bool ?_, k0⟩
      rw [HR.out]
      simp_all)
  · have HR := Lib.hid (show Sm.right ⟨bl buf, true⟩ = (buf.toList == []) by rw [toList_eq]; rfl)
    go_enter Try.func22, Try.ntmps22
    go_wp2
    all_goals (
      go_ret
      refine ⟨ret_bool ?_, k0⟩
      rw [HR.out]
      generalize buf.toList = l
      cases l <;> rfl)
/-- What comes back: a stream, and frames. -/
def RetPush (x : StreamP × List FrameP) (w : World) (e : Ending) (w' : World) : Prop :=
  ∃ A n c, e = .returned (.tuple #[.agg #[.string (st x.1.buf), .bool x.1.bad], .slice A n c]) ∧ Row encF 3 w' w'.heap.size A n x.2 ∧ Keep w w' ∧ Fresh w A n
theorem fresh_row {W w : World} {base : Nat} {e : TypeId} {A : Option Addr} {n c k : Nat} {xs : List Value} (h : w.ownsRow base e k (.slice A n c) n xs) (hb : W.heap.size ≤ base) : Fresh W A n := fun hn => by
  rcases h.2 with ⟨hv, h0⟩ | ⟨g, cap, cur, hv, hg, _⟩
  · omega
  · injection hv with hA
    exact ⟨g, hA, by omega⟩
theorem own_keep2 {w w' : World} {base : Nat} {e : TypeId} {k n : Nat} {v : Value} {xs : List Value} (h : w.ownsRow base e k v n xs) (hk : Keep w w') : w'.ownsRow base e k v n xs :=
  h.kept (row := none) ⟨hk.os, hk.tape, hk.output, hk.size, fun i hi _ => hk.block i hi⟩ (by cases v.ownBlock <;> simp)
theorem own_drew2 {w : World} {base : Nat} {e : TypeId} {size : Nat} {v : Value} {n : Nat} {xs : List Value} (k : w.ownsRow base e size v n xs) : w.drew.ownsRow base e size v n xs := ((Quiet.refl w).drew).own k
theorem own_set2 {w : World} {base : Nat} {e : TypeId} {k n : Nat} {v : Value} {xs : List Value} (h : w.ownsRow base e k v n xs) (p : Addr) (u : Value) (hp : p.block < base) : (w.setCell p u).ownsRow base e k v n xs := by
  rcases h with ⟨hl, h⟩
  refine ⟨hl, ?_⟩
  rcases h with h | ⟨g, cap, cur, hv, hg, hh, hr⟩
  · exact .inl h
  · refine .inr ⟨g, cap, cur, hv, hg, ?_, hr⟩
    rw [Below.heap_setCell _ _ _ _ (by omega)]
    exact hh
/-- What the loop of Push holds behind k bytes. -/
def PushRel (w : World) (l0 : Nat) (s : StreamP) (b : List UInt8) (out i : Value) (wr : World) : Prop :=
  ∃ (k : Nat) (x : StreamP) (fs : List FrameP), k ≤ b.length ∧ i = .int .i64 k ∧ Hid (Sm.feed (s, []) (b.take k) = (x, fs)) ∧ wr.ownsRow (w.heap.size + 2) 55 3 out fs.length (flat encF fs) ∧
    (wr.cell? ⟨w.heap.size, 0, none⟩ = some (.string (st x.buf)) ∧ wr.cell? ⟨w.heap.size, 1, none⟩ = some (.bool x.bad) ∧ ∀ j, wr.frozen? ⟨w.heap.size, j, none⟩ = false) ∧
    (wr.cell? ⟨w.heap.size + 1, 0, none⟩ = some (.string ⟨#[]⟩) ∧ wr.cell? ⟨w.heap.size + 1, 1, none⟩ = some (.bool false) ∧ ∀ j, wr.frozen? ⟨w.heap.size + 1, j, none⟩ = false) ∧
    Keep w wr ∧ w.heap.size + 2 ≤ wr.heap.size ∧ fs.length ≤ k ∧ x.buf.length ≤ l0 + k
end Go.Proofs.Ytdgnmoebahaaeaa.Ref9
