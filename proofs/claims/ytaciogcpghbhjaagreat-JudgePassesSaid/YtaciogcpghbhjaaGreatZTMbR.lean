/- Of these texts: MbR. Conditions: as each part says. -/
import Derived.Test.YtaciogcpghbhjaaGreatZTAskA
import Derived.Test.YtaciogcpghbhjaaGreatZTTw2
import Derived.Test.YtaciogcpghbhjaaGreatZTLib
import Derived.Deep.RegionHeld
import Derived.Deep.RegionHeld3
import Derived.Laws.ResultCell
/- Layer 8's reference: each function answers what the plain words of MbA say. Conditions: lengths at most a million. -/
namespace Go.Proofs.YtaciogcpghbhjaaGreat.Ref8
set_option linter.unusedVariables false
open Go.ChangeShapes Go.WideShapes Go.ChangeAt Go.RowKit
open Str (toList_eq)
theorem ret_bool {b c : Bool} (h : b = c) : Ending.returned (.bool b) = Ending.returned (.bool c) := by rw [h]
def BoxedF (p : Nat) (f : FrameP) (w : World) : Prop := w.cell? ⟨p, 0, none⟩ = some (.int .i64 f.id) ∧ w.cell? ⟨p, 1, none⟩ = some (.int .i64 f.unit) ∧ w.cell? ⟨p, 2, none⟩ = some (.string f.pdu)
set_option maxHeartbeats 400000 in
theorem right_any (f : FrameP) (w : World) (hs : f.pdu.size <= maxLen) :
  Calls Tryz.prog 12 #[.agg #[.int .i64 f.id, .int .i64 f.unit, .string f.pdu]] w fun e w' => e = .returned (.bool (Mb.right f)) ∧ Keep w w' := by
 obtain ⟨id, un, pdu⟩ := f
 unfold maxLen at hs
 simp only at hs ⊢
 go_enter Tryz.func12, Tryz.ntmps12
 go_wp2
 all_goals (go_ret; refine ⟨ret_bool ?_, (Keep.refl w).alloc _⟩; rw [Bool.eq_iff_iff, Mb.right_iff]; simp <;> omega)
def RetFrame (f : FrameP) (v : Value) (w : World) (e : Ending) (w' : World) : Prop := e = .returned (.tuple #[.agg #[.int .i64 f.id, .int .i64 f.unit, .string f.pdu], v]) ∧ Keep w w'
end Go.Proofs.YtaciogcpghbhjaaGreat.Ref8
