/- Layer 20's own: copies. Conditions: values of at most 2^44 numbers. -/
import Derived.Test.YtijnajlijdnbcaaPnN
import Derived.Test.YtijnajlijdnbcaaEqI
import Derived.Deep.AppendLies
import Derived.Shelf.Abstract
import Derived.Lib.SliceRun
namespace Go.Proofs.Ytijnajlijdnbcaa.Pend
set_option linter.unusedVariables false
open Go.Shelf Go.ChangeShapes Go.WideShapes Go.ChangeAt Go.RowKit
open Pn
theorem ownsRow_mono {w : World} {base base' : Nat} {e : TypeId} {size : Nat} {v : Value} {n : Nat} {xs : List Value} (hb : base' ≤ base) (h : w.ownsRow base e size v n xs) : w.ownsRow base' e size v n xs := by
  obtain ⟨h1, h2⟩ := h
  refine ⟨h1, h2.imp id ?_⟩
  rintro ⟨g, cap, cur, e, hg, r⟩
  exact ⟨g, cap, cur, e, Nat.le_trans hb hg, r⟩
theorem results_cell {fn : Func} {p : Tmp} {ty : TypeId} (h : fn.results = #[.cell p ty]) (tmps : Array Value) (P : Program) (w : World) :
    (results fn tmps).run P w = ((asAddr (tmps.getD p undef)).run P w).andThen fun a w₁ => ((loadVar ty a).run P w₁).andThen fun v w₂ => .ok v w₂ := by
  simp only [results, h]
  simp [Sem.run_bind, Result.andThen]
  cases (asAddr (tmps[p]?.getD undef)).run P w with
  | ok a w1 => simp only; cases (loadVar ty a).run P w1 <;> rfl
  | halt h w1 => rfl
/-- A copy of one, its values the call's own. -/
def RetC (p : PendP) (w : World) (e : Ending) (w' : World) : Prop :=
  ∃ B d, e = .returned (.agg #[.int .i64 p.o, .int .i64 p.cn, .int .i64 p.lf, .int .i64 p.id, .int .i64 p.un, .int .i64 p.ak.fc, .int .i64 p.ak.rd, .int .i64 p.ak.ct, .int .i64 p.ak.wr, .int .i64 p.ak.mn, .slice B p.ak.vs.length d, .int .i64 p.due]) ∧ w'.ownsRow w.heap.size 3 1 (.slice B p.ak.vs.length d) p.ak.vs.length (p.ak.vs.map (Value.int .i64)) ∧ Keep w w'
end Go.Proofs.Ytijnajlijdnbcaa.Pend
