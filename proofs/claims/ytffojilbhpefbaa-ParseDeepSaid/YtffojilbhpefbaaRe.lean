/- Layer 3: each function answers what the plain words of ReA say. Conditions: none. -/
import Derived.Test.YtffojilbhpefbaaReM
import Derived.Laws.OwnMore
namespace Go.Proofs.Ytffojilbhpefbaa.Re
open Go.Proofs.Ytffojilbhpefbaa.Fp Go.ChangeShapes Go.WideShapes Go.ChangeAt Go.RowKit



/-- Is the first at most the second one? -/
def leB (a b : Nat) : Bool := FloatKind.f64.format.order a b == some Ordering.lt || FloatKind.f64.format.order a b == some Ordering.eq
def withB (x low high : Nat) : Bool := leB low x && leB x high


def OfRel (w : World) (zs : List Int) (v i : Value) (wr : World) : Prop :=
  ∃ k : Nat, k ≤ 4 ∧ i = .int .i64 (k : Int) ∧ v = .int .u64 ((bitsL (zs.take k) : Nat) : Int) ∧ Tw.allIn (zs.take k) = true ∧ wr = w


/-- What comes back: a slice of integers. -/
def RetL (zs : List Int) (w : World) (e : Ending) (w' : World) : Prop :=
  ∃ A n c, e = .returned (.slice A n c) ∧ Ints .i64 w' w'.heap.size A n zs ∧ Keep w w'
theorem info_int : (Try.prog.info? 3).map (fun i => (i.zero, i.size, i.bytes)) = some (some (.int .i64 0), 1, 8) := by kernel_rfl
def RegsRel (w : World) (m : Nat) (i : Value) (wr : World) : Prop :=
  ∃ k : Nat, k ≤ 4 ∧ i = .int .i64 (k : Int) ∧ wr.ownsRow w.heap.size 3 1 (.slice (some ⟨w.heap.size, 0, none⟩) 4 4) 4 ((part m k).map (Value.int .i64)) ∧ Keep w wr

end Go.Proofs.Ytffojilbhpefbaa.Re
