/- Layer 2's functions: each answers what the plain words of GuA say. Conditions: texts at most a million bytes; the library's table lies. -/
import Derived.Test.YtnlpaceahgedkaaDoorItoa
import Derived.Recover
import Derived.WalkLawsBesides
namespace Go.Proofs.YtnlpaceahgedkaaDoor.Guard
open Go.ChangeShapes Go.WideShapes Go.ChangeAt Go.RowKit

/-- What holds at the head of the reading's rounds. -/
def ReadRel (w : World) (s : ByteArray) (n i : Value) (wr : World) : Prop :=
  ∃ k : Nat, k ≤ s.size ∧ i = .int .i64 k ∧ n = .int .i64 (Gu.val ((bl s).take k)) ∧ ((bl s).take k).all Gu.dig = true ∧ Gu.val ((bl s).take k) ≤ 9007199254740992 ∧ Quiet w wr

end Go.Proofs.YtnlpaceahgedkaaDoor.Guard
