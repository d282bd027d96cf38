/-
  No cell of these rows narrows 'for every input' (looked for: loops, veiled, ifaces, maps, wideKeys, modest, calm, conditions, laid).
  DERIVED. THE GIVEN ROWS OF THIS SEAT. 2 by the template 'for every input the law returns true; each argument reads behind the call as it read before'; 0 by the template 'total and deterministic' (their statements: YtjbbodkcmpefoaaTotals.lean).
  GIVEN WITH THE SEED: the statements are not yours to turn. If you find one false, say at which input.
  Laid BY PROGRAM, IN A SANDBOX (cutbox-rows.mjs): the forced cells as the released guide's own fill.sh prints them over the translation 1c91bafa7aeb9597… (all of the seat's roots in one cut). By AI agents, Wed Nov 11 2026. No macro, syntax, notation, axiom, sorry.
-/
import Derived.Test.YtjbbodkcmpefoaaChecked
import GoSem.Claim
import GoSem.ClaimJoined
import GoSem.ClaimMapViews
import Derived.JoinedTies
import Derived.KernelRfl
namespace Go.Proofs.Ytjbbodkcmpefoaa
/- THE CELL 'sum', in the pinned program and in every row, IS THE sha256 OF THE DUMP (.gsa) THAT YtjbbodkcmpefoaaProg.lean LOADS. Nothing in Lean hashes anything: it is a label: what it is worth is what the hold of that sum in a sandbox is worth. -/
noncomputable def Try.pinned : Pinned := { name := "ytjbbodkcmpefoaa", sum := "1c91bafa7aeb95976e7b2b6784ee1ddb7ed58bdf7d0e66b3b419efaed30a0af7", checked := Try.checked }
namespace Rows
def none {H : Type} : Left H := { results := [], args := [] }

/-- 'gatewardenlaw03.RealTells': WHATEVER THE INPUT: true; the input reads as it did. -/
def realTellsSpec : ChangeSpec := { name := "realTells", fn := fun _ => fun
  | [d] => { results := [.lit (.bool true)], args := [d] }
  | _ => none }
def realTellsRow : OpenClaim := { program := "ytjbbodkcmpefoaa", sum := "1c91bafa7aeb95976e7b2b6784ee1ddb7ed58bdf7d0e66b3b419efaed30a0af7", func := "gatewarden/gatewardenlaw03.RealTells", spec := "realTells", inPlace := ["math.Float64frombits", "math.Float64bits"], apart := false }
def RealTellsSaid : Prop := realTellsRow.holds Try.pinned (OpenSpec.ofChange realTellsSpec)

/-- ITS FALSE NEIGHBOUR: 'it returns false'. Refute it at one input. -/
def realTellsWrong : ChangeSpec := { name := "realTells", fn := fun _ => fun
  | [d] => { results := [.lit (.bool false)], args := [d] }
  | _ => none }
def RealTellsWrongFalsely : Prop := realTellsRow.holds Try.pinned (OpenSpec.ofChange realTellsWrong)

/-- 'gatewardenlaw03.RealWithin': WHATEVER THE INPUT: true; the input reads as it did. -/
def realWithinSpec : ChangeSpec := { name := "realWithin", fn := fun _ => fun
  | [d1, d2] => { results := [.lit (.bool true)], args := [d1, d2] }
  | _ => none }
def realWithinRow : OpenClaim := { program := "ytjbbodkcmpefoaa", sum := "1c91bafa7aeb95976e7b2b6784ee1ddb7ed58bdf7d0e66b3b419efaed30a0af7", func := "gatewarden/gatewardenlaw03.RealWithin", spec := "realWithin", inPlace := ["math.Float64frombits", "math.Float64bits"], apart := false }
def RealWithinSaid : Prop := realWithinRow.holds Try.pinned (OpenSpec.ofChange realWithinSpec)

/-- ITS FALSE NEIGHBOUR: 'it returns false'. Refute it at one input. -/
def realWithinWrong : ChangeSpec := { name := "realWithin", fn := fun _ => fun
  | [d1, d2] => { results := [.lit (.bool false)], args := [d1, d2] }
  | _ => none }
def RealWithinWrongFalsely : Prop := realWithinRow.holds Try.pinned (OpenSpec.ofChange realWithinWrong)

/- THE SECOND FORM. 'bulk': how many values and letters a reading holds, each counted each time it is reached (what is shared counts as often as it is met; a slice's spare places count too). A statement '..UptoSaid' is the law's where the arguments, and the package variables that the reading takes, are together of bulk at most 1048576: NARROWER than '..Said'. Prove '..Said' where nothing that the law and all that it calls make is longer than what came in: it says more and counts as full. Else prove '..UptoSaid'. A law counts once. -/
mutual
def uptoBulk {H : Type} : DataW H → Nat
  | .lit (.string bytes) => bytes.length + 1
  | .lit _ => 1
  | .nil => 1
  | .ptr d => uptoBulk d + 1
  | .slice elems spare => uptoBulkAll elems + uptoBulkAll spare + 1
  | .agg parts => uptoBulkAll parts + 1
  | .iface _ d => uptoBulk d + 1
  | .map entries => uptoBulkEntries entries + 1
  | .held _ => 1
def uptoBulkAll {H : Type} : List (DataW H) → Nat
  | [] => 0
  | d :: r => uptoBulk d + uptoBulkAll r
def uptoBulkEntries {H : Type} : List (Lit × DataW H) → Nat
  | [] => 0
  | x :: r => uptoBulkEntry x + uptoBulkEntries r
def uptoBulkEntry {H : Type} : Lit × DataW H → Nat
  | (.string bytes, d) => bytes.length + uptoBulk d + 1
  | (_, d) => uptoBulk d + 1
 end
def uptoSmall : (H : Type) → List (DataW H) → Bool := fun _ ds => decide (uptoBulkAll ds ≤ 1048576)
def OpenSpec.upto (s : _root_.Go.ChangeSpec) : _root_.Go.OpenSpec := { _root_.Go.OpenSpec.ofChange s with cond := some uptoSmall }

/-- 'gatewardenlaw03.RealTells', WHERE WHAT IT READS IS OF BULK AT MOST 1048576: true; the input reads as it did. -/
def realTellsUptoRow : OpenClaim := { program := "ytjbbodkcmpefoaa", sum := "1c91bafa7aeb95976e7b2b6784ee1ddb7ed58bdf7d0e66b3b419efaed30a0af7", func := "gatewarden/gatewardenlaw03.RealTells", spec := "realTells", inPlace := ["math.Float64frombits", "math.Float64bits"], apart := false, narrowed := true }
def RealTellsUptoSaid : Prop := realTellsUptoRow.holds Try.pinned (OpenSpec.upto realTellsSpec)

/-- 'gatewardenlaw03.RealWithin', WHERE WHAT IT READS IS OF BULK AT MOST 1048576: true; the input reads as it did. -/
def realWithinUptoRow : OpenClaim := { program := "ytjbbodkcmpefoaa", sum := "1c91bafa7aeb95976e7b2b6784ee1ddb7ed58bdf7d0e66b3b419efaed30a0af7", func := "gatewarden/gatewardenlaw03.RealWithin", spec := "realWithin", inPlace := ["math.Float64frombits", "math.Float64bits"], apart := false, narrowed := true }
def RealWithinUptoSaid : Prop := realWithinUptoRow.holds Try.pinned (OpenSpec.upto realWithinSpec)

end Rows
end Go.Proofs.Ytjbbodkcmpefoaa
