/-
  NARROWER THAN 'FOR EVERY INPUT', by the rows' own cells (each row's printed sentence says how): MeanTells: loops · MeanNots: loops · MeanFirst: loops · MeanTurned: loops.
  DERIVED. THE GIVEN ROWS OF THIS SEAT. 5 by the template 'for every input the law returns true; each argument reads behind the call as it read before'; 0 by the template 'total and deterministic' (their statements: YtnbjhcemonkhhaaTotals.lean).
  GIVEN WITH THE SEED: the statements are not yours to turn. If you find one false, say at which input.
  Laid BY PROGRAM, IN A SANDBOX (cutbox-rows.mjs): the forced cells as the released guide's own fill.sh prints them over the translation bfa6971fff8d52a7… (all of the seat's roots in one cut). By AI agents, Wed Nov 11 2026. No macro, syntax, notation, axiom, sorry.
-/
import Derived.Test.YtnbjhcemonkhhaaChecked
import GoSem.Claim
import GoSem.ClaimJoined
import GoSem.ClaimMapViews
import Derived.JoinedTies
import Derived.KernelRfl
namespace Go.Proofs.Ytnbjhcemonkhhaa
/- THE CELL 'sum', in the pinned program and in every row, IS THE sha256 OF THE DUMP (.gsa) THAT YtnbjhcemonkhhaaProg.lean LOADS. Nothing in Lean hashes anything: it is a label: what it is worth is what the hold of that sum in a sandbox is worth. -/
noncomputable def Try.pinned : Pinned := { name := "ytnbjhcemonkhhaa", sum := "bfa6971fff8d52a7438fd6ddadad04967fbc15d35e00ed3ff74b4bc7008ac081", checked := Try.checked }
namespace Rows
def none {H : Type} : Left H := { results := [], args := [] }

/-- 'gatewardenlaw14.FactsTells': WHATEVER THE INPUT: true; the input reads as it did. -/
def factsTellsSpec : ChangeSpec := { name := "factsTells", fn := fun _ => fun
  | [d] => { results := [.lit (.bool true)], args := [d] }
  | _ => none }
def factsTellsRow : OpenClaim := { program := "ytnbjhcemonkhhaa", sum := "bfa6971fff8d52a7438fd6ddadad04967fbc15d35e00ed3ff74b4bc7008ac081", func := "gatewarden/gatewardenlaw14.FactsTells", spec := "factsTells", inPlace := ["math.Float64frombits"], unfollowed := true, recurses := true, apart := false }
def FactsTellsSaid : Prop := factsTellsRow.holds Try.pinned (OpenSpec.ofChange factsTellsSpec)

/-- ITS FALSE NEIGHBOUR: 'it returns false'. Refute it at one input. -/
def factsTellsWrong : ChangeSpec := { name := "factsTells", fn := fun _ => fun
  | [d] => { results := [.lit (.bool false)], args := [d] }
  | _ => none }
def FactsTellsWrongFalsely : Prop := factsTellsRow.holds Try.pinned (OpenSpec.ofChange factsTellsWrong)

/-- 'gatewardenlaw15.MeanTells': WHATEVER THE INPUT: true; the input reads as it did. -/
def meanTellsSpec : ChangeSpec := { name := "meanTells", fn := fun _ => fun
  | [d1, d2, d3] => { results := [.lit (.bool true)], args := [d1, d2, d3] }
  | _ => none }
def meanTellsRow : OpenClaim := { program := "ytnbjhcemonkhhaa", sum := "bfa6971fff8d52a7438fd6ddadad04967fbc15d35e00ed3ff74b4bc7008ac081", func := "gatewarden/gatewardenlaw15.MeanTells", spec := "meanTells", inPlace := ["math.Float64frombits"], unfollowed := true, recurses := true, loops := true, apart := false }
def MeanTellsSaid : Prop := meanTellsRow.holds Try.pinned (OpenSpec.ofChange meanTellsSpec)

/-- ITS FALSE NEIGHBOUR: 'it returns false'. Refute it at one input. -/
def meanTellsWrong : ChangeSpec := { name := "meanTells", fn := fun _ => fun
  | [d1, d2, d3] => { results := [.lit (.bool false)], args := [d1, d2, d3] }
  | _ => none }
def MeanTellsWrongFalsely : Prop := meanTellsRow.holds Try.pinned (OpenSpec.ofChange meanTellsWrong)

/-- 'gatewardenlaw15.MeanNots': WHATEVER THE INPUT: true; the input reads as it did. -/
def meanNotsSpec : ChangeSpec := { name := "meanNots", fn := fun _ => fun
  | [d1, d2, d3] => { results := [.lit (.bool true)], args := [d1, d2, d3] }
  | _ => none }
def meanNotsRow : OpenClaim := { program := "ytnbjhcemonkhhaa", sum := "bfa6971fff8d52a7438fd6ddadad04967fbc15d35e00ed3ff74b4bc7008ac081", func := "gatewarden/gatewardenlaw15.MeanNots", spec := "meanNots", inPlace := ["math.Float64frombits"], unfollowed := true, recurses := true, loops := true, apart := false }
def MeanNotsSaid : Prop := meanNotsRow.holds Try.pinned (OpenSpec.ofChange meanNotsSpec)

/-- ITS FALSE NEIGHBOUR: 'it returns false'. Refute it at one input. -/
def meanNotsWrong : ChangeSpec := { name := "meanNots", fn := fun _ => fun
  | [d1, d2, d3] => { results := [.lit (.bool false)], args := [d1, d2, d3] }
  | _ => none }
def MeanNotsWrongFalsely : Prop := meanNotsRow.holds Try.pinned (OpenSpec.ofChange meanNotsWrong)

/-- 'gatewardenlaw15.MeanFirst': WHATEVER THE INPUT: true; the input reads as it did. -/
def meanFirstSpec : ChangeSpec := { name := "meanFirst", fn := fun _ => fun
  | [d1, d2] => { results := [.lit (.bool true)], args := [d1, d2] }
  | _ => none }
def meanFirstRow : OpenClaim := { program := "ytnbjhcemonkhhaa", sum := "bfa6971fff8d52a7438fd6ddadad04967fbc15d35e00ed3ff74b4bc7008ac081", func := "gatewarden/gatewardenlaw15.MeanFirst", spec := "meanFirst", inPlace := ["math.Float64frombits"], unfollowed := true, recurses := true, loops := true, apart := false }
def MeanFirstSaid : Prop := meanFirstRow.holds Try.pinned (OpenSpec.ofChange meanFirstSpec)

/-- ITS FALSE NEIGHBOUR: 'it returns false'. Refute it at one input. -/
def meanFirstWrong : ChangeSpec := { name := "meanFirst", fn := fun _ => fun
  | [d1, d2] => { results := [.lit (.bool false)], args := [d1, d2] }
  | _ => none }
def MeanFirstWrongFalsely : Prop := meanFirstRow.holds Try.pinned (OpenSpec.ofChange meanFirstWrong)

/-- 'gatewardenlaw15.MeanTurned': WHATEVER THE INPUT: true; the input reads as it did. -/
def meanTurnedSpec : ChangeSpec := { name := "meanTurned", fn := fun _ => fun
  | [d1, d2, d3] => { results := [.lit (.bool true)], args := [d1, d2, d3] }
  | _ => none }
def meanTurnedRow : OpenClaim := { program := "ytnbjhcemonkhhaa", sum := "bfa6971fff8d52a7438fd6ddadad04967fbc15d35e00ed3ff74b4bc7008ac081", func := "gatewarden/gatewardenlaw15.MeanTurned", spec := "meanTurned", inPlace := ["math.Float64frombits"], unfollowed := true, recurses := true, loops := true, apart := false }
def MeanTurnedSaid : Prop := meanTurnedRow.holds Try.pinned (OpenSpec.ofChange meanTurnedSpec)

/-- ITS FALSE NEIGHBOUR: 'it returns false'. Refute it at one input. -/
def meanTurnedWrong : ChangeSpec := { name := "meanTurned", fn := fun _ => fun
  | [d1, d2, d3] => { results := [.lit (.bool false)], args := [d1, d2, d3] }
  | _ => none }
def MeanTurnedWrongFalsely : Prop := meanTurnedRow.holds Try.pinned (OpenSpec.ofChange meanTurnedWrong)

/- THE SECOND FORM. 'bulk': how many values and letters a reading holds, each counted each time it is reached (what is shared counts as often as it is met; a slice's spare places count too). A statement '..UptoSaid' is the law's where the arguments, and the package variables that the reading takes, are together of bulk at most 1048576: NARROWER than '..Said'. Prove '..Said' where nothing that the law and all that it calls make is longer than what came in: it says more and counts as full. Else prove '..UptoSaid'. A law counts once. -/
mutual
def uptoBulk {H : Type} : DataW H → Nat
  | .lit (.string bytes) => bytes.length + 1
  | .lit _ => 1
  | .nil => 1
  | .ptr d => uptoBulk d + 1
  | .slice elems spare => uptoBulkAll elems + uptoBulkAll spare + 1
  | .agg parts => uptoBulkAll parts + 1
  | .iface _ d => uptoBulk d + 1
  | .map entries => uptoBulkEntries entries + 1
  | .held _ => 1
def uptoBulkAll {H : Type} : List (DataW H) → Nat
  | [] => 0
  | d :: r => uptoBulk d + uptoBulkAll r
def uptoBulkEntries {H : Type} : List (Lit × DataW H) → Nat
  | [] => 0
  | x :: r => uptoBulkEntry x + uptoBulkEntries r
def uptoBulkEntry {H : Type} : Lit × DataW H → Nat
  | (.string bytes, d) => bytes.length + uptoBulk d + 1
  | (_, d) => uptoBulk d + 1
 end
def uptoSmall : (H : Type) → List (DataW H) → Bool := fun _ ds => decide (uptoBulkAll ds ≤ 1048576)
def OpenSpec.upto (s : _root_.Go.ChangeSpec) : _root_.Go.OpenSpec := { _root_.Go.OpenSpec.ofChange s with cond := some uptoSmall }

/-- 'gatewardenlaw14.FactsTells', WHERE WHAT IT READS IS OF BULK AT MOST 1048576: true; the input reads as it did. -/
def factsTellsUptoRow : OpenClaim := { program := "ytnbjhcemonkhhaa", sum := "bfa6971fff8d52a7438fd6ddadad04967fbc15d35e00ed3ff74b4bc7008ac081", func := "gatewarden/gatewardenlaw14.FactsTells", spec := "factsTells", inPlace := ["math.Float64frombits"], unfollowed := true, recurses := true, apart := false, narrowed := true }
def FactsTellsUptoSaid : Prop := factsTellsUptoRow.holds Try.pinned (OpenSpec.upto factsTellsSpec)

/-- 'gatewardenlaw15.MeanTells', WHERE WHAT IT READS IS OF BULK AT MOST 1048576: true; the input reads as it did. -/
def meanTellsUptoRow : OpenClaim := { program := "ytnbjhcemonkhhaa", sum := "bfa6971fff8d52a7438fd6ddadad04967fbc15d35e00ed3ff74b4bc7008ac081", func := "gatewarden/gatewardenlaw15.MeanTells", spec := "meanTells", inPlace := ["math.Float64frombits"], unfollowed := true, recurses := true, loops := true, apart := false, narrowed := true }
def MeanTellsUptoSaid : Prop := meanTellsUptoRow.holds Try.pinned (OpenSpec.upto meanTellsSpec)

/-- 'gatewardenlaw15.MeanNots', WHERE WHAT IT READS IS OF BULK AT MOST 1048576: true; the input reads as it did. -/
def meanNotsUptoRow : OpenClaim := { program := "ytnbjhcemonkhhaa", sum := "bfa6971fff8d52a7438fd6ddadad04967fbc15d35e00ed3ff74b4bc7008ac081", func := "gatewarden/gatewardenlaw15.MeanNots", spec := "meanNots", inPlace := ["math.Float64frombits"], unfollowed := true, recurses := true, loops := true, apart := false, narrowed := true }
def MeanNotsUptoSaid : Prop := meanNotsUptoRow.holds Try.pinned (OpenSpec.upto meanNotsSpec)

/-- 'gatewardenlaw15.MeanFirst', WHERE WHAT IT READS IS OF BULK AT MOST 1048576: true; the input reads as it did. -/
def meanFirstUptoRow : OpenClaim := { program := "ytnbjhcemonkhhaa", sum := "bfa6971fff8d52a7438fd6ddadad04967fbc15d35e00ed3ff74b4bc7008ac081", func := "gatewarden/gatewardenlaw15.MeanFirst", spec := "meanFirst", inPlace := ["math.Float64frombits"], unfollowed := true, recurses := true, loops := true, apart := false, narrowed := true }
def MeanFirstUptoSaid : Prop := meanFirstUptoRow.holds Try.pinned (OpenSpec.upto meanFirstSpec)

/-- 'gatewardenlaw15.MeanTurned', WHERE WHAT IT READS IS OF BULK AT MOST 1048576: true; the input reads as it did. -/
def meanTurnedUptoRow : OpenClaim := { program := "ytnbjhcemonkhhaa", sum := "bfa6971fff8d52a7438fd6ddadad04967fbc15d35e00ed3ff74b4bc7008ac081", func := "gatewarden/gatewardenlaw15.MeanTurned", spec := "meanTurned", inPlace := ["math.Float64frombits"], unfollowed := true, recurses := true, loops := true, apart := false, narrowed := true }
def MeanTurnedUptoSaid : Prop := meanTurnedUptoRow.holds Try.pinned (OpenSpec.upto meanTurnedSpec)

end Rows
end Go.Proofs.Ytnbjhcemonkhhaa
