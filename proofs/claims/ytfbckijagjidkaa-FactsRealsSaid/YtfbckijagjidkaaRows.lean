/-
  No cell of these rows narrows 'for every input' (looked for: loops, veiled, ifaces, maps, wideKeys, modest, calm, conditions, laid).
  DERIVED. THE GIVEN ROWS OF THIS SEAT. 3 by the template 'for every input the law returns true; each argument reads behind the call as it read before'; 0 by the template 'total and deterministic' (their statements: YtfbckijagjidkaaTotals.lean).
  GIVEN WITH THE SEED: the statements are not yours to turn. If you find one false, say at which input.
  Laid BY PROGRAM, IN A SANDBOX (cutbox-rows.mjs): the forced cells as the released guide's own fill.sh prints them over the translation c8332af1eb992759… (all of the seat's roots in one cut). By AI agents, Wed Nov 11 2026. No macro, syntax, notation, axiom, sorry.
-/
import Derived.Test.YtfbckijagjidkaaChecked
import GoSem.Claim
import GoSem.ClaimJoined
import GoSem.ClaimMapViews
import Derived.JoinedTies
import Derived.KernelRfl
namespace Go.Proofs.Ytfbckijagjidkaa
/- THE CELL 'sum', in the pinned program and in every row, IS THE sha256 OF THE DUMP (.gsa) THAT YtfbckijagjidkaaProg.lean LOADS. Nothing in Lean hashes anything: it is a label: what it is worth is what the hold of that sum in a sandbox is worth. -/
noncomputable def Try.pinned : Pinned := { name := "ytfbckijagjidkaa", sum := "c8332af1eb9927599a1fed8c427fa58d1e971014f83cc461d079577ab058447d", checked := Try.checked }
namespace Rows
def none {H : Type} : Left H := { results := [], args := [] }

/-- 'gatewardenlaw14.FactsTells': WHATEVER THE INPUT: true; the input reads as it did. -/
def factsTellsSpec : ChangeSpec := { name := "factsTells", fn := fun _ => fun
  | [d] => { results := [.lit (.bool true)], args := [d] }
  | _ => none }
def factsTellsRow : OpenClaim := { program := "ytfbckijagjidkaa", sum := "c8332af1eb9927599a1fed8c427fa58d1e971014f83cc461d079577ab058447d", func := "gatewarden/gatewardenlaw14.FactsTells", spec := "factsTells", inPlace := ["math.Float64frombits"], unfollowed := true, recurses := true, apart := false }
def FactsTellsSaid : Prop := factsTellsRow.holds Try.pinned (OpenSpec.ofChange factsTellsSpec)

/-- ITS FALSE NEIGHBOUR: 'it returns false'. Refute it at one input. -/
def factsTellsWrong : ChangeSpec := { name := "factsTells", fn := fun _ => fun
  | [d] => { results := [.lit (.bool false)], args := [d] }
  | _ => none }
def FactsTellsWrongFalsely : Prop := factsTellsRow.holds Try.pinned (OpenSpec.ofChange factsTellsWrong)

/-- 'gatewardenlaw14.FactsSpans': WHATEVER THE INPUT: true; the input reads as it did. -/
def factsSpansSpec : ChangeSpec := { name := "factsSpans", fn := fun _ => fun
  | [d1, d2] => { results := [.lit (.bool true)], args := [d1, d2] }
  | _ => none }
def factsSpansRow : OpenClaim := { program := "ytfbckijagjidkaa", sum := "c8332af1eb9927599a1fed8c427fa58d1e971014f83cc461d079577ab058447d", func := "gatewarden/gatewardenlaw14.FactsSpans", spec := "factsSpans", inPlace := ["math.Float64frombits"], unfollowed := true, recurses := true, apart := false }
def FactsSpansSaid : Prop := factsSpansRow.holds Try.pinned (OpenSpec.ofChange factsSpansSpec)

/-- ITS FALSE NEIGHBOUR: 'it returns false'. Refute it at one input. -/
def factsSpansWrong : ChangeSpec := { name := "factsSpans", fn := fun _ => fun
  | [d1, d2] => { results := [.lit (.bool false)], args := [d1, d2] }
  | _ => none }
def FactsSpansWrongFalsely : Prop := factsSpansRow.holds Try.pinned (OpenSpec.ofChange factsSpansWrong)

/-- 'gatewardenlaw14.FactsReals': WHATEVER THE INPUT: true; the input reads as it did. -/
def factsRealsSpec : ChangeSpec := { name := "factsReals", fn := fun _ => fun
  | [d] => { results := [.lit (.bool true)], args := [d] }
  | _ => none }
def factsRealsRow : OpenClaim := { program := "ytfbckijagjidkaa", sum := "c8332af1eb9927599a1fed8c427fa58d1e971014f83cc461d079577ab058447d", func := "gatewarden/gatewardenlaw14.FactsReals", spec := "factsReals", inPlace := ["math.Float64frombits"], unfollowed := true, recurses := true, apart := false }
def FactsRealsSaid : Prop := factsRealsRow.holds Try.pinned (OpenSpec.ofChange factsRealsSpec)

/-- ITS FALSE NEIGHBOUR: 'it returns false'. Refute it at one input. -/
def factsRealsWrong : ChangeSpec := { name := "factsReals", fn := fun _ => fun
  | [d] => { results := [.lit (.bool false)], args := [d] }
  | _ => none }
def FactsRealsWrongFalsely : Prop := factsRealsRow.holds Try.pinned (OpenSpec.ofChange factsRealsWrong)

/- THE SECOND FORM. 'bulk': how many values and letters a reading holds, each counted each time it is reached (what is shared counts as often as it is met; a slice's spare places count too). A statement '..UptoSaid' is the law's where the arguments, and the package variables that the reading takes, are together of bulk at most 1048576: NARROWER than '..Said'. Prove '..Said' where nothing that the law and all that it calls make is longer than what came in: it says more and counts as full. Else prove '..UptoSaid'. A law counts once. -/
mutual
def uptoBulk {H : Type} : DataW H → Nat
  | .lit (.string bytes) => bytes.length + 1
  | .lit _ => 1
  | .nil => 1
  | .ptr d => uptoBulk d + 1
  | .slice elems spare => uptoBulkAll elems + uptoBulkAll spare + 1
  | .agg parts => uptoBulkAll parts + 1
  | .iface _ d => uptoBulk d + 1
  | .map entries => uptoBulkEntries entries + 1
  | .held _ => 1
def uptoBulkAll {H : Type} : List (DataW H) → Nat
  | [] => 0
  | d :: r => uptoBulk d + uptoBulkAll r
def uptoBulkEntries {H : Type} : List (Lit × DataW H) → Nat
  | [] => 0
  | x :: r => uptoBulkEntry x + uptoBulkEntries r
def uptoBulkEntry {H : Type} : Lit × DataW H → Nat
  | (.string bytes, d) => bytes.length + uptoBulk d + 1
  | (_, d) => uptoBulk d + 1
 end
def uptoSmall : (H : Type) → List (DataW H) → Bool := fun _ ds => decide (uptoBulkAll ds ≤ 1048576)
def OpenSpec.upto (s : _root_.Go.ChangeSpec) : _root_.Go.OpenSpec := { _root_.Go.OpenSpec.ofChange s with cond := some uptoSmall }

/-- 'gatewardenlaw14.FactsTells', WHERE WHAT IT READS IS OF BULK AT MOST 1048576: true; the input reads as it did. -/
def factsTellsUptoRow : OpenClaim := { program := "ytfbckijagjidkaa", sum := "c8332af1eb9927599a1fed8c427fa58d1e971014f83cc461d079577ab058447d", func := "gatewarden/gatewardenlaw14.FactsTells", spec := "factsTells", inPlace := ["math.Float64frombits"], unfollowed := true, recurses := true, apart := false, narrowed := true }
def FactsTellsUptoSaid : Prop := factsTellsUptoRow.holds Try.pinned (OpenSpec.upto factsTellsSpec)

/-- 'gatewardenlaw14.FactsSpans', WHERE WHAT IT READS IS OF BULK AT MOST 1048576: true; the input reads as it did. -/
def factsSpansUptoRow : OpenClaim := { program := "ytfbckijagjidkaa", sum := "c8332af1eb9927599a1fed8c427fa58d1e971014f83cc461d079577ab058447d", func := "gatewarden/gatewardenlaw14.FactsSpans", spec := "factsSpans", inPlace := ["math.Float64frombits"], unfollowed := true, recurses := true, apart := false, narrowed := true }
def FactsSpansUptoSaid : Prop := factsSpansUptoRow.holds Try.pinned (OpenSpec.upto factsSpansSpec)

/-- 'gatewardenlaw14.FactsReals', WHERE WHAT IT READS IS OF BULK AT MOST 1048576: true; the input reads as it did. -/
def factsRealsUptoRow : OpenClaim := { program := "ytfbckijagjidkaa", sum := "c8332af1eb9927599a1fed8c427fa58d1e971014f83cc461d079577ab058447d", func := "gatewarden/gatewardenlaw14.FactsReals", spec := "factsReals", inPlace := ["math.Float64frombits"], unfollowed := true, recurses := true, apart := false, narrowed := true }
def FactsRealsUptoSaid : Prop := factsRealsUptoRow.holds Try.pinned (OpenSpec.upto factsRealsSpec)

end Rows
end Go.Proofs.Ytfbckijagjidkaa
