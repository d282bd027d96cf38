/-
  No cell of these rows narrows 'for every input' (looked for: loops, veiled, ifaces, maps, wideKeys, modest, calm, conditions, laid).
  DERIVED. THE GIVEN ROWS OF THIS SEAT. 4 by the template 'for every input the law returns true; each argument reads behind the call as it read before'; 0 by the template 'total and deterministic' (their statements: YtfeidijfjkegkaaTotals.lean).
  GIVEN WITH THE SEED: the statements are not yours to turn. If you find one false, say at which input.
  Laid BY PROGRAM, IN A SANDBOX (cutbox-rows.mjs): the forced cells as the released guide's own fill.sh prints them over the translation 237506f544fe998b… (all of the seat's roots in one cut). By AI agents, Wed Nov 11 2026. No macro, syntax, notation, axiom, sorry.
-/
import Derived.Test.YtfeidijfjkegkaaChecked
import GoSem.Claim
import GoSem.ClaimJoined
import GoSem.ClaimMapViews
import Derived.JoinedTies
import Derived.KernelRfl
namespace Go.Proofs.Ytfeidijfjkegkaa
/- THE CELL 'sum', in the pinned program and in every row, IS THE sha256 OF THE DUMP (.gsa) THAT YtfeidijfjkegkaaProg.lean LOADS. Nothing in Lean hashes anything: it is a label: what it is worth is what the hold of that sum in a sandbox is worth. -/
noncomputable def Try.pinned : Pinned := { name := "ytfeidijfjkegkaa", sum := "237506f544fe998b3be07111bfeb180312f7bb9ea610f6276323dd43904040c9", checked := Try.checked }
namespace Rows
def none {H : Type} : Left H := { results := [], args := [] }

/-- 'gatewardenlaw06.AskTells': WHATEVER THE INPUT: true; the input reads as it did. -/
def askTellsSpec : ChangeSpec := { name := "askTells", fn := fun _ => fun
  | [d1, d2, d3] => { results := [.lit (.bool true)], args := [d1, d2, d3] }
  | _ => none }
def askTellsRow : OpenClaim := { program := "ytfeidijfjkegkaa", sum := "237506f544fe998b3be07111bfeb180312f7bb9ea610f6276323dd43904040c9", func := "gatewarden/gatewardenlaw06.AskTells", spec := "askTells", unfollowed := true, recurses := true, apart := false }
def AskTellsSaid : Prop := askTellsRow.holds Try.pinned (OpenSpec.ofChange askTellsSpec)

/-- ITS FALSE NEIGHBOUR: 'it returns false'. Refute it at one input. -/
def askTellsWrong : ChangeSpec := { name := "askTells", fn := fun _ => fun
  | [d1, d2, d3] => { results := [.lit (.bool false)], args := [d1, d2, d3] }
  | _ => none }
def AskTellsWrongFalsely : Prop := askTellsRow.holds Try.pinned (OpenSpec.ofChange askTellsWrong)

/-- 'gatewardenlaw06.AskBack': WHATEVER THE INPUT: true; the input reads as it did. -/
def askBackSpec : ChangeSpec := { name := "askBack", fn := fun _ => fun
  | [d1, d2] => { results := [.lit (.bool true)], args := [d1, d2] }
  | _ => none }
def askBackRow : OpenClaim := { program := "ytfeidijfjkegkaa", sum := "237506f544fe998b3be07111bfeb180312f7bb9ea610f6276323dd43904040c9", func := "gatewarden/gatewardenlaw06.AskBack", spec := "askBack", unfollowed := true, recurses := true, apart := false }
def AskBackSaid : Prop := askBackRow.holds Try.pinned (OpenSpec.ofChange askBackSpec)

/-- ITS FALSE NEIGHBOUR: 'it returns false'. Refute it at one input. -/
def askBackWrong : ChangeSpec := { name := "askBack", fn := fun _ => fun
  | [d1, d2] => { results := [.lit (.bool false)], args := [d1, d2] }
  | _ => none }
def AskBackWrongFalsely : Prop := askBackRow.holds Try.pinned (OpenSpec.ofChange askBackWrong)

/-- 'gatewardenlaw06.AskCut': WHATEVER THE INPUT: true; the input reads as it did. -/
def askCutSpec : ChangeSpec := { name := "askCut", fn := fun _ => fun
  | [d1, d2, d3] => { results := [.lit (.bool true)], args := [d1, d2, d3] }
  | _ => none }
def askCutRow : OpenClaim := { program := "ytfeidijfjkegkaa", sum := "237506f544fe998b3be07111bfeb180312f7bb9ea610f6276323dd43904040c9", func := "gatewarden/gatewardenlaw06.AskCut", spec := "askCut", unfollowed := true, recurses := true, apart := false }
def AskCutSaid : Prop := askCutRow.holds Try.pinned (OpenSpec.ofChange askCutSpec)

/-- ITS FALSE NEIGHBOUR: 'it returns false'. Refute it at one input. -/
def askCutWrong : ChangeSpec := { name := "askCut", fn := fun _ => fun
  | [d1, d2, d3] => { results := [.lit (.bool false)], args := [d1, d2, d3] }
  | _ => none }
def AskCutWrongFalsely : Prop := askCutRow.holds Try.pinned (OpenSpec.ofChange askCutWrong)

/-- 'gatewardenlaw06.AskSizes': WHATEVER THE INPUT: true; the input reads as it did. -/
def askSizesSpec : ChangeSpec := { name := "askSizes", fn := fun _ => fun
  | [d] => { results := [.lit (.bool true)], args := [d] }
  | _ => none }
def askSizesRow : OpenClaim := { program := "ytfeidijfjkegkaa", sum := "237506f544fe998b3be07111bfeb180312f7bb9ea610f6276323dd43904040c9", func := "gatewarden/gatewardenlaw06.AskSizes", spec := "askSizes", unfollowed := true, recurses := true, apart := false }
def AskSizesSaid : Prop := askSizesRow.holds Try.pinned (OpenSpec.ofChange askSizesSpec)

/-- ITS FALSE NEIGHBOUR: 'it returns false'. Refute it at one input. -/
def askSizesWrong : ChangeSpec := { name := "askSizes", fn := fun _ => fun
  | [d] => { results := [.lit (.bool false)], args := [d] }
  | _ => none }
def AskSizesWrongFalsely : Prop := askSizesRow.holds Try.pinned (OpenSpec.ofChange askSizesWrong)

/- THE SECOND FORM. 'bulk': how many values and letters a reading holds, each counted each time it is reached (what is shared counts as often as it is met; a slice's spare places count too). A statement '..UptoSaid' is the law's where the arguments, and the package variables that the reading takes, are together of bulk at most 1048576: NARROWER than '..Said'. Prove '..Said' where nothing that the law and all that it calls make is longer than what came in: it says more and counts as full. Else prove '..UptoSaid'. A law counts once. -/
mutual
def uptoBulk {H : Type} : DataW H → Nat
  | .lit (.string bytes) => bytes.length + 1
  | .lit _ => 1
  | .nil => 1
  | .ptr d => uptoBulk d + 1
  | .slice elems spare => uptoBulkAll elems + uptoBulkAll spare + 1
  | .agg parts => uptoBulkAll parts + 1
  | .iface _ d => uptoBulk d + 1
  | .map entries => uptoBulkEntries entries + 1
  | .held _ => 1
def uptoBulkAll {H : Type} : List (DataW H) → Nat
  | [] => 0
  | d :: r => uptoBulk d + uptoBulkAll r
def uptoBulkEntries {H : Type} : List (Lit × DataW H) → Nat
  | [] => 0
  | x :: r => uptoBulkEntry x + uptoBulkEntries r
def uptoBulkEntry {H : Type} : Lit × DataW H → Nat
  | (.string bytes, d) => bytes.length + uptoBulk d + 1
  | (_, d) => uptoBulk d + 1
 end
def uptoSmall : (H : Type) → List (DataW H) → Bool := fun _ ds => decide (uptoBulkAll ds ≤ 1048576)
def OpenSpec.upto (s : _root_.Go.ChangeSpec) : _root_.Go.OpenSpec := { _root_.Go.OpenSpec.ofChange s with cond := some uptoSmall }

/-- 'gatewardenlaw06.AskTells', WHERE WHAT IT READS IS OF BULK AT MOST 1048576: true; the input reads as it did. -/
def askTellsUptoRow : OpenClaim := { program := "ytfeidijfjkegkaa", sum := "237506f544fe998b3be07111bfeb180312f7bb9ea610f6276323dd43904040c9", func := "gatewarden/gatewardenlaw06.AskTells", spec := "askTells", unfollowed := true, recurses := true, apart := false, narrowed := true }
def AskTellsUptoSaid : Prop := askTellsUptoRow.holds Try.pinned (OpenSpec.upto askTellsSpec)

/-- 'gatewardenlaw06.AskBack', WHERE WHAT IT READS IS OF BULK AT MOST 1048576: true; the input reads as it did. -/
def askBackUptoRow : OpenClaim := { program := "ytfeidijfjkegkaa", sum := "237506f544fe998b3be07111bfeb180312f7bb9ea610f6276323dd43904040c9", func := "gatewarden/gatewardenlaw06.AskBack", spec := "askBack", unfollowed := true, recurses := true, apart := false, narrowed := true }
def AskBackUptoSaid : Prop := askBackUptoRow.holds Try.pinned (OpenSpec.upto askBackSpec)

/-- 'gatewardenlaw06.AskCut', WHERE WHAT IT READS IS OF BULK AT MOST 1048576: true; the input reads as it did. -/
def askCutUptoRow : OpenClaim := { program := "ytfeidijfjkegkaa", sum := "237506f544fe998b3be07111bfeb180312f7bb9ea610f6276323dd43904040c9", func := "gatewarden/gatewardenlaw06.AskCut", spec := "askCut", unfollowed := true, recurses := true, apart := false, narrowed := true }
def AskCutUptoSaid : Prop := askCutUptoRow.holds Try.pinned (OpenSpec.upto askCutSpec)

/-- 'gatewardenlaw06.AskSizes', WHERE WHAT IT READS IS OF BULK AT MOST 1048576: true; the input reads as it did. -/
def askSizesUptoRow : OpenClaim := { program := "ytfeidijfjkegkaa", sum := "237506f544fe998b3be07111bfeb180312f7bb9ea610f6276323dd43904040c9", func := "gatewarden/gatewardenlaw06.AskSizes", spec := "askSizes", unfollowed := true, recurses := true, apart := false, narrowed := true }
def AskSizesUptoSaid : Prop := askSizesUptoRow.holds Try.pinned (OpenSpec.upto askSizesSpec)

end Rows
end Go.Proofs.Ytfeidijfjkegkaa
