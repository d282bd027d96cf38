/-
  No cell of these rows narrows 'for every input' (looked for: loops, veiled, ifaces, maps, wideKeys, modest, calm, conditions, laid).
  DERIVED. THE GIVEN ROWS OF THIS SEAT. 3 by the template 'for every input the law returns true; each argument reads behind the call as it read before'; 0 by the template 'total and deterministic' (their statements: YtgifhgjmlmepbaaTotals.lean).
  GIVEN WITH THE SEED: the statements are not yours to turn. If you find one false, say at which input.
  Laid BY PROGRAM, IN A SANDBOX (cutbox-rows.mjs): the forced cells as the released guide's own fill.sh prints them over the translation b6952234880a1257… (all of the seat's roots in one cut). By AI agents, Wed Nov 11 2026. No macro, syntax, notation, axiom, sorry.
-/
import Derived.Test.YtgifhgjmlmepbaaChecked
import GoSem.Claim
import GoSem.ClaimJoined
import GoSem.ClaimMapViews
import Derived.JoinedTies
import Derived.KernelRfl
namespace Go.Proofs.Ytgifhgjmlmepbaa
/- THE CELL 'sum', in the pinned program and in every row, IS THE sha256 OF THE DUMP (.gsa) THAT YtgifhgjmlmepbaaProg.lean LOADS. Nothing in Lean hashes anything: it is a label: what it is worth is what the hold of that sum in a sandbox is worth. -/
noncomputable def Try.pinned : Pinned := { name := "ytgifhgjmlmepbaa", sum := "b6952234880a12570a3b866b752313118fdb86c5ba9376d957f91539e243451f", checked := Try.checked }
namespace Rows
def none {H : Type} : Left H := { results := [], args := [] }

/-- 'gatewardenlaw05.CoilTells': WHATEVER THE INPUT: true; the input reads as it did. -/
def coilTellsSpec : ChangeSpec := { name := "coilTells", fn := fun _ => fun
  | [d1, d2, d3] => { results := [.lit (.bool true)], args := [d1, d2, d3] }
  | _ => none }
def coilTellsRow : OpenClaim := { program := "ytgifhgjmlmepbaa", sum := "b6952234880a12570a3b866b752313118fdb86c5ba9376d957f91539e243451f", func := "gatewarden/gatewardenlaw05.CoilTells", spec := "coilTells", apart := false }
def CoilTellsSaid : Prop := coilTellsRow.holds Try.pinned (OpenSpec.ofChange coilTellsSpec)

/-- ITS FALSE NEIGHBOUR: 'it returns false'. Refute it at one input. -/
def coilTellsWrong : ChangeSpec := { name := "coilTells", fn := fun _ => fun
  | [d1, d2, d3] => { results := [.lit (.bool false)], args := [d1, d2, d3] }
  | _ => none }
def CoilTellsWrongFalsely : Prop := coilTellsRow.holds Try.pinned (OpenSpec.ofChange coilTellsWrong)

/-- 'gatewardenlaw05.CoilBack': WHATEVER THE INPUT: true; the input reads as it did. -/
def coilBackSpec : ChangeSpec := { name := "coilBack", fn := fun _ => fun
  | [d1, d2, d3] => { results := [.lit (.bool true)], args := [d1, d2, d3] }
  | _ => none }
def coilBackRow : OpenClaim := { program := "ytgifhgjmlmepbaa", sum := "b6952234880a12570a3b866b752313118fdb86c5ba9376d957f91539e243451f", func := "gatewarden/gatewardenlaw05.CoilBack", spec := "coilBack", apart := false }
def CoilBackSaid : Prop := coilBackRow.holds Try.pinned (OpenSpec.ofChange coilBackSpec)

/-- ITS FALSE NEIGHBOUR: 'it returns false'. Refute it at one input. -/
def coilBackWrong : ChangeSpec := { name := "coilBack", fn := fun _ => fun
  | [d1, d2, d3] => { results := [.lit (.bool false)], args := [d1, d2, d3] }
  | _ => none }
def CoilBackWrongFalsely : Prop := coilBackRow.holds Try.pinned (OpenSpec.ofChange coilBackWrong)

/-- 'gatewardenlaw05.CoilJoins': WHATEVER THE INPUT: true; the input reads as it did. -/
def coilJoinsSpec : ChangeSpec := { name := "coilJoins", fn := fun _ => fun
  | [d1, d2] => { results := [.lit (.bool true)], args := [d1, d2] }
  | _ => none }
def coilJoinsRow : OpenClaim := { program := "ytgifhgjmlmepbaa", sum := "b6952234880a12570a3b866b752313118fdb86c5ba9376d957f91539e243451f", func := "gatewarden/gatewardenlaw05.CoilJoins", spec := "coilJoins", apart := false }
def CoilJoinsSaid : Prop := coilJoinsRow.holds Try.pinned (OpenSpec.ofChange coilJoinsSpec)

/-- ITS FALSE NEIGHBOUR: 'it returns false'. Refute it at one input. -/
def coilJoinsWrong : ChangeSpec := { name := "coilJoins", fn := fun _ => fun
  | [d1, d2] => { results := [.lit (.bool false)], args := [d1, d2] }
  | _ => none }
def CoilJoinsWrongFalsely : Prop := coilJoinsRow.holds Try.pinned (OpenSpec.ofChange coilJoinsWrong)

/- THE SECOND FORM. 'bulk': how many values and letters a reading holds, each counted each time it is reached (what is shared counts as often as it is met; a slice's spare places count too). A statement '..UptoSaid' is the law's where the arguments, and the package variables that the reading takes, are together of bulk at most 1048576: NARROWER than '..Said'. Prove '..Said' where nothing that the law and all that it calls make is longer than what came in: it says more and counts as full. Else prove '..UptoSaid'. A law counts once. -/
mutual
def uptoBulk {H : Type} : DataW H → Nat
  | .lit (.string bytes) => bytes.length + 1
  | .lit _ => 1
  | .nil => 1
  | .ptr d => uptoBulk d + 1
  | .slice elems spare => uptoBulkAll elems + uptoBulkAll spare + 1
  | .agg parts => uptoBulkAll parts + 1
  | .iface _ d => uptoBulk d + 1
  | .map entries => uptoBulkEntries entries + 1
  | .held _ => 1
def uptoBulkAll {H : Type} : List (DataW H) → Nat
  | [] => 0
  | d :: r => uptoBulk d + uptoBulkAll r
def uptoBulkEntries {H : Type} : List (Lit × DataW H) → Nat
  | [] => 0
  | x :: r => uptoBulkEntry x + uptoBulkEntries r
def uptoBulkEntry {H : Type} : Lit × DataW H → Nat
  | (.string bytes, d) => bytes.length + uptoBulk d + 1
  | (_, d) => uptoBulk d + 1
 end
def uptoSmall : (H : Type) → List (DataW H) → Bool := fun _ ds => decide (uptoBulkAll ds ≤ 1048576)
def OpenSpec.upto (s : _root_.Go.ChangeSpec) : _root_.Go.OpenSpec := { _root_.Go.OpenSpec.ofChange s with cond := some uptoSmall }

/-- 'gatewardenlaw05.CoilTells', WHERE WHAT IT READS IS OF BULK AT MOST 1048576: true; the input reads as it did. -/
def coilTellsUptoRow : OpenClaim := { program := "ytgifhgjmlmepbaa", sum := "b6952234880a12570a3b866b752313118fdb86c5ba9376d957f91539e243451f", func := "gatewarden/gatewardenlaw05.CoilTells", spec := "coilTells", apart := false, narrowed := true }
def CoilTellsUptoSaid : Prop := coilTellsUptoRow.holds Try.pinned (OpenSpec.upto coilTellsSpec)

/-- 'gatewardenlaw05.CoilBack', WHERE WHAT IT READS IS OF BULK AT MOST 1048576: true; the input reads as it did. -/
def coilBackUptoRow : OpenClaim := { program := "ytgifhgjmlmepbaa", sum := "b6952234880a12570a3b866b752313118fdb86c5ba9376d957f91539e243451f", func := "gatewarden/gatewardenlaw05.CoilBack", spec := "coilBack", apart := false, narrowed := true }
def CoilBackUptoSaid : Prop := coilBackUptoRow.holds Try.pinned (OpenSpec.upto coilBackSpec)

/-- 'gatewardenlaw05.CoilJoins', WHERE WHAT IT READS IS OF BULK AT MOST 1048576: true; the input reads as it did. -/
def coilJoinsUptoRow : OpenClaim := { program := "ytgifhgjmlmepbaa", sum := "b6952234880a12570a3b866b752313118fdb86c5ba9376d957f91539e243451f", func := "gatewarden/gatewardenlaw05.CoilJoins", spec := "coilJoins", apart := false, narrowed := true }
def CoilJoinsUptoSaid : Prop := coilJoinsUptoRow.holds Try.pinned (OpenSpec.upto coilJoinsSpec)

end Rows
end Go.Proofs.Ytgifhgjmlmepbaa
