/-
  No cell of these rows narrows 'for every input' (looked for: loops, veiled, ifaces, maps, wideKeys, modest, calm, conditions, laid).
  DERIVED. THE GIVEN ROWS OF THIS SEAT. 3 by the template 'for every input the law returns true; each argument reads behind the call as it read before'; 0 by the template 'total and deterministic' (their statements: YtbcodgmggecmiaaTotals.lean).
  GIVEN WITH THE SEED: the statements are not yours to turn. If you find one false, say at which input.
  Laid BY PROGRAM, IN A SANDBOX (cutbox-rows.mjs): the forced cells as the released guide's own fill.sh prints them over the translation 779a37db3a98f87e… (all of the seat's roots in one cut). By AI agents, Wed Nov 11 2026. No macro, syntax, notation, axiom, sorry.
-/
import Derived.Test.YtbcodgmggecmiaaChecked
import GoSem.Claim
import GoSem.ClaimJoined
import GoSem.ClaimMapViews
import Derived.JoinedTies
import Derived.KernelRfl
namespace Go.Proofs.Ytbcodgmggecmiaa
/- THE CELL 'sum', in the pinned program and in every row, IS THE sha256 OF THE DUMP (.gsa) THAT YtbcodgmggecmiaaProg.lean LOADS. Nothing in Lean hashes anything: it is a label: what it is worth is what the hold of that sum in a sandbox is worth. -/
noncomputable def Try.pinned : Pinned := { name := "ytbcodgmggecmiaa", sum := "779a37db3a98f87eb9fd8e834254143bba79ec20aa09f73f7fbc9563d5ff3763", checked := Try.checked }
namespace Rows
def none {H : Type} : Left H := { results := [], args := [] }

/-- 'gatewardenlaw19.IdentTells': WHATEVER THE INPUT: true; the input reads as it did. -/
def identTellsSpec : ChangeSpec := { name := "identTells", fn := fun _ => fun
  | [d1, d2] => { results := [.lit (.bool true)], args := [d1, d2] }
  | _ => none }
def identTellsRow : OpenClaim := { program := "ytbcodgmggecmiaa", sum := "779a37db3a98f87eb9fd8e834254143bba79ec20aa09f73f7fbc9563d5ff3763", func := "gatewarden/gatewardenlaw19.IdentTells", spec := "identTells", apart := false }
def IdentTellsSaid : Prop := identTellsRow.holds Try.pinned (OpenSpec.ofChange identTellsSpec)

/-- ITS FALSE NEIGHBOUR: 'it returns false'. Refute it at one input. -/
def identTellsWrong : ChangeSpec := { name := "identTells", fn := fun _ => fun
  | [d1, d2] => { results := [.lit (.bool false)], args := [d1, d2] }
  | _ => none }
def IdentTellsWrongFalsely : Prop := identTellsRow.holds Try.pinned (OpenSpec.ofChange identTellsWrong)

/-- 'gatewardenlaw19.IdentFree': WHATEVER THE INPUT: true; the input reads as it did. -/
def identFreeSpec : ChangeSpec := { name := "identFree", fn := fun _ => fun
  | [d1, d2] => { results := [.lit (.bool true)], args := [d1, d2] }
  | _ => none }
def identFreeRow : OpenClaim := { program := "ytbcodgmggecmiaa", sum := "779a37db3a98f87eb9fd8e834254143bba79ec20aa09f73f7fbc9563d5ff3763", func := "gatewarden/gatewardenlaw19.IdentFree", spec := "identFree", apart := false }
def IdentFreeSaid : Prop := identFreeRow.holds Try.pinned (OpenSpec.ofChange identFreeSpec)

/-- ITS FALSE NEIGHBOUR: 'it returns false'. Refute it at one input. -/
def identFreeWrong : ChangeSpec := { name := "identFree", fn := fun _ => fun
  | [d1, d2] => { results := [.lit (.bool false)], args := [d1, d2] }
  | _ => none }
def IdentFreeWrongFalsely : Prop := identFreeRow.holds Try.pinned (OpenSpec.ofChange identFreeWrong)

/-- 'gatewardenlaw19.IdentOwn': WHATEVER THE INPUT: true; the input reads as it did. -/
def identOwnSpec : ChangeSpec := { name := "identOwn", fn := fun _ => fun
  | [d1, d2] => { results := [.lit (.bool true)], args := [d1, d2] }
  | _ => none }
def identOwnRow : OpenClaim := { program := "ytbcodgmggecmiaa", sum := "779a37db3a98f87eb9fd8e834254143bba79ec20aa09f73f7fbc9563d5ff3763", func := "gatewarden/gatewardenlaw19.IdentOwn", spec := "identOwn", apart := false }
def IdentOwnSaid : Prop := identOwnRow.holds Try.pinned (OpenSpec.ofChange identOwnSpec)

/-- ITS FALSE NEIGHBOUR: 'it returns false'. Refute it at one input. -/
def identOwnWrong : ChangeSpec := { name := "identOwn", fn := fun _ => fun
  | [d1, d2] => { results := [.lit (.bool false)], args := [d1, d2] }
  | _ => none }
def IdentOwnWrongFalsely : Prop := identOwnRow.holds Try.pinned (OpenSpec.ofChange identOwnWrong)

/- THE SECOND FORM. 'bulk': how many values and letters a reading holds, each counted each time it is reached (what is shared counts as often as it is met; a slice's spare places count too). A statement '..UptoSaid' is the law's where the arguments, and the package variables that the reading takes, are together of bulk at most 1048576: NARROWER than '..Said'. Prove '..Said' where nothing that the law and all that it calls make is longer than what came in: it says more and counts as full. Else prove '..UptoSaid'. A law counts once. -/
mutual
def uptoBulk {H : Type} : DataW H → Nat
  | .lit (.string bytes) => bytes.length + 1
  | .lit _ => 1
  | .nil => 1
  | .ptr d => uptoBulk d + 1
  | .slice elems spare => uptoBulkAll elems + uptoBulkAll spare + 1
  | .agg parts => uptoBulkAll parts + 1
  | .iface _ d => uptoBulk d + 1
  | .map entries => uptoBulkEntries entries + 1
  | .held _ => 1
def uptoBulkAll {H : Type} : List (DataW H) → Nat
  | [] => 0
  | d :: r => uptoBulk d + uptoBulkAll r
def uptoBulkEntries {H : Type} : List (Lit × DataW H) → Nat
  | [] => 0
  | x :: r => uptoBulkEntry x + uptoBulkEntries r
def uptoBulkEntry {H : Type} : Lit × DataW H → Nat
  | (.string bytes, d) => bytes.length + uptoBulk d + 1
  | (_, d) => uptoBulk d + 1
 end
def uptoSmall : (H : Type) → List (DataW H) → Bool := fun _ ds => decide (uptoBulkAll ds ≤ 1048576)
def OpenSpec.upto (s : _root_.Go.ChangeSpec) : _root_.Go.OpenSpec := { _root_.Go.OpenSpec.ofChange s with cond := some uptoSmall }

/-- 'gatewardenlaw19.IdentTells', WHERE WHAT IT READS IS OF BULK AT MOST 1048576: true; the input reads as it did. -/
def identTellsUptoRow : OpenClaim := { program := "ytbcodgmggecmiaa", sum := "779a37db3a98f87eb9fd8e834254143bba79ec20aa09f73f7fbc9563d5ff3763", func := "gatewarden/gatewardenlaw19.IdentTells", spec := "identTells", apart := false, narrowed := true }
def IdentTellsUptoSaid : Prop := identTellsUptoRow.holds Try.pinned (OpenSpec.upto identTellsSpec)

/-- 'gatewardenlaw19.IdentFree', WHERE WHAT IT READS IS OF BULK AT MOST 1048576: true; the input reads as it did. -/
def identFreeUptoRow : OpenClaim := { program := "ytbcodgmggecmiaa", sum := "779a37db3a98f87eb9fd8e834254143bba79ec20aa09f73f7fbc9563d5ff3763", func := "gatewarden/gatewardenlaw19.IdentFree", spec := "identFree", apart := false, narrowed := true }
def IdentFreeUptoSaid : Prop := identFreeUptoRow.holds Try.pinned (OpenSpec.upto identFreeSpec)

/-- 'gatewardenlaw19.IdentOwn', WHERE WHAT IT READS IS OF BULK AT MOST 1048576: true; the input reads as it did. -/
def identOwnUptoRow : OpenClaim := { program := "ytbcodgmggecmiaa", sum := "779a37db3a98f87eb9fd8e834254143bba79ec20aa09f73f7fbc9563d5ff3763", func := "gatewarden/gatewardenlaw19.IdentOwn", spec := "identOwn", apart := false, narrowed := true }
def IdentOwnUptoSaid : Prop := identOwnUptoRow.holds Try.pinned (OpenSpec.upto identOwnSpec)

end Rows
end Go.Proofs.Ytbcodgmggecmiaa
