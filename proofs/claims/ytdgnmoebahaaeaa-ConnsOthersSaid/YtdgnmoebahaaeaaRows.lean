/-
  No cell of these rows narrows 'for every input' (looked for: loops, veiled, ifaces, maps, wideKeys, modest, calm, conditions, laid).
  DERIVED. THE GIVEN ROWS OF THIS SEAT. 2 by the template 'for every input the law returns true; each argument reads behind the call as it read before'; 0 by the template 'total and deterministic' (their statements: YtdgnmoebahaaeaaTotals.lean).
  GIVEN WITH THE SEED: the statements are not yours to turn. If you find one false, say at which input.
  Laid BY PROGRAM, IN A SANDBOX (cutbox-rows.mjs): the forced cells as the released guide's own fill.sh prints them over the translation 1a5dd07824a28b8c… (all of the seat's roots in one cut). By AI agents, Wed Nov 11 2026. No macro, syntax, notation, axiom, sorry.
-/
import Derived.Test.YtdgnmoebahaaeaaChecked
import GoSem.Claim
import GoSem.ClaimJoined
import GoSem.ClaimMapViews
import Derived.JoinedTies
import Derived.KernelRfl
namespace Go.Proofs.Ytdgnmoebahaaeaa
/- THE CELL 'sum', in the pinned program and in every row, IS THE sha256 OF THE DUMP (.gsa) THAT YtdgnmoebahaaeaaProg.lean LOADS. Nothing in Lean hashes anything: it is a label: what it is worth is what the hold of that sum in a sandbox is worth. -/
noncomputable def Try.pinned : Pinned := { name := "ytdgnmoebahaaeaa", sum := "1a5dd07824a28b8c9908a3e144ce41e39449dba13bf9fb05ade25c14e884a2f5", checked := Try.checked }
namespace Rows
def none {H : Type} : Left H := { results := [], args := [] }

/-- 'gatewardenlaw22.ConnsPlaces': WHATEVER THE INPUT: true; the input reads as it did. -/
def connsPlacesSpec : ChangeSpec := { name := "connsPlaces", fn := fun _ => fun
  | [d1, d2] => { results := [.lit (.bool true)], args := [d1, d2] }
  | _ => none }
def connsPlacesRow : OpenClaim := { program := "ytdgnmoebahaaeaa", sum := "1a5dd07824a28b8c9908a3e144ce41e39449dba13bf9fb05ade25c14e884a2f5", func := "gatewarden/gatewardenlaw22.ConnsPlaces", spec := "connsPlaces", unfollowed := true, recurses := true, apart := false }
def ConnsPlacesSaid : Prop := connsPlacesRow.holds Try.pinned (OpenSpec.ofChange connsPlacesSpec)

/-- ITS FALSE NEIGHBOUR: 'it returns false'. Refute it at one input. -/
def connsPlacesWrong : ChangeSpec := { name := "connsPlaces", fn := fun _ => fun
  | [d1, d2] => { results := [.lit (.bool false)], args := [d1, d2] }
  | _ => none }
def ConnsPlacesWrongFalsely : Prop := connsPlacesRow.holds Try.pinned (OpenSpec.ofChange connsPlacesWrong)

/-- 'gatewardenlaw22.ConnsOthers': WHATEVER THE INPUT: true; the input reads as it did. -/
def connsOthersSpec : ChangeSpec := { name := "connsOthers", fn := fun _ => fun
  | [d1, d2, d3] => { results := [.lit (.bool true)], args := [d1, d2, d3] }
  | _ => none }
def connsOthersRow : OpenClaim := { program := "ytdgnmoebahaaeaa", sum := "1a5dd07824a28b8c9908a3e144ce41e39449dba13bf9fb05ade25c14e884a2f5", func := "gatewarden/gatewardenlaw22.ConnsOthers", spec := "connsOthers", unfollowed := true, recurses := true, apart := false }
def ConnsOthersSaid : Prop := connsOthersRow.holds Try.pinned (OpenSpec.ofChange connsOthersSpec)

/-- ITS FALSE NEIGHBOUR: 'it returns false'. Refute it at one input. -/
def connsOthersWrong : ChangeSpec := { name := "connsOthers", fn := fun _ => fun
  | [d1, d2, d3] => { results := [.lit (.bool false)], args := [d1, d2, d3] }
  | _ => none }
def ConnsOthersWrongFalsely : Prop := connsOthersRow.holds Try.pinned (OpenSpec.ofChange connsOthersWrong)

/- THE SECOND FORM. 'bulk': how many values and letters a reading holds, each counted each time it is reached (what is shared counts as often as it is met; a slice's spare places count too). A statement '..UptoSaid' is the law's where the arguments, and the package variables that the reading takes, are together of bulk at most 1048576: NARROWER than '..Said'. Prove '..Said' where nothing that the law and all that it calls make is longer than what came in: it says more and counts as full. Else prove '..UptoSaid'. A law counts once. -/
mutual
def uptoBulk {H : Type} : DataW H → Nat
  | .lit (.string bytes) => bytes.length + 1
  | .lit _ => 1
  | .nil => 1
  | .ptr d => uptoBulk d + 1
  | .slice elems spare => uptoBulkAll elems + uptoBulkAll spare + 1
  | .agg parts => uptoBulkAll parts + 1
  | .iface _ d => uptoBulk d + 1
  | .map entries => uptoBulkEntries entries + 1
  | .held _ => 1
def uptoBulkAll {H : Type} : List (DataW H) → Nat
  | [] => 0
  | d :: r => uptoBulk d + uptoBulkAll r
def uptoBulkEntries {H : Type} : List (Lit × DataW H) → Nat
  | [] => 0
  | x :: r => uptoBulkEntry x + uptoBulkEntries r
def uptoBulkEntry {H : Type} : Lit × DataW H → Nat
  | (.string bytes, d) => bytes.length + uptoBulk d + 1
  | (_, d) => uptoBulk d + 1
 end
def uptoSmall : (H : Type) → List (DataW H) → Bool := fun _ ds => decide (uptoBulkAll ds ≤ 1048576)
def OpenSpec.upto (s : _root_.Go.ChangeSpec) : _root_.Go.OpenSpec := { _root_.Go.OpenSpec.ofChange s with cond := some uptoSmall }

/-- 'gatewardenlaw22.ConnsPlaces', WHERE WHAT IT READS IS OF BULK AT MOST 1048576: true; the input reads as it did. -/
def connsPlacesUptoRow : OpenClaim := { program := "ytdgnmoebahaaeaa", sum := "1a5dd07824a28b8c9908a3e144ce41e39449dba13bf9fb05ade25c14e884a2f5", func := "gatewarden/gatewardenlaw22.ConnsPlaces", spec := "connsPlaces", unfollowed := true, recurses := true, apart := false, narrowed := true }
def ConnsPlacesUptoSaid : Prop := connsPlacesUptoRow.holds Try.pinned (OpenSpec.upto connsPlacesSpec)

/-- 'gatewardenlaw22.ConnsOthers', WHERE WHAT IT READS IS OF BULK AT MOST 1048576: true; the input reads as it did. -/
def connsOthersUptoRow : OpenClaim := { program := "ytdgnmoebahaaeaa", sum := "1a5dd07824a28b8c9908a3e144ce41e39449dba13bf9fb05ade25c14e884a2f5", func := "gatewarden/gatewardenlaw22.ConnsOthers", spec := "connsOthers", unfollowed := true, recurses := true, apart := false, narrowed := true }
def ConnsOthersUptoSaid : Prop := connsOthersUptoRow.holds Try.pinned (OpenSpec.upto connsOthersSpec)

end Rows
end Go.Proofs.Ytdgnmoebahaaeaa
