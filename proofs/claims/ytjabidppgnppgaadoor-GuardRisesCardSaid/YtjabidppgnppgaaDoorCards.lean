/-
  DERIVED. GIVEN WITH THE SEED: THE CARDS: each row of YtjabidppgnppgaaDoorRows.lean that lists a variable, with what it lists TIED to the program's text (the seventh form; the later family's looks); each row that meets fmt, with fmt's text TOLD by the authors' own Lean function (tested against real Go, not proved from fmt's source: count such statements apart). THE CARD IS WHAT COUNTS. Prove the row's statement (the work); the ties are given (YtjabidppgnppgaaDoorTie.lean); close each card by the builder's one call (the guide's Derived/Test/ToyasCard.lean, 'card_holds'). Laid BY PROGRAM, IN A SANDBOX (cutbox-door.mjs). By AI agents, Wed Nov 11 2026. No macro, syntax, notation, axiom, sorry.
-/
import Derived.Test.YtjabidppgnppgaaDoorRows
import GoSem.ClaimSeven
namespace Go.Proofs.YtjabidppgnppgaaDoor
namespace Rows

/-- THE TIED CARD OF 'gatewardenlaw02.GuardTells'. -/
def guardTellsCard : Claim7 := { stood := { row := guardTellsRow, standIns := [], harness := (true, "5f7b4e277a48a8c2207f4c2f15ca579385be4bb0197641860a298bfd47e50077"), looks := true }, kinds := [], alts := [], laidByText := true, laidKinds := [.data, .data, .data], laidTests := true, laidLooks := .later }
def GuardTellsCardSaid : Prop := Claim7.holds Tryd.pinned (.plain (OpenSpec.ofChange guardTellsSpec)) guardTellsCard

/-- THE TIED CARD OF 'gatewardenlaw02.GuardBack'. -/
def guardBackCard : Claim7 := { stood := { row := guardBackRow, standIns := [], harness := (true, "5f7b4e277a48a8c2207f4c2f15ca579385be4bb0197641860a298bfd47e50077"), looks := true }, kinds := [], alts := [], laidByText := true, laidKinds := [.data, .data, .data], laidTests := true, laidLooks := .later }
def GuardBackCardSaid : Prop := Claim7.holds Tryd.pinned (.plain (OpenSpec.ofChange guardBackSpec)) guardBackCard

/-- THE TIED CARD OF 'gatewardenlaw02.GuardRises'. -/
def guardRisesCard : Claim7 := { stood := { row := guardRisesRow, standIns := [], harness := (true, "5f7b4e277a48a8c2207f4c2f15ca579385be4bb0197641860a298bfd47e50077"), looks := true }, kinds := [], alts := [], laidByText := true, laidKinds := [.data, .data, .data], laidTests := true, laidLooks := .later }
def GuardRisesCardSaid : Prop := Claim7.holds Tryd.pinned (.plain (OpenSpec.ofChange guardRisesSpec)) guardRisesCard

/-- THE SECOND FORM's CARD OF 'gatewardenlaw02.GuardTells'. -/
def guardTellsUptoCard : Claim7 := { stood := { row := guardTellsUptoRow, standIns := [], harness := (true, "5f7b4e277a48a8c2207f4c2f15ca579385be4bb0197641860a298bfd47e50077"), looks := true }, kinds := [], alts := [], laidByText := true, laidKinds := [.data, .data, .data], laidTests := true, laidLooks := .later }
def GuardTellsUptoCardSaid : Prop := Claim7.holds Tryd.pinned (.plain (OpenSpec.upto guardTellsSpec)) guardTellsUptoCard

/-- THE SECOND FORM's CARD OF 'gatewardenlaw02.GuardBack'. -/
def guardBackUptoCard : Claim7 := { stood := { row := guardBackUptoRow, standIns := [], harness := (true, "5f7b4e277a48a8c2207f4c2f15ca579385be4bb0197641860a298bfd47e50077"), looks := true }, kinds := [], alts := [], laidByText := true, laidKinds := [.data, .data, .data], laidTests := true, laidLooks := .later }
def GuardBackUptoCardSaid : Prop := Claim7.holds Tryd.pinned (.plain (OpenSpec.upto guardBackSpec)) guardBackUptoCard

/-- THE SECOND FORM's CARD OF 'gatewardenlaw02.GuardRises'. -/
def guardRisesUptoCard : Claim7 := { stood := { row := guardRisesUptoRow, standIns := [], harness := (true, "5f7b4e277a48a8c2207f4c2f15ca579385be4bb0197641860a298bfd47e50077"), looks := true }, kinds := [], alts := [], laidByText := true, laidKinds := [.data, .data, .data], laidTests := true, laidLooks := .later }
def GuardRisesUptoCardSaid : Prop := Claim7.holds Tryd.pinned (.plain (OpenSpec.upto guardRisesSpec)) guardRisesUptoCard
end Rows
end Go.Proofs.YtjabidppgnppgaaDoor
