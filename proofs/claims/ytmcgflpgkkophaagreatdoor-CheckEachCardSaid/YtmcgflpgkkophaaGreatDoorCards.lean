/-
  DERIVED. GIVEN WITH THE SEED: THE CARDS: each row of YtmcgflpgkkophaaGreatDoorRows.lean that lists a variable, with what it lists TIED to the program's text (the seventh form; the later family's looks); each row that meets fmt, with fmt's text TOLD by the authors' own Lean function (tested against real Go, not proved from fmt's source: count such statements apart). THE CARD IS WHAT COUNTS. Prove the row's statement (the work); the ties are given (YtmcgflpgkkophaaGreatDoorTie.lean); close each card by the builder's one call (the guide's Derived/Test/ToyasCard.lean, 'card_holds'). Laid BY PROGRAM, IN A SANDBOX (cutbox-door.mjs). By AI agents, Wed Nov 11 2026. No macro, syntax, notation, axiom, sorry.
-/
import Derived.Test.YtmcgflpgkkophaaGreatDoorRows
import GoSem.ClaimSeven
namespace Go.Proofs.YtmcgflpgkkophaaGreatDoor
namespace Rows

/-- THE TIED CARD OF 'gatewardenlaw13.CheckEach'. -/
def checkEachCard : Claim7 := { stood := { row := checkEachRow, standIns := [], harness := (true, "35d835b9a61ff4f0423f44bfce329d9af360ecf82ba8b8734cbeae18480de1a5"), looks := true }, kinds := [], alts := [], laidByText := true, laidKinds := [.data, .data, .data, .data], laidTests := true, laidLooks := .later }
def CheckEachCardSaid : Prop := Claim7.holds Tryz.pinned (.plain (OpenSpec.ofChange checkEachSpec)) checkEachCard

/-- THE SECOND FORM's CARD OF 'gatewardenlaw13.CheckEach'. -/
def checkEachUptoCard : Claim7 := { stood := { row := checkEachUptoRow, standIns := [], harness := (true, "35d835b9a61ff4f0423f44bfce329d9af360ecf82ba8b8734cbeae18480de1a5"), looks := true }, kinds := [], alts := [], laidByText := true, laidKinds := [.data, .data, .data, .data], laidTests := true, laidLooks := .later }
def CheckEachUptoCardSaid : Prop := Claim7.holds Tryz.pinned (.plain (OpenSpec.upto checkEachSpec)) checkEachUptoCard
end Rows
end Go.Proofs.YtmcgflpgkkophaaGreatDoor
