/-
  DERIVED. GIVEN WITH THE SEED: THE CARDS: each row of YtnllomcajijbjaaGreatDoorRows.lean that lists a variable, with what it lists TIED to the program's text (the seventh form; the later family's looks); each row that meets fmt, with fmt's text TOLD by the authors' own Lean function (tested against real Go, not proved from fmt's source: count such statements apart). THE CARD IS WHAT COUNTS. Prove the row's statement (the work); the ties are given (YtnllomcajijbjaaGreatDoorTie.lean); close each card by the builder's one call (the guide's Derived/Test/ToyasCard.lean, 'card_holds'). Laid BY PROGRAM, IN A SANDBOX (cutbox-door.mjs). By AI agents, Wed Nov 11 2026. No macro, syntax, notation, axiom, sorry.
-/
import Derived.Test.YtnllomcajijbjaaGreatDoorRows
import GoSem.ClaimSeven
namespace Go.Proofs.YtnllomcajijbjaaGreatDoor
namespace Rows

/-- THE TIED CARD OF 'sacristylaw12.SlotsPlay'. -/
def slotsPlayCard : Claim7 := { stood := { row := slotsPlayRow, standIns := [], harness := (true, "12fba51855121d882db87df339c6bf28d036386726ea51dbc581ec0f3956525f"), looks := false }, kinds := [], alts := [], laidByText := true, laidKinds := [.data, .data], laidTests := true, laidLooks := .later }
def SlotsPlayCardSaid : Prop := Claim7.holds Tryz.pinned (.plain (OpenSpec.ofChange slotsPlaySpec)) slotsPlayCard

/-- THE SECOND FORM's CARD OF 'sacristylaw12.SlotsPlay'. -/
def slotsPlayUptoCard : Claim7 := { stood := { row := slotsPlayUptoRow, standIns := [], harness := (true, "12fba51855121d882db87df339c6bf28d036386726ea51dbc581ec0f3956525f"), looks := false }, kinds := [], alts := [], laidByText := true, laidKinds := [.data, .data], laidTests := true, laidLooks := .later }
def SlotsPlayUptoCardSaid : Prop := Claim7.holds Tryz.pinned (.plain (OpenSpec.upto slotsPlaySpec)) slotsPlayUptoCard
end Rows
end Go.Proofs.YtnllomcajijbjaaGreatDoor
