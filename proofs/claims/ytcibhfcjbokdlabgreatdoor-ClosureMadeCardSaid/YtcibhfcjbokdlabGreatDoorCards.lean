/-
  DERIVED. GIVEN WITH THE SEED: THE CARDS: each row of YtcibhfcjbokdlabGreatDoorRows.lean that lists a variable, with what it lists TIED to the program's text (the seventh form; the later family's looks); each row that meets fmt, with fmt's text TOLD by the authors' own Lean function (tested against real Go, not proved from fmt's source: count such statements apart). THE CARD IS WHAT COUNTS. Prove the row's statement (the work); the ties are given (YtcibhfcjbokdlabGreatDoorTie.lean); close each card by the builder's one call (the guide's Derived/Test/ToyasCard.lean, 'card_holds'). Laid BY PROGRAM, IN A SANDBOX (cutbox-door.mjs). By AI agents, Wed Nov 11 2026. No macro, syntax, notation, axiom, sorry.
-/
import Derived.Test.YtcibhfcjbokdlabGreatDoorRows
import GoSem.ClaimSeven
namespace Go.Proofs.YtcibhfcjbokdlabGreatDoor
namespace Rows

/-- THE TIED CARD OF 'sacristylaw15.ClosureMade'. -/
def closureMadeCard : Claim7 := { stood := { row := closureMadeRow, standIns := [], harness := (true, "70f3fda3c9324eeb84dfb2ed1e24b319cba6625ab0a0986fa0bad3bc7661f5ad"), looks := true }, kinds := [], alts := [], laidByText := true, laidKinds := [.data, .data, .data, .data, .sentinel, .sentinel, .pinned], laidTests := true, laidLooks := .later }
def ClosureMadeCardSaid : Prop := Claim7.holds Tryz.pinned (.plain (OpenSpec.ofChange closureMadeSpec)) closureMadeCard

/-- THE SECOND FORM's CARD OF 'sacristylaw15.ClosureMade'. -/
def closureMadeUptoCard : Claim7 := { stood := { row := closureMadeUptoRow, standIns := [], harness := (true, "70f3fda3c9324eeb84dfb2ed1e24b319cba6625ab0a0986fa0bad3bc7661f5ad"), looks := true }, kinds := [], alts := [], laidByText := true, laidKinds := [.data, .data, .data, .data, .sentinel, .sentinel, .pinned], laidTests := true, laidLooks := .later }
def ClosureMadeUptoCardSaid : Prop := Claim7.holds Tryz.pinned (.plain (OpenSpec.upto closureMadeSpec)) closureMadeUptoCard
end Rows
end Go.Proofs.YtcibhfcjbokdlabGreatDoor
