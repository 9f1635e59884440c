/-
  DERIVED. GIVEN WITH THE SEED: THE CARDS: each row of YtbiinchmbclmcaaDoorRows.lean that lists a variable, with what it lists TIED to the program's text (the seventh form; the later family's looks); each row that meets fmt, with fmt's text TOLD by the authors' own Lean function (tested against real Go, not proved from fmt's source: count such statements apart). THE CARD IS WHAT COUNTS. Prove the row's statement (the work); the ties are given (YtbiinchmbclmcaaDoorTie.lean); close each card by the builder's one call (the guide's Derived/Test/ToyasCard.lean, 'card_holds'). Laid BY PROGRAM, IN A SANDBOX (cutbox-door.mjs). By AI agents, Wed Nov 11 2026. No macro, syntax, notation, axiom, sorry.
-/
import Derived.Test.YtbiinchmbclmcaaDoorRows
import GoSem.ClaimSeven
namespace Go.Proofs.YtbiinchmbclmcaaDoor
namespace Rows

/-- THE TIED CARD OF 'sacristylaw14.TermParts'. -/
def termPartsCard : Claim7 := { stood := { row := termPartsRow, standIns := [], harness := (true, "27ffb73b0b3b0477ec78d12036477549ab07b870a7d96c10a0c12f2c7c345ce0"), looks := true }, kinds := [], alts := [], laidByText := true, laidKinds := [.data, .data, .data, .data, .sentinel, .sentinel, .pinned], laidTests := true, laidLooks := .later }
def TermPartsCardSaid : Prop := Claim7.holds Tryd.pinned (.plain (OpenSpec.ofChange termPartsSpec)) termPartsCard

/-- THE TIED CARD OF 'sacristylaw14.TermBuilt'. -/
def termBuiltCard : Claim7 := { stood := { row := termBuiltRow, standIns := [], harness := (true, "27ffb73b0b3b0477ec78d12036477549ab07b870a7d96c10a0c12f2c7c345ce0"), looks := true }, kinds := [], alts := [], laidByText := true, laidKinds := [.data, .data, .data, .data, .sentinel, .sentinel, .pinned], laidTests := true, laidLooks := .later }
def TermBuiltCardSaid : Prop := Claim7.holds Tryd.pinned (.plain (OpenSpec.ofChange termBuiltSpec)) termBuiltCard

/-- THE SECOND FORM's CARD OF 'sacristylaw14.TermParts'. -/
def termPartsUptoCard : Claim7 := { stood := { row := termPartsUptoRow, standIns := [], harness := (true, "27ffb73b0b3b0477ec78d12036477549ab07b870a7d96c10a0c12f2c7c345ce0"), looks := true }, kinds := [], alts := [], laidByText := true, laidKinds := [.data, .data, .data, .data, .sentinel, .sentinel, .pinned], laidTests := true, laidLooks := .later }
def TermPartsUptoCardSaid : Prop := Claim7.holds Tryd.pinned (.plain (OpenSpec.upto termPartsSpec)) termPartsUptoCard

/-- THE SECOND FORM's CARD OF 'sacristylaw14.TermBuilt'. -/
def termBuiltUptoCard : Claim7 := { stood := { row := termBuiltUptoRow, standIns := [], harness := (true, "27ffb73b0b3b0477ec78d12036477549ab07b870a7d96c10a0c12f2c7c345ce0"), looks := true }, kinds := [], alts := [], laidByText := true, laidKinds := [.data, .data, .data, .data, .sentinel, .sentinel, .pinned], laidTests := true, laidLooks := .later }
def TermBuiltUptoCardSaid : Prop := Claim7.holds Tryd.pinned (.plain (OpenSpec.upto termBuiltSpec)) termBuiltUptoCard
end Rows
end Go.Proofs.YtbiinchmbclmcaaDoor
