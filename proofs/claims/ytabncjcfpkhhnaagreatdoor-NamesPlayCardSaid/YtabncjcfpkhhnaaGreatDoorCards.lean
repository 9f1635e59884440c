/-
  DERIVED. GIVEN WITH THE SEED: THE CARDS: each row of YtabncjcfpkhhnaaGreatDoorRows.lean that lists a variable, with what it lists TIED to the program's text (the seventh form; the later family's looks); each row that meets fmt, with fmt's text TOLD by the authors' own Lean function (tested against real Go, not proved from fmt's source: count such statements apart). THE CARD IS WHAT COUNTS. Prove the row's statement (the work); the ties are given (YtabncjcfpkhhnaaGreatDoorTie.lean); close each card by the builder's one call (the guide's Derived/Test/ToyasCard.lean, 'card_holds'). Laid BY PROGRAM, IN A SANDBOX (cutbox-door.mjs). By AI agents, Wed Nov 11 2026. No macro, syntax, notation, axiom, sorry.
-/
import Derived.Test.YtabncjcfpkhhnaaGreatDoorRows
import GoSem.ClaimSeven
namespace Go.Proofs.YtabncjcfpkhhnaaGreatDoor
namespace Rows

/-- THE TIED CARD OF 'sacristylaw16.NamesPlay'. -/
def namesPlayCard : Claim7 := { stood := { row := namesPlayRow, standIns := [], harness := (true, "b40c8972b623eb0437c7c5e5cd34d727fd652ec0ba31577e31d5f74c71ace14e"), looks := true }, kinds := [], alts := [], laidByText := true, laidKinds := [.data, .pinned], laidTests := true, laidLooks := .later }
def NamesPlayCardSaid : Prop := Claim7.holds Tryz.pinned (.plain (OpenSpec.ofChange namesPlaySpec)) namesPlayCard

/-- THE TIED CARD OF 'sacristylaw16.NamesTree'. -/
def namesTreeCard : Claim7 := { stood := { row := namesTreeRow, standIns := [], harness := (true, "b40c8972b623eb0437c7c5e5cd34d727fd652ec0ba31577e31d5f74c71ace14e"), looks := true }, kinds := [], alts := [], laidByText := true, laidKinds := [.data, .pinned], laidTests := true, laidLooks := .later }
def NamesTreeCardSaid : Prop := Claim7.holds Tryz.pinned (.plain (OpenSpec.ofChange namesTreeSpec)) namesTreeCard

/-- THE TIED CARD OF 'sacristylaw16.NamesFull'. -/
def namesFullCard : Claim7 := { stood := { row := namesFullRow, standIns := [], harness := (true, "b40c8972b623eb0437c7c5e5cd34d727fd652ec0ba31577e31d5f74c71ace14e"), looks := true }, kinds := [], alts := [], laidByText := true, laidKinds := [.data, .pinned], laidTests := true, laidLooks := .later }
def NamesFullCardSaid : Prop := Claim7.holds Tryz.pinned (.plain (OpenSpec.ofChange namesFullSpec)) namesFullCard

/-- THE TIED CARD OF 'sacristylaw16.NamesLimits'. -/
def namesLimitsCard : Claim7 := { stood := { row := namesLimitsRow, standIns := [], harness := (true, "b40c8972b623eb0437c7c5e5cd34d727fd652ec0ba31577e31d5f74c71ace14e"), looks := true }, kinds := [], alts := [], laidByText := true, laidKinds := [.data, .pinned], laidTests := true, laidLooks := .later }
def NamesLimitsCardSaid : Prop := Claim7.holds Tryz.pinned (.plain (OpenSpec.ofChange namesLimitsSpec)) namesLimitsCard

/-- THE SECOND FORM's CARD OF 'sacristylaw16.NamesPlay'. -/
def namesPlayUptoCard : Claim7 := { stood := { row := namesPlayUptoRow, standIns := [], harness := (true, "b40c8972b623eb0437c7c5e5cd34d727fd652ec0ba31577e31d5f74c71ace14e"), looks := true }, kinds := [], alts := [], laidByText := true, laidKinds := [.data, .pinned], laidTests := true, laidLooks := .later }
def NamesPlayUptoCardSaid : Prop := Claim7.holds Tryz.pinned (.plain (OpenSpec.upto namesPlaySpec)) namesPlayUptoCard

/-- THE SECOND FORM's CARD OF 'sacristylaw16.NamesTree'. -/
def namesTreeUptoCard : Claim7 := { stood := { row := namesTreeUptoRow, standIns := [], harness := (true, "b40c8972b623eb0437c7c5e5cd34d727fd652ec0ba31577e31d5f74c71ace14e"), looks := true }, kinds := [], alts := [], laidByText := true, laidKinds := [.data, .pinned], laidTests := true, laidLooks := .later }
def NamesTreeUptoCardSaid : Prop := Claim7.holds Tryz.pinned (.plain (OpenSpec.upto namesTreeSpec)) namesTreeUptoCard

/-- THE SECOND FORM's CARD OF 'sacristylaw16.NamesFull'. -/
def namesFullUptoCard : Claim7 := { stood := { row := namesFullUptoRow, standIns := [], harness := (true, "b40c8972b623eb0437c7c5e5cd34d727fd652ec0ba31577e31d5f74c71ace14e"), looks := true }, kinds := [], alts := [], laidByText := true, laidKinds := [.data, .pinned], laidTests := true, laidLooks := .later }
def NamesFullUptoCardSaid : Prop := Claim7.holds Tryz.pinned (.plain (OpenSpec.upto namesFullSpec)) namesFullUptoCard

/-- THE SECOND FORM's CARD OF 'sacristylaw16.NamesLimits'. -/
def namesLimitsUptoCard : Claim7 := { stood := { row := namesLimitsUptoRow, standIns := [], harness := (true, "b40c8972b623eb0437c7c5e5cd34d727fd652ec0ba31577e31d5f74c71ace14e"), looks := true }, kinds := [], alts := [], laidByText := true, laidKinds := [.data, .pinned], laidTests := true, laidLooks := .later }
def NamesLimitsUptoCardSaid : Prop := Claim7.holds Tryz.pinned (.plain (OpenSpec.upto namesLimitsSpec)) namesLimitsUptoCard
end Rows
end Go.Proofs.YtabncjcfpkhhnaaGreatDoor
