/-
  DERIVED. GIVEN WITH THE SEED: THE CARDS: each row of YtjmlgjbojmlibaaGreatDoorRows.lean that lists a variable, with what it lists TIED to the program's text (the seventh form; the later family's looks); each row that meets fmt, with fmt's text TOLD by the authors' own Lean function (tested against real Go, not proved from fmt's source: count such statements apart). THE CARD IS WHAT COUNTS. Prove the row's statement (the work); the ties are given (YtjmlgjbojmlibaaGreatDoorTie.lean); close each card by the builder's one call (the guide's Derived/Test/ToyasCard.lean, 'card_holds'). Laid BY PROGRAM, IN A SANDBOX (cutbox-door.mjs). By AI agents, Wed Nov 11 2026. No macro, syntax, notation, axiom, sorry.
-/
import Derived.Test.YtjmlgjbojmlibaaGreatDoorRows
import GoSem.ClaimSeven
namespace Go.Proofs.YtjmlgjbojmlibaaGreatDoor
namespace Rows

/-- THE TIED CARD OF 'sacristylaw7.PagerPlays'. -/
def pagerPlaysCard : Claim7 := { stood := { row := pagerPlaysRow, standIns := [], harness := (true, "ff92161d41ab9503fbebef74353a41df8efa65cafe8cc83e300589494d893a85"), looks := true }, kinds := [], alts := [], laidByText := true, laidKinds := [.data, .data], laidTests := true, laidLooks := .later }
def PagerPlaysCardSaid : Prop := Claim7.holds Tryz.pinned (.plain (OpenSpec.ofChange pagerPlaysSpec)) pagerPlaysCard

/-- THE TIED CARD OF 'sacristylaw7.PagerTurned'. -/
def pagerTurnedCard : Claim7 := { stood := { row := pagerTurnedRow, standIns := [], harness := (true, "ff92161d41ab9503fbebef74353a41df8efa65cafe8cc83e300589494d893a85"), looks := true }, kinds := [], alts := [], laidByText := true, laidKinds := [.data, .data], laidTests := true, laidLooks := .later }
def PagerTurnedCardSaid : Prop := Claim7.holds Tryz.pinned (.plain (OpenSpec.ofChange pagerTurnedSpec)) pagerTurnedCard

/-- THE TIED CARD OF 'sacristylaw7.PagerStands'. -/
def pagerStandsCard : Claim7 := { stood := { row := pagerStandsRow, standIns := [], harness := (true, "ff92161d41ab9503fbebef74353a41df8efa65cafe8cc83e300589494d893a85"), looks := true }, kinds := [], alts := [], laidByText := true, laidKinds := [.data, .data], laidTests := true, laidLooks := .later }
def PagerStandsCardSaid : Prop := Claim7.holds Tryz.pinned (.plain (OpenSpec.ofChange pagerStandsSpec)) pagerStandsCard

/-- THE TIED CARD OF 'sacristylaw7.PagerFull'. -/
def pagerFullCard : Claim7 := { stood := { row := pagerFullRow, standIns := [], harness := (true, "ff92161d41ab9503fbebef74353a41df8efa65cafe8cc83e300589494d893a85"), looks := true }, kinds := [], alts := [], laidByText := true, laidKinds := [.data, .data], laidTests := true, laidLooks := .later }
def PagerFullCardSaid : Prop := Claim7.holds Tryz.pinned (.plain (OpenSpec.ofChange pagerFullSpec)) pagerFullCard

/-- THE TIED CARD OF 'sacristylaw7.PagerLasts'. -/
def pagerLastsCard : Claim7 := { stood := { row := pagerLastsRow, standIns := [], harness := (true, "ff92161d41ab9503fbebef74353a41df8efa65cafe8cc83e300589494d893a85"), looks := true }, kinds := [], alts := [], laidByText := true, laidKinds := [.data, .data], laidTests := true, laidLooks := .later }
def PagerLastsCardSaid : Prop := Claim7.holds Tryz.pinned (.plain (OpenSpec.ofChange pagerLastsSpec)) pagerLastsCard

/-- THE TIED CARD OF 'sacristylaw7.PagerEach'. -/
def pagerEachCard : Claim7 := { stood := { row := pagerEachRow, standIns := [], harness := (true, "ff92161d41ab9503fbebef74353a41df8efa65cafe8cc83e300589494d893a85"), looks := true }, kinds := [], alts := [], laidByText := true, laidKinds := [.data, .data], laidTests := true, laidLooks := .later }
def PagerEachCardSaid : Prop := Claim7.holds Tryz.pinned (.plain (OpenSpec.ofChange pagerEachSpec)) pagerEachCard

/-- THE SECOND FORM's CARD OF 'sacristylaw7.PagerPlays'. -/
def pagerPlaysUptoCard : Claim7 := { stood := { row := pagerPlaysUptoRow, standIns := [], harness := (true, "ff92161d41ab9503fbebef74353a41df8efa65cafe8cc83e300589494d893a85"), looks := true }, kinds := [], alts := [], laidByText := true, laidKinds := [.data, .data], laidTests := true, laidLooks := .later }
def PagerPlaysUptoCardSaid : Prop := Claim7.holds Tryz.pinned (.plain (OpenSpec.upto pagerPlaysSpec)) pagerPlaysUptoCard

/-- THE SECOND FORM's CARD OF 'sacristylaw7.PagerTurned'. -/
def pagerTurnedUptoCard : Claim7 := { stood := { row := pagerTurnedUptoRow, standIns := [], harness := (true, "ff92161d41ab9503fbebef74353a41df8efa65cafe8cc83e300589494d893a85"), looks := true }, kinds := [], alts := [], laidByText := true, laidKinds := [.data, .data], laidTests := true, laidLooks := .later }
def PagerTurnedUptoCardSaid : Prop := Claim7.holds Tryz.pinned (.plain (OpenSpec.upto pagerTurnedSpec)) pagerTurnedUptoCard

/-- THE SECOND FORM's CARD OF 'sacristylaw7.PagerStands'. -/
def pagerStandsUptoCard : Claim7 := { stood := { row := pagerStandsUptoRow, standIns := [], harness := (true, "ff92161d41ab9503fbebef74353a41df8efa65cafe8cc83e300589494d893a85"), looks := true }, kinds := [], alts := [], laidByText := true, laidKinds := [.data, .data], laidTests := true, laidLooks := .later }
def PagerStandsUptoCardSaid : Prop := Claim7.holds Tryz.pinned (.plain (OpenSpec.upto pagerStandsSpec)) pagerStandsUptoCard

/-- THE SECOND FORM's CARD OF 'sacristylaw7.PagerFull'. -/
def pagerFullUptoCard : Claim7 := { stood := { row := pagerFullUptoRow, standIns := [], harness := (true, "ff92161d41ab9503fbebef74353a41df8efa65cafe8cc83e300589494d893a85"), looks := true }, kinds := [], alts := [], laidByText := true, laidKinds := [.data, .data], laidTests := true, laidLooks := .later }
def PagerFullUptoCardSaid : Prop := Claim7.holds Tryz.pinned (.plain (OpenSpec.upto pagerFullSpec)) pagerFullUptoCard

/-- THE SECOND FORM's CARD OF 'sacristylaw7.PagerLasts'. -/
def pagerLastsUptoCard : Claim7 := { stood := { row := pagerLastsUptoRow, standIns := [], harness := (true, "ff92161d41ab9503fbebef74353a41df8efa65cafe8cc83e300589494d893a85"), looks := true }, kinds := [], alts := [], laidByText := true, laidKinds := [.data, .data], laidTests := true, laidLooks := .later }
def PagerLastsUptoCardSaid : Prop := Claim7.holds Tryz.pinned (.plain (OpenSpec.upto pagerLastsSpec)) pagerLastsUptoCard

/-- THE SECOND FORM's CARD OF 'sacristylaw7.PagerEach'. -/
def pagerEachUptoCard : Claim7 := { stood := { row := pagerEachUptoRow, standIns := [], harness := (true, "ff92161d41ab9503fbebef74353a41df8efa65cafe8cc83e300589494d893a85"), looks := true }, kinds := [], alts := [], laidByText := true, laidKinds := [.data, .data], laidTests := true, laidLooks := .later }
def PagerEachUptoCardSaid : Prop := Claim7.holds Tryz.pinned (.plain (OpenSpec.upto pagerEachSpec)) pagerEachUptoCard
end Rows
end Go.Proofs.YtjmlgjbojmlibaaGreatDoor
