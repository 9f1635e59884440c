/-
  DERIVED. GIVEN WITH THE SEED: THE CARDS: each row of YtblnljajipbajaaGreatDoorRows.lean that lists a variable, with what it lists TIED to the program's text (the seventh form; the later family's looks); each row that meets fmt, with fmt's text TOLD by the authors' own Lean function (tested against real Go, not proved from fmt's source: count such statements apart). THE CARD IS WHAT COUNTS. Prove the row's statement (the work); the ties are given (YtblnljajipbajaaGreatDoorTie.lean); close each card by the builder's one call (the guide's Derived/Test/ToyasCard.lean, 'card_holds'). Laid BY PROGRAM, IN A SANDBOX (cutbox-door.mjs). By AI agents, Wed Nov 11 2026. No macro, syntax, notation, axiom, sorry.
-/
import Derived.Test.YtblnljajipbajaaGreatDoorRows
import GoSem.ClaimSeven
namespace Go.Proofs.YtblnljajipbajaaGreatDoor
namespace Rows

/-- THE TIED CARD OF 'sacristylaw12.SlotsPlay'. -/
def slotsPlayCard : Claim7 := { stood := { row := slotsPlayRow, standIns := [], harness := (true, "100648f29e7ead8982b80c345e17d75eb6398766d30e30f2d658c1f605717725"), looks := false }, kinds := [], alts := [], laidByText := true, laidKinds := [.data, .data], laidTests := true, laidLooks := .later }
def SlotsPlayCardSaid : Prop := Claim7.holds Tryz.pinned (.plain (OpenSpec.ofChange slotsPlaySpec)) slotsPlayCard

/-- THE TIED CARD OF 'sacristylaw12.SlotsStand'. -/
def slotsStandCard : Claim7 := { stood := { row := slotsStandRow, standIns := [], harness := (true, "100648f29e7ead8982b80c345e17d75eb6398766d30e30f2d658c1f605717725"), looks := false }, kinds := [], alts := [], laidByText := true, laidKinds := [.data, .data], laidTests := true, laidLooks := .later }
def SlotsStandCardSaid : Prop := Claim7.holds Tryz.pinned (.plain (OpenSpec.ofChange slotsStandSpec)) slotsStandCard

/-- THE TIED CARD OF 'sacristylaw12.SlotsErased'. -/
def slotsErasedCard : Claim7 := { stood := { row := slotsErasedRow, standIns := [], harness := (true, "100648f29e7ead8982b80c345e17d75eb6398766d30e30f2d658c1f605717725"), looks := false }, kinds := [], alts := [], laidByText := true, laidKinds := [.data, .data], laidTests := true, laidLooks := .later }
def SlotsErasedCardSaid : Prop := Claim7.holds Tryz.pinned (.plain (OpenSpec.ofChange slotsErasedSpec)) slotsErasedCard

/-- THE TIED CARD OF 'sacristylaw12.SlotsApart'. -/
def slotsApartCard : Claim7 := { stood := { row := slotsApartRow, standIns := [], harness := (true, "100648f29e7ead8982b80c345e17d75eb6398766d30e30f2d658c1f605717725"), looks := false }, kinds := [], alts := [], laidByText := true, laidKinds := [.data, .data], laidTests := true, laidLooks := .later }
def SlotsApartCardSaid : Prop := Claim7.holds Tryz.pinned (.plain (OpenSpec.ofChange slotsApartSpec)) slotsApartCard

/-- THE TIED CARD OF 'sacristylaw12.SlotsMade'. -/
def slotsMadeCard : Claim7 := { stood := { row := slotsMadeRow, standIns := [], harness := (true, "100648f29e7ead8982b80c345e17d75eb6398766d30e30f2d658c1f605717725"), looks := false }, kinds := [], alts := [], laidByText := true, laidKinds := [.data, .data], laidTests := true, laidLooks := .later }
def SlotsMadeCardSaid : Prop := Claim7.holds Tryz.pinned (.plain (OpenSpec.ofChange slotsMadeSpec)) slotsMadeCard

/-- THE TIED CARD OF 'sacristylaw12.SlotsLast'. -/
def slotsLastCard : Claim7 := { stood := { row := slotsLastRow, standIns := [], harness := (true, "100648f29e7ead8982b80c345e17d75eb6398766d30e30f2d658c1f605717725"), looks := false }, kinds := [], alts := [], laidByText := true, laidKinds := [.data, .data], laidTests := true, laidLooks := .later }
def SlotsLastCardSaid : Prop := Claim7.holds Tryz.pinned (.plain (OpenSpec.ofChange slotsLastSpec)) slotsLastCard

/-- THE SECOND FORM's CARD OF 'sacristylaw12.SlotsPlay'. -/
def slotsPlayUptoCard : Claim7 := { stood := { row := slotsPlayUptoRow, standIns := [], harness := (true, "100648f29e7ead8982b80c345e17d75eb6398766d30e30f2d658c1f605717725"), looks := false }, kinds := [], alts := [], laidByText := true, laidKinds := [.data, .data], laidTests := true, laidLooks := .later }
def SlotsPlayUptoCardSaid : Prop := Claim7.holds Tryz.pinned (.plain (OpenSpec.upto slotsPlaySpec)) slotsPlayUptoCard

/-- THE SECOND FORM's CARD OF 'sacristylaw12.SlotsStand'. -/
def slotsStandUptoCard : Claim7 := { stood := { row := slotsStandUptoRow, standIns := [], harness := (true, "100648f29e7ead8982b80c345e17d75eb6398766d30e30f2d658c1f605717725"), looks := false }, kinds := [], alts := [], laidByText := true, laidKinds := [.data, .data], laidTests := true, laidLooks := .later }
def SlotsStandUptoCardSaid : Prop := Claim7.holds Tryz.pinned (.plain (OpenSpec.upto slotsStandSpec)) slotsStandUptoCard

/-- THE SECOND FORM's CARD OF 'sacristylaw12.SlotsErased'. -/
def slotsErasedUptoCard : Claim7 := { stood := { row := slotsErasedUptoRow, standIns := [], harness := (true, "100648f29e7ead8982b80c345e17d75eb6398766d30e30f2d658c1f605717725"), looks := false }, kinds := [], alts := [], laidByText := true, laidKinds := [.data, .data], laidTests := true, laidLooks := .later }
def SlotsErasedUptoCardSaid : Prop := Claim7.holds Tryz.pinned (.plain (OpenSpec.upto slotsErasedSpec)) slotsErasedUptoCard

/-- THE SECOND FORM's CARD OF 'sacristylaw12.SlotsApart'. -/
def slotsApartUptoCard : Claim7 := { stood := { row := slotsApartUptoRow, standIns := [], harness := (true, "100648f29e7ead8982b80c345e17d75eb6398766d30e30f2d658c1f605717725"), looks := false }, kinds := [], alts := [], laidByText := true, laidKinds := [.data, .data], laidTests := true, laidLooks := .later }
def SlotsApartUptoCardSaid : Prop := Claim7.holds Tryz.pinned (.plain (OpenSpec.upto slotsApartSpec)) slotsApartUptoCard

/-- THE SECOND FORM's CARD OF 'sacristylaw12.SlotsMade'. -/
def slotsMadeUptoCard : Claim7 := { stood := { row := slotsMadeUptoRow, standIns := [], harness := (true, "100648f29e7ead8982b80c345e17d75eb6398766d30e30f2d658c1f605717725"), looks := false }, kinds := [], alts := [], laidByText := true, laidKinds := [.data, .data], laidTests := true, laidLooks := .later }
def SlotsMadeUptoCardSaid : Prop := Claim7.holds Tryz.pinned (.plain (OpenSpec.upto slotsMadeSpec)) slotsMadeUptoCard

/-- THE SECOND FORM's CARD OF 'sacristylaw12.SlotsLast'. -/
def slotsLastUptoCard : Claim7 := { stood := { row := slotsLastUptoRow, standIns := [], harness := (true, "100648f29e7ead8982b80c345e17d75eb6398766d30e30f2d658c1f605717725"), looks := false }, kinds := [], alts := [], laidByText := true, laidKinds := [.data, .data], laidTests := true, laidLooks := .later }
def SlotsLastUptoCardSaid : Prop := Claim7.holds Tryz.pinned (.plain (OpenSpec.upto slotsLastSpec)) slotsLastUptoCard
end Rows
end Go.Proofs.YtblnljajipbajaaGreatDoor
