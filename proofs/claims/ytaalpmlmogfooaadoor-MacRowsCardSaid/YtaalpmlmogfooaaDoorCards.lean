/-
  DERIVED. GIVEN WITH THE SEED: THE CARDS: each row of YtaalpmlmogfooaaDoorRows.lean that lists a variable, with what it lists TIED to the program's text (the seventh form; the later family's looks); each row that meets fmt, with fmt's text TOLD by the authors' own Lean function (tested against real Go, not proved from fmt's source: count such statements apart). THE CARD IS WHAT COUNTS. Prove the row's statement (the work); the ties are given (YtaalpmlmogfooaaDoorTie.lean); close each card by the builder's one call (the guide's Derived/Test/ToyasCard.lean, 'card_holds'). Laid BY PROGRAM, IN A SANDBOX (cutbox-door.mjs). By AI agents, Wed Nov 11 2026. No macro, syntax, notation, axiom, sorry.
-/
import Derived.Test.YtaalpmlmogfooaaDoorRows
import GoSem.ClaimSeven
namespace Go.Proofs.YtaalpmlmogfooaaDoor
namespace Rows

/-- THE TIED CARD OF 'sacristylaw3.MacTells'. -/
def macTellsCard : Claim7 := { stood := { row := macTellsRow, standIns := [], harness := (true, "b3a00a4533d492e02fb8d5ec0ea595456bc417a2a4afb122e624cab00db02cfa"), looks := false }, kinds := [], alts := [], laidByText := true, laidKinds := [.data], laidTests := true, laidLooks := .later }
def MacTellsCardSaid : Prop := Claim7.holds Tryd.pinned (.plain (OpenSpec.ofChange macTellsSpec)) macTellsCard

/-- THE TIED CARD OF 'sacristylaw3.MacLong'. -/
def macLongCard : Claim7 := { stood := { row := macLongRow, standIns := [], harness := (true, "b3a00a4533d492e02fb8d5ec0ea595456bc417a2a4afb122e624cab00db02cfa"), looks := false }, kinds := [], alts := [], laidByText := true, laidKinds := [.data], laidTests := true, laidLooks := .later }
def MacLongCardSaid : Prop := Claim7.holds Tryd.pinned (.plain (OpenSpec.ofChange macLongSpec)) macLongCard

/-- THE TIED CARD OF 'sacristylaw3.MacBegins'. -/
def macBeginsCard : Claim7 := { stood := { row := macBeginsRow, standIns := [], harness := (true, "b3a00a4533d492e02fb8d5ec0ea595456bc417a2a4afb122e624cab00db02cfa"), looks := false }, kinds := [], alts := [], laidByText := true, laidKinds := [.data], laidTests := true, laidLooks := .later }
def MacBeginsCardSaid : Prop := Claim7.holds Tryd.pinned (.plain (OpenSpec.ofChange macBeginsSpec)) macBeginsCard

/-- THE TIED CARD OF 'sacristylaw3.MacApart'. -/
def macApartCard : Claim7 := { stood := { row := macApartRow, standIns := [], harness := (true, "b3a00a4533d492e02fb8d5ec0ea595456bc417a2a4afb122e624cab00db02cfa"), looks := false }, kinds := [], alts := [], laidByText := true, laidKinds := [.data], laidTests := true, laidLooks := .later }
def MacApartCardSaid : Prop := Claim7.holds Tryd.pinned (.plain (OpenSpec.ofChange macApartSpec)) macApartCard

/-- THE TIED CARD OF 'sacristylaw3.MacRows'. -/
def macRowsCard : Claim7 := { stood := { row := macRowsRow, standIns := [], harness := (true, "b3a00a4533d492e02fb8d5ec0ea595456bc417a2a4afb122e624cab00db02cfa"), looks := false }, kinds := [], alts := [], laidByText := true, laidKinds := [.data], laidTests := true, laidLooks := .later }
def MacRowsCardSaid : Prop := Claim7.holds Tryd.pinned (.plain (OpenSpec.ofChange macRowsSpec)) macRowsCard

/-- THE TIED CARD OF 'sacristylaw3.MacEqual'. -/
def macEqualCard : Claim7 := { stood := { row := macEqualRow, standIns := [], harness := (true, "b3a00a4533d492e02fb8d5ec0ea595456bc417a2a4afb122e624cab00db02cfa"), looks := false }, kinds := [], alts := [], laidByText := true, laidKinds := [.data], laidTests := true, laidLooks := .later }
def MacEqualCardSaid : Prop := Claim7.holds Tryd.pinned (.plain (OpenSpec.ofChange macEqualSpec)) macEqualCard

/-- THE SECOND FORM's CARD OF 'sacristylaw3.MacTells'. -/
def macTellsUptoCard : Claim7 := { stood := { row := macTellsUptoRow, standIns := [], harness := (true, "b3a00a4533d492e02fb8d5ec0ea595456bc417a2a4afb122e624cab00db02cfa"), looks := false }, kinds := [], alts := [], laidByText := true, laidKinds := [.data], laidTests := true, laidLooks := .later }
def MacTellsUptoCardSaid : Prop := Claim7.holds Tryd.pinned (.plain (OpenSpec.upto macTellsSpec)) macTellsUptoCard

/-- THE SECOND FORM's CARD OF 'sacristylaw3.MacLong'. -/
def macLongUptoCard : Claim7 := { stood := { row := macLongUptoRow, standIns := [], harness := (true, "b3a00a4533d492e02fb8d5ec0ea595456bc417a2a4afb122e624cab00db02cfa"), looks := false }, kinds := [], alts := [], laidByText := true, laidKinds := [.data], laidTests := true, laidLooks := .later }
def MacLongUptoCardSaid : Prop := Claim7.holds Tryd.pinned (.plain (OpenSpec.upto macLongSpec)) macLongUptoCard

/-- THE SECOND FORM's CARD OF 'sacristylaw3.MacBegins'. -/
def macBeginsUptoCard : Claim7 := { stood := { row := macBeginsUptoRow, standIns := [], harness := (true, "b3a00a4533d492e02fb8d5ec0ea595456bc417a2a4afb122e624cab00db02cfa"), looks := false }, kinds := [], alts := [], laidByText := true, laidKinds := [.data], laidTests := true, laidLooks := .later }
def MacBeginsUptoCardSaid : Prop := Claim7.holds Tryd.pinned (.plain (OpenSpec.upto macBeginsSpec)) macBeginsUptoCard

/-- THE SECOND FORM's CARD OF 'sacristylaw3.MacApart'. -/
def macApartUptoCard : Claim7 := { stood := { row := macApartUptoRow, standIns := [], harness := (true, "b3a00a4533d492e02fb8d5ec0ea595456bc417a2a4afb122e624cab00db02cfa"), looks := false }, kinds := [], alts := [], laidByText := true, laidKinds := [.data], laidTests := true, laidLooks := .later }
def MacApartUptoCardSaid : Prop := Claim7.holds Tryd.pinned (.plain (OpenSpec.upto macApartSpec)) macApartUptoCard

/-- THE SECOND FORM's CARD OF 'sacristylaw3.MacRows'. -/
def macRowsUptoCard : Claim7 := { stood := { row := macRowsUptoRow, standIns := [], harness := (true, "b3a00a4533d492e02fb8d5ec0ea595456bc417a2a4afb122e624cab00db02cfa"), looks := false }, kinds := [], alts := [], laidByText := true, laidKinds := [.data], laidTests := true, laidLooks := .later }
def MacRowsUptoCardSaid : Prop := Claim7.holds Tryd.pinned (.plain (OpenSpec.upto macRowsSpec)) macRowsUptoCard

/-- THE SECOND FORM's CARD OF 'sacristylaw3.MacEqual'. -/
def macEqualUptoCard : Claim7 := { stood := { row := macEqualUptoRow, standIns := [], harness := (true, "b3a00a4533d492e02fb8d5ec0ea595456bc417a2a4afb122e624cab00db02cfa"), looks := false }, kinds := [], alts := [], laidByText := true, laidKinds := [.data], laidTests := true, laidLooks := .later }
def MacEqualUptoCardSaid : Prop := Claim7.holds Tryd.pinned (.plain (OpenSpec.upto macEqualSpec)) macEqualUptoCard
end Rows
end Go.Proofs.YtaalpmlmogfooaaDoor
