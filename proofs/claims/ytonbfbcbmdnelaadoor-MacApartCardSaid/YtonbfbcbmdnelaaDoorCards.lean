/-
  DERIVED. GIVEN WITH THE SEED: THE CARDS: each row of YtonbfbcbmdnelaaDoorRows.lean that lists a variable, with what it lists TIED to the program's text (the seventh form; the later family's looks); each row that meets fmt, with fmt's text TOLD by the authors' own Lean function (tested against real Go, not proved from fmt's source: count such statements apart). THE CARD IS WHAT COUNTS. Prove the row's statement (the work); the ties are given (YtonbfbcbmdnelaaDoorTie.lean); close each card by the builder's one call (the guide's Derived/Test/ToyasCard.lean, 'card_holds'). Laid BY PROGRAM, IN A SANDBOX (cutbox-door.mjs). By AI agents, Wed Nov 11 2026. No macro, syntax, notation, axiom, sorry.
-/
import Derived.Test.YtonbfbcbmdnelaaDoorRows
import GoSem.ClaimSeven
namespace Go.Proofs.YtonbfbcbmdnelaaDoor
namespace Rows

/-- THE TIED CARD OF 'sacristylaw3.MacTells'. -/
def macTellsCard : Claim7 := { stood := { row := macTellsRow, standIns := [], harness := (true, "953a54338d99f9bf68ebd0e1128773ce58539e0ad9abf91d076bc9ec8ab5fa5e"), looks := false }, kinds := [], alts := [], laidByText := true, laidKinds := [.data], laidTests := true, laidLooks := .later }
def MacTellsCardSaid : Prop := Claim7.holds Tryd.pinned (.plain (OpenSpec.ofChange macTellsSpec)) macTellsCard

/-- THE TIED CARD OF 'sacristylaw3.MacBegins'. -/
def macBeginsCard : Claim7 := { stood := { row := macBeginsRow, standIns := [], harness := (true, "953a54338d99f9bf68ebd0e1128773ce58539e0ad9abf91d076bc9ec8ab5fa5e"), looks := false }, kinds := [], alts := [], laidByText := true, laidKinds := [.data], laidTests := true, laidLooks := .later }
def MacBeginsCardSaid : Prop := Claim7.holds Tryd.pinned (.plain (OpenSpec.ofChange macBeginsSpec)) macBeginsCard

/-- THE TIED CARD OF 'sacristylaw3.MacApart'. -/
def macApartCard : Claim7 := { stood := { row := macApartRow, standIns := [], harness := (true, "953a54338d99f9bf68ebd0e1128773ce58539e0ad9abf91d076bc9ec8ab5fa5e"), looks := false }, kinds := [], alts := [], laidByText := true, laidKinds := [.data], laidTests := true, laidLooks := .later }
def MacApartCardSaid : Prop := Claim7.holds Tryd.pinned (.plain (OpenSpec.ofChange macApartSpec)) macApartCard

/-- THE SECOND FORM's CARD OF 'sacristylaw3.MacTells'. -/
def macTellsUptoCard : Claim7 := { stood := { row := macTellsUptoRow, standIns := [], harness := (true, "953a54338d99f9bf68ebd0e1128773ce58539e0ad9abf91d076bc9ec8ab5fa5e"), looks := false }, kinds := [], alts := [], laidByText := true, laidKinds := [.data], laidTests := true, laidLooks := .later }
def MacTellsUptoCardSaid : Prop := Claim7.holds Tryd.pinned (.plain (OpenSpec.upto macTellsSpec)) macTellsUptoCard

/-- THE SECOND FORM's CARD OF 'sacristylaw3.MacBegins'. -/
def macBeginsUptoCard : Claim7 := { stood := { row := macBeginsUptoRow, standIns := [], harness := (true, "953a54338d99f9bf68ebd0e1128773ce58539e0ad9abf91d076bc9ec8ab5fa5e"), looks := false }, kinds := [], alts := [], laidByText := true, laidKinds := [.data], laidTests := true, laidLooks := .later }
def MacBeginsUptoCardSaid : Prop := Claim7.holds Tryd.pinned (.plain (OpenSpec.upto macBeginsSpec)) macBeginsUptoCard

/-- THE SECOND FORM's CARD OF 'sacristylaw3.MacApart'. -/
def macApartUptoCard : Claim7 := { stood := { row := macApartUptoRow, standIns := [], harness := (true, "953a54338d99f9bf68ebd0e1128773ce58539e0ad9abf91d076bc9ec8ab5fa5e"), looks := false }, kinds := [], alts := [], laidByText := true, laidKinds := [.data], laidTests := true, laidLooks := .later }
def MacApartUptoCardSaid : Prop := Claim7.holds Tryd.pinned (.plain (OpenSpec.upto macApartSpec)) macApartUptoCard
end Rows
end Go.Proofs.YtonbfbcbmdnelaaDoor
