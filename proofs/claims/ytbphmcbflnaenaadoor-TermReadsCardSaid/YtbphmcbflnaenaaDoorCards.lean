/-
  DERIVED. GIVEN WITH THE SEED: THE CARDS: each row of YtbphmcbflnaenaaDoorRows.lean that lists a variable, with what it lists TIED to the program's text (the seventh form; the later family's looks); each row that meets fmt, with fmt's text TOLD by the authors' own Lean function (tested against real Go, not proved from fmt's source: count such statements apart). THE CARD IS WHAT COUNTS. Prove the row's statement (the work); the ties are given (YtbphmcbflnaenaaDoorTie.lean); close each card by the builder's one call (the guide's Derived/Test/ToyasCard.lean, 'card_holds'). Laid BY PROGRAM, IN A SANDBOX (cutbox-door.mjs). By AI agents, Wed Nov 11 2026. No macro, syntax, notation, axiom, sorry.
-/
import Derived.Test.YtbphmcbflnaenaaDoorRows
import GoSem.ClaimSeven
namespace Go.Proofs.YtbphmcbflnaenaaDoor
namespace Rows

/-- THE TIED CARD OF 'sacristylaw14.TermTells'. -/
def termTellsCard : Claim7 := { stood := { row := termTellsRow, standIns := [], harness := (true, "e1075547bb6ff6d7cc1dffd79bbf9ac84befb4f52bac48c31af677e4e4abdccd"), looks := true }, kinds := [], alts := [], laidByText := true, laidKinds := [.data, .data, .data, .data, .sentinel, .sentinel, .pinned], laidTests := true, laidLooks := .later }
def TermTellsCardSaid : Prop := Claim7.holds Tryd.pinned (.plain (OpenSpec.ofChange termTellsSpec)) termTellsCard

/-- THE TIED CARD OF 'sacristylaw14.TermReads'. -/
def termReadsCard : Claim7 := { stood := { row := termReadsRow, standIns := [], harness := (true, "e1075547bb6ff6d7cc1dffd79bbf9ac84befb4f52bac48c31af677e4e4abdccd"), looks := true }, kinds := [], alts := [], laidByText := true, laidKinds := [.data, .data, .data, .data, .sentinel, .sentinel, .pinned], laidTests := true, laidLooks := .later }
def TermReadsCardSaid : Prop := Claim7.holds Tryd.pinned (.plain (OpenSpec.ofChange termReadsSpec)) termReadsCard

/-- THE TIED CARD OF 'sacristylaw14.TermBack'. -/
def termBackCard : Claim7 := { stood := { row := termBackRow, standIns := [], harness := (true, "e1075547bb6ff6d7cc1dffd79bbf9ac84befb4f52bac48c31af677e4e4abdccd"), looks := true }, kinds := [], alts := [], laidByText := true, laidKinds := [.data, .data, .data, .data, .sentinel, .sentinel, .pinned], laidTests := true, laidLooks := .later }
def TermBackCardSaid : Prop := Claim7.holds Tryd.pinned (.plain (OpenSpec.ofChange termBackSpec)) termBackCard

/-- THE TIED CARD OF 'sacristylaw14.TermParts'. -/
def termPartsCard : Claim7 := { stood := { row := termPartsRow, standIns := [], harness := (true, "e1075547bb6ff6d7cc1dffd79bbf9ac84befb4f52bac48c31af677e4e4abdccd"), looks := true }, kinds := [], alts := [], laidByText := true, laidKinds := [.data, .data, .data, .data, .sentinel, .sentinel, .pinned], laidTests := true, laidLooks := .later }
def TermPartsCardSaid : Prop := Claim7.holds Tryd.pinned (.plain (OpenSpec.ofChange termPartsSpec)) termPartsCard

/-- THE TIED CARD OF 'sacristylaw14.TermBounds'. -/
def termBoundsCard : Claim7 := { stood := { row := termBoundsRow, standIns := [], harness := (true, "e1075547bb6ff6d7cc1dffd79bbf9ac84befb4f52bac48c31af677e4e4abdccd"), looks := true }, kinds := [], alts := [], laidByText := true, laidKinds := [.data, .data, .data, .data, .sentinel, .sentinel, .pinned], laidTests := true, laidLooks := .later }
def TermBoundsCardSaid : Prop := Claim7.holds Tryd.pinned (.plain (OpenSpec.ofChange termBoundsSpec)) termBoundsCard

/-- THE TIED CARD OF 'sacristylaw14.TermBuilt'. -/
def termBuiltCard : Claim7 := { stood := { row := termBuiltRow, standIns := [], harness := (true, "e1075547bb6ff6d7cc1dffd79bbf9ac84befb4f52bac48c31af677e4e4abdccd"), looks := true }, kinds := [], alts := [], laidByText := true, laidKinds := [.data, .data, .data, .data, .sentinel, .sentinel, .pinned], laidTests := true, laidLooks := .later }
def TermBuiltCardSaid : Prop := Claim7.holds Tryd.pinned (.plain (OpenSpec.ofChange termBuiltSpec)) termBuiltCard

/-- THE SECOND FORM's CARD OF 'sacristylaw14.TermTells'. -/
def termTellsUptoCard : Claim7 := { stood := { row := termTellsUptoRow, standIns := [], harness := (true, "e1075547bb6ff6d7cc1dffd79bbf9ac84befb4f52bac48c31af677e4e4abdccd"), looks := true }, kinds := [], alts := [], laidByText := true, laidKinds := [.data, .data, .data, .data, .sentinel, .sentinel, .pinned], laidTests := true, laidLooks := .later }
def TermTellsUptoCardSaid : Prop := Claim7.holds Tryd.pinned (.plain (OpenSpec.upto termTellsSpec)) termTellsUptoCard

/-- THE SECOND FORM's CARD OF 'sacristylaw14.TermReads'. -/
def termReadsUptoCard : Claim7 := { stood := { row := termReadsUptoRow, standIns := [], harness := (true, "e1075547bb6ff6d7cc1dffd79bbf9ac84befb4f52bac48c31af677e4e4abdccd"), looks := true }, kinds := [], alts := [], laidByText := true, laidKinds := [.data, .data, .data, .data, .sentinel, .sentinel, .pinned], laidTests := true, laidLooks := .later }
def TermReadsUptoCardSaid : Prop := Claim7.holds Tryd.pinned (.plain (OpenSpec.upto termReadsSpec)) termReadsUptoCard

/-- THE SECOND FORM's CARD OF 'sacristylaw14.TermBack'. -/
def termBackUptoCard : Claim7 := { stood := { row := termBackUptoRow, standIns := [], harness := (true, "e1075547bb6ff6d7cc1dffd79bbf9ac84befb4f52bac48c31af677e4e4abdccd"), looks := true }, kinds := [], alts := [], laidByText := true, laidKinds := [.data, .data, .data, .data, .sentinel, .sentinel, .pinned], laidTests := true, laidLooks := .later }
def TermBackUptoCardSaid : Prop := Claim7.holds Tryd.pinned (.plain (OpenSpec.upto termBackSpec)) termBackUptoCard

/-- THE SECOND FORM's CARD OF 'sacristylaw14.TermParts'. -/
def termPartsUptoCard : Claim7 := { stood := { row := termPartsUptoRow, standIns := [], harness := (true, "e1075547bb6ff6d7cc1dffd79bbf9ac84befb4f52bac48c31af677e4e4abdccd"), looks := true }, kinds := [], alts := [], laidByText := true, laidKinds := [.data, .data, .data, .data, .sentinel, .sentinel, .pinned], laidTests := true, laidLooks := .later }
def TermPartsUptoCardSaid : Prop := Claim7.holds Tryd.pinned (.plain (OpenSpec.upto termPartsSpec)) termPartsUptoCard

/-- THE SECOND FORM's CARD OF 'sacristylaw14.TermBounds'. -/
def termBoundsUptoCard : Claim7 := { stood := { row := termBoundsUptoRow, standIns := [], harness := (true, "e1075547bb6ff6d7cc1dffd79bbf9ac84befb4f52bac48c31af677e4e4abdccd"), looks := true }, kinds := [], alts := [], laidByText := true, laidKinds := [.data, .data, .data, .data, .sentinel, .sentinel, .pinned], laidTests := true, laidLooks := .later }
def TermBoundsUptoCardSaid : Prop := Claim7.holds Tryd.pinned (.plain (OpenSpec.upto termBoundsSpec)) termBoundsUptoCard

/-- THE SECOND FORM's CARD OF 'sacristylaw14.TermBuilt'. -/
def termBuiltUptoCard : Claim7 := { stood := { row := termBuiltUptoRow, standIns := [], harness := (true, "e1075547bb6ff6d7cc1dffd79bbf9ac84befb4f52bac48c31af677e4e4abdccd"), looks := true }, kinds := [], alts := [], laidByText := true, laidKinds := [.data, .data, .data, .data, .sentinel, .sentinel, .pinned], laidTests := true, laidLooks := .later }
def TermBuiltUptoCardSaid : Prop := Claim7.holds Tryd.pinned (.plain (OpenSpec.upto termBuiltSpec)) termBuiltUptoCard
end Rows
end Go.Proofs.YtbphmcbflnaenaaDoor
