/-
  DERIVED. GIVEN WITH THE SEED: THE CARDS: each row of YtikmmheknfljkaaDoorRows.lean that lists a variable, with what it lists TIED to the program's text (the seventh form; the later family's looks); each row that meets fmt, with fmt's text TOLD by the authors' own Lean function (tested against real Go, not proved from fmt's source: count such statements apart). THE CARD IS WHAT COUNTS. Prove the row's statement (the work); the ties are given (YtikmmheknfljkaaDoorTie.lean); close each card by the builder's one call (the guide's Derived/Test/ToyasCard.lean, 'card_holds'). Laid BY PROGRAM, IN A SANDBOX (cutbox-door.mjs). By AI agents, Wed Nov 11 2026. No macro, syntax, notation, axiom, sorry.
-/
import Derived.Test.YtikmmheknfljkaaDoorRows
import GoSem.ClaimSeven
namespace Go.Proofs.YtikmmheknfljkaaDoor
namespace Rows

/-- THE TIED CARD OF 'sacristylaw11.PathTells'. -/
def pathTellsCard : Claim7 := { stood := { row := pathTellsRow, standIns := [], harness := (true, "09132d2c8dfff595b50e3f087244638c46150ec1029bcedd193cbcf71b3834e0"), looks := false }, kinds := [], alts := [], laidByText := true, laidKinds := [.data, .pinned], laidTests := true, laidLooks := .later }
def PathTellsCardSaid : Prop := Claim7.holds Tryd.pinned (.plain (OpenSpec.ofChange pathTellsSpec)) pathTellsCard

/-- THE TIED CARD OF 'sacristylaw11.PathCodes'. -/
def pathCodesCard : Claim7 := { stood := { row := pathCodesRow, standIns := [], harness := (true, "09132d2c8dfff595b50e3f087244638c46150ec1029bcedd193cbcf71b3834e0"), looks := false }, kinds := [], alts := [], laidByText := true, laidKinds := [.data, .pinned], laidTests := true, laidLooks := .later }
def PathCodesCardSaid : Prop := Claim7.holds Tryd.pinned (.plain (OpenSpec.ofChange pathCodesSpec)) pathCodesCard

/-- THE TIED CARD OF 'sacristylaw11.PathParents'. -/
def pathParentsCard : Claim7 := { stood := { row := pathParentsRow, standIns := [], harness := (true, "09132d2c8dfff595b50e3f087244638c46150ec1029bcedd193cbcf71b3834e0"), looks := false }, kinds := [], alts := [], laidByText := true, laidKinds := [.data, .pinned], laidTests := true, laidLooks := .later }
def PathParentsCardSaid : Prop := Claim7.holds Tryd.pinned (.plain (OpenSpec.ofChange pathParentsSpec)) pathParentsCard

/-- THE TIED CARD OF 'sacristylaw11.PathBounds'. -/
def pathBoundsCard : Claim7 := { stood := { row := pathBoundsRow, standIns := [], harness := (true, "09132d2c8dfff595b50e3f087244638c46150ec1029bcedd193cbcf71b3834e0"), looks := false }, kinds := [], alts := [], laidByText := true, laidKinds := [.data, .pinned], laidTests := true, laidLooks := .later }
def PathBoundsCardSaid : Prop := Claim7.holds Tryd.pinned (.plain (OpenSpec.ofChange pathBoundsSpec)) pathBoundsCard

/-- THE TIED CARD OF 'sacristylaw11.PathKeys'. -/
def pathKeysCard : Claim7 := { stood := { row := pathKeysRow, standIns := [], harness := (true, "09132d2c8dfff595b50e3f087244638c46150ec1029bcedd193cbcf71b3834e0"), looks := false }, kinds := [], alts := [], laidByText := true, laidKinds := [.data, .pinned], laidTests := true, laidLooks := .later }
def PathKeysCardSaid : Prop := Claim7.holds Tryd.pinned (.plain (OpenSpec.ofChange pathKeysSpec)) pathKeysCard

/-- THE SECOND FORM's CARD OF 'sacristylaw11.PathTells'. -/
def pathTellsUptoCard : Claim7 := { stood := { row := pathTellsUptoRow, standIns := [], harness := (true, "09132d2c8dfff595b50e3f087244638c46150ec1029bcedd193cbcf71b3834e0"), looks := false }, kinds := [], alts := [], laidByText := true, laidKinds := [.data, .pinned], laidTests := true, laidLooks := .later }
def PathTellsUptoCardSaid : Prop := Claim7.holds Tryd.pinned (.plain (OpenSpec.upto pathTellsSpec)) pathTellsUptoCard

/-- THE SECOND FORM's CARD OF 'sacristylaw11.PathCodes'. -/
def pathCodesUptoCard : Claim7 := { stood := { row := pathCodesUptoRow, standIns := [], harness := (true, "09132d2c8dfff595b50e3f087244638c46150ec1029bcedd193cbcf71b3834e0"), looks := false }, kinds := [], alts := [], laidByText := true, laidKinds := [.data, .pinned], laidTests := true, laidLooks := .later }
def PathCodesUptoCardSaid : Prop := Claim7.holds Tryd.pinned (.plain (OpenSpec.upto pathCodesSpec)) pathCodesUptoCard

/-- THE SECOND FORM's CARD OF 'sacristylaw11.PathParents'. -/
def pathParentsUptoCard : Claim7 := { stood := { row := pathParentsUptoRow, standIns := [], harness := (true, "09132d2c8dfff595b50e3f087244638c46150ec1029bcedd193cbcf71b3834e0"), looks := false }, kinds := [], alts := [], laidByText := true, laidKinds := [.data, .pinned], laidTests := true, laidLooks := .later }
def PathParentsUptoCardSaid : Prop := Claim7.holds Tryd.pinned (.plain (OpenSpec.upto pathParentsSpec)) pathParentsUptoCard

/-- THE SECOND FORM's CARD OF 'sacristylaw11.PathBounds'. -/
def pathBoundsUptoCard : Claim7 := { stood := { row := pathBoundsUptoRow, standIns := [], harness := (true, "09132d2c8dfff595b50e3f087244638c46150ec1029bcedd193cbcf71b3834e0"), looks := false }, kinds := [], alts := [], laidByText := true, laidKinds := [.data, .pinned], laidTests := true, laidLooks := .later }
def PathBoundsUptoCardSaid : Prop := Claim7.holds Tryd.pinned (.plain (OpenSpec.upto pathBoundsSpec)) pathBoundsUptoCard

/-- THE SECOND FORM's CARD OF 'sacristylaw11.PathKeys'. -/
def pathKeysUptoCard : Claim7 := { stood := { row := pathKeysUptoRow, standIns := [], harness := (true, "09132d2c8dfff595b50e3f087244638c46150ec1029bcedd193cbcf71b3834e0"), looks := false }, kinds := [], alts := [], laidByText := true, laidKinds := [.data, .pinned], laidTests := true, laidLooks := .later }
def PathKeysUptoCardSaid : Prop := Claim7.holds Tryd.pinned (.plain (OpenSpec.upto pathKeysSpec)) pathKeysUptoCard
end Rows
end Go.Proofs.YtikmmheknfljkaaDoor
