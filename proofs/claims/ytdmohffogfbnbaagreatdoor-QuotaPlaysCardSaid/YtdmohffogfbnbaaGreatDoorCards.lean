/-
  DERIVED. GIVEN WITH THE SEED: THE CARDS: each row of YtdmohffogfbnbaaGreatDoorRows.lean that lists a variable, with what it lists TIED to the program's text (the seventh form; the later family's looks); each row that meets fmt, with fmt's text TOLD by the authors' own Lean function (tested against real Go, not proved from fmt's source: count such statements apart). THE CARD IS WHAT COUNTS. Prove the row's statement (the work); the ties are given (YtdmohffogfbnbaaGreatDoorTie.lean); close each card by the builder's one call (the guide's Derived/Test/ToyasCard.lean, 'card_holds'). Laid BY PROGRAM, IN A SANDBOX (cutbox-door.mjs). By AI agents, Wed Nov 11 2026. No macro, syntax, notation, axiom, sorry.
-/
import Derived.Test.YtdmohffogfbnbaaGreatDoorRows
import GoSem.ClaimSeven
namespace Go.Proofs.YtdmohffogfbnbaaGreatDoor
namespace Rows

/-- THE TIED CARD OF 'sacristylaw17.QuotaPlays'. -/
def quotaPlaysCard : Claim7 := { stood := { row := quotaPlaysRow, standIns := [], harness := (true, "89b9a272a94df18adb55eb5613eb1efc1370460ce2a9c4cabb371b989e5fd9d2"), looks := false }, kinds := [], alts := [], laidByText := true, laidKinds := [.data, .pinned], laidTests := true, laidLooks := .later }
def QuotaPlaysCardSaid : Prop := Claim7.holds Tryz.pinned (.plain (OpenSpec.ofChange quotaPlaysSpec)) quotaPlaysCard

/-- THE TIED CARD OF 'sacristylaw17.QuotaSums'. -/
def quotaSumsCard : Claim7 := { stood := { row := quotaSumsRow, standIns := [], harness := (true, "89b9a272a94df18adb55eb5613eb1efc1370460ce2a9c4cabb371b989e5fd9d2"), looks := false }, kinds := [], alts := [], laidByText := true, laidKinds := [.data, .pinned], laidTests := true, laidLooks := .later }
def QuotaSumsCardSaid : Prop := Claim7.holds Tryz.pinned (.plain (OpenSpec.ofChange quotaSumsSpec)) quotaSumsCard

/-- THE TIED CARD OF 'sacristylaw17.QuotaRemoves'. -/
def quotaRemovesCard : Claim7 := { stood := { row := quotaRemovesRow, standIns := [], harness := (true, "89b9a272a94df18adb55eb5613eb1efc1370460ce2a9c4cabb371b989e5fd9d2"), looks := false }, kinds := [], alts := [], laidByText := true, laidKinds := [.data, .pinned], laidTests := true, laidLooks := .later }
def QuotaRemovesCardSaid : Prop := Claim7.holds Tryz.pinned (.plain (OpenSpec.ofChange quotaRemovesSpec)) quotaRemovesCard

/-- THE SECOND FORM's CARD OF 'sacristylaw17.QuotaPlays'. -/
def quotaPlaysUptoCard : Claim7 := { stood := { row := quotaPlaysUptoRow, standIns := [], harness := (true, "89b9a272a94df18adb55eb5613eb1efc1370460ce2a9c4cabb371b989e5fd9d2"), looks := false }, kinds := [], alts := [], laidByText := true, laidKinds := [.data, .pinned], laidTests := true, laidLooks := .later }
def QuotaPlaysUptoCardSaid : Prop := Claim7.holds Tryz.pinned (.plain (OpenSpec.upto quotaPlaysSpec)) quotaPlaysUptoCard

/-- THE SECOND FORM's CARD OF 'sacristylaw17.QuotaSums'. -/
def quotaSumsUptoCard : Claim7 := { stood := { row := quotaSumsUptoRow, standIns := [], harness := (true, "89b9a272a94df18adb55eb5613eb1efc1370460ce2a9c4cabb371b989e5fd9d2"), looks := false }, kinds := [], alts := [], laidByText := true, laidKinds := [.data, .pinned], laidTests := true, laidLooks := .later }
def QuotaSumsUptoCardSaid : Prop := Claim7.holds Tryz.pinned (.plain (OpenSpec.upto quotaSumsSpec)) quotaSumsUptoCard

/-- THE SECOND FORM's CARD OF 'sacristylaw17.QuotaRemoves'. -/
def quotaRemovesUptoCard : Claim7 := { stood := { row := quotaRemovesUptoRow, standIns := [], harness := (true, "89b9a272a94df18adb55eb5613eb1efc1370460ce2a9c4cabb371b989e5fd9d2"), looks := false }, kinds := [], alts := [], laidByText := true, laidKinds := [.data, .pinned], laidTests := true, laidLooks := .later }
def QuotaRemovesUptoCardSaid : Prop := Claim7.holds Tryz.pinned (.plain (OpenSpec.upto quotaRemovesSpec)) quotaRemovesUptoCard
end Rows
end Go.Proofs.YtdmohffogfbnbaaGreatDoor
