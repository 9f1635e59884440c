/-
  DERIVED. GIVEN WITH THE SEED: THE CARDS: each row of YtdmohffogfbnbaaDoorRows.lean that lists a variable, with what it lists TIED to the program's text (the seventh form; the later family's looks); each row that meets fmt, with fmt's text TOLD by the authors' own Lean function (tested against real Go, not proved from fmt's source: count such statements apart). THE CARD IS WHAT COUNTS. Prove the row's statement (the work); the ties are given (YtdmohffogfbnbaaDoorTie.lean); close each card by the builder's one call (the guide's Derived/Test/ToyasCard.lean, 'card_holds'). Laid BY PROGRAM, IN A SANDBOX (cutbox-door.mjs). By AI agents, Wed Nov 11 2026. No macro, syntax, notation, axiom, sorry.
-/
import Derived.Test.YtdmohffogfbnbaaDoorRows
import GoSem.ClaimSeven
namespace Go.Proofs.YtdmohffogfbnbaaDoor
namespace Rows

/-- THE TIED CARD OF 'sacristylaw17.QuotaExact'. -/
def quotaExactCard : Claim7 := { stood := { row := quotaExactRow, standIns := [], harness := (true, "e9427baa9d0fffbb9573927e61115b38c1ec06c5f51a90734fca07c19b7cf7ca"), looks := false }, kinds := [], alts := [], laidByText := true, laidKinds := [.data, .pinned], laidTests := true, laidLooks := .later }
def QuotaExactCardSaid : Prop := Claim7.holds Tryd.pinned (.plain (OpenSpec.ofChange quotaExactSpec)) quotaExactCard

/-- THE SECOND FORM's CARD OF 'sacristylaw17.QuotaExact'. -/
def quotaExactUptoCard : Claim7 := { stood := { row := quotaExactUptoRow, standIns := [], harness := (true, "e9427baa9d0fffbb9573927e61115b38c1ec06c5f51a90734fca07c19b7cf7ca"), looks := false }, kinds := [], alts := [], laidByText := true, laidKinds := [.data, .pinned], laidTests := true, laidLooks := .later }
def QuotaExactUptoCardSaid : Prop := Claim7.holds Tryd.pinned (.plain (OpenSpec.upto quotaExactSpec)) quotaExactUptoCard
end Rows
end Go.Proofs.YtdmohffogfbnbaaDoor
