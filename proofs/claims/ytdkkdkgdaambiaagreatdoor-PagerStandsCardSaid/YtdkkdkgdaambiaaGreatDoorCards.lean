/-
  DERIVED. GIVEN WITH THE SEED: THE CARDS: each row of YtdkkdkgdaambiaaGreatDoorRows.lean that lists a variable, with what it lists TIED to the program's text (the seventh form; the later family's looks); each row that meets fmt, with fmt's text TOLD by the authors' own Lean function (tested against real Go, not proved from fmt's source: count such statements apart). THE CARD IS WHAT COUNTS. Prove the row's statement (the work); the ties are given (YtdkkdkgdaambiaaGreatDoorTie.lean); close each card by the builder's one call (the guide's Derived/Test/ToyasCard.lean, 'card_holds'). Laid BY PROGRAM, IN A SANDBOX (cutbox-door.mjs). By AI agents, Wed Nov 11 2026. No macro, syntax, notation, axiom, sorry.
-/
import Derived.Test.YtdkkdkgdaambiaaGreatDoorRows
import GoSem.ClaimSeven
namespace Go.Proofs.YtdkkdkgdaambiaaGreatDoor
namespace Rows

/-- THE TIED CARD OF 'sacristylaw7.PagerTurned'. -/
def pagerTurnedCard : Claim7 := { stood := { row := pagerTurnedRow, standIns := [], harness := (true, "ccb2a650fb3d6d6a4e520f6a1dd484fa0b5106903b443797480d90a666d20a0b"), looks := true }, kinds := [], alts := [], laidByText := true, laidKinds := [.data, .data], laidTests := true, laidLooks := .later }
def PagerTurnedCardSaid : Prop := Claim7.holds Tryz.pinned (.plain (OpenSpec.ofChange pagerTurnedSpec)) pagerTurnedCard

/-- THE TIED CARD OF 'sacristylaw7.PagerStands'. -/
def pagerStandsCard : Claim7 := { stood := { row := pagerStandsRow, standIns := [], harness := (true, "ccb2a650fb3d6d6a4e520f6a1dd484fa0b5106903b443797480d90a666d20a0b"), looks := true }, kinds := [], alts := [], laidByText := true, laidKinds := [.data, .data], laidTests := true, laidLooks := .later }
def PagerStandsCardSaid : Prop := Claim7.holds Tryz.pinned (.plain (OpenSpec.ofChange pagerStandsSpec)) pagerStandsCard

/-- THE TIED CARD OF 'sacristylaw7.PagerLasts'. -/
def pagerLastsCard : Claim7 := { stood := { row := pagerLastsRow, standIns := [], harness := (true, "ccb2a650fb3d6d6a4e520f6a1dd484fa0b5106903b443797480d90a666d20a0b"), looks := true }, kinds := [], alts := [], laidByText := true, laidKinds := [.data, .data], laidTests := true, laidLooks := .later }
def PagerLastsCardSaid : Prop := Claim7.holds Tryz.pinned (.plain (OpenSpec.ofChange pagerLastsSpec)) pagerLastsCard

/-- THE SECOND FORM's CARD OF 'sacristylaw7.PagerTurned'. -/
def pagerTurnedUptoCard : Claim7 := { stood := { row := pagerTurnedUptoRow, standIns := [], harness := (true, "ccb2a650fb3d6d6a4e520f6a1dd484fa0b5106903b443797480d90a666d20a0b"), looks := true }, kinds := [], alts := [], laidByText := true, laidKinds := [.data, .data], laidTests := true, laidLooks := .later }
def PagerTurnedUptoCardSaid : Prop := Claim7.holds Tryz.pinned (.plain (OpenSpec.upto pagerTurnedSpec)) pagerTurnedUptoCard

/-- THE SECOND FORM's CARD OF 'sacristylaw7.PagerStands'. -/
def pagerStandsUptoCard : Claim7 := { stood := { row := pagerStandsUptoRow, standIns := [], harness := (true, "ccb2a650fb3d6d6a4e520f6a1dd484fa0b5106903b443797480d90a666d20a0b"), looks := true }, kinds := [], alts := [], laidByText := true, laidKinds := [.data, .data], laidTests := true, laidLooks := .later }
def PagerStandsUptoCardSaid : Prop := Claim7.holds Tryz.pinned (.plain (OpenSpec.upto pagerStandsSpec)) pagerStandsUptoCard

/-- THE SECOND FORM's CARD OF 'sacristylaw7.PagerLasts'. -/
def pagerLastsUptoCard : Claim7 := { stood := { row := pagerLastsUptoRow, standIns := [], harness := (true, "ccb2a650fb3d6d6a4e520f6a1dd484fa0b5106903b443797480d90a666d20a0b"), looks := true }, kinds := [], alts := [], laidByText := true, laidKinds := [.data, .data], laidTests := true, laidLooks := .later }
def PagerLastsUptoCardSaid : Prop := Claim7.holds Tryz.pinned (.plain (OpenSpec.upto pagerLastsSpec)) pagerLastsUptoCard
end Rows
end Go.Proofs.YtdkkdkgdaambiaaGreatDoor
