/-
  DERIVED. GIVEN WITH THE SEED: THE CARDS: each row of YtcibhfcjbokdlaaGreatDoorRows.lean that lists a variable, with what it lists TIED to the program's text (the seventh form; the later family's looks); each row that meets fmt, with fmt's text TOLD by the authors' own Lean function (tested against real Go, not proved from fmt's source: count such statements apart). THE CARD IS WHAT COUNTS. Prove the row's statement (the work); the ties are given (YtcibhfcjbokdlaaGreatDoorTie.lean); close each card by the builder's one call (the guide's Derived/Test/ToyasCard.lean, 'card_holds'). Laid BY PROGRAM, IN A SANDBOX (cutbox-door.mjs). By AI agents, Wed Nov 11 2026. No macro, syntax, notation, axiom, sorry.
-/
import Derived.Test.YtcibhfcjbokdlaaGreatDoorRows
import GoSem.ClaimSeven
namespace Go.Proofs.YtcibhfcjbokdlaaGreatDoor
namespace Rows

/-- THE TIED CARD OF 'sacristylaw15.ClosureTells'. -/
def closureTellsCard : Claim7 := { stood := { row := closureTellsRow, standIns := [], harness := (true, "5ec56c90d2be611191997b9ca2de58597c4e9e5243e737a3980385c2777d738f"), looks := true }, kinds := [], alts := [], laidByText := true, laidKinds := [.data, .data, .data, .data, .sentinel, .sentinel, .pinned], laidTests := true, laidLooks := .later }
def ClosureTellsCardSaid : Prop := Claim7.holds Tryz.pinned (.plain (OpenSpec.ofChange closureTellsSpec)) closureTellsCard

/-- THE TIED CARD OF 'sacristylaw15.ClosureGrows'. -/
def closureGrowsCard : Claim7 := { stood := { row := closureGrowsRow, standIns := [], harness := (true, "5ec56c90d2be611191997b9ca2de58597c4e9e5243e737a3980385c2777d738f"), looks := true }, kinds := [], alts := [], laidByText := true, laidKinds := [.data, .data, .data, .data, .sentinel, .sentinel, .pinned], laidTests := true, laidLooks := .later }
def ClosureGrowsCardSaid : Prop := Claim7.holds Tryz.pinned (.plain (OpenSpec.ofChange closureGrowsSpec)) closureGrowsCard

/-- THE TIED CARD OF 'sacristylaw15.ClosureSealed'. -/
def closureSealedCard : Claim7 := { stood := { row := closureSealedRow, standIns := [], harness := (true, "5ec56c90d2be611191997b9ca2de58597c4e9e5243e737a3980385c2777d738f"), looks := true }, kinds := [], alts := [], laidByText := true, laidKinds := [.data, .data, .data, .data, .sentinel, .sentinel, .pinned], laidTests := true, laidLooks := .later }
def ClosureSealedCardSaid : Prop := Claim7.holds Tryz.pinned (.plain (OpenSpec.ofChange closureSealedSpec)) closureSealedCard

/-- THE TIED CARD OF 'sacristylaw15.ClosureChain'. -/
def closureChainCard : Claim7 := { stood := { row := closureChainRow, standIns := [], harness := (true, "5ec56c90d2be611191997b9ca2de58597c4e9e5243e737a3980385c2777d738f"), looks := true }, kinds := [], alts := [], laidByText := true, laidKinds := [.data, .data, .data, .data, .sentinel, .sentinel, .pinned], laidTests := true, laidLooks := .later }
def ClosureChainCardSaid : Prop := Claim7.holds Tryz.pinned (.plain (OpenSpec.ofChange closureChainSpec)) closureChainCard

/-- THE TIED CARD OF 'sacristylaw15.ClosureLeast'. -/
def closureLeastCard : Claim7 := { stood := { row := closureLeastRow, standIns := [], harness := (true, "5ec56c90d2be611191997b9ca2de58597c4e9e5243e737a3980385c2777d738f"), looks := true }, kinds := [], alts := [], laidByText := true, laidKinds := [.data, .data, .data, .data, .sentinel, .sentinel, .pinned], laidTests := true, laidLooks := .later }
def ClosureLeastCardSaid : Prop := Claim7.holds Tryz.pinned (.plain (OpenSpec.ofChange closureLeastSpec)) closureLeastCard

/-- THE TIED CARD OF 'sacristylaw15.ClosureAll'. -/
def closureAllCard : Claim7 := { stood := { row := closureAllRow, standIns := [], harness := (true, "5ec56c90d2be611191997b9ca2de58597c4e9e5243e737a3980385c2777d738f"), looks := true }, kinds := [], alts := [], laidByText := true, laidKinds := [.data, .data, .data, .data, .sentinel, .sentinel, .pinned], laidTests := true, laidLooks := .later }
def ClosureAllCardSaid : Prop := Claim7.holds Tryz.pinned (.plain (OpenSpec.ofChange closureAllSpec)) closureAllCard

/-- THE SECOND FORM's CARD OF 'sacristylaw15.ClosureTells'. -/
def closureTellsUptoCard : Claim7 := { stood := { row := closureTellsUptoRow, standIns := [], harness := (true, "5ec56c90d2be611191997b9ca2de58597c4e9e5243e737a3980385c2777d738f"), looks := true }, kinds := [], alts := [], laidByText := true, laidKinds := [.data, .data, .data, .data, .sentinel, .sentinel, .pinned], laidTests := true, laidLooks := .later }
def ClosureTellsUptoCardSaid : Prop := Claim7.holds Tryz.pinned (.plain (OpenSpec.upto closureTellsSpec)) closureTellsUptoCard

/-- THE SECOND FORM's CARD OF 'sacristylaw15.ClosureGrows'. -/
def closureGrowsUptoCard : Claim7 := { stood := { row := closureGrowsUptoRow, standIns := [], harness := (true, "5ec56c90d2be611191997b9ca2de58597c4e9e5243e737a3980385c2777d738f"), looks := true }, kinds := [], alts := [], laidByText := true, laidKinds := [.data, .data, .data, .data, .sentinel, .sentinel, .pinned], laidTests := true, laidLooks := .later }
def ClosureGrowsUptoCardSaid : Prop := Claim7.holds Tryz.pinned (.plain (OpenSpec.upto closureGrowsSpec)) closureGrowsUptoCard

/-- THE SECOND FORM's CARD OF 'sacristylaw15.ClosureSealed'. -/
def closureSealedUptoCard : Claim7 := { stood := { row := closureSealedUptoRow, standIns := [], harness := (true, "5ec56c90d2be611191997b9ca2de58597c4e9e5243e737a3980385c2777d738f"), looks := true }, kinds := [], alts := [], laidByText := true, laidKinds := [.data, .data, .data, .data, .sentinel, .sentinel, .pinned], laidTests := true, laidLooks := .later }
def ClosureSealedUptoCardSaid : Prop := Claim7.holds Tryz.pinned (.plain (OpenSpec.upto closureSealedSpec)) closureSealedUptoCard

/-- THE SECOND FORM's CARD OF 'sacristylaw15.ClosureChain'. -/
def closureChainUptoCard : Claim7 := { stood := { row := closureChainUptoRow, standIns := [], harness := (true, "5ec56c90d2be611191997b9ca2de58597c4e9e5243e737a3980385c2777d738f"), looks := true }, kinds := [], alts := [], laidByText := true, laidKinds := [.data, .data, .data, .data, .sentinel, .sentinel, .pinned], laidTests := true, laidLooks := .later }
def ClosureChainUptoCardSaid : Prop := Claim7.holds Tryz.pinned (.plain (OpenSpec.upto closureChainSpec)) closureChainUptoCard

/-- THE SECOND FORM's CARD OF 'sacristylaw15.ClosureLeast'. -/
def closureLeastUptoCard : Claim7 := { stood := { row := closureLeastUptoRow, standIns := [], harness := (true, "5ec56c90d2be611191997b9ca2de58597c4e9e5243e737a3980385c2777d738f"), looks := true }, kinds := [], alts := [], laidByText := true, laidKinds := [.data, .data, .data, .data, .sentinel, .sentinel, .pinned], laidTests := true, laidLooks := .later }
def ClosureLeastUptoCardSaid : Prop := Claim7.holds Tryz.pinned (.plain (OpenSpec.upto closureLeastSpec)) closureLeastUptoCard

/-- THE SECOND FORM's CARD OF 'sacristylaw15.ClosureAll'. -/
def closureAllUptoCard : Claim7 := { stood := { row := closureAllUptoRow, standIns := [], harness := (true, "5ec56c90d2be611191997b9ca2de58597c4e9e5243e737a3980385c2777d738f"), looks := true }, kinds := [], alts := [], laidByText := true, laidKinds := [.data, .data, .data, .data, .sentinel, .sentinel, .pinned], laidTests := true, laidLooks := .later }
def ClosureAllUptoCardSaid : Prop := Claim7.holds Tryz.pinned (.plain (OpenSpec.upto closureAllSpec)) closureAllUptoCard
end Rows
end Go.Proofs.YtcibhfcjbokdlaaGreatDoor
