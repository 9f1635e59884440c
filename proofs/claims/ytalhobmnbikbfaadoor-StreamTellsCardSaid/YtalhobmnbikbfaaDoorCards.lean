/-
  DERIVED. GIVEN WITH THE SEED: THE CARDS: each row of YtalhobmnbikbfaaDoorRows.lean that lists a variable, with what it lists TIED to the program's text (the seventh form; the later family's looks); each row that meets fmt, with fmt's text TOLD by the authors' own Lean function (tested against real Go, not proved from fmt's source: count such statements apart). THE CARD IS WHAT COUNTS. Prove the row's statement (the work); the ties are given (YtalhobmnbikbfaaDoorTie.lean); close each card by the builder's one call (the guide's Derived/Test/ToyasCard.lean, 'card_holds'). Laid BY PROGRAM, IN A SANDBOX (cutbox-door.mjs). By AI agents, Wed Nov 11 2026. No macro, syntax, notation, axiom, sorry.
-/
import Derived.Test.YtalhobmnbikbfaaDoorRows
import GoSem.ClaimSeven
namespace Go.Proofs.YtalhobmnbikbfaaDoor
namespace Rows

/-- THE TIED CARD OF 'sacristylaw4.StreamTells'. -/
def streamTellsCard : Claim7 := { stood := { row := streamTellsRow, standIns := [], harness := (true, "e740b372cfe879f2158dccbad472e38aedf8d291c28033e311056891c7e06db7"), looks := false }, kinds := [], alts := [], laidByText := true, laidKinds := [.data], laidTests := true, laidLooks := .later }
def StreamTellsCardSaid : Prop := Claim7.holds Tryd.pinned (.plain (OpenSpec.ofChange streamTellsSpec)) streamTellsCard

/-- THE TIED CARD OF 'sacristylaw4.StreamTwice'. -/
def streamTwiceCard : Claim7 := { stood := { row := streamTwiceRow, standIns := [], harness := (true, "e740b372cfe879f2158dccbad472e38aedf8d291c28033e311056891c7e06db7"), looks := false }, kinds := [], alts := [], laidByText := true, laidKinds := [.data], laidTests := true, laidLooks := .later }
def StreamTwiceCardSaid : Prop := Claim7.holds Tryd.pinned (.plain (OpenSpec.ofChange streamTwiceSpec)) streamTwiceCard

/-- THE TIED CARD OF 'sacristylaw4.StreamQuarter'. -/
def streamQuarterCard : Claim7 := { stood := { row := streamQuarterRow, standIns := [], harness := (true, "e740b372cfe879f2158dccbad472e38aedf8d291c28033e311056891c7e06db7"), looks := false }, kinds := [], alts := [], laidByText := true, laidKinds := [.data], laidTests := true, laidLooks := .later }
def StreamQuarterCardSaid : Prop := Claim7.holds Tryd.pinned (.plain (OpenSpec.ofChange streamQuarterSpec)) streamQuarterCard

/-- THE TIED CARD OF 'sacristylaw4.StreamCounts'. -/
def streamCountsCard : Claim7 := { stood := { row := streamCountsRow, standIns := [], harness := (true, "e740b372cfe879f2158dccbad472e38aedf8d291c28033e311056891c7e06db7"), looks := false }, kinds := [], alts := [], laidByText := true, laidKinds := [.data], laidTests := true, laidLooks := .later }
def StreamCountsCardSaid : Prop := Claim7.holds Tryd.pinned (.plain (OpenSpec.ofChange streamCountsSpec)) streamCountsCard

/-- THE TIED CARD OF 'sacristylaw4.StreamLinear'. -/
def streamLinearCard : Claim7 := { stood := { row := streamLinearRow, standIns := [], harness := (true, "e740b372cfe879f2158dccbad472e38aedf8d291c28033e311056891c7e06db7"), looks := false }, kinds := [], alts := [], laidByText := true, laidKinds := [.data], laidTests := true, laidLooks := .later }
def StreamLinearCardSaid : Prop := Claim7.holds Tryd.pinned (.plain (OpenSpec.ofChange streamLinearSpec)) streamLinearCard

/-- THE SECOND FORM's CARD OF 'sacristylaw4.StreamTells'. -/
def streamTellsUptoCard : Claim7 := { stood := { row := streamTellsUptoRow, standIns := [], harness := (true, "e740b372cfe879f2158dccbad472e38aedf8d291c28033e311056891c7e06db7"), looks := false }, kinds := [], alts := [], laidByText := true, laidKinds := [.data], laidTests := true, laidLooks := .later }
def StreamTellsUptoCardSaid : Prop := Claim7.holds Tryd.pinned (.plain (OpenSpec.upto streamTellsSpec)) streamTellsUptoCard

/-- THE SECOND FORM's CARD OF 'sacristylaw4.StreamTwice'. -/
def streamTwiceUptoCard : Claim7 := { stood := { row := streamTwiceUptoRow, standIns := [], harness := (true, "e740b372cfe879f2158dccbad472e38aedf8d291c28033e311056891c7e06db7"), looks := false }, kinds := [], alts := [], laidByText := true, laidKinds := [.data], laidTests := true, laidLooks := .later }
def StreamTwiceUptoCardSaid : Prop := Claim7.holds Tryd.pinned (.plain (OpenSpec.upto streamTwiceSpec)) streamTwiceUptoCard

/-- THE SECOND FORM's CARD OF 'sacristylaw4.StreamQuarter'. -/
def streamQuarterUptoCard : Claim7 := { stood := { row := streamQuarterUptoRow, standIns := [], harness := (true, "e740b372cfe879f2158dccbad472e38aedf8d291c28033e311056891c7e06db7"), looks := false }, kinds := [], alts := [], laidByText := true, laidKinds := [.data], laidTests := true, laidLooks := .later }
def StreamQuarterUptoCardSaid : Prop := Claim7.holds Tryd.pinned (.plain (OpenSpec.upto streamQuarterSpec)) streamQuarterUptoCard

/-- THE SECOND FORM's CARD OF 'sacristylaw4.StreamCounts'. -/
def streamCountsUptoCard : Claim7 := { stood := { row := streamCountsUptoRow, standIns := [], harness := (true, "e740b372cfe879f2158dccbad472e38aedf8d291c28033e311056891c7e06db7"), looks := false }, kinds := [], alts := [], laidByText := true, laidKinds := [.data], laidTests := true, laidLooks := .later }
def StreamCountsUptoCardSaid : Prop := Claim7.holds Tryd.pinned (.plain (OpenSpec.upto streamCountsSpec)) streamCountsUptoCard

/-- THE SECOND FORM's CARD OF 'sacristylaw4.StreamLinear'. -/
def streamLinearUptoCard : Claim7 := { stood := { row := streamLinearUptoRow, standIns := [], harness := (true, "e740b372cfe879f2158dccbad472e38aedf8d291c28033e311056891c7e06db7"), looks := false }, kinds := [], alts := [], laidByText := true, laidKinds := [.data], laidTests := true, laidLooks := .later }
def StreamLinearUptoCardSaid : Prop := Claim7.holds Tryd.pinned (.plain (OpenSpec.upto streamLinearSpec)) streamLinearUptoCard
end Rows
end Go.Proofs.YtalhobmnbikbfaaDoor
