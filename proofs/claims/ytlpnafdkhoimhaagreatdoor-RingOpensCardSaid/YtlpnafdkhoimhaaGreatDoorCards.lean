/-
  DERIVED. GIVEN WITH THE SEED: THE CARDS: each row of YtlpnafdkhoimhaaGreatDoorRows.lean that lists a variable, with what it lists TIED to the program's text (the seventh form; the later family's looks); each row that meets fmt, with fmt's text TOLD by the authors' own Lean function (tested against real Go, not proved from fmt's source: count such statements apart). THE CARD IS WHAT COUNTS. Prove the row's statement (the work); the ties are given (YtlpnafdkhoimhaaGreatDoorTie.lean); close each card by the builder's one call (the guide's Derived/Test/ToyasCard.lean, 'card_holds'). Laid BY PROGRAM, IN A SANDBOX (cutbox-door.mjs). By AI agents, Wed Nov 11 2026. No macro, syntax, notation, axiom, sorry.
-/
import Derived.Test.YtlpnafdkhoimhaaGreatDoorRows
import GoSem.ClaimSeven
namespace Go.Proofs.YtlpnafdkhoimhaaGreatDoor
namespace Rows

/-- THE TIED CARD OF 'sacristylaw13.RingPlays'. -/
def ringPlaysCard : Claim7 := { stood := { row := ringPlaysRow, standIns := [], harness := (true, "fdfc6c7ac155d094114b16c3563030fd36684e465641298e2589f785a4451f9d"), looks := false }, kinds := [], alts := [], laidByText := true, laidKinds := [.data, .data, .data, .pinned], laidTests := true, laidLooks := .later }
def RingPlaysCardSaid : Prop := Claim7.holds Tryz.pinned (.plain (OpenSpec.ofChange ringPlaysSpec)) ringPlaysCard

/-- THE TIED CARD OF 'sacristylaw13.RingErased'. -/
def ringErasedCard : Claim7 := { stood := { row := ringErasedRow, standIns := [], harness := (true, "fdfc6c7ac155d094114b16c3563030fd36684e465641298e2589f785a4451f9d"), looks := false }, kinds := [], alts := [], laidByText := true, laidKinds := [.data, .data, .data, .pinned], laidTests := true, laidLooks := .later }
def RingErasedCardSaid : Prop := Claim7.holds Tryz.pinned (.plain (OpenSpec.ofChange ringErasedSpec)) ringErasedCard

/-- THE TIED CARD OF 'sacristylaw13.RingOpens'. -/
def ringOpensCard : Claim7 := { stood := { row := ringOpensRow, standIns := [], harness := (true, "fdfc6c7ac155d094114b16c3563030fd36684e465641298e2589f785a4451f9d"), looks := false }, kinds := [], alts := [], laidByText := true, laidKinds := [.data, .data, .data, .pinned], laidTests := true, laidLooks := .later }
def RingOpensCardSaid : Prop := Claim7.holds Tryz.pinned (.plain (OpenSpec.ofChange ringOpensSpec)) ringOpensCard

/-- THE TIED CARD OF 'sacristylaw13.RingForgets'. -/
def ringForgetsCard : Claim7 := { stood := { row := ringForgetsRow, standIns := [], harness := (true, "fdfc6c7ac155d094114b16c3563030fd36684e465641298e2589f785a4451f9d"), looks := false }, kinds := [], alts := [], laidByText := true, laidKinds := [.data, .data, .data, .pinned], laidTests := true, laidLooks := .later }
def RingForgetsCardSaid : Prop := Claim7.holds Tryz.pinned (.plain (OpenSpec.ofChange ringForgetsSpec)) ringForgetsCard

/-- THE TIED CARD OF 'sacristylaw13.RingRoot'. -/
def ringRootCard : Claim7 := { stood := { row := ringRootRow, standIns := [], harness := (true, "fdfc6c7ac155d094114b16c3563030fd36684e465641298e2589f785a4451f9d"), looks := false }, kinds := [], alts := [], laidByText := true, laidKinds := [.data, .data, .data, .pinned], laidTests := true, laidLooks := .later }
def RingRootCardSaid : Prop := Claim7.holds Tryz.pinned (.plain (OpenSpec.ofChange ringRootSpec)) ringRootCard

/-- THE SECOND FORM's CARD OF 'sacristylaw13.RingPlays'. -/
def ringPlaysUptoCard : Claim7 := { stood := { row := ringPlaysUptoRow, standIns := [], harness := (true, "fdfc6c7ac155d094114b16c3563030fd36684e465641298e2589f785a4451f9d"), looks := false }, kinds := [], alts := [], laidByText := true, laidKinds := [.data, .data, .data, .pinned], laidTests := true, laidLooks := .later }
def RingPlaysUptoCardSaid : Prop := Claim7.holds Tryz.pinned (.plain (OpenSpec.upto ringPlaysSpec)) ringPlaysUptoCard

/-- THE SECOND FORM's CARD OF 'sacristylaw13.RingErased'. -/
def ringErasedUptoCard : Claim7 := { stood := { row := ringErasedUptoRow, standIns := [], harness := (true, "fdfc6c7ac155d094114b16c3563030fd36684e465641298e2589f785a4451f9d"), looks := false }, kinds := [], alts := [], laidByText := true, laidKinds := [.data, .data, .data, .pinned], laidTests := true, laidLooks := .later }
def RingErasedUptoCardSaid : Prop := Claim7.holds Tryz.pinned (.plain (OpenSpec.upto ringErasedSpec)) ringErasedUptoCard

/-- THE SECOND FORM's CARD OF 'sacristylaw13.RingOpens'. -/
def ringOpensUptoCard : Claim7 := { stood := { row := ringOpensUptoRow, standIns := [], harness := (true, "fdfc6c7ac155d094114b16c3563030fd36684e465641298e2589f785a4451f9d"), looks := false }, kinds := [], alts := [], laidByText := true, laidKinds := [.data, .data, .data, .pinned], laidTests := true, laidLooks := .later }
def RingOpensUptoCardSaid : Prop := Claim7.holds Tryz.pinned (.plain (OpenSpec.upto ringOpensSpec)) ringOpensUptoCard

/-- THE SECOND FORM's CARD OF 'sacristylaw13.RingForgets'. -/
def ringForgetsUptoCard : Claim7 := { stood := { row := ringForgetsUptoRow, standIns := [], harness := (true, "fdfc6c7ac155d094114b16c3563030fd36684e465641298e2589f785a4451f9d"), looks := false }, kinds := [], alts := [], laidByText := true, laidKinds := [.data, .data, .data, .pinned], laidTests := true, laidLooks := .later }
def RingForgetsUptoCardSaid : Prop := Claim7.holds Tryz.pinned (.plain (OpenSpec.upto ringForgetsSpec)) ringForgetsUptoCard

/-- THE SECOND FORM's CARD OF 'sacristylaw13.RingRoot'. -/
def ringRootUptoCard : Claim7 := { stood := { row := ringRootUptoRow, standIns := [], harness := (true, "fdfc6c7ac155d094114b16c3563030fd36684e465641298e2589f785a4451f9d"), looks := false }, kinds := [], alts := [], laidByText := true, laidKinds := [.data, .data, .data, .pinned], laidTests := true, laidLooks := .later }
def RingRootUptoCardSaid : Prop := Claim7.holds Tryz.pinned (.plain (OpenSpec.upto ringRootSpec)) ringRootUptoCard
end Rows
end Go.Proofs.YtlpnafdkhoimhaaGreatDoor
