/-
  DERIVED. GIVEN WITH THE SEED: THE CARDS: each row of YtbfccepddfinoaaDoorRows.lean that lists a variable, with what it lists TIED to the program's text (the seventh form; the later family's looks); each row that meets fmt, with fmt's text TOLD by the authors' own Lean function (tested against real Go, not proved from fmt's source: count such statements apart). THE CARD IS WHAT COUNTS. Prove the row's statement (the work); the ties are given (YtbfccepddfinoaaDoorTie.lean); close each card by the builder's one call (the guide's Derived/Test/ToyasCard.lean, 'card_holds'). Laid BY PROGRAM, IN A SANDBOX (cutbox-door.mjs). By AI agents, Wed Nov 11 2026. No macro, syntax, notation, axiom, sorry.
-/
import Derived.Test.YtbfccepddfinoaaDoorRows
import GoSem.ClaimSeven
namespace Go.Proofs.YtbfccepddfinoaaDoor
namespace Rows

/-- THE TIED CARD OF 'sacristylaw5.SealTells'. -/
def sealTellsCard : Claim7 := { stood := { row := sealTellsRow, standIns := [], harness := (true, "1b972f7f85f7a31537a2dfb48032006ef1833fb17c80baa798ba7368e80b6e58"), looks := false }, kinds := [], alts := [], laidByText := true, laidKinds := [.data, .data], laidTests := true, laidLooks := .later }
def SealTellsCardSaid : Prop := Claim7.holds Tryd.pinned (.plain (OpenSpec.ofChange sealTellsSpec)) sealTellsCard

/-- THE TIED CARD OF 'sacristylaw5.SealBack'. -/
def sealBackCard : Claim7 := { stood := { row := sealBackRow, standIns := [], harness := (true, "1b972f7f85f7a31537a2dfb48032006ef1833fb17c80baa798ba7368e80b6e58"), looks := false }, kinds := [], alts := [], laidByText := true, laidKinds := [.data, .data], laidTests := true, laidLooks := .later }
def SealBackCardSaid : Prop := Claim7.holds Tryd.pinned (.plain (OpenSpec.ofChange sealBackSpec)) sealBackCard

/-- THE TIED CARD OF 'sacristylaw5.SealTags'. -/
def sealTagsCard : Claim7 := { stood := { row := sealTagsRow, standIns := [], harness := (true, "1b972f7f85f7a31537a2dfb48032006ef1833fb17c80baa798ba7368e80b6e58"), looks := false }, kinds := [], alts := [], laidByText := true, laidKinds := [.data, .data], laidTests := true, laidLooks := .later }
def SealTagsCardSaid : Prop := Claim7.holds Tryd.pinned (.plain (OpenSpec.ofChange sealTagsSpec)) sealTagsCard

/-- THE TIED CARD OF 'sacristylaw5.SealWraps'. -/
def sealWrapsCard : Claim7 := { stood := { row := sealWrapsRow, standIns := [], harness := (true, "1b972f7f85f7a31537a2dfb48032006ef1833fb17c80baa798ba7368e80b6e58"), looks := false }, kinds := [], alts := [], laidByText := true, laidKinds := [.data, .data], laidTests := true, laidLooks := .later }
def SealWrapsCardSaid : Prop := Claim7.holds Tryd.pinned (.plain (OpenSpec.ofChange sealWrapsSpec)) sealWrapsCard

/-- THE TIED CARD OF 'sacristylaw5.SealNonces'. -/
def sealNoncesCard : Claim7 := { stood := { row := sealNoncesRow, standIns := [], harness := (true, "1b972f7f85f7a31537a2dfb48032006ef1833fb17c80baa798ba7368e80b6e58"), looks := false }, kinds := [], alts := [], laidByText := true, laidKinds := [.data, .data], laidTests := true, laidLooks := .later }
def SealNoncesCardSaid : Prop := Claim7.holds Tryd.pinned (.plain (OpenSpec.ofChange sealNoncesSpec)) sealNoncesCard

/-- THE TIED CARD OF 'sacristylaw5.SealLengths'. -/
def sealLengthsCard : Claim7 := { stood := { row := sealLengthsRow, standIns := [], harness := (true, "1b972f7f85f7a31537a2dfb48032006ef1833fb17c80baa798ba7368e80b6e58"), looks := false }, kinds := [], alts := [], laidByText := true, laidKinds := [.data, .data], laidTests := true, laidLooks := .later }
def SealLengthsCardSaid : Prop := Claim7.holds Tryd.pinned (.plain (OpenSpec.ofChange sealLengthsSpec)) sealLengthsCard

/-- THE SECOND FORM's CARD OF 'sacristylaw5.SealTells'. -/
def sealTellsUptoCard : Claim7 := { stood := { row := sealTellsUptoRow, standIns := [], harness := (true, "1b972f7f85f7a31537a2dfb48032006ef1833fb17c80baa798ba7368e80b6e58"), looks := false }, kinds := [], alts := [], laidByText := true, laidKinds := [.data, .data], laidTests := true, laidLooks := .later }
def SealTellsUptoCardSaid : Prop := Claim7.holds Tryd.pinned (.plain (OpenSpec.upto sealTellsSpec)) sealTellsUptoCard

/-- THE SECOND FORM's CARD OF 'sacristylaw5.SealBack'. -/
def sealBackUptoCard : Claim7 := { stood := { row := sealBackUptoRow, standIns := [], harness := (true, "1b972f7f85f7a31537a2dfb48032006ef1833fb17c80baa798ba7368e80b6e58"), looks := false }, kinds := [], alts := [], laidByText := true, laidKinds := [.data, .data], laidTests := true, laidLooks := .later }
def SealBackUptoCardSaid : Prop := Claim7.holds Tryd.pinned (.plain (OpenSpec.upto sealBackSpec)) sealBackUptoCard

/-- THE SECOND FORM's CARD OF 'sacristylaw5.SealTags'. -/
def sealTagsUptoCard : Claim7 := { stood := { row := sealTagsUptoRow, standIns := [], harness := (true, "1b972f7f85f7a31537a2dfb48032006ef1833fb17c80baa798ba7368e80b6e58"), looks := false }, kinds := [], alts := [], laidByText := true, laidKinds := [.data, .data], laidTests := true, laidLooks := .later }
def SealTagsUptoCardSaid : Prop := Claim7.holds Tryd.pinned (.plain (OpenSpec.upto sealTagsSpec)) sealTagsUptoCard

/-- THE SECOND FORM's CARD OF 'sacristylaw5.SealWraps'. -/
def sealWrapsUptoCard : Claim7 := { stood := { row := sealWrapsUptoRow, standIns := [], harness := (true, "1b972f7f85f7a31537a2dfb48032006ef1833fb17c80baa798ba7368e80b6e58"), looks := false }, kinds := [], alts := [], laidByText := true, laidKinds := [.data, .data], laidTests := true, laidLooks := .later }
def SealWrapsUptoCardSaid : Prop := Claim7.holds Tryd.pinned (.plain (OpenSpec.upto sealWrapsSpec)) sealWrapsUptoCard

/-- THE SECOND FORM's CARD OF 'sacristylaw5.SealNonces'. -/
def sealNoncesUptoCard : Claim7 := { stood := { row := sealNoncesUptoRow, standIns := [], harness := (true, "1b972f7f85f7a31537a2dfb48032006ef1833fb17c80baa798ba7368e80b6e58"), looks := false }, kinds := [], alts := [], laidByText := true, laidKinds := [.data, .data], laidTests := true, laidLooks := .later }
def SealNoncesUptoCardSaid : Prop := Claim7.holds Tryd.pinned (.plain (OpenSpec.upto sealNoncesSpec)) sealNoncesUptoCard

/-- THE SECOND FORM's CARD OF 'sacristylaw5.SealLengths'. -/
def sealLengthsUptoCard : Claim7 := { stood := { row := sealLengthsUptoRow, standIns := [], harness := (true, "1b972f7f85f7a31537a2dfb48032006ef1833fb17c80baa798ba7368e80b6e58"), looks := false }, kinds := [], alts := [], laidByText := true, laidKinds := [.data, .data], laidTests := true, laidLooks := .later }
def SealLengthsUptoCardSaid : Prop := Claim7.holds Tryd.pinned (.plain (OpenSpec.upto sealLengthsSpec)) sealLengthsUptoCard
end Rows
end Go.Proofs.YtbfccepddfinoaaDoor
