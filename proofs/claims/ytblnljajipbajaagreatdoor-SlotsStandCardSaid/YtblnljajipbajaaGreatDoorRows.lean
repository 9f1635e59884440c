/-
  NARROWER THAN 'FOR EVERY INPUT', by the rows' own cells (each row's printed sentence says how): SlotsPlay: laid · SlotsStand: laid · SlotsErased: laid · SlotsApart: laid · SlotsMade: laid · SlotsLast: laid.
  DERIVED. THE GIVEN ROWS OF THIS SEAT. 6 by the template 'for every input the law returns true; each argument reads behind the call as it read before'; 0 by the template 'total and deterministic' (their statements: YtblnljajipbajaaGreatDoorTotals.lean).
  GIVEN WITH THE SEED: the statements are not yours to turn. If you find one false, say at which input.
  Laid BY PROGRAM, IN A SANDBOX (cutbox-rows.mjs): the forced cells as the released guide's own fill.sh prints them over the translation 4599d75ffadc9047… (all of the seat's roots in one cut). By AI agents, Wed Nov 11 2026. No macro, syntax, notation, axiom, sorry.
-/
import Derived.Test.YtblnljajipbajaaGreatDoorChecked
import GoSem.Claim
import GoSem.ClaimJoined
import GoSem.ClaimMapViews
import Derived.JoinedTies
import Derived.KernelRfl
namespace Go.Proofs.YtblnljajipbajaaGreatDoor
/- THE CELL 'sum', in the pinned program and in every row, IS THE sha256 OF THE DUMP (.gsa) THAT YtblnljajipbajaaGreatDoorProg.lean LOADS. Nothing in Lean hashes anything: it is a label: what it is worth is what the hold of that sum in a sandbox is worth. -/
noncomputable def Tryz.pinned : Pinned := { name := "ytblnljajipbajaagreatdoor", sum := "4599d75ffadc904754d3b7370889105b6872ab90657dbfdf0ac74150be5f1ba6", checked := Tryz.checked }
namespace Rows
def none {H : Type} : Left H := { results := [], args := [] }

/- WHAT THE LISTED PACKAGE-LEVEL VARIABLES READ AS WHEN THE CALL BEGINS. Each datum BY PROGRAM (the guide's laid-datum.mjs) off the statement by which the dump's own 'gosem.cut.vars' lays the variable. In a bare row this is a premise. The card (YtblnljajipbajaaGreatDoorCards.lean) ties it to the program's text. -/
def laid_sacristy_sha_roundWords {H : Type} : DataW H := .agg [.lit (.int .u32 1116352408), .lit (.int .u32 1899447441), .lit (.int .u32 3049323471), .lit (.int .u32 3921009573), .lit (.int .u32 961987163), .lit (.int .u32 1508970993), .lit (.int .u32 2453635748), .lit (.int .u32 2870763221), .lit (.int .u32 3624381080), .lit (.int .u32 310598401), .lit (.int .u32 607225278), .lit (.int .u32 1426881987), .lit (.int .u32 1925078388), .lit (.int .u32 2162078206), .lit (.int .u32 2614888103), .lit (.int .u32 3248222580), .lit (.int .u32 3835390401), .lit (.int .u32 4022224774), .lit (.int .u32 264347078), .lit (.int .u32 604807628), .lit (.int .u32 770255983), .lit (.int .u32 1249150122), .lit (.int .u32 1555081692), .lit (.int .u32 1996064986), .lit (.int .u32 2554220882), .lit (.int .u32 2821834349), .lit (.int .u32 2952996808), .lit (.int .u32 3210313671), .lit (.int .u32 3336571891), .lit (.int .u32 3584528711), .lit (.int .u32 113926993), .lit (.int .u32 338241895), .lit (.int .u32 666307205), .lit (.int .u32 773529912), .lit (.int .u32 1294757372), .lit (.int .u32 1396182291), .lit (.int .u32 1695183700), .lit (.int .u32 1986661051), .lit (.int .u32 2177026350), .lit (.int .u32 2456956037), .lit (.int .u32 2730485921), .lit (.int .u32 2820302411), .lit (.int .u32 3259730800), .lit (.int .u32 3345764771), .lit (.int .u32 3516065817), .lit (.int .u32 3600352804), .lit (.int .u32 4094571909), .lit (.int .u32 275423344), .lit (.int .u32 430227734), .lit (.int .u32 506948616), .lit (.int .u32 659060556), .lit (.int .u32 883997877), .lit (.int .u32 958139571), .lit (.int .u32 1322822218), .lit (.int .u32 1537002063), .lit (.int .u32 1747873779), .lit (.int .u32 1955562222), .lit (.int .u32 2024104815), .lit (.int .u32 2227730452), .lit (.int .u32 2361852424), .lit (.int .u32 2428436474), .lit (.int .u32 2756734187), .lit (.int .u32 3204031479), .lit (.int .u32 3329325298)]
def laid_sacristy_stream_quarters {H : Type} : DataW H := .agg [.agg [.lit (.int .i64 0), .lit (.int .i64 4), .lit (.int .i64 8), .lit (.int .i64 12)], .agg [.lit (.int .i64 1), .lit (.int .i64 5), .lit (.int .i64 9), .lit (.int .i64 13)], .agg [.lit (.int .i64 2), .lit (.int .i64 6), .lit (.int .i64 10), .lit (.int .i64 14)], .agg [.lit (.int .i64 3), .lit (.int .i64 7), .lit (.int .i64 11), .lit (.int .i64 15)], .agg [.lit (.int .i64 0), .lit (.int .i64 5), .lit (.int .i64 10), .lit (.int .i64 15)], .agg [.lit (.int .i64 1), .lit (.int .i64 6), .lit (.int .i64 11), .lit (.int .i64 12)], .agg [.lit (.int .i64 2), .lit (.int .i64 7), .lit (.int .i64 8), .lit (.int .i64 13)], .agg [.lit (.int .i64 3), .lit (.int .i64 4), .lit (.int .i64 9), .lit (.int .i64 14)]]

/-- 'sacristylaw12.SlotsPlay': WHATEVER THE INPUT: true; the input reads as it did. -/
def slotsPlaySpec : ChangeSpec := { name := "slotsPlay", fn := fun _ => fun
  | [d] => { results := [.lit (.bool true)], args := [d] }
  | _ => none }
def slotsPlayRow : OpenClaim := { program := "ytblnljajipbajaagreatdoor", sum := "4599d75ffadc904754d3b7370889105b6872ab90657dbfdf0ac74150be5f1ba6", func := "sacristy/sacristylaw12.SlotsPlay", spec := "slotsPlay", unfollowed := true, recurses := true, named := ["sacristy/sha.roundWords", "sacristy/stream.quarters"], plainKeys := false, apart := false, laid := [("sacristy/sha.roundWords", laid_sacristy_sha_roundWords), ("sacristy/stream.quarters", laid_sacristy_stream_quarters)] }
def SlotsPlaySaid : Prop := slotsPlayRow.holds Tryz.pinned (OpenSpec.ofChange slotsPlaySpec)

/-- ITS FALSE NEIGHBOUR: 'it returns false'. Refute it at one input. -/
def slotsPlayWrong : ChangeSpec := { name := "slotsPlay", fn := fun _ => fun
  | [d] => { results := [.lit (.bool false)], args := [d] }
  | _ => none }
def SlotsPlayWrongFalsely : Prop := slotsPlayRow.holds Tryz.pinned (OpenSpec.ofChange slotsPlayWrong)

/-- 'sacristylaw12.SlotsStand': WHATEVER THE INPUT: true; the input reads as it did. -/
def slotsStandSpec : ChangeSpec := { name := "slotsStand", fn := fun _ => fun
  | [d1, d2, d3, d4, d5] => { results := [.lit (.bool true)], args := [d1, d2, d3, d4, d5] }
  | _ => none }
def slotsStandRow : OpenClaim := { program := "ytblnljajipbajaagreatdoor", sum := "4599d75ffadc904754d3b7370889105b6872ab90657dbfdf0ac74150be5f1ba6", func := "sacristy/sacristylaw12.SlotsStand", spec := "slotsStand", unfollowed := true, recurses := true, named := ["sacristy/sha.roundWords", "sacristy/stream.quarters"], plainKeys := false, apart := false, laid := [("sacristy/sha.roundWords", laid_sacristy_sha_roundWords), ("sacristy/stream.quarters", laid_sacristy_stream_quarters)] }
def SlotsStandSaid : Prop := slotsStandRow.holds Tryz.pinned (OpenSpec.ofChange slotsStandSpec)

/-- ITS FALSE NEIGHBOUR: 'it returns false'. Refute it at one input. -/
def slotsStandWrong : ChangeSpec := { name := "slotsStand", fn := fun _ => fun
  | [d1, d2, d3, d4, d5] => { results := [.lit (.bool false)], args := [d1, d2, d3, d4, d5] }
  | _ => none }
def SlotsStandWrongFalsely : Prop := slotsStandRow.holds Tryz.pinned (OpenSpec.ofChange slotsStandWrong)

/-- 'sacristylaw12.SlotsErased': WHATEVER THE INPUT: true; the input reads as it did. -/
def slotsErasedSpec : ChangeSpec := { name := "slotsErased", fn := fun _ => fun
  | [d1, d2, d3, d4, d5, d6, d7, d8] => { results := [.lit (.bool true)], args := [d1, d2, d3, d4, d5, d6, d7, d8] }
  | _ => none }
def slotsErasedRow : OpenClaim := { program := "ytblnljajipbajaagreatdoor", sum := "4599d75ffadc904754d3b7370889105b6872ab90657dbfdf0ac74150be5f1ba6", func := "sacristy/sacristylaw12.SlotsErased", spec := "slotsErased", unfollowed := true, recurses := true, named := ["sacristy/sha.roundWords", "sacristy/stream.quarters"], plainKeys := false, apart := false, laid := [("sacristy/sha.roundWords", laid_sacristy_sha_roundWords), ("sacristy/stream.quarters", laid_sacristy_stream_quarters)] }
def SlotsErasedSaid : Prop := slotsErasedRow.holds Tryz.pinned (OpenSpec.ofChange slotsErasedSpec)

/-- ITS FALSE NEIGHBOUR: 'it returns false'. Refute it at one input. -/
def slotsErasedWrong : ChangeSpec := { name := "slotsErased", fn := fun _ => fun
  | [d1, d2, d3, d4, d5, d6, d7, d8] => { results := [.lit (.bool false)], args := [d1, d2, d3, d4, d5, d6, d7, d8] }
  | _ => none }
def SlotsErasedWrongFalsely : Prop := slotsErasedRow.holds Tryz.pinned (OpenSpec.ofChange slotsErasedWrong)

/-- 'sacristylaw12.SlotsApart': WHATEVER THE INPUT: true; the input reads as it did. -/
def slotsApartSpec : ChangeSpec := { name := "slotsApart", fn := fun _ => fun
  | [d] => { results := [.lit (.bool true)], args := [d] }
  | _ => none }
def slotsApartRow : OpenClaim := { program := "ytblnljajipbajaagreatdoor", sum := "4599d75ffadc904754d3b7370889105b6872ab90657dbfdf0ac74150be5f1ba6", func := "sacristy/sacristylaw12.SlotsApart", spec := "slotsApart", unfollowed := true, recurses := true, named := ["sacristy/sha.roundWords", "sacristy/stream.quarters"], plainKeys := false, apart := false, laid := [("sacristy/sha.roundWords", laid_sacristy_sha_roundWords), ("sacristy/stream.quarters", laid_sacristy_stream_quarters)] }
def SlotsApartSaid : Prop := slotsApartRow.holds Tryz.pinned (OpenSpec.ofChange slotsApartSpec)

/-- ITS FALSE NEIGHBOUR: 'it returns false'. Refute it at one input. -/
def slotsApartWrong : ChangeSpec := { name := "slotsApart", fn := fun _ => fun
  | [d] => { results := [.lit (.bool false)], args := [d] }
  | _ => none }
def SlotsApartWrongFalsely : Prop := slotsApartRow.holds Tryz.pinned (OpenSpec.ofChange slotsApartWrong)

/-- 'sacristylaw12.SlotsMade': WHATEVER THE INPUT: true; the input reads as it did. -/
def slotsMadeSpec : ChangeSpec := { name := "slotsMade", fn := fun _ => fun
  | [d1, d2] => { results := [.lit (.bool true)], args := [d1, d2] }
  | _ => none }
def slotsMadeRow : OpenClaim := { program := "ytblnljajipbajaagreatdoor", sum := "4599d75ffadc904754d3b7370889105b6872ab90657dbfdf0ac74150be5f1ba6", func := "sacristy/sacristylaw12.SlotsMade", spec := "slotsMade", unfollowed := true, recurses := true, named := ["sacristy/sha.roundWords", "sacristy/stream.quarters"], plainKeys := false, apart := false, laid := [("sacristy/sha.roundWords", laid_sacristy_sha_roundWords), ("sacristy/stream.quarters", laid_sacristy_stream_quarters)] }
def SlotsMadeSaid : Prop := slotsMadeRow.holds Tryz.pinned (OpenSpec.ofChange slotsMadeSpec)

/-- ITS FALSE NEIGHBOUR: 'it returns false'. Refute it at one input. -/
def slotsMadeWrong : ChangeSpec := { name := "slotsMade", fn := fun _ => fun
  | [d1, d2] => { results := [.lit (.bool false)], args := [d1, d2] }
  | _ => none }
def SlotsMadeWrongFalsely : Prop := slotsMadeRow.holds Tryz.pinned (OpenSpec.ofChange slotsMadeWrong)

/-- 'sacristylaw12.SlotsLast': WHATEVER THE INPUT: true; the input reads as it did. -/
def slotsLastSpec : ChangeSpec := { name := "slotsLast", fn := fun _ => fun
  | [d1, d2, d3] => { results := [.lit (.bool true)], args := [d1, d2, d3] }
  | _ => none }
def slotsLastRow : OpenClaim := { program := "ytblnljajipbajaagreatdoor", sum := "4599d75ffadc904754d3b7370889105b6872ab90657dbfdf0ac74150be5f1ba6", func := "sacristy/sacristylaw12.SlotsLast", spec := "slotsLast", unfollowed := true, recurses := true, named := ["sacristy/sha.roundWords", "sacristy/stream.quarters"], plainKeys := false, apart := false, laid := [("sacristy/sha.roundWords", laid_sacristy_sha_roundWords), ("sacristy/stream.quarters", laid_sacristy_stream_quarters)] }
def SlotsLastSaid : Prop := slotsLastRow.holds Tryz.pinned (OpenSpec.ofChange slotsLastSpec)

/-- ITS FALSE NEIGHBOUR: 'it returns false'. Refute it at one input. -/
def slotsLastWrong : ChangeSpec := { name := "slotsLast", fn := fun _ => fun
  | [d1, d2, d3] => { results := [.lit (.bool false)], args := [d1, d2, d3] }
  | _ => none }
def SlotsLastWrongFalsely : Prop := slotsLastRow.holds Tryz.pinned (OpenSpec.ofChange slotsLastWrong)

/- THE SECOND FORM. 'bulk': how many values and letters a reading holds, each counted each time it is reached (what is shared counts as often as it is met; a slice's spare places count too). A statement '..UptoSaid' is the law's where the arguments, and the package variables that the reading takes, are together of bulk at most 1048576: NARROWER than '..Said'. Prove '..Said' where nothing that the law and all that it calls make is longer than what came in: it says more and counts as full. Else prove '..UptoSaid'. A law counts once. -/
mutual
def uptoBulk {H : Type} : DataW H → Nat
  | .lit (.string bytes) => bytes.length + 1
  | .lit _ => 1
  | .nil => 1
  | .ptr d => uptoBulk d + 1
  | .slice elems spare => uptoBulkAll elems + uptoBulkAll spare + 1
  | .agg parts => uptoBulkAll parts + 1
  | .iface _ d => uptoBulk d + 1
  | .map entries => uptoBulkEntries entries + 1
  | .held _ => 1
def uptoBulkAll {H : Type} : List (DataW H) → Nat
  | [] => 0
  | d :: r => uptoBulk d + uptoBulkAll r
def uptoBulkEntries {H : Type} : List (Lit × DataW H) → Nat
  | [] => 0
  | x :: r => uptoBulkEntry x + uptoBulkEntries r
def uptoBulkEntry {H : Type} : Lit × DataW H → Nat
  | (.string bytes, d) => bytes.length + uptoBulk d + 1
  | (_, d) => uptoBulk d + 1
 end
def uptoSmall : (H : Type) → List (DataW H) → Bool := fun _ ds => decide (uptoBulkAll ds ≤ 1048576)
def OpenSpec.upto (s : _root_.Go.ChangeSpec) : _root_.Go.OpenSpec := { _root_.Go.OpenSpec.ofChange s with cond := some uptoSmall }

/-- 'sacristylaw12.SlotsPlay', WHERE WHAT IT READS IS OF BULK AT MOST 1048576: true; the input reads as it did. -/
def slotsPlayUptoRow : OpenClaim := { program := "ytblnljajipbajaagreatdoor", sum := "4599d75ffadc904754d3b7370889105b6872ab90657dbfdf0ac74150be5f1ba6", func := "sacristy/sacristylaw12.SlotsPlay", spec := "slotsPlay", unfollowed := true, recurses := true, named := ["sacristy/sha.roundWords", "sacristy/stream.quarters"], plainKeys := false, apart := false, laid := [("sacristy/sha.roundWords", laid_sacristy_sha_roundWords), ("sacristy/stream.quarters", laid_sacristy_stream_quarters)], narrowed := true }
def SlotsPlayUptoSaid : Prop := slotsPlayUptoRow.holds Tryz.pinned (OpenSpec.upto slotsPlaySpec)

/-- 'sacristylaw12.SlotsStand', WHERE WHAT IT READS IS OF BULK AT MOST 1048576: true; the input reads as it did. -/
def slotsStandUptoRow : OpenClaim := { program := "ytblnljajipbajaagreatdoor", sum := "4599d75ffadc904754d3b7370889105b6872ab90657dbfdf0ac74150be5f1ba6", func := "sacristy/sacristylaw12.SlotsStand", spec := "slotsStand", unfollowed := true, recurses := true, named := ["sacristy/sha.roundWords", "sacristy/stream.quarters"], plainKeys := false, apart := false, laid := [("sacristy/sha.roundWords", laid_sacristy_sha_roundWords), ("sacristy/stream.quarters", laid_sacristy_stream_quarters)], narrowed := true }
def SlotsStandUptoSaid : Prop := slotsStandUptoRow.holds Tryz.pinned (OpenSpec.upto slotsStandSpec)

/-- 'sacristylaw12.SlotsErased', WHERE WHAT IT READS IS OF BULK AT MOST 1048576: true; the input reads as it did. -/
def slotsErasedUptoRow : OpenClaim := { program := "ytblnljajipbajaagreatdoor", sum := "4599d75ffadc904754d3b7370889105b6872ab90657dbfdf0ac74150be5f1ba6", func := "sacristy/sacristylaw12.SlotsErased", spec := "slotsErased", unfollowed := true, recurses := true, named := ["sacristy/sha.roundWords", "sacristy/stream.quarters"], plainKeys := false, apart := false, laid := [("sacristy/sha.roundWords", laid_sacristy_sha_roundWords), ("sacristy/stream.quarters", laid_sacristy_stream_quarters)], narrowed := true }
def SlotsErasedUptoSaid : Prop := slotsErasedUptoRow.holds Tryz.pinned (OpenSpec.upto slotsErasedSpec)

/-- 'sacristylaw12.SlotsApart', WHERE WHAT IT READS IS OF BULK AT MOST 1048576: true; the input reads as it did. -/
def slotsApartUptoRow : OpenClaim := { program := "ytblnljajipbajaagreatdoor", sum := "4599d75ffadc904754d3b7370889105b6872ab90657dbfdf0ac74150be5f1ba6", func := "sacristy/sacristylaw12.SlotsApart", spec := "slotsApart", unfollowed := true, recurses := true, named := ["sacristy/sha.roundWords", "sacristy/stream.quarters"], plainKeys := false, apart := false, laid := [("sacristy/sha.roundWords", laid_sacristy_sha_roundWords), ("sacristy/stream.quarters", laid_sacristy_stream_quarters)], narrowed := true }
def SlotsApartUptoSaid : Prop := slotsApartUptoRow.holds Tryz.pinned (OpenSpec.upto slotsApartSpec)

/-- 'sacristylaw12.SlotsMade', WHERE WHAT IT READS IS OF BULK AT MOST 1048576: true; the input reads as it did. -/
def slotsMadeUptoRow : OpenClaim := { program := "ytblnljajipbajaagreatdoor", sum := "4599d75ffadc904754d3b7370889105b6872ab90657dbfdf0ac74150be5f1ba6", func := "sacristy/sacristylaw12.SlotsMade", spec := "slotsMade", unfollowed := true, recurses := true, named := ["sacristy/sha.roundWords", "sacristy/stream.quarters"], plainKeys := false, apart := false, laid := [("sacristy/sha.roundWords", laid_sacristy_sha_roundWords), ("sacristy/stream.quarters", laid_sacristy_stream_quarters)], narrowed := true }
def SlotsMadeUptoSaid : Prop := slotsMadeUptoRow.holds Tryz.pinned (OpenSpec.upto slotsMadeSpec)

/-- 'sacristylaw12.SlotsLast', WHERE WHAT IT READS IS OF BULK AT MOST 1048576: true; the input reads as it did. -/
def slotsLastUptoRow : OpenClaim := { program := "ytblnljajipbajaagreatdoor", sum := "4599d75ffadc904754d3b7370889105b6872ab90657dbfdf0ac74150be5f1ba6", func := "sacristy/sacristylaw12.SlotsLast", spec := "slotsLast", unfollowed := true, recurses := true, named := ["sacristy/sha.roundWords", "sacristy/stream.quarters"], plainKeys := false, apart := false, laid := [("sacristy/sha.roundWords", laid_sacristy_sha_roundWords), ("sacristy/stream.quarters", laid_sacristy_stream_quarters)], narrowed := true }
def SlotsLastUptoSaid : Prop := slotsLastUptoRow.holds Tryz.pinned (OpenSpec.upto slotsLastSpec)

end Rows
end Go.Proofs.YtblnljajipbajaaGreatDoor
