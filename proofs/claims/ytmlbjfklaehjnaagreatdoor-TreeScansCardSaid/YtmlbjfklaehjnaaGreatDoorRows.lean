/-
  NARROWER THAN 'FOR EVERY INPUT', by the rows' own cells (each row's printed sentence says how): TreePlays: laid · TreeOrder: laid · TreeEmpties: laid · TreeStays: laid · TreeScans: laid · TreeRoom: laid.
  DERIVED. THE GIVEN ROWS OF THIS SEAT. 6 by the template 'for every input the law returns true; each argument reads behind the call as it read before'; 0 by the template 'total and deterministic' (their statements: YtmlbjfklaehjnaaGreatDoorTotals.lean).
  GIVEN WITH THE SEED: the statements are not yours to turn. If you find one false, say at which input.
  Laid BY PROGRAM, IN A SANDBOX (cutbox-rows.mjs): the forced cells as the released guide's own fill.sh prints them over the translation 6964e649411734ab… (all of the seat's roots in one cut). By AI agents, Wed Nov 11 2026. No macro, syntax, notation, axiom, sorry.
-/
import Derived.Test.YtmlbjfklaehjnaaGreatDoorChecked
import GoSem.Claim
import GoSem.ClaimJoined
import GoSem.ClaimMapViews
import Derived.JoinedTies
import Derived.KernelRfl
namespace Go.Proofs.YtmlbjfklaehjnaaGreatDoor
/- THE CELL 'sum', in the pinned program and in every row, IS THE sha256 OF THE DUMP (.gsa) THAT YtmlbjfklaehjnaaGreatDoorProg.lean LOADS. Nothing in Lean hashes anything: it is a label: what it is worth is what the hold of that sum in a sandbox is worth. -/
noncomputable def Tryz.pinned : Pinned := { name := "ytmlbjfklaehjnaagreatdoor", sum := "6964e649411734abbb625c5d926389dcbcef33656e11f5419289d3dbd5d06188", checked := Tryz.checked }
namespace Rows
def none {H : Type} : Left H := { results := [], args := [] }

/- WHAT THE LISTED PACKAGE-LEVEL VARIABLES READ AS WHEN THE CALL BEGINS. Each datum BY PROGRAM (the guide's laid-datum.mjs) off the statement by which the dump's own 'gosem.cut.vars' lays the variable. In a bare row this is a premise. The card (YtmlbjfklaehjnaaGreatDoorCards.lean) ties it to the program's text. -/
def laid_sacristy_sha_roundWords {H : Type} : DataW H := .agg [.lit (.int .u32 1116352408), .lit (.int .u32 1899447441), .lit (.int .u32 3049323471), .lit (.int .u32 3921009573), .lit (.int .u32 961987163), .lit (.int .u32 1508970993), .lit (.int .u32 2453635748), .lit (.int .u32 2870763221), .lit (.int .u32 3624381080), .lit (.int .u32 310598401), .lit (.int .u32 607225278), .lit (.int .u32 1426881987), .lit (.int .u32 1925078388), .lit (.int .u32 2162078206), .lit (.int .u32 2614888103), .lit (.int .u32 3248222580), .lit (.int .u32 3835390401), .lit (.int .u32 4022224774), .lit (.int .u32 264347078), .lit (.int .u32 604807628), .lit (.int .u32 770255983), .lit (.int .u32 1249150122), .lit (.int .u32 1555081692), .lit (.int .u32 1996064986), .lit (.int .u32 2554220882), .lit (.int .u32 2821834349), .lit (.int .u32 2952996808), .lit (.int .u32 3210313671), .lit (.int .u32 3336571891), .lit (.int .u32 3584528711), .lit (.int .u32 113926993), .lit (.int .u32 338241895), .lit (.int .u32 666307205), .lit (.int .u32 773529912), .lit (.int .u32 1294757372), .lit (.int .u32 1396182291), .lit (.int .u32 1695183700), .lit (.int .u32 1986661051), .lit (.int .u32 2177026350), .lit (.int .u32 2456956037), .lit (.int .u32 2730485921), .lit (.int .u32 2820302411), .lit (.int .u32 3259730800), .lit (.int .u32 3345764771), .lit (.int .u32 3516065817), .lit (.int .u32 3600352804), .lit (.int .u32 4094571909), .lit (.int .u32 275423344), .lit (.int .u32 430227734), .lit (.int .u32 506948616), .lit (.int .u32 659060556), .lit (.int .u32 883997877), .lit (.int .u32 958139571), .lit (.int .u32 1322822218), .lit (.int .u32 1537002063), .lit (.int .u32 1747873779), .lit (.int .u32 1955562222), .lit (.int .u32 2024104815), .lit (.int .u32 2227730452), .lit (.int .u32 2361852424), .lit (.int .u32 2428436474), .lit (.int .u32 2756734187), .lit (.int .u32 3204031479), .lit (.int .u32 3329325298)]
def laid_sacristy_stream_quarters {H : Type} : DataW H := .agg [.agg [.lit (.int .i64 0), .lit (.int .i64 4), .lit (.int .i64 8), .lit (.int .i64 12)], .agg [.lit (.int .i64 1), .lit (.int .i64 5), .lit (.int .i64 9), .lit (.int .i64 13)], .agg [.lit (.int .i64 2), .lit (.int .i64 6), .lit (.int .i64 10), .lit (.int .i64 14)], .agg [.lit (.int .i64 3), .lit (.int .i64 7), .lit (.int .i64 11), .lit (.int .i64 15)], .agg [.lit (.int .i64 0), .lit (.int .i64 5), .lit (.int .i64 10), .lit (.int .i64 15)], .agg [.lit (.int .i64 1), .lit (.int .i64 6), .lit (.int .i64 11), .lit (.int .i64 12)], .agg [.lit (.int .i64 2), .lit (.int .i64 7), .lit (.int .i64 8), .lit (.int .i64 13)], .agg [.lit (.int .i64 3), .lit (.int .i64 4), .lit (.int .i64 9), .lit (.int .i64 14)]]

/-- 'sacristylaw9.TreePlays': WHATEVER THE INPUT: true; the input reads as it did. -/
def treePlaysSpec : ChangeSpec := { name := "treePlays", fn := fun _ => fun
  | [d] => { results := [.lit (.bool true)], args := [d] }
  | _ => none }
def treePlaysRow : OpenClaim := { program := "ytmlbjfklaehjnaagreatdoor", sum := "6964e649411734abbb625c5d926389dcbcef33656e11f5419289d3dbd5d06188", func := "sacristy/sacristylaw9.TreePlays", spec := "treePlays", inPlace := ["maps.clone"], unfollowed := true, recurses := true, named := ["sacristy/sha.roundWords", "sacristy/stream.quarters"], plainKeys := false, apart := false, laid := [("sacristy/sha.roundWords", laid_sacristy_sha_roundWords), ("sacristy/stream.quarters", laid_sacristy_stream_quarters)] }
def TreePlaysSaid : Prop := treePlaysRow.holds Tryz.pinned (OpenSpec.ofChange treePlaysSpec)

/-- ITS FALSE NEIGHBOUR: 'it returns false'. Refute it at one input. -/
def treePlaysWrong : ChangeSpec := { name := "treePlays", fn := fun _ => fun
  | [d] => { results := [.lit (.bool false)], args := [d] }
  | _ => none }
def TreePlaysWrongFalsely : Prop := treePlaysRow.holds Tryz.pinned (OpenSpec.ofChange treePlaysWrong)

/-- 'sacristylaw9.TreeOrder': WHATEVER THE INPUT: true; the input reads as it did. -/
def treeOrderSpec : ChangeSpec := { name := "treeOrder", fn := fun _ => fun
  | [d1, d2] => { results := [.lit (.bool true)], args := [d1, d2] }
  | _ => none }
def treeOrderRow : OpenClaim := { program := "ytmlbjfklaehjnaagreatdoor", sum := "6964e649411734abbb625c5d926389dcbcef33656e11f5419289d3dbd5d06188", func := "sacristy/sacristylaw9.TreeOrder", spec := "treeOrder", inPlace := ["maps.clone"], unfollowed := true, recurses := true, named := ["sacristy/sha.roundWords", "sacristy/stream.quarters"], plainKeys := false, apart := false, laid := [("sacristy/sha.roundWords", laid_sacristy_sha_roundWords), ("sacristy/stream.quarters", laid_sacristy_stream_quarters)] }
def TreeOrderSaid : Prop := treeOrderRow.holds Tryz.pinned (OpenSpec.ofChange treeOrderSpec)

/-- ITS FALSE NEIGHBOUR: 'it returns false'. Refute it at one input. -/
def treeOrderWrong : ChangeSpec := { name := "treeOrder", fn := fun _ => fun
  | [d1, d2] => { results := [.lit (.bool false)], args := [d1, d2] }
  | _ => none }
def TreeOrderWrongFalsely : Prop := treeOrderRow.holds Tryz.pinned (OpenSpec.ofChange treeOrderWrong)

/-- 'sacristylaw9.TreeEmpties': WHATEVER THE INPUT: true; the input reads as it did. -/
def treeEmptiesSpec : ChangeSpec := { name := "treeEmpties", fn := fun _ => fun
  | [d1, d2, d3] => { results := [.lit (.bool true)], args := [d1, d2, d3] }
  | _ => none }
def treeEmptiesRow : OpenClaim := { program := "ytmlbjfklaehjnaagreatdoor", sum := "6964e649411734abbb625c5d926389dcbcef33656e11f5419289d3dbd5d06188", func := "sacristy/sacristylaw9.TreeEmpties", spec := "treeEmpties", inPlace := ["maps.clone"], unfollowed := true, recurses := true, named := ["sacristy/sha.roundWords", "sacristy/stream.quarters"], plainKeys := false, apart := false, laid := [("sacristy/sha.roundWords", laid_sacristy_sha_roundWords), ("sacristy/stream.quarters", laid_sacristy_stream_quarters)] }
def TreeEmptiesSaid : Prop := treeEmptiesRow.holds Tryz.pinned (OpenSpec.ofChange treeEmptiesSpec)

/-- ITS FALSE NEIGHBOUR: 'it returns false'. Refute it at one input. -/
def treeEmptiesWrong : ChangeSpec := { name := "treeEmpties", fn := fun _ => fun
  | [d1, d2, d3] => { results := [.lit (.bool false)], args := [d1, d2, d3] }
  | _ => none }
def TreeEmptiesWrongFalsely : Prop := treeEmptiesRow.holds Tryz.pinned (OpenSpec.ofChange treeEmptiesWrong)

/-- 'sacristylaw9.TreeStays': WHATEVER THE INPUT: true; the input reads as it did. -/
def treeStaysSpec : ChangeSpec := { name := "treeStays", fn := fun _ => fun
  | [d1, d2] => { results := [.lit (.bool true)], args := [d1, d2] }
  | _ => none }
def treeStaysRow : OpenClaim := { program := "ytmlbjfklaehjnaagreatdoor", sum := "6964e649411734abbb625c5d926389dcbcef33656e11f5419289d3dbd5d06188", func := "sacristy/sacristylaw9.TreeStays", spec := "treeStays", inPlace := ["maps.clone"], unfollowed := true, recurses := true, named := ["sacristy/sha.roundWords", "sacristy/stream.quarters"], plainKeys := false, apart := false, laid := [("sacristy/sha.roundWords", laid_sacristy_sha_roundWords), ("sacristy/stream.quarters", laid_sacristy_stream_quarters)] }
def TreeStaysSaid : Prop := treeStaysRow.holds Tryz.pinned (OpenSpec.ofChange treeStaysSpec)

/-- ITS FALSE NEIGHBOUR: 'it returns false'. Refute it at one input. -/
def treeStaysWrong : ChangeSpec := { name := "treeStays", fn := fun _ => fun
  | [d1, d2] => { results := [.lit (.bool false)], args := [d1, d2] }
  | _ => none }
def TreeStaysWrongFalsely : Prop := treeStaysRow.holds Tryz.pinned (OpenSpec.ofChange treeStaysWrong)

/-- 'sacristylaw9.TreeScans': WHATEVER THE INPUT: true; the input reads as it did. -/
def treeScansSpec : ChangeSpec := { name := "treeScans", fn := fun _ => fun
  | [d1, d2, d3] => { results := [.lit (.bool true)], args := [d1, d2, d3] }
  | _ => none }
def treeScansRow : OpenClaim := { program := "ytmlbjfklaehjnaagreatdoor", sum := "6964e649411734abbb625c5d926389dcbcef33656e11f5419289d3dbd5d06188", func := "sacristy/sacristylaw9.TreeScans", spec := "treeScans", inPlace := ["maps.clone"], unfollowed := true, recurses := true, named := ["sacristy/sha.roundWords", "sacristy/stream.quarters"], plainKeys := false, apart := false, laid := [("sacristy/sha.roundWords", laid_sacristy_sha_roundWords), ("sacristy/stream.quarters", laid_sacristy_stream_quarters)] }
def TreeScansSaid : Prop := treeScansRow.holds Tryz.pinned (OpenSpec.ofChange treeScansSpec)

/-- ITS FALSE NEIGHBOUR: 'it returns false'. Refute it at one input. -/
def treeScansWrong : ChangeSpec := { name := "treeScans", fn := fun _ => fun
  | [d1, d2, d3] => { results := [.lit (.bool false)], args := [d1, d2, d3] }
  | _ => none }
def TreeScansWrongFalsely : Prop := treeScansRow.holds Tryz.pinned (OpenSpec.ofChange treeScansWrong)

/-- 'sacristylaw9.TreeRoom': WHATEVER THE INPUT: true; the input reads as it did. -/
def treeRoomSpec : ChangeSpec := { name := "treeRoom", fn := fun _ => fun
  | [d1, d2, d3] => { results := [.lit (.bool true)], args := [d1, d2, d3] }
  | _ => none }
def treeRoomRow : OpenClaim := { program := "ytmlbjfklaehjnaagreatdoor", sum := "6964e649411734abbb625c5d926389dcbcef33656e11f5419289d3dbd5d06188", func := "sacristy/sacristylaw9.TreeRoom", spec := "treeRoom", inPlace := ["maps.clone"], unfollowed := true, recurses := true, named := ["sacristy/sha.roundWords", "sacristy/stream.quarters"], plainKeys := false, apart := false, laid := [("sacristy/sha.roundWords", laid_sacristy_sha_roundWords), ("sacristy/stream.quarters", laid_sacristy_stream_quarters)] }
def TreeRoomSaid : Prop := treeRoomRow.holds Tryz.pinned (OpenSpec.ofChange treeRoomSpec)

/-- ITS FALSE NEIGHBOUR: 'it returns false'. Refute it at one input. -/
def treeRoomWrong : ChangeSpec := { name := "treeRoom", fn := fun _ => fun
  | [d1, d2, d3] => { results := [.lit (.bool false)], args := [d1, d2, d3] }
  | _ => none }
def TreeRoomWrongFalsely : Prop := treeRoomRow.holds Tryz.pinned (OpenSpec.ofChange treeRoomWrong)

/- THE SECOND FORM. 'bulk': how many values and letters a reading holds, each counted each time it is reached (what is shared counts as often as it is met; a slice's spare places count too). A statement '..UptoSaid' is the law's where the arguments, and the package variables that the reading takes, are together of bulk at most 1048576: NARROWER than '..Said'. Prove '..Said' where nothing that the law and all that it calls make is longer than what came in: it says more and counts as full. Else prove '..UptoSaid'. A law counts once. -/
mutual
def uptoBulk {H : Type} : DataW H → Nat
  | .lit (.string bytes) => bytes.length + 1
  | .lit _ => 1
  | .nil => 1
  | .ptr d => uptoBulk d + 1
  | .slice elems spare => uptoBulkAll elems + uptoBulkAll spare + 1
  | .agg parts => uptoBulkAll parts + 1
  | .iface _ d => uptoBulk d + 1
  | .map entries => uptoBulkEntries entries + 1
  | .held _ => 1
def uptoBulkAll {H : Type} : List (DataW H) → Nat
  | [] => 0
  | d :: r => uptoBulk d + uptoBulkAll r
def uptoBulkEntries {H : Type} : List (Lit × DataW H) → Nat
  | [] => 0
  | x :: r => uptoBulkEntry x + uptoBulkEntries r
def uptoBulkEntry {H : Type} : Lit × DataW H → Nat
  | (.string bytes, d) => bytes.length + uptoBulk d + 1
  | (_, d) => uptoBulk d + 1
 end
def uptoSmall : (H : Type) → List (DataW H) → Bool := fun _ ds => decide (uptoBulkAll ds ≤ 1048576)
def OpenSpec.upto (s : _root_.Go.ChangeSpec) : _root_.Go.OpenSpec := { _root_.Go.OpenSpec.ofChange s with cond := some uptoSmall }

/-- 'sacristylaw9.TreePlays', WHERE WHAT IT READS IS OF BULK AT MOST 1048576: true; the input reads as it did. -/
def treePlaysUptoRow : OpenClaim := { program := "ytmlbjfklaehjnaagreatdoor", sum := "6964e649411734abbb625c5d926389dcbcef33656e11f5419289d3dbd5d06188", func := "sacristy/sacristylaw9.TreePlays", spec := "treePlays", inPlace := ["maps.clone"], unfollowed := true, recurses := true, named := ["sacristy/sha.roundWords", "sacristy/stream.quarters"], plainKeys := false, apart := false, laid := [("sacristy/sha.roundWords", laid_sacristy_sha_roundWords), ("sacristy/stream.quarters", laid_sacristy_stream_quarters)], narrowed := true }
def TreePlaysUptoSaid : Prop := treePlaysUptoRow.holds Tryz.pinned (OpenSpec.upto treePlaysSpec)

/-- 'sacristylaw9.TreeOrder', WHERE WHAT IT READS IS OF BULK AT MOST 1048576: true; the input reads as it did. -/
def treeOrderUptoRow : OpenClaim := { program := "ytmlbjfklaehjnaagreatdoor", sum := "6964e649411734abbb625c5d926389dcbcef33656e11f5419289d3dbd5d06188", func := "sacristy/sacristylaw9.TreeOrder", spec := "treeOrder", inPlace := ["maps.clone"], unfollowed := true, recurses := true, named := ["sacristy/sha.roundWords", "sacristy/stream.quarters"], plainKeys := false, apart := false, laid := [("sacristy/sha.roundWords", laid_sacristy_sha_roundWords), ("sacristy/stream.quarters", laid_sacristy_stream_quarters)], narrowed := true }
def TreeOrderUptoSaid : Prop := treeOrderUptoRow.holds Tryz.pinned (OpenSpec.upto treeOrderSpec)

/-- 'sacristylaw9.TreeEmpties', WHERE WHAT IT READS IS OF BULK AT MOST 1048576: true; the input reads as it did. -/
def treeEmptiesUptoRow : OpenClaim := { program := "ytmlbjfklaehjnaagreatdoor", sum := "6964e649411734abbb625c5d926389dcbcef33656e11f5419289d3dbd5d06188", func := "sacristy/sacristylaw9.TreeEmpties", spec := "treeEmpties", inPlace := ["maps.clone"], unfollowed := true, recurses := true, named := ["sacristy/sha.roundWords", "sacristy/stream.quarters"], plainKeys := false, apart := false, laid := [("sacristy/sha.roundWords", laid_sacristy_sha_roundWords), ("sacristy/stream.quarters", laid_sacristy_stream_quarters)], narrowed := true }
def TreeEmptiesUptoSaid : Prop := treeEmptiesUptoRow.holds Tryz.pinned (OpenSpec.upto treeEmptiesSpec)

/-- 'sacristylaw9.TreeStays', WHERE WHAT IT READS IS OF BULK AT MOST 1048576: true; the input reads as it did. -/
def treeStaysUptoRow : OpenClaim := { program := "ytmlbjfklaehjnaagreatdoor", sum := "6964e649411734abbb625c5d926389dcbcef33656e11f5419289d3dbd5d06188", func := "sacristy/sacristylaw9.TreeStays", spec := "treeStays", inPlace := ["maps.clone"], unfollowed := true, recurses := true, named := ["sacristy/sha.roundWords", "sacristy/stream.quarters"], plainKeys := false, apart := false, laid := [("sacristy/sha.roundWords", laid_sacristy_sha_roundWords), ("sacristy/stream.quarters", laid_sacristy_stream_quarters)], narrowed := true }
def TreeStaysUptoSaid : Prop := treeStaysUptoRow.holds Tryz.pinned (OpenSpec.upto treeStaysSpec)

/-- 'sacristylaw9.TreeScans', WHERE WHAT IT READS IS OF BULK AT MOST 1048576: true; the input reads as it did. -/
def treeScansUptoRow : OpenClaim := { program := "ytmlbjfklaehjnaagreatdoor", sum := "6964e649411734abbb625c5d926389dcbcef33656e11f5419289d3dbd5d06188", func := "sacristy/sacristylaw9.TreeScans", spec := "treeScans", inPlace := ["maps.clone"], unfollowed := true, recurses := true, named := ["sacristy/sha.roundWords", "sacristy/stream.quarters"], plainKeys := false, apart := false, laid := [("sacristy/sha.roundWords", laid_sacristy_sha_roundWords), ("sacristy/stream.quarters", laid_sacristy_stream_quarters)], narrowed := true }
def TreeScansUptoSaid : Prop := treeScansUptoRow.holds Tryz.pinned (OpenSpec.upto treeScansSpec)

/-- 'sacristylaw9.TreeRoom', WHERE WHAT IT READS IS OF BULK AT MOST 1048576: true; the input reads as it did. -/
def treeRoomUptoRow : OpenClaim := { program := "ytmlbjfklaehjnaagreatdoor", sum := "6964e649411734abbb625c5d926389dcbcef33656e11f5419289d3dbd5d06188", func := "sacristy/sacristylaw9.TreeRoom", spec := "treeRoom", inPlace := ["maps.clone"], unfollowed := true, recurses := true, named := ["sacristy/sha.roundWords", "sacristy/stream.quarters"], plainKeys := false, apart := false, laid := [("sacristy/sha.roundWords", laid_sacristy_sha_roundWords), ("sacristy/stream.quarters", laid_sacristy_stream_quarters)], narrowed := true }
def TreeRoomUptoSaid : Prop := treeRoomUptoRow.holds Tryz.pinned (OpenSpec.upto treeRoomSpec)

end Rows
end Go.Proofs.YtmlbjfklaehjnaaGreatDoor
