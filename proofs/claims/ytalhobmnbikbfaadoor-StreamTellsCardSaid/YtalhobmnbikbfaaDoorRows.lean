/-
  NARROWER THAN 'FOR EVERY INPUT', by the rows' own cells (each row's printed sentence says how): StreamTells: laid · StreamTwice: laid · StreamQuarter: laid · StreamCounts: laid · StreamLinear: laid.
  DERIVED. THE GIVEN ROWS OF THIS SEAT. 5 by the template 'for every input the law returns true; each argument reads behind the call as it read before'; 0 by the template 'total and deterministic' (their statements: YtalhobmnbikbfaaDoorTotals.lean).
  GIVEN WITH THE SEED: the statements are not yours to turn. If you find one false, say at which input.
  Laid BY PROGRAM, IN A SANDBOX (cutbox-rows.mjs): the forced cells as the released guide's own fill.sh prints them over the translation 983fee62ed54cd1d… (all of the seat's roots in one cut). By AI agents, Wed Nov 11 2026. No macro, syntax, notation, axiom, sorry.
-/
import Derived.Test.YtalhobmnbikbfaaDoorChecked
import GoSem.Claim
import GoSem.ClaimJoined
import GoSem.ClaimMapViews
import Derived.JoinedTies
import Derived.KernelRfl
namespace Go.Proofs.YtalhobmnbikbfaaDoor
/- THE CELL 'sum', in the pinned program and in every row, IS THE sha256 OF THE DUMP (.gsa) THAT YtalhobmnbikbfaaDoorProg.lean LOADS. Nothing in Lean hashes anything: it is a label: what it is worth is what the hold of that sum in a sandbox is worth. -/
noncomputable def Tryd.pinned : Pinned := { name := "ytalhobmnbikbfaadoor", sum := "983fee62ed54cd1ddc48c2b3f81d8cc147503ca08e6f19b9a6c645e2223c7ca1", checked := Tryd.checked }
namespace Rows
def none {H : Type} : Left H := { results := [], args := [] }

/- WHAT THE LISTED PACKAGE-LEVEL VARIABLES READ AS WHEN THE CALL BEGINS. Each datum BY PROGRAM (the guide's laid-datum.mjs) off the statement by which the dump's own 'gosem.cut.vars' lays the variable. In a bare row this is a premise. The card (YtalhobmnbikbfaaDoorCards.lean) ties it to the program's text. -/
def laid_sacristy_stream_quarters {H : Type} : DataW H := .agg [.agg [.lit (.int .i64 0), .lit (.int .i64 4), .lit (.int .i64 8), .lit (.int .i64 12)], .agg [.lit (.int .i64 1), .lit (.int .i64 5), .lit (.int .i64 9), .lit (.int .i64 13)], .agg [.lit (.int .i64 2), .lit (.int .i64 6), .lit (.int .i64 10), .lit (.int .i64 14)], .agg [.lit (.int .i64 3), .lit (.int .i64 7), .lit (.int .i64 11), .lit (.int .i64 15)], .agg [.lit (.int .i64 0), .lit (.int .i64 5), .lit (.int .i64 10), .lit (.int .i64 15)], .agg [.lit (.int .i64 1), .lit (.int .i64 6), .lit (.int .i64 11), .lit (.int .i64 12)], .agg [.lit (.int .i64 2), .lit (.int .i64 7), .lit (.int .i64 8), .lit (.int .i64 13)], .agg [.lit (.int .i64 3), .lit (.int .i64 4), .lit (.int .i64 9), .lit (.int .i64 14)]]

/-- 'sacristylaw4.StreamTells': WHATEVER THE INPUT: true; the input reads as it did. -/
def streamTellsSpec : ChangeSpec := { name := "streamTells", fn := fun _ => fun
  | [d1, d2, d3, d4, d5, d6, d7, d8] => { results := [.lit (.bool true)], args := [d1, d2, d3, d4, d5, d6, d7, d8] }
  | _ => none }
def streamTellsRow : OpenClaim := { program := "ytalhobmnbikbfaadoor", sum := "983fee62ed54cd1ddc48c2b3f81d8cc147503ca08e6f19b9a6c645e2223c7ca1", func := "sacristy/sacristylaw4.StreamTells", spec := "streamTells", named := ["sacristy/stream.quarters"], apart := false, laid := [("sacristy/stream.quarters", laid_sacristy_stream_quarters)] }
def StreamTellsSaid : Prop := streamTellsRow.holds Tryd.pinned (OpenSpec.ofChange streamTellsSpec)

/-- ITS FALSE NEIGHBOUR: 'it returns false'. Refute it at one input. -/
def streamTellsWrong : ChangeSpec := { name := "streamTells", fn := fun _ => fun
  | [d1, d2, d3, d4, d5, d6, d7, d8] => { results := [.lit (.bool false)], args := [d1, d2, d3, d4, d5, d6, d7, d8] }
  | _ => none }
def StreamTellsWrongFalsely : Prop := streamTellsRow.holds Tryd.pinned (OpenSpec.ofChange streamTellsWrong)

/-- 'sacristylaw4.StreamTwice': WHATEVER THE INPUT: true; the input reads as it did. -/
def streamTwiceSpec : ChangeSpec := { name := "streamTwice", fn := fun _ => fun
  | [d1, d2, d3, d4, d5] => { results := [.lit (.bool true)], args := [d1, d2, d3, d4, d5] }
  | _ => none }
def streamTwiceRow : OpenClaim := { program := "ytalhobmnbikbfaadoor", sum := "983fee62ed54cd1ddc48c2b3f81d8cc147503ca08e6f19b9a6c645e2223c7ca1", func := "sacristy/sacristylaw4.StreamTwice", spec := "streamTwice", named := ["sacristy/stream.quarters"], apart := false, laid := [("sacristy/stream.quarters", laid_sacristy_stream_quarters)] }
def StreamTwiceSaid : Prop := streamTwiceRow.holds Tryd.pinned (OpenSpec.ofChange streamTwiceSpec)

/-- ITS FALSE NEIGHBOUR: 'it returns false'. Refute it at one input. -/
def streamTwiceWrong : ChangeSpec := { name := "streamTwice", fn := fun _ => fun
  | [d1, d2, d3, d4, d5] => { results := [.lit (.bool false)], args := [d1, d2, d3, d4, d5] }
  | _ => none }
def StreamTwiceWrongFalsely : Prop := streamTwiceRow.holds Tryd.pinned (OpenSpec.ofChange streamTwiceWrong)

/-- 'sacristylaw4.StreamQuarter': WHATEVER THE INPUT: true; the input reads as it did. -/
def streamQuarterSpec : ChangeSpec := { name := "streamQuarter", fn := fun _ => fun
  | [d1, d2, d3, d4] => { results := [.lit (.bool true)], args := [d1, d2, d3, d4] }
  | _ => none }
def streamQuarterRow : OpenClaim := { program := "ytalhobmnbikbfaadoor", sum := "983fee62ed54cd1ddc48c2b3f81d8cc147503ca08e6f19b9a6c645e2223c7ca1", func := "sacristy/sacristylaw4.StreamQuarter", spec := "streamQuarter", named := ["sacristy/stream.quarters"], apart := false, laid := [("sacristy/stream.quarters", laid_sacristy_stream_quarters)] }
def StreamQuarterSaid : Prop := streamQuarterRow.holds Tryd.pinned (OpenSpec.ofChange streamQuarterSpec)

/-- ITS FALSE NEIGHBOUR: 'it returns false'. Refute it at one input. -/
def streamQuarterWrong : ChangeSpec := { name := "streamQuarter", fn := fun _ => fun
  | [d1, d2, d3, d4] => { results := [.lit (.bool false)], args := [d1, d2, d3, d4] }
  | _ => none }
def StreamQuarterWrongFalsely : Prop := streamQuarterRow.holds Tryd.pinned (OpenSpec.ofChange streamQuarterWrong)

/-- 'sacristylaw4.StreamCounts': WHATEVER THE INPUT: true; the input reads as it did. -/
def streamCountsSpec : ChangeSpec := { name := "streamCounts", fn := fun _ => fun
  | [d1, d2, d3, d4] => { results := [.lit (.bool true)], args := [d1, d2, d3, d4] }
  | _ => none }
def streamCountsRow : OpenClaim := { program := "ytalhobmnbikbfaadoor", sum := "983fee62ed54cd1ddc48c2b3f81d8cc147503ca08e6f19b9a6c645e2223c7ca1", func := "sacristy/sacristylaw4.StreamCounts", spec := "streamCounts", named := ["sacristy/stream.quarters"], apart := false, laid := [("sacristy/stream.quarters", laid_sacristy_stream_quarters)] }
def StreamCountsSaid : Prop := streamCountsRow.holds Tryd.pinned (OpenSpec.ofChange streamCountsSpec)

/-- ITS FALSE NEIGHBOUR: 'it returns false'. Refute it at one input. -/
def streamCountsWrong : ChangeSpec := { name := "streamCounts", fn := fun _ => fun
  | [d1, d2, d3, d4] => { results := [.lit (.bool false)], args := [d1, d2, d3, d4] }
  | _ => none }
def StreamCountsWrongFalsely : Prop := streamCountsRow.holds Tryd.pinned (OpenSpec.ofChange streamCountsWrong)

/-- 'sacristylaw4.StreamLinear': WHATEVER THE INPUT: true; the input reads as it did. -/
def streamLinearSpec : ChangeSpec := { name := "streamLinear", fn := fun _ => fun
  | [d1, d2, d3, d4, d5] => { results := [.lit (.bool true)], args := [d1, d2, d3, d4, d5] }
  | _ => none }
def streamLinearRow : OpenClaim := { program := "ytalhobmnbikbfaadoor", sum := "983fee62ed54cd1ddc48c2b3f81d8cc147503ca08e6f19b9a6c645e2223c7ca1", func := "sacristy/sacristylaw4.StreamLinear", spec := "streamLinear", named := ["sacristy/stream.quarters"], apart := false, laid := [("sacristy/stream.quarters", laid_sacristy_stream_quarters)] }
def StreamLinearSaid : Prop := streamLinearRow.holds Tryd.pinned (OpenSpec.ofChange streamLinearSpec)

/-- ITS FALSE NEIGHBOUR: 'it returns false'. Refute it at one input. -/
def streamLinearWrong : ChangeSpec := { name := "streamLinear", fn := fun _ => fun
  | [d1, d2, d3, d4, d5] => { results := [.lit (.bool false)], args := [d1, d2, d3, d4, d5] }
  | _ => none }
def StreamLinearWrongFalsely : Prop := streamLinearRow.holds Tryd.pinned (OpenSpec.ofChange streamLinearWrong)

/- THE SECOND FORM. 'bulk': how many values and letters a reading holds, each counted each time it is reached (what is shared counts as often as it is met; a slice's spare places count too). A statement '..UptoSaid' is the law's where the arguments, and the package variables that the reading takes, are together of bulk at most 1048576: NARROWER than '..Said'. Prove '..Said' where nothing that the law and all that it calls make is longer than what came in: it says more and counts as full. Else prove '..UptoSaid'. A law counts once. -/
mutual
def uptoBulk {H : Type} : DataW H → Nat
  | .lit (.string bytes) => bytes.length + 1
  | .lit _ => 1
  | .nil => 1
  | .ptr d => uptoBulk d + 1
  | .slice elems spare => uptoBulkAll elems + uptoBulkAll spare + 1
  | .agg parts => uptoBulkAll parts + 1
  | .iface _ d => uptoBulk d + 1
  | .map entries => uptoBulkEntries entries + 1
  | .held _ => 1
def uptoBulkAll {H : Type} : List (DataW H) → Nat
  | [] => 0
  | d :: r => uptoBulk d + uptoBulkAll r
def uptoBulkEntries {H : Type} : List (Lit × DataW H) → Nat
  | [] => 0
  | x :: r => uptoBulkEntry x + uptoBulkEntries r
def uptoBulkEntry {H : Type} : Lit × DataW H → Nat
  | (.string bytes, d) => bytes.length + uptoBulk d + 1
  | (_, d) => uptoBulk d + 1
 end
def uptoSmall : (H : Type) → List (DataW H) → Bool := fun _ ds => decide (uptoBulkAll ds ≤ 1048576)
def OpenSpec.upto (s : _root_.Go.ChangeSpec) : _root_.Go.OpenSpec := { _root_.Go.OpenSpec.ofChange s with cond := some uptoSmall }

/-- 'sacristylaw4.StreamTells', WHERE WHAT IT READS IS OF BULK AT MOST 1048576: true; the input reads as it did. -/
def streamTellsUptoRow : OpenClaim := { program := "ytalhobmnbikbfaadoor", sum := "983fee62ed54cd1ddc48c2b3f81d8cc147503ca08e6f19b9a6c645e2223c7ca1", func := "sacristy/sacristylaw4.StreamTells", spec := "streamTells", named := ["sacristy/stream.quarters"], apart := false, laid := [("sacristy/stream.quarters", laid_sacristy_stream_quarters)], narrowed := true }
def StreamTellsUptoSaid : Prop := streamTellsUptoRow.holds Tryd.pinned (OpenSpec.upto streamTellsSpec)

/-- 'sacristylaw4.StreamTwice', WHERE WHAT IT READS IS OF BULK AT MOST 1048576: true; the input reads as it did. -/
def streamTwiceUptoRow : OpenClaim := { program := "ytalhobmnbikbfaadoor", sum := "983fee62ed54cd1ddc48c2b3f81d8cc147503ca08e6f19b9a6c645e2223c7ca1", func := "sacristy/sacristylaw4.StreamTwice", spec := "streamTwice", named := ["sacristy/stream.quarters"], apart := false, laid := [("sacristy/stream.quarters", laid_sacristy_stream_quarters)], narrowed := true }
def StreamTwiceUptoSaid : Prop := streamTwiceUptoRow.holds Tryd.pinned (OpenSpec.upto streamTwiceSpec)

/-- 'sacristylaw4.StreamQuarter', WHERE WHAT IT READS IS OF BULK AT MOST 1048576: true; the input reads as it did. -/
def streamQuarterUptoRow : OpenClaim := { program := "ytalhobmnbikbfaadoor", sum := "983fee62ed54cd1ddc48c2b3f81d8cc147503ca08e6f19b9a6c645e2223c7ca1", func := "sacristy/sacristylaw4.StreamQuarter", spec := "streamQuarter", named := ["sacristy/stream.quarters"], apart := false, laid := [("sacristy/stream.quarters", laid_sacristy_stream_quarters)], narrowed := true }
def StreamQuarterUptoSaid : Prop := streamQuarterUptoRow.holds Tryd.pinned (OpenSpec.upto streamQuarterSpec)

/-- 'sacristylaw4.StreamCounts', WHERE WHAT IT READS IS OF BULK AT MOST 1048576: true; the input reads as it did. -/
def streamCountsUptoRow : OpenClaim := { program := "ytalhobmnbikbfaadoor", sum := "983fee62ed54cd1ddc48c2b3f81d8cc147503ca08e6f19b9a6c645e2223c7ca1", func := "sacristy/sacristylaw4.StreamCounts", spec := "streamCounts", named := ["sacristy/stream.quarters"], apart := false, laid := [("sacristy/stream.quarters", laid_sacristy_stream_quarters)], narrowed := true }
def StreamCountsUptoSaid : Prop := streamCountsUptoRow.holds Tryd.pinned (OpenSpec.upto streamCountsSpec)

/-- 'sacristylaw4.StreamLinear', WHERE WHAT IT READS IS OF BULK AT MOST 1048576: true; the input reads as it did. -/
def streamLinearUptoRow : OpenClaim := { program := "ytalhobmnbikbfaadoor", sum := "983fee62ed54cd1ddc48c2b3f81d8cc147503ca08e6f19b9a6c645e2223c7ca1", func := "sacristy/sacristylaw4.StreamLinear", spec := "streamLinear", named := ["sacristy/stream.quarters"], apart := false, laid := [("sacristy/stream.quarters", laid_sacristy_stream_quarters)], narrowed := true }
def StreamLinearUptoSaid : Prop := streamLinearUptoRow.holds Tryd.pinned (OpenSpec.upto streamLinearSpec)

end Rows
end Go.Proofs.YtalhobmnbikbfaaDoor
