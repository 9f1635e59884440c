/- What the proofs of all laws of this seat share. -/
import Derived.Test.YtbaijhlkkeongaaSecCrash
import Derived.Test.YtbaijhlkkeongaaRows
import Derived.ProofKit
import Derived.OpenShut
import Derived.ChangeOld
import Derived.Deep.DeepHandedRow
import Derived.Lay
namespace Go.Proofs.Ytbaijhlkkeongaa
open Go Go.ChangeShapes Go.WideShapes Go.ChangeAt Go.RowKit
set_option maxRecDepth 100000 in
theorem own : ownKnob Try.prog.godebug = none := by kernel_rfl
set_option maxRecDepth 100000 in
theorem laidOut : laidOutB Try.prog = true := by kernel_rfl
set_option maxRecDepth 100000 in
theorem cells_u8 : Try.prog.cellsOf 5 = 1 := by kernel_rfl
set_option maxRecDepth 100000 in
theorem cells_b64 : Try.prog.cellsOf 53 = 64 := by kernel_rfl
set_option maxRecDepth 100000 in
theorem cells_bool : Try.prog.cellsOf 4 = 1 := by kernel_rfl
end Go.Proofs.Ytbaijhlkkeongaa
