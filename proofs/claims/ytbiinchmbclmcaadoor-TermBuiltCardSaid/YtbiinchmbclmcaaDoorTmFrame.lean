/- What the proofs of all laws of this seat share: the state at the start, arguments as they are read. -/
import Derived.Test.YtbiinchmbclmcaaDoorTmKnown
import Derived.Test.YtbiinchmbclmcaaDoorCards
import Derived.Test.YtbiinchmbclmcaaDoorTie
import Derived.ProofKit
import Derived.OpenShut
import Derived.ChangeOld
import Derived.ChangeMaps5
import Derived.Deep.DeepHandedRow
import Derived.Deep.Slices
import Derived.Shelf.Vars
import Derived.Lay
import Derived.Stop.LaidErr
namespace Go.Proofs.YtbiinchmbclmcaaDoor
open Go Go.ChangeShapes Go.WideShapes Go.ChangeAt Go.RowKit
set_option maxRecDepth 100000 in
theorem own : ownKnob Tryd.prog.godebug = none := by kernel_rfl
set_option maxRecDepth 100000 in
theorem laidOut : laidOutB Tryd.prog = true := by kernel_rfl
set_option maxRecDepth 100000 in
theorem esx_of_var {W : World} {tp : TypeId} {p : Value} (h : W.var? Tryd.prog (Rows.termPartsRow.named.getD 5 default) = some #[.iface tp p]) : Esx W := by
  have h0 := World.var?_cell (g := 0) (by kernel_rfl) h 0
  exact ⟨tp, p, by simpa using h0⟩
set_option maxRecDepth 100000 in
theorem esx_of {W : World} (h : laidMetH Tryd.prog Rows.termPartsRow.laid W) : Esx W := by
  have h0 : laidMet Tryd.prog Rows.termPartsRow.laid W := h
  have h5 := h0.tail.tail.tail.tail.tail
  obtain ⟨a, s, hv, _⟩ := laid_sentinel h5 (g := 0) (by kernel_rfl) (by kernel_rfl) Tryd.underlying80 (fun u hu => typeName_ptr_named (nm := "errors.errorString") (by kernel_rfl) (by kernel_rfl) (by decide) u (by rw [hu]; decide)) Tryd.underlying142 Tryd.underlying144 rfl rfl Tryd.underlying9 (by kernel_rfl) (by kernel_rfl)
  exact esx_of_var hv
set_option maxRecDepth 100000 in
theorem ten_of {W : World} (h : W.ShapedOpen Tryd.prog) : 10 ≤ W.heap.size := by
  have h0 : 9 < (begin Tryd.prog (fun _ _ => 0) default).world.heap.size := by decide +kernel
  obtain ⟨o, _, ho, _⟩ := h.2 9 (of_decide_eq_true (by kernel_rfl)) h0
  exact (Array.getElem?_eq_some_iff.1 ho).1
end Go.Proofs.YtbiinchmbclmcaaDoor
