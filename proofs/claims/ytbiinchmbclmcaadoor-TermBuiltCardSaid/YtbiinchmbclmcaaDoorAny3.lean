/- Operations under a guard. -/
import Derived.Test.YtbiinchmbclmcaaDoorAny2
namespace Go.Proofs.YtbiinchmbclmcaaDoor
open Go Go.RowKit
section
variable {P : Program} {ops : Array Oper} {rest : List Oper} {a : Act} {w : World} {Q : Exit → Act → World → Prop}
theorem at_opG {typ : TypeId} {pos : String} {aft : Array Edge} (dst : Option Tmp) (op : Op) (gd : Option (Nat × Bool)) (h : wpList P ops Q ({ dst := dst, op := op, type := typ, pos := pos, after := aft, guard := gd } :: rest) a w) :
    wpList P ops Q ({ dst := dst, op := op, type := typ, pos := pos, after := aft, guard := gd } :: rest) a w := h
theorem wpl_execG {o : Oper} (v : Value) (hw : Region.wanted o (yielded ops a.tmps) = true) (hr : (execOp a.eval o).run P w = .ok (.value v) w) (h : wpList P ops Q rest (a.put o.dst v) w) : wpList P ops Q (o :: rest) a w := by
  refine wpList_step fun K hK => ?_
  rw [if_pos hw]
  unfold Oper.wp
  rw [hr]
  exact hK _ _ h
end
end Go.Proofs.YtbiinchmbclmcaaDoor
