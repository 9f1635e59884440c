/- What the walk of the law NodeBack holds. -/
import Derived.Test.YtnahflppggoplaaNdOpen
namespace Go.Proofs.Ytnahflppggoplaa
open Go Go.RowKit
structure Bk (W : World) (v1 v2 v3 u1 u2 u3 u4 : Value) (x1 x2 x3 : List Int) (l m : List (ByteArray × ByteArray)) (ks : List ByteArray) (kids : List Int) : Prop where
  a : SlOld W v1 x1
  b : SlOld W v2 x2
  c : SlOld W v3 x3
  l : SlP W u1 l
  m : SlP W u2 m
  k : SlS W u3 ks
  i : SlU W u4 kids
set_option maxRecDepth 100000 in
theorem Bk.below {W W' : World} {v1 v2 v3 u1 u2 u3 u4 : Value} {x1 x2 x3 : List Int} {l m : List (ByteArray × ByteArray)} {ks : List ByteArray} {kids : List Int} (h : Bk W v1 v2 v3 u1 u2 u3 u4 x1 x2 x3 l m ks kids) (hb : Below W.heap.size W W') : Bk W' v1 v2 v3 u1 u2 u3 u4 x1 x2 x3 l m ks kids :=
  ⟨h.a.below hb, h.b.below hb, h.c.below hb, SlV.below h.l hb, SlV.below h.m hb, SlV.below h.k hb, SlV.below h.i hb⟩
set_option maxRecDepth 100000 in
theorem AnsIs.is_true {e : Ending} {p : Prop} (h : AnsIs e p) (hp : p) : e = .returned (.bool true) := by
  obtain ⟨r, he, hr⟩ := h
  rw [he, hr.2 hp]
set_option maxRecDepth 100000 in
theorem AnsIs.is_false {e : Ending} {p : Prop} (h : AnsIs e p) (hp : ¬ p) : e = .returned (.bool false) := by
  obtain ⟨r, he, hr⟩ := h
  cases r with
  | false => exact he
  | true => exact absurd (hr.1 rfl) hp
end Go.Proofs.Ytnahflppggoplaa
