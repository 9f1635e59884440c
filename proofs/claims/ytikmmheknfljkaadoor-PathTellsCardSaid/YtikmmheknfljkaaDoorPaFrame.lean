/- What the proofs of all laws of this seat share: the state at the start, arguments as they are read. -/
import Derived.Test.YtikmmheknfljkaaDoorPaKnown
import Derived.Test.YtikmmheknfljkaaDoorCards
import Derived.Test.YtikmmheknfljkaaDoorTie
import Derived.ProofKit
import Derived.OpenShut
import Derived.ChangeOld
import Derived.ChangeMaps5
import Derived.Deep.DeepHandedRow
import Derived.Deep.Slices
import Derived.Shelf.Vars
import Derived.Lay
namespace Go.Proofs.YtikmmheknfljkaaDoor
open Go Go.ChangeShapes Go.WideShapes Go.ChangeAt Go.RowKit
set_option maxRecDepth 100000 in
theorem own : ownKnob Tryd.prog.godebug = none := by kernel_rfl
set_option maxRecDepth 100000 in
theorem laidOut : laidOutB Tryd.prog = true := by kernel_rfl
set_option maxRecDepth 100000 in
theorem cells_strT : Tryd.prog.cellsOf 9 = 1 := by kernel_rfl
set_option maxRecDepth 100000 in
theorem maxl_of {W : World} (h : W.ShapedOpen Tryd.prog) : MaxL W :=
  cell_of_shapedOpen_int (P := Tryd.prog) (g := 0) (t := 3) (zero := #[.int .i64 0]) h (of_decide_eq_true (by kernel_rfl)) (by kernel_rfl) rfl (by kernel_rfl) (by kernel_rfl) Tryd.underlying3
set_option maxRecDepth 100000 in
theorem map_range_get {α : Type} (f : Nat → α) (n i : Nat) (h : i < n) : ((List.range n).map f)[i]? = some (f i) := by
  simp [h]
set_option maxRecDepth 100000 in
theorem list_one {W : World} {p : Option Addr} {len cap b o : Nat} {α : Type} (B : Nat → α) (g : α → Value) (hc : len ≤ cap) (hp : 0 < len → p = some ⟨b, o, none⟩) (h : ∀ i, i < len → W.cell? ⟨b, o + i, none⟩ = some (g (B i))) :
    SlV 1 W (.slice p len cap) len (((List.range len).map B).map g) := by
  refine ⟨p, cap, rfl, hc, by simp, fun h0 => ⟨b, o, hp h0, fun j u hu => ?_⟩⟩
  have hj : j < len := by
    have := (List.getElem?_eq_some_iff.1 hu).1
    simpa using this
  rw [List.map_map, map_range_get _ _ _ hj] at hu
  rw [h j hj]
  exact hu
set_option maxRecDepth 100000 in
theorem open_strL {H : Type} {enc : TypeId × Value → H} {W : World} {base : Nat} {v : Value} {d : DataW H} {ps : List MemPlace} (hok : Value.okWide Tryd.prog W .any base 22 v) (h : DataW.Trod enc Tryd.prog W 0 (fun _ => true) true 22 v d ps) :
    ∃ l : List ByteArray, SlS W v l ∧ ∀ x ∈ l, x.size ≤ maxLen := by
  obtain ⟨a, len, cap, rfl⟩ := okWide_slice un_strs hok
  obtain ⟨fuel, hf⟩ := h
  rcases Go.Deep.open_slice1 un_strs cells_strT hf with ⟨hcs, _⟩ | ⟨x, l, c, m, n, V, D, Pl, hcs, _, hl, _, hm, _, hel⟩
  · simp [Value.cells] at hcs
    obtain ⟨rfl, rfl, rfl⟩ := hcs
    exact ⟨[], SlV.nil 1 W, by intro x hx; cases hx⟩
  · simp [Value.cells] at hcs
    obtain ⟨rfl, rfl, rfl⟩ := hcs
    have hm' : m = cap := by simpa using hm
    by_cases h0 : 0 < len
    · obtain ⟨b, o, spot⟩ := x
      have hspot : spot = none := by simpa [Addr.add] using World.cell?_spot (hel 0 (by omega)).1
      subst hspot
      obtain ⟨f, hf⟩ := Go.Deep.choose_lt (α := ByteArray) (n := len) (p := fun i t => V i = .string t ∧ t.size ≤ maxLen)
        (fun i hi => by obtain ⟨q, h1, _, h2⟩ := DataW.trod_string Tryd.underlying9 (hel i (by omega)).2; simp only [List.cons.injEq, and_true] at h1; exact ⟨q, h1, h2⟩)
      refine ⟨(List.range len).map f, ?_, ?_⟩
      · have h9 := list_one (W := W) (p := some ⟨b, o, none⟩) (cap := cap) f Value.string (by omega) (fun _ => rfl) (fun i hi => by rw [← Go.WideShapes.add_plain, (hel i (by omega)).1, (hf i hi).1])
        show SlV 1 W _ _ _
        rw [List.length_map, List.length_range]
        exact h9
      · intro x hx
        obtain ⟨i, hi, rfl⟩ := List.mem_map.1 hx
        exact (hf i (List.mem_range.1 hi)).2
    · have hz : len = 0 := by omega
      subst hz
      exact ⟨[], ⟨some x, cap, rfl, by omega, by simp [strs], fun h => absurd h (by simp)⟩, by intro x hx; cases hx⟩
end Go.Proofs.YtikmmheknfljkaaDoor
