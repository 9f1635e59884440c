/- What the proofs of all laws of this seat share: the table of round words as it is laid, and arrays of bytes as they are read. -/
import Derived.Test.YtbfccepddfinoaaDoorCopyF
import Derived.Test.YtbfccepddfinoaaDoorCards
import Derived.Test.YtbfccepddfinoaaDoorTie
import Derived.ProofKit
import Derived.OpenShut
import Derived.ChangeOld
import Derived.Deep.DeepHandedRow
import Derived.Lib.LaidTab
import Derived.Lay
namespace Go.Proofs.YtbfccepddfinoaaDoor
open Go Go.ChangeShapes Go.WideShapes Go.ChangeAt Go.RowKit

set_option maxRecDepth 100000 in
theorem own : ownKnob Tryd.prog.godebug = none := by kernel_rfl
set_option maxRecDepth 100000 in
theorem laidOut : laidOutB Tryd.prog = true := by kernel_rfl
set_option maxRecDepth 100000 in
theorem cells_w64 : Tryd.prog.cellsOf 103 = 64 := by kernel_rfl
set_option maxRecDepth 100000 in
theorem cells_u32 : Tryd.prog.cellsOf 24 = 1 := by kernel_rfl
set_option maxRecDepth 100000 in
theorem cells_b32 : Tryd.prog.cellsOf 22 = 32 := by kernel_rfl
set_option maxRecDepth 100000 in
theorem cells_u8 : Tryd.prog.cellsOf 5 = 1 := by kernel_rfl
set_option maxRecDepth 100000 in
theorem table_type : (Tryd.prog.globals[1]?).map (·.type) = some 103 := by kernel_rfl

set_option maxRecDepth 100000 in
/-- The listed table gives what the walks ask for. -/
theorem tab_of {W : World} (nm : String) (hn : Tryd.prog.globalNamed nm = some 1) (h : Lib.TabIs Tryd.prog W nm .u32 kTab) : Tab W := by
  intro j hj
  exact h.cell hn j (by simpa [kTab] using hj)

set_option maxRecDepth 100000 in
/-- An array of bytes that came in. -/
theorem open_b32 {H : Type} {enc : TypeId × Value → H} {W : World} {base : Nat} {v : Value} {d : DataW H} {ps : List MemPlace} (hok : Value.okWide Tryd.prog W .any base 22 v) (h : DataW.Trod enc Tryd.prog W 0 (fun _ => true) true 22 v d ps) :
    ∃ zs : List Int, v = .agg (u8s zs).toArray ∧ zs.length = 32 ∧ Bytes zs := by
  simp only [Value.okWide, un_b32] at hok
  obtain ⟨cs, rfl, hsz, _⟩ := hok
  obtain ⟨fuel, hf⟩ := h
  obtain ⟨xs, m, rfl, _, hl, hxn, hget⟩ := DataW.trod_array un_b32 hf
  have hcell : ∀ i, i < 32 → ∃ z, cs[i]? = some (.int .u8 z) ∧ 0 ≤ z ∧ z < 256 := by
    intro i hi
    have hx : xs[i]? = some (xs[i]'(by omega)) := by simp [show i < xs.length by omega]
    have h1 := hget i hi
    rw [hx, cells_u8] at h1
    obtain ⟨z, hc, _, hwf⟩ := DataW.trod_int un_u8 h1
    have h2 := congrArg (·[0]?) hc
    have h3 : cs[i]? = some (.int .u8 z) := by simpa [List.getElem?_take, List.getElem?_drop, Value.cells] using h2
    refine ⟨z, h3, ?_⟩
    have := bounds_u8 hwf
    omega
  refine ⟨cs.toList.map (fun v => match v with | .int _ z => z | _ => 0), ?_, by simp [hsz, cells_b32], ?_⟩
  · congr 1
    apply Array.ext_getElem?
    intro i
    by_cases hi : i < 32
    · obtain ⟨z, hz, _⟩ := hcell i hi
      simp [u8s, hz]
    · rw [Array.getElem?_eq_none (by rw [hsz, cells_b32]; omega), Array.getElem?_eq_none (by simp [u8s, hsz, cells_b32]; omega)]
  · intro y hy
    obtain ⟨v, hv, rfl⟩ := List.mem_map.1 hy
    obtain ⟨i, hi, he⟩ := List.getElem_of_mem hv
    obtain ⟨z, hz, hb⟩ := hcell i (by simpa [hsz, cells_b32] using hi)
    have hvz : v = .int .u8 z := by
      have : cs.toList[i]? = some v := by rw [← he]; simp [show i < cs.size by simpa using hi]
      rw [Array.getElem?_toList, hz] at this
      exact (Option.some.inj this).symm
    subst hvz
    exact hb
end Go.Proofs.YtbfccepddfinoaaDoor
