/- Arrays of booleans as they are read. -/
import Derived.Test.YtlddkmjhkhliiaaSecOpen
import Derived.Test.YtlddkmjhkhliiaaSecChoices
namespace Go.Proofs.Ytlddkmjhkhliiaa
open Go Go.ChangeShapes Go.WideShapes Go.ChangeAt Go.RowKit
set_option maxRecDepth 100000 in
theorem cells_bo6 : Try.prog.cellsOf 49 = 6 := by kernel_rfl
set_option maxRecDepth 100000 in
theorem open_bo6 {H : Type} {enc : TypeId × Value → H} {W : World} {base : Nat} {v : Value} {d : DataW H} {ps : List MemPlace} (hok : Value.okWide Try.prog W .any base 49 v) (h : DataW.Trod enc Try.prog W 0 (fun _ => true) true 49 v d ps) :
    ∃ zs : List Bool, v = .agg (bls zs).toArray ∧ zs.length = 6 := by
  simp only [Value.okWide, un_bo6] at hok
  obtain ⟨cs, rfl, hsz, _⟩ := hok
  obtain ⟨fuel, hf⟩ := h
  obtain ⟨xs, m, rfl, _, hl, hxn, hget⟩ := DataW.trod_array un_bo6 hf
  have hcell : ∀ i, i < 6 → ∃ z, cs[i]? = some (.bool z) := by
    intro i hi
    have hx : xs[i]? = some (xs[i]'(by omega)) := by simp [show i < xs.length by omega]
    have h1 := hget i hi
    rw [hx, cells_bool] at h1
    obtain ⟨z, hc, _⟩ := DataW.trod_bool Try.underlying4 h1
    have h2 := congrArg (·[0]?) hc
    exact ⟨z, by simpa [List.getElem?_take, List.getElem?_drop, Value.cells] using h2⟩
  refine ⟨cs.toList.map (fun v => match v with | .bool z => z | _ => false), ?_, by simp [hsz, cells_bo6]⟩
  congr 1
  apply Array.ext_getElem?
  intro i
  by_cases hi : i < 6
  · obtain ⟨z, hz⟩ := hcell i hi
    simp [bls, hz]
  · rw [Array.getElem?_eq_none (by rw [hsz, cells_bo6]; omega), Array.getElem?_eq_none (by simp [bls, hsz, cells_bo6]; omega)]
end Go.Proofs.Ytlddkmjhkhliiaa
