/- Arguments as they are read. -/
import Derived.Test.YtbaijhlkkeongaaSecFrame
import Derived.Deep.Slices
namespace Go.Proofs.Ytbaijhlkkeongaa
open Go Go.ChangeShapes Go.WideShapes Go.ChangeAt Go.RowKit
set_option maxRecDepth 100000 in
/-- An array of bytes that came in. -/
theorem open_b64 {H : Type} {enc : TypeId × Value → H} {W : World} {base : Nat} {v : Value} {d : DataW H} {ps : List MemPlace} (hok : Value.okWide Try.prog W .any base 53 v) (h : DataW.Trod enc Try.prog W 0 (fun _ => true) true 53 v d ps) :
    ∃ zs : List Int, v = .agg (u8s zs).toArray ∧ zs.length = 64 ∧ Bytes zs := by
  simp only [Value.okWide, un_b64] at hok
  obtain ⟨cs, rfl, hsz, _⟩ := hok
  obtain ⟨fuel, hf⟩ := h
  obtain ⟨xs, m, rfl, _, hl, hxn, hget⟩ := DataW.trod_array un_b64 hf
  have hcell : ∀ i, i < 64 → ∃ z, cs[i]? = some (.int .u8 z) ∧ 0 ≤ z ∧ z < 256 := by
    intro i hi
    have hx : xs[i]? = some (xs[i]'(by omega)) := by simp [show i < xs.length by omega]
    have h1 := hget i hi
    rw [hx, cells_u8] at h1
    obtain ⟨z, hc, _, hwf⟩ := DataW.trod_int un_u8 h1
    have h2 := congrArg (·[0]?) hc
    have h3 : cs[i]? = some (.int .u8 z) := by simpa [List.getElem?_take, List.getElem?_drop, Value.cells] using h2
    refine ⟨z, h3, ?_⟩
    have := bounds_u8 hwf
    omega
  refine ⟨cs.toList.map (fun v => match v with | .int _ z => z | _ => 0), ?_, by simp [hsz, cells_b64], ?_⟩
  · congr 1
    apply Array.ext_getElem?
    intro i
    by_cases hi : i < 64
    · obtain ⟨z, hz, _⟩ := hcell i hi
      simp [u8s, hz]
    · rw [Array.getElem?_eq_none (by rw [hsz, cells_b64]; omega), Array.getElem?_eq_none (by simp [u8s, hsz, cells_b64]; omega)]
  · intro y hy
    obtain ⟨v, hv, rfl⟩ := List.mem_map.1 hy
    obtain ⟨i, hi, he⟩ := List.getElem_of_mem hv
    obtain ⟨z, hz, hb⟩ := hcell i (by simpa [hsz, cells_b64] using hi)
    have hvz : v = .int .u8 z := by
      have : cs.toList[i]? = some v := by rw [← he]; simp [show i < cs.size by simpa using hi]
      rw [Array.getElem?_toList, hz] at this
      exact (Option.some.inj this).symm
    subst hvz
    exact hb
set_option maxRecDepth 100000 in
theorem open_bs {H : Type} {enc : TypeId × Value → H} {W : World} {base : Nat} {v : Value} {d : DataW H} {ps : List MemPlace} (hok : Value.okWide Try.prog W .any base 28 v) (h : DataW.Trod enc Try.prog W 0 (fun _ => true) true 28 v d ps) :
    ∃ cs : List Int, SlOld W v cs ∧ Bytes cs := by
  obtain ⟨a, len, cap, rfl⟩ := okWide_slice un_bs hok
  obtain ⟨fuel, hf⟩ := h
  rcases open_ints un_bs un_u8 cells_u8 hf with ⟨hcs, _⟩ | ⟨x, l, c, zs, hcs, _, hl, _, hz, _, hcell, hwz⟩
  · simp [Value.cells] at hcs
    obtain ⟨rfl, rfl, rfl⟩ := hcs
    exact ⟨[], ⟨none, 0, rfl, Nat.le_refl _, fun h => absurd h (by simp)⟩, by intro y hy; cases hy⟩
  · simp [Value.cells] at hcs
    obtain ⟨rfl, rfl, rfl⟩ := hcs
    have hzl : zs.length = cap := by simpa using hz
    have htl : (zs.take len).length = len := by simp; omega
    refine ⟨zs.take len, ⟨some x, cap, by rw [htl], by rw [htl]; exact hl, fun h0 => ?_⟩, ?_⟩
    · obtain ⟨b, off, rfl, hc⟩ := ints_at hcell (by omega)
      exact ⟨b, off, rfl, Seg.take (fun j hj => hc j hj) len⟩
    · intro y hy
      have := bounds_u8 (hwz y (List.mem_of_mem_take hy))
      omega
end Go.Proofs.Ytbaijhlkkeongaa
