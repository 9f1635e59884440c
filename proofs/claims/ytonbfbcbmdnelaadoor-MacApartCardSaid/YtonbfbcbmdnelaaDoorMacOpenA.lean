/- Slices of strings and of numbers as they are read. -/
import Derived.Test.YtonbfbcbmdnelaaDoorMacOpen
namespace Go.Proofs.YtonbfbcbmdnelaaDoor
open Go Go.ChangeShapes Go.WideShapes Go.ChangeAt Go.RowKit
theorem un_strs : Tryd.prog.underlying 34 = some (.slice 9) := Tryd.underlying34
theorem un_u32s : Tryd.prog.underlying 35 = some (.slice 25) := Tryd.underlying35
theorem cells_strT : Tryd.prog.cellsOf 9 = 1 := by kernel_rfl
theorem open_strs {H : Type} {enc : TypeId × Value → H} {W : World} {base : Nat} {v : Value} {d : DataW H} {ps : List MemPlace} (hok : Value.okWide Tryd.prog W .any base 34 v) (h : DataW.Trod enc Tryd.prog W 0 (fun _ => true) true 34 v d ps) :
    ∃ (p : Option Addr) (len cap b o : Nat) (B : Nat → ByteArray), v = .slice p len cap ∧ (0 < len → p = some ⟨b, o, none⟩) ∧ ∀ i, i < len → W.cell? ⟨b, o + i, none⟩ = some (.string (B i)) := by
  obtain ⟨a, len, cap, rfl⟩ := okWide_slice un_strs hok
  obtain ⟨fuel, hf⟩ := h
  rcases Go.Deep.open_slice1 un_strs cells_strT hf with ⟨hcs, _⟩ | ⟨x, l, c, m, n, V, D, Pl, hcs, _, hl, _, hm, _, hel⟩
  · simp [Value.cells] at hcs
    obtain ⟨rfl, rfl, rfl⟩ := hcs
    exact ⟨none, 0, 0, 0, 0, fun _ => ByteArray.empty, rfl, fun h => absurd h (by omega), fun i hi => absurd hi (by omega)⟩
  · simp [Value.cells] at hcs
    obtain ⟨rfl, rfl, rfl⟩ := hcs
    have hm' : m = cap := by simpa using hm
    by_cases h0 : 0 < len
    · obtain ⟨b, o, spot⟩ := x
      have hspot : spot = none := by simpa [Addr.add] using World.cell?_spot (hel 0 (by omega)).1
      subst hspot
      obtain ⟨f, hf⟩ := Go.Deep.choose_lt (α := ByteArray) (n := len) (p := fun i t => V i = .string t)
        (fun i hi => by obtain ⟨q, h1, _⟩ := DataW.trod_string Tryd.underlying9 (hel i (by omega)).2; simp only [List.cons.injEq, and_true] at h1; exact ⟨q, h1⟩)
      refine ⟨_, len, cap, b, o, f, rfl, fun _ => rfl, fun i hi => ?_⟩
      rw [← Go.WideShapes.add_plain, (hel i (by omega)).1, hf i hi]
    · exact ⟨some x, len, cap, 0, 0, fun _ => ByteArray.empty, rfl, fun h => absurd h h0, fun i hi => absurd hi (by omega)⟩
theorem open_u32s {H : Type} {enc : TypeId × Value → H} {W : World} {base : Nat} {v : Value} {d : DataW H} {ps : List MemPlace} (hok : Value.okWide Tryd.prog W .any base 35 v) (h : DataW.Trod enc Tryd.prog W 0 (fun _ => true) true 35 v d ps) :
    ∃ (p : Option Addr) (len cap b o : Nat) (B : Nat → Int), v = .slice p len cap ∧ (0 < len → p = some ⟨b, o, none⟩) ∧ ∀ i, i < len → W.cell? ⟨b, o + i, none⟩ = some (.int .u32 (B i)) ∧ 0 ≤ B i ∧ B i < 4294967296 := by
  obtain ⟨a, len, cap, rfl⟩ := okWide_slice un_u32s hok
  obtain ⟨fuel, hf⟩ := h
  rcases Go.Deep.open_slice1 un_u32s cells_u32 hf with ⟨hcs, _⟩ | ⟨x, l, c, m, n, V, D, Pl, hcs, _, hl, _, hm, _, hel⟩
  · simp [Value.cells] at hcs
    obtain ⟨rfl, rfl, rfl⟩ := hcs
    exact ⟨none, 0, 0, 0, 0, fun _ => 0, rfl, fun h => absurd h (by omega), fun i hi => absurd hi (by omega)⟩
  · simp [Value.cells] at hcs
    obtain ⟨rfl, rfl, rfl⟩ := hcs
    have hm' : m = cap := by simpa using hm
    by_cases h0 : 0 < len
    · obtain ⟨b, o, spot⟩ := x
      have hspot : spot = none := by simpa [Addr.add] using World.cell?_spot (hel 0 (by omega)).1
      subst hspot
      obtain ⟨f, hf⟩ := Go.Deep.choose_lt (α := Int) (n := len) (p := fun i t => V i = .int .u32 t ∧ 0 ≤ t ∧ t < 4294967296)
        (fun i hi => by
          obtain ⟨q, h1, _, hwf⟩ := DataW.trod_int Tryd.underlying25 (hel i (by omega)).2
          simp only [List.cons.injEq, and_true] at h1
          have := bounds_u32 hwf
          exact ⟨q, h1, by omega, by omega⟩)
      refine ⟨_, len, cap, b, o, f, rfl, fun _ => rfl, fun i hi => ⟨?_, (hf i hi).2⟩⟩
      rw [← Go.WideShapes.add_plain, (hel i (by omega)).1, (hf i hi).1]
    · exact ⟨some x, len, cap, 0, 0, fun _ => 0, rfl, fun h => absurd h h0, fun i hi => absurd hi (by omega)⟩
end Go.Proofs.YtonbfbcbmdnelaaDoor
