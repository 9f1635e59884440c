import Derived.Test.YtjmlgjbojmlibaaGreatDoorQa46
import Derived.Deep.Slices
set_option maxRecDepth 100000
namespace Go.Proofs.YtjmlgjbojmlibaaGreatDoor
open Go Go.ChangeShapes Go.WideShapes Go.ChangeAt Go.RowKit
theorem cells_bs : Tryz.prog.cellsOf 29 = 1 := by kernel_rfl
theorem open_bsCell {H : Type} {enc : TypeId × Value → H} {W : World} {v : Value} {n : Nat} {x : DataW H × List MemPlace} (hf : DataW.trod enc Tryz.prog W 0 (fun _ => true) true n 29 [v] = some x) :
    ∃ (p : Option Addr) (c : Nat) (cs : List Int), v = .slice p cs.length c ∧ SlOld W (.slice p cs.length c) cs ∧ Bytes cs := by
  rcases open_ints un_bs un_u8 cells_u8 hf with ⟨hcs, _⟩ | ⟨x, l, c, zs, hcs, _, hl, _, hz, _, hcell, hwz⟩
  · simp only [List.cons.injEq, and_true] at hcs
    exact ⟨none, 0, [], hcs, ⟨none, 0, rfl, Nat.le_refl _, fun h => absurd h (by simp)⟩, by intro y hy; cases hy⟩
  · simp only [List.cons.injEq, and_true] at hcs
    have hzl : zs.length = c := by simpa using hz
    have htl : (zs.take l).length = l := by simp; omega
    refine ⟨some x, c, zs.take l, by rw [htl]; exact hcs, ⟨some x, c, rfl, by rw [htl]; exact hl, fun h0 => ?_⟩, ?_⟩
    · obtain ⟨b, off, rfl, hc⟩ := ints_at hcell (by omega)
      exact ⟨b, off, rfl, Seg.take (fun j hj => hc j hj) l⟩
    · intro y hy
      have := bounds_u8 (hwz y (List.mem_of_mem_take hy))
      omega
theorem open_bss {H : Type} {enc : TypeId × Value → H} {W : World} {base : Nat} {v : Value} {d : DataW H} {ps : List MemPlace} (hok : Value.okWide Tryz.prog W .any base 71 v) (h : DataW.Trod enc Tryz.prog W 0 (fun _ => true) true 71 v d ps) :
    ∃ (p : Option Addr) (len cap b o : Nat) (Pt : Nat → Option Addr) (Cp : Nat → Nat) (cs : Nat → List Int), v = .slice p len cap ∧ (0 < len → p = some ⟨b, o, none⟩) ∧
      ∀ i, i < len → W.cell? ⟨b, o + i, none⟩ = some (.slice (Pt i) (cs i).length (Cp i)) ∧ SlOld W (.slice (Pt i) (cs i).length (Cp i)) (cs i) ∧ Bytes (cs i) := by
  obtain ⟨a, len, cap, rfl⟩ := okWide_slice un_bss hok
  obtain ⟨fuel, hf⟩ := h
  rcases Go.Deep.open_slice1 un_bss cells_bs hf with ⟨hcs, _⟩ | ⟨x, l, c, m, n, V, D, Pl, hcs, _, hl, _, hm, _, hel⟩
  · simp [Value.cells] at hcs
    obtain ⟨rfl, rfl, rfl⟩ := hcs
    exact ⟨none, 0, 0, 0, 0, fun _ => none, fun _ => 0, fun _ => [], rfl, fun h => absurd h (by omega), fun i hi => absurd hi (by omega)⟩
  · simp [Value.cells] at hcs
    obtain ⟨rfl, rfl, rfl⟩ := hcs
    have hm' : m = cap := by simpa using hm
    by_cases h0 : 0 < len
    · obtain ⟨b, o, spot⟩ := x
      have hspot : spot = none := by simpa [Addr.add] using World.cell?_spot (hel 0 (by omega)).1
      subst hspot
      obtain ⟨f, hf⟩ := Go.Deep.choose_lt (α := Option Addr × Nat × List Int) (n := len) (p := fun i t => V i = .slice t.1 t.2.2.length t.2.1 ∧ SlOld W (.slice t.1 t.2.2.length t.2.1) t.2.2 ∧ Bytes t.2.2)
        (fun i hi => by obtain ⟨p, c, cs, h1, h2, h3⟩ := open_bsCell (hel i (by omega)).2; exact ⟨(p, c, cs), h1, h2, h3⟩)
      refine ⟨_, len, cap, b, o, fun i => (f i).1, fun i => (f i).2.1, fun i => (f i).2.2, rfl, fun _ => rfl, fun i hi => ?_⟩
      obtain ⟨h1, h2, h3⟩ := hf i hi
      refine ⟨?_, h2, h3⟩
      rw [← Go.WideShapes.add_plain, (hel i (by omega)).1, h1]
    · exact ⟨some x, len, cap, 0, 0, fun _ => none, fun _ => 0, fun _ => [], rfl, fun h => absurd h h0, fun i hi => absurd hi (by omega)⟩
end Go.Proofs.YtjmlgjbojmlibaaGreatDoor
