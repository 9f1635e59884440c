/- A literal of four bytes; the bytes of a string made of bytes; numbers below nought. -/
import Derived.Test.YtonbfbcbmdnelaaDoorMacSt
import Derived.Test.YtonbfbcbmdnelaaDoorAnyG
namespace Go.Proofs.YtonbfbcbmdnelaaDoor
open Go Go.RowKit

theorem wrapz (x : Int) (h0 : -4611686018427387904 ≤ x) (h1 : x < 4611686018427387904) : IntKind.i64.wrap x = x := by
  simp [IntKind.wrap, IntKind.bits, IntKind.signed]
  split <;> omega
theorem strB_strOf {l : List Int} (h : Bytes l) : strB (strOf l) = l := by
  unfold strB strOf
  simp only [List.map_map]
  apply List.ext_getElem
  · simp
  · intro i h1 h2
    have := h l[i] (List.getElem_mem h2)
    simp
    omega
theorem run_bsl4 {P : Program} (w : World) {t elem : TypeId} (z v0 v1 v2 v3 : Value) (hu : P.underlying t = some (.slice elem)) (hi : (P.info? elem).map (fun i => (i.zero, i.size)) = some (some z, 1)) (hz : z.cells = #[z]) (h0 : v0.cells = #[v0]) (h1 : v1.cells = #[v1]) (h2 : v2.cells = #[v2]) (h3 : v3.cells = #[v3]) :
    (Instr.buildSlice t 4 #[(0, v0), (1, v1), (2, v2), (3, v3)]).run P w = .ok (.slice (some ⟨w.heap.size, 0, none⟩) 4 4) (w.alloc (.cells [v0, v1, v2, v3].toArray elem)) := by
  obtain ⟨hz1, hs1⟩ := zero_of_info hi
  cases hq : P.info? elem with
  | none => simp [hq] at hi
  | some q =>
    have hs : q.size = 1 := by simpa [hq] using hs1
    have e : Array.map (fun x => ([z][x % 1]?).getD default) (Array.range 4) = #[z, z, z, z] := by
      apply Array.ext
      · simp
      · intro i h1 h2
        have h3 : i = 0 ∨ i = 1 ∨ i = 2 ∨ i = 3 := by
          have : i < 4 := by simpa using h2
          omega
        rcases h3 with rfl | rfl | rfl | rfl <;> simp
    simp [Instr.buildSlice, run_underlying hu, sizeOf, typeInfo, hq, hs, hz1, hz, Instr.fill, h0, h1, h2, h3, newRow, newObj]
    rw [e]
    rfl
section
variable {ops : Array Oper} {rest : List Oper} {a : Act} {w w4 : World} {Q : Exit → Act → World → Prop} {dst : Option Tmp} {typ : TypeId} {pos : String} {aft : Array Edge} {v : Value} {zs : List Int} {al : Option Nat}
theorem wpl_stFour (st : St w4 w v zs none al)
    (h : ∀ w' g, St w4 w' v zs (some (g, [0, 0, 0, 7])) al → wpList Tryd.prog ops Q rest (a.put dst (.slice (some ⟨g, 0, none⟩) 4 4)) w') :
    wpList Tryd.prog ops Q ({ dst := dst, op := .buildSlice 22 4 #[(0, .const (.int .u8 0)), (1, .const (.int .u8 0)), (2, .const (.int .u8 0)), (3, .const (.int .u8 7))], type := typ, pos := pos, after := aft, guard := none } :: rest) a w := by
  refine wpList_plain rfl fun K hK => ?_
  have hh := hK _ _ (h _ _ (st.newRow [0, 0, 0, 7]))
  have hc : ∀ z : Int, a.eval (.const (.int .u8 z)) = .int .u8 z := fun _ => rfl
  unfold Oper.wp execOp
  simp only [List.map_toArray, List.map_cons, List.map_nil, hc, run_bsl4 (P := Tryd.prog) w (.int .u8 0) (.int .u8 0) (.int .u8 0) (.int .u8 0) (.int .u8 7) un_bs info_u8 rfl rfl rfl rfl rfl, Sem.run_bind, Sem.run_pure, Result.andThen_ok]
  exact hh
end
end Go.Proofs.YtonbfbcbmdnelaaDoor
