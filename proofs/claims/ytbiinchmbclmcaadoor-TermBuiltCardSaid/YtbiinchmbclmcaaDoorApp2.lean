/- Appending a string; reading a cell of old memory. -/
import Derived.Test.YtbiinchmbclmcaaDoorApp
import Derived.Lib.AppendStr
namespace Go.Proofs.YtbiinchmbclmcaaDoor
open Go Go.RowKit
section
variable {P : Program} {ops : Array Oper} {rest : List Oper} {a : Act} {w w0 : World} {Q : Exit → Act → World → Prop} {dst : Option Tmp} {typ : TypeId} {pos : String} {aft : Array Edge} {gd : Option (Nat × Bool)} {S : List Nat} {rows : List (Nat × List Value × TypeId)}
theorem wpl_appS {s x : Operand} {t u e : TypeId} (hw : Region.wanted { dst := dst, op := .call { callee := .builtin .append, args := #[s, x], argTypes := #[t, u] }, type := typ, pos := pos, after := aft, guard := gd } (yielded ops a.tmps) = true)
    (ht : P.underlying t = some (.slice e)) (hu : P.underlying u = some .string) (hi : (P.info? e).map (fun i => (i.zero, i.size, i.bytes)) = some (some (.int .u8 0), 1, 1)) {v : Value} {zs : List Int} (ys : List Int) (str : ByteArray) (hm : Mem w0 S w rows) (hown : OwnB e w w0.heap.size v zs) (hty : ∀ r ∈ rows, r.2.2 ≠ e)
    (hs : a.eval s = v) (hx : a.eval x = .string str) (hstr : Lib.strCells str = u8s ys) (hlen : zs.length + ys.length ≤ 1099511627776)
    (h : ∀ v' w', OwnB e w' w0.heap.size v' (zs ++ ys) → Mem w0 S w' rows → wpList P ops Q rest (a.put dst v') w') :
    wpList P ops Q ({ dst := dst, op := .call { callee := .builtin .append, args := #[s, x], argTypes := #[t, u] }, type := typ, pos := pos, after := aft, guard := gd } :: rest) a w := by
  have hsz : str.size = ys.length := by rw [← Lib.strCells_length, hstr, u8s_length]
  obtain ⟨v', w', hr, ho, hg⟩ : ∃ v' w', (Builtin.append_ #[t, u] typ #[v, .string str]).run P w = .ok v' w' ∧ OwnB e w' w0.heap.size v' (zs ++ ys) ∧ w.grownBy w' v.ownBlock := by
    cases hq : P.info? e with
    | none => simp [hq] at hi
    | some i =>
      simp only [hq, Option.map_some, Option.some.injEq, Prod.mk.injEq] at hi
      obtain ⟨hz, h1, h2⟩ := hi
      obtain ⟨v', w', hr, ho, hg, _⟩ := Lib.run_append_own_string (P := P) w w0.heap.size t u typ e i ht hu hq hz h1 h2 v zs.length (u8s zs) hown str (by unfold maxLen; omega) (by omega) hm.size
      refine ⟨v', w', hr, ?_, hg⟩
      unfold OwnB
      rw [List.length_append, show u8s (zs ++ ys) = u8s zs ++ u8s ys by simp [u8s], ← hstr, ← hsz]
      exact ho
  refine wpList_step fun K hK => ?_
  rw [if_pos hw]
  have hh := hK _ _ (h v' w' ho (hm.grown hown hty hg))
  unfold Oper.wp execOp
  simp only [resolve, invoke, builtin, Sem.run_bind, Sem.run_pure, Result.andThen_ok, List.map_toArray, List.map_cons, List.map_nil, hs, hx, hr]
  exact hh
theorem wpl_ldx {ty : TypeId} {x : Operand} {b j : Nat} (v : Value) (hc : w.cell? ⟨b, j, none⟩ = some v) (hx : a.eval x = .pointer (some ⟨b, j, none⟩)) (ha : ∀ w, (isAgg ty).run P w = .ok false w)
    (h : wpList P ops Q rest (a.put dst v) w) : wpList P ops Q ({ dst := dst, op := .load ty x, type := typ, pos := pos, after := aft, guard := none } :: rest) a w := by
  refine wpList_plain rfl fun K hK => ?_
  have hh := hK _ _ h
  have hld : (loadVar ty ⟨b, j, none⟩).run P w = .ok v w := by simp [loadVar, ha, go_sem, hc]
  unfold Oper.wp execOp
  simp only [hx, Instr.loadAt, Instr.sureAddr, Sem.run_bind, Sem.run_pure, Result.andThen_ok, hld]
  exact hh
end
end Go.Proofs.YtbiinchmbclmcaaDoor
