/- Appending to a slice that an older call made: what is left behind. -/
import Derived.Test.YtnahflppggoplaaApp
import Derived.Maps.Range
namespace Go.Proofs.Ytnahflppggoplaa
open Go Go.RowKit
/-- The block that a slice stands in is v's own, or a later one. -/
def Later (w : World) (v v' : Value) : Prop := v'.ownBlock = v.ownBlock ∨ ∀ j, v'.ownBlock = some j → w.heap.size ≤ j
theorem Later.refl (w : World) (v : Value) : Later w v v := Or.inl rfl
theorem Later.step {w w1 : World} {v v1 v2 : Value} (h : Later w v v1) (hs : w.heap.size ≤ w1.heap.size) (h2 : v2.ownBlock = v1.ownBlock ∨ v2.ownBlock = some w1.heap.size) : Later w v v2 := by
  rcases h2 with h2 | h2
  · rcases h with h | h
    · exact Or.inl (h2.trans h)
    · exact Or.inr (fun j hj => h j (h2.symm.trans hj))
  · refine Or.inr (fun j hj => ?_)
    rw [h2] at hj
    cases hj
    exact hs
theorem grown_then {w w1 w2 : World} {v v1 : Value} (hg : w.grownBy w1 v.ownBlock) (hl : Later w v v1) (hg2 : w1.grownBy w2 v1.ownBlock) : w.grownBy w2 v.ownBlock := by
  refine hg.andThen hg2 (fun j hj => ?_)
  rcases hl with hl | hl
  · exact Or.inr (hl.symm.trans hj)
  · exact Or.inl (hl j hj)
section
variable {P : Program} {ops : Array Oper} {rest : List Oper} {a : Act} {w : World} {Q : Exit → Act → World → Prop} {dst : Option Tmp} {typ : TypeId} {pos : String} {aft : Array Edge} {gd : Option (Nat × Bool)}
theorem wpl_appG {s x : Operand} {t e : TypeId} (hw : Region.wanted { dst := dst, op := .call { callee := .builtin .append, args := #[s, x], argTypes := #[t, t] }, type := typ, pos := pos, after := aft, guard := gd } (yielded ops a.tmps) = true)
    (ht : P.underlying t = some (.slice e)) (hi : (P.info? e).map (fun i => (i.zero, i.size, i.bytes)) = some (some (.int .u8 0), 1, 1)) {v : Value} {zs : List Int} (ys : List Int) {b off n c base : Nat} (hown : OwnB e w base v zs) (hbase : base ≤ w.heap.size)
    (hs : a.eval s = v) (hx : a.eval x = .slice (some ⟨b, off, none⟩) n c) (hn : n = ys.length) (hsrc : Seg w b off ys) (hlen : zs.length + ys.length ≤ 1099511627776)
    (h : ∀ v' w', OwnB e w' base v' (zs ++ ys) → w.grownBy w' v.ownBlock → (v'.ownBlock = v.ownBlock ∨ v'.ownBlock = some w.heap.size) → wpList P ops Q rest (a.put dst v') w') :
    wpList P ops Q ({ dst := dst, op := .call { callee := .builtin .append, args := #[s, x], argTypes := #[t, t] }, type := typ, pos := pos, after := aft, guard := gd } :: rest) a w := by
  subst hn
  cases hq : P.info? e with
  | none => simp [hq] at hi
  | some i =>
    simp only [hq, Option.map_some, Option.some.injEq, Prod.mk.injEq] at hi
    obtain ⟨hz, h1, h2⟩ := hi
    obtain ⟨v', w', hr, ho, hg, _, hv⟩ := run_append_own_at (P := P) w base t typ e i (.int .u8 0) 1 1 ht hq hz h1 h2 rfl (by omega) v zs.length (u8s zs) hown ⟨b, off, none⟩ ys.length c (u8s ys) (by rw [u8s_length]; omega) hsrc.src (u8s_one _) (by unfold maxLen; omega) (by omega) hbase
    refine wpList_step fun K hK => ?_
    rw [if_pos hw]
    have hh := hK _ _ (h v' w' (by unfold OwnB; rw [List.length_append, show u8s (zs ++ ys) = u8s zs ++ u8s ys by simp [u8s]]; exact ho) hg hv)
    unfold Oper.wp execOp
    simp only [resolve, invoke, builtin, Sem.run_bind, Sem.run_pure, Result.andThen_ok, List.map_toArray, List.map_cons, List.map_nil, hs, hx, hr]
    exact hh
end
end Go.Proofs.Ytnahflppggoplaa
