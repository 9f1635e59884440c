/- Appending to a slice of bytes that the call itself made. -/
import Derived.Test.YtbiinchmbclmcaaDoorAny3
import Derived.Maps.AppendAt
namespace Go.Proofs.YtbiinchmbclmcaaDoor
open Go Go.RowKit

theorem grown_of_below {w w' : World} (h : Below w.heap.size w w') : w.grownBy w' none := ⟨h.os, h.tape, h.output, h.size, fun k hk _ => h.block k hk⟩
theorem grown_of_upd {w w' : World} {g : Nat} (h : Upd g w w') : w.grownBy w' (some g) := ⟨h.os, h.tape, h.output, h.size, fun k hk hn => h.block k hk (fun e => hn (by rw [e]))⟩
/-- v is a slice of the call's own that holds these bytes (e: the element's type). -/
def OwnB (e : TypeId) (w : World) (base : Nat) (v : Value) (zs : List Int) : Prop := w.ownsRow base e 1 v zs.length (u8s zs)
section
variable {e : TypeId} {w w' w0 : World} {base : Nat} {v : Value} {zs : List Int} {S : List Nat} {rows : List (Nat × List Value × TypeId)}
theorem OwnB.nil (e : TypeId) (w : World) (base : Nat) : OwnB e w base (.slice none 0 0) [] := World.ownsRow_nil w base e 1
theorem OwnB.below (h : OwnB e w base v zs) (hb : Below w.heap.size w w') : OwnB e w' base v zs := World.ownsRow.kept h (grown_of_below hb) (by cases h' : v.ownBlock <;> simp)
theorem OwnB.alloc (h : OwnB e w base v zs) (o : Obj) : OwnB e (w.alloc o) base v zs := World.ownsRow.alloc h o
theorem OwnB.apart (h : OwnB e w base v zs) {g : Nat} {l : List Value} {t : TypeId} (hr : Row w g l t) (ht : t ≠ e) : v.ownBlock ≠ some g := by
  obtain ⟨_, h2⟩ := h
  rcases h2 with ⟨rfl, _⟩ | ⟨g', cap, cur, rfl, _, hh, _⟩
  · simp [Value.ownBlock]
  · intro he
    have hg : g' = g := by simpa [Value.ownBlock] using he
    subst hg
    rw [hr] at hh
    simp only [Option.some.injEq, Obj.cells.injEq] at hh
    exact ht hh.2.1
theorem OwnB.upd (h : OwnB e w base v zs) {g : Nat} {l : List Value} {t : TypeId} (hr : Row w g l t) (ht : t ≠ e) (hu : Upd g w w') : OwnB e w' base v zs :=
  World.ownsRow.kept h (grown_of_upd hu) (Or.inr (h.apart hr ht))
theorem OwnB.old (h : OwnB e w base v zs) : ∃ p cap, v = .slice p zs.length cap ∧ zs.length ≤ cap ∧ (0 < zs.length → ∃ b off, p = some ⟨b, off, none⟩ ∧ Seg w b off zs) := by
  have h0 := h
  obtain ⟨_, h2⟩ := h
  rcases h2 with ⟨rfl, hn⟩ | ⟨g, cap, cur, rfl, hb, hh, hn, _, _, _⟩
  · exact ⟨none, 0, by rw [hn], by omega, fun h => absurd h (by omega)⟩
  · refine ⟨_, cap, rfl, hn, fun _ => ⟨g, 0, rfl, fun j hj => ?_⟩⟩
    have := World.ownsRow.cells h0 rfl j (.int .u8 (zs.getD j 0)) (u8s_get zs j hj)
    rw [add_at] at this
    exact this
theorem Mem.grown (hm : Mem w0 S w rows) (h : OwnB e w w0.heap.size v zs) (hty : ∀ r ∈ rows, r.2.2 ≠ e) (hg : w.grownBy w' v.ownBlock) : Mem w0 S w' rows := by
  have hl := World.ownsRow.lt h
  refine ⟨hg.os.trans hm.os, hg.tape.trans hm.tape, hg.output.trans hm.output, Nat.le_trans hm.size hg.size, fun k hk hn => ?_, fun r hr => ?_, hm.nodup, hm.fresh⟩
  · refine (hg.block k (Nat.lt_of_lt_of_le hk hm.size) (fun he => ?_)).trans (hm.block k hk hn)
    have := (hl k he.symm).1
    omega
  · have hrow := hm.row r hr
    unfold Row
    rw [hg.block r.1 hrow.lt (fun he => h.apart hrow (hty r hr) he.symm)]
    exact hrow
theorem run_app {P : Program} (t ty : TypeId) (ht : P.underlying t = some (.slice e)) (hi : (P.info? e).map (fun i => (i.zero, i.size, i.bytes)) = some (some (.int .u8 0), 1, 1)) (h : OwnB e w base v zs) (ps : Option Addr) (c : Nat) (ys : List Int)
    (hs : 0 < ys.length → ∃ b off, ps = some ⟨b, off, none⟩ ∧ Seg w b off ys) (hlen : zs.length + ys.length ≤ 1099511627776) (hbase : base ≤ w.heap.size) :
    ∃ v' w', (Builtin.append_ #[t, t] ty #[v, .slice ps ys.length c]).run P w = .ok v' w' ∧ OwnB e w' base v' (zs ++ ys) ∧ w.grownBy w' v.ownBlock := by
  cases hq : P.info? e with
  | none => simp [hq] at hi
  | some i =>
    simp only [hq, Option.map_some, Option.some.injEq, Prod.mk.injEq] at hi
    obtain ⟨hz, h1, h2⟩ := hi
    by_cases h0 : 0 < ys.length
    · obtain ⟨b, off, rfl, hseg⟩ := hs h0
      obtain ⟨v', w', hr, hown, hgr, _, _⟩ := run_append_own_at (P := P) w base t ty e i (.int .u8 0) 1 1 ht hq hz h1 h2 rfl (by omega) v zs.length (u8s zs) h ⟨b, off, none⟩ ys.length c (u8s ys) (by rw [u8s_length]; omega) hseg.src (u8s_one _) (by unfold maxLen; omega) (by omega) hbase
      refine ⟨v', w', hr, ?_, hgr⟩
      unfold OwnB
      rw [List.length_append, show u8s (zs ++ ys) = u8s zs ++ u8s ys by simp [u8s]]
      exact hown
    · have hy : ys = [] := List.eq_nil_of_length_eq_zero (by omega)
      subst hy
      refine ⟨v, w, ?_, by rw [List.append_nil]; exact h, ⟨rfl, rfl, rfl, Nat.le_refl _, fun _ _ _ => rfl⟩⟩
      obtain ⟨_, h3⟩ := h
      have hld : ∀ a : Addr, (loadCells a 0).run P w = .ok #[] w := fun a => rfl
      rcases h3 with ⟨rfl, _⟩ | ⟨g, cap, cur, rfl, _, _, hn, _⟩
      · cases ps <;> simp [Builtin.append_, run_underlying ht, sizeOf, typeInfo, hq, Builtin.lenOf, Builtin.firstCells, hld]
      · cases ps <;> simp [Builtin.append_, run_underlying ht, sizeOf, typeInfo, hq, Builtin.lenOf, Builtin.firstCells, hld, hn, storeCells]
end
section
variable {P : Program} {ops : Array Oper} {rest : List Oper} {a : Act} {w w0 : World} {Q : Exit → Act → World → Prop} {dst : Option Tmp} {typ : TypeId} {pos : String} {aft : Array Edge} {gd : Option (Nat × Bool)} {S : List Nat} {rows : List (Nat × List Value × TypeId)}
theorem wpl_app {s x : Operand} {t e : TypeId} (hw : Region.wanted { dst := dst, op := .call { callee := .builtin .append, args := #[s, x], argTypes := #[t, t] }, type := typ, pos := pos, after := aft, guard := gd } (yielded ops a.tmps) = true)
    (ht : P.underlying t = some (.slice e)) (hi : (P.info? e).map (fun i => (i.zero, i.size, i.bytes)) = some (some (.int .u8 0), 1, 1)) {v : Value} {zs : List Int} (ys : List Int) {ps : Option Addr} {n c : Nat} (hm : Mem w0 S w rows) (hown : OwnB e w w0.heap.size v zs) (hty : ∀ r ∈ rows, r.2.2 ≠ e)
    (hs : a.eval s = v) (hx : a.eval x = .slice ps n c) (hn : n = ys.length) (hsrc : 0 < ys.length → ∃ b off, ps = some ⟨b, off, none⟩ ∧ Seg w b off ys) (hlen : zs.length + ys.length ≤ 1099511627776)
    (h : ∀ v' w', OwnB e w' w0.heap.size v' (zs ++ ys) → Mem w0 S w' rows → wpList P ops Q rest (a.put dst v') w') :
    wpList P ops Q ({ dst := dst, op := .call { callee := .builtin .append, args := #[s, x], argTypes := #[t, t] }, type := typ, pos := pos, after := aft, guard := gd } :: rest) a w := by
  subst hn
  obtain ⟨v', w', hr, ho, hg⟩ := run_app (P := P) t typ ht hi hown ps c ys hsrc hlen hm.size
  refine wpList_step fun K hK => ?_
  rw [if_pos hw]
  have hh := hK _ _ (h v' w' ho (hm.grown hown hty hg))
  unfold Oper.wp execOp
  simp only [resolve, invoke, builtin, Sem.run_bind, Sem.run_pure, Result.andThen_ok, List.map_toArray, List.map_cons, List.map_nil, hs, hx, hr]
  exact hh
end
end Go.Proofs.YtbiinchmbclmcaaDoor
