/- Two slices that grow side by side. -/
import Derived.Test.YtonbfbcbmdnelaaDoorMacStr
import Derived.Test.YtonbfbcbmdnelaaDoorApp3
import Derived.Test.YtonbfbcbmdnelaaDoorSumRef
namespace Go.Proofs.YtonbfbcbmdnelaaDoor
open Go Go.RowKit

structure Two (w0 w : World) (v1 : Value) (z1 : List Int) (v2 : Value) (z2 : List Int) : Prop where
  own1 : OwnB 5 w w0.heap.size v1 z1
  own2 : OwnB 5 w w0.heap.size v2 z2
  ne : ∀ g, v1.ownBlock = some g → v2.ownBlock ≠ some g
section
variable {w0 w w' : World} {v1 v2 v' : Value} {z1 z2 ys : List Int}
theorem Two.start (w0 w : World) : Two w0 w (.slice none 0 0) [] (.slice none 0 0) [] := ⟨OwnB.nil _ _ _, OwnB.nil _ _ _, fun g h => by cases h⟩
theorem Two.swap (t : Two w0 w v1 z1 v2 z2) : Two w0 w v2 z2 v1 z1 := ⟨t.own2, t.own1, fun g h2 h1 => t.ne g h1 h2⟩
theorem Two.below (t : Two w0 w v1 z1 v2 z2) (hb : Below w.heap.size w w') : Two w0 w' v1 z1 v2 z2 := ⟨t.own1.below hb, t.own2.below hb, t.ne⟩
theorem Two.grown (t : Two w0 w v1 z1 v2 z2) (ho : OwnB 5 w' w0.heap.size v' (z1 ++ ys)) (hg : w.grownBy w' v1.ownBlock) (hv : v'.ownBlock = v1.ownBlock ∨ v'.ownBlock = some w.heap.size) : Two w0 w' v' (z1 ++ ys) v2 z2 := by
  refine ⟨ho, ?_, fun g hq => ?_⟩
  · cases h1 : v1.ownBlock with
    | none =>
      rw [h1] at hg
      exact World.ownsRow.kept t.own2 hg (by cases h' : v2.ownBlock <;> simp)
    | some g =>
      rw [h1] at hg
      exact World.ownsRow.kept t.own2 hg (Or.inr (t.ne g h1))
  · rcases hv with hv | hv
    · exact t.ne g (hv.symm.trans hq)
    · intro h2
      rw [hv] at hq
      cases hq
      have := (World.ownsRow.lt t.own2 _ h2).2
      omega
end
theorem Two.upd {w0 w w' : World} {v1 v2 : Value} {z1 z2 : List Int} (t : Two w0 w v1 z1 v2 z2) {g : Nat} {l : List Value} {tt : TypeId} (hr : Row w g l tt) (ht : tt ≠ 5) (hu : Upd g w w') : Two w0 w' v1 z1 v2 z2 :=
  ⟨t.own1.upd hr ht hu, t.own2.upd hr ht hu, t.ne⟩
theorem Two.fresh {w0 w : World} {v1 : Value} {z1 : List Int} (h : OwnB 5 w w0.heap.size v1 z1) : Two w0 w v1 z1 (.slice none 0 0) [] := ⟨h, OwnB.nil _ _ _, fun g _ h2 => by cases h2⟩
section
variable {ops : Array Oper} {rest : List Oper} {a : Act} {w w0 : World} {Q : Exit → Act → World → Prop} {dst : Option Tmp} {typ : TypeId} {pos : String} {aft : Array Edge} {v1 v2 : Value} {z1 z2 : List Int} {S : List Nat} {rows : List (Nat × List Value × TypeId)}
theorem wpl_appT {s x : Operand} {ps : Option Addr} {n c : Nat} (ys : List Int) (t : Two w0 w v1 z1 v2 z2) (hm : Mem w0 S w rows) (hty : ∀ r ∈ rows, r.2.2 ≠ 5) (hs : a.eval s = v1) (hx : a.eval x = .slice ps n c) (hold : SlOld w (.slice ps n c) ys) (hlen : z1.length + ys.length ≤ 1099511627776)
    (h : ∀ v' w', Two w0 w' v' (z1 ++ ys) v2 z2 → Mem w0 S w' rows → wpList Tryd.prog ops Q rest (a.put dst v') w') :
    wpList Tryd.prog ops Q ({ dst := dst, op := .call { callee := .builtin .append, args := #[s, x], argTypes := #[22, 22] }, type := typ, pos := pos, after := aft, guard := none } :: rest) a w := by
  obtain ⟨hn, _, hsrc⟩ := hold.src0
  subst hn
  by_cases h0 : 0 < ys.length
  · obtain ⟨b, off, rfl, hseg⟩ := hsrc h0
    exact wpl_appG rfl un_bs made_u8 ys t.own1 hm.size hs hx rfl hseg hlen (fun v' w' ho hg hv => h v' w' (t.grown ho hg hv) (hm.grown t.own1 hty hg))
  · obtain rfl : ys = [] := List.eq_nil_of_length_eq_zero (by omega)
    have hld : ∀ a : Addr, (loadCells a 0).run Tryd.prog w = .ok #[] w := fun a => rfl
    have hi := made_u8
    have hr : (Builtin.append_ #[22, 22] typ #[v1, .slice ps ([] : List Int).length c]).run Tryd.prog w = .ok v1 w := by
      cases hq : Tryd.prog.info? 5 with
      | none => simp [hq] at hi
      | some i =>
        obtain ⟨_, h3⟩ := t.own1
        rcases h3 with ⟨rfl, _⟩ | ⟨g, cap, cur, rfl, _, _, hn, _⟩
        · cases ps <;> simp [Builtin.append_, run_underlying un_bs, sizeOf, typeInfo, hq, Builtin.lenOf, Builtin.firstCells, hld]
        · cases ps <;> simp [Builtin.append_, run_underlying un_bs, sizeOf, typeInfo, hq, Builtin.lenOf, Builtin.firstCells, hld, hn, storeCells]
    refine wpList_plain rfl fun K hK => ?_
    have hh := hK _ _ (h v1 w (by rw [List.append_nil]; exact t) hm)
    unfold Oper.wp execOp
    simp only [resolve, invoke, builtin, Sem.run_bind, Sem.run_pure, Result.andThen_ok, List.map_toArray, List.map_cons, List.map_nil, hs, hx, hr]
    exact hh
theorem wpl_allocT {P : Program} {ty : TypeId} (z : List Value) (hz : ∀ w, (zeroValue ty).run P w = .ok (.agg z.toArray) w) (hm : Mem w0 S w rows)
    (h : ∀ w' g, Below w.heap.size w w' → Mem w0 S w' ((g, z, ty) :: rows) → wpList P ops Q rest (a.put dst (.pointer (some ⟨g, 0, none⟩))) w') :
    wpList P ops Q ({ dst := dst, op := .alloc ty, type := typ, pos := pos, after := aft, guard := none } :: rest) a w := by
  refine wpList_plain rfl fun K hK => ?_
  have hh := hK _ _ (h _ _ ((Below.refl _ _).alloc (Nat.le_refl _) _) (hm.alloc z ty))
  unfold Oper.wp execOp
  simp [Instr.alloc, newVar, newRow, newObj, hz, Value.cells]
  exact hh
end
end Go.Proofs.YtonbfbcbmdnelaaDoor
