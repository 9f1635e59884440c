/- A region that draws its order, walked order by order, with what is read from old memory taken first. -/
import Derived.Test.YtbiinchmbclmcaaDoorMore
import Derived.OrdersHeld
namespace Go.Proofs.YtbiinchmbclmcaaDoor
open Go Go.RowKit

/-- The end is a normal one, and there R holds. -/
def endsIn (R : Act → World → Prop) : Exit → Act → World → Prop
  | .normal, a, w => R a w
  | _, _, _ => False
theorem wp_ends {P : Program} {c : Code} {Q : Exit → Act → World → Prop} {a : Act} {w : World} (R : Act → World → Prop) (h : c.wp P (endsIn R) a w) (hq : ∀ a w, R a w → Q .normal a w) : c.wp P Q a w :=
  Code.wp_mono (fun e a w q => by
    cases e with
    | normal => exact hq a w q
    | _ => exact q.elim) h
theorem wp_ends0 {P : Program} {c : Code} {Q : Exit → Act → World → Prop} {a : Act} {w : World} (h : c.wp P (endsIn (fun a w => Q .normal a w)) a w) : c.wp P Q a w := wp_ends _ h (fun _ _ h => h)
theorem wrapu_nat (n : Nat) (h : n < 4611686018427387904) : IntKind.u64.wrap (n : Int) = (n : Int) := by
  simp [IntKind.wrap, IntKind.bits, IntKind.signed]
  omega

section
variable {P : Program} {md : Region.Mode} {ops : Array Oper} {R : Act → World → Prop} {T : World → Prop} {fuel : Nat} {listed : Array Bool} {a : Act} {w w0 : World} {S : List Nat} {rows : List (Nat × List Value × TypeId)}
theorem anyH_start {id : Nat} {l : List Oper} (hmix : P.follows .mixedOrders = true) (hm : Mem w0 S w rows)
    (h : ∀ w', Mem w0 S w' rows → wpAnyH P .any l.toArray (endsIn R) T l.toArray.size (Array.replicate l.toArray.size false) a w') : (Code.region id l.toArray true).wp P (endsIn R) a w :=
  wp_region_held hmix (h _ hm.drew)
theorem anyH_take (i : Nat) {o : Oper} {v : Value} (hi : ops[i]? = some o) (hs : Region.noSelect ops = true) (hf : Region.free md ops listed i = true) (hr : (Region.ready md ops listed).contains i = true) (hg : o.guard = none)
    (hy : ∀ w, T w → (execOp a.eval o).run P w = .ok (.value v) w) (hT : T w) (h : wpAnyH P md ops (endsIn R) T fuel (listed.setIfInBounds i true) (a.put o.dst v) w) : wpAnyH P md ops (endsIn R) T (fuel + 1) listed a w :=
  wpAnyH_take hi hs hf hr (fun _ _ _ h => h) (Or.inl ⟨by simp [Region.wanted, hg], hy⟩) hT h
theorem aT (i : Nat) {o : Oper} {v : Value} (hi : ops[i]? = some o) (hb : (Region.noSelect ops && Region.free md ops listed i && (Region.ready md ops listed).contains i) = true) (hg : o.guard = none)
    (hy : ∀ w, T w → (execOp a.eval o).run P w = .ok (.value v) w) (hT : T w) (h : wpAnyH P md ops (endsIn R) T fuel (listed.setIfInBounds i true) (a.put o.dst v) w) : wpAnyH P md ops (endsIn R) T (fuel + 1) listed a w := by
  simp only [Bool.and_eq_true] at hb
  exact anyH_take i hi hb.1.1 hb.1.2 hb.2 hg hy hT h
theorem exec_lds {ty : TypeId} {x : Operand} {dst : Option Tmp} {typ : TypeId} {pos : String} {aft : Array Edge} {g : Nat} {l : List Value} {t : TypeId} (off : Nat) (sub : List Value) (hr : Row w g l t) (hx : a.eval x = .pointer (some ⟨g, off, none⟩))
    (d : TypeDesc) (hu : P.underlying ty = some d) (hd : (match d with | .struct _ | .array _ _ => true | _ => false) = true) (n : Nat) (hs : (P.info? ty).map (·.size) = some n) (hn : off + n ≤ l.length) (hsub : (l.drop off).take n = sub) :
    (execOp a.eval { dst := dst, op := .load ty x, type := typ, pos := pos, after := aft, guard := none }).run P w = .ok (.value (.agg sub.toArray)) w := by
  unfold execOp
  simp only [hx, Instr.loadAt, Instr.sureAddr, Sem.run_bind, Sem.run_pure, Result.andThen_ok, run_loadVar_seg w g off n ty t l d hr hu hd hs hn, hsub]
theorem anyH_takeG (i : Nat) {o : Oper} {v : Value} (hi : ops[i]? = some o) (hs : Region.noSelect ops = true) (hf : Region.free md ops listed i = true) (hr : (Region.ready md ops listed).contains i = true) (hw : Region.wanted o (yielded ops a.tmps) = true)
    (hy : ∀ w, T w → (execOp a.eval o).run P w = .ok (.value v) w) (hT : T w) (h : wpAnyH P md ops (endsIn R) T fuel (listed.setIfInBounds i true) (a.put o.dst v) w) : wpAnyH P md ops (endsIn R) T (fuel + 1) listed a w :=
  wpAnyH_take hi hs hf hr (fun _ _ _ h => h) (Or.inl ⟨hw, hy⟩) hT h
theorem aG (i : Nat) {o : Oper} {v : Value} (hi : ops[i]? = some o) (hb : (Region.noSelect ops && Region.free md ops listed i && (Region.ready md ops listed).contains i) = true) (hw : Region.wanted o (yielded ops a.tmps) = true)
    (hy : ∀ w, T w → (execOp a.eval o).run P w = .ok (.value v) w) (hT : T w) (h : wpAnyH P md ops (endsIn R) T fuel (listed.setIfInBounds i true) (a.put o.dst v) w) : wpAnyH P md ops (endsIn R) T (fuel + 1) listed a w := by
  simp only [Bool.and_eq_true] at hb
  exact anyH_takeG i hi hb.1.1 hb.1.2 hb.2 hw hy hT h
theorem anyH_opG (i : Nat) {o : Oper} (hi : ops[i]? = some o) (hw : Region.wanted o (yielded ops a.tmps) = true)
    (h : ∀ K : Act → World → Prop, (∀ a' w', T w' → wpAnyH P md ops (endsIn R) T fuel (listed.setIfInBounds i true) a' w' → K a' w') → o.wp P a w K (endsIn R)) :
    wpOp P ops (endsIn R) i (fun a' w' => T w' ∧ wpAnyH P md ops (endsIn R) T fuel (listed.setIfInBounds i true) a' w') a w := by
  have hh := h (fun a' w' => T w' ∧ wpAnyH P md ops (endsIn R) T fuel (listed.setIfInBounds i true) a' w') (fun _ _ h1 h2 => ⟨h1, h2⟩)
  unfold wpOp
  simp only [hi]
  rw [if_pos hw]
  exact Or.inl hh
theorem anyH_op (i : Nat) {o : Oper} (hi : ops[i]? = some o) (hg : o.guard = none)
    (h : ∀ K : Act → World → Prop, (∀ a' w', T w' → wpAnyH P md ops (endsIn R) T fuel (listed.setIfInBounds i true) a' w' → K a' w') → wpList P ops (endsIn K) [o] a w) :
    wpOp P ops (endsIn R) i (fun a' w' => T w' ∧ wpAnyH P md ops (endsIn R) T fuel (listed.setIfInBounds i true) a' w') a w := by
  have hh := h (fun a' w' => T w' ∧ wpAnyH P md ops (endsIn R) T fuel (listed.setIfInBounds i true) a' w') (fun _ _ h1 h2 => ⟨h1, h2⟩)
  unfold wpOp
  simp only [hi]
  have hw : Region.wanted o (yielded ops a.tmps) = true := by simp [Region.wanted, hg]
  unfold wpList at hh
  rw [if_pos hw] at hh
  rw [if_pos hw]
  exact hh
theorem aP (i : Nat) {o : Oper} (hr : Region.ready md ops listed = [i]) (hi : ops[i]? = some o) (hg : o.guard = none)
    (h : ∀ K : Act → World → Prop, (∀ a' w', T w' → wpAnyH P md ops (endsIn R) T fuel (listed.setIfInBounds i true) a' w' → K a' w') → wpList P ops (endsIn K) [o] a w) : wpAnyH P md ops (endsIn R) T (fuel + 1) listed a w :=
  wpAnyH_all hr (by simp) (fun j hj => by
    simp only [List.mem_cons, List.not_mem_nil, or_false] at hj
    subst hj
    exact anyH_op j hi hg h)
end

section
variable {P : Program} {ops : Array Oper} {rest : List Oper} {a : Act} {w : World} {dst : Option Tmp} {typ : TypeId} {pos : String} {aft : Array Edge}
theorem run_ldr {ty : TypeId} {g : Nat} {l : List Value} {t : TypeId} (j : Nat) (v : Value) (hr : Row w g l t) (ha : ∀ w, (isAgg ty).run P w = .ok false w) (hv : l[j]? = some v) : (loadVar ty ⟨g, j, none⟩).run P w = .ok v w := by
  have hc : w.cell? ⟨g, j, none⟩ = some v := by rw [hr.cell, hv]
  simp [loadVar, ha, go_sem, hc]
theorem exec_ldr {ty : TypeId} {x : Operand} {g : Nat} {l : List Value} {t : TypeId} (j : Nat) (v : Value) (hr : Row w g l t) (hx : a.eval x = .pointer (some ⟨g, j, none⟩)) (ha : ∀ w, (isAgg ty).run P w = .ok false w) (hv : l[j]? = some v) :
    (execOp a.eval { dst := dst, op := .load ty x, type := typ, pos := pos, after := aft, guard := none }).run P w = .ok (.value v) w := by
  unfold execOp
  simp only [hx, Instr.loadAt, Instr.sureAddr, Sem.run_bind, Sem.run_pure, Result.andThen_ok, run_ldr j v hr ha hv]
theorem wpl_ldr {Q : Exit → Act → World → Prop} {ty : TypeId} {x : Operand} {g : Nat} {l : List Value} {t : TypeId} (j : Nat) (v : Value) (hr : Row w g l t) (hx : a.eval x = .pointer (some ⟨g, j, none⟩)) (ha : ∀ w, (isAgg ty).run P w = .ok false w) (hv : l[j]? = some v)
    (h : wpList P ops Q rest (a.put dst v) w) : wpList P ops Q ({ dst := dst, op := .load ty x, type := typ, pos := pos, after := aft, guard := none } :: rest) a w := by
  refine wpList_plain rfl fun K hK => ?_
  have hh := hK _ _ h
  unfold Oper.wp execOp
  simp only [hx, Instr.loadAt, Instr.sureAddr, Sem.run_bind, Sem.run_pure, Result.andThen_ok, run_ldr j v hr ha hv]
  exact hh
theorem wps_ldr {Q : Act → Prop} {ty : TypeId} {x : Operand} {g : Nat} {l : List Value} {t : TypeId} (j : Nat) (v : Value) (hr : Row w g l t) (hx : a.eval x = .pointer (some ⟨g, j, none⟩)) (ha : ∀ w, (isAgg ty).run P w = .ok false w) (hv : l[j]? = some v)
    (h : wpStill P ops w Q rest (a.put dst v)) : wpStill P ops w Q ({ dst := dst, op := .load ty x, type := typ, pos := pos, after := aft, guard := none } :: rest) a := by
  refine wps_run rfl _ ?_ h
  unfold execOp
  simp only [hx, Instr.loadAt, Instr.sureAddr, Sem.run_bind, Sem.run_pure, Result.andThen_ok, run_ldr j v hr ha hv]
end

theorem Mem.allocO {w0 w : World} {S : List Nat} {rows : List (Nat × List Value × TypeId)} (hm : Mem w0 S w rows) (o : Obj) : Mem w0 S (w.alloc o) rows :=
  hm.call ⟨rfl, rfl, rfl, by simp, fun _ hk => Below.heap_alloc _ _ _ hk⟩
theorem Seg.newO (w : World) (cs : List Int) (t : TypeId) (fr : Nat × Nat) : Seg (w.alloc (.cells (u8s cs).toArray t fr)) w.heap.size 0 cs := by
  intro j hj
  have h : (w.alloc (.cells (u8s cs).toArray t fr)).heap[w.heap.size]? = some (.cells (u8s cs).toArray t fr) := heap_alloc_new w _
  rw [cell_of_row _ _ _ _ _ _ h, Nat.zero_add]
  simpa using u8s_get cs j hj
theorem slNew (w : World) (cs : List Int) (t : TypeId) (fr : Nat × Nat) (g : Nat) (hg : g < w.heap.size) : Sl (w.alloc (.cells (u8s cs).toArray t fr)) g (.slice (some ⟨w.heap.size, 0, none⟩) cs.length cs.length) cs :=
  ⟨_, _, rfl, Nat.le_refl _, fun _ => ⟨w.heap.size, 0, rfl, by omega, Seg.newO w cs t fr⟩⟩

section
variable {P : Program} {a : Act} {w : World} {dst : Option Tmp} {typ : TypeId} {pos : String} {aft : Array Edge} {gd : Option (Nat × Bool)}
theorem exec_ldsG {ty : TypeId} {x : Operand} {g : Nat} {l : List Value} {t : TypeId} (off : Nat) (sub : List Value) (hr : Row w g l t) (hx : a.eval x = .pointer (some ⟨g, off, none⟩))
    (d : TypeDesc) (hu : P.underlying ty = some d) (hd : (match d with | .struct _ | .array _ _ => true | _ => false) = true) (n : Nat) (hs : (P.info? ty).map (·.size) = some n) (hn : off + n ≤ l.length) (hsub : (l.drop off).take n = sub) :
    (execOp a.eval { dst := dst, op := .load ty x, type := typ, pos := pos, after := aft, guard := gd }).run P w = .ok (.value (.agg sub.toArray)) w := by
  unfold execOp
  simp only [hx, Instr.loadAt, Instr.sureAddr, Sem.run_bind, Sem.run_pure, Result.andThen_ok, run_loadVar_seg w g off n ty t l d hr hu hd hs hn, hsub]
theorem exec_ldrG {ty : TypeId} {x : Operand} {g : Nat} {l : List Value} {t : TypeId} (j : Nat) (v : Value) (hr : Row w g l t) (hx : a.eval x = .pointer (some ⟨g, j, none⟩)) (ha : ∀ w, (isAgg ty).run P w = .ok false w) (hv : l[j]? = some v) :
    (execOp a.eval { dst := dst, op := .load ty x, type := typ, pos := pos, after := aft, guard := gd }).run P w = .ok (.value v) w := by
  unfold execOp
  simp only [hx, Instr.loadAt, Instr.sureAddr, Sem.run_bind, Sem.run_pure, Result.andThen_ok, run_ldr j v hr ha hv]
theorem exec_eqa {t : TypeId} {x y : Operand} {rt : TypeId} (e : TypeId) (n : Nat) (k : IntKind) (xs ys : List Int) (hx : a.eval x = .agg (xs.map (Value.int k)).toArray) (hy : a.eval y = .agg (ys.map (Value.int k)).toArray) (ht : P.underlying t = some (.array n e)) (he : P.underlying e = some (.int k)) (hs : (P.info? e).map (·.size) = some 1) (hm : P.eqGuardType P.depth t = false) (h1 : xs.length = n) (h2 : ys.length = n) :
    (execOp a.eval { dst := dst, op := .binOp .eql t x y rt, type := typ, pos := pos, after := aft, guard := gd }).run P w = .ok (.value (.bool (decide (xs = ys)))) w := by
  unfold execOp
  simp only [hx, hy, Sem.run_bind, run_eqGuard_agg w .eql t x y _ _ hm, Sem.run_pure, Result.andThen_ok, run_eqla w t e n k ht he hs xs ys h1 h2]
theorem exec_eqs {t : TypeId} {x y : Operand} {rt : TypeId} (s s' : ByteArray) (hx : a.eval x = .string s) (hy : a.eval y = .string s') :
    (execOp a.eval { dst := dst, op := .binOp .eql t x y rt, type := typ, pos := pos, after := aft, guard := gd }).run P w = .ok (.value (.bool (s == s'))) w := by
  unfold execOp
  simp only [hx, hy]
  simp [eqGuard, binOp, Op.stringOp]
  exact (beq_toListBytes s s').symm
theorem exec_eqsB {t : TypeId} {x y : Operand} {rt : TypeId} (s s' : ByteArray) (v : Bool) (hx : a.eval x = .string s) (hy : a.eval y = .string s') (hv : (s == s') = v) :
    (execOp a.eval { dst := dst, op := .binOp .eql t x y rt, type := typ, pos := pos, after := aft, guard := gd }).run P w = .ok (.value (.bool v)) w := by
  subst hv
  exact exec_eqs s s' hx hy
end
end Go.Proofs.YtbiinchmbclmcaaDoor
