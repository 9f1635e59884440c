/- Laws on memory that package seal asks for. -/
import Derived.Test.YtbfccepddfinoaaDoorSealFns
namespace Go.Proofs.YtbfccepddfinoaaDoor
open Go Go.RowKit
set_option maxRecDepth 100000 in
theorem run_bsl4s {P : Program} (w : World) {t elem : TypeId} (z v0 v1 v2 v3 : Value) (hu : P.underlying t = some (.slice elem)) (hi : (P.info? elem).map (fun i => (i.zero, i.size)) = some (some z, 1)) (hz : z.cells = #[z]) (h0 : v0.cells = #[v0]) (h1 : v1.cells = #[v1]) (h2 : v2.cells = #[v2]) (h3 : v3.cells = #[v3]) :
    (Instr.buildSlice t 4 #[(0, v0), (1, v1), (2, v2), (3, v3)]).run P w = .ok (.slice (some ⟨w.heap.size, 0, none⟩) 4 4) (w.alloc (.cells [v0, v1, v2, v3].toArray elem)) := by
  obtain ⟨hz1, hs1⟩ := zero_of_info hi
  cases hq : P.info? elem with
  | none => simp [hq] at hi
  | some q =>
    have hs : q.size = 1 := by simpa [hq] using hs1
    have e : Array.map (fun x => ([z][x % 1]?).getD default) (Array.range 4) = #[z, z, z, z] := by
      apply Array.ext
      · simp
      · intro i h1 h2
        have h3 : i = 0 ∨ i = 1 ∨ i = 2 ∨ i = 3 := by
          have : i < 4 := by simpa using h2
          omega
        rcases h3 with rfl | rfl | rfl | rfl <;> simp
    simp [Instr.buildSlice, run_underlying hu, sizeOf, typeInfo, hq, hs, hz1, hz, Instr.fill, h0, h1, h2, h3, newRow, newObj]
    rw [e]
    rfl
section
variable {P : Program} {ops : Array Oper} {rest : List Oper} {a : Act} {w w0 w' : World} {Q : Exit → Act → World → Prop} {dst : Option Tmp} {typ : TypeId} {pos : String} {aft : Array Edge} {gd : Option (Nat × Bool)} {S : List Nat} {rows : List (Nat × List Value × TypeId)}
set_option maxRecDepth 100000 in
theorem ret_ct {fn : Func} {R : Ending → World → Prop} {p u : Tmp} {ty : TypeId} (i : Nat) {g : Nat} {l : List Value} {t : TypeId} (v : Value) (hm : Mem w0 S w rows) (hi : rows[i]? = some (g, l, t))
    (hres : fn.results = #[.cell p ty, .tmp u]) (hp : a.tmps.getD p undef = .pointer (some ⟨g, 0, none⟩)) (hv : a.tmps.getD u undef = v) (d : TypeDesc) (hu : P.underlying ty = some d) (hd : (match d with | .struct _ | .array _ _ => true | _ => false) = true)
    (n : Nat) (hs : (P.info? ty).map (·.size) = some n) (hn : l.length = n) (hd0 : a.defers = []) (hR : R (.returned (.tuple #[.agg l.toArray, v])) w) : bodyPost P fn R .ret a w := by
  refine bodyPost_ret ?_ hd0 hR
  rw [results_cell_tmp hres, hp, hv]
  have hl := run_loadVar_row (P := P) w g t ty l.toArray (0, 0) d (hm.get i hi) hu hd (by rw [hs]; simp [hn])
  simp [asAddr, hl]
set_option maxRecDepth 100000 in
theorem ret_tc {fn : Func} {R : Ending → World → Prop} {p u : Tmp} {ty : TypeId} (i : Nat) {g : Nat} {l : List Value} {t : TypeId} (v : Value) (hm : Mem w0 S w rows) (hi : rows[i]? = some (g, l, t))
    (hres : fn.results = #[.tmp u, .cell p ty]) (hp : a.tmps.getD p undef = .pointer (some ⟨g, 0, none⟩)) (hv : a.tmps.getD u undef = v) (d : TypeDesc) (hu : P.underlying ty = some d) (hd : (match d with | .struct _ | .array _ _ => true | _ => false) = true)
    (n : Nat) (hs : (P.info? ty).map (·.size) = some n) (hn : l.length = n) (hd0 : a.defers = []) (hR : R (.returned (.tuple #[v, .agg l.toArray])) w) : bodyPost P fn R .ret a w := by
  refine bodyPost_ret ?_ hd0 hR
  have hl := run_loadVar_row (P := P) w g t ty l.toArray (0, 0) d (hm.get i hi) hu hd (by rw [hs]; simp [hn])
  have hp' : a.tmps[p]?.getD undef = .pointer (some ⟨g, 0, none⟩) := by simpa using hp
  have hv' : a.tmps[u]?.getD undef = v := by simpa using hv
  simp [results, hres, hp', hv', asAddr, hl]
set_option maxRecDepth 100000 in
theorem wpl_allocB {ty : TypeId} (z : List Value) (hz : ∀ w, (zeroValue ty).run P w = .ok (.agg z.toArray) w) (hm : Mem w0 S w rows)
    (h : ∀ w' g, Below w.heap.size w w' → Mem w0 S w' ((g, z, ty) :: rows) → wpList P ops Q rest (a.put dst (.pointer (some ⟨g, 0, none⟩))) w') :
    wpList P ops Q ({ dst := dst, op := .alloc ty, type := typ, pos := pos, after := aft, guard := none } :: rest) a w := by
  refine wpList_plain rfl fun K hK => ?_
  have hh := hK _ _ (h _ _ ((Below.refl _ _).alloc (Nat.le_refl _) _) (hm.alloc z ty))
  unfold Oper.wp execOp
  simp [go_sem, hz, newVar, newObj, Value.cells]
  exact hh
set_option maxRecDepth 100000 in
/-- A row of the call's own is turned, and no longer spoken of. -/
theorem Mem.lose {g : Nat} {l : List Value} {t : TypeId} (hm : Mem w0 S w ((g, l, t) :: rows)) (hu : Upd g w w') : Mem w0 S w' rows := by
  refine ⟨hu.os.trans hm.os, hu.tape.trans hm.tape, hu.output.trans hm.output, Nat.le_trans hm.size hu.size, fun k hk hn => ?_, fun r hr => ?_, (hm.tail).nodup, (hm.tail).fresh⟩
  · have hf := hm.fresh _ (List.mem_cons_self ..)
    refine (hu.block k (Nat.lt_of_lt_of_le hk hm.size) (fun e => ?_)).trans (hm.block k hk hn)
    subst e
    rcases hf with hf | hf
    · exact hn hf
    · exact absurd hk (Nat.not_lt.2 hf)
  · refine hu.row ((hm.tail).row r hr) (fun e => ?_)
    have hd := hm.nodup
    simp only [List.map_cons, List.nodup_cons] at hd
    exact hd.1 (e ▸ List.mem_map_of_mem hr)
set_option maxRecDepth 100000 in
theorem upd_freeze (g k : Nat) (w : World) : Upd g w (w.freeze ⟨g, k, none⟩ 1) := by
  unfold World.freeze
  rw [if_neg (by decide)]
  refine ⟨rfl, rfl, rfl, ?_, fun i hi hn => ?_⟩
  · simp
  · simp only [Array.getElem?_modify]
    rw [if_neg (fun h => hn h.symm)]
set_option maxRecDepth 100000 in
theorem seg_freeze {g k : Nat} {cs : List Int} {t : TypeId} (hr : Row w g (u8s cs) t) : Seg (w.freeze ⟨g, k, none⟩ 1) g 0 cs := by
  have hh : (w.freeze ⟨g, k, none⟩ 1).heap[g]? = some (.cells (u8s cs).toArray t (k, k + 1)) := by
    unfold World.freeze
    rw [if_neg (by decide)]
    simp only [Array.getElem?_modify]
    rw [if_pos trivial, hr]
    rfl
  intro j hj
  rw [cell_of_row _ _ _ _ _ _ hh, Nat.zero_add]
  simpa using u8s_get cs j hj
set_option maxRecDepth 100000 in
/-- A constant string's bytes: the row that holds them gets its mark. -/
theorem wpl_cvl {t e : TypeId} {x : Operand} (cs : List Int) (hw : Region.wanted { dst := dst, op := .convert t t x, type := typ, pos := pos, after := aft, guard := gd } (yielded ops a.tmps) = true) (ht : P.underlying t = some (.slice e)) (he : P.underlying e = some (.int .u8)) {g n : Nat} (hx : a.eval x = .slice (some ⟨g, 0, none⟩) n n) (hn : n = cs.length) (hm : Mem w0 S w ((g, u8s cs, e) :: rows))
    (h : ∀ w', Mem w0 S w' rows → SlOld w' (.slice (some ⟨g, 0, none⟩) n n) cs → wpList P ops Q rest (a.put dst (.slice (some ⟨g, 0, none⟩) n n)) w') :
    wpList P ops Q ({ dst := dst, op := .convert t t x, type := typ, pos := pos, after := aft, guard := gd } :: rest) a w := by
  subst hn
  have hr := hm.get 0 rfl
  have hsh : w.shape? g = some (e, cs.length) := by
    unfold World.shape?
    rw [hr]
    simp [u8s_length]
  have hrun : (convert t t (.slice (some ⟨g, 0, none⟩) cs.length cs.length)).run P w = .ok (.slice (some ⟨g, 0, none⟩) cs.length cs.length) (w.freeze ⟨g, cs.length, none⟩ 1) := by
    simp [convert, run_underlying ht, run_underlying he, markStringish, hsh]
  refine wpList_step fun K hK => ?_
  rw [if_pos hw]
  have hh := hK _ _ (h _ (hm.lose (upd_freeze g cs.length w)) ⟨_, _, rfl, Nat.le_refl _, fun _ => ⟨g, 0, rfl, seg_freeze hr⟩⟩)
  unfold Oper.wp execOp
  simp only [hx, hrun, Sem.run_bind, Sem.run_pure, Result.andThen_ok]
  exact hh
set_option maxRecDepth 100000 in
theorem wpl_litW {t e : TypeId} (hu : P.underlying t = some (.slice e)) (hi : (P.info? e).map (fun i => (i.zero, i.size)) = some (some (.int .u8 0), 1)) (hm : Mem w0 S w rows)
    (h : ∀ w' g, Mem w0 S w' ((g, u8s labWrap, e) :: rows) → Below w.heap.size w w' → wpList P ops Q rest (a.put dst (.slice (some ⟨g, 0, none⟩) 4 4)) w') :
    wpList P ops Q ({ dst := dst, op := .buildSlice t 4 #[(0, .const (.int .u8 119)), (1, .const (.int .u8 114)), (2, .const (.int .u8 97)), (3, .const (.int .u8 112))], type := typ, pos := pos, after := aft, guard := none } :: rest) a w := by
  refine wpList_plain rfl fun K hK => ?_
  have hh := hK _ _ (h _ _ (hm.alloc (u8s labWrap) e) ((Below.refl _ _).alloc (Nat.le_refl _) _))
  have hc : ∀ z : Int, a.eval (.const (.int .u8 z)) = .int .u8 z := fun _ => rfl
  unfold Oper.wp execOp
  simp only [List.map_toArray, List.map_cons, List.map_nil, hc, run_bsl4s (P := P) w (.int .u8 0) (.int .u8 119) (.int .u8 114) (.int .u8 97) (.int .u8 112) hu hi rfl rfl rfl rfl rfl, Sem.run_bind, Sem.run_pure, Result.andThen_ok]
  exact hh
set_option maxRecDepth 100000 in
theorem run_neqa (w : World) (t e : TypeId) (n : Nat) (k : IntKind) (ht : P.underlying t = some (.array n e)) (he : P.underlying e = some (.int k)) (hs : (P.info? e).map (·.size) = some 1) (xs ys : List Int) (hx : xs.length = n) (hy : ys.length = n) :
    (binOp .neq t (.agg (xs.map (Value.int k)).toArray) (.agg (ys.map (Value.int k)).toArray)).run P w = .ok (.bool (!decide (xs = ys))) w := by
  have h := run_eqa (P := P) w 9998 t e n k ht he hs xs ys hx hy
  have h2 : (Op.equal t (.agg (xs.map (Value.int k)).toArray) (.agg (ys.map (Value.int k)).toArray)).run P w = .ok (decide (xs = ys)) w := h
  simp only [binOp, Sem.run_bind, h2, Result.andThen_ok, Sem.run_pure]
set_option maxRecDepth 100000 in
theorem exec_nea {t : TypeId} {x y : Operand} {rt : TypeId} (e : TypeId) (n : Nat) (k : IntKind) (xs ys : List Int) (v : Bool) (hv : (!decide (xs = ys)) = v) (hx : a.eval x = .agg (xs.map (Value.int k)).toArray) (hy : a.eval y = .agg (ys.map (Value.int k)).toArray) (ht : P.underlying t = some (.array n e)) (he : P.underlying e = some (.int k)) (hs : (P.info? e).map (·.size) = some 1) (hm : P.eqGuardType P.depth t = false) (h1 : xs.length = n) (h2 : ys.length = n) :
    (execOp a.eval { dst := dst, op := .binOp .neq t x y rt, type := typ, pos := pos, after := aft, guard := gd }).run P w = .ok (.value (.bool v)) w := by
  subst hv
  unfold execOp
  simp only [hx, hy, Sem.run_bind, run_eqGuard_agg w .neq t x y _ _ hm, Sem.run_pure, Result.andThen_ok, run_neqa w t e n k ht he hs xs ys h1 h2]
set_option maxRecDepth 100000 in
theorem exec_eqK {t : TypeId} {x y : Operand} {rt : TypeId} (e : TypeId) (n : Nat) (k : IntKind) (xs ys : List Int) (v : Bool) (hv : decide (xs = ys) = v) (hx : a.eval x = .agg (xs.map (Value.int k)).toArray) (hy : a.eval y = .agg (ys.map (Value.int k)).toArray) (ht : P.underlying t = some (.array n e)) (he : P.underlying e = some (.int k)) (hs : (P.info? e).map (·.size) = some 1) (hm : P.eqGuardType P.depth t = false) (h1 : xs.length = n) (h2 : ys.length = n) :
    (execOp a.eval { dst := dst, op := .binOp .eql t x y rt, type := typ, pos := pos, after := aft, guard := gd }).run P w = .ok (.value (.bool v)) w := by
  subst hv
  exact exec_eqa e n k xs ys hx hy ht he hs hm h1 h2
set_option maxRecDepth 100000 in
theorem Mem.two' {a b c : Nat × List Value × TypeId} (hm : Mem w0 S w (a :: b :: c :: rows)) : Mem w0 S w (a :: c :: rows) := hm.sub (List.Sublist.cons_cons _ (List.sublist_cons_self _ _))
end
end Go.Proofs.YtbfccepddfinoaaDoor
