/- The memory of a call as a list of its own blocks, and one law for each operation that touches it; no statement is proved here. -/
import Derived.Test.YtbiinchmbclmcaaDoorBase
namespace Go.Proofs.YtbiinchmbclmcaaDoor
open Go Go.RowKit

/-- Blocks that were there and are not named in S are as they were; the named rows hold what is listed, and are apart. -/
structure Mem (w0 : World) (S : List Nat) (w : World) (rows : List (Nat × List Value × TypeId)) : Prop where
  os : w.os = w0.os
  tape : w.tape = w0.tape
  output : w.output = w0.output
  size : w0.heap.size ≤ w.heap.size
  block : ∀ k, k < w0.heap.size → k ∉ S → w.heap[k]? = w0.heap[k]?
  row : ∀ r ∈ rows, Row w r.1 r.2.1 r.2.2
  nodup : (rows.map Prod.fst).Nodup
  fresh : ∀ r ∈ rows, r.1 ∈ S ∨ w0.heap.size ≤ r.1

/-- One block has turned; new ones may have come. -/
structure Upd (g : Nat) (w w' : World) : Prop where
  os : w'.os = w.os
  tape : w'.tape = w.tape
  output : w'.output = w.output
  size : w.heap.size ≤ w'.heap.size
  block : ∀ k, k < w.heap.size → k ≠ g → w'.heap[k]? = w.heap[k]?

theorem Upd.refl (g : Nat) (w : World) : Upd g w w := ⟨rfl, rfl, rfl, Nat.le_refl _, fun _ _ _ => rfl⟩
theorem Upd.trans {g : Nat} {a b c : World} (h : Upd g a b) (k : Upd g b c) : Upd g a c :=
  ⟨k.os.trans h.os, k.tape.trans h.tape, k.output.trans h.output, Nat.le_trans h.size k.size, fun i hi hn => (k.block i (Nat.lt_of_lt_of_le hi h.size) hn).trans (h.block i hi hn)⟩
theorem Upd.of_below {g : Nat} {w w' : World} (h : Below w.heap.size w w') : Upd g w w' := ⟨h.os, h.tape, h.output, h.size, fun k hk _ => h.block k hk⟩
theorem Upd.setRow (g : Nat) (w : World) (c : Array Value) : Upd g w (w.setRow g c) :=
  ⟨rfl, rfl, rfl, by simp, fun k _ hn => setRow_other w g k c hn⟩
theorem Upd.setCell (g i : Nat) (w : World) (v : Value) : Upd g w (w.setCell ⟨g, i, none⟩ v) :=
  ⟨rfl, rfl, rfl, by simp, fun k _ hn => heap_setCell_other w _ k v hn⟩
theorem Upd.cell {g : Nat} {w w' : World} (h : Upd g w w') {p : Addr} (hp : p.block < w.heap.size) (hn : p.block ≠ g) : w'.cell? p = w.cell? p :=
  World.cell?_of_block (w := w) (h.block p.block hp hn)
theorem Upd.row {g k : Nat} {w w' : World} {l : List Value} {t : TypeId} (h : Upd g w w') (r : Row w k l t) (hn : k ≠ g) : Row w' k l t := by
  unfold Row; rw [h.block k r.lt hn]; exact r

section
variable {w0 w w' : World} {S : List Nat} {rows : List (Nat × List Value × TypeId)}

theorem Mem.start (w : World) : Mem w [] w [] := ⟨rfl, rfl, rfl, Nat.le_refl _, fun _ _ _ => rfl, by simp, by simp, by simp⟩
theorem Mem.enter {g : Nat} {l : List Value} {t : TypeId} (h : Row w g l t) : Mem w [g] w [(g, l, t)] :=
  ⟨rfl, rfl, rfl, Nat.le_refl _, fun _ _ _ => rfl, by simpa using h, by simp, by simp⟩
theorem Mem.drew (hm : Mem w0 S w rows) : Mem w0 S w.drew rows := ⟨hm.os, hm.tape, hm.output, hm.size, hm.block, hm.row, hm.nodup, hm.fresh⟩
theorem Mem.drewN (hm : Mem w0 S w rows) (n : Nat) : Mem w0 S (w.drewN n) rows := ⟨hm.os, hm.tape, hm.output, hm.size, hm.block, hm.row, hm.nodup, hm.fresh⟩
theorem Mem.set (hm : Mem w0 S w rows) (i : Nat) {g : Nat} {l : List Value} {t : TypeId} (hi : rows[i]? = some (g, l, t)) (j : Nat) (v : Value) (h : ∀ (w' : World), Upd g w w' → Row w' g (l.set j v) t → Mem w0 S w' (rows.set i (g, l.set j v, t))) : Mem w0 S (w.setCell ⟨g, j, none⟩ v) (rows.set i (g, l.set j v, t)) :=
  h _ (Upd.setCell g j w v) ((hm.row _ (List.mem_of_getElem? hi)).set j v)
theorem Mem.alloc (hm : Mem w0 S w rows) (l : List Value) (t : TypeId) : Mem w0 S (w.alloc (.cells l.toArray t)) ((w.heap.size, l, t) :: rows) := by
  refine ⟨hm.os, hm.tape, hm.output, by have := hm.size; simp; omega, fun k hk hn => ?_, ?_, ?_, ?_⟩
  · rw [Below.heap_alloc _ _ _ (Nat.lt_of_lt_of_le hk hm.size)]; exact hm.block k hk hn
  · intro r hr
    rcases List.mem_cons.1 hr with rfl | hr
    · exact Row.new w l t
    · exact (hm.row r hr).alloc _
  · simp only [List.map_cons, List.nodup_cons]
    refine ⟨fun hc => ?_, hm.nodup⟩
    obtain ⟨r, hr, he⟩ := List.mem_map.1 hc
    have := (hm.row r hr).lt
    omega
  · intro r hr
    rcases List.mem_cons.1 hr with rfl | hr
    · exact Or.inr hm.size
    · exact hm.fresh r hr
theorem Mem.call (hm : Mem w0 S w rows) (hb : Below w.heap.size w w') : Mem w0 S w' rows :=
  ⟨hb.os.trans hm.os, hb.tape.trans hm.tape, hb.output.trans hm.output, Nat.le_trans hm.size hb.size,
   fun k hk hn => (hb.block k (Nat.lt_of_lt_of_le hk hm.size)).trans (hm.block k hk hn), fun r hr => (hm.row r hr).below' hb, hm.nodup, hm.fresh⟩
theorem Mem.get (hm : Mem w0 S w rows) (i : Nat) {g : Nat} {l : List Value} {t : TypeId} (hi : rows[i]? = some (g, l, t)) : Row w g l t :=
  hm.row _ (List.mem_of_getElem? hi)
theorem Mem.cell (hm : Mem w0 S w rows) (i : Nat) {g : Nat} {l : List Value} {t : TypeId} (hi : rows[i]? = some (g, l, t)) (j : Nat) : w.cell? ⟨g, j, none⟩ = l[j]? :=
  (hm.get i hi).cell j
theorem Mem.free (hm : Mem w0 S w rows) (i : Nat) {g : Nat} {l : List Value} {t : TypeId} (hi : rows[i]? = some (g, l, t)) (j : Nat) : w.frozen? ⟨g, j, none⟩ = false :=
  (hm.get i hi).free j
theorem Mem.old (hm : Mem w0 S w rows) {p : Addr} (hp : p.block < w0.heap.size) (hn : p.block ∉ S) : w.cell? p = w0.cell? p :=
  World.cell?_of_block (w := w0) (hm.block p.block hp hn)
theorem Mem.upd (hm : Mem w0 S w rows) (i : Nat) {g : Nat} {l l' : List Value} {t : TypeId} (hi : rows[i]? = some (g, l, t)) (hu : Upd g w w') (hr0 : Row w' g l' t) : Mem w0 S w' (rows.set i (g, l', t)) := by
  have hlt : i < rows.length := (List.getElem?_eq_some_iff.1 hi).1
  have hge : rows[i] = (g, l, t) := (List.getElem?_eq_some_iff.1 hi).2
  have hmem : (g, l, t) ∈ rows := List.mem_of_getElem? hi
  have hkeys : (rows.set i (g, l', t)).map Prod.fst = rows.map Prod.fst := by
    rw [List.map_set]
    apply List.ext_getElem?
    intro j
    by_cases hj : i = j
    · subst hj; simp [hlt, hge]
    · simp [hj]
  refine ⟨hu.os.trans hm.os, hu.tape.trans hm.tape, hu.output.trans hm.output, Nat.le_trans hm.size hu.size, fun k hk hn => ?_, ?_, by rw [hkeys]; exact hm.nodup, ?_⟩
  · have hkg : k ≠ g := by
      rintro rfl
      rcases hm.fresh _ hmem with h | h
      · exact hn h
      · simp at h; omega
    exact (hu.block k (Nat.lt_of_lt_of_le hk hm.size) hkg).trans (hm.block k hk hn)
  · intro r hr
    obtain ⟨j, hj, hrj⟩ := List.getElem_of_mem hr
    rw [List.getElem_set] at hrj
    by_cases hij : i = j
    · rw [if_pos hij] at hrj; subst hrj; exact hr0
    · rw [if_neg hij] at hrj
      have hj' : j < rows.length := by simpa using hj
      have hrow := hm.row r (hrj ▸ List.getElem_mem hj')
      refine hu.row hrow ?_
      intro he
      have h1 : (rows.map Prod.fst)[i]'(by simpa using hlt) = (rows.map Prod.fst)[j]'(by simpa using hj') := by simp [hge, hrj, he]
      exact hij ((List.getElem_inj hm.nodup).1 h1)
  · intro r hr
    have : r.1 ∈ (rows.set i (g, l', t)).map Prod.fst := List.mem_map_of_mem hr
    rw [hkeys] at this
    obtain ⟨r', hr', he⟩ := List.mem_map.1 this
    have := hm.fresh r' hr'
    rwa [he] at this
theorem Mem.setCell (hm : Mem w0 S w rows) (i : Nat) {g : Nat} {l : List Value} {t : TypeId} (hi : rows[i]? = some (g, l, t)) (j : Nat) (v : Value) : Mem w0 S (w.setCell ⟨g, j, none⟩ v) (rows.set i (g, l.set j v, t)) :=
  hm.set i hi j v (fun _ hu hr => hm.upd i hi hu hr)
theorem Mem.below (hm : Mem w0 [] w rows) : Below w0.heap.size w0 w := ⟨hm.os, hm.tape, hm.output, hm.size, fun k hk => hm.block k hk (by simp)⟩
theorem Mem.toUpd {g : Nat} (hm : Mem w0 [g] w rows) : Upd g w0 w := ⟨hm.os, hm.tape, hm.output, hm.size, fun k hk hn => hm.block k hk (by simpa using hn)⟩
theorem Mem.sub (hm : Mem w0 S w rows) {rows' : List (Nat × List Value × TypeId)} (h : rows'.Sublist rows) : Mem w0 S w rows' :=
  ⟨hm.os, hm.tape, hm.output, hm.size, hm.block, fun r hr => hm.row r (h.subset hr), (h.map _).nodup hm.nodup, fun r hr => hm.fresh r (h.subset hr)⟩
theorem Mem.tail {r : Nat × List Value × TypeId} (hm : Mem w0 S w (r :: rows)) : Mem w0 S w rows := hm.sub (List.sublist_cons_self _ _)
theorem Mem.swap {r r' : Nat × List Value × TypeId} (hm : Mem w0 S w (r :: r' :: rows)) : Mem w0 S w (r' :: r :: rows) :=
  ⟨hm.os, hm.tape, hm.output, hm.size, hm.block, fun q hq => hm.row q (by simp only [List.mem_cons] at hq ⊢; rcases hq with h | h | h <;> simp [h]), by
    have := hm.nodup
    simp only [List.map_cons, List.nodup_cons, List.mem_cons, not_or] at this ⊢
    exact ⟨⟨fun h => this.1.1 h.symm, this.2.1⟩, this.1.2, this.2.2⟩, fun q hq => hm.fresh q (by simp only [List.mem_cons] at hq ⊢; rcases hq with h | h | h <;> simp [h])⟩
theorem Mem.ne {r : Nat × List Value × TypeId} (hm : Mem w0 S w (r :: rows)) (i : Nat) {q : Nat × List Value × TypeId} (hi : rows[i]? = some q) : r.1 ≠ q.1 := by
  have := hm.nodup
  simp only [List.map_cons, List.nodup_cons] at this
  intro he
  exact this.1 (he ▸ List.mem_map_of_mem (List.mem_of_getElem? hi))
end

/-! The laws, for an operation that stands first in a list, without a guard. -/
section
variable {P : Program} {ops : Array Oper} {rest : List Oper} {a : Act} {w w0 : World} {Q : Exit → Act → World → Prop} {dst : Option Tmp} {typ : TypeId} {pos : String} {aft : Array Edge} {S : List Nat} {rows : List (Nat × List Value × TypeId)}

/-- A guard: the operation that stands first is this one, and writes this slot. -/
theorem at_op (dst : Option Tmp) (op : Op) (h : wpList P ops Q ({ dst := dst, op := op, type := typ, pos := pos, after := aft, guard := none } :: rest) a w) :
    wpList P ops Q ({ dst := dst, op := op, type := typ, pos := pos, after := aft, guard := none } :: rest) a w := h
theorem wpl_alloc {ty : TypeId} (z : List Value) (hz : ∀ w, (zeroValue ty).run P w = .ok (.agg z.toArray) w) (hm : Mem w0 S w rows)
    (h : ∀ w' g, Mem w0 S w' ((g, z, ty) :: rows) → wpList P ops Q rest (a.put dst (.pointer (some ⟨g, 0, none⟩))) w') :
    wpList P ops Q ({ dst := dst, op := .alloc ty, type := typ, pos := pos, after := aft, guard := none } :: rest) a w := by
  refine wpList_plain rfl fun K hK => ?_
  have hh := hK _ _ (h _ _ (hm.alloc z ty))
  unfold Oper.wp execOp
  simp [Instr.alloc, newVar, newRow, newObj, hz, Value.cells]
  exact hh
theorem wpl_box {ty : TypeId} {x : Operand} (l : List Value) (hx : a.eval x = .agg l.toArray) (hm : Mem w0 S w rows)
    (h : ∀ w' g, Mem w0 S w' ((g, l, ty) :: rows) → wpList P ops Q rest (a.put dst (.pointer (some ⟨g, 0, none⟩))) w') :
    wpList P ops Q ({ dst := dst, op := .box ty x, type := typ, pos := pos, after := aft, guard := none } :: rest) a w := by
  refine wpList_plain rfl fun K hK => ?_
  have hh := hK _ _ (h _ _ (hm.alloc l ty))
  unfold Oper.wp execOp
  simp [Instr.box, newVar, newRow, newObj, hx, Value.cells]
  exact hh
theorem wpl_ldw {ty : TypeId} {x : Operand} (i : Nat) {g : Nat} {l : List Value} {t : TypeId} (hm : Mem w0 S w rows) (hi : rows[i]? = some (g, l, t)) (hx : a.eval x = .pointer (some ⟨g, 0, none⟩))
    (d : TypeDesc) (hu : P.underlying ty = some d) (hd : (match d with | .struct _ | .array _ _ => true | _ => false) = true) (n : Nat) (hs : (P.info? ty).map (·.size) = some n) (hn : l.length = n)
    (h : wpList P ops Q rest (a.put dst (.agg l.toArray)) w) :
    wpList P ops Q ({ dst := dst, op := .load ty x, type := typ, pos := pos, after := aft, guard := none } :: rest) a w :=
  wpList_load_row rfl ty x rfl g hx t l.toArray (0, 0) d (hm.get i hi) hu hd (by rw [hs]; simp [hn]) h
theorem wpl_stw {ty : TypeId} {x y : Operand} (i : Nat) {g : Nat} {l : List Value} {t : TypeId} (l' : List Value) (hm : Mem w0 S w rows) (hi : rows[i]? = some (g, l, t)) (hx : a.eval x = .pointer (some ⟨g, 0, none⟩))
    (hy : a.eval y = .agg l'.toArray) (n : Nat) (hs : (P.info? ty).map (·.size) = some n) (hn : l.length = n) (hn' : l'.length = n) (h1 : ∀ v ∈ l', v.oneCell' = true)
    (h : ∀ w', Mem w0 S w' (rows.set i (g, l', t)) → wpList P ops Q rest a w') :
    wpList P ops Q ({ dst := none, op := .store ty x y, type := typ, pos := pos, after := aft, guard := none } :: rest) a w := by
  refine wpList_plain rfl fun K hK => ?_
  have hr := hm.get i hi
  have hh := hK _ _ (h _ (hm.upd i hi (Upd.setRow g w l'.toArray) (hr.setRow l')))
  unfold Oper.wp execOp
  simp only [hx, hy, Instr.storeAt, Instr.sureAddr, Sem.run_bind, Sem.run_pure, Result.andThen_ok,
    run_storeVar_row w g t ty l.toArray l'.toArray hr (by rw [hs]; simp [hn']) (by simp [hn, hn']) (by simpa using h1)]
  exact hh
theorem wpl_ldc {ty : TypeId} {x : Operand} (i : Nat) {g : Nat} {l : List Value} {t : TypeId} (j : Nat) (v : Value) (hm : Mem w0 S w rows) (hi : rows[i]? = some (g, l, t)) (hx : a.eval x = .pointer (some ⟨g, j, none⟩))
    (ha : ∀ w, (isAgg ty).run P w = .ok false w) (hv : l[j]? = some v)
    (h : wpList P ops Q rest (a.put dst v) w) :
    wpList P ops Q ({ dst := dst, op := .load ty x, type := typ, pos := pos, after := aft, guard := none } :: rest) a w := by
  refine wpList_plain rfl fun K hK => ?_
  have hh := hK _ _ h
  have hc : w.cell? ⟨g, j, none⟩ = some v := by rw [hm.cell i hi, hv]
  have hld : (loadVar ty ⟨g, j, none⟩).run P w = .ok v w := by
    simp [loadVar, ha, go_sem, hc]
  unfold Oper.wp execOp
  simp only [hx, Instr.loadAt, Instr.sureAddr, Sem.run_bind, Sem.run_pure, Result.andThen_ok, hld]
  exact hh
theorem wpl_stc {ty : TypeId} {x y : Operand} (i : Nat) {g : Nat} {l : List Value} {t : TypeId} (j : Nat) (v : Value) (hm : Mem w0 S w rows) (hi : rows[i]? = some (g, l, t)) (hx : a.eval x = .pointer (some ⟨g, j, none⟩))
    (hy : a.eval y = v) (hs : (P.info? ty).map (·.size) = some 1) (hj : j < l.length) (hc : v.cells = #[v]) (h1 : v.oneCell' = true)
    (h : ∀ w', Mem w0 S w' (rows.set i (g, l.set j v, t)) → wpList P ops Q rest a w') :
    wpList P ops Q ({ dst := none, op := .store ty x y, type := typ, pos := pos, after := aft, guard := none } :: rest) a w := by
  refine wpList_plain rfl fun K hK => ?_
  have hr := hm.get i hi
  have hh := hK _ _ (h _ (hm.upd i hi (Upd.setCell g j w v) (hr.set j v)))
  have hcell : w.cell? ⟨g, j, none⟩ = some l[j] := by rw [hm.cell i hi]; simp [hj]
  have hadd : (⟨g, j, none⟩ : Addr).add 0 = ⟨g, j, none⟩ := by unfold Addr.add; split <;> simp_all
  have hst : (storeVar ty ⟨g, j, none⟩ v).run P w = .ok () (w.setCell ⟨g, j, none⟩ v) := by
    cases hq : P.info? ty with
    | none => simp [hq] at hs
    | some q =>
      have hs1 : q.size = 1 := by simpa [hq] using hs
      have hs2 : (store ⟨g, j, none⟩ v).run P w = .ok () (w.setCell ⟨g, j, none⟩ v) := by
        rw [run_store P w _ v _ h1, hcell]; simp [hr.free j]
      simp [storeVar, sizeOf, typeInfo, hq, hc, hs1, storeCells, hadd, hs2]
  unfold Oper.wp execOp
  simp only [hx, hy, Instr.storeAt, Instr.sureAddr, Sem.run_bind, Sem.run_pure, Result.andThen_ok, hst]
  exact hh
theorem add_at (g o j : Nat) : (⟨g, o, none⟩ : Addr).add j = ⟨g, o + j, none⟩ := by unfold Addr.add; split <;> simp_all
theorem run_sla (w : World) {ty : TypeId} {n : Nat} {elem : TypeId} (hu : P.underlying ty = some (.array n elem)) (hs : (P.info? elem).map (·.size) = some 1) (g o l m : Nat) (hlm : l + m ≤ n) (hln : l < n) (lo hi : Option Value)
    (hlo : lo = some (.int .i64 l) ∨ (lo = none ∧ l = 0)) (hhi : hi = some (.int .i64 (l + m : Nat)) ∨ (hi = none ∧ l + m = n)) :
    (Instr.sliceAt ty (.pointer (some ⟨g, o, none⟩)) lo hi none).run P w = .ok (.slice (some ⟨g, o + l, none⟩) m (n - l)) w := by
  cases hq : P.info? elem with
  | none => simp [hq] at hs
  | some q =>
    have hs1 : q.size = 1 := by simpa [hq] using hs
    have hsz : (sizeOf elem).run P w = .ok 1 w := by simp [sizeOf, typeInfo, hq, hs1]
    have hne : ¬ n = l := by omega
    have bnd : ∀ (j y : Nat) (code : BoundsCode), j ≤ y → (Instr.sliceBound (.int .i64 (j : Int)) y code).run P w = .ok j w := by
      intro j y code hj
      rw [run_sliceBound (P := P) w .i64 (j : Int) y code (by omega) (by omega)]
      simp
    obtain ⟨h, hh⟩ : ∃ h, h = l + m := ⟨_, rfl⟩
    rw [← hh] at hhi hlm
    have hb : (Instr.sliceBounds false n n lo hi none).run P w = .ok (l, h, n) w := by
      rcases hlo with rfl | ⟨rfl, rfl⟩
      · rcases hhi with rfl | ⟨rfl, hn⟩
        · simp [Instr.sliceBounds, bnd h n _ hlm, bnd l h _ (by omega)]
        · simp [Instr.sliceBounds, bnd l n _ (by omega), hn]
      · rcases hhi with rfl | ⟨rfl, hn⟩
        · simp [Instr.sliceBounds, bnd h n _ hlm]
        · simp [Instr.sliceBounds, hn]
    have hml : h - l = m := by omega
    simp [Instr.sliceAt, Instr.sureAddr, run_underlying hu, hb, hsz, hne, add_at, hml]
theorem wpl_sla {ty : TypeId} {x : Operand} {lo hi : Option Operand} (n : Nat) {elem : TypeId} (hu : P.underlying ty = some (.array n elem)) (hs : (P.info? elem).map (·.size) = some 1) {g o : Nat} (l m : Nat) (hlm : l + m ≤ n) (hln : l < n) (hx : a.eval x = .pointer (some ⟨g, o, none⟩))
    (hlo : lo.map a.eval = some (.int .i64 l) ∨ (lo.map a.eval = none ∧ l = 0)) (hhi : hi.map a.eval = some (.int .i64 (l + m : Nat)) ∨ (hi.map a.eval = none ∧ l + m = n))
    (h : wpList P ops Q rest (a.put dst (.slice (some ⟨g, o + l, none⟩) m (n - l))) w) :
    wpList P ops Q ({ dst := dst, op := .slice ty x lo hi none, type := typ, pos := pos, after := aft, guard := none } :: rest) a w := by
  refine wpList_plain rfl fun K hK => ?_
  have hh := hK _ _ h
  have hr := run_sla (P := P) w hu hs g o l m hlm hln (lo.map a.eval) (hi.map a.eval) hlo hhi
  unfold Oper.wp execOp
  simp only [hx, Option.map_none, hr, Sem.run_bind, Sem.run_pure, Result.andThen_ok]
  exact hh
theorem wpl_ixa {ty : TypeId} {x ix : Operand} (n : Nat) {elem : TypeId} (hu : P.underlying ty = some (.array n elem)) (hs : (P.info? elem).map (·.size) = some 1) (ha : ∀ w, (isAgg elem).run P w = .ok false w) (l : List Value) (j : Nat) {ij : Int} (v : Value) (hj : j < n)
    (hx : a.eval x = .agg l.toArray) (hix : a.eval ix = .int .i64 ij) (hij : ij = (j : Int)) (hv : l[j]? = some v)
    (h : wpList P ops Q rest (a.put dst v) w) :
    wpList P ops Q ({ dst := dst, op := .index ty x ix, type := typ, pos := pos, after := aft, guard := none } :: rest) a w := by
  subst hij
  refine wpList_plain rfl fun K hK => ?_
  have hh := hK _ _ h
  have hr : (Instr.index ty (.agg l.toArray) (.int .i64 (j : Int))).run P w = .ok v w := by
    cases hq : P.info? elem with
    | none => simp [hq] at hs
    | some q =>
      have hs1 : q.size = 1 := by simpa [hq] using hs
      have hsz : (sizeOf elem).run P w = .ok 1 w := by simp [sizeOf, typeInfo, hq, hs1]
      simp [Instr.index, asIntOf, run_underlying hu, hj, hsz, part, ha, hv]
  unfold Oper.wp execOp
  simp only [hx, hix, hr, Sem.run_bind, Sem.run_pure, Result.andThen_ok]
  exact hh
theorem int_at {x : Operand} {il : Int} (l : Nat) (h : a.eval x = .int .i64 il) (he : il = (l : Int)) : (some x).map a.eval = some (.int .i64 l) := by simp [h, he]
theorem wpl_copy {d s : Operand} {dT sT : TypeId} (i : Nat) {g : Nat} {l : List Value} {t : TypeId} (off dLen dCap : Nat) (ad : Addr) (sLen sCap : Nat) (cs : List Value) (hm : Mem w0 S w rows) (hi : rows[i]? = some (g, l, t))
    (hd : a.eval d = .slice (some ⟨g, off, none⟩) dLen dCap) (hs : a.eval s = .slice (some ad) sLen sCap) (elem : TypeId) (hu : P.underlying dT = some (.slice elem)) (hsz : (P.info? elem).map (·.size) = some 1)
    (hn : cs.length = Nat.min sLen dLen) (hsrc : ∀ j v, cs[j]? = some v → w.cell? (ad.add j) = some v) (hfit : off + cs.length ≤ l.length) (h1 : ∀ v ∈ cs, v.oneCell' = true)
    (h : ∀ w', Mem w0 S w' (rows.set i (g, splice l off cs, t)) → wpList P ops Q rest (a.put dst (.int .i64 cs.length)) w') :
    wpList P ops Q ({ dst := dst, op := .call { callee := .builtin .copy, args := #[d, s], argTypes := #[dT, sT] }, type := typ, pos := pos, after := aft, guard := none } :: rest) a w := by
  have hr := hm.get i hi
  refine wpList_copy_own rfl d s dT sT rfl elem hu hsz g off dLen dCap ad sLen sCap hd hs l.toArray t hr cs hn hsrc (by simpa using hfit) h1 ?_
  have hrun := hr.setRow (splice l off cs)
  have hh := h _ (hm.upd i hi (Upd.setRow g w (splice l off cs).toArray) hrun)
  simpa [goInt, splice] using hh
end

/-- The cells of a slice of bytes. -/
def Seg (w : World) (b off : Nat) (cs : List Int) : Prop := ∀ j, j < cs.length → w.cell? ⟨b, off + j, none⟩ = some (.int .u8 (cs.getD j 0))
theorem Seg.src {w : World} {b off : Nat} {cs : List Int} (h : Seg w b off cs) : ∀ j v, (u8s cs)[j]? = some v → w.cell? ((⟨b, off, none⟩ : Addr).add j) = some v := by
  intro j v hv
  have hj : j < cs.length := by
    rcases Nat.lt_or_ge j cs.length with h' | h'
    · exact h'
    · rw [List.getElem?_eq_none (by rw [u8s_length]; exact h')] at hv; cases hv
  rw [u8s_get cs j hj] at hv
  have hadd : (⟨b, off, none⟩ : Addr).add j = ⟨b, off + j, none⟩ := by unfold Addr.add; split <;> simp_all
  rw [hadd, h j hj, hv]
theorem Seg.lt {w : World} {b off : Nat} {cs : List Int} (h : Seg w b off cs) (hc : 0 < cs.length) : b < w.heap.size := block_lt_of_cell (h 0 hc)
theorem Seg.mem {w0 w : World} {S : List Nat} {rows : List (Nat × List Value × TypeId)} {b off : Nat} {cs : List Int} (h : Seg w0 b off cs) (hm : Mem w0 S w rows) (hS : b ∉ S) : Seg w b off cs := by
  intro j hj
  rw [hm.old (p := ⟨b, off + j, none⟩) (h.lt (by omega)) hS]
  exact h j hj
theorem Seg.below {w w' : World} {b off : Nat} {cs : List Int} (h : Seg w b off cs) (hb : Below w.heap.size w w') : Seg w' b off cs := by
  intro j hj
  rw [hb.cell (p := ⟨b, off + j, none⟩) (h.lt (by omega))]
  exact h j hj
theorem Seg.take {w : World} {b off : Nat} {cs : List Int} (h : Seg w b off cs) (n : Nat) : Seg w b off (cs.take n) := by
  intro j hj
  simp at hj
  rw [h j (by omega)]
  have h1 : j < n := by omega
  have h2 : j < cs.length := by omega
  simp [h1, h2]
theorem Seg.drop {w : World} {b off : Nat} {cs : List Int} (h : Seg w b off cs) (n : Nat) : Seg w b (off + n) (cs.drop n) := by
  intro j hj
  simp at hj
  rw [Nat.add_assoc, h (n + j) (by omega)]
  congr 2
  simp
theorem Seg.row {w : World} {g : Nat} {l : List Int} {t : TypeId} (h : Row w g (u8s l) t) : Seg w g 0 l := by
  intro j hj
  rw [Nat.zero_add, h.cell j, u8s_get l j hj]
theorem splice_all {α : Type} (l cs : List α) (h : l.length = cs.length) : splice l 0 cs = cs := by
  simp [splice, h]
theorem ret_cell {P : Program} {fn : Func} {R : Ending → World → Prop} {a : Act} {w w0 : World} {S : List Nat} {rows : List (Nat × List Value × TypeId)} {p : Tmp} {ty : TypeId} (i : Nat) {g : Nat} {l : List Value} {t : TypeId} (hm : Mem w0 S w rows) (hi : rows[i]? = some (g, l, t))
    (hres : fn.results = #[.cell p ty]) (hp : a.tmps.getD p undef = .pointer (some ⟨g, 0, none⟩)) (d : TypeDesc) (hu : P.underlying ty = some d) (hd : (match d with | .struct _ | .array _ _ => true | _ => false) = true)
    (n : Nat) (hs : (P.info? ty).map (·.size) = some n) (hn : l.length = n) (hd0 : a.defers = []) (hR : R (.returned (.agg l.toArray)) w) : bodyPost P fn R .ret a w :=
  bodyPost_ret (results_cell_row hres a.tmps w g t l.toArray (0, 0) d hp (hm.get i hi) hu hd (by rw [hs]; simp [hn])) hd0 hR
end Go.Proofs.YtbiinchmbclmcaaDoor
