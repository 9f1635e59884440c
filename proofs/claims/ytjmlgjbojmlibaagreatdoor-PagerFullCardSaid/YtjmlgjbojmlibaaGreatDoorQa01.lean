import Derived.Test.YtjmlgjbojmlibaaGreatDoorQa00
import Derived.StillTailTactics
import Derived.Laws.BytesString
import Derived.Laws.BitsAllLaws
set_option maxRecDepth 100000
namespace Go.Proofs.YtjmlgjbojmlibaaGreatDoor
open Go Go.RowKit
/-- Blocks that were there and are not named in S are as they were; the named rows hold what is listed, and are apart. -/
structure Mem (w0 : World) (S : List Nat) (w : World) (rows : List (Nat × List Value × TypeId)) : Prop where
  os : w.os = w0.os
  tape : w.tape = w0.tape
  output : w.output = w0.output
  size : w0.heap.size ≤ w.heap.size
  block : ∀ k, k < w0.heap.size → k ∉ S → w.heap[k]? = w0.heap[k]?
  row : ∀ r ∈ rows, Row w r.1 r.2.1 r.2.2
  nodup : (rows.map Prod.fst).Nodup
  fresh : ∀ r ∈ rows, r.1 ∈ S ∨ w0.heap.size ≤ r.1
/-- One block has turned; new ones may have come. -/
structure Upd (g : Nat) (w w' : World) : Prop where
  os : w'.os = w.os
  tape : w'.tape = w.tape
  output : w'.output = w.output
  size : w.heap.size ≤ w'.heap.size
  block : ∀ k, k < w.heap.size → k ≠ g → w'.heap[k]? = w.heap[k]?
theorem Upd.refl (g : Nat) (w : World) : Upd g w w := ⟨rfl, rfl, rfl, Nat.le_refl _, fun _ _ _ => rfl⟩
theorem Upd.trans {g : Nat} {a b c : World} (h : Upd g a b) (k : Upd g b c) : Upd g a c :=
  ⟨k.os.trans h.os, k.tape.trans h.tape, k.output.trans h.output, Nat.le_trans h.size k.size, fun i hi hn => (k.block i (Nat.lt_of_lt_of_le hi h.size) hn).trans (h.block i hi hn)⟩
theorem Upd.of_below {g : Nat} {w w' : World} (h : Below w.heap.size w w') : Upd g w w' := ⟨h.os, h.tape, h.output, h.size, fun k hk _ => h.block k hk⟩
theorem Upd.setRow (g : Nat) (w : World) (c : Array Value) : Upd g w (w.setRow g c) :=
  ⟨rfl, rfl, rfl, by simp, fun k _ hn => setRow_other w g k c hn⟩
theorem Upd.setCell (g i : Nat) (w : World) (v : Value) : Upd g w (w.setCell ⟨g, i, none⟩ v) :=
  ⟨rfl, rfl, rfl, by simp, fun k _ hn => heap_setCell_other w _ k v hn⟩
theorem Upd.cell {g : Nat} {w w' : World} (h : Upd g w w') {p : Addr} (hp : p.block < w.heap.size) (hn : p.block ≠ g) : w'.cell? p = w.cell? p :=
  World.cell?_of_block (w := w) (h.block p.block hp hn)
theorem Upd.row {g k : Nat} {w w' : World} {l : List Value} {t : TypeId} (h : Upd g w w') (r : Row w k l t) (hn : k ≠ g) : Row w' k l t := by
  unfold Row; rw [h.block k r.lt hn]; exact r
section
variable {w0 w w' : World} {S : List Nat} {rows : List (Nat × List Value × TypeId)}
theorem Mem.start (w : World) : Mem w [] w [] := ⟨rfl, rfl, rfl, Nat.le_refl _, fun _ _ _ => rfl, by simp, by simp, by simp⟩
theorem Mem.enter {g : Nat} {l : List Value} {t : TypeId} (h : Row w g l t) : Mem w [g] w [(g, l, t)] :=
  ⟨rfl, rfl, rfl, Nat.le_refl _, fun _ _ _ => rfl, by simpa using h, by simp, by simp⟩
theorem Mem.drew (hm : Mem w0 S w rows) : Mem w0 S w.drew rows := ⟨hm.os, hm.tape, hm.output, hm.size, hm.block, hm.row, hm.nodup, hm.fresh⟩
theorem Mem.drewN (hm : Mem w0 S w rows) (n : Nat) : Mem w0 S (w.drewN n) rows := ⟨hm.os, hm.tape, hm.output, hm.size, hm.block, hm.row, hm.nodup, hm.fresh⟩
theorem Mem.set (hm : Mem w0 S w rows) (i : Nat) {g : Nat} {l : List Value} {t : TypeId} (hi : rows[i]? = some (g, l, t)) (j : Nat) (v : Value) (h : ∀ (w' : World), Upd g w w' → Row w' g (l.set j v) t → Mem w0 S w' (rows.set i (g, l.set j v, t))) : Mem w0 S (w.setCell ⟨g, j, none⟩ v) (rows.set i (g, l.set j v, t)) :=
  h _ (Upd.setCell g j w v) ((hm.row _ (List.mem_of_getElem? hi)).set j v)
theorem Mem.alloc (hm : Mem w0 S w rows) (l : List Value) (t : TypeId) : Mem w0 S (w.alloc (.cells l.toArray t)) ((w.heap.size, l, t) :: rows) := by
  refine ⟨hm.os, hm.tape, hm.output, by have := hm.size; simp; omega, fun k hk hn => ?_, ?_, ?_, ?_⟩
  · rw [Below.heap_alloc _ _ _ (Nat.lt_of_lt_of_le hk hm.size)]; exact hm.block k hk hn
  · intro r hr
    rcases List.mem_cons.1 hr with rfl | hr
    · exact Row.new w l t
    · exact (hm.row r hr).alloc _
  · simp only [List.map_cons, List.nodup_cons]
    refine ⟨fun hc => ?_, hm.nodup⟩
    obtain ⟨r, hr, he⟩ := List.mem_map.1 hc
    have := (hm.row r hr).lt
    omega
  · intro r hr
    rcases List.mem_cons.1 hr with rfl | hr
    · exact Or.inr hm.size
    · exact hm.fresh r hr
theorem Mem.call (hm : Mem w0 S w rows) (hb : Below w.heap.size w w') : Mem w0 S w' rows :=
  ⟨hb.os.trans hm.os, hb.tape.trans hm.tape, hb.output.trans hm.output, Nat.le_trans hm.size hb.size,
   fun k hk hn => (hb.block k (Nat.lt_of_lt_of_le hk hm.size)).trans (hm.block k hk hn), fun r hr => (hm.row r hr).below' hb, hm.nodup, hm.fresh⟩
theorem Mem.get (hm : Mem w0 S w rows) (i : Nat) {g : Nat} {l : List Value} {t : TypeId} (hi : rows[i]? = some (g, l, t)) : Row w g l t :=
  hm.row _ (List.mem_of_getElem? hi)
theorem Mem.cell (hm : Mem w0 S w rows) (i : Nat) {g : Nat} {l : List Value} {t : TypeId} (hi : rows[i]? = some (g, l, t)) (j : Nat) : w.cell? ⟨g, j, none⟩ = l[j]? :=
  (hm.get i hi).cell j
theorem Mem.free (hm : Mem w0 S w rows) (i : Nat) {g : Nat} {l : List Value} {t : TypeId} (hi : rows[i]? = some (g, l, t)) (j : Nat) : w.frozen? ⟨g, j, none⟩ = false :=
  (hm.get i hi).free j
theorem Mem.old (hm : Mem w0 S w rows) {p : Addr} (hp : p.block < w0.heap.size) (hn : p.block ∉ S) : w.cell? p = w0.cell? p :=
  World.cell?_of_block (w := w0) (hm.block p.block hp hn)
theorem Mem.upd (hm : Mem w0 S w rows) (i : Nat) {g : Nat} {l l' : List Value} {t : TypeId} (hi : rows[i]? = some (g, l, t)) (hu : Upd g w w') (hr0 : Row w' g l' t) : Mem w0 S w' (rows.set i (g, l', t)) := by
  have hlt : i < rows.length := (List.getElem?_eq_some_iff.1 hi).1
  have hge : rows[i] = (g, l, t) := (List.getElem?_eq_some_iff.1 hi).2
  have hmem : (g, l, t) ∈ rows := List.mem_of_getElem? hi
  have hkeys : (rows.set i (g, l', t)).map Prod.fst = rows.map Prod.fst := by
    rw [List.map_set]
    apply List.ext_getElem?
    intro j
    by_cases hj : i = j
    · subst hj; simp [hlt, hge]
    · simp [hj]
  refine ⟨hu.os.trans hm.os, hu.tape.trans hm.tape, hu.output.trans hm.output, Nat.le_trans hm.size hu.size, fun k hk hn => ?_, ?_, by rw [hkeys]; exact hm.nodup, ?_⟩
  · have hkg : k ≠ g := by
      rintro rfl
      rcases hm.fresh _ hmem with h | h
      · exact hn h
      · simp at h; omega
    exact (hu.block k (Nat.lt_of_lt_of_le hk hm.size) hkg).trans (hm.block k hk hn)
  · intro r hr
    obtain ⟨j, hj, hrj⟩ := List.getElem_of_mem hr
    rw [List.getElem_set] at hrj
    by_cases hij : i = j
    · rw [if_pos hij] at hrj; subst hrj; exact hr0
    · rw [if_neg hij] at hrj
      have hj' : j < rows.length := by simpa using hj
      have hrow := hm.row r (hrj ▸ List.getElem_mem hj')
      refine hu.row hrow ?_
      intro he
      have h1 : (rows.map Prod.fst)[i]'(by simpa using hlt) = (rows.map Prod.fst)[j]'(by simpa using hj') := by simp [hge, hrj, he]
      exact hij ((List.getElem_inj hm.nodup).1 h1)
  · intro r hr
    have : r.1 ∈ (rows.set i (g, l', t)).map Prod.fst := List.mem_map_of_mem hr
    rw [hkeys] at this
    obtain ⟨r', hr', he⟩ := List.mem_map.1 this
    have := hm.fresh r' hr'
    rwa [he] at this
theorem Mem.setCell (hm : Mem w0 S w rows) (i : Nat) {g : Nat} {l : List Value} {t : TypeId} (hi : rows[i]? = some (g, l, t)) (j : Nat) (v : Value) : Mem w0 S (w.setCell ⟨g, j, none⟩ v) (rows.set i (g, l.set j v, t)) :=
  hm.set i hi j v (fun _ hu hr => hm.upd i hi hu hr)
theorem Mem.below (hm : Mem w0 [] w rows) : Below w0.heap.size w0 w := ⟨hm.os, hm.tape, hm.output, hm.size, fun k hk => hm.block k hk (by simp)⟩
theorem Mem.toUpd {g : Nat} (hm : Mem w0 [g] w rows) : Upd g w0 w := ⟨hm.os, hm.tape, hm.output, hm.size, fun k hk hn => hm.block k hk (by simpa using hn)⟩
theorem Mem.sub (hm : Mem w0 S w rows) {rows' : List (Nat × List Value × TypeId)} (h : rows'.Sublist rows) : Mem w0 S w rows' :=
  ⟨hm.os, hm.tape, hm.output, hm.size, hm.block, fun r hr => hm.row r (h.subset hr), (h.map _).nodup hm.nodup, fun r hr => hm.fresh r (h.subset hr)⟩
theorem Mem.tail {r : Nat × List Value × TypeId} (hm : Mem w0 S w (r :: rows)) : Mem w0 S w rows := hm.sub (List.sublist_cons_self _ _)
theorem Mem.swap {r r' : Nat × List Value × TypeId} (hm : Mem w0 S w (r :: r' :: rows)) : Mem w0 S w (r' :: r :: rows) :=
  ⟨hm.os, hm.tape, hm.output, hm.size, hm.block, fun q hq => hm.row q (by simp only [List.mem_cons] at hq ⊢; rcases hq with h | h | h <;> simp [h]), by
    have := hm.nodup
    simp only [List.map_cons, List.nodup_cons, List.mem_cons, not_or] at this ⊢
    exact ⟨⟨fun h => this.1.1 h.symm, this.2.1⟩, this.1.2, this.2.2⟩, fun q hq => hm.fresh q (by simp only [List.mem_cons] at hq ⊢; rcases hq with h | h | h <;> simp [h])⟩
theorem Mem.ne {r : Nat × List Value × TypeId} (hm : Mem w0 S w (r :: rows)) (i : Nat) {q : Nat × List Value × TypeId} (hi : rows[i]? = some q) : r.1 ≠ q.1 := by
  have := hm.nodup
  simp only [List.map_cons, List.nodup_cons] at this
  intro he
  exact this.1 (he ▸ List.mem_map_of_mem (List.mem_of_getElem? hi))
end
section
variable {P : Program} {ops : Array Oper} {rest : List Oper} {a : Act} {w w0 : World} {Q : Exit → Act → World → Prop} {dst : Option Tmp} {typ : TypeId} {pos : String} {aft : Array Edge} {S : List Nat} {rows : List (Nat × List Value × TypeId)}
/-- A guard: the operation that stands first is this one, and writes this slot. -/
theorem at_op (dst : Option Tmp) (op : Op) (h : wpList P ops Q ({ dst := dst, op := op, type := typ, pos := pos, after := aft, guard := none } :: rest) a w) :
    wpList P ops Q ({ dst := dst, op := op, type := typ, pos := pos, after := aft, guard := none } :: rest) a w := h
theorem wpl_alloc {ty : TypeId} (z : List Value) (hz : ∀ w, (zeroValue ty).run P w = .ok (.agg z.toArray) w) (hm : Mem w0 S w rows)
    (h : ∀ w' g, Mem w0 S w' ((g, z, ty) :: rows) → wpList P ops Q rest (a.put dst (.pointer (some ⟨g, 0, none⟩))) w') :
    wpList P ops Q ({ dst := dst, op := .alloc ty, type := typ, pos := pos, after := aft, guard := none } :: rest) a w := by
  refine wpList_plain rfl fun K hK => ?_
  have hh := hK _ _ (h _ _ (hm.alloc z ty))
  unfold Oper.wp execOp
  simp [Instr.alloc, newVar, newRow, newObj, hz, Value.cells]
  exact hh
theorem wpl_box {ty : TypeId} {x : Operand} (l : List Value) (hx : a.eval x = .agg l.toArray) (hm : Mem w0 S w rows)
    (h : ∀ w' g, Mem w0 S w' ((g, l, ty) :: rows) → wpList P ops Q rest (a.put dst (.pointer (some ⟨g, 0, none⟩))) w') :
    wpList P ops Q ({ dst := dst, op := .box ty x, type := typ, pos := pos, after := aft, guard := none } :: rest) a w := by
  refine wpList_plain rfl fun K hK => ?_
  have hh := hK _ _ (h _ _ (hm.alloc l ty))
  unfold Oper.wp execOp
  simp [Instr.box, newVar, newRow, newObj, hx, Value.cells]
  exact hh
theorem wpl_ldw {ty : TypeId} {x : Operand} (i : Nat) {g : Nat} {l : List Value} {t : TypeId} (hm : Mem w0 S w rows) (hi : rows[i]? = some (g, l, t)) (hx : a.eval x = .pointer (some ⟨g, 0, none⟩))
    (d : TypeDesc) (hu : P.underlying ty = some d) (hd : (match d with | .struct _ | .array _ _ => true | _ => false) = true) (n : Nat) (hs : (P.info? ty).map (·.size) = some n) (hn : l.length = n)
    (h : wpList P ops Q rest (a.put dst (.agg l.toArray)) w) :
    wpList P ops Q ({ dst := dst, op := .load ty x, type := typ, pos := pos, after := aft, guard := none } :: rest) a w :=
  wpList_load_row rfl ty x rfl g hx t l.toArray (0, 0) d (hm.get i hi) hu hd (by rw [hs]; simp [hn]) h
theorem wpl_stw {ty : TypeId} {x y : Operand} (i : Nat) {g : Nat} {l : List Value} {t : TypeId} (l' : List Value) (hm : Mem w0 S w rows) (hi : rows[i]? = some (g, l, t)) (hx : a.eval x = .pointer (some ⟨g, 0, none⟩))
    (hy : a.eval y = .agg l'.toArray) (n : Nat) (hs : (P.info? ty).map (·.size) = some n) (hn : l.length = n) (hn' : l'.length = n) (h1 : ∀ v ∈ l', v.oneCell' = true)
    (h : ∀ w', Mem w0 S w' (rows.set i (g, l', t)) → wpList P ops Q rest a w') :
    wpList P ops Q ({ dst := none, op := .store ty x y, type := typ, pos := pos, after := aft, guard := none } :: rest) a w := by
  refine wpList_plain rfl fun K hK => ?_
  have hr := hm.get i hi
  have hh := hK _ _ (h _ (hm.upd i hi (Upd.setRow g w l'.toArray) (hr.setRow l')))
  unfold Oper.wp execOp
  simp only [hx, hy, Instr.storeAt, Instr.sureAddr, Sem.run_bind, Sem.run_pure, Result.andThen_ok,
    run_storeVar_row w g t ty l.toArray l'.toArray hr (by rw [hs]; simp [hn']) (by simp [hn, hn']) (by simpa using h1)]
  exact hh
theorem wpl_ldc {ty : TypeId} {x : Operand} (i : Nat) {g : Nat} {l : List Value} {t : TypeId} (j : Nat) (v : Value) (hm : Mem w0 S w rows) (hi : rows[i]? = some (g, l, t)) (hx : a.eval x = .pointer (some ⟨g, j, none⟩))
    (ha : ∀ w, (isAgg ty).run P w = .ok false w) (hv : l[j]? = some v)
    (h : wpList P ops Q rest (a.put dst v) w) :
    wpList P ops Q ({ dst := dst, op := .load ty x, type := typ, pos := pos, after := aft, guard := none } :: rest) a w := by
  refine wpList_plain rfl fun K hK => ?_
  have hh := hK _ _ h
  have hc : w.cell? ⟨g, j, none⟩ = some v := by rw [hm.cell i hi, hv]
  have hld : (loadVar ty ⟨g, j, none⟩).run P w = .ok v w := by
    simp [loadVar, ha, go_sem, hc]
  unfold Oper.wp execOp
  simp only [hx, Instr.loadAt, Instr.sureAddr, Sem.run_bind, Sem.run_pure, Result.andThen_ok, hld]
  exact hh
theorem wpl_stc {ty : TypeId} {x y : Operand} (i : Nat) {g : Nat} {l : List Value} {t : TypeId} (j : Nat) (v : Value) (hm : Mem w0 S w rows) (hi : rows[i]? = some (g, l, t)) (hx : a.eval x = .pointer (some ⟨g, j, none⟩))
    (hy : a.eval y = v) (hs : (P.info? ty).map (·.size) = some 1) (hj : j < l.length) (hc : v.cells = #[v]) (h1 : v.oneCell' = true)
    (h : ∀ w', Mem w0 S w' (rows.set i (g, l.set j v, t)) → wpList P ops Q rest a w') :
    wpList P ops Q ({ dst := none, op := .store ty x y, type := typ, pos := pos, after := aft, guard := none } :: rest) a w := by
  refine wpList_plain rfl fun K hK => ?_
  have hr := hm.get i hi
  have hh := hK _ _ (h _ (hm.upd i hi (Upd.setCell g j w v) (hr.set j v)))
  have hcell : w.cell? ⟨g, j, none⟩ = some l[j] := by rw [hm.cell i hi]; simp [hj]
  have hadd : (⟨g, j, none⟩ : Addr).add 0 = ⟨g, j, none⟩ := by unfold Addr.add; split <;> simp_all
  have hst : (storeVar ty ⟨g, j, none⟩ v).run P w = .ok () (w.setCell ⟨g, j, none⟩ v) := by
    cases hq : P.info? ty with
    | none => simp [hq] at hs
    | some q =>
      have hs1 : q.size = 1 := by simpa [hq] using hs
      have hs2 : (store ⟨g, j, none⟩ v).run P w = .ok () (w.setCell ⟨g, j, none⟩ v) := by
        rw [run_store P w _ v _ h1, hcell]; simp [hr.free j]
      simp [storeVar, sizeOf, typeInfo, hq, hc, hs1, storeCells, hadd, hs2]
  unfold Oper.wp execOp
  simp only [hx, hy, Instr.storeAt, Instr.sureAddr, Sem.run_bind, Sem.run_pure, Result.andThen_ok, hst]
  exact hh
theorem add_at (g o j : Nat) : (⟨g, o, none⟩ : Addr).add j = ⟨g, o + j, none⟩ := by unfold Addr.add; split <;> simp_all
theorem run_sla (w : World) {ty : TypeId} {n : Nat} {elem : TypeId} (hu : P.underlying ty = some (.array n elem)) (hs : (P.info? elem).map (·.size) = some 1) (g o l m : Nat) (hlm : l + m ≤ n) (hln : l < n) (lo hi : Option Value)
    (hlo : lo = some (.int .i64 l) ∨ (lo = none ∧ l = 0)) (hhi : hi = some (.int .i64 (l + m : Nat)) ∨ (hi = none ∧ l + m = n)) :
    (Instr.sliceAt ty (.pointer (some ⟨g, o, none⟩)) lo hi none).run P w = .ok (.slice (some ⟨g, o + l, none⟩) m (n - l)) w := by
  cases hq : P.info? elem with
  | none => simp [hq] at hs
  | some q =>
    have hs1 : q.size = 1 := by simpa [hq] using hs
    have hsz : (sizeOf elem).run P w = .ok 1 w := by simp [sizeOf, typeInfo, hq, hs1]
    have hne : ¬ n = l := by omega
    have bnd : ∀ (j y : Nat) (code : BoundsCode), j ≤ y → (Instr.sliceBound (.int .i64 (j : Int)) y code).run P w = .ok j w := by
      intro j y code hj
      rw [run_sliceBound (P := P) w .i64 (j : Int) y code (by omega) (by omega)]
      simp
    obtain ⟨h, hh⟩ : ∃ h, h = l + m := ⟨_, rfl⟩
    rw [← hh] at hhi hlm
    have hb : (Instr.sliceBounds false n n lo hi none).run P w = .ok (l, h, n) w := by
      rcases hlo with rfl | ⟨rfl, rfl⟩
      · rcases hhi with rfl | ⟨rfl, hn⟩
        · simp [Instr.sliceBounds, bnd h n _ hlm, bnd l h _ (by omega)]
        · simp [Instr.sliceBounds, bnd l n _ (by omega), hn]
      · rcases hhi with rfl | ⟨rfl, hn⟩
        · simp [Instr.sliceBounds, bnd h n _ hlm]
        · simp [Instr.sliceBounds, hn]
    have hml : h - l = m := by omega
    simp [Instr.sliceAt, Instr.sureAddr, run_underlying hu, hb, hsz, hne, add_at, hml]
theorem wpl_sla {ty : TypeId} {x : Operand} {lo hi : Option Operand} (n : Nat) {elem : TypeId} (hu : P.underlying ty = some (.array n elem)) (hs : (P.info? elem).map (·.size) = some 1) {g o : Nat} (l m : Nat) (hlm : l + m ≤ n) (hln : l < n) (hx : a.eval x = .pointer (some ⟨g, o, none⟩))
    (hlo : lo.map a.eval = some (.int .i64 l) ∨ (lo.map a.eval = none ∧ l = 0)) (hhi : hi.map a.eval = some (.int .i64 (l + m : Nat)) ∨ (hi.map a.eval = none ∧ l + m = n))
    (h : wpList P ops Q rest (a.put dst (.slice (some ⟨g, o + l, none⟩) m (n - l))) w) :
    wpList P ops Q ({ dst := dst, op := .slice ty x lo hi none, type := typ, pos := pos, after := aft, guard := none } :: rest) a w := by
  refine wpList_plain rfl fun K hK => ?_
  have hh := hK _ _ h
  have hr := run_sla (P := P) w hu hs g o l m hlm hln (lo.map a.eval) (hi.map a.eval) hlo hhi
  unfold Oper.wp execOp
  simp only [hx, Option.map_none, hr, Sem.run_bind, Sem.run_pure, Result.andThen_ok]
  exact hh
theorem wpl_ixa {ty : TypeId} {x ix : Operand} (n : Nat) {elem : TypeId} (hu : P.underlying ty = some (.array n elem)) (hs : (P.info? elem).map (·.size) = some 1) (ha : ∀ w, (isAgg elem).run P w = .ok false w) (l : List Value) (j : Nat) {ij : Int} (v : Value) (hj : j < n)
    (hx : a.eval x = .agg l.toArray) (hix : a.eval ix = .int .i64 ij) (hij : ij = (j : Int)) (hv : l[j]? = some v)
    (h : wpList P ops Q rest (a.put dst v) w) :
    wpList P ops Q ({ dst := dst, op := .index ty x ix, type := typ, pos := pos, after := aft, guard := none } :: rest) a w := by
  subst hij
  refine wpList_plain rfl fun K hK => ?_
  have hh := hK _ _ h
  have hr : (Instr.index ty (.agg l.toArray) (.int .i64 (j : Int))).run P w = .ok v w := by
    cases hq : P.info? elem with
    | none => simp [hq] at hs
    | some q =>
      have hs1 : q.size = 1 := by simpa [hq] using hs
      have hsz : (sizeOf elem).run P w = .ok 1 w := by simp [sizeOf, typeInfo, hq, hs1]
      simp [Instr.index, asIntOf, run_underlying hu, hj, hsz, part, ha, hv]
  unfold Oper.wp execOp
  simp only [hx, hix, hr, Sem.run_bind, Sem.run_pure, Result.andThen_ok]
  exact hh
theorem int_at {x : Operand} {il : Int} (l : Nat) (h : a.eval x = .int .i64 il) (he : il = (l : Int)) : (some x).map a.eval = some (.int .i64 l) := by simp [h, he]
theorem wpl_copy {d s : Operand} {dT sT : TypeId} (i : Nat) {g : Nat} {l : List Value} {t : TypeId} (off dLen dCap : Nat) (ad : Addr) (sLen sCap : Nat) (cs : List Value) (hm : Mem w0 S w rows) (hi : rows[i]? = some (g, l, t))
    (hd : a.eval d = .slice (some ⟨g, off, none⟩) dLen dCap) (hs : a.eval s = .slice (some ad) sLen sCap) (elem : TypeId) (hu : P.underlying dT = some (.slice elem)) (hsz : (P.info? elem).map (·.size) = some 1)
    (hn : cs.length = Nat.min sLen dLen) (hsrc : ∀ j v, cs[j]? = some v → w.cell? (ad.add j) = some v) (hfit : off + cs.length ≤ l.length) (h1 : ∀ v ∈ cs, v.oneCell' = true)
    (h : ∀ w', Mem w0 S w' (rows.set i (g, splice l off cs, t)) → wpList P ops Q rest (a.put dst (.int .i64 cs.length)) w') :
    wpList P ops Q ({ dst := dst, op := .call { callee := .builtin .copy, args := #[d, s], argTypes := #[dT, sT] }, type := typ, pos := pos, after := aft, guard := none } :: rest) a w := by
  have hr := hm.get i hi
  refine wpList_copy_own rfl d s dT sT rfl elem hu hsz g off dLen dCap ad sLen sCap hd hs l.toArray t hr cs hn hsrc (by simpa using hfit) h1 ?_
  have hrun := hr.setRow (splice l off cs)
  have hh := h _ (hm.upd i hi (Upd.setRow g w (splice l off cs).toArray) hrun)
  simpa [goInt, splice] using hh
end
/-- The cells of a slice of bytes. -/
def Seg (w : World) (b off : Nat) (cs : List Int) : Prop := ∀ j, j < cs.length → w.cell? ⟨b, off + j, none⟩ = some (.int .u8 (cs.getD j 0))
theorem Seg.src {w : World} {b off : Nat} {cs : List Int} (h : Seg w b off cs) : ∀ j v, (u8s cs)[j]? = some v → w.cell? ((⟨b, off, none⟩ : Addr).add j) = some v := by
  intro j v hv
  have hj : j < cs.length := by
    rcases Nat.lt_or_ge j cs.length with h' | h'
    · exact h'
    · rw [List.getElem?_eq_none (by rw [u8s_length]; exact h')] at hv; cases hv
  rw [u8s_get cs j hj] at hv
  have hadd : (⟨b, off, none⟩ : Addr).add j = ⟨b, off + j, none⟩ := by unfold Addr.add; split <;> simp_all
  rw [hadd, h j hj, hv]
theorem Seg.lt {w : World} {b off : Nat} {cs : List Int} (h : Seg w b off cs) (hc : 0 < cs.length) : b < w.heap.size := block_lt_of_cell (h 0 hc)
theorem Seg.mem {w0 w : World} {S : List Nat} {rows : List (Nat × List Value × TypeId)} {b off : Nat} {cs : List Int} (h : Seg w0 b off cs) (hm : Mem w0 S w rows) (hS : b ∉ S) : Seg w b off cs := by
  intro j hj
  rw [hm.old (p := ⟨b, off + j, none⟩) (h.lt (by omega)) hS]
  exact h j hj
theorem Seg.below {w w' : World} {b off : Nat} {cs : List Int} (h : Seg w b off cs) (hb : Below w.heap.size w w') : Seg w' b off cs := by
  intro j hj
  rw [hb.cell (p := ⟨b, off + j, none⟩) (h.lt (by omega))]
  exact h j hj
theorem Seg.take {w : World} {b off : Nat} {cs : List Int} (h : Seg w b off cs) (n : Nat) : Seg w b off (cs.take n) := by
  intro j hj
  simp at hj
  rw [h j (by omega)]
  have h1 : j < n := by omega
  have h2 : j < cs.length := by omega
  simp [h1, h2]
theorem Seg.drop {w : World} {b off : Nat} {cs : List Int} (h : Seg w b off cs) (n : Nat) : Seg w b (off + n) (cs.drop n) := by
  intro j hj
  simp at hj
  rw [Nat.add_assoc, h (n + j) (by omega)]
  congr 2
  simp
theorem Seg.row {w : World} {g : Nat} {l : List Int} {t : TypeId} (h : Row w g (u8s l) t) : Seg w g 0 l := by
  intro j hj
  rw [Nat.zero_add, h.cell j, u8s_get l j hj]
theorem splice_all {α : Type} (l cs : List α) (h : l.length = cs.length) : splice l 0 cs = cs := by
  simp [splice, h]
theorem ret_cell {P : Program} {fn : Func} {R : Ending → World → Prop} {a : Act} {w w0 : World} {S : List Nat} {rows : List (Nat × List Value × TypeId)} {p : Tmp} {ty : TypeId} (i : Nat) {g : Nat} {l : List Value} {t : TypeId} (hm : Mem w0 S w rows) (hi : rows[i]? = some (g, l, t))
    (hres : fn.results = #[.cell p ty]) (hp : a.tmps.getD p undef = .pointer (some ⟨g, 0, none⟩)) (d : TypeDesc) (hu : P.underlying ty = some d) (hd : (match d with | .struct _ | .array _ _ => true | _ => false) = true)
    (n : Nat) (hs : (P.info? ty).map (·.size) = some n) (hn : l.length = n) (hd0 : a.defers = []) (hR : R (.returned (.agg l.toArray)) w) : bodyPost P fn R .ret a w :=
  bodyPost_ret (results_cell_row hres a.tmps w g t l.toArray (0, 0) d hp (hm.get i hi) hu hd (by rw [hs]; simp [hn])) hd0 hR
end Go.Proofs.YtjmlgjbojmlibaaGreatDoor
namespace Go.Proofs.YtjmlgjbojmlibaaGreatDoor
open Go Go.RowKit
theorem wrap_nat (n : Nat) (h : n < 4611686018427387904) : IntKind.i64.wrap (n : Int) = (n : Int) := by
  simp [IntKind.wrap, IntKind.bits, IntKind.signed]
  split <;> omega
theorem below_upd {B g : Nat} {a b c : World} (h : Below B a b) (hu : Upd g b c) (hg : B ≤ g) (hB : B ≤ b.heap.size) : Below B a c :=
  h.trans ⟨hu.os, hu.tape, hu.output, hu.size, fun k hk => hu.block k (by omega) (by omega)⟩
section
variable {P : Program}
theorem run_loadVar_seg (w : World) (g off n : Nat) (ty t : TypeId) (l : List Value) (d : TypeDesc) (hg : Row w g l t) (hu : P.underlying ty = some d)
    (hd : (match d with | .struct _ | .array _ _ => true | _ => false) = true) (hi : (P.info? ty).map (·.size) = some n) (hn : off + n ≤ l.length) :
    (loadVar ty ⟨g, off, none⟩).run P w = .ok (.agg ((l.drop off).take n).toArray) w := by
  have hlen : ((l.drop off).take n).length = n := by simp; omega
  have hl : (loadCells ⟨g, off, none⟩ ((l.drop off).take n).length).run P w = .ok ((l.drop off).take n).toArray w :=
    run_loadCells_list (P := P) w ⟨g, off, none⟩ ((l.drop off).take n) (fun j v hv => by
      rw [add_at, hg.cell]
      have hj : j < n := by
        rcases Nat.lt_or_ge j n with h | h
        · exact h
        · rw [List.getElem?_eq_none (by omega)] at hv; cases hv
      rw [List.getElem?_take, if_pos hj, List.getElem?_drop] at hv
      exact hv)
  rw [hlen] at hl
  cases hq : P.info? ty with
  | none => simp [hq] at hi
  | some i =>
    have hs : i.size = n := by simpa [hq] using hi
    have hagg : (isAgg ty).run P w = .ok true w := by
      unfold isAgg
      rw [Sem.run_bind, run_underlying hu w]
      cases d <;> simp_all
    simp [loadVar, Sem.run_bind, hagg, sizeOf, typeInfo, hq, hs, hl]
theorem run_storeVar_seg (w : World) (g off : Nat) (ty t : TypeId) (l cs : List Value) (hg : Row w g l t) (hi : (P.info? ty).map (·.size) = some cs.length) (hn : off + cs.length ≤ l.length) (h1 : ∀ v ∈ cs, v.oneCell' = true) :
    (storeVar ty ⟨g, off, none⟩ (.agg cs.toArray)).run P w = .ok () (w.setRow g (splice l off cs).toArray) := by
  have hst := run_storeCells_at P g off t cs 0 l.toArray w hg (by simpa using hn) h1
  cases hq : P.info? ty with
  | none => simp [hq] at hi
  | some i =>
    have hs : i.size = cs.length := by simpa [hq] using hi
    have e : (l.take off ++ cs ++ l.drop (off + cs.length)) = splice l off cs := by simp [splice]
    simp only [Nat.add_zero, e] at hst
    simp [storeVar, sizeOf, typeInfo, hq, Value.cells, hs, hst]
end
/-- Two arrays of integers are one just where their lists are. -/
theorem run_eqa {P : Program} (w : World) (d : Nat) (t e : TypeId) (n : Nat) (k : IntKind) (ht : P.underlying t = some (.array n e)) (he : P.underlying e = some (.int k)) (hs : (P.info? e).map (·.size) = some 1) (xs ys : List Int) (hx : xs.length = n) (hy : ys.length = n) :
    (Op.equalIn (d + 2) t (.agg (xs.map (Value.int k)).toArray) (.agg (ys.map (Value.int k)).toArray)).run P w = .ok (decide (xs = ys)) w := by
  have hsz : (sizeOf e).run P w = .ok 1 w := by
    cases hq : P.info? e with
    | none => simp [hq] at hs
    | some q =>
      have hs1 : q.size = 1 := by simpa [hq] using hs
      simp [sizeOf, typeInfo, hq, hs1]
  have hp : ∀ (zs : List Int) (i : Nat) (z : Int), zs[i]? = some z → (part e (zs.map (Value.int k)).toArray (i * 1)).run P w = .ok (.int k z) w := by
    intro zs i z hz
    simp [part, isAgg, run_underlying he, hz]
  rw [Op.equalIn]
  simp only [Sem.run_bind, run_underlying ht, Result.andThen_ok, hsz, Std.Legacy.Range.forIn_eq_forIn_range', Std.Legacy.Range.size, Nat.sub_zero, Nat.add_sub_cancel, Nat.div_one]
  have hd0 : decide (xs = ys) = decide (xs.drop 0 = ys.drop 0) := by simp
  rw [hd0]
  obtain ⟨m, hmn⟩ : ∃ m, m = n := ⟨n, rfl⟩
  have hle : 0 + m = n := by omega
  rw [show List.range' 0 n 1 = List.range' 0 m 1 by rw [hmn]]
  clear hmn hd0
  generalize 0 = i at hle ⊢
  induction m generalizing i with
  | zero =>
    rw [List.drop_of_length_le (by omega), List.drop_of_length_le (by omega)]
    simp
  | succ m ih =>
    have h1 : i < xs.length := by omega
    have h2 : i < ys.length := by omega
    have hdec : xs.drop i = ys.drop i ↔ (xs[i] = ys[i] ∧ xs.drop (i + 1) = ys.drop (i + 1)) := by
      rw [List.drop_eq_getElem_cons h1, List.drop_eq_getElem_cons h2, List.cons.injEq]
    have hdec2 : decide (xs.drop i = ys.drop i) = (decide (xs[i] = ys[i]) && decide (xs.drop (i + 1) = ys.drop (i + 1))) := by
      rw [Bool.eq_iff_iff, Bool.and_eq_true, decide_eq_true_iff, decide_eq_true_iff, decide_eq_true_iff]
      exact hdec
    rw [List.range'_succ, hdec2]
    simp only [List.forIn_cons, Sem.run_bind, hp xs i xs[i] (by simp [h1]), hp ys i ys[i] (by simp [h2]), run_equalIn_int w d e k k _ _ he, Result.andThen_ok]
    by_cases hb : xs[i] = ys[i]
    · simp only [hb, beq_self_eq_true, Bool.not_true, Bool.false_eq_true, if_false, Sem.run_pure, Result.andThen_ok]
      rw [ih (i + 1) (by omega)]
      simp only [decide_true, Bool.true_and]
    · have hb' : (xs[i] == ys[i]) = false := by simpa using hb
      simp only [hb', hb, decide_false, Bool.false_and, Bool.not_false, if_true, Sem.run_pure, Result.andThen_ok]
theorem run_eqla {P : Program} (w : World) (t e : TypeId) (n : Nat) (k : IntKind) (ht : P.underlying t = some (.array n e)) (he : P.underlying e = some (.int k)) (hs : (P.info? e).map (·.size) = some 1) (xs ys : List Int) (hx : xs.length = n) (hy : ys.length = n) :
    (binOp .eql t (.agg (xs.map (Value.int k)).toArray) (.agg (ys.map (Value.int k)).toArray)).run P w = .ok (.bool (decide (xs = ys))) w := by
  rw [run_eql_struct, run_eqa w 9998 t e n k ht he hs xs ys hx hy]
  rfl
section
variable {P : Program} {ops : Array Oper} {rest : List Oper} {a : Act} {w w0 : World} {Q : Exit → Act → World → Prop} {dst : Option Tmp} {typ : TypeId} {pos : String} {aft : Array Edge} {S : List Nat} {rows : List (Nat × List Value × TypeId)}
theorem wpl_lds {ty : TypeId} {x : Operand} (i : Nat) {g : Nat} {l : List Value} {t : TypeId} (off : Nat) (sub : List Value) (hm : Mem w0 S w rows) (hi : rows[i]? = some (g, l, t)) (hx : a.eval x = .pointer (some ⟨g, off, none⟩))
    (d : TypeDesc) (hu : P.underlying ty = some d) (hd : (match d with | .struct _ | .array _ _ => true | _ => false) = true) (n : Nat) (hs : (P.info? ty).map (·.size) = some n) (hn : off + n ≤ l.length) (hsub : (l.drop off).take n = sub)
    (h : wpList P ops Q rest (a.put dst (.agg sub.toArray)) w) :
    wpList P ops Q ({ dst := dst, op := .load ty x, type := typ, pos := pos, after := aft, guard := none } :: rest) a w := by
  refine wpList_plain rfl fun K hK => ?_
  have hh := hK _ _ h
  unfold Oper.wp execOp
  simp only [hx, Instr.loadAt, Instr.sureAddr, Sem.run_bind, Sem.run_pure, Result.andThen_ok, run_loadVar_seg w g off n ty t l d (hm.get i hi) hu hd hs hn, hsub]
  exact hh
theorem wpl_sts {ty : TypeId} {x y : Operand} (i : Nat) {g : Nat} {l : List Value} {t : TypeId} (off : Nat) (cs new : List Value) (hm : Mem w0 S w rows) (hi : rows[i]? = some (g, l, t)) (hx : a.eval x = .pointer (some ⟨g, off, none⟩))
    (hy : a.eval y = .agg cs.toArray) (n : Nat) (hs : (P.info? ty).map (·.size) = some n) (hn : cs.length = n) (hl : off + n ≤ l.length) (h1 : ∀ v ∈ cs, v.oneCell' = true) (hnew : splice l off cs = new)
    (h : ∀ w', Mem w0 S w' (rows.set i (g, new, t)) → wpList P ops Q rest a w') :
    wpList P ops Q ({ dst := none, op := .store ty x y, type := typ, pos := pos, after := aft, guard := none } :: rest) a w := by
  refine wpList_plain rfl fun K hK => ?_
  have hr := hm.get i hi
  subst hnew
  have hh := hK _ _ (h _ (hm.upd i hi (Upd.setRow g w (splice l off cs).toArray) (hr.setRow _)))
  unfold Oper.wp execOp
  simp only [hx, hy, Instr.storeAt, Instr.sureAddr, Sem.run_bind, Sem.run_pure, Result.andThen_ok, run_storeVar_seg w g off ty t l cs hr (by rw [hs, hn]) (by omega) h1]
  exact hh
theorem wpl_copyN {d s : Operand} {dT sT : TypeId} (i : Nat) {g : Nat} {l : List Value} {t : TypeId} (off dLen dCap : Nat) (ad : Addr) (sLen sCap : Nat) (cs : List Value) (n : Nat) (new : List Value) (hm : Mem w0 S w rows) (hi : rows[i]? = some (g, l, t))
    (hd : a.eval d = .slice (some ⟨g, off, none⟩) dLen dCap) (hs : a.eval s = .slice (some ad) sLen sCap) (elem : TypeId) (hu : P.underlying dT = some (.slice elem)) (hsz : (P.info? elem).map (·.size) = some 1)
    (hcn : cs.length = n) (hn : n = Nat.min sLen dLen) (hsrc : ∀ j v, cs[j]? = some v → w.cell? (ad.add j) = some v) (hfit : off + n ≤ l.length) (h1 : ∀ v ∈ cs, v.oneCell' = true) (hnew : splice l off cs = new)
    (h : ∀ w', Mem w0 S w' (rows.set i (g, new, t)) → wpList P ops Q rest (a.put dst (.int .i64 n)) w') :
    wpList P ops Q ({ dst := dst, op := .call { callee := .builtin .copy, args := #[d, s], argTypes := #[dT, sT] }, type := typ, pos := pos, after := aft, guard := none } :: rest) a w := by
  subst hcn hnew
  exact wpl_copy i off dLen dCap ad sLen sCap cs hm hi hd hs elem hu hsz hn hsrc hfit h1 h
theorem wpl_sls {ty : TypeId} {x lo : Operand} (elem : TypeId) (hu : P.underlying ty = some (.slice elem)) (hs : (P.info? elem).map (·.size) = some 1) {p : Option Addr} {len cap : Nat} (n : Nat) {i : Int} (hx : a.eval x = .slice p len cap) (hlo : a.eval lo = .int .i64 i) (hi : i = (n : Int)) (hn : n ≤ len)
    (h : ∀ p', p' = (if cap = n then p else p.map (·.add n)) → wpList P ops Q rest (a.put dst (.slice p' (len - n) (cap - n))) w) :
    wpList P ops Q ({ dst := dst, op := .slice ty x (some lo) none none, type := typ, pos := pos, after := aft, guard := none } :: rest) a w := by
  subst hi
  refine wpList_plain rfl fun K hK => ?_
  have hh := hK _ _ (h _ rfl)
  have hr : (Instr.sliceAt ty (.slice p len cap) (some (.int .i64 (n : Int))) none none).run P w = .ok (.slice (if cap = n then p else p.map (·.add n)) (len - n) (cap - n)) w := by
    cases hq : P.info? elem with
    | none => simp [hq] at hs
    | some q =>
      have hs1 : q.size = 1 := by simpa [hq] using hs
      have hsz : (sizeOf elem).run P w = .ok 1 w := by simp [sizeOf, typeInfo, hq, hs1]
      have hb : (Instr.sliceBounds true len cap (some (.int .i64 (n : Int))) none none).run P w = .ok (n, len, cap) w := by
        have := run_sliceBound (P := P) w .i64 (n : Int) len .sliceB (by omega) (by omega)
        simp [Instr.sliceBounds, this]
      simp [Instr.sliceAt, Instr.slice, run_underlying hu, hb, hsz]
  unfold Oper.wp execOp
  simp only [hx, hlo, Option.map_some, Option.map_none, hr, Sem.run_bind, Sem.run_pure, Result.andThen_ok]
  exact hh
theorem wpl_build {ty : TypeId} {pl : List (Nat × Operand)} (l : List Value) (ps : List (Nat × Value)) (hps : (pl.map fun p => (p.1, a.eval p.2)) = ps) (hb : P.built ty ps = some l.toArray)
    (h : wpList P ops Q rest (a.put dst (.agg l.toArray)) w) :
    wpList P ops Q ({ dst := dst, op := .build ty pl.toArray, type := typ, pos := pos, after := aft, guard := none } :: rest) a w := by
  refine wpList_plain rfl fun K hK => ?_
  have hh := hK _ _ h
  have e : (pl.toArray.map fun (i, x) => (i, a.eval x)).toList = pl.map fun p => (p.1, a.eval p.2) := by simp
  refine wp_build ty pl.toArray rfl (by rw [e, hps, hb]; rfl) ?_
  rw [e, hps, hb]
  exact hh
theorem wpl_make {ty : TypeId} {x y : Operand} (elem : TypeId) (hu : P.underlying ty = some (.slice elem)) (z : Value) (hi : (P.info? elem).map (fun i => (i.zero, i.size, i.bytes)) = some (some z, 1, 1)) (hz : z.cells = #[z]) (n : Nat) {i j : Int} (hx : a.eval x = .int .i64 i) (hxi : i = (n : Int)) (hy : a.eval y = .int .i64 j) (hyj : j = (n : Int)) (hn : n ≤ 65536) (hm : Mem w0 S w rows)
    (h : ∀ w' g, Mem w0 S w' ((g, List.replicate n z, elem) :: rows) → wpList P ops Q rest (a.put dst (.slice (some ⟨g, 0, none⟩) n n)) w') :
    wpList P ops Q ({ dst := dst, op := .makeSlice ty x y, type := typ, pos := pos, after := aft, guard := none } :: rest) a w := by
  subst hxi hyj
  refine wpList_plain rfl fun K hK => ?_
  have hh := hK _ _ (h _ _ (hm.alloc (List.replicate n z) elem))
  have hr : (Instr.makeSlice ty (.int .i64 (n : Int)) (.int .i64 (n : Int))).run P w = .ok (.slice (some ⟨w.heap.size, 0, none⟩) n n) (w.alloc (.cells (List.replicate n z).toArray elem)) := by
    cases hq : P.info? elem with
    | none => simp [hq] at hi
    | some q =>
      simp only [hq, Option.map_some, Option.some.injEq, Prod.mk.injEq] at hi
      obtain ⟨h0, h1, h2⟩ := hi
      have := run_makeSlice (P := P) w ty elem q z hu hq h0 .i64 .i64 (n : Int) (n : Int) (by omega) (by omega) (by rw [h1]; simp; omega) (by rw [h2]; simp; omega) (by omega)
      rw [this, h1, hz]
      have e : madeCells #[z] ((n : Int).toNat * 1) = (List.replicate n z).toArray := by
        unfold madeCells
        apply Array.ext
        · simp
        · intro k h1 h2
          simp [Nat.mod_one]
      rw [e]
      simp
  unfold Oper.wp execOp
  simp only [hx, hy, Sem.run_bind, Sem.run_pure, Result.andThen_ok, hr]
  exact hh
end
section
variable {P : Program} {ops : Array Oper} {rest : List Oper} {a : Act} {w w0 : World} {Q : Act → Prop} {dst : Option Tmp} {typ : TypeId} {pos : String} {aft : Array Edge} {S : List Nat} {rows : List (Nat × List Value × TypeId)}
theorem wps_run {o : Oper} (hg : o.guard = none) (v : Value) (hr : (execOp a.eval o).run P w = .ok (.value v) w) (h : wpStill P ops w Q rest (a.put o.dst v)) : wpStill P ops w Q (o :: rest) a := by
  refine wpStill_step fun K hK => ?_
  rw [if_pos (by simp [Region.wanted, hg])]
  unfold Oper.still
  rw [hr]
  exact ⟨rfl, hK _ h⟩
theorem wps_sla {ty : TypeId} {x : Operand} {lo hi : Option Operand} (n : Nat) {elem : TypeId} (hu : P.underlying ty = some (.array n elem)) (hs : (P.info? elem).map (·.size) = some 1) {g o : Nat} (l m : Nat) (hlm : l + m ≤ n) (hln : l < n) (hx : a.eval x = .pointer (some ⟨g, o, none⟩))
    (hlo : lo.map a.eval = some (.int .i64 l) ∨ (lo.map a.eval = none ∧ l = 0)) (hhi : hi.map a.eval = some (.int .i64 (l + m : Nat)) ∨ (hi.map a.eval = none ∧ l + m = n))
    (h : wpStill P ops w Q rest (a.put dst (.slice (some ⟨g, o + l, none⟩) m (n - l)))) :
    wpStill P ops w Q ({ dst := dst, op := .slice ty x lo hi none, type := typ, pos := pos, after := aft, guard := none } :: rest) a := by
  have hr := run_sla (P := P) w hu hs g o l m hlm hln (lo.map a.eval) (hi.map a.eval) hlo hhi
  refine wps_run rfl _ ?_ h
  unfold execOp
  simp only [hx, Option.map_none, hr, Sem.run_bind, Sem.run_pure, Result.andThen_ok]
theorem wps_lds {ty : TypeId} {x : Operand} (i : Nat) {g : Nat} {l : List Value} {t : TypeId} (off : Nat) (sub : List Value) (hm : Mem w0 S w rows) (hi : rows[i]? = some (g, l, t)) (hx : a.eval x = .pointer (some ⟨g, off, none⟩))
    (d : TypeDesc) (hu : P.underlying ty = some d) (hd : (match d with | .struct _ | .array _ _ => true | _ => false) = true) (n : Nat) (hs : (P.info? ty).map (·.size) = some n) (hn : off + n ≤ l.length) (hsub : (l.drop off).take n = sub)
    (h : wpStill P ops w Q rest (a.put dst (.agg sub.toArray))) :
    wpStill P ops w Q ({ dst := dst, op := .load ty x, type := typ, pos := pos, after := aft, guard := none } :: rest) a := by
  refine wps_run rfl _ ?_ h
  unfold execOp
  simp only [hx, Instr.loadAt, Instr.sureAddr, Sem.run_bind, Sem.run_pure, Result.andThen_ok, run_loadVar_seg w g off n ty t l d (hm.get i hi) hu hd hs hn, hsub]
end
/-- A region that draws its order, its first n operations only reading, the others in a row. -/
theorem wp_tail {P : Program} {id : Nat} {Q : Exit → Act → World → Prop} {a : Act} {w w0 : World} {S : List Nat} {rows : List (Nat × List Value × TypeId)} {l : List Oper} (n : Nat) (hmix : P.follows .mixedOrders = true) (hB : Region.lexTailB .any l.toArray n = true) (hm : Mem w0 S w rows)
    (h : ∀ w', Mem w0 S w' rows → wpStill P l.toArray w' (fun a' => wpList P l.toArray Q (l.drop n) a' w') (l.take n) a) : (Code.region id l.toArray true).wp P Q a w :=
  wp_region_still_tail n hmix hB (h _ hm.drew)
/-- A slice of bytes that holds these, apart from block g. -/
def Sl (w : World) (g : Nat) (v : Value) (cs : List Int) : Prop :=
  ∃ p cap, v = .slice p cs.length cap ∧ cs.length ≤ cap ∧ (0 < cs.length → ∃ b off, p = some ⟨b, off, none⟩ ∧ b ≠ g ∧ Seg w b off cs)
def slLen : Value → Nat
  | .slice _ n _ => n
  | _ => 0
theorem sl_drop {w : World} {g b off cap n : Nat} {cs : List Int} {p : Option Addr} (hc : cs.length ≤ cap) (hn : n ≤ cs.length) (hne : b ≠ g) (hs : Seg w b off cs) (hp : p = (if cap = n then some ⟨b, off, none⟩ else (some (⟨b, off, none⟩ : Addr)).map (·.add n))) :
    Sl w g (.slice p (cs.length - n) (cap - n)) (cs.drop n) := by
  refine ⟨p, cap - n, by simp, by simp; omega, fun h => ?_⟩
  have hlt : n < cs.length := by simp at h; omega
  rw [if_neg (by omega)] at hp
  exact ⟨b, off + n, by rw [hp]; simp [add_at], hne, hs.drop n⟩
end Go.Proofs.YtjmlgjbojmlibaaGreatDoor
namespace Go.Proofs.YtjmlgjbojmlibaaGreatDoor
open Go Go.RowKit
def strOf (ns : List Int) : ByteArray := ⟨(ns.map fun n => UInt8.ofNat n.toNat).toArray⟩
theorem fold_push (ns : List Int) : ∀ s : ByteArray, ns.foldl (fun r n => r.push (UInt8.ofNat n.toNat)) s = ⟨s.data ++ (ns.map fun n => UInt8.ofNat n.toNat).toArray⟩ := by
  induction ns with
  | nil => intro s; simp
  | cons n ns ih =>
    intro s
    rw [List.foldl_cons, ih]
    simp [ByteArray.push]
theorem strOf_size (ns : List Int) : (strOf ns).size = ns.length := by simp [strOf, ByteArray.size]
theorem byte_back {x y : Int} (hx : 0 ≤ x ∧ x < 256) (hy : 0 ≤ y ∧ y < 256) (h : UInt8.ofNat x.toNat = UInt8.ofNat y.toNat) : x = y := by
  have h' := congrArg UInt8.toNat h
  simp at h'
  omega
theorem strOf_inj {a b : List Int} (ha : Bytes a) (hb : Bytes b) (h : strOf a = strOf b) : a = b := by
  have h1 : (a.map fun n => UInt8.ofNat n.toNat) = (b.map fun n => UInt8.ofNat n.toNat) := by
    have := congrArg ByteArray.data h
    simpa [strOf] using this
  clear h
  induction a generalizing b with
  | nil =>
    cases b with
    | nil => rfl
    | cons y b => simp at h1
  | cons x a ih =>
    cases b with
    | nil => simp at h1
    | cons y b =>
      simp only [List.map_cons, List.cons.injEq] at h1
      rw [byte_back (ha x (by simp)) (hb y (by simp)) h1.1, ih (fun z hz => ha z (by simp [hz])) (fun z hz => hb z (by simp [hz])) h1.2]
theorem strOf_eq {a b : List Int} (ha : Bytes a) (hb : Bytes b) : (strOf a == strOf b) = decide (a = b) := by
  rw [beq_toListBytes, Bool.eq_iff_iff, beq_iff_eq, decide_eq_true_iff]
  refine ⟨fun h => strOf_inj ha hb ?_, fun h => by rw [h]⟩
  rw [ByteArray.toList_eq, ByteArray.toList_eq] at h
  have := congrArg List.toArray h
  simp only [Array.toArray_toList] at this
  cases hx : strOf a
  cases hy : strOf b
  rw [hx, hy] at this
  simp only at this
  rw [this]
section
variable {P : Program} {ops : Array Oper} {rest : List Oper} {a : Act} {w w0 : World} {Q : Exit → Act → World → Prop} {dst : Option Tmp} {typ : TypeId} {pos : String} {aft : Array Edge} {S : List Nat} {rows : List (Nat × List Value × TypeId)}
end
def digs : ByteArray := { data := #[48, 49, 50, 51, 52, 53, 54, 55, 56, 57, 97, 98, 99, 100, 101, 102] }
def hexRow (l : List Int) (k : Nat) : List Int := hexOf (l.take k) ++ List.replicate (64 - 2 * k) 0
end Go.Proofs.YtjmlgjbojmlibaaGreatDoor
namespace Go.Proofs.YtjmlgjbojmlibaaGreatDoor
open Go Go.RowKit
theorem bytes_none : Bytes [] := by intro x hx; cases hx
def keyCut (k : List Int) : List Int := if k.length ≤ 64 then k else shaOf k
def fillOf (k : List Int) : List Int := keyCut k ++ List.replicate (64 - (keyCut k).length) 0
def xorB (l : List Int) (p : Int) : List Int := l.map fun x => bits .xor .u8 x p
def padIn (k : List Int) : List Int := xorB (fillOf k) 54
def padOut (k : List Int) : List Int := xorB (fillOf k) 92
def macOf (k m : List Int) : List Int := shaOf (padOut k ++ shaOf (padIn k ++ m))
theorem keyCut_le (k : List Int) : (keyCut k).length ≤ 64 := by
  unfold keyCut
  split
  · assumption
  · rw [shaOf_length]; omega
theorem keyCut_bytes {k : List Int} (h : Bytes k) : Bytes (keyCut k) := by
  unfold keyCut
  split
  · exact h
  · exact shaOf_bytes _
theorem fillOf_length (k : List Int) : (fillOf k).length = 64 := by
  have := keyCut_le k
  simp [fillOf]; omega
theorem fillOf_bytes {k : List Int} (h : Bytes k) : Bytes (fillOf k) := (keyCut_bytes h).append (Bytes.zeros _)
theorem xor_byte {x p : Int} (hx : 0 ≤ x ∧ x < 256) (hp : 0 ≤ p ∧ p < 256) : 0 ≤ bits .xor .u8 x p ∧ bits .xor .u8 x p < 256 := by
  rw [u8_xor x p hx.1 hx.2 hp.1 hp.2]
  have : x.toNat ^^^ p.toNat < 2 ^ 8 := Nat.xor_lt_two_pow (by omega) (by omega)
  omega
theorem xorB_length (l : List Int) (p : Int) : (xorB l p).length = l.length := by simp [xorB]
theorem xorB_bytes {l : List Int} (h : Bytes l) {p : Int} (hp : 0 ≤ p ∧ p < 256) : Bytes (xorB l p) := by
  intro y hy
  obtain ⟨x, hx, rfl⟩ := List.mem_map.1 hy
  exact xor_byte (h x hx) hp
theorem padIn_length (k : List Int) : (padIn k).length = 64 := by rw [padIn, xorB_length, fillOf_length]
theorem padOut_length (k : List Int) : (padOut k).length = 64 := by rw [padOut, xorB_length, fillOf_length]
theorem padIn_bytes {k : List Int} (h : Bytes k) : Bytes (padIn k) := xorB_bytes (fillOf_bytes h) (by omega)
theorem padOut_bytes {k : List Int} (h : Bytes k) : Bytes (padOut k) := xorB_bytes (fillOf_bytes h) (by omega)
theorem macOf_length (k m : List Int) : (macOf k m).length = 32 := shaOf_length _
theorem macOf_bytes (k m : List Int) : Bytes (macOf k m) := shaOf_bytes _
/-- The row of a block of which i bytes have been turned. -/
def xorUpto (l : List Int) (p : Int) (i : Nat) : List Int := xorB (l.take i) p ++ l.drop i
theorem xorUpto_length (l : List Int) (p : Int) (i : Nat) : (xorUpto l p i).length = l.length := by simp [xorUpto, xorB]; omega
theorem xorUpto_full (l : List Int) (p : Int) (i : Nat) (h : l.length ≤ i) : xorUpto l p i = xorB l p := by
  simp [xorUpto, List.take_of_length_le h, List.drop_of_length_le h]
theorem xorUpto_get (l : List Int) (p : Int) (i : Nat) (h : i < l.length) : (xorUpto l p i).getD i 0 = l.getD i 0 := by
  have e : min i l.length = i := by omega
  simp [xorUpto, xorB, List.getElem?_append, e]
theorem xorUpto_set (l : List Int) (p : Int) (i : Nat) (h : i < l.length) : (xorUpto l p i).set i (bits .xor .u8 (l.getD i 0) p) = xorUpto l p (i + 1) := by
  unfold xorUpto
  have e : (xorB (l.take i) p).length = i := by simp [xorB]; omega
  rw [List.set_append_right _ _ (by omega), e, Nat.sub_self]
  have hd : l.drop i = l[i] :: l.drop (i + 1) := List.drop_eq_getElem_cons h
  rw [hd, List.set_cons_zero, List.take_succ_eq_append_getElem h, xorB, xorB, List.map_append, List.append_assoc]
  simp [h]
def pieceOf (k info : List Int) : Nat → List Int
  | 0 => []
  | i + 1 => macOf k (pieceOf k info i ++ info ++ [((i + 1 : Nat) : Int)])
theorem pieceOf_length (k info : List Int) (i : Nat) : (pieceOf k info (i + 1)).length = 32 := macOf_length _ _
theorem pieceOf_le (k info : List Int) (i : Nat) : (pieceOf k info i).length ≤ 32 := by
  cases i with
  | zero => simp [pieceOf]
  | succ i => rw [pieceOf_length]; omega
theorem pieceOf_bytes (k info : List Int) (i : Nat) : Bytes (pieceOf k info i) := by
  cases i with
  | zero => intro x hx; cases hx
  | succ i => exact macOf_bytes _ _
def rowsOf (k info : List Int) : Nat → List Int
  | 0 => []
  | i + 1 => rowsOf k info i ++ pieceOf k info (i + 1)
theorem rowsOf_length (k info : List Int) (i : Nat) : (rowsOf k info i).length = 32 * i := by
  induction i with
  | zero => rfl
  | succ i ih => rw [rowsOf, List.length_append, ih, pieceOf_length]; omega
theorem rowsOf_take (k info : List Int) (i j n : Nat) (h : n ≤ 32 * i) : (rowsOf k info (i + j)).take n = (rowsOf k info i).take n := by
  induction j with
  | zero => rfl
  | succ j ih =>
    rw [← Nat.add_assoc, rowsOf, List.take_append_of_le_length (by rw [rowsOf_length]; omega), ih]
def expandOf (k info : List Int) (n : Nat) : List Int := (rowsOf k info ((n + 31) / 32)).take n
theorem expandOf_at (k info : List Int) (n i : Nat) (h : n ≤ 32 * i) : expandOf k info n = (rowsOf k info i).take n := by
  unfold expandOf
  have h1 : (n + 31) / 32 ≤ i := by omega
  obtain ⟨j, rfl⟩ : ∃ j, i = (n + 31) / 32 + j := ⟨i - (n + 31) / 32, by omega⟩
  rw [rowsOf_take _ _ _ _ _ (by omega)]
theorem expandOf_rows (k info : List Int) (i : Nat) : expandOf k info (32 * i) = rowsOf k info i := by
  rw [expandOf_at k info (32 * i) i (Nat.le_refl _), List.take_of_length_le (by rw [rowsOf_length]; omega)]
theorem expandOf_32 (k info : List Int) : expandOf k info 32 = macOf k (info ++ [1]) := by
  rw [show 32 = 32 * 1 from rfl, expandOf_rows]
  rfl
/-- What stands in the answer of n bytes when i pieces are there. -/
def outAt (k info : List Int) (n i : Nat) : List Int := (rowsOf k info i).take n ++ List.replicate (n - 32 * i) 0
theorem outAt_length (k info : List Int) (n i : Nat) : (outAt k info n i).length = n := by simp [outAt, rowsOf_length]; omega
theorem outAt_zero (k info : List Int) (n : Nat) : outAt k info n 0 = List.replicate n 0 := by simp [outAt, rowsOf]
theorem outAt_full (k info : List Int) (n i : Nat) (h : n ≤ 32 * i) : outAt k info n i = expandOf k info n := by
  rw [expandOf_at k info n i h, outAt, show n - 32 * i = 0 by omega, List.replicate_zero, List.append_nil]
theorem outAt_step (k info : List Int) (n i : Nat) (h : 32 * i < n) : splice (outAt k info n i) (32 * i) ((pieceOf k info (i + 1)).take (n - 32 * i)) = outAt k info n (i + 1) := by
  have hr := rowsOf_length k info i
  have hp := pieceOf_length k info i
  have e1 : (rowsOf k info i).take n = rowsOf k info i := List.take_of_length_le (by omega)
  unfold splice outAt
  rw [e1, List.take_append_of_le_length (by omega), List.take_of_length_le (l := rowsOf k info i) (by omega)]
  rw [rowsOf, List.take_append, e1, hr, List.drop_append, hr, List.drop_of_length_le (by rw [hr]; omega), List.nil_append]
  rw [List.append_assoc]
  refine congrArg (rowsOf k info i ++ ·) (congrArg (List.take (n - 32 * i) (pieceOf k info (i + 1)) ++ ·) ?_)
  have hl : ((pieceOf k info (i + 1)).take (n - 32 * i)).length = min (n - 32 * i) 32 := by rw [List.length_take, hp]
  rw [hl, List.drop_replicate]
  congr 1
  omega
def be4 (n : Int) : List Int := [n / 256 / 256 / 256 % 256, n / 256 / 256 % 256, n / 256 % 256, n % 256]
theorem be4_length (n : Int) : (be4 n).length = 4 := rfl
theorem be4_bytes (n : Int) : Bytes (be4 n) := by
  intro x hx
  simp only [be4, List.mem_cons, List.not_mem_nil, or_false] at hx
  omega
def deriveOf (k label : List Int) (n : Int) : List Int := macOf k (label ++ be4 n ++ [1])
theorem deriveOf_length (k label : List Int) (n : Int) : (deriveOf k label n).length = 32 := macOf_length _ _
theorem deriveOf_bytes (k label : List Int) (n : Int) : Bytes (deriveOf k label n) := macOf_bytes _ _
theorem deriveOf_eq (k label : List Int) (n : Int) : expandOf k (label ++ be4 n) 32 = deriveOf k label n := expandOf_32 _ _
def jefe : List Int := [74, 101, 102, 101]
def want : List Int := [119, 104, 97, 116, 32, 100, 111, 32, 121, 97, 32, 119, 97, 110, 116, 32, 102, 111, 114, 32, 110, 111, 116, 104, 105, 110, 103, 63]
end Go.Proofs.YtjmlgjbojmlibaaGreatDoor
