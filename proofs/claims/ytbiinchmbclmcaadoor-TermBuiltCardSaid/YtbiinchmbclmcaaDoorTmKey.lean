/- Package term: the map of lists: what no key of it lies in is not found, and is put in. -/
import Derived.LaidEql
import Derived.WideKeyRuns
import Derived.Test.YtbiinchmbclmcaaDoorTmList
namespace Go.Proofs.YtbiinchmbclmcaaDoor
open Go Go.RowKit
set_option maxRecDepth 100000 in
theorem sameAddr_no {w : World} {a q : Addr} {ca cq : Array Value} {ta tq : TypeId} {fr : Nat × Nat} (hne : a.block ≠ q.block) (ha : w.heap[a.block]? = some (.cells ca ta fr)) (hq : w.heap[q.block]? = some (.cells cq tq (0, 0))) (h0 : 0 < ca.size) : (sameAddr a q).run Tryd.prog w = .ok false w := by
  obtain ⟨n, hn⟩ : ∃ n, ca.size = n + 1 := ⟨ca.size - 1, by omega⟩
  have hq1 : ∀ off s, w.frozen? ⟨q.block, off, s⟩ = false := by intro off s; simp [World.frozen?, hq]
  have ha1 : w.shape? a.block = some (ta, n + 1) := by simp [World.shape?, ha, hn]
  have hq3 : w.shape? q.block = some (tq, cq.size) := by simp [World.shape?, hq]
  have hb : (a.block == q.block) = false := beq_eq_false_iff_ne.2 hne
  cases hf : w.frozen? a with
  | true => simp [sameAddr, hb, hf, hq1, ha1, hq3, noView, viewAt, mayBeOne, stringish]
  | false => cases hg : w.frozen? ⟨a.block, n + 1, none⟩ <;> simp [sameAddr, hb, hf, hg, hq1, ha1, hq3, noView, viewAt, mayBeOne, stringish]
set_option maxRecDepth 100000 in
theorem equalIn_ptr (w : World) (d : Nat) (a b : Addr) : (Op.equalIn (d + 1) 47 (.pointer (some a)) (.pointer (some b))).run Tryd.prog w = (sameAddr a b).run Tryd.prog w := by
  obtain ⟨i, hi, hs⟩ : ∃ i, Tryd.prog.info? 24 = some i ∧ i.size = 3 := by
    have h := sz_term
    cases hq : Tryd.prog.info? 24 with
    | none => rw [hq] at h; cases h
    | some i => rw [hq] at h; exact ⟨i, rfl, by simpa using h⟩
  simp only [Op.equalIn, Sem.run_bind, run_underlying Tryd.underlying47, Result.andThen_ok]
  simp [sizeOf, typeInfo, hi, hs]
set_option maxRecDepth 100000 in
theorem part_ptr (w : World) (a b : Value) : (part 47 #[a, b] 0).run Tryd.prog w = .ok a w := by
  simp [part, isAgg, run_underlying Tryd.underlying47]
set_option maxRecDepth 100000 in
theorem part_num (w : World) (a b : Value) : (part 3 #[a, b] 1).run Tryd.prog w = .ok b w := by
  simp [part, isAgg, run_underlying Tryd.underlying3]
set_option maxRecDepth 100000 in
theorem equal_of {w : World} {k q : Ky} (hs : (sameAddr ⟨k.1, k.2.1, none⟩ ⟨q.1, q.2.1, none⟩).run Tryd.prog w = .ok false w) : (Op.equal 49 (kyv k) (kyv q)).run Tryd.prog w = .ok false w := by
  have hst : Tryd.prog.stoodInHeld 49 = false := by kernel_rfl
  have hu : Tryd.prog.underlying 49 = some (.struct (Tryd.prog.fieldsOf 49)) := by kernel_rfl
  have hf : (Tryd.prog.fieldsOf 49).toList.map (fun f => (f.name != "_", f.type, f.offset)) = [(true, 47, 0), (true, 3, 1)] := by kernel_rfl
  show (Op.equalIn (9999 + 1) 49 (.agg (kyc k).toArray) (.agg (kyc q).toArray)).run Tryd.prog w = _
  rw [run_equalIn_struct w 9999 49 _ _ hu hst]
  generalize (Tryd.prog.fieldsOf 49).toList = fs at hf
  have hlen : fs.length = 2 := by simpa using congrArg List.length hf
  match fs, hlen, hf with
  | [f0, f1], _, hf =>
    simp only [List.map_cons, List.map_nil, List.cons.injEq, Prod.mk.injEq, and_true, bne_iff_ne, ne_eq] at hf
    obtain ⟨⟨hn, ht, ho⟩, _⟩ := hf
    simp only [Op.eqFields, hn, ne_eq, not_false_eq_true, if_true, Sem.run_bind, ht, ho, kyc, part_ptr, Result.andThen_ok]
    rw [show (9999 : Nat) = 9998 + 1 from rfl, equalIn_ptr, hs]
    simp
set_option maxRecDepth 100000 in
/-- Two lists of which one lies in a plain block. -/
theorem equal_no {w : World} {k q : Ky} {ca cq : Array Value} {ta tq : TypeId} {fr : Nat × Nat} (hne : k.1 ≠ q.1) (ha : w.heap[k.1]? = some (.cells ca ta fr)) (hq : w.heap[q.1]? = some (.cells cq tq (0, 0))) (h0 : 0 < ca.size) : (Op.equal 49 (kyv k) (kyv q)).run Tryd.prog w = .ok false w :=
  equal_of (sameAddr_no (a := ⟨k.1, k.2.1, none⟩) (q := ⟨q.1, q.2.1, none⟩) hne ha hq h0)
set_option maxRecDepth 100000 in
theorem sameAddr_no2 {w : World} {a q : Addr} {ca cq : Array Value} {ta tq : TypeId} {fr : Nat × Nat} (hne : a.block ≠ q.block) (ha : w.heap[a.block]? = some (.cells ca ta (0, 0))) (hq : w.heap[q.block]? = some (.cells cq tq fr)) (h0 : 0 < cq.size) : (sameAddr a q).run Tryd.prog w = .ok false w := by
  obtain ⟨n, hn⟩ : ∃ n, cq.size = n + 1 := ⟨cq.size - 1, by omega⟩
  have ha0 : ∀ off s, w.frozen? ⟨a.block, off, s⟩ = false := by intro off s; simp [World.frozen?, ha]
  have hq1 : w.shape? q.block = some (tq, n + 1) := by simp [World.shape?, hq, hn]
  have ha3 : w.shape? a.block = some (ta, ca.size) := by simp [World.shape?, ha]
  have hb : (a.block == q.block) = false := beq_eq_false_iff_ne.2 hne
  cases hf : w.frozen? q with
  | true => simp [sameAddr, hb, hf, ha0, hq1, ha3, noView, viewAt, mayBeOne, stringish]
  | false => cases hg : w.frozen? ⟨q.block, n + 1, none⟩ <;> simp [sameAddr, hb, hf, hg, ha0, hq1, ha3, noView, viewAt, mayBeOne, stringish]
/-- The map's keys, as they were put in. -/
def KeysAt (w : World) (m : Nat) (ks : List Ky) : Prop := ∃ es c, w.heap[m]? = some (.map es c) ∧ es.toList.map (·.key) = ks.map kyv
/-- Every key lies in a plain block. -/
def PlainKeys (w : World) (ks : List Ky) : Prop := ∀ q ∈ ks, ∃ cq tq, w.heap[q.1]? = some (.cells cq tq (0, 0))
set_option maxRecDepth 100000 in
theorem find_no {w : World} {k : Ky} {ca : Array Value} {ta : TypeId} {fr : Nat × Nat} (ha : w.heap[k.1]? = some (.cells ca ta fr)) (h0 : 0 < ca.size) : ∀ (es : List MapEntry) (ks : List Ky) (i : Nat), es.map (·.key) = ks.map kyv → PlainKeys w ks → (∀ q ∈ ks, k.1 ≠ q.1) → (Instr.findAsking 49 (kyv k) es i).run Tryd.prog w = .ok none w := by
  intro es
  induction es with
  | nil => intro ks i _ _ _; simp [Instr.findAsking]
  | cons e es ih =>
    intro ks i he hp hn
    match ks, he with
    | q :: ks, he =>
      simp only [List.map_cons, List.cons.injEq] at he
      obtain ⟨cq, tq, hq⟩ := hp q (List.mem_cons_self ..)
      have h1 := equal_no (hn q (List.mem_cons_self ..)) ha hq h0
      have h2 := ih ks (i + 1) he.2 (fun x hx => hp x (List.mem_cons_of_mem _ hx)) (fun x hx => hn x (List.mem_cons_of_mem _ hx))
      simp only [Instr.findAsking, he.1, Sem.run_bind, h1, Result.andThen_ok, Bool.false_eq_true, if_false, h2]
set_option maxRecDepth 100000 in
theorem findKey_no {w : World} {k : Ky} {ca : Array Value} {ta : TypeId} {fr : Nat × Nat} (ha : w.heap[k.1]? = some (.cells ca ta fr)) (h0 : 0 < ca.size) (es : List MapEntry) (ks : List Ky) (he : es.map (·.key) = ks.map kyv) (hp : PlainKeys w ks) (hn : ∀ q ∈ ks, k.1 ≠ q.1) : (Instr.findKey 49 (kyv k) es).run Tryd.prog w = .ok none w := by
  rw [run_findKey_eq w (by rw [Tryd.underlying49]) (kyv k) es]
  exact find_no ha h0 es ks 0 he hp hn
set_option maxRecDepth 100000 in
theorem check_key (w : World) (em : Bool) (k : Ky) : (Instr.checkKey em 10000 49 (kyv k)).run Tryd.prog w = .ok () w := by
  have hu : Tryd.prog.underlying 49 = some (.struct (Tryd.prog.fieldsOf 49)) := by kernel_rfl
  have hf : (Tryd.prog.fieldsOf 49).toList.map (fun f => (f.name != "_", f.type, f.offset)) = [(true, 47, 0), (true, 3, 1)] := by kernel_rfl
  show (Instr.checkKey em (9999 + 1) 49 (.agg (kyc k).toArray)).run Tryd.prog w = _
  rw [Instr.checkKey]
  simp only [Sem.run_bind, run_underlying hu, Result.andThen_ok]
  rw [← Array.forIn_toList]
  generalize (Tryd.prog.fieldsOf 49).toList = fs at hf
  have hlen : fs.length = 2 := by simpa using congrArg List.length hf
  match fs, hlen, hf with
  | [f0, f1], _, hf =>
    simp only [List.map_cons, List.map_nil, List.cons.injEq, Prod.mk.injEq, and_true, bne_iff_ne, ne_eq] at hf
    obtain ⟨⟨hn, ht, ho⟩, hn1, ht1, ho1⟩ := hf
    have c0 : ∀ v, (Instr.checkKey em (9998 + 1) 47 (.pointer v)).run Tryd.prog w = .ok () w := fun v => by rw [Instr.checkKey]; simp [run_underlying Tryd.underlying47]
    have c1 : ∀ v, (Instr.checkKey em (9998 + 1) 3 (.int .i64 v)).run Tryd.prog w = .ok () w := fun v => by rw [Instr.checkKey]; simp [run_underlying Tryd.underlying3]
    simp only [List.forIn_cons, List.forIn_nil, Sem.run_bind, hn, hn1, ne_eq, not_false_eq_true, if_true, ht, ho, ht1, ho1, kyc, part_ptr, part_num, Result.andThen_ok, c0, c1, Sem.run_pure, show (9999 : Nat) = 9998 + 1 from rfl]
set_option maxRecDepth 100000 in
/-- What lies in no key's block is not found. -/
theorem KeysAt.lookNo {w : World} {m : Nat} {ks : List Ky} (h : KeysAt w m ks) (hp : PlainKeys w ks) {k : Ky} {ca : Array Value} {ta : TypeId} {fr : Nat × Nat} (ha : w.heap[k.1]? = some (.cells ca ta fr)) (h0 : 0 < ca.size) (hn : ∀ q ∈ ks, k.1 ≠ q.1) :
    (Instr.lookup 43 (.map (some m)) (kyv k) true).run Tryd.prog w = .ok (.tuple #[.agg [.pointer none, .int .i64 0].toArray, .bool false]) w := by
  obtain ⟨es, c, hb, he⟩ := h
  have h1 := findKey_no ha h0 es.toList ks he hp hn
  simp only [Instr.lookup, Sem.run_bind, run_underlying Tryd.underlying43, Result.andThen_ok, MapKept.run_getObj_map hb, Sem.run_pure, check_key, h1, zero_list, if_true]
set_option maxRecDepth 100000 in
theorem KeysAt.put {w : World} {m : Nat} {ks : List Ky} (h : KeysAt w m ks) (hp : PlainKeys w ks) {k : Ky} {ca : Array Value} {ta : TypeId} {fr : Nat × Nat} (ha : w.heap[k.1]? = some (.cells ca ta fr)) (h0 : 0 < ca.size) (hn : ∀ q ∈ ks, k.1 ≠ q.1) (v : Value) :
    ∃ w', (Instr.mapUpdate 43 (.map (some m)) (kyv k) v).run Tryd.prog w = .ok () w' ∧ KeysAt w' m (ks ++ [k]) ∧ Upd m w w' := by
  obtain ⟨es, c, hb, he⟩ := h
  have h1 := findKey_no ha h0 es.toList ks he hp hn
  obtain ⟨g1, g2⟩ := MapKept.heap_set (o' := .map (es.push ⟨kyv k, v, c⟩) (c + 1)) hb
  refine ⟨{ w with heap := w.heap.setIfInBounds m (.map (es.push ⟨kyv k, v, c⟩) (c + 1)) }, ?_, ⟨_, _, g1, by simp [he]⟩, ⟨rfl, rfl, rfl, by simp, fun b _ hne => g2 b hne⟩⟩
  simp only [Instr.mapUpdate, Sem.run_bind, run_underlying Tryd.underlying43, Result.andThen_ok, MapKept.run_getObj_map hb, check_key, h1, MapKept.run_setObj_map _ hb]
end Go.Proofs.YtbiinchmbclmcaaDoor
