/- Keys kept in a map and in a slice of the call's own, both at once. -/
import Derived.Test.YtonbfbcbmdnelaaDoorMacSt
import Derived.Test.YtonbfbcbmdnelaaDoorMacUnder
import Derived.Test.YtonbfbcbmdnelaaDoorAnyG
namespace Go.Proofs.YtonbfbcbmdnelaaDoor
open Go Go.RowKit
open Go.Maps
theorem un_keys : Tryd.prog.underlying 37 = some (.slice 24) := Tryd.underlying37
theorem un_kmap : Tryd.prog.underlying 36 = some (.map 24 3) := Tryd.underlying36
theorem un_intT : Tryd.prog.underlying 3 = some (.int .i64) := Tryd.underlying3
theorem zero_intT : ∀ w, (zeroValue 3).run Tryd.prog w = .ok (.int .i64 0) w := (zero_of_info (show (Tryd.prog.info? 3).map (fun i => (i.zero, i.size)) = some (some (.int .i64 0), 1) by kernel_rfl)).1
theorem made_key : (Tryd.prog.info? 24).map (fun i => (i.zero, i.size, i.bytes)) = some (some (.agg (u8s (List.replicate 32 0)).toArray), 32, 32) := by kernel_rfl
theorem ag_strT : ∀ w, (isAgg 9).run Tryd.prog w = .ok false w := by intro w; simp [go_sem]
/-! Plain: the keys of a list, one behind the other, and where a key stands last. -/
def flat (ds : Nat → List Int) : Nat → List Int
  | 0 => []
  | n + 1 => flat ds n ++ ds n
theorem flat_length (ds : Nat → List Int) (h : ∀ i, (ds i).length = 32) (n : Nat) : (flat ds n).length = n * 32 := by
  induction n with
  | zero => rfl
  | succ n ih => rw [flat, List.length_append, ih, h]; omega
theorem flat_at (ds : Nat → List Int) (h : ∀ i, (ds i).length = 32) (n i : Nat) (hi : i < n) : ((flat ds n).drop (i * 32)).take 32 = ds i := by
  induction n with
  | zero => omega
  | succ n ih =>
    rw [flat]
    by_cases he : i = n
    · subst he
      rw [List.drop_append, List.drop_of_length_le (by rw [flat_length ds h]; exact Nat.le_refl _), flat_length ds h, Nat.sub_self, List.drop_zero, List.nil_append, List.take_of_length_le (by rw [h]; exact Nat.le_refl _)]
    · rw [List.drop_append_of_le_length (by rw [flat_length ds h]; omega), List.take_append_of_le_length (by rw [List.length_drop, flat_length ds h]; omega)]
      exact ih (by omega)
theorem agg_inj {a b : List Int} (h : Value.agg (u8s a).toArray = Value.agg (u8s b).toArray) : a = b := by
  have h2 : u8s a = u8s b := by simpa using h
  unfold u8s at h2
  exact (List.map_inj_right (fun x y hxy => by simpa using hxy)).1 h2
def mapAt (kl : Nat → Lit) : Nat → DataW Unit
  | 0 => .map []
  | n + 1 => (mapAt kl n).put (kl n) (.lit (.int .i64 ((n : Int) + 1)))
theorem mapAt_isMap (kl : Nat → Lit) (n : Nat) : IsMap (mapAt kl n) := by
  induction n with
  | zero => exact isMap_empty
  | succ n ih => exact ih.put _ _
theorem mapAt_at (ds : Nat → List Int) (kl : Nat → Lit) (h : ∀ i, keyOf Tryd.prog 24 (.agg (u8s (ds i)).toArray) = some (kl i)) (z : DataW Unit) (n i : Nat) (hi : i < n) :
    ∃ j : Nat, i ≤ j ∧ j < n ∧ ds j = ds i ∧ (mapAt kl n).atKey (kl i) z = .lit (.int .i64 ((j : Int) + 1)) := by
  induction n with
  | zero => omega
  | succ n ih =>
    by_cases he : kl i = kl n
    · refine ⟨n, by omega, by omega, agg_inj (key_law.inj (h n) (by rw [← he]; exact h i)), ?_⟩
      rw [mapAt, he]
      exact atKey_put_same (mapAt_isMap kl n) (key_law.key (h n)) _ _
    · have hin : i < n := by
        rcases Nat.lt_or_ge i n with h1 | h1
        · exact h1
        · exact absurd (by rw [show i = n by omega]) he
      obtain ⟨j, h1, h2, h3, h4⟩ := ih hin
      refine ⟨j, h1, by omega, h3, ?_⟩
      rw [mapAt, atKey_put_other he]
      exact h4
/-! What the call holds: its rows, its map, its own slice of keys. -/
structure Ap (w0 w : World) (m q : Nat) (D : DataW Unit) (n : Nat) (v : Value) (zs : List Int) (rows : List (Nat × List Value × TypeId)) : Prop where
  mem : Mem w0 [] w rows
  map : w.ownsMap Tryd.prog 24 (plainElem Tryd.prog 3) m q D
  own : w.ownsRow w0.heap.size 24 32 v n (u8s zs)
  apart : ∀ r ∈ rows, v.ownBlock ≠ some r.1
  new : w0.heap.size ≤ m
section
variable {w0 w w' : World} {m q n : Nat} {D D' : DataW Unit} {v v' : Value} {zs zs' : List Int} {rows : List (Nat × List Value × TypeId)}
theorem Ap.start (hm : Mem w0 [] w rows) (h : w.heap[m]? = some (.map #[] 0)) (hn : w0.heap.size ≤ m) : Ap w0 w m 0 (.map []) 0 (.slice none 0 0) [] rows :=
  ⟨hm, own_none h _, World.ownsRow_nil _ _ _ _, fun _ _ => by simp [Value.ownBlock], hn⟩
theorem Ap.below (h : Ap w0 w m q D n v zs rows) (hb : Below w.heap.size w w') : Ap w0 w' m q D n v zs rows :=
  ⟨h.mem.call hb, h.map.kept (grown_of_below hb) (by simp), h.own.kept (grown_of_below hb) (by cases h' : v.ownBlock <;> simp), h.apart, h.new⟩
theorem Ap.drew (h : Ap w0 w m q D n v zs rows) : Ap w0 w.drew m q D n v zs rows := ⟨h.mem.drew, h.map, h.own, h.apart, h.new⟩
theorem Ap.tail {r : Nat × List Value × TypeId} (h : Ap w0 w m q D n v zs (r :: rows)) : Ap w0 w m q D n v zs rows :=
  ⟨h.mem.tail, h.map, h.own, fun r' hr => h.apart r' (List.mem_cons_of_mem _ hr), h.new⟩
theorem Ap.alloc (h : Ap w0 w m q D n v zs rows) (l : List Value) (t : TypeId) : Ap w0 (w.alloc (.cells l.toArray t)) m q D n v zs ((w.heap.size, l, t) :: rows) := by
  refine ⟨h.mem.alloc l t, h.map.alloc _, h.own.alloc _, fun r hr => ?_, h.new⟩
  rcases List.mem_cons.1 hr with rfl | hr
  · intro he
    have := (h.own.lt _ he).2
    simp at this
  · exact h.apart r hr
theorem Ap.isMap (h : Ap w0 w m q D n v zs rows) : ∃ es c, w.heap[m]? = some (.map es c) := by
  obtain ⟨es, c, hb, _⟩ := h.map
  exact ⟨es, c, hb⟩
theorem Ap.ne (h : Ap w0 w m q D n v zs rows) : v.ownBlock ≠ some m := by
  obtain ⟨es, c, hb⟩ := h.isMap
  obtain ⟨_, h2⟩ := h.own
  rcases h2 with ⟨rfl, _⟩ | ⟨g', cap, cur, rfl, _, hh, _⟩
  · simp [Value.ownBlock]
  · intro he
    have hg : g' = m := by simpa [Value.ownBlock] using he
    subst hg
    rw [hb] at hh
    cases hh
theorem Ap.upd (h : Ap w0 w m q D n v zs rows) (i : Nat) {g : Nat} {l l' : List Value} {t : TypeId} (hi : rows[i]? = some (g, l, t)) (hu : Upd g w w') (hm : Mem w0 [] w' (rows.set i (g, l', t))) : Ap w0 w' m q D n v zs (rows.set i (g, l', t)) := by
  have hmem := List.mem_of_getElem? hi
  obtain ⟨es, c, hb⟩ := h.isMap
  have hgm : g ≠ m := row_ne_map (h.mem.row _ hmem) hb
  have hga := h.apart _ hmem
  refine ⟨hm, h.map.kept (grown_of_upd hu) (fun he => hgm (Option.some.inj he).symm), h.own.kept (grown_of_upd hu) (Or.inr hga), fun r hr => ?_, h.new⟩
  rcases List.mem_or_eq_of_mem_set hr with h1 | h1
  · exact h.apart r h1
  · subst h1
    exact hga
theorem Ap.put (h : Ap w0 w m q D n v zs rows) (hown : w'.ownsMap Tryd.prog 24 (plainElem Tryd.prog 3) m (q + 1) D') (hg : w.grownBy w' (some m)) : Ap w0 w' m (q + 1) D' n v zs rows := by
  obtain ⟨es, c, hb⟩ := h.isMap
  have hu : Upd m w w' := ⟨hg.os, hg.tape, hg.output, hg.size, fun k hk hn => hg.block k hk (by simpa using hn)⟩
  exact ⟨h.mem.updO hb (Or.inr h.new) hu, hown, h.own.kept hg (Or.inr h.ne), h.apart, h.new⟩
theorem Ap.grown (h : Ap w0 w m q D n v zs rows) {n' : Nat} (ho : w'.ownsRow w0.heap.size 24 32 v' n' (u8s zs')) (hg : w.grownBy w' v.ownBlock) (hv : v'.ownBlock = v.ownBlock ∨ v'.ownBlock = some w.heap.size) : Ap w0 w' m q D n' v' zs' rows := by
  refine ⟨⟨hg.os.trans h.mem.os, hg.tape.trans h.mem.tape, hg.output.trans h.mem.output, Nat.le_trans h.mem.size hg.size, fun k hk hn => ?_, fun r hr => ?_, h.mem.nodup, h.mem.fresh⟩, h.map.kept hg (fun he => h.ne he.symm), ho, fun r hr => ?_, h.new⟩
  · refine (hg.block k (Nat.lt_of_lt_of_le hk h.mem.size) (fun he => ?_)).trans (h.mem.block k hk hn)
    have := (h.own.lt k he.symm).1
    omega
  · have hrow := h.mem.row r hr
    unfold Row
    rw [hg.block r.1 hrow.lt (fun he => h.apart r hr he.symm)]
    exact hrow
  · rcases hv with hv | hv
    · rw [hv]; exact h.apart r hr
    · rw [hv]
      intro he
      have := (h.mem.row r hr).lt
      simp only [Option.some.injEq] at he
      omega
theorem Ap.slice (h : Ap w0 w m q D n v zs rows) : ∃ p cap, v = .slice p n cap ∧ (0 < n → ∃ g, p = some ⟨g, 0, none⟩) := by
  obtain ⟨_, h2⟩ := h.own
  rcases h2 with ⟨rfl, hn⟩ | ⟨g', cap, cur, rfl, _, hh, _⟩
  · exact ⟨none, 0, by rw [hn], fun h => absurd h (by omega)⟩
  · exact ⟨_, cap, rfl, fun _ => ⟨g', rfl⟩⟩
theorem Ap.at {g cap : Nat} (h : Ap w0 w m q D n (.slice (some ⟨g, 0, none⟩) n cap) zs rows) (i : Nat) {d : List Int} (hd : (zs.drop (i * 32)).take 32 = d) : ∀ j u, (u8s d)[j]? = some u → w.cell? ⟨g, i * 32 + j, none⟩ = some u := by
  intro j u hu
  have h1 : (u8s zs)[i * 32 + j]? = some u := by
    subst hd
    unfold u8s at hu ⊢
    rw [List.map_take, List.map_drop, List.getElem?_take] at hu
    split at hu
    · rw [List.getElem?_drop] at hu
      exact hu
    · cases hu
  have := h.own.cells rfl _ _ h1
  rw [add_at, Nat.zero_add] at this
  exact this
end
theorem fold_set : ∀ (l : List Value) (k : Nat) (cs : Array Value) (i : Nat), ((l.zipIdx k).foldl (fun cs (p : Value × Nat) => cs.setIfInBounds p.2 p.1) cs)[i]? = if k ≤ i ∧ i < k + l.length ∧ i < cs.size then l[i - k]? else cs[i]?
  | [], k, cs, i => by
    rw [if_neg (by simp; omega)]
    rfl
  | x :: r, k, cs, i => by
    rw [List.zipIdx_cons, List.foldl_cons, fold_set r (k + 1)]
    simp only [Array.size_setIfInBounds, List.length_cons]
    by_cases h1 : k + 1 ≤ i ∧ i < k + 1 + r.length ∧ i < cs.size
    · rw [if_pos h1, if_pos (by omega), show i - k = (i - (k + 1)) + 1 by omega, List.getElem?_cons_succ]
    · rw [if_neg h1, Array.getElem?_setIfInBounds]
      by_cases h2 : k = i
      · subst h2
        by_cases h3 : k < cs.size
        · simp [h3]
        · simp [h3]
      · rw [if_neg h2, if_neg (by omega)]
theorem run_bslK {P : Program} (w : World) {t elem : TypeId} (z l : List Value) (hu : P.underlying t = some (.slice elem)) (hi : (P.info? elem).map (fun i => (i.zero, i.size)) = some (some (.agg z.toArray), 32)) (hz : z.length = 32) (hl : l.length = 32) :
    (Instr.buildSlice t 1 #[(0, .agg l.toArray)]).run P w = .ok (.slice (some ⟨w.heap.size, 0, none⟩) 1 1) (w.alloc (.cells l.toArray elem)) := by
  obtain ⟨hz1, hs1⟩ := zero_of_info hi
  cases hq : P.info? elem with
  | none => simp [hq] at hi
  | some qq =>
    have hs : qq.size = 32 := by simpa [hq] using hs1
    have e : ∀ cs : Array Value, cs.size = 32 → List.foldl (fun (cs : Array Value) (x : Value × Nat) => cs.setIfInBounds x.2 x.1) cs l.zipIdx = l.toArray := by
      intro cs hcs
      apply Array.ext_getElem?
      intro i
      rw [fold_set l 0 cs i]
      by_cases h : i < 32
      · rw [if_pos (by omega)]; simp
      · rw [if_neg (by omega), Array.getElem?_eq_none (by omega), Array.getElem?_eq_none (by simp; omega)]
    simp [Instr.buildSlice, run_underlying hu, sizeOf, typeInfo, hq, hs, hz1, Value.cells, Instr.fill, hl, hz, newRow, newObj]
    rw [e _ (by simp)]
    rfl
theorem run_loadVar_at {P : Program} (w : World) (g off n : Nat) (ty : TypeId) (cs : List Value) (d : TypeDesc) (hc : ∀ j v, cs[j]? = some v → w.cell? ⟨g, off + j, none⟩ = some v) (hu : P.underlying ty = some d)
    (hd : (match d with | .struct _ | .array _ _ => true | _ => false) = true) (hi : (P.info? ty).map (·.size) = some n) (hn : cs.length = n) :
    (loadVar ty ⟨g, off, none⟩).run P w = .ok (.agg cs.toArray) w := by
  have hl : (loadCells ⟨g, off, none⟩ cs.length).run P w = .ok cs.toArray w :=
    run_loadCells_list (P := P) w ⟨g, off, none⟩ cs (fun j v hv => by rw [add_at]; exact hc j v hv)
  rw [hn] at hl
  cases hq : P.info? ty with
  | none => simp [hq] at hi
  | some q =>
    have hs : q.size = n := by simpa [hq] using hi
    have ha : (isAgg ty).run P w = .ok true w := by
      cases d <;> simp_all [isAgg, run_underlying hu]
    simp [loadVar, ha, sizeOf, typeInfo, hq, hs, hl]
section
variable {a : Act} {w : World} {dst : Option Tmp} {typ : TypeId} {pos : String} {aft : Array Edge} {gd : Option (Nat × Bool)}
theorem exec_ixk {x ix : Operand} {g n cap : Nat} (i : Nat) {ii : Int} (hx : a.eval x = .slice (some ⟨g, 0, none⟩) n cap) (hix : a.eval ix = .int .i64 ii) (hii : ii = (i : Int)) (hi : i < n) :
    (execOp a.eval { dst := dst, op := .indexAddr 37 x ix, type := typ, pos := pos, after := aft, guard := gd }).run Tryd.prog w = .ok (.value (.pointer (some ⟨g, i * 32, none⟩))) w := by
  subst hii
  have h0 : (0 : Int) ≤ (i : Int) ∧ (i : Int) < (n : Int) := by omega
  unfold execOp
  simp [hx, hix, Instr.indexAt, asIntOf, run_underlying un_keys, h0, add_at]
  omega
theorem exec_ldk {x : Operand} {g : Nat} (off : Nat) (d : List Int) (hx : a.eval x = .pointer (some ⟨g, off, none⟩)) (hc : ∀ j v, (u8s d)[j]? = some v → w.cell? ⟨g, off + j, none⟩ = some v) (hd : d.length = 32) :
    (execOp a.eval { dst := dst, op := .load 24 x, type := typ, pos := pos, after := aft, guard := gd }).run Tryd.prog w = .ok (.value (.agg (u8s d).toArray)) w := by
  unfold execOp
  simp only [hx, Instr.loadAt, Instr.sureAddr, Sem.run_bind, Sem.run_pure, Result.andThen_ok, run_loadVar_at w g off 32 24 (u8s d) _ hc un_key rfl sz_key (by rw [u8s_length]; exact hd)]
theorem exec_ldxG {ty : TypeId} {x : Operand} {b j : Nat} (v : Value) (hc : w.cell? ⟨b, j, none⟩ = some v) (hx : a.eval x = .pointer (some ⟨b, j, none⟩)) (ha : ∀ w, (isAgg ty).run Tryd.prog w = .ok false w) :
    (execOp a.eval { dst := dst, op := .load ty x, type := typ, pos := pos, after := aft, guard := gd }).run Tryd.prog w = .ok (.value v) w := by
  have hld : (loadVar ty ⟨b, j, none⟩).run Tryd.prog w = .ok v w := by simp [loadVar, ha, go_sem, hc]
  unfold execOp
  simp only [hx, Instr.loadAt, Instr.sureAddr, Sem.run_bind, Sem.run_pure, Result.andThen_ok, hld]
theorem exec_nek {x y : Operand} {rt : TypeId} (d : List Int) (hd : d.length = 32) (hx : a.eval x = .agg (u8s d).toArray) (hy : a.eval y = .agg (u8s d).toArray) :
    (execOp a.eval { dst := dst, op := .binOp .neq 24 x y rt, type := typ, pos := pos, after := aft, guard := gd }).run Tryd.prog w = .ok (.value (.bool false)) w := by
  unfold execOp
  simp only [hx, hy, Sem.run_bind, run_eqGuard_agg w .neq 24 x y _ _ eg_key, Sem.run_pure, Result.andThen_ok, run_neq_struct, eq_keys d d hd hd w, decide_true, Bool.not_true]
end
section
variable {ops : Array Oper} {rest : List Oper} {a : Act} {w w0 : World} {Q : Exit → Act → World → Prop} {dst : Option Tmp} {typ : TypeId} {pos : String} {aft : Array Edge} {m q n : Nat} {D : DataW Unit} {v : Value} {zs : List Int} {rows : List (Nat × List Value × TypeId)}
theorem wpl_apAlloc (st : Ap w0 w m q D n v zs rows)
    (h : ∀ w' g, Ap w0 w' m q D n v zs ((g, u8s (List.replicate 32 0), 24) :: rows) → wpList Tryd.prog ops Q rest (a.put dst (.pointer (some ⟨g, 0, none⟩))) w') :
    wpList Tryd.prog ops Q ({ dst := dst, op := .alloc 24, type := typ, pos := pos, after := aft, guard := none } :: rest) a w := by
  refine wpList_plain rfl fun K hK => ?_
  have hh := hK _ _ (h _ _ (st.alloc _ _))
  unfold Oper.wp execOp
  simp [Instr.alloc, newVar, newRow, newObj, Value.cells]
  exact hh
theorem wpl_apStore {x y : Operand} {g : Nat} {l : List Value} (d : List Int) (st : Ap w0 w m q D n v zs ((g, l, 24) :: rows)) (hl : l.length = 32) (hd : d.length = 32) (hx : a.eval x = .pointer (some ⟨g, 0, none⟩)) (hy : a.eval y = .agg (u8s d).toArray)
    (h : ∀ w', Ap w0 w' m q D n v zs ((g, u8s d, 24) :: rows) → wpList Tryd.prog ops Q rest a w') :
    wpList Tryd.prog ops Q ({ dst := none, op := .store 24 x y, type := typ, pos := pos, after := aft, guard := none } :: rest) a w :=
  wpl_stwV 0 (u8s d) st.mem rfl hx hy 32 sz_key hl (by rw [u8s_length]; exact hd) (u8s_one _) (fun w' hu hm => h w' (st.upd 0 rfl hu hm))
theorem wpl_apBld {x : Operand} (d : List Int) (hd : d.length = 32) (st : Ap w0 w m q D n v zs rows) (hx : a.eval x = .agg (u8s d).toArray)
    (h : ∀ w' g, Ap w0 w' m q D n v zs ((g, u8s d, 24) :: rows) → wpList Tryd.prog ops Q rest (a.put dst (.slice (some ⟨g, 0, none⟩) 1 1)) w') :
    wpList Tryd.prog ops Q ({ dst := dst, op := .buildSlice 37 1 #[(0, x)], type := typ, pos := pos, after := aft, guard := none } :: rest) a w := by
  refine wpList_plain rfl fun K hK => ?_
  have hh := hK _ _ (h _ _ (st.alloc (u8s d) _))
  unfold Oper.wp execOp
  simp only [List.map_toArray, List.map_cons, List.map_nil, hx, run_bslK (P := Tryd.prog) w _ (u8s d) un_keys info_key (by simp [u8s]) (by rw [u8s_length]; exact hd), Sem.run_bind, Sem.run_pure, Result.andThen_ok]
  exact hh
theorem wpl_apApp {s x : Operand} {g : Nat} (d : List Int) (hd : d.length = 32) (st : Ap w0 w m q D n v zs ((g, u8s d, 24) :: rows)) (hn : n < 1000) (hs : a.eval s = v) (hx : a.eval x = .slice (some ⟨g, 0, none⟩) 1 1)
    (h : ∀ v' w', Ap w0 w' m q D (n + 1) v' (zs ++ d) ((g, u8s d, 24) :: rows) → wpList Tryd.prog ops Q rest (a.put dst v') w') :
    wpList Tryd.prog ops Q ({ dst := dst, op := .call { callee := .builtin .append, args := #[s, x], argTypes := #[37, 37] }, type := typ, pos := pos, after := aft, guard := none } :: rest) a w := by
  have hi := made_key
  cases hq : Tryd.prog.info? 24 with
  | none => simp [hq] at hi
  | some i =>
    simp only [hq, Option.map_some, Option.some.injEq, Prod.mk.injEq] at hi
    obtain ⟨hz, h1, h2⟩ := hi
    have hrow := st.mem.get 0 rfl
    obtain ⟨v', w', hr, ho, hg, _, hv⟩ := run_append_own_at (P := Tryd.prog) w w0.heap.size 37 typ 24 i _ 32 32 un_keys hq hz h1 h2 (by simp [Value.cells, u8s]) (by omega) v n (u8s zs) st.own ⟨g, 0, none⟩ 1 1 (u8s d) (by rw [u8s_length]; omega)
      (fun j u hu => by rw [add_at, Nat.zero_add, hrow.cell]; exact hu) (u8s_one _) (by unfold maxLen; omega) (by omega) st.mem.size
    refine wpList_plain rfl fun K hK => ?_
    have hh := hK _ _ (h v' w' (st.grown (by rw [show u8s (zs ++ d) = u8s zs ++ u8s d by simp [u8s]]; exact ho) hg hv))
    unfold Oper.wp execOp
    simp only [resolve, invoke, builtin, Sem.run_bind, Sem.run_pure, Result.andThen_ok, List.map_toArray, List.map_cons, List.map_nil, hs, hx, hr]
    exact hh
theorem anyH_startA {R : Act → World → Prop} {T : World → Prop} {id : Nat} {l : List Oper} (hmix : Tryd.prog.follows .mixedOrders = true) (st : Ap w0 w m q D n v zs rows)
    (h : ∀ w', Ap w0 w' m q D n v zs rows → wpAnyH Tryd.prog .any l.toArray (endsIn R) T l.toArray.size (Array.replicate l.toArray.size false) a w') : (Code.region id l.toArray true).wp Tryd.prog (endsIn R) a w :=
  wp_region_held hmix (h _ st.drew)
end
end Go.Proofs.YtonbfbcbmdnelaaDoor
