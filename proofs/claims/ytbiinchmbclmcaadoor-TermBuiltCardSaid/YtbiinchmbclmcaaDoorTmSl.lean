/- Slices of whatever cells: read, grown. -/
import Derived.Maps.AppendAt
import Derived.Test.YtbiinchmbclmcaaDoorTmFns
import Derived.Test.YtbiinchmbclmcaaDoorTmPlain
namespace Go.Proofs.YtbiinchmbclmcaaDoor
open Go Go.RowKit
def SegV (w : World) (b off : Nat) (cs : List Value) : Prop := ∀ j u, cs[j]? = some u → w.cell? ⟨b, off + j, none⟩ = some u
/-- A slice of n elements of K cells each. -/
def SlV (K : Nat) (w : World) (v : Value) (n : Nat) (cs : List Value) : Prop :=
  ∃ p cap, v = .slice p n cap ∧ n ≤ cap ∧ cs.length = n * K ∧ (0 < n → ∃ b off, p = some ⟨b, off, none⟩ ∧ SegV w b off cs)
set_option maxRecDepth 100000 in
theorem SegV.below {w w' : World} {b off : Nat} {cs : List Value} (h : SegV w b off cs) (hb : Below w.heap.size w w') : SegV w' b off cs := by
  intro j u hu
  have h1 := h j u hu
  rw [hb.cell (p := ⟨b, off + j, none⟩) (block_lt_of_cell h1)]
  exact h1
set_option maxRecDepth 100000 in
theorem SlV.below {K : Nat} {w w' : World} {v : Value} {n : Nat} {cs : List Value} (h : SlV K w v n cs) (hb : Below w.heap.size w w') : SlV K w' v n cs := by
  obtain ⟨p, cap, hv, hc, hl, hs⟩ := h
  refine ⟨p, cap, hv, hc, hl, fun h0 => ?_⟩
  obtain ⟨b, off, hp, hseg⟩ := hs h0
  exact ⟨b, off, hp, hseg.below hb⟩
set_option maxRecDepth 100000 in
theorem SlV.nil (K : Nat) (w : World) : SlV K w (.slice none 0 0) 0 [] := ⟨none, 0, rfl, Nat.le_refl _, by simp, fun h => absurd h (by omega)⟩
set_option maxRecDepth 100000 in
theorem SlV.len {K : Nat} {w : World} {v : Value} {n : Nat} {cs : List Value} (h : SlV K w v n cs) : ∃ p cap, v = .slice p n cap ∧ n ≤ cap := by
  obtain ⟨p, cap, hv, hc, _⟩ := h
  exact ⟨p, cap, hv, hc⟩
set_option maxRecDepth 100000 in
theorem SlV.at {K : Nat} {w : World} {p : Option Addr} {n cap : Nat} {cs : List Value} (h : SlV K w (.slice p n cap) n cs) (h0 : 0 < n) : ∃ b off, p = some ⟨b, off, none⟩ ∧ SegV w b off cs := by
  obtain ⟨q, c, hv, _, _, hs⟩ := h
  simp only [Value.slice.injEq] at hv
  obtain ⟨rfl, _, rfl⟩ := hv
  exact hs h0
def strs (l : List ByteArray) : List Value := l.map .string
set_option maxRecDepth 100000 in
theorem strs_length (l : List ByteArray) : (strs l).length = l.length := by simp [strs]
set_option maxRecDepth 100000 in
theorem strs_at (l : List ByteArray) (i : Nat) (h : i < l.length) : (strs l)[i]? = some (.string (l.getD i noStr)) := by simp [strs, h]
set_option maxRecDepth 100000 in
theorem below_next {B : Nat} {w0 w w' : World} (h : Below B w0 w) (hB : B ≤ w.heap.size) (hm : Below w.heap.size w w') : Below B w0 w' := h.trans (hm.mono hB)
/-! A slice that the call itself made. -/
set_option maxRecDepth 100000 in
theorem own_sl {w : World} {base : Nat} {e : TypeId} {K : Nat} {v : Value} {n : Nat} {cs : List Value} (h : w.ownsRow base e K v n cs) : SlV K w v n cs := by
  have h0 := h
  obtain ⟨hl, h2⟩ := h
  rcases h2 with ⟨rfl, hn⟩ | ⟨g, cap, cur, rfl, hb, hh, hn, _, _, _⟩
  · exact ⟨none, 0, by rw [hn], by omega, hl, fun h => absurd h (by omega)⟩
  · refine ⟨_, cap, rfl, hn, hl, fun _ => ⟨g, 0, rfl, fun j u hu => ?_⟩⟩
    have := World.ownsRow.cells h0 rfl j u hu
    rw [add_at] at this
    exact this
set_option maxRecDepth 100000 in
theorem own_below {w w' : World} {base : Nat} {e : TypeId} {K : Nat} {v : Value} {n : Nat} {cs : List Value} (h : w.ownsRow base e K v n cs) (hb : Below w.heap.size w w') : w'.ownsRow base e K v n cs :=
  World.ownsRow.kept h (grown_of_below hb) (by cases h' : v.ownBlock <;> simp)
set_option maxRecDepth 100000 in
theorem below_grown {B : Nat} {w0 w w' : World} {e : TypeId} {K : Nat} {v : Value} {n : Nat} {cs : List Value} (hb : Below B w0 w) (hB : B ≤ w.heap.size) (h : w.ownsRow B e K v n cs) (hg : w.grownBy w' v.ownBlock) : Below B w0 w' := by
  refine ⟨hg.os.trans hb.os, hg.tape.trans hb.tape, hg.output.trans hb.output, Nat.le_trans hb.size hg.size, fun k hk => ?_⟩
  refine (hg.block k (Nat.lt_of_lt_of_le hk hB) (fun he => ?_)).trans (hb.block k hk)
  have := (World.ownsRow.lt h k he.symm).1
  omega
section
variable {P : Program} {ops : Array Oper} {rest : List Oper} {a : Act} {w w0 : World} {Q : Exit → Act → World → Prop} {dst : Option Tmp} {typ : TypeId} {pos : String} {aft : Array Edge} {gd : Option (Nat × Bool)} {S : List Nat} {rows : List (Nat × List Value × TypeId)}
set_option maxRecDepth 100000 in
theorem wpl_appV {s x : Operand} {t e : TypeId} (z : Value) (K bytes : Nat) (hw : Region.wanted { dst := dst, op := .call { callee := .builtin .append, args := #[s, x], argTypes := #[t, t] }, type := typ, pos := pos, after := aft, guard := gd } (yielded ops a.tmps) = true)
    (ht : P.underlying t = some (.slice e)) (hi : (P.info? e).map (fun i => (i.zero, i.size, i.bytes)) = some (some z, K, bytes)) (hz : z.cells.size = K) (hK0 : 0 < K) (hby : bytes ≤ 100) {v : Value} {n base g : Nat} {cs new : List Value} (hown : w.ownsRow base e K v n cs) (hbase : base ≤ w.heap.size)
    (hs : a.eval s = v) (hx : a.eval x = .slice (some ⟨g, 0, none⟩) 1 1) (hr : Row w g new e) (hl : new.length = K) (h1 : ∀ u ∈ new, u.oneCell' = true) (hn : n ≤ 100000)
    (h : ∀ v' w', w'.ownsRow base e K v' (n + 1) (cs ++ new) → w.grownBy w' v.ownBlock → (v'.ownBlock = v.ownBlock ∨ v'.ownBlock = some w.heap.size) → wpList P ops Q rest (a.put dst v') w') :
    wpList P ops Q ({ dst := dst, op := .call { callee := .builtin .append, args := #[s, x], argTypes := #[t, t] }, type := typ, pos := pos, after := aft, guard := gd } :: rest) a w := by
  cases hq : P.info? e with
  | none => simp [hq] at hi
  | some i =>
    simp only [hq, Option.map_some, Option.some.injEq, Prod.mk.injEq] at hi
    obtain ⟨hz1, h2, h3⟩ := hi
    have hbd : (n + 1) * bytes ≤ 140737488355328 := by
      have := Nat.mul_le_mul (show n + 1 ≤ 100001 by omega) hby
      omega
    obtain ⟨v', w', hrun, ho, hg, _, hb⟩ := run_append_own_at (P := P) w base t typ e i z K bytes ht hq hz1 h2 h3 hz hK0 v n cs hown ⟨g, 0, none⟩ 1 1 new (by rw [hl]; omega) (fun j u hu => by rw [add_at, Nat.zero_add, hr.cell j]; exact hu) h1 (by unfold maxLen; omega) hbd hbase
    refine wpList_step fun K hK => ?_
    rw [if_pos hw]
    have hh := hK _ _ (h v' w' ho hg hb)
    unfold Oper.wp execOp
    simp only [resolve, invoke, builtin, Sem.run_bind, Sem.run_pure, Result.andThen_ok, List.map_toArray, List.map_cons, List.map_nil, hs, hx, hrun]
    exact hh
end
set_option maxRecDepth 100000 in
theorem fold_set : ∀ (l : List Value) (k : Nat) (cs : Array Value) (i : Nat), ((l.zipIdx k).foldl (fun cs (p : Value × Nat) => cs.setIfInBounds p.2 p.1) cs)[i]? = if k ≤ i ∧ i < k + l.length ∧ i < cs.size then l[i - k]? else cs[i]?
  | [], k, cs, i => by
    rw [if_neg (by simp; omega)]
    rfl
  | x :: r, k, cs, i => by
    rw [List.zipIdx_cons, List.foldl_cons, fold_set r (k + 1)]
    simp only [Array.size_setIfInBounds, List.length_cons]
    by_cases h1 : k + 1 ≤ i ∧ i < k + 1 + r.length ∧ i < cs.size
    · rw [if_pos h1, if_pos (by omega), show i - k = (i - (k + 1)) + 1 by omega, List.getElem?_cons_succ]
    · rw [if_neg h1, Array.getElem?_setIfInBounds]
      by_cases h2 : k = i
      · subst h2
        by_cases h3 : k < cs.size
        · simp [h3]
        · simp [h3]
      · rw [if_neg h2, if_neg (by omega)]
set_option maxRecDepth 100000 in
theorem run_bslK {P : Program} (w : World) {t elem : TypeId} (z l : List Value) (hu : P.underlying t = some (.slice elem)) (hi : (P.info? elem).map (fun i => (i.zero, i.size)) = some (some (.agg z.toArray), 3)) (hz : z.length = 3) (hl : l.length = 3) :
    (Instr.buildSlice t 1 #[(0, .agg l.toArray)]).run P w = .ok (.slice (some ⟨w.heap.size, 0, none⟩) 1 1) (w.alloc (.cells l.toArray elem)) := by
  obtain ⟨hz1, hs1⟩ := zero_of_info hi
  cases hq : P.info? elem with
  | none => simp [hq] at hi
  | some qq =>
    have hs : qq.size = 3 := by simpa [hq] using hs1
    have e : ∀ cs : Array Value, cs.size = 3 → List.foldl (fun (cs : Array Value) (x : Value × Nat) => cs.setIfInBounds x.2 x.1) cs l.zipIdx = l.toArray := by
      intro cs hcs
      apply Array.ext_getElem?
      intro i
      rw [fold_set l 0 cs i]
      by_cases h : i < 3
      · rw [if_pos (by omega)]; simp
      · rw [if_neg (by omega), Array.getElem?_eq_none (by omega), Array.getElem?_eq_none (by simp; omega)]
    simp [Instr.buildSlice, run_underlying hu, sizeOf, typeInfo, hq, hs, hz1, Value.cells, Instr.fill, hl, hz, newRow, newObj]
    rw [e _ (by simp)]
    rfl
section
variable {P : Program} {ops : Array Oper} {rest : List Oper} {a : Act} {w w0 : World} {Q : Exit → Act → World → Prop} {dst : Option Tmp} {typ : TypeId} {pos : String} {aft : Array Edge} {gd : Option (Nat × Bool)} {S : List Nat} {rows : List (Nat × List Value × TypeId)}
set_option maxRecDepth 100000 in
theorem run_bsl1 (w : World) {t elem : TypeId} (z v : Value) (hu : P.underlying t = some (.slice elem)) (hi : (P.info? elem).map (fun i => (i.zero, i.size)) = some (some z, 1)) (hz : z.cells = #[z]) (hv : v.cells = #[v]) :
    (Instr.buildSlice t 1 #[(0, v)]).run P w = .ok (.slice (some ⟨w.heap.size, 0, none⟩) 1 1) (w.alloc (.cells [v].toArray elem)) := by
  obtain ⟨hz1, hs1⟩ := zero_of_info hi
  cases hq : P.info? elem with
  | none => simp [hq] at hi
  | some q =>
    have hs : q.size = 1 := by simpa [hq] using hs1
    have e : Array.map (fun x => ([z][x % 1]?).getD default) (Array.range 1) = #[z] := by
      apply Array.ext
      · simp
      · intro i h1 h2
        have h3 : i = 0 := by simpa using h2
        subst h3
        simp
    simp [Instr.buildSlice, run_underlying hu, sizeOf, typeInfo, hq, hs, hz1, hz, Instr.fill, hv, newRow, newObj]
    rw [e]
    rfl
set_option maxRecDepth 100000 in
theorem wpl_bsl1 {t elem : TypeId} {x : Operand} (hw : Region.wanted { dst := dst, op := .buildSlice t 1 #[(0, x)], type := typ, pos := pos, after := aft, guard := gd } (yielded ops a.tmps) = true) (z v : Value) (hu : P.underlying t = some (.slice elem)) (hi : (P.info? elem).map (fun i => (i.zero, i.size)) = some (some z, 1)) (hz : z.cells = #[z]) (hx : a.eval x = v) (hv : v.cells = #[v]) (hm : Mem w0 S w rows)
    (h : ∀ w' g, Below w.heap.size w w' → Mem w0 S w' ((g, [v], elem) :: rows) → wpList P ops Q rest (a.put dst (.slice (some ⟨g, 0, none⟩) 1 1)) w') :
    wpList P ops Q ({ dst := dst, op := .buildSlice t 1 #[(0, x)], type := typ, pos := pos, after := aft, guard := gd } :: rest) a w := by
  refine wpList_step fun K hK => ?_
  rw [if_pos hw]
  have hh := hK _ _ (h _ _ ((Below.refl _ _).alloc (Nat.le_refl _) _) (hm.alloc [v] elem))
  unfold Oper.wp execOp
  simp only [List.map_toArray, List.map_cons, List.map_nil, hx, run_bsl1 (P := P) w z v hu hi hz hv, Sem.run_bind, Sem.run_pure, Result.andThen_ok]
  exact hh
end
section
variable {P : Program}
set_option maxRecDepth 100000 in
theorem run_loadVar_at (w : World) (g off n : Nat) (ty : TypeId) (cs : List Value) (d : TypeDesc) (hc : ∀ j v, cs[j]? = some v → w.cell? ⟨g, off + j, none⟩ = some v) (hu : P.underlying ty = some d)
    (hd : (match d with | .struct _ | .array _ _ => true | _ => false) = true) (hi : (P.info? ty).map (·.size) = some n) (hn : cs.length = n) :
    (loadVar ty ⟨g, off, none⟩).run P w = .ok (.agg cs.toArray) w := by
  have hl : (loadCells ⟨g, off, none⟩ cs.length).run P w = .ok cs.toArray w :=
    run_loadCells_list (P := P) w ⟨g, off, none⟩ cs (fun j v hv => by rw [add_at]; exact hc j v hv)
  rw [hn] at hl
  cases hq : P.info? ty with
  | none => simp [hq] at hi
  | some i =>
    have hs : i.size = n := by simpa [hq] using hi
    have hagg : (isAgg ty).run P w = .ok true w := by
      unfold isAgg
      rw [Sem.run_bind, run_underlying hu w]
      cases d <;> simp_all
    simp [loadVar, Sem.run_bind, hagg, sizeOf, typeInfo, hq, hs, hl]
end
end Go.Proofs.YtbiinchmbclmcaaDoor
