/- Trees in memory: slices of terms. -/
import Derived.Test.YtbiinchmbclmcaaDoorTmSl
import Derived.Test.YtbiinchmbclmcaaDoorTmPlain
namespace Go.Proofs.YtbiinchmbclmcaaDoor
open Go Go.RowKit
/-! Trees in memory. -/
def tcF : List Tm → List (Value → Prop) → List Value → Prop
  | t :: l, p :: r, cs => ∃ s cs', cs = .int .i64 t.k :: .int .i64 t.n :: s :: cs' ∧ p s ∧ tcF l r cs'
  | _, _, cs => cs = []
/-- The value is a slice that holds the kids; all blocks are F's. -/
def KS (F : Nat → Prop) (w : World) : Tm → Value → Prop :=
  foldT fun t r v => ∃ p cap cs, v = .slice p r.length cap ∧ r.length ≤ cap ∧ tcF t.l r cs ∧ (0 < r.length → ∃ b o, p = some ⟨b, o, none⟩ ∧ F b ∧ SegV w b o cs)
def TC (F : Nat → Prop) (w : World) : List Tm → List Value → Prop
  | [], cs => cs = []
  | t :: l, cs => ∃ s cs', cs = .int .i64 t.k :: .int .i64 t.n :: s :: cs' ∧ KS F w t s ∧ TC F w l cs'
def SlT (F : Nat → Prop) (w : World) (v : Value) (l : List Tm) : Prop :=
  ∃ p cap cs, v = .slice p l.length cap ∧ l.length ≤ cap ∧ TC F w l cs ∧ (0 < l.length → ∃ b o, p = some ⟨b, o, none⟩ ∧ F b ∧ SegV w b o cs)
def tcs (t : Tm) (s : Value) : List Value := [.int .i64 t.k, .int .i64 t.n, s]
set_option maxRecDepth 100000 in
theorem tcs_len (t : Tm) (s : Value) : (tcs t s).length = 3 := rfl
section
variable {F F' : Nat → Prop} {w w' : World}
set_option maxRecDepth 100000 in
theorem tcF_iff (l : List Tm) (cs : List Value) : tcF l (l.map (KS F w)) cs ↔ TC F w l cs := by
  induction l generalizing cs with
  | nil => exact Iff.rfl
  | cons t l ih =>
    simp only [List.map_cons, tcF, TC]
    constructor
    · rintro ⟨s, cs', h1, h2, h3⟩; exact ⟨s, cs', h1, h2, (ih cs').1 h3⟩
    · rintro ⟨s, cs', h1, h2, h3⟩; exact ⟨s, cs', h1, h2, (ih cs').2 h3⟩
set_option maxRecDepth 100000 in
theorem KS_iff (t : Tm) (v : Value) : KS F w t v ↔ SlT F w v t.l := by
  unfold KS
  rw [foldT_eq]
  show (∃ p cap cs, v = .slice p (t.l.map (KS F w)).length cap ∧ (t.l.map (KS F w)).length ≤ cap ∧ tcF t.l (t.l.map (KS F w)) cs ∧ (0 < (t.l.map (KS F w)).length → ∃ b o, p = some ⟨b, o, none⟩ ∧ F b ∧ SegV w b o cs)) ↔ _
  simp only [List.length_map, tcF_iff]
  exact Iff.rfl
set_option maxRecDepth 100000 in
theorem KS_mk (k n : Int) (l : List Tm) (v : Value) : KS F w (mkT k n l) v ↔ SlT F w v l := by rw [KS_iff, mkT_l]
set_option maxRecDepth 100000 in
theorem TC.len {l : List Tm} {cs : List Value} (h : TC F w l cs) : cs.length = l.length * 3 := by
  induction l generalizing cs with
  | nil => rw [show cs = [] from h]; rfl
  | cons t l ih =>
    obtain ⟨s, cs', rfl, _, h3⟩ := h
    simp only [List.length_cons, ih h3]; omega
set_option maxRecDepth 100000 in
theorem TC.get {l : List Tm} {cs : List Value} (h : TC F w l cs) {i : Nat} {t : Tm} (ht : l[i]? = some t) : ∃ s, cs[i * 3]? = some (.int .i64 t.k) ∧ cs[i * 3 + 1]? = some (.int .i64 t.n) ∧ cs[i * 3 + 2]? = some s ∧ KS F w t s := by
  induction l generalizing cs i with
  | nil => simp at ht
  | cons u l ih =>
    obtain ⟨s, cs', rfl, h2, h3⟩ := h
    cases i with
    | zero =>
      simp at ht; subst ht
      exact ⟨s, rfl, rfl, rfl, h2⟩
    | succ i =>
      obtain ⟨s', e1, e2, e3, e4⟩ := ih h3 (by simpa using ht)
      exact ⟨s', by rw [show (i + 1) * 3 = i * 3 + 3 by omega]; simpa using e1, by rw [show (i + 1) * 3 + 1 = i * 3 + 1 + 3 by omega]; simpa using e2, by rw [show (i + 1) * 3 + 2 = i * 3 + 2 + 3 by omega]; simpa using e3, e4⟩
set_option maxRecDepth 100000 in
theorem TC.snoc {l : List Tm} {cs : List Value} (h : TC F w l cs) {t : Tm} {s : Value} (hs : KS F w t s) : TC F w (l ++ [t]) (cs ++ [.int .i64 t.k, .int .i64 t.n, s]) := by
  induction l generalizing cs with
  | nil => rw [show cs = [] from h]; exact ⟨s, [], rfl, hs, rfl⟩
  | cons u l ih =>
    obtain ⟨s', cs', rfl, h2, h3⟩ := h
    exact ⟨s', _, rfl, h2, ih h3⟩
set_option maxRecDepth 100000 in
theorem TC.keep {l : List Tm} (H : ∀ t ∈ l, ∀ v, KS F w t v → KS F' w' t v) {cs : List Value} (h : TC F w l cs) : TC F' w' l cs := by
  induction l generalizing cs with
  | nil => exact h
  | cons u l ih =>
    obtain ⟨s, cs', rfl, h2, h3⟩ := h
    exact ⟨s, cs', rfl, H u (List.mem_cons_self ..) s h2, ih (fun t ht => H t (List.mem_cons_of_mem _ ht)) h3⟩
/-- What keeps F's cells keeps trees. -/
def Keeps (F F' : Nat → Prop) (w w' : World) : Prop := ∀ b, F b → F' b ∧ ∀ o u, w.cell? ⟨b, o, none⟩ = some u → w'.cell? ⟨b, o, none⟩ = some u
set_option maxRecDepth 100000 in
theorem SlT.keep1 (hk : Keeps F F' w w') {v : Value} {l : List Tm} (H : ∀ t ∈ l, ∀ v, KS F w t v → KS F' w' t v) (h : SlT F w v l) : SlT F' w' v l := by
  obtain ⟨p, cap, cs, hv, hc, ht, hs⟩ := h
  refine ⟨p, cap, cs, hv, hc, ht.keep H, fun h0 => ?_⟩
  obtain ⟨b, o, hp, hF, hseg⟩ := hs h0
  exact ⟨b, o, hp, (hk b hF).1, fun j u hu => (hk b hF).2 _ _ (hseg j u hu)⟩
set_option maxRecDepth 100000 in
theorem KS.keep (hk : Keeps F F' w w') (t : Tm) : ∀ v, KS F w t v → KS F' w' t v := by
  induction t using Tm.ind with
  | h t ih =>
    intro v h
    rw [KS_iff] at h ⊢
    exact h.keep1 hk ih
set_option maxRecDepth 100000 in
theorem SlT.keep (hk : Keeps F F' w w') {v : Value} {l : List Tm} (h : SlT F w v l) : SlT F' w' v l := h.keep1 hk (fun t _ => KS.keep hk t)
set_option maxRecDepth 100000 in
theorem Keeps.below (hb : Below w.heap.size w w') : Keeps F F w w' := fun b hF => ⟨hF, fun o u hu => by rw [hb.cell (p := ⟨b, o, none⟩) (block_lt_of_cell hu)]; exact hu⟩
set_option maxRecDepth 100000 in
theorem Keeps.upd {g : Nat} (hu : Upd g w w') (hg : ∀ b, F b → b ≠ g) : Keeps F F w w' := fun b hF => ⟨hF, fun o u h => by rw [hu.cell (p := ⟨b, o, none⟩) (block_lt_of_cell h) (hg b hF)]; exact h⟩
set_option maxRecDepth 100000 in
theorem Keeps.weak (h : ∀ b, F b → F' b) : Keeps F F' w w := fun b hF => ⟨h b hF, fun _ _ hu => hu⟩
set_option maxRecDepth 100000 in
theorem Keeps.grown {x : Option Nat} (hg : w.grownBy w' x) (hx : ∀ b, F b → some b ≠ x) : Keeps F F w w' := fun b hF => ⟨hF, fun o u h => by
  rw [World.cell?_of_block (w := w) (hg.block b (block_lt_of_cell (a := ⟨b, o, none⟩) h) (hx b hF))]; exact h⟩
set_option maxRecDepth 100000 in
theorem SlT.below {v : Value} {l : List Tm} (h : SlT F w v l) (hb : Below w.heap.size w w') : SlT F w' v l := h.keep (Keeps.below hb)
set_option maxRecDepth 100000 in
theorem SlT.weak {v : Value} {l : List Tm} (h : SlT F w v l) (hF : ∀ b, F b → F' b) : SlT F' w v l := h.keep (Keeps.weak hF)
set_option maxRecDepth 100000 in
theorem KS.below {t : Tm} {v : Value} (h : KS F w t v) (hb : Below w.heap.size w w') : KS F w' t v := KS.keep (Keeps.below hb) t v h
set_option maxRecDepth 100000 in
theorem SlT.nil : SlT F w (.slice none 0 0) [] := ⟨none, 0, [], rfl, Nat.le_refl _, rfl, fun h => absurd h (by simp)⟩
set_option maxRecDepth 100000 in
theorem SlT.len {v : Value} {l : List Tm} (h : SlT F w v l) : ∃ p cap, v = .slice p l.length cap ∧ l.length ≤ cap := by
  obtain ⟨p, cap, _, hv, hc, _⟩ := h; exact ⟨p, cap, hv, hc⟩
set_option maxRecDepth 100000 in
theorem SlT.at {p : Option Addr} {n cap : Nat} {l : List Tm} (h : SlT F w (.slice p n cap) l) (h0 : 0 < n) : ∃ b o, p = some ⟨b, o, none⟩ := by
  obtain ⟨q, c, cs, hv, _, _, hs⟩ := h
  simp only [Value.slice.injEq] at hv
  obtain ⟨rfl, hl, rfl⟩ := hv
  obtain ⟨b, o, hp, _⟩ := hs (by omega)
  exact ⟨b, o, hp⟩
set_option maxRecDepth 100000 in
theorem SlT.n {p : Option Addr} {n cap : Nat} {l : List Tm} (h : SlT F w (.slice p n cap) l) : n = l.length := by
  obtain ⟨q, c, cs, hv, _⟩ := h
  simp only [Value.slice.injEq] at hv
  exact hv.2.1
set_option maxRecDepth 100000 in
/-- The three cells of an element, and what its last one holds. -/
theorem SlT.cells {b o n cap : Nat} {l : List Tm} (h : SlT F w (.slice (some ⟨b, o, none⟩) n cap) l) {i : Nat} {t : Tm} (ht : l[i]? = some t) :
    ∃ p m c, w.cell? ⟨b, o + i * 3, none⟩ = some (.int .i64 t.k) ∧ w.cell? ⟨b, o + i * 3 + 1, none⟩ = some (.int .i64 t.n) ∧ w.cell? ⟨b, o + i * 3 + 2, none⟩ = some (.slice p m c) ∧ m = t.l.length ∧ SlT F w (.slice p m c) t.l := by
  obtain ⟨q, c, cs, hv, _, ht2, hs⟩ := h
  simp only [Value.slice.injEq] at hv
  obtain ⟨rfl, hl, rfl⟩ := hv
  have h0 : 0 < l.length := by have := (List.getElem?_eq_some_iff.1 ht).1; omega
  obtain ⟨b', o', hp, _, hseg⟩ := hs h0
  simp only [Option.some.injEq, Addr.mk.injEq] at hp
  obtain ⟨rfl, rfl, _⟩ := hp
  obtain ⟨s, e1, e2, e3, e4⟩ := ht2.get ht
  rw [KS_iff] at e4
  obtain ⟨p, cap, hs, _⟩ := e4.len
  subst hs
  exact ⟨p, _, cap, hseg _ _ e1, by rw [Nat.add_assoc]; exact hseg _ _ e2, by rw [Nat.add_assoc]; exact hseg _ _ e3, rfl, e4⟩
end
section
variable {ops : Array Oper} {rest : List Oper} {a : Act} {w w0 : World} {Q : Exit → Act → World → Prop} {dst : Option Tmp} {typ : TypeId} {pos : String} {aft : Array Edge} {gd : Option (Nat × Bool)} {S : List Nat} {rows : List (Nat × List Value × TypeId)}
set_option maxRecDepth 100000 in
theorem exec_ixT {x ix : Operand} {b o n cap : Nat} (i : Nat) {ii : Int} (hx : a.eval x = .slice (some ⟨b, o, none⟩) n cap) (hix : a.eval ix = .int .i64 ii) (hii : ii = (i : Int)) (hi : i < n) :
    (execOp a.eval { dst := dst, op := .indexAddr 22 x ix, type := typ, pos := pos, after := aft, guard := gd }).run Tryd.prog w = .ok (.value (.pointer (some ⟨b, o + i * 3, none⟩))) w := by
  subst hii
  have h0 : (0 : Int) ≤ (i : Int) ∧ (i : Int) < (n : Int) := by omega
  unfold execOp
  simp [hx, hix, Instr.indexAt, asIntOf, run_underlying un_terms, h0, add_at]
  omega
set_option maxRecDepth 100000 in
theorem exec_ldT {x : Operand} {b o : Nat} {t : Tm} {s : Value} (hx : a.eval x = .pointer (some ⟨b, o, none⟩)) (h0 : w.cell? ⟨b, o, none⟩ = some (.int .i64 t.k)) (h1 : w.cell? ⟨b, o + 1, none⟩ = some (.int .i64 t.n)) (h2 : w.cell? ⟨b, o + 2, none⟩ = some s) :
    (execOp a.eval { dst := dst, op := .load 24 x, type := typ, pos := pos, after := aft, guard := gd }).run Tryd.prog w = .ok (.value (.agg (tcs t s).toArray)) w := by
  obtain ⟨fs, hfs⟩ := un_term
  have hc : ∀ j u, [Value.int .i64 t.k, Value.int .i64 t.n, s][j]? = some u → w.cell? ⟨b, o + j, none⟩ = some u := by
    intro j u hu
    match j with
    | 0 => simp at hu; subst hu; exact h0
    | 1 => simp at hu; subst hu; exact h1
    | 2 => simp at hu; subst hu; exact h2
    | j + 3 => simp at hu
  unfold execOp
  simp only [hx, Instr.loadAt, Instr.sureAddr, Sem.run_bind, Sem.run_pure, Result.andThen_ok, run_loadVar_at w b o 3 24 _ (.struct fs) hc hfs rfl sz_term rfl]
  rfl
set_option maxRecDepth 100000 in
theorem exec_ldx {ty : TypeId} {x : Operand} {b j : Nat} (v : Value) (hc : w.cell? ⟨b, j, none⟩ = some v) (hx : a.eval x = .pointer (some ⟨b, j, none⟩)) (ha : ∀ w, (isAgg ty).run Tryd.prog w = .ok false w) :
    (execOp a.eval { dst := dst, op := .load ty x, type := typ, pos := pos, after := aft, guard := gd }).run Tryd.prog w = .ok (.value v) w := by
  have hld : (loadVar ty ⟨b, j, none⟩).run Tryd.prog w = .ok v w := by simp [loadVar, ha, go_sem, hc]
  unfold execOp
  simp only [hx, Instr.loadAt, Instr.sureAddr, Sem.run_bind, Sem.run_pure, Result.andThen_ok, hld]
set_option maxRecDepth 100000 in
theorem wpl_bslT {x : Operand} (t : Tm) (s : Value) (hw : Region.wanted { dst := dst, op := .buildSlice 22 1 #[(0, x)], type := typ, pos := pos, after := aft, guard := gd } (yielded ops a.tmps) = true) (hx : a.eval x = .agg (tcs t s).toArray) (hm : Mem w0 S w rows)
    (h : ∀ w' g, Below w.heap.size w w' → Mem w0 S w' ((g, tcs t s, 24) :: rows) → wpList Tryd.prog ops Q rest (a.put dst (.slice (some ⟨g, 0, none⟩) 1 1)) w') :
    wpList Tryd.prog ops Q ({ dst := dst, op := .buildSlice 22 1 #[(0, x)], type := typ, pos := pos, after := aft, guard := gd } :: rest) a w := by
  refine wpList_step fun K hK => ?_
  rw [if_pos hw]
  have hh := hK _ _ (h _ _ ((Below.refl _ _).alloc (Nat.le_refl _) _) (hm.alloc (tcs t s) 24))
  unfold Oper.wp execOp
  simp only [List.map_toArray, List.map_cons, List.map_nil, hx, run_bslK (P := Tryd.prog) w _ (tcs t s) un_terms info_term rfl rfl, Sem.run_bind, Sem.run_pure, Result.andThen_ok]
  exact hh
end
section
variable {P : Program} {a : Act} {w w0 : World} {S : List Nat} {rows : List (Nat × List Value × TypeId)}
set_option maxRecDepth 100000 in
theorem ret_ct {fn : Func} {R : Ending → World → Prop} {p u : Tmp} {ty : TypeId} (i : Nat) {g : Nat} {l : List Value} {t : TypeId} (v : Value) (hm : Mem w0 S w rows) (hi : rows[i]? = some (g, l, t))
    (hres : fn.results = #[.cell p ty, .tmp u]) (hp : a.tmps.getD p undef = .pointer (some ⟨g, 0, none⟩)) (hv : a.tmps.getD u undef = v) (d : TypeDesc) (hu : P.underlying ty = some d) (hd : (match d with | .struct _ | .array _ _ => true | _ => false) = true)
    (n : Nat) (hs : (P.info? ty).map (·.size) = some n) (hn : l.length = n) (hd0 : a.defers = []) (hR : R (.returned (.tuple #[.agg l.toArray, v])) w) : bodyPost P fn R .ret a w := by
  refine bodyPost_ret ?_ hd0 hR
  rw [results_cell_tmp hres, hp, hv]
  have hl := run_loadVar_row (P := P) w g t ty l.toArray (0, 0) d (hm.get i hi) hu hd (by rw [hs]; simp [hn])
  simp [asAddr, hl]
end
end Go.Proofs.YtbiinchmbclmcaaDoor
