/- More laws on the memory of a call: parts of a row, makes, cuts of slices, and the head of a region that draws its order. -/
import Derived.Test.YtbiinchmbclmcaaDoorMem
import Derived.StillTailTactics
namespace Go.Proofs.YtbiinchmbclmcaaDoor
open Go Go.RowKit

theorem wrap_nat (n : Nat) (h : n < 4611686018427387904) : IntKind.i64.wrap (n : Int) = (n : Int) := by
  simp [IntKind.wrap, IntKind.bits, IntKind.signed]
  split <;> omega
theorem below_upd {B g : Nat} {a b c : World} (h : Below B a b) (hu : Upd g b c) (hg : B ≤ g) (hB : B ≤ b.heap.size) : Below B a c :=
  h.trans ⟨hu.os, hu.tape, hu.output, hu.size, fun k hk => hu.block k (by omega) (by omega)⟩
section
variable {P : Program}

theorem run_loadVar_seg (w : World) (g off n : Nat) (ty t : TypeId) (l : List Value) (d : TypeDesc) (hg : Row w g l t) (hu : P.underlying ty = some d)
    (hd : (match d with | .struct _ | .array _ _ => true | _ => false) = true) (hi : (P.info? ty).map (·.size) = some n) (hn : off + n ≤ l.length) :
    (loadVar ty ⟨g, off, none⟩).run P w = .ok (.agg ((l.drop off).take n).toArray) w := by
  have hlen : ((l.drop off).take n).length = n := by simp; omega
  have hl : (loadCells ⟨g, off, none⟩ ((l.drop off).take n).length).run P w = .ok ((l.drop off).take n).toArray w :=
    run_loadCells_list (P := P) w ⟨g, off, none⟩ ((l.drop off).take n) (fun j v hv => by
      rw [add_at, hg.cell]
      have hj : j < n := by
        rcases Nat.lt_or_ge j n with h | h
        · exact h
        · rw [List.getElem?_eq_none (by omega)] at hv; cases hv
      rw [List.getElem?_take, if_pos hj, List.getElem?_drop] at hv
      exact hv)
  rw [hlen] at hl
  cases hq : P.info? ty with
  | none => simp [hq] at hi
  | some i =>
    have hs : i.size = n := by simpa [hq] using hi
    have hagg : (isAgg ty).run P w = .ok true w := by
      unfold isAgg
      rw [Sem.run_bind, run_underlying hu w]
      cases d <;> simp_all
    simp [loadVar, Sem.run_bind, hagg, sizeOf, typeInfo, hq, hs, hl]
theorem run_storeVar_seg (w : World) (g off : Nat) (ty t : TypeId) (l cs : List Value) (hg : Row w g l t) (hi : (P.info? ty).map (·.size) = some cs.length) (hn : off + cs.length ≤ l.length) (h1 : ∀ v ∈ cs, v.oneCell' = true) :
    (storeVar ty ⟨g, off, none⟩ (.agg cs.toArray)).run P w = .ok () (w.setRow g (splice l off cs).toArray) := by
  have hst := run_storeCells_at P g off t cs 0 l.toArray w hg (by simpa using hn) h1
  cases hq : P.info? ty with
  | none => simp [hq] at hi
  | some i =>
    have hs : i.size = cs.length := by simpa [hq] using hi
    have e : (l.take off ++ cs ++ l.drop (off + cs.length)) = splice l off cs := by simp [splice]
    simp only [Nat.add_zero, e] at hst
    simp [storeVar, sizeOf, typeInfo, hq, Value.cells, hs, hst]
end

/-- Two arrays of integers are one just where their lists are. -/
theorem run_eqa {P : Program} (w : World) (d : Nat) (t e : TypeId) (n : Nat) (k : IntKind) (ht : P.underlying t = some (.array n e)) (he : P.underlying e = some (.int k)) (hs : (P.info? e).map (·.size) = some 1) (xs ys : List Int) (hx : xs.length = n) (hy : ys.length = n) :
    (Op.equalIn (d + 2) t (.agg (xs.map (Value.int k)).toArray) (.agg (ys.map (Value.int k)).toArray)).run P w = .ok (decide (xs = ys)) w := by
  have hsz : (sizeOf e).run P w = .ok 1 w := by
    cases hq : P.info? e with
    | none => simp [hq] at hs
    | some q =>
      have hs1 : q.size = 1 := by simpa [hq] using hs
      simp [sizeOf, typeInfo, hq, hs1]
  have hp : ∀ (zs : List Int) (i : Nat) (z : Int), zs[i]? = some z → (part e (zs.map (Value.int k)).toArray (i * 1)).run P w = .ok (.int k z) w := by
    intro zs i z hz
    simp [part, isAgg, run_underlying he, hz]
  rw [Op.equalIn]
  simp only [Sem.run_bind, run_underlying ht, Result.andThen_ok, hsz, Std.Legacy.Range.forIn_eq_forIn_range', Std.Legacy.Range.size, Nat.sub_zero, Nat.add_sub_cancel, Nat.div_one]
  have hd0 : decide (xs = ys) = decide (xs.drop 0 = ys.drop 0) := by simp
  rw [hd0]
  obtain ⟨m, hmn⟩ : ∃ m, m = n := ⟨n, rfl⟩
  have hle : 0 + m = n := by omega
  rw [show List.range' 0 n 1 = List.range' 0 m 1 by rw [hmn]]
  clear hmn hd0
  generalize 0 = i at hle ⊢
  induction m generalizing i with
  | zero =>
    rw [List.drop_of_length_le (by omega), List.drop_of_length_le (by omega)]
    simp
  | succ m ih =>
    have h1 : i < xs.length := by omega
    have h2 : i < ys.length := by omega
    have hdec : xs.drop i = ys.drop i ↔ (xs[i] = ys[i] ∧ xs.drop (i + 1) = ys.drop (i + 1)) := by
      rw [List.drop_eq_getElem_cons h1, List.drop_eq_getElem_cons h2, List.cons.injEq]
    have hdec2 : decide (xs.drop i = ys.drop i) = (decide (xs[i] = ys[i]) && decide (xs.drop (i + 1) = ys.drop (i + 1))) := by
      rw [Bool.eq_iff_iff, Bool.and_eq_true, decide_eq_true_iff, decide_eq_true_iff, decide_eq_true_iff]
      exact hdec
    rw [List.range'_succ, hdec2]
    simp only [List.forIn_cons, Sem.run_bind, hp xs i xs[i] (by simp [h1]), hp ys i ys[i] (by simp [h2]), run_equalIn_int w d e k k _ _ he, Result.andThen_ok]
    by_cases hb : xs[i] = ys[i]
    · simp only [hb, beq_self_eq_true, Bool.not_true, Bool.false_eq_true, if_false, Sem.run_pure, Result.andThen_ok]
      rw [ih (i + 1) (by omega)]
      simp only [decide_true, Bool.true_and]
    · have hb' : (xs[i] == ys[i]) = false := by simpa using hb
      simp only [hb', hb, decide_false, Bool.false_and, Bool.not_false, if_true, Sem.run_pure, Result.andThen_ok]
theorem run_eqla {P : Program} (w : World) (t e : TypeId) (n : Nat) (k : IntKind) (ht : P.underlying t = some (.array n e)) (he : P.underlying e = some (.int k)) (hs : (P.info? e).map (·.size) = some 1) (xs ys : List Int) (hx : xs.length = n) (hy : ys.length = n) :
    (binOp .eql t (.agg (xs.map (Value.int k)).toArray) (.agg (ys.map (Value.int k)).toArray)).run P w = .ok (.bool (decide (xs = ys))) w := by
  rw [run_eql_struct, run_eqa w 9998 t e n k ht he hs xs ys hx hy]
  rfl

section
variable {P : Program} {ops : Array Oper} {rest : List Oper} {a : Act} {w w0 : World} {Q : Exit → Act → World → Prop} {dst : Option Tmp} {typ : TypeId} {pos : String} {aft : Array Edge} {S : List Nat} {rows : List (Nat × List Value × TypeId)}

theorem wpl_lds {ty : TypeId} {x : Operand} (i : Nat) {g : Nat} {l : List Value} {t : TypeId} (off : Nat) (sub : List Value) (hm : Mem w0 S w rows) (hi : rows[i]? = some (g, l, t)) (hx : a.eval x = .pointer (some ⟨g, off, none⟩))
    (d : TypeDesc) (hu : P.underlying ty = some d) (hd : (match d with | .struct _ | .array _ _ => true | _ => false) = true) (n : Nat) (hs : (P.info? ty).map (·.size) = some n) (hn : off + n ≤ l.length) (hsub : (l.drop off).take n = sub)
    (h : wpList P ops Q rest (a.put dst (.agg sub.toArray)) w) :
    wpList P ops Q ({ dst := dst, op := .load ty x, type := typ, pos := pos, after := aft, guard := none } :: rest) a w := by
  refine wpList_plain rfl fun K hK => ?_
  have hh := hK _ _ h
  unfold Oper.wp execOp
  simp only [hx, Instr.loadAt, Instr.sureAddr, Sem.run_bind, Sem.run_pure, Result.andThen_ok, run_loadVar_seg w g off n ty t l d (hm.get i hi) hu hd hs hn, hsub]
  exact hh
theorem wpl_sts {ty : TypeId} {x y : Operand} (i : Nat) {g : Nat} {l : List Value} {t : TypeId} (off : Nat) (cs new : List Value) (hm : Mem w0 S w rows) (hi : rows[i]? = some (g, l, t)) (hx : a.eval x = .pointer (some ⟨g, off, none⟩))
    (hy : a.eval y = .agg cs.toArray) (n : Nat) (hs : (P.info? ty).map (·.size) = some n) (hn : cs.length = n) (hl : off + n ≤ l.length) (h1 : ∀ v ∈ cs, v.oneCell' = true) (hnew : splice l off cs = new)
    (h : ∀ w', Mem w0 S w' (rows.set i (g, new, t)) → wpList P ops Q rest a w') :
    wpList P ops Q ({ dst := none, op := .store ty x y, type := typ, pos := pos, after := aft, guard := none } :: rest) a w := by
  refine wpList_plain rfl fun K hK => ?_
  have hr := hm.get i hi
  subst hnew
  have hh := hK _ _ (h _ (hm.upd i hi (Upd.setRow g w (splice l off cs).toArray) (hr.setRow _)))
  unfold Oper.wp execOp
  simp only [hx, hy, Instr.storeAt, Instr.sureAddr, Sem.run_bind, Sem.run_pure, Result.andThen_ok, run_storeVar_seg w g off ty t l cs hr (by rw [hs, hn]) (by omega) h1]
  exact hh
theorem wpl_copyN {d s : Operand} {dT sT : TypeId} (i : Nat) {g : Nat} {l : List Value} {t : TypeId} (off dLen dCap : Nat) (ad : Addr) (sLen sCap : Nat) (cs : List Value) (n : Nat) (new : List Value) (hm : Mem w0 S w rows) (hi : rows[i]? = some (g, l, t))
    (hd : a.eval d = .slice (some ⟨g, off, none⟩) dLen dCap) (hs : a.eval s = .slice (some ad) sLen sCap) (elem : TypeId) (hu : P.underlying dT = some (.slice elem)) (hsz : (P.info? elem).map (·.size) = some 1)
    (hcn : cs.length = n) (hn : n = Nat.min sLen dLen) (hsrc : ∀ j v, cs[j]? = some v → w.cell? (ad.add j) = some v) (hfit : off + n ≤ l.length) (h1 : ∀ v ∈ cs, v.oneCell' = true) (hnew : splice l off cs = new)
    (h : ∀ w', Mem w0 S w' (rows.set i (g, new, t)) → wpList P ops Q rest (a.put dst (.int .i64 n)) w') :
    wpList P ops Q ({ dst := dst, op := .call { callee := .builtin .copy, args := #[d, s], argTypes := #[dT, sT] }, type := typ, pos := pos, after := aft, guard := none } :: rest) a w := by
  subst hcn hnew
  exact wpl_copy i off dLen dCap ad sLen sCap cs hm hi hd hs elem hu hsz hn hsrc hfit h1 h
theorem wpl_sls {ty : TypeId} {x lo : Operand} (elem : TypeId) (hu : P.underlying ty = some (.slice elem)) (hs : (P.info? elem).map (·.size) = some 1) {p : Option Addr} {len cap : Nat} (n : Nat) {i : Int} (hx : a.eval x = .slice p len cap) (hlo : a.eval lo = .int .i64 i) (hi : i = (n : Int)) (hn : n ≤ len)
    (h : ∀ p', p' = (if cap = n then p else p.map (·.add n)) → wpList P ops Q rest (a.put dst (.slice p' (len - n) (cap - n))) w) :
    wpList P ops Q ({ dst := dst, op := .slice ty x (some lo) none none, type := typ, pos := pos, after := aft, guard := none } :: rest) a w := by
  subst hi
  refine wpList_plain rfl fun K hK => ?_
  have hh := hK _ _ (h _ rfl)
  have hr : (Instr.sliceAt ty (.slice p len cap) (some (.int .i64 (n : Int))) none none).run P w = .ok (.slice (if cap = n then p else p.map (·.add n)) (len - n) (cap - n)) w := by
    cases hq : P.info? elem with
    | none => simp [hq] at hs
    | some q =>
      have hs1 : q.size = 1 := by simpa [hq] using hs
      have hsz : (sizeOf elem).run P w = .ok 1 w := by simp [sizeOf, typeInfo, hq, hs1]
      have hb : (Instr.sliceBounds true len cap (some (.int .i64 (n : Int))) none none).run P w = .ok (n, len, cap) w := by
        have := run_sliceBound (P := P) w .i64 (n : Int) len .sliceB (by omega) (by omega)
        simp [Instr.sliceBounds, this]
      simp [Instr.sliceAt, Instr.slice, run_underlying hu, hb, hsz]
  unfold Oper.wp execOp
  simp only [hx, hlo, Option.map_some, Option.map_none, hr, Sem.run_bind, Sem.run_pure, Result.andThen_ok]
  exact hh
theorem wpl_build {ty : TypeId} {pl : List (Nat × Operand)} (l : List Value) (ps : List (Nat × Value)) (hps : (pl.map fun p => (p.1, a.eval p.2)) = ps) (hb : P.built ty ps = some l.toArray)
    (h : wpList P ops Q rest (a.put dst (.agg l.toArray)) w) :
    wpList P ops Q ({ dst := dst, op := .build ty pl.toArray, type := typ, pos := pos, after := aft, guard := none } :: rest) a w := by
  refine wpList_plain rfl fun K hK => ?_
  have hh := hK _ _ h
  have e : (pl.toArray.map fun (i, x) => (i, a.eval x)).toList = pl.map fun p => (p.1, a.eval p.2) := by simp
  refine wp_build ty pl.toArray rfl (by rw [e, hps, hb]; rfl) ?_
  rw [e, hps, hb]
  exact hh
theorem wpl_make {ty : TypeId} {x y : Operand} (elem : TypeId) (hu : P.underlying ty = some (.slice elem)) (z : Value) (hi : (P.info? elem).map (fun i => (i.zero, i.size, i.bytes)) = some (some z, 1, 1)) (hz : z.cells = #[z]) (n : Nat) {i j : Int} (hx : a.eval x = .int .i64 i) (hxi : i = (n : Int)) (hy : a.eval y = .int .i64 j) (hyj : j = (n : Int)) (hn : n ≤ 65536) (hm : Mem w0 S w rows)
    (h : ∀ w' g, Mem w0 S w' ((g, List.replicate n z, elem) :: rows) → wpList P ops Q rest (a.put dst (.slice (some ⟨g, 0, none⟩) n n)) w') :
    wpList P ops Q ({ dst := dst, op := .makeSlice ty x y, type := typ, pos := pos, after := aft, guard := none } :: rest) a w := by
  subst hxi hyj
  refine wpList_plain rfl fun K hK => ?_
  have hh := hK _ _ (h _ _ (hm.alloc (List.replicate n z) elem))
  have hr : (Instr.makeSlice ty (.int .i64 (n : Int)) (.int .i64 (n : Int))).run P w = .ok (.slice (some ⟨w.heap.size, 0, none⟩) n n) (w.alloc (.cells (List.replicate n z).toArray elem)) := by
    cases hq : P.info? elem with
    | none => simp [hq] at hi
    | some q =>
      simp only [hq, Option.map_some, Option.some.injEq, Prod.mk.injEq] at hi
      obtain ⟨h0, h1, h2⟩ := hi
      have := run_makeSlice (P := P) w ty elem q z hu hq h0 .i64 .i64 (n : Int) (n : Int) (by omega) (by omega) (by rw [h1]; simp; omega) (by rw [h2]; simp; omega) (by omega)
      rw [this, h1, hz]
      have e : madeCells #[z] ((n : Int).toNat * 1) = (List.replicate n z).toArray := by
        unfold madeCells
        apply Array.ext
        · simp
        · intro k h1 h2
          simp [Nat.mod_one]
      rw [e]
      simp
  unfold Oper.wp execOp
  simp only [hx, hy, Sem.run_bind, Sem.run_pure, Result.andThen_ok, hr]
  exact hh
end

section
variable {P : Program} {ops : Array Oper} {rest : List Oper} {a : Act} {w w0 : World} {Q : Act → Prop} {dst : Option Tmp} {typ : TypeId} {pos : String} {aft : Array Edge} {S : List Nat} {rows : List (Nat × List Value × TypeId)}
theorem wps_run {o : Oper} (hg : o.guard = none) (v : Value) (hr : (execOp a.eval o).run P w = .ok (.value v) w) (h : wpStill P ops w Q rest (a.put o.dst v)) : wpStill P ops w Q (o :: rest) a := by
  refine wpStill_step fun K hK => ?_
  rw [if_pos (by simp [Region.wanted, hg])]
  unfold Oper.still
  rw [hr]
  exact ⟨rfl, hK _ h⟩
theorem wps_sla {ty : TypeId} {x : Operand} {lo hi : Option Operand} (n : Nat) {elem : TypeId} (hu : P.underlying ty = some (.array n elem)) (hs : (P.info? elem).map (·.size) = some 1) {g o : Nat} (l m : Nat) (hlm : l + m ≤ n) (hln : l < n) (hx : a.eval x = .pointer (some ⟨g, o, none⟩))
    (hlo : lo.map a.eval = some (.int .i64 l) ∨ (lo.map a.eval = none ∧ l = 0)) (hhi : hi.map a.eval = some (.int .i64 (l + m : Nat)) ∨ (hi.map a.eval = none ∧ l + m = n))
    (h : wpStill P ops w Q rest (a.put dst (.slice (some ⟨g, o + l, none⟩) m (n - l)))) :
    wpStill P ops w Q ({ dst := dst, op := .slice ty x lo hi none, type := typ, pos := pos, after := aft, guard := none } :: rest) a := by
  have hr := run_sla (P := P) w hu hs g o l m hlm hln (lo.map a.eval) (hi.map a.eval) hlo hhi
  refine wps_run rfl _ ?_ h
  unfold execOp
  simp only [hx, Option.map_none, hr, Sem.run_bind, Sem.run_pure, Result.andThen_ok]
theorem wps_lds {ty : TypeId} {x : Operand} (i : Nat) {g : Nat} {l : List Value} {t : TypeId} (off : Nat) (sub : List Value) (hm : Mem w0 S w rows) (hi : rows[i]? = some (g, l, t)) (hx : a.eval x = .pointer (some ⟨g, off, none⟩))
    (d : TypeDesc) (hu : P.underlying ty = some d) (hd : (match d with | .struct _ | .array _ _ => true | _ => false) = true) (n : Nat) (hs : (P.info? ty).map (·.size) = some n) (hn : off + n ≤ l.length) (hsub : (l.drop off).take n = sub)
    (h : wpStill P ops w Q rest (a.put dst (.agg sub.toArray))) :
    wpStill P ops w Q ({ dst := dst, op := .load ty x, type := typ, pos := pos, after := aft, guard := none } :: rest) a := by
  refine wps_run rfl _ ?_ h
  unfold execOp
  simp only [hx, Instr.loadAt, Instr.sureAddr, Sem.run_bind, Sem.run_pure, Result.andThen_ok, run_loadVar_seg w g off n ty t l d (hm.get i hi) hu hd hs hn, hsub]
end
/-- A region that draws its order, its first n operations only reading, the others in a row. -/
theorem wp_tail {P : Program} {id : Nat} {Q : Exit → Act → World → Prop} {a : Act} {w w0 : World} {S : List Nat} {rows : List (Nat × List Value × TypeId)} {l : List Oper} (n : Nat) (hmix : P.follows .mixedOrders = true) (hB : Region.lexTailB .any l.toArray n = true) (hm : Mem w0 S w rows)
    (h : ∀ w', Mem w0 S w' rows → wpStill P l.toArray w' (fun a' => wpList P l.toArray Q (l.drop n) a' w') (l.take n) a) : (Code.region id l.toArray true).wp P Q a w :=
  wp_region_still_tail n hmix hB (h _ hm.drew)
/-- A slice of bytes that holds these, apart from block g. -/
def Sl (w : World) (g : Nat) (v : Value) (cs : List Int) : Prop :=
  ∃ p cap, v = .slice p cs.length cap ∧ cs.length ≤ cap ∧ (0 < cs.length → ∃ b off, p = some ⟨b, off, none⟩ ∧ b ≠ g ∧ Seg w b off cs)
def slLen : Value → Nat
  | .slice _ n _ => n
  | _ => 0
theorem sl_nil (w : World) (g : Nat) : Sl w g (.slice none 0 0) [] := ⟨none, 0, rfl, Nat.le_refl _, fun h => absurd h (by simp)⟩
theorem sl_drop {w : World} {g b off cap n : Nat} {cs : List Int} {p : Option Addr} (hc : cs.length ≤ cap) (hn : n ≤ cs.length) (hne : b ≠ g) (hs : Seg w b off cs) (hp : p = (if cap = n then some ⟨b, off, none⟩ else (some (⟨b, off, none⟩ : Addr)).map (·.add n))) :
    Sl w g (.slice p (cs.length - n) (cap - n)) (cs.drop n) := by
  refine ⟨p, cap - n, by simp, by simp; omega, fun h => ?_⟩
  have hlt : n < cs.length := by simp at h; omega
  rw [if_neg (by omega)] at hp
  exact ⟨b, off + n, by rw [hp]; simp [add_at], hne, hs.drop n⟩
end Go.Proofs.YtbiinchmbclmcaaDoor
