/- Laws that the stream's functions ask for: cuts with three indexes, cuts with their address written out, an array loaded by its cells. -/
import Derived.Test.YtbfccepddfinoaaDoorApp3
import Derived.Test.YtbfccepddfinoaaDoorStPlain
namespace Go.Proofs.YtbfccepddfinoaaDoor
open Go Go.RowKit

def i64s (l : List Int) : List Value := l.map (Value.int .i64)
theorem i64s_length (l : List Int) : (i64s l).length = l.length := by simp [i64s]
theorem i64s_get (l : List Int) (i : Nat) (h : i < l.length) : (i64s l)[i]? = some (.int .i64 (l.getD i 0)) := by
  simp [i64s, h]
theorem i64s_one (l : List Int) : ∀ v ∈ i64s l, v.oneCell' = true := by
  intro v hv; simp [i64s] at hv; obtain ⟨x, _, rfl⟩ := hv; rfl
section
variable {P : Program}
theorem run_loadVar_at (w : World) (g off n : Nat) (ty : TypeId) (cs : List Value) (d : TypeDesc) (hc : ∀ j v, cs[j]? = some v → w.cell? ⟨g, off + j, none⟩ = some v) (hu : P.underlying ty = some d)
    (hd : (match d with | .struct _ | .array _ _ => true | _ => false) = true) (hi : (P.info? ty).map (·.size) = some n) (hn : cs.length = n) :
    (loadVar ty ⟨g, off, none⟩).run P w = .ok (.agg cs.toArray) w := by
  have hl : (loadCells ⟨g, off, none⟩ cs.length).run P w = .ok cs.toArray w :=
    run_loadCells_list (P := P) w ⟨g, off, none⟩ cs (fun j v hv => by rw [add_at]; exact hc j v hv)
  rw [hn] at hl
  cases hq : P.info? ty with
  | none => simp [hq] at hi
  | some i =>
    have hs : i.size = n := by simpa [hq] using hi
    have hagg : (isAgg ty).run P w = .ok true w := by
      unfold isAgg
      rw [Sem.run_bind, run_underlying hu w]
      cases d <;> simp_all
    simp [loadVar, Sem.run_bind, hagg, sizeOf, typeInfo, hq, hs, hl]
theorem run_slo2 (w : World) {ty : TypeId} {elem : TypeId} (hu : P.underlying ty = some (.slice elem)) (hs : (P.info? elem).map (·.size) = some 1) {g o len cap : Nat} (l : Nat) (hl : l ≤ len) (hlc : l < cap) :
    (Instr.sliceAt ty (.slice (some ⟨g, o, none⟩) len cap) (some (.int .i64 (l : Int))) none none).run P w = .ok (.slice (some ⟨g, o + l, none⟩) (len - l) (cap - l)) w := by
  cases hq : P.info? elem with
  | none => simp [hq] at hs
  | some q =>
    have hs1 : q.size = 1 := by simpa [hq] using hs
    have hsz : (sizeOf elem).run P w = .ok 1 w := by simp [sizeOf, typeInfo, hq, hs1]
    have bnd : (Instr.sliceBound (.int .i64 (l : Int)) len .sliceB).run P w = .ok l w := by
      rw [run_sliceBound (P := P) w .i64 (l : Int) len .sliceB (by omega) (by omega)]
      simp
    have hb : (Instr.sliceBounds true len cap (some (.int .i64 (l : Int))) none none).run P w = .ok (l, len, cap) w := by
      simp [Instr.sliceBounds, bnd]
    have hne : ¬ cap = l := by omega
    simp [Instr.sliceAt, Instr.slice, run_underlying hu, hb, hsz, hne, add_at]
/-- An array cut with three indexes. -/
theorem run_sla3 (w : World) {ty : TypeId} {n : Nat} {elem : TypeId} (hu : P.underlying ty = some (.array n elem)) (hs : (P.info? elem).map (·.size) = some 1) (g o l m c : Nat) (hlm : l + m ≤ c) (hln : l < c) (hcn : c ≤ n) :
    (Instr.sliceAt ty (.pointer (some ⟨g, o, none⟩)) (some (.int .i64 (l : Int))) (some (.int .i64 ((l + m : Nat) : Int))) (some (.int .i64 (c : Int)))).run P w = .ok (.slice (some ⟨g, o + l, none⟩) m (c - l)) w := by
  cases hq : P.info? elem with
  | none => simp [hq] at hs
  | some q =>
    have hs1 : q.size = 1 := by simpa [hq] using hs
    have hsz : (sizeOf elem).run P w = .ok 1 w := by simp [sizeOf, typeInfo, hq, hs1]
    have hne : ¬ c = l := by omega
    have bnd : ∀ (j y : Nat) (code : BoundsCode), j ≤ y → (Instr.sliceBound (.int .i64 (j : Int)) y code).run P w = .ok j w := by
      intro j y code hj
      rw [run_sliceBound (P := P) w .i64 (j : Int) y code (by omega) (by omega)]
      simp
    obtain ⟨h, hh⟩ : ∃ h, h = l + m := ⟨_, rfl⟩
    rw [← hh] at hlm ⊢
    have hb : (Instr.sliceBounds false n n (some (.int .i64 (l : Int))) (some (.int .i64 (h : Int))) (some (.int .i64 (c : Int)))).run P w = .ok (l, h, c) w := by
      simp [Instr.sliceBounds, bnd c n _ hcn, bnd h c _ hlm, bnd l h _ (by omega)]
    have hml : h - l = m := by omega
    simp [Instr.sliceAt, Instr.sureAddr, run_underlying hu, hb, hsz, hne, add_at, hml]
/-- A slice cut to its first m, with no room behind them. -/
theorem run_sl3 (w : World) {ty : TypeId} {elem : TypeId} (hu : P.underlying ty = some (.slice elem)) (hs : (P.info? elem).map (·.size) = some 1) {g o len cap : Nat} (m : Nat) (hm : m ≤ cap) (h0 : 0 < m) :
    (Instr.sliceAt ty (.slice (some ⟨g, o, none⟩) len cap) none (some (.int .i64 (m : Int))) (some (.int .i64 (m : Int)))).run P w = .ok (.slice (some ⟨g, o, none⟩) m m) w := by
  cases hq : P.info? elem with
  | none => simp [hq] at hs
  | some q =>
    have hs1 : q.size = 1 := by simpa [hq] using hs
    have hsz : (sizeOf elem).run P w = .ok 1 w := by simp [sizeOf, typeInfo, hq, hs1]
    have hne : ¬ m = 0 := by omega
    have bnd : ∀ (j y : Nat) (code : BoundsCode), j ≤ y → (Instr.sliceBound (.int .i64 (j : Int)) y code).run P w = .ok j w := by
      intro j y code hj
      rw [run_sliceBound (P := P) w .i64 (j : Int) y code (by omega) (by omega)]
      simp
    have hb : (Instr.sliceBounds true len cap none (some (.int .i64 (m : Int))) (some (.int .i64 (m : Int)))).run P w = .ok (0, m, m) w := by
      simp [Instr.sliceBounds, bnd m cap _ hm, bnd m m _ (Nat.le_refl _)]
    simp [Instr.sliceAt, Instr.slice, run_underlying hu, hb, hsz, hne, add_at]
end
section
variable {P : Program} {ops : Array Oper} {rest : List Oper} {a : Act} {w w0 : World} {dst : Option Tmp} {typ : TypeId} {pos : String} {aft : Array Edge} {S : List Nat} {rows : List (Nat × List Value × TypeId)} {gd : Option (Nat × Bool)}
theorem wpl_ldg {Q : Exit → Act → World → Prop} {ty : TypeId} {x : Operand} {g : Nat} (cs : List Value) (off : Nat) (hx : a.eval x = .pointer (some ⟨g, off, none⟩)) (hc : ∀ j v, cs[j]? = some v → w.cell? ⟨g, off + j, none⟩ = some v)
    (d : TypeDesc) (hu : P.underlying ty = some d) (hd : (match d with | .struct _ | .array _ _ => true | _ => false) = true) (n : Nat) (hs : (P.info? ty).map (·.size) = some n) (hn : cs.length = n)
    (h : wpList P ops Q rest (a.put dst (.agg cs.toArray)) w) :
    wpList P ops Q ({ dst := dst, op := .load ty x, type := typ, pos := pos, after := aft, guard := none } :: rest) a w := by
  refine wpList_plain rfl fun K hK => ?_
  have hh := hK _ _ h
  unfold Oper.wp execOp
  simp only [hx, Instr.loadAt, Instr.sureAddr, Sem.run_bind, Sem.run_pure, Result.andThen_ok, run_loadVar_at w g off n ty cs d hc hu hd hs hn]
  exact hh
theorem wpl_slo2 {Q : Exit → Act → World → Prop} {ty : TypeId} {x lo : Operand} {elem : TypeId} (hu : P.underlying ty = some (.slice elem)) (hs : (P.info? elem).map (·.size) = some 1) {g o len cap : Nat} (l : Nat) {il : Int} (hl : l ≤ len) (hlc : l < cap) (hx : a.eval x = .slice (some ⟨g, o, none⟩) len cap)
    (hlo : a.eval lo = .int .i64 il) (hil : il = (l : Int)) (h : wpList P ops Q rest (a.put dst (.slice (some ⟨g, o + l, none⟩) (len - l) (cap - l))) w) :
    wpList P ops Q ({ dst := dst, op := .slice ty x (some lo) none none, type := typ, pos := pos, after := aft, guard := none } :: rest) a w := by
  subst hil
  refine wpList_plain rfl fun K hK => ?_
  have hh := hK _ _ h
  unfold Oper.wp execOp
  simp only [hx, hlo, Option.map_some, Option.map_none, run_slo2 (P := P) w hu hs l hl hlc, Sem.run_bind, Sem.run_pure, Result.andThen_ok]
  exact hh
theorem wps_sla3 {Q : Act → Prop} {ty : TypeId} {x lo hi mx : Operand} (n : Nat) {elem : TypeId} (hu : P.underlying ty = some (.array n elem)) (hs : (P.info? elem).map (·.size) = some 1) {g o : Nat} (l m c : Nat) (hlm : l + m ≤ c) (hln : l < c) (hcn : c ≤ n) (hx : a.eval x = .pointer (some ⟨g, o, none⟩))
    (hlo : a.eval lo = .int .i64 (l : Int)) (hhi : a.eval hi = .int .i64 ((l + m : Nat) : Int)) (hmx : a.eval mx = .int .i64 (c : Int)) (h : wpStill P ops w Q rest (a.put dst (.slice (some ⟨g, o + l, none⟩) m (c - l)))) :
    wpStill P ops w Q ({ dst := dst, op := .slice ty x (some lo) (some hi) (some mx), type := typ, pos := pos, after := aft, guard := none } :: rest) a := by
  refine wps_run rfl _ ?_ h
  unfold execOp
  simp only [hx, hlo, hhi, hmx, Option.map_some, run_sla3 (P := P) w hu hs g o l m c hlm hln hcn, Sem.run_bind, Sem.run_pure, Result.andThen_ok]
theorem exec_sl3 {ty : TypeId} {x hi mx : Operand} {elem : TypeId} (hu : P.underlying ty = some (.slice elem)) (hs : (P.info? elem).map (·.size) = some 1) {g o len cap : Nat} (m : Nat) {ih im : Int} (hm : m ≤ cap) (h0 : 0 < m) (hx : a.eval x = .slice (some ⟨g, o, none⟩) len cap)
    (hhi : a.eval hi = .int .i64 ih) (hih : ih = (m : Int)) (hmx : a.eval mx = .int .i64 im) (him : im = (m : Int)) :
    (execOp a.eval { dst := dst, op := .slice ty x none (some hi) (some mx), type := typ, pos := pos, after := aft, guard := gd }).run P w = .ok (.value (.slice (some ⟨g, o, none⟩) m m)) w := by
  subst hih him
  unfold execOp
  simp only [hx, hhi, hmx, Option.map_some, Option.map_none, run_sl3 (P := P) w hu hs m hm h0, Sem.run_bind, Sem.run_pure, Result.andThen_ok]
/-- A part of an array, by its index. -/
theorem wpl_ixp {Q : Exit → Act → World → Prop} {ty : TypeId} {x ix : Operand} (n : Nat) {elem : TypeId} (hu : P.underlying ty = some (.array n elem)) (k : Nat) (hs : (P.info? elem).map (·.size) = some k) (ha : ∀ w, (isAgg elem).run P w = .ok true w) (l sub : List Value) (j : Nat) {ij : Int} (hj : j < n)
    (hx : a.eval x = .agg l.toArray) (hix : a.eval ix = .int .i64 ij) (hij : ij = (j : Int)) (hv : (l.drop (j * k)).take k = sub)
    (h : wpList P ops Q rest (a.put dst (.agg sub.toArray)) w) :
    wpList P ops Q ({ dst := dst, op := .index ty x ix, type := typ, pos := pos, after := aft, guard := none } :: rest) a w := by
  subst hij
  refine wpList_plain rfl fun K hK => ?_
  have hh := hK _ _ h
  have hr : (Instr.index ty (.agg l.toArray) (.int .i64 (j : Int))).run P w = .ok (.agg sub.toArray) w := by
    cases hq : P.info? elem with
    | none => simp [hq] at hs
    | some q =>
      have hs1 : q.size = k := by simpa [hq] using hs
      have hsz : (sizeOf elem).run P w = .ok k w := by simp [sizeOf, typeInfo, hq, hs1]
      simp [Instr.index, asIntOf, run_underlying hu, hj, hsz, part, ha, hv]
  unfold Oper.wp execOp
  simp only [hx, hix, hr, Sem.run_bind, Sem.run_pure, Result.andThen_ok]
  exact hh
end
end Go.Proofs.YtbfccepddfinoaaDoor
