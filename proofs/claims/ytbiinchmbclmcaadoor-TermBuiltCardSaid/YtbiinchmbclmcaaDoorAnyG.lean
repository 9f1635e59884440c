/- Regions that draw their order: operations under a guard; slices cut at one end, whatever their address; strings joined. -/
import Derived.Test.YtbiinchmbclmcaaDoorOld
import Derived.Test.YtbiinchmbclmcaaDoorAnyC
namespace Go.Proofs.YtbiinchmbclmcaaDoor
open Go Go.RowKit
section
variable {P : Program} {md : Region.Mode} {ops : Array Oper} {R : Act → World → Prop} {T : World → Prop} {fuel : Nat} {listed : Array Bool} {a : Act} {w : World}
theorem anyH_opW (i : Nat) {o : Oper} (hi : ops[i]? = some o) (hw : Region.wanted o (yielded ops a.tmps) = true)
    (h : ∀ K : Act → World → Prop, (∀ a' w', T w' → wpAnyH P md ops (endsIn R) T fuel (listed.setIfInBounds i true) a' w' → K a' w') → wpList P ops (endsIn K) [o] a w) :
    wpOp P ops (endsIn R) i (fun a' w' => T w' ∧ wpAnyH P md ops (endsIn R) T fuel (listed.setIfInBounds i true) a' w') a w := by
  have hh := h (fun a' w' => T w' ∧ wpAnyH P md ops (endsIn R) T fuel (listed.setIfInBounds i true) a' w') (fun _ _ h1 h2 => ⟨h1, h2⟩)
  unfold wpOp
  simp only [hi]
  unfold wpList at hh
  rw [if_pos hw] at hh
  rw [if_pos hw]
  exact hh
theorem aO (i : Nat) {o : Oper} (hr : Region.ready md ops listed = [i]) (hi : ops[i]? = some o) (hw : Region.wanted o (yielded ops a.tmps) = true)
    (h : ∀ K : Act → World → Prop, (∀ a' w', T w' → wpAnyH P md ops (endsIn R) T fuel (listed.setIfInBounds i true) a' w' → K a' w') → wpList P ops (endsIn K) [o] a w) : wpAnyH P md ops (endsIn R) T (fuel + 1) listed a w :=
  wpAnyH_all hr (by simp) (fun j hj => by
    simp only [List.mem_cons, List.not_mem_nil, or_false] at hj
    subst hj
    exact anyH_opW j hi hw h)
theorem anyH_skip (i : Nat) {o : Oper} (hi : ops[i]? = some o) (hs : Region.noSelect ops = true) (hf : Region.free md ops listed i = true) (hr : (Region.ready md ops listed).contains i = true) (hw : Region.wanted o (yielded ops a.tmps) = false)
    (hT : T w) (h : wpAnyH P md ops (endsIn R) T fuel (listed.setIfInBounds i true) (a.put o.dst undef) w) : wpAnyH P md ops (endsIn R) T (fuel + 1) listed a w :=
  wpAnyH_take hi hs hf hr (fun _ _ _ h => h) (Or.inr ⟨hw, rfl⟩) hT h
end
theorem wrapm (x : Int) : IntKind.u32.wrap x = x % 4294967296 := by simp [IntKind.wrap, IntKind.bits, IntKind.signed]
theorem wrapw (x : Int) (h0 : 0 ≤ x) (h1 : x < 4294967296) : IntKind.u32.wrap x = x := by rw [wrapm]; omega
def cutHi (p : Option Addr) (cap : Nat) : Option Addr := if cap = 0 then p else p.map (·.add 0)
def cutLo (p : Option Addr) (cap l : Nat) : Option Addr := if cap = l then p else p.map (·.add l)
theorem old_hi {w : World} {p : Option Addr} {n cap : Nat} {cs : List Int} (h : SlOld w (.slice p n cap) cs) (m : Nat) (hm : m ≤ n) : SlOld w (.slice (cutHi p cap) m cap) (cs.take m) := by
  obtain ⟨hn, hc, hs⟩ := h.src0
  have hl : (cs.take m).length = m := by rw [List.length_take]; omega
  refine ⟨_, cap, by rw [hl], by rw [hl]; omega, fun h0 => ?_⟩
  rw [hl] at h0
  obtain ⟨b, off, rfl, hseg⟩ := hs (by omega)
  refine ⟨b, off, ?_, hseg.take m⟩
  rw [cutHi, if_neg (by omega)]
  simp [add_at]
theorem old_lo {w : World} {p : Option Addr} {n cap : Nat} {cs : List Int} (h : SlOld w (.slice p n cap) cs) (l : Nat) (hl : l ≤ n) : SlOld w (.slice (cutLo p cap l) (n - l) (cap - l)) (cs.drop l) := by
  obtain ⟨hn, hc, hs⟩ := h.src0
  have hd : (cs.drop l).length = n - l := by rw [List.length_drop]; omega
  refine ⟨_, cap - l, by rw [hd], by rw [hd]; omega, fun h0 => ?_⟩
  rw [hd] at h0
  obtain ⟨b, off, rfl, hseg⟩ := hs (by omega)
  refine ⟨b, off + l, ?_, hseg.drop l⟩
  rw [cutLo, if_neg (by omega)]
  simp [add_at]
section
variable {P : Program} {a : Act} {w : World} {dst : Option Tmp} {typ : TypeId} {pos : String} {aft : Array Edge} {gd : Option (Nat × Bool)}
theorem exec_sHi {ty : TypeId} {x hi : Operand} {elem : TypeId} (hu : P.underlying ty = some (.slice elem)) (hs : (P.info? elem).map (·.size) = some 1) {p : Option Addr} {len cap : Nat} (m : Nat) {ih : Int} (hm : m ≤ cap) (hx : a.eval x = .slice p len cap) (hhi : a.eval hi = .int .i64 ih) (hih : ih = (m : Int)) :
    (execOp a.eval { dst := dst, op := .slice ty x none (some hi) none, type := typ, pos := pos, after := aft, guard := gd }).run P w = .ok (.value (.slice (cutHi p cap) m cap)) w := by
  subst hih
  cases hq : P.info? elem with
  | none => simp [hq] at hs
  | some q =>
    have hs1 : q.size = 1 := by simpa [hq] using hs
    have hsz : (sizeOf elem).run P w = .ok 1 w := by simp [sizeOf, typeInfo, hq, hs1]
    have bnd : ∀ code, (Instr.sliceBound (.int .i64 (m : Int)) cap code).run P w = .ok m w := by
      intro code
      rw [run_sliceBound (P := P) w .i64 (m : Int) cap code (by omega) (by omega)]
      simp
    have hb : (Instr.sliceBounds true len cap none (some (.int .i64 (m : Int))) none).run P w = .ok (0, m, cap) w := by
      simp [Instr.sliceBounds, bnd]
    have hr : (Instr.sliceAt ty (.slice p len cap) none (some (.int .i64 (m : Int))) none).run P w = .ok (.slice (cutHi p cap) m cap) w := by
      simp [Instr.sliceAt, Instr.slice, run_underlying hu, hb, hsz, cutHi]
    unfold execOp
    simp only [hx, hhi, Option.map_some, Option.map_none, hr, Sem.run_bind, Sem.run_pure, Result.andThen_ok]
theorem exec_sLo {ty : TypeId} {x lo : Operand} {elem : TypeId} (hu : P.underlying ty = some (.slice elem)) (hs : (P.info? elem).map (·.size) = some 1) {p : Option Addr} {len cap : Nat} (l : Nat) {il : Int} (hl : l ≤ len) (hx : a.eval x = .slice p len cap) (hlo : a.eval lo = .int .i64 il) (hil : il = (l : Int)) :
    (execOp a.eval { dst := dst, op := .slice ty x (some lo) none none, type := typ, pos := pos, after := aft, guard := gd }).run P w = .ok (.value (.slice (cutLo p cap l) (len - l) (cap - l))) w := by
  subst hil
  cases hq : P.info? elem with
  | none => simp [hq] at hs
  | some q =>
    have hs1 : q.size = 1 := by simpa [hq] using hs
    have hsz : (sizeOf elem).run P w = .ok 1 w := by simp [sizeOf, typeInfo, hq, hs1]
    have hb : (Instr.sliceBounds true len cap (some (.int .i64 (l : Int))) none none).run P w = .ok (l, len, cap) w := by
      have := run_sliceBound (P := P) w .i64 (l : Int) len .sliceB (by omega) (by omega)
      simp [Instr.sliceBounds, this]
    have hr : (Instr.sliceAt ty (.slice p len cap) (some (.int .i64 (l : Int))) none none).run P w = .ok (.slice (cutLo p cap l) (len - l) (cap - l)) w := by
      simp [Instr.sliceAt, Instr.slice, run_underlying hu, hb, hsz, cutLo]
    unfold execOp
    simp only [hx, hlo, Option.map_some, Option.map_none, hr, Sem.run_bind, Sem.run_pure, Result.andThen_ok]
theorem strOf_append (x y : List Int) : strOf (x ++ y) = strOf x ++ strOf y := by
  apply ByteArray.ext
  simp [strOf]
theorem exec_adds {t : TypeId} {x y : Operand} {rt : TypeId} (xs ys : List Int) (hx : a.eval x = .string (strOf xs)) (hy : a.eval y = .string (strOf ys)) (hl : xs.length + ys.length ≤ 1000000000) :
    (execOp a.eval { dst := dst, op := .binOp .add t x y rt, type := typ, pos := pos, after := aft, guard := gd }).run P w = .ok (.value (.string (strOf (xs ++ ys)))) w := by
  unfold execOp
  simp only [hx, hy]
  simp [eqGuard, binOp, Op.stringOp, strOf_append]
  rw [strOf_size, strOf_size]
  omega
end
end Go.Proofs.YtbiinchmbclmcaaDoor
