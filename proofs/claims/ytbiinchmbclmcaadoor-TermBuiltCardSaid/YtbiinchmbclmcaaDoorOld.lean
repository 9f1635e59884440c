/- Slices of bytes that were there, copies out of them, strings made of them. -/
import Derived.Test.YtbiinchmbclmcaaDoorApp2
import Derived.Test.YtbiinchmbclmcaaDoorStr
namespace Go.Proofs.YtbiinchmbclmcaaDoor
open Go Go.RowKit
theorem Mem.callNew {w0 w w' : World} {S : List Nat} {rows : List (Nat × List Value × TypeId)} (hm : Mem w0 S w rows) (hb : Below w.heap.size w w') {g : Nat} {l : List Value} {t : TypeId} (hr : Row w' g l t) (hg : w.heap.size ≤ g) : Mem w0 S w' ((g, l, t) :: rows) := by
  have h := hm.call hb
  refine ⟨h.os, h.tape, h.output, h.size, h.block, ?_, ?_, ?_⟩
  · intro r hr'
    rcases List.mem_cons.1 hr' with rfl | hr'
    · exact hr
    · exact h.row r hr'
  · simp only [List.map_cons, List.nodup_cons]
    refine ⟨fun hc => ?_, h.nodup⟩
    obtain ⟨r, hr', he⟩ := List.mem_map.1 hc
    have := (hm.row r hr').lt
    omega
  · intro r hr'
    rcases List.mem_cons.1 hr' with rfl | hr'
    · exact Or.inr (Nat.le_trans hm.size hg)
    · exact h.fresh r hr'
def SlOld (w : World) (v : Value) (cs : List Int) : Prop :=
  ∃ p cap, v = .slice p cs.length cap ∧ cs.length ≤ cap ∧ (0 < cs.length → ∃ b off, p = some ⟨b, off, none⟩ ∧ Seg w b off cs)
theorem SlOld.mem {w w' : World} {v : Value} {cs : List Int} {rows : List (Nat × List Value × TypeId)} (h : SlOld w v cs) (hm : Mem w [] w' rows) : SlOld w' v cs := by
  obtain ⟨p, cap, hv, hc, hs⟩ := h
  refine ⟨p, cap, hv, hc, fun h0 => ?_⟩
  obtain ⟨b, off, hp, hseg⟩ := hs h0
  exact ⟨b, off, hp, hseg.mem hm (by simp)⟩
theorem old_all {w : World} {r n cap : Nat} {l : List Int} {t : TypeId} (hr : Row w r (u8s l) t) (hn : l.length = n) (h2 : n ≤ cap) : SlOld w (.slice (some ⟨r, 0, none⟩) n cap) l :=
  ⟨_, cap, by rw [hn], by rw [hn]; exact h2, fun _ => ⟨r, 0, rfl, Seg.row hr⟩⟩
theorem SlOld.len {w : World} {v : Value} {cs : List Int} (h : SlOld w v cs) : ∃ p cap, v = .slice p cs.length cap ∧ cs.length ≤ cap := by
  obtain ⟨p, cap, h1, h2, _⟩ := h
  exact ⟨p, cap, h1, h2⟩
theorem SlOld.below {w w' : World} {v : Value} {cs : List Int} (h : SlOld w v cs) (hb : Below w.heap.size w w') : SlOld w' v cs := by
  obtain ⟨p, cap, hv, hc, hs⟩ := h
  refine ⟨p, cap, hv, hc, fun h0 => ?_⟩
  obtain ⟨b, off, hp, hseg⟩ := hs h0
  exact ⟨b, off, hp, hseg.below hb⟩
theorem SlOld.src0 {w : World} {p : Option Addr} {n c : Nat} {cs : List Int} (h : SlOld w (.slice p n c) cs) : n = cs.length ∧ n ≤ c ∧ (0 < cs.length → ∃ b off, p = some ⟨b, off, none⟩ ∧ Seg w b off cs) := by
  obtain ⟨q, d, hv, hd, hs⟩ := h
  simp only [Value.slice.injEq] at hv
  obtain ⟨rfl, rfl, rfl⟩ := hv
  exact ⟨rfl, hd, hs⟩
theorem splice_zeros (cs : List Int) (n : Nat) : splice (u8s (List.replicate n 0)) 0 (u8s cs) = u8s (cs ++ List.replicate (n - cs.length) 0) := by
  simp [splice, u8s, List.drop_replicate]
section
variable {P : Program} {ops : Array Oper} {rest : List Oper} {a : Act} {w w0 : World} {Q : Exit → Act → World → Prop} {dst : Option Tmp} {typ : TypeId} {pos : String} {aft : Array Edge} {gd : Option (Nat × Bool)} {S : List Nat} {rows : List (Nat × List Value × TypeId)}
theorem wpl_cp {d s : Operand} {dT sT : TypeId} (i : Nat) {g : Nat} {l : List Value} {t : TypeId} {off dLen dCap : Nat} {p : Option Addr} {sLen sCap : Nat} (cs : List Int) (n : Nat) (new : List Value) (hm : Mem w0 S w rows) (hi : rows[i]? = some (g, l, t))
    (hd : a.eval d = .slice (some ⟨g, off, none⟩) dLen dCap) (hs : a.eval s = .slice p sLen sCap) (elem : TypeId) (hu : P.underlying dT = some (.slice elem)) (hsz : (P.info? elem).map (·.size) = some 1)
    (hold : SlOld w (.slice p sLen sCap) cs) (hn : n = Nat.min sLen dLen) (hfit : off + n ≤ l.length) (hnew : splice l off (u8s (cs.take n)) = new)
    (h : ∀ w', Mem w0 S w' (rows.set i (g, new, t)) → wpList P ops Q rest (a.put dst (.int .i64 n)) w') :
    wpList P ops Q ({ dst := dst, op := .call { callee := .builtin .copy, args := #[d, s], argTypes := #[dT, sT] }, type := typ, pos := pos, after := aft, guard := none } :: rest) a w := by
  obtain ⟨hl, hc, hsrc⟩ := hold.src0
  have hle : n ≤ cs.length := by rw [hn, ← hl]; exact Nat.min_le_left _ _
  have htl : (cs.take n).length = n := by simp; omega
  by_cases h0 : 0 < n
  · obtain ⟨b, o, rfl, hseg⟩ := hsrc (by omega)
    exact wpl_copyN i off dLen dCap ⟨b, o, none⟩ sLen sCap (u8s (cs.take n)) n new hm hi hd hs elem hu hsz (by rw [u8s_length, htl]) hn (hseg.take n).src hfit (u8s_one _) hnew h
  · have hn0 : n = 0 := by omega
    subst hn0
    have hnew' : l = new := by rw [← hnew]; simp [splice, u8s]
    subst hnew'
    have hset : rows.set i (g, l, t) = rows := by
      have hlt : i < rows.length := (List.getElem?_eq_some_iff.1 hi).1
      have hge : rows[i] = (g, l, t) := (List.getElem?_eq_some_iff.1 hi).2
      rw [← hge, List.set_getElem_self]
    rw [hset] at h
    refine wpList_plain rfl fun K hK => ?_
    have hh := hK _ _ (h _ hm)
    have hrun : (Builtin.copy_ #[dT, sT] typ #[.slice (some ⟨g, off, none⟩) dLen dCap, .slice p sLen sCap]).run P w = .ok (goInt 0) w := by
      have hz : Nat.min sLen dLen = 0 := hn.symm
      have hld : ∀ a : Addr, (loadCells a 0).run P w = .ok #[] w := fun a => rfl
      cases hq : P.info? elem with
      | none => simp [hq] at hsz
      | some q =>
        cases p <;> simp [Builtin.copy_, run_underlying hu, Builtin.lenOf, Builtin.firstCells, sizeOf, typeInfo, hq, storeCells, hz, hld]
    unfold Oper.wp execOp
    simp only [resolve, invoke, builtin, Sem.run_bind, Sem.run_pure, Result.andThen_ok, List.map_toArray, List.map_cons, List.map_nil, hd, hs, hrun]
    exact hh
end
theorem run_tostr {P : Program} (w : World) {sT dT e : TypeId} (hs : P.underlying sT = some (.slice e)) (he : P.underlying e = some (.int .u8)) (hd : P.underlying dT = some .string) (cs : List Int) {p : Option Addr} {n c : Nat} (h : SlOld w (.slice p n c) cs) :
    (convert sT dT (.slice p n c)).run P w = .ok (.string (strOf cs)) w := by
  obtain ⟨hn, _, hsrc⟩ := h.src0
  subst hn
  rw [run_convert_bytes_string w sT dT e _ _ c hs he hd]
  have e0 : ByteArray.empty.data = #[] := rfl
  by_cases h0 : 0 < cs.length
  · obtain ⟨b, off, rfl, hseg⟩ := hsrc h0
    have hl : (loadCells ⟨b, off, none⟩ cs.length).run P w = .ok (cs.map (Value.int .u8)).toArray w := by
      have := run_loadCells_list (P := P) w ⟨b, off, none⟩ (u8s cs) hseg.src
      rw [u8s_length] at this
      exact this
    rw [run_bytesToString w _ cs.length c cs hl, fold_push, e0, Array.empty_append]
    rfl
  · obtain rfl : cs = [] := List.eq_nil_of_length_eq_zero (by omega)
    cases p with
    | none => simp [Conv.bytesToString, strOf]; rfl
    | some a =>
      rw [run_bytesToString w a ([] : List Int).length c [] rfl]
      rfl
theorem exec_tostr {P : Program} {a : Act} {w : World} {dst : Option Tmp} {typ : TypeId} {pos : String} {aft : Array Edge} {gd : Option (Nat × Bool)} {sT dT e : TypeId} {x : Operand} (hs : P.underlying sT = some (.slice e)) (he : P.underlying e = some (.int .u8)) (hd : P.underlying dT = some .string) (cs : List Int) {p : Option Addr} {n c : Nat} (hx : a.eval x = .slice p n c) (h : SlOld w (.slice p n c) cs) :
    (execOp a.eval { dst := dst, op := .convert sT dT x, type := typ, pos := pos, after := aft, guard := gd }).run P w = .ok (.value (.string (strOf cs))) w := by
  unfold execOp
  simp only [hx, run_tostr (P := P) w hs he hd cs h, Sem.run_bind, Sem.run_pure, Result.andThen_ok]
theorem exec_nes {P : Program} {a : Act} {w : World} {dst : Option Tmp} {typ : TypeId} {pos : String} {aft : Array Edge} {gd : Option (Nat × Bool)} {t : TypeId} {x y : Operand} {rt : TypeId} (s s' : ByteArray) (v : Bool) (hx : a.eval x = .string s) (hy : a.eval y = .string s') (hv : (s == s') = v) :
    (execOp a.eval { dst := dst, op := .binOp .neq t x y rt, type := typ, pos := pos, after := aft, guard := gd }).run P w = .ok (.value (.bool (!v))) w := by
  subst hv
  unfold execOp
  simp only [hx, hy]
  simp [eqGuard, binOp, Op.stringOp]
  rw [← beq_toListBytes s s']
theorem beq_self_str (s : ByteArray) : (s == s) = true := by
  rw [beq_toListBytes]
  exact beq_self_eq_true _
theorem anyH_start2 {P : Program} {R : Act → World → Prop} {a : Act} {w w0 : World} {S : List Nat} {rows : List (Nat × List Value × TypeId)} {id : Nat} {l : List Oper} {v1 v2 : Value} {c1 c2 : List Int} (hmix : P.follows .mixedOrders = true) (hm : Mem w0 S w rows) (h1 : SlOld w v1 c1) (h2 : SlOld w v2 c2)
    (h : ∀ w', Mem w0 S w' rows → SlOld w' v1 c1 → SlOld w' v2 c2 → wpAnyH P .any l.toArray (endsIn R) (fun W => SlOld W v1 c1 ∧ SlOld W v2 c2) l.toArray.size (Array.replicate l.toArray.size false) a w') : (Code.region id l.toArray true).wp P (endsIn R) a w :=
  wp_region_held hmix (h _ hm.drew h1 h2)
theorem exec_slh {P : Program} {a : Act} {w : World} {dst : Option Tmp} {typ : TypeId} {pos : String} {aft : Array Edge} {gd : Option (Nat × Bool)} {ty : TypeId} {x lo hi : Operand} {elem : TypeId} (hu : P.underlying ty = some (.slice elem)) (hs : (P.info? elem).map (·.size) = some 1) {g o len cap : Nat} (l m : Nat) {il ih : Int} (hlm : l + m ≤ cap) (hlc : l < cap) (hx : a.eval x = .slice (some ⟨g, o, none⟩) len cap)
    (hlo : a.eval lo = .int .i64 il) (hil : il = (l : Int)) (hhi : a.eval hi = .int .i64 ih) (hih : ih = ((l + m : Nat) : Int)) :
    (execOp a.eval { dst := dst, op := .slice ty x (some lo) (some hi) none, type := typ, pos := pos, after := aft, guard := gd }).run P w = .ok (.value (.slice (some ⟨g, o + l, none⟩) m (cap - l))) w := by
  subst hil hih
  unfold execOp
  simp only [hx, hlo, hhi, Option.map_some, Option.map_none, run_slh (P := P) w hu hs l m hlm hlc, Sem.run_bind, Sem.run_pure, Result.andThen_ok]
theorem exec_slh2 {P : Program} {a : Act} {w : World} {dst : Option Tmp} {typ : TypeId} {pos : String} {aft : Array Edge} {gd : Option (Nat × Bool)} {ty : TypeId} {x lo hi : Operand} {elem : TypeId} (hu : P.underlying ty = some (.slice elem)) (hs : (P.info? elem).map (·.size) = some 1) {g o len cap : Nat} (l o' m : Nat) {il ih : Int} (ho : o + l = o') (hlm : l + m ≤ cap) (hlc : l < cap) (hx : a.eval x = .slice (some ⟨g, o, none⟩) len cap)
    (hlo : a.eval lo = .int .i64 il) (hil : il = (l : Int)) (hhi : a.eval hi = .int .i64 ih) (hih : ih = ((l + m : Nat) : Int)) :
    (execOp a.eval { dst := dst, op := .slice ty x (some lo) (some hi) none, type := typ, pos := pos, after := aft, guard := gd }).run P w = .ok (.value (.slice (some ⟨g, o', none⟩) m (cap - l))) w := by
  subst ho
  exact exec_slh hu hs l m hlm hlc hx hlo hil hhi hih
theorem anyH_start1 {P : Program} {R : Act → World → Prop} {T : World → Prop} {a : Act} {w w0 : World} {S : List Nat} {rows : List (Nat × List Value × TypeId)} {id : Nat} {l : List Oper} {v1 : Value} {c1 : List Int} (hmix : P.follows .mixedOrders = true) (hm : Mem w0 S w rows) (h1 : SlOld w v1 c1)
    (h : ∀ w', Mem w0 S w' rows → SlOld w' v1 c1 → wpAnyH P .any l.toArray (endsIn R) T l.toArray.size (Array.replicate l.toArray.size false) a w') : (Code.region id l.toArray true).wp P (endsIn R) a w :=
  wp_region_held hmix (h _ hm.drew h1)
theorem wrapi (x : Int) (h0 : 0 ≤ x) (h1 : x < 4611686018427387904) : IntKind.i64.wrap x = x := by
  simp [IntKind.wrap, IntKind.bits, IntKind.signed]
  split <;> omega
theorem wrapb (x : Int) (h0 : 0 ≤ x) (h1 : x < 256) : IntKind.u8.wrap x = x := by
  simp [IntKind.wrap, IntKind.bits, IntKind.signed]
  omega
theorem OwnB.row {e : TypeId} {w : World} {base : Nat} {v : Value} {zs : List Int} (h : OwnB e w base v zs) (h0 : 0 < zs.length) : ∃ g cap l, v = .slice (some ⟨g, 0, none⟩) zs.length cap ∧ base ≤ g ∧ Row w g (u8s zs ++ l) e ∧ zs.length ≤ cap := by
  obtain ⟨_, h2⟩ := h
  rcases h2 with ⟨_, hn⟩ | ⟨g, cap, cur, rfl, hb, hh, hn, _, _, ht⟩
  · omega
  · refine ⟨g, cap, cur.toList.drop zs.length, rfl, hb, ?_, hn⟩
    unfold Row
    rw [hh, ← ht, Nat.mul_one, List.take_append_drop]
theorem Mem.adopt1 {w0 w : World} {g : Nat} {l : List Value} {t : TypeId} (hm : Mem w0 [] w []) (hr : Row w g l t) (hg : w0.heap.size ≤ g) : Mem w0 [] w [(g, l, t)] :=
  ⟨hm.os, hm.tape, hm.output, hm.size, hm.block, by simpa using hr, by simp, by simpa using hg⟩
theorem old_part {w : World} {g cap : Nat} {l : List Int} {r : List Value} {t : TypeId} (hr : Row w g (u8s l ++ r) t) (m : Nat) (h1 : m ≤ l.length) (h2 : m ≤ cap) : SlOld w (.slice (some ⟨g, 0, none⟩) m cap) (l.take m) := by
  have hl : (l.take m).length = m := by simp; omega
  refine ⟨_, cap, by rw [hl], by rw [hl]; exact h2, fun _ => ⟨g, 0, rfl, fun j hj => ?_⟩⟩
  rw [hl] at hj
  rw [Nat.zero_add, hr.cell j, List.getElem?_append_left (by rw [u8s_length]; omega), u8s_get l j (by omega)]
  simp [hj]
theorem wpl_shi {P : Program} {ops : Array Oper} {rest : List Oper} {a : Act} {w : World} {dst : Option Tmp} {typ : TypeId} {pos : String} {aft : Array Edge} {Q : Exit → Act → World → Prop} {ty : TypeId} {x hi : Operand} {elem : TypeId} (hu : P.underlying ty = some (.slice elem)) (hs : (P.info? elem).map (·.size) = some 1) {g o len cap : Nat} (m : Nat) {ih : Int} (hmc : m ≤ cap) (hc : 0 < cap) (hx : a.eval x = .slice (some ⟨g, o, none⟩) len cap) (hhi : a.eval hi = .int .i64 ih) (hih : ih = (m : Int))
    (h : wpList P ops Q rest (a.put dst (.slice (some ⟨g, o, none⟩) m cap)) w) :
    wpList P ops Q ({ dst := dst, op := .slice ty x none (some hi) none, type := typ, pos := pos, after := aft, guard := none } :: rest) a w := by
  subst hih
  refine wpList_plain rfl fun K hK => ?_
  have hh := hK _ _ h
  have hr : (Instr.sliceAt ty (.slice (some ⟨g, o, none⟩) len cap) none (some (.int .i64 (m : Int))) none).run P w = .ok (.slice (some ⟨g, o, none⟩) m cap) w := by
    cases hq : P.info? elem with
    | none => simp [hq] at hs
    | some q =>
      have hs1 : q.size = 1 := by simpa [hq] using hs
      have hsz : (sizeOf elem).run P w = .ok 1 w := by simp [sizeOf, typeInfo, hq, hs1]
      have bnd : ∀ code, (Instr.sliceBound (.int .i64 (m : Int)) cap code).run P w = .ok m w := by
        intro code
        rw [run_sliceBound (P := P) w .i64 (m : Int) cap code (by omega) (by omega)]
        simp
      have hb : (Instr.sliceBounds true len cap none (some (.int .i64 (m : Int))) none).run P w = .ok (0, m, cap) w := by
        simp [Instr.sliceBounds, bnd]
      have hne : ¬ cap = 0 := by omega
      simp [Instr.sliceAt, Instr.slice, run_underlying hu, hb, hsz, hne, add_at]
  unfold Oper.wp execOp
  simp only [hx, hhi, Option.map_some, Option.map_none, hr, Sem.run_bind, Sem.run_pure, Result.andThen_ok]
  exact hh
end Go.Proofs.YtbiinchmbclmcaaDoor
