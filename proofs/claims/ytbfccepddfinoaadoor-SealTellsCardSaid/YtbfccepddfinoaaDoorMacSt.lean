/- A slice that grows, a literal row and a new block beside it, in whatever order they come. -/
import Derived.Test.YtbfccepddfinoaaDoorMacStr
import Derived.Test.YtbfccepddfinoaaDoorApp3
namespace Go.Proofs.YtbfccepddfinoaaDoor
open Go Go.RowKit

theorem anyH_start2 {P : Program} {R : Act → World → Prop} {a : Act} {w w0 : World} {S : List Nat} {rows : List (Nat × List Value × TypeId)} {id : Nat} {l : List Oper} {v1 v2 : Value} {c1 c2 : List Int} (hmix : P.follows .mixedOrders = true) (hm : Mem w0 S w rows) (h1 : SlOld w v1 c1) (h2 : SlOld w v2 c2)
    (h : ∀ w', Mem w0 S w' rows → SlOld w' v1 c1 → SlOld w' v2 c2 → wpAnyH P .any l.toArray (endsIn R) (fun W => SlOld W v1 c1 ∧ SlOld W v2 c2) l.toArray.size (Array.replicate l.toArray.size false) a w') : (Code.region id l.toArray true).wp P (endsIn R) a w :=
  wp_region_held hmix (h _ hm.drew h1 h2)
theorem exec_slh {P : Program} {a : Act} {w : World} {dst : Option Tmp} {typ : TypeId} {pos : String} {aft : Array Edge} {gd : Option (Nat × Bool)} {ty : TypeId} {x lo hi : Operand} {elem : TypeId} (hu : P.underlying ty = some (.slice elem)) (hs : (P.info? elem).map (·.size) = some 1) {g o len cap : Nat} (l m : Nat) {il ih : Int} (hlm : l + m ≤ cap) (hlc : l < cap) (hx : a.eval x = .slice (some ⟨g, o, none⟩) len cap)
    (hlo : a.eval lo = .int .i64 il) (hil : il = (l : Int)) (hhi : a.eval hi = .int .i64 ih) (hih : ih = ((l + m : Nat) : Int)) :
    (execOp a.eval { dst := dst, op := .slice ty x (some lo) (some hi) none, type := typ, pos := pos, after := aft, guard := gd }).run P w = .ok (.value (.slice (some ⟨g, o + l, none⟩) m (cap - l))) w := by
  subst hil hih
  unfold execOp
  simp only [hx, hlo, hhi, Option.map_some, Option.map_none, run_slh (P := P) w hu hs l m hlm hlc, Sem.run_bind, Sem.run_pure, Result.andThen_ok]
theorem exec_slh2 {P : Program} {a : Act} {w : World} {dst : Option Tmp} {typ : TypeId} {pos : String} {aft : Array Edge} {gd : Option (Nat × Bool)} {ty : TypeId} {x lo hi : Operand} {elem : TypeId} (hu : P.underlying ty = some (.slice elem)) (hs : (P.info? elem).map (·.size) = some 1) {g o len cap : Nat} (l o' m : Nat) {il ih : Int} (ho : o + l = o') (hlm : l + m ≤ cap) (hlc : l < cap) (hx : a.eval x = .slice (some ⟨g, o, none⟩) len cap)
    (hlo : a.eval lo = .int .i64 il) (hil : il = (l : Int)) (hhi : a.eval hi = .int .i64 ih) (hih : ih = ((l + m : Nat) : Int)) :
    (execOp a.eval { dst := dst, op := .slice ty x (some lo) (some hi) none, type := typ, pos := pos, after := aft, guard := gd }).run P w = .ok (.value (.slice (some ⟨g, o', none⟩) m (cap - l))) w := by
  subst ho
  exact exec_slh hu hs l m hlm hlc hx hlo hil hhi hih
theorem anyH_start1 {P : Program} {R : Act → World → Prop} {T : World → Prop} {a : Act} {w w0 : World} {S : List Nat} {rows : List (Nat × List Value × TypeId)} {id : Nat} {l : List Oper} {v1 : Value} {c1 : List Int} (hmix : P.follows .mixedOrders = true) (hm : Mem w0 S w rows) (h1 : SlOld w v1 c1)
    (h : ∀ w', Mem w0 S w' rows → SlOld w' v1 c1 → wpAnyH P .any l.toArray (endsIn R) T l.toArray.size (Array.replicate l.toArray.size false) a w') : (Code.region id l.toArray true).wp P (endsIn R) a w :=
  wp_region_held hmix (h _ hm.drew h1)
theorem wrapi (x : Int) (h0 : 0 ≤ x) (h1 : x < 4611686018427387904) : IntKind.i64.wrap x = x := by
  simp [IntKind.wrap, IntKind.bits, IntKind.signed]
  split <;> omega
theorem wrapb (x : Int) (h0 : 0 ≤ x) (h1 : x < 256) : IntKind.u8.wrap x = x := by
  simp [IntKind.wrap, IntKind.bits, IntKind.signed]
  omega
structure St (w4 w : World) (v : Value) (zs : List Int) (bs : Option (Nat × List Int)) (al : Option Nat) : Prop where
  mem : Mem w4 [] w []
  own : OwnB 5 w w4.heap.size v zs
  bld : ∀ p, bs = some p → Row w p.1 (u8s p.2) 5 ∧ v.ownBlock ≠ some p.1
  alc : ∀ g, al = some g → Row w g (u8s (List.replicate 32 0)) 22 ∧ w4.heap.size ≤ g
section
variable {w4 w w' : World} {v v' : Value} {zs ys : List Int} {bs : Option (Nat × List Int)} {al : Option Nat}
theorem St.start (w : World) : St w w (.slice none 0 0) [] none none := ⟨Mem.start w, OwnB.nil _ _ _, by simp, by simp⟩
theorem St.below (st : St w4 w v zs bs al) (hb : Below w.heap.size w w') : St w4 w' v zs bs al :=
  ⟨st.mem.call hb, st.own.below hb, fun p hp => ⟨(st.bld p hp).1.below' hb, (st.bld p hp).2⟩, fun g hg => ⟨(st.alc g hg).1.below' hb, (st.alc g hg).2⟩⟩
theorem St.grown (st : St w4 w v zs bs al) (ho : OwnB 5 w' w4.heap.size v' (zs ++ ys)) (hg : w.grownBy w' v.ownBlock) (hv : v'.ownBlock = v.ownBlock ∨ v'.ownBlock = some w.heap.size) : St w4 w' v' (zs ++ ys) bs al := by
  refine ⟨st.mem.grown st.own (fun r hr => by cases hr) hg, ho, fun p hp => ?_, fun g hq => ?_⟩
  · obtain ⟨h1, h2⟩ := st.bld p hp
    refine ⟨?_, ?_⟩
    · unfold Row
      rw [hg.block p.1 h1.lt (fun he => h2 he.symm)]
      exact h1
    · rcases hv with hv | hv
      · rw [hv]; exact h2
      · rw [hv]
        intro he
        have := h1.lt
        simp only [Option.some.injEq] at he
        omega
  · obtain ⟨h1, h2⟩ := st.alc g hq
    refine ⟨?_, h2⟩
    unfold Row
    rw [hg.block g h1.lt (fun he => st.own.apart h1 (by decide) he.symm)]
    exact h1
theorem St.newRow (st : St w4 w v zs none al) (ys : List Int) : St w4 (w.alloc (.cells (u8s ys).toArray 5)) v zs (some (w.heap.size, ys)) al := by
  have hb : Below w.heap.size w (w.alloc (.cells (u8s ys).toArray 5)) := (Below.refl _ _).alloc (Nat.le_refl _) _
  have s2 := st.below hb
  refine ⟨s2.mem, s2.own, fun p hp => ?_, s2.alc⟩
  obtain rfl := Option.some.inj hp
  refine ⟨Row.new w _ _, fun he => ?_⟩
  have := (World.ownsRow.lt st.own _ he).2
  simp at this
theorem St.newVar (st : St w4 w v zs bs none) : St w4 (w.alloc (.cells (u8s (List.replicate 32 0)).toArray 22)) v zs bs (some w.heap.size) := by
  have hb : Below w.heap.size w (w.alloc (.cells (u8s (List.replicate 32 0)).toArray 22)) := (Below.refl _ _).alloc (Nat.le_refl _) _
  have s2 := st.below hb
  refine ⟨s2.mem, s2.own, s2.bld, fun g hg => ?_⟩
  obtain rfl := Option.some.inj hg
  exact ⟨Row.new w _ _, st.mem.size⟩
end
section
variable {ops : Array Oper} {rest : List Oper} {a : Act} {w w4 : World} {Q : Exit → Act → World → Prop} {dst : Option Tmp} {typ : TypeId} {pos : String} {aft : Array Edge} {v : Value} {zs : List Int} {bs : Option (Nat × List Int)} {al : Option Nat}
theorem wpl_stApp {s x : Operand} {ps : Option Addr} {n c : Nat} (ys : List Int) (st : St w4 w v zs bs al) (hs : a.eval s = v) (hx : a.eval x = .slice ps n c) (hold : SlOld w (.slice ps n c) ys) (hlen : zs.length + ys.length ≤ 1099511627776)
    (h : ∀ v' w', St w4 w' v' (zs ++ ys) bs al → wpList Tryd.prog ops Q rest (a.put dst v') w') :
    wpList Tryd.prog ops Q ({ dst := dst, op := .call { callee := .builtin .append, args := #[s, x], argTypes := #[26, 26] }, type := typ, pos := pos, after := aft, guard := none } :: rest) a w := by
  obtain ⟨hn, _, hsrc⟩ := hold.src0
  subst hn
  by_cases h0 : 0 < ys.length
  · obtain ⟨b, off, rfl, hseg⟩ := hsrc h0
    exact wpl_appG rfl un_bs made_u8 ys st.own st.mem.size hs hx rfl hseg hlen (fun v' w' ho hg hv => h v' w' (st.grown ho hg hv))
  · obtain rfl : ys = [] := List.eq_nil_of_length_eq_zero (by omega)
    obtain ⟨v', w', hr, ho, hg⟩ := run_app (P := Tryd.prog) 26 typ un_bs made_u8 st.own ps c [] hsrc (by simpa using hlen) st.mem.size
    have hvw : v' = v ∧ w' = w := by
      have hld : ∀ a : Addr, (loadCells a 0).run Tryd.prog w = .ok #[] w := fun a => rfl
      have hi := made_u8
      have hr2 : (Builtin.append_ #[26, 26] typ #[v, .slice ps ([] : List Int).length c]).run Tryd.prog w = .ok v w := by
        cases hq : Tryd.prog.info? 5 with
        | none => simp [hq] at hi
        | some i =>
          obtain ⟨_, h3⟩ := st.own
          rcases h3 with ⟨rfl, _⟩ | ⟨g, cap, cur, rfl, _, _, hn, _⟩
          · cases ps <;> simp [Builtin.append_, run_underlying un_bs, sizeOf, typeInfo, hq, Builtin.lenOf, Builtin.firstCells, hld]
          · cases ps <;> simp [Builtin.append_, run_underlying un_bs, sizeOf, typeInfo, hq, Builtin.lenOf, Builtin.firstCells, hld, hn, storeCells]
      rw [hr2] at hr
      simp only [Result.ok.injEq] at hr
      exact ⟨hr.1.symm, hr.2.symm⟩
    obtain ⟨rfl, rfl⟩ := hvw
    refine wpList_plain rfl fun K hK => ?_
    have hh := hK _ _ (h v' w' (by rw [List.append_nil]; exact st))
    unfold Oper.wp execOp
    simp only [resolve, invoke, builtin, Sem.run_bind, Sem.run_pure, Result.andThen_ok, List.map_toArray, List.map_cons, List.map_nil, hs, hx, hr]
    exact hh
theorem wpl_stOne {x : Operand} (y : Int) (st : St w4 w v zs none al) (hx : a.eval x = .int .u8 y)
    (h : ∀ w' g, St w4 w' v zs (some (g, [y])) al → wpList Tryd.prog ops Q rest (a.put dst (.slice (some ⟨g, 0, none⟩) 1 1)) w') :
    wpList Tryd.prog ops Q ({ dst := dst, op := .buildSlice 26 1 #[(0, x)], type := typ, pos := pos, after := aft, guard := none } :: rest) a w := by
  refine wpList_plain rfl fun K hK => ?_
  have hh := hK _ _ (h _ _ (st.newRow [y]))
  unfold Oper.wp execOp
  simp only [List.map_toArray, List.map_cons, List.map_nil, hx, run_bsl1 (P := Tryd.prog) w (.int .u8 0) (.int .u8 y) un_bs info_u8 rfl rfl, Sem.run_bind, Sem.run_pure, Result.andThen_ok]
  exact hh
theorem wpl_stVar (st : St w4 w v zs bs none)
    (h : ∀ w' g, St w4 w' v zs bs (some g) → wpList Tryd.prog ops Q rest (a.put dst (.pointer (some ⟨g, 0, none⟩))) w') :
    wpList Tryd.prog ops Q ({ dst := dst, op := .alloc 22, type := typ, pos := pos, after := aft, guard := none } :: rest) a w := by
  refine wpList_plain rfl fun K hK => ?_
  have hh := hK _ _ (h _ _ st.newVar)
  unfold Oper.wp execOp
  simp [Instr.alloc, newVar, newRow, newObj, Value.cells]
  exact hh
theorem wpl_stStore {x y : Operand} {g : Nat} (l : List Int) (hl : l.length = 32) (st : St w4 w v zs bs (some g)) (hx : a.eval x = .pointer (some ⟨g, 0, none⟩)) (hy : a.eval y = .agg (u8s l).toArray)
    (h : ∀ w', Mem w4 [] w' [(g, u8s l, 22)] → wpList Tryd.prog ops Q rest a w') :
    wpList Tryd.prog ops Q ({ dst := none, op := .store 22 x y, type := typ, pos := pos, after := aft, guard := none } :: rest) a w := by
  obtain ⟨hr, hg⟩ := st.alc g rfl
  exact wpl_stw 0 (u8s l) (st.mem.adopt1 hr hg) rfl hx hy 32 sz_b32 (by simp [u8s_length]) (by rw [u8s_length]; exact hl) (u8s_one _) (fun w' hm => h w' hm)
end
end Go.Proofs.YtbfccepddfinoaaDoor
