/- The walk of SectorImage. -/
import Derived.Test.YtbaijhlkkeongaaSecImage
namespace Go.Proofs.Ytbaijhlkkeongaa
open Go Go.RowKit Go.Maps
section
variable {P : Program} {ops : Array Oper} {rest : List Oper} {a : Act} {w w0 : World} {Q : Exit → Act → World → Prop} {dst : Option Tmp} {typ : TypeId} {pos : String} {aft : Array Edge} {gd : Option (Nat × Bool)} {S : List Nat} {rows : List (Nat × List Value × TypeId)}
set_option maxRecDepth 100000 in
theorem run_bsl1 (w : World) {t elem : TypeId} (z v : Value) (hu : P.underlying t = some (.slice elem)) (hi : (P.info? elem).map (fun i => (i.zero, i.size)) = some (some z, 1)) (hz : z.cells = #[z]) (hv : v.cells = #[v]) :
    (Instr.buildSlice t 1 #[(0, v)]).run P w = .ok (.slice (some ⟨w.heap.size, 0, none⟩) 1 1) (w.alloc (.cells [v].toArray elem)) := by
  obtain ⟨hz1, hs1⟩ := zero_of_info hi
  cases hq : P.info? elem with
  | none => simp [hq] at hi
  | some q =>
    have hs : q.size = 1 := by simpa [hq] using hs1
    have e : Array.map (fun x => ([z][x % 1]?).getD default) (Array.range 1) = #[z] := by
      apply Array.ext
      · simp
      · intro i h1 h2
        have h3 : i = 0 := by simpa using h2
        subst h3
        simp
    simp [Instr.buildSlice, run_underlying hu, sizeOf, typeInfo, hq, hs, hz1, hz, Instr.fill, hv, newRow, newObj]
    rw [e]
    rfl
set_option maxRecDepth 100000 in
theorem wpl_bsl1 {t elem : TypeId} {x : Operand} (hw : Region.wanted { dst := dst, op := .buildSlice t 1 #[(0, x)], type := typ, pos := pos, after := aft, guard := gd } (yielded ops a.tmps) = true) (z v : Value) (hu : P.underlying t = some (.slice elem)) (hi : (P.info? elem).map (fun i => (i.zero, i.size)) = some (some z, 1)) (hz : z.cells = #[z]) (hx : a.eval x = v) (hv : v.cells = #[v]) (hm : Mem w0 S w rows)
    (h : ∀ w' g, Below w.heap.size w w' → Mem w0 S w' ((g, [v], elem) :: rows) → wpList P ops Q rest (a.put dst (.slice (some ⟨g, 0, none⟩) 1 1)) w') :
    wpList P ops Q ({ dst := dst, op := .buildSlice t 1 #[(0, x)], type := typ, pos := pos, after := aft, guard := gd } :: rest) a w := by
  refine wpList_step fun K hK => ?_
  rw [if_pos hw]
  have hh := hK _ _ (h _ _ ((Below.refl _ _).alloc (Nat.le_refl _) _) (hm.alloc [v] elem))
  unfold Oper.wp execOp
  simp only [List.map_toArray, List.map_cons, List.map_nil, hx, run_bsl1 (P := P) w z v hu hi hz hv, Sem.run_bind, Sem.run_pure, Result.andThen_ok]
  exact hh
end

set_option maxRecDepth 100000 in
theorem anyH_startD {R : Act → World → Prop} {T : World → Prop} {id : Nat} {l : List Oper} {a : Act} {w w0 : World} {g mb : Nat} {kv : Value} {d : Dk} {rows : List (Nat × List Value × TypeId)} (hmix : Try.prog.follows .mixedOrders = true) (st : Sd w0 w g mb kv d rows)
    (h : ∀ w', Sd w0 w' g mb kv d rows → wpAnyH Try.prog .any l.toArray (endsIn R) T l.toArray.size (Array.replicate l.toArray.size false) a w') : (Code.region id l.toArray true).wp Try.prog (endsIn R) a w :=
  wp_region_held hmix (h _ st.drew)
set_option maxRecDepth 100000 in
theorem Sd.base {w w0 : World} {g mb : Nat} {kv : Value} {d : Dk} {rows : List (Nat × List Value × TypeId)} (st : Sd w0 w g mb kv d rows) : Mem w0 [] w [] := st.mem.sub (List.nil_sublist _)
set_option maxRecDepth 100000 in
theorem set_splice (L cs : List Int) (o : Nat) (x : Int) (ho : o < L.length) : splice (L.set o x) (o + 1) cs = splice L o (x :: cs) := by
  have e : L.set o x = L.take o ++ (x :: L.drop (o + 1)) := List.set_eq_take_append_cons_drop.trans (by rw [if_pos ho])
  have hl : (L.take o).length = o := by simp; omega
  unfold splice
  rw [e]
  have e1 : (L.take o ++ (x :: L.drop (o + 1))).take (o + 1) = L.take o ++ [x] := by
    rw [List.take_append, hl, List.take_of_length_le (by omega)]
    simp
  have e2 : (L.take o ++ (x :: L.drop (o + 1))).drop (o + 1 + cs.length) = L.drop (o + (cs.length + 1)) := by
    rw [List.drop_append, hl, List.drop_of_length_le (by omega), List.nil_append, show o + 1 + cs.length - o = cs.length + 1 by omega, List.drop_succ_cons, List.drop_drop]
    congr 1
    omega
  rw [e1, e2]
  simp
set_option maxRecDepth 100000 in
theorem built_b64 : Try.prog.built 53 [] = some (u8s zeroK).toArray := by kernel_rfl
set_option maxRecDepth 100000 in
theorem info_b64 : (Try.prog.info? 53).map (fun i => (i.zero, i.size)) = some (some (.agg (u8s zeroK).toArray), 64) := by kernel_rfl
set_option maxRecDepth 100000 in
theorem zero_b64 : ∀ w, (zeroValue 53).run Try.prog w = .ok (.agg (u8s zeroK).toArray) w := (zero_of_info info_b64).1
set_option maxRecDepth 100000 in
theorem old_piece {w : World} {g cap k : Nat} {W : Nat → List Int} {r : List Value} {t : TypeId} (hr : Row w g (u8s (flatK W 8) ++ r) t) (hl : ∀ k, k < 8 → (W k).length = 64) (hk : k < 8) (hc : 64 ≤ cap) : SlOld w (.slice (some ⟨g, 64 * k, none⟩) 64 cap) (W k) := by
  refine ⟨_, cap, by rw [hl k hk], by rw [hl k hk]; exact hc, fun _ => ⟨g, 64 * k, rfl, fun j hj => ?_⟩⟩
  rw [hl k hk] at hj
  have hfl := flatK_length W 8 hl
  rw [hr.cell, List.getElem?_append_left (by rw [u8s_length]; omega), u8s_get _ _ (by omega)]
  congr 2
  have h1 := flatK_at W 8 k hl hk
  rw [← h1, List.getD_eq_getElem?_getD, List.getD_eq_getElem?_getD, List.getElem?_take, if_pos hj, List.getElem?_drop, Nat.mul_comm]
end Go.Proofs.Ytbaijhlkkeongaa
