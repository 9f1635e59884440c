/- A slice made of a string, and what is appended to it byte by byte. -/
import Derived.Test.YtonbfbcbmdnelaaDoorMacRefE
namespace Go.Proofs.YtonbfbcbmdnelaaDoor
open Go Go.RowKit

/-- v is a slice of bytes of the call's own whose room may bear a conversion's mark behind its end. -/
def ConB (w : World) (base : Nat) (v : Value) (zs : List Int) : Prop :=
  ∃ g cap cur fz, v = .slice (some ⟨g, 0, none⟩) zs.length cap ∧ base ≤ g ∧ w.heap[g]? = some (.cells cur 5 fz) ∧ (fz = (0, 0) ∨ cap ≤ fz.1) ∧ zs.length ≤ cap ∧ cap ≤ maxLen ∧ cur.size = cap ∧ cur.toList.take zs.length = u8s zs
section
variable {w w' w0 : World} {base : Nat} {v : Value} {zs : List Int} {S : List Nat} {rows : List (Nat × List Value × TypeId)}
theorem ConB.cells (h : ConB w base v zs) : ∃ g cap, v = .slice (some ⟨g, 0, none⟩) zs.length cap ∧ base ≤ g ∧ zs.length ≤ cap ∧ Seg w g 0 zs := by
  obtain ⟨g, cap, cur, fz, hv, hb, hg, _, hn, _, hs, ht⟩ := h
  refine ⟨g, cap, hv, hb, hn, fun j hj => ?_⟩
  rw [cell_of_row w g (0 + j) _ _ fz hg, Nat.zero_add]
  have h1 : (cur.toList.take zs.length)[j]? = cur[j]? := by rw [List.getElem?_take, if_pos hj, Array.getElem?_toList]
  rw [← h1, ht, u8s_get zs j hj]
theorem ConB.old (h : ConB w base v zs) : SlOld w v zs := by
  obtain ⟨g, cap, hv, _, hn, hseg⟩ := h.cells
  exact ⟨_, cap, hv, hn, fun _ => ⟨g, 0, rfl, hseg⟩⟩
theorem ConB.kept (h : ConB w base v zs) (hb : Below w.heap.size w w') : ConB w' base v zs := by
  obtain ⟨g, cap, cur, fz, hv, hb0, hg, h1⟩ := h
  exact ⟨g, cap, cur, fz, hv, hb0, by rw [hb.block g (Array.getElem?_eq_some_iff.1 hg).1]; exact hg, h1⟩
theorem ConB.apart (h : ConB w base v zs) {g : Nat} {l : List Value} {t : TypeId} (hr : Row w g l t) (ht : t ≠ 5) : v.ownBlock ≠ some g := by
  obtain ⟨g', cap, cur, fz, rfl, _, hg, _⟩ := h
  intro he
  have hgg : g' = g := by simpa [Value.ownBlock] using he
  subst hgg
  rw [hr] at hg
  simp only [Option.some.injEq, Obj.cells.injEq] at hg
  exact ht hg.2.1
theorem Mem.grownC (hm : Mem w0 S w rows) (h : ConB w w0.heap.size v zs) (hty : ∀ r ∈ rows, r.2.2 ≠ 5) (hg : w.grownBy w' v.ownBlock) : Mem w0 S w' rows := by
  refine ⟨hg.os.trans hm.os, hg.tape.trans hm.tape, hg.output.trans hm.output, Nat.le_trans hm.size hg.size, fun k hk hn => ?_, fun r hr => ?_, hm.nodup, hm.fresh⟩
  · refine (hg.block k (Nat.lt_of_lt_of_le hk hm.size) (fun he => ?_)).trans (hm.block k hk hn)
    obtain ⟨g, cap, cur, fz, rfl, hb, _⟩ := h
    have : k = g := by simpa [Value.ownBlock] using he
    omega
  · have hrow := hm.row r hr
    unfold Row
    rw [hg.block r.1 hrow.lt (fun he => h.apart hrow (hty r hr) he.symm)]
    exact hrow
theorem run_app1 (typ : TypeId) (h : ConB w base v zs) (b off c : Nat) (y : Int) (hsrc : Seg w b off [y]) (hlen : zs.length + 1 ≤ 1099511627776) (hbase : base ≤ w.heap.size) :
    ∃ v' w', (Builtin.append_ #[22, 22] typ #[v, .slice (some ⟨b, off, none⟩) 1 c]).run Tryd.prog w = .ok v' w' ∧ ConB w' base v' (zs ++ [y]) ∧ w.grownBy w' v.ownBlock ∧ (v'.ownBlock = v.ownBlock ∨ v'.ownBlock = some w.heap.size) := by
  have hi := made_u8
  have hcells := h.cells
  obtain ⟨g, cap, cur, fz, rfl, hb, hg, hfz, hn, hcm, hs, ht⟩ := h
  cases hq : Tryd.prog.info? 5 with
  | none => simp [hq] at hi
  | some i =>
    simp only [hq, Option.map_some, Option.some.injEq, Prod.mk.injEq] at hi
    obtain ⟨hz, h1, h2⟩ := hi
    have hl1 : (zs ++ [y]).length = zs.length + 1 := by simp
    have hnews : ∀ j u, (u8s [y])[j]? = some u → w.cell? ((⟨b, off, none⟩ : Addr).add j) = some u := hsrc.src
    by_cases hroom : zs.length + 1 ≤ cap
    · have hf := run_firstCells_some (P := Tryd.prog) w i.size 1 ⟨b, off, none⟩ 1 c (u8s [y]) (by rw [h1]; rfl) hnews
      have hcell : w.cell? ⟨g, zs.length, none⟩ = some (cur[zs.length]'(by omega)) := by
        rw [cell_of_row w g zs.length _ _ fz hg]
        simp [show zs.length < cur.size by omega]
      have hfree : w.frozen? ⟨g, zs.length, none⟩ = false := by
        rcases hfz with rfl | hf1
        · simp [World.frozen?, hg]
        · obtain ⟨lo, hi2⟩ := fz
          simp only [World.frozen?, hg, Bool.and_eq_false_iff, decide_eq_false_iff_not]
          left
          simp only at hf1
          omega
      have hst : (store ⟨g, zs.length, none⟩ (.int .u8 y)).run Tryd.prog w = .ok () (w.setCell ⟨g, zs.length, none⟩ (.int .u8 y)) := by
        rw [run_store Tryd.prog w _ _ _ rfl, hcell]; simp [hfree]
      have hadd : (⟨g, 0, none⟩ : Addr).add zs.length = ⟨g, zs.length, none⟩ := by rw [add_at, Nat.zero_add]
      have hadd0 : (⟨g, zs.length, none⟩ : Addr).add 0 = ⟨g, zs.length, none⟩ := by rw [add_at, Nat.add_zero]
      have hnb : (w.setCell ⟨g, zs.length, none⟩ (.int .u8 y)).heap[g]? = some (.cells (cur.setIfInBounds zs.length (.int .u8 y)) 5 fz) := by
        simp [World.setCell, Array.getElem?_modify, hg]
      refine ⟨.slice (some ⟨g, 0, none⟩) (zs.length + 1) cap, w.setCell ⟨g, zs.length, none⟩ (.int .u8 y), ?_, ⟨g, cap, _, fz, by rw [hl1], hb, hnb, hfz, by rw [hl1]; exact hroom, hcm, by simpa using hs, ?_⟩, ⟨rfl, rfl, rfl, by simp, fun k _ hk => heap_setCell_other w _ k _ (fun e => hk (by simp [Value.ownBlock, e]))⟩, Or.inl rfl⟩
      · rw [h1] at hf
        simp [Builtin.append_, run_underlying un_bs, sizeOf, typeInfo, hq, h1, Builtin.lenOf, hroom, hf, u8s, storeCells, hadd, hadd0, hst]
      · rw [hl1]
        have e1 : (cur.setIfInBounds zs.length (.int .u8 y)).toList = cur.toList.set zs.length (.int .u8 y) := by simp
        have hlt : zs.length < cur.toList.length := by
          have hq2 : cur.toList.length = cur.size := Array.length_toList
          omega
        rw [e1, List.take_succ_eq_append_getElem (by rw [List.length_set]; exact hlt), List.take_set_of_le (Nat.le_refl _), ht]
        simp [u8s]
    · have holds : ∀ j u, (u8s zs)[j]? = some u → w.cell? ((⟨g, 0, none⟩ : Addr).add j) = some u := by
        obtain ⟨g2, cap2, hv2, _, _, hseg⟩ := hcells
        simp only [Value.slice.injEq, Option.some.injEq, Addr.mk.injEq, and_true, true_and] at hv2
        obtain ⟨rfl, _⟩ := hv2
        exact hseg.src
      have hr := run_append_grow (P := Tryd.prog) w 22 typ 5 i (.int .u8 0) un_bs hq hz ⟨g, 0, none⟩ zs.length cap (u8s zs) (by rw [h1, u8s_length, Nat.mul_one]) holds ⟨b, off, none⟩ 1 c (u8s [y]) (by rw [h1]; rfl) hnews (by omega) (by omega) (growslice_fits (by omega) (by rw [h2]; omega))
      have hge := grownCap_ge w (zs.length + 1) cap 5
      have hcm2 : grownCap w (zs.length + 1) cap 5 ≤ maxLen := grownCap_le_maxLen w (zs.length + 1) cap 5 (by unfold maxLen; omega)
      refine ⟨_, _, hr, ⟨w.heap.size, _, _, (0, 0), by rw [hl1], hbase, heap_alloc_new w.drew _, Or.inl rfl, by rw [hl1]; exact hge, hcm2, ?_, ?_⟩, ⟨rfl, rfl, rfl, by simp, fun k hk _ => Below.heap_alloc w.drew _ _ hk⟩, Or.inr rfl⟩
      · simp only [Array.size_append, List.size_toArray, size_zeroCells, u8s_length]
        simp [Value.cells]
        omega
      · rw [hl1]
        have e2 : ((u8s zs).toArray ++ (u8s [y]).toArray ++ Builtin.zeroCells (Value.int .u8 0).cells (grownCap w (zs.length + 1) cap 5 - (zs.length + 1))).toList = u8s (zs ++ [y]) ++ (Builtin.zeroCells (Value.int .u8 0).cells (grownCap w (zs.length + 1) cap 5 - (zs.length + 1))).toList := by
          simp [u8s]
        rw [e2, List.take_append_of_le_length (by rw [u8s_length, hl1]; exact Nat.le_refl _), List.take_of_length_le (by rw [u8s_length, hl1]; exact Nat.le_refl _)]
end
section
variable {ops : Array Oper} {rest : List Oper} {a : Act} {w w0 : World} {Q : Exit → Act → World → Prop} {dst : Option Tmp} {typ : TypeId} {pos : String} {aft : Array Edge} {v : Value} {zs : List Int} {S : List Nat} {rows : List (Nat × List Value × TypeId)}
theorem wpl_app1 {s x : Operand} {base b off c : Nat} (y : Int) (hcon : ConB w base v zs) (hbase : base ≤ w.heap.size) (hs : a.eval s = v) (hx : a.eval x = .slice (some ⟨b, off, none⟩) 1 c) (hsrc : Seg w b off [y]) (hlen : zs.length + 1 ≤ 1099511627776)
    (h : ∀ v' w', ConB w' base v' (zs ++ [y]) → w.grownBy w' v.ownBlock → (v'.ownBlock = v.ownBlock ∨ v'.ownBlock = some w.heap.size) → wpList Tryd.prog ops Q rest (a.put dst v') w') :
    wpList Tryd.prog ops Q ({ dst := dst, op := .call { callee := .builtin .append, args := #[s, x], argTypes := #[22, 22] }, type := typ, pos := pos, after := aft, guard := none } :: rest) a w := by
  obtain ⟨v', w', hr, ho, hg, hv⟩ := run_app1 typ hcon b off c y hsrc hlen hbase
  refine wpList_plain rfl fun K hK => ?_
  have hh := hK _ _ (h v' w' ho hg hv)
  unfold Oper.wp execOp
  simp only [resolve, invoke, builtin, Sem.run_bind, Sem.run_pure, Result.andThen_ok, List.map_toArray, List.map_cons, List.map_nil, hs, hx, hr]
  exact hh
theorem str_con (w : World) (base : Nat) (hb : base ≤ w.heap.size) (s : ByteArray) (hs : s.size ≤ 1000000) : ConB (Lib.bytesWorld w 5 s) base (.slice (some ⟨w.heap.size, 0, none⟩) s.size (grownCap w s.size 0 5)) (strB s) := by
  have hge := grownCap_ge w s.size 0 5
  have hsz : (Lib.bytesCells w 5 s).size = grownCap w s.size 0 5 := by
    have : s.data.size = s.size := rfl
    simp [Lib.bytesCells, this]
    omega
  refine ⟨w.heap.size, _, _, _, by rw [strB_length], hb, Lib.bytesWorld_at_new w 5 s, Or.inr (by rw [hsz]; exact Nat.le_refl _), by rw [strB_length]; exact hge, grownCap_le_maxLen w s.size 0 5 (by unfold maxLen; omega), hsz, ?_⟩
  rw [strB_length]
  have e : (Lib.bytesCells w 5 s).toList = u8s (strB s) ++ List.replicate (grownCap w s.size 0 5 - s.size) (.int .u8 0) := by simp [Lib.bytesCells, strB, u8s]
  rw [e, List.take_append_of_le_length (by rw [u8s_length, strB_length]; exact Nat.le_refl _), List.take_of_length_le (by rw [u8s_length, strB_length]; exact Nat.le_refl _)]
theorem wpl_strc {st bt : TypeId} {x : Operand} (hs : Tryd.prog.underlying st = some .string) (hd : Tryd.prog.underlying bt = some (.slice 5)) (s : ByteArray) (hsl : s.size ≤ 1000000) (hx : a.eval x = .string s) (hm : Mem w0 S w rows)
    (h : ∀ w' g c, Mem w0 S w' rows → ConB w' w0.heap.size (.slice (some ⟨g, 0, none⟩) s.size c) (strB s) → wpList Tryd.prog ops Q rest (a.put dst (.slice (some ⟨g, 0, none⟩) s.size c)) w') :
    wpList Tryd.prog ops Q ({ dst := dst, op := .convert st bt x, type := typ, pos := pos, after := aft, guard := none } :: rest) a w := by
  refine wpList_plain rfl fun K hK => ?_
  have hh := hK _ _ (h _ _ _ (hm.call (str_below w 5 s)) (str_con w w0.heap.size hm.size s hsl))
  unfold Oper.wp execOp
  simp only [hx, Lib.run_convert_string_bytes (P := Tryd.prog) w st bt 5 s hs hd un_u8, Sem.run_bind, Sem.run_pure, Result.andThen_ok]
  exact hh
end
theorem be4_shift (n : Int) : be4 n = [n / 16777216 % 256, n / 65536 % 256, n / 256 % 256, n % 256] := by
  unfold be4
  rw [show n / 256 / 256 / 256 = n / 16777216 by omega, show n / 256 / 256 = n / 65536 by omega]
end Go.Proofs.YtonbfbcbmdnelaaDoor
