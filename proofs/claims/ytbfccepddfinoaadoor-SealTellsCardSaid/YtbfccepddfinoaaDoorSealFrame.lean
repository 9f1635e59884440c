/- What the proofs of the statements of this seat share: both tables as they are laid, arrays of bytes as they are read. -/
import Derived.Test.YtbfccepddfinoaaDoorMacOpen
import Derived.Test.YtbfccepddfinoaaDoorSealFns
namespace Go.Proofs.YtbfccepddfinoaaDoor
open Go Go.ChangeShapes Go.WideShapes Go.ChangeAt Go.RowKit
set_option maxRecDepth 100000 in
theorem cells_int : Tryd.prog.cellsOf 3 = 1 := by kernel_rfl
set_option maxRecDepth 100000 in
theorem cells_i4 : Tryd.prog.cellsOf 79 = 4 := by kernel_rfl
set_option maxRecDepth 100000 in
theorem cells_i84 : Tryd.prog.cellsOf 80 = 32 := by kernel_rfl
set_option maxRecDepth 100000 in
theorem cells_nce : Tryd.prog.cellsOf 30 = 12 := by kernel_rfl
set_option maxRecDepth 100000 in
theorem un_int : Tryd.prog.underlying 3 = some (.int .i64) := Tryd.underlying3
set_option maxRecDepth 100000 in
theorem places_type : (Tryd.prog.globals[0]?).map (·.type) = some 80 := by kernel_rfl

set_option maxRecDepth 100000 in
/-- An array of arrays of integers that reads as the table holds the table's numbers, cell for cell. -/
theorem cells_of_tab2 {H : Type} {enc : TypeId × Value → H} {P : Program} {w : World} {base : Nat} {sp : Nat → Bool} {held : Bool} {fuel : Nat} {t e f : TypeId} {n m : Nat} {k : IntKind} {cs : List Value} {zs : List (List Int)} {p : List MemPlace}
    (ht : P.underlying t = some (.array n e)) (he : P.underlying e = some (.array m f)) (hf : P.underlying f = some (.int k)) (hcf : P.cellsOf f = 1) (hce : P.cellsOf e = m) (hzn : zs.length = n)
    (h : DataW.trod enc P w base sp held fuel t cs = some (.agg (zs.map fun z => Lib.tabData k z), p)) : ∀ i, i < n → (cs.drop (i * m)).take m = (zs.getD i []).map fun z => Value.int k z := by
  cases fuel with
  | zero => simp [DataW.trod] at h
  | succ fuel =>
    simp only [DataW.trod, ht] at h
    split at h
    · rename_i hl
      obtain ⟨xs, hm, hx⟩ := Option.map_eq_some_iff.1 h
      have hxs : xs.map (·.1) = zs.map fun z => (Lib.tabData k z : DataW H) := by
        have := congrArg Prod.fst hx
        simpa using this
      intro i hi
      obtain ⟨b, hb, hfb⟩ := Lib.mapM_at hm i i (by simp [hi])
      have h2 : (xs.map (·.1))[i]? = some b.1 := by simp [hb]
      rw [hxs] at h2
      have hz : zs[i]? = some (zs.getD i []) := by simp [show i < zs.length by omega]
      simp only [List.getElem?_map, hz, Option.map_some, Option.some.injEq] at h2
      obtain ⟨b1, b2⟩ := b
      simp only at h2
      subst h2
      rw [hce] at hfb
      exact Lib.cells_of_tab he hf hcf hce hfb
    · cases h
def placesI : List (List Int) := [[0, 4, 8, 12], [1, 5, 9, 13], [2, 6, 10, 14], [3, 7, 11, 15], [0, 5, 10, 15], [1, 6, 11, 12], [2, 7, 8, 13], [3, 4, 9, 14]]
set_option maxRecDepth 100000 in
theorem places_flat : ∀ j : Fin 32, (placesI.getD (j.val / 4) []).getD (j.val % 4) 0 = qFlat.getD j.val 0 := by decide +kernel
set_option maxRecDepth 100000 in
theorem places_len : ∀ i : Fin 8, (placesI.getD i.val []).length = 4 := by decide +kernel
set_option maxRecDepth 100000 in
theorem qtab_of {W : World} (nm : String) {rest : List (String × DataW Unit)} (hn : Tryd.prog.globalNamed nm = some 0) (h : laidMet Tryd.prog ((nm, .agg (placesI.map fun z => Lib.tabData .i64 z)) :: rest) W) : QTab W := by
  obtain ⟨ps, ⟨g', t', cs, fuel, p, q, hg', ht', hvar, hd, _, _⟩, _⟩ := h
  obtain rfl := Option.some.inj (hn.symm.trans hg')
  obtain rfl := Option.some.inj (places_type.symm.trans ht')
  have hall := cells_of_tab2 un_i84 un_i4 un_int cells_int cells_i4 rfl hd
  intro j hj
  have hc := World.var?_cell hn hvar j
  have h4 : j / 4 < 8 := by omega
  have hr := hall (j / 4) h4
  have h5 : cs.toList[j]? = some (.int .i64 (qFlat.getD j 0)) := by
    have h6 : ((cs.toList.drop (j / 4 * 4)).take 4)[j % 4]? = cs.toList[j]? := by
      rw [List.getElem?_take, if_pos (by omega), List.getElem?_drop, show j / 4 * 4 + j % 4 = j by omega]
    rw [← h6, hr, ← places_flat ⟨j, hj⟩]
    have hl := places_len ⟨j / 4, h4⟩
    exact i64s_get _ _ (by rw [hl]; omega)
  rw [hc, ← Array.getElem?_toList]
  exact h5

set_option maxRecDepth 100000 in
/-- An array of bytes that came in. -/
theorem open_arr {H : Type} {enc : TypeId × Value → H} {W : World} {base : Nat} {v : Value} {d : DataW H} {ps : List MemPlace} (t : TypeId) (n : Nat) (un : Tryd.prog.underlying t = some (.array n 5)) (hct : Tryd.prog.cellsOf t = n) (hok : Value.okWide Tryd.prog W .any base t v) (h : DataW.Trod enc Tryd.prog W 0 (fun _ => true) true t v d ps) :
    ∃ zs : List Int, v = .agg (u8s zs).toArray ∧ zs.length = n ∧ Bytes zs := by
  simp only [Value.okWide, un] at hok
  obtain ⟨cs, rfl, hsz, _⟩ := hok
  obtain ⟨fuel, hf⟩ := h
  obtain ⟨xs, m, rfl, _, hl, hxn, hget⟩ := DataW.trod_array un hf
  have hcell : ∀ i, i < n → ∃ z, cs[i]? = some (.int .u8 z) ∧ 0 ≤ z ∧ z < 256 := by
    intro i hi
    have hx : xs[i]? = some (xs[i]'(by omega)) := by simp [show i < xs.length by omega]
    have h1 := hget i hi
    rw [hx, cells_u8] at h1
    obtain ⟨z, hc, _, hwf⟩ := DataW.trod_int un_u8 h1
    have h2 := congrArg (·[0]?) hc
    have h3 : cs[i]? = some (.int .u8 z) := by simpa [List.getElem?_take, List.getElem?_drop, Value.cells] using h2
    refine ⟨z, h3, ?_⟩
    have := bounds_u8 hwf
    omega
  refine ⟨cs.toList.map (fun v => match v with | .int _ z => z | _ => 0), ?_, by simp [hsz, hct], ?_⟩
  · congr 1
    apply Array.ext_getElem?
    intro i
    by_cases hi : i < n
    · obtain ⟨z, hz, _⟩ := hcell i hi
      simp [u8s, hz]
    · rw [Array.getElem?_eq_none (by rw [hsz, hct]; omega), Array.getElem?_eq_none (by simp [u8s, hsz, hct]; omega)]
  · intro y hy
    obtain ⟨v, hv, rfl⟩ := List.mem_map.1 hy
    obtain ⟨i, hi, he⟩ := List.getElem_of_mem hv
    obtain ⟨z, hz, hb⟩ := hcell i (by simpa [hsz, hct] using hi)
    have hvz : v = .int .u8 z := by
      have : cs.toList[i]? = some v := by rw [← he]; simp [show i < cs.size by simpa using hi]
      rw [Array.getElem?_toList, hz] at this
      exact (Option.some.inj this).symm
    subst hvz
    exact hb

set_option maxRecDepth 100000 in
theorem cells_b48 : Tryd.prog.cellsOf 27 = 48 := by kernel_rfl
set_option maxRecDepth 100000 in
theorem laid_tail {P : Program} {W : World} {x : String × DataW Unit} {rest : List (String × DataW Unit)} (h : laidMet P (x :: rest) W) : laidMet P rest W := by
  obtain ⟨n, d⟩ := x
  obtain ⟨ps, ⟨g, t, cs, fuel, p, q, _, _, _, _, hr, rfl⟩, hnd, hc⟩ := h
  exact ⟨q, hr, (List.nodup_append.1 hnd).2.1, fun b off hm => hc b off (List.mem_append_right _ hm)⟩
set_option maxRecDepth 100000 in
theorem tab_laid {W : World} (h : laidMetH Tryd.prog Rows.sealTellsRow.laid W) : Tab W :=
  tab_of (Rows.sealTellsRow.named.headD default) (by kernel_rfl) (Lib.tabIs_of_head (by kernel_rfl) table_type un_w64 Tryd.underlying24 cells_u32 cells_w64 h)
set_option maxRecDepth 100000 in
theorem qtab_laid {W : World} (h : laidMetH Tryd.prog Rows.sealTellsRow.laid W) : QTab W :=
  qtab_of (Rows.sealTellsRow.named.getLastD default) (by kernel_rfl) (laid_tail (show laidMet Tryd.prog Rows.sealTellsRow.laid W from h))
end Go.Proofs.YtbfccepddfinoaaDoor
