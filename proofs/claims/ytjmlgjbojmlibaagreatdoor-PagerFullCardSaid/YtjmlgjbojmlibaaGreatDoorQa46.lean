import Derived.Test.YtjmlgjbojmlibaaGreatDoorQa04
import Derived.Test.YtjmlgjbojmlibaaGreatDoorCards
import Derived.Test.YtjmlgjbojmlibaaGreatDoorTie
import Derived.ProofKit
import Derived.OpenShut
import Derived.ChangeOld
import Derived.Deep.DeepHandedRow
import Derived.Lib.LaidTab
import Derived.Lay
import Derived.Test.YtjmlgjbojmlibaaGreatDoorQa05
import Derived.Deep.Slices
import Derived.ChangeMaps5
import Derived.Test.YtjmlgjbojmlibaaGreatDoorQa09
set_option maxRecDepth 100000
namespace Go.Proofs.YtjmlgjbojmlibaaGreatDoor
open Go Go.ChangeShapes Go.WideShapes Go.ChangeAt Go.RowKit
theorem own : ownKnob Tryz.prog.godebug = none := by kernel_rfl
theorem laidOut : laidOutB Tryz.prog = true := by kernel_rfl
theorem cells_w64 : Tryz.prog.cellsOf 261 = 64 := by kernel_rfl
theorem cells_u32 : Tryz.prog.cellsOf 30 = 1 := by kernel_rfl
theorem cells_u8 : Tryz.prog.cellsOf 5 = 1 := by kernel_rfl
theorem table_type : (Tryz.prog.globals[0]?).map (·.type) = some 261 := by kernel_rfl
/-- The listed table gives what the walks ask for. -/
theorem tab_of {W : World} (nm : String) (hn : Tryz.prog.globalNamed nm = some 0) (h : Lib.TabIs Tryz.prog W nm .u32 kTab) : Tab W := by
  intro j hj
  exact h.cell hn j (by simpa [kTab] using hj)
end Go.Proofs.YtjmlgjbojmlibaaGreatDoor
namespace Go.Proofs.YtjmlgjbojmlibaaGreatDoor
open Go Go.ChangeShapes Go.WideShapes Go.ChangeAt Go.RowKit
end Go.Proofs.YtjmlgjbojmlibaaGreatDoor
namespace Go.Proofs.YtjmlgjbojmlibaaGreatDoor
open Go Go.ChangeShapes Go.WideShapes Go.ChangeAt Go.RowKit
end Go.Proofs.YtjmlgjbojmlibaaGreatDoor
namespace Go.Proofs.YtjmlgjbojmlibaaGreatDoor
open Go Go.ChangeShapes Go.WideShapes Go.ChangeAt Go.RowKit
theorem cells_int : Tryz.prog.cellsOf 3 = 1 := by kernel_rfl
theorem cells_i4 : Tryz.prog.cellsOf 226 = 4 := by kernel_rfl
theorem un_int : Tryz.prog.underlying 3 = some (.int .i64) := Tryz.underlying3
theorem places_type : (Tryz.prog.globals[1]?).map (·.type) = some 227 := by kernel_rfl
/-- An array of arrays of integers that reads as the table holds the table's numbers, cell for cell. -/
theorem cells_of_tab2 {H : Type} {enc : TypeId × Value → H} {P : Program} {w : World} {base : Nat} {sp : Nat → Bool} {held : Bool} {fuel : Nat} {t e f : TypeId} {n m : Nat} {k : IntKind} {cs : List Value} {zs : List (List Int)} {p : List MemPlace}
    (ht : P.underlying t = some (.array n e)) (he : P.underlying e = some (.array m f)) (hf : P.underlying f = some (.int k)) (hcf : P.cellsOf f = 1) (hce : P.cellsOf e = m) (hzn : zs.length = n)
    (h : DataW.trod enc P w base sp held fuel t cs = some (.agg (zs.map fun z => Lib.tabData k z), p)) : ∀ i, i < n → (cs.drop (i * m)).take m = (zs.getD i []).map fun z => Value.int k z := by
  cases fuel with
  | zero => simp [DataW.trod] at h
  | succ fuel =>
    simp only [DataW.trod, ht] at h
    split at h
    · rename_i hl
      obtain ⟨xs, hm, hx⟩ := Option.map_eq_some_iff.1 h
      have hxs : xs.map (·.1) = zs.map fun z => (Lib.tabData k z : DataW H) := by
        have := congrArg Prod.fst hx
        simpa using this
      intro i hi
      obtain ⟨b, hb, hfb⟩ := Lib.mapM_at hm i i (by simp [hi])
      have h2 : (xs.map (·.1))[i]? = some b.1 := by simp [hb]
      rw [hxs] at h2
      have hz : zs[i]? = some (zs.getD i []) := by simp [show i < zs.length by omega]
      simp only [List.getElem?_map, hz, Option.map_some, Option.some.injEq] at h2
      obtain ⟨b1, b2⟩ := b
      simp only at h2
      subst h2
      rw [hce] at hfb
      exact Lib.cells_of_tab he hf hcf hce hfb
    · cases h
def placesI : List (List Int) := [[0, 4, 8, 12], [1, 5, 9, 13], [2, 6, 10, 14], [3, 7, 11, 15], [0, 5, 10, 15], [1, 6, 11, 12], [2, 7, 8, 13], [3, 4, 9, 14]]
theorem places_flat : ∀ j : Fin 32, (placesI.getD (j.val / 4) []).getD (j.val % 4) 0 = qFlat.getD j.val 0 := by decide +kernel
theorem places_len : ∀ i : Fin 8, (placesI.getD i.val []).length = 4 := by decide +kernel
theorem qtab_of {W : World} (nm : String) {rest : List (String × DataW Unit)} (hn : Tryz.prog.globalNamed nm = some 1) (h : laidMet Tryz.prog ((nm, .agg (placesI.map fun z => Lib.tabData .i64 z)) :: rest) W) : QTab W := by
  obtain ⟨ps, ⟨g', t', cs, fuel, p, q, hg', ht', hvar, hd, _, _⟩, _⟩ := h
  obtain rfl := Option.some.inj (hn.symm.trans hg')
  obtain rfl := Option.some.inj (places_type.symm.trans ht')
  have hall := cells_of_tab2 un_i84 un_i4 un_int cells_int cells_i4 rfl hd
  intro j hj
  have hc := World.var?_cell hn hvar j
  have h4 : j / 4 < 8 := by omega
  have hr := hall (j / 4) h4
  have h5 : cs.toList[j]? = some (.int .i64 (qFlat.getD j 0)) := by
    have h6 : ((cs.toList.drop (j / 4 * 4)).take 4)[j % 4]? = cs.toList[j]? := by
      rw [List.getElem?_take, if_pos (by omega), List.getElem?_drop, show j / 4 * 4 + j % 4 = j by omega]
    rw [← h6, hr, ← places_flat ⟨j, hj⟩]
    have hl := places_len ⟨j / 4, h4⟩
    exact i64s_get _ _ (by rw [hl]; omega)
  rw [hc, ← Array.getElem?_toList]
  exact h5
theorem laid_tail {P : Program} {W : World} {x : String × DataW Unit} {rest : List (String × DataW Unit)} (h : laidMet P (x :: rest) W) : laidMet P rest W := by
  obtain ⟨n, d⟩ := x
  obtain ⟨ps, ⟨g, t, cs, fuel, p, q, _, _, _, _, hr, rfl⟩, hnd, hc⟩ := h
  exact ⟨q, hr, (List.nodup_append.1 hnd).2.1, fun b off hm => hc b off (List.mem_append_right _ hm)⟩
theorem tab_laid {W : World} (h : laidMetH Tryz.prog Rows.pagerFullRow.laid W) : Tab W :=
  tab_of (Rows.pagerFullRow.named.headD default) (by kernel_rfl) (Lib.tabIs_of_head (by kernel_rfl) table_type un_w64 Tryz.underlying30 cells_u32 cells_w64 h)
theorem qtab_laid {W : World} (h : laidMetH Tryz.prog Rows.pagerFullRow.laid W) : QTab W :=
  qtab_of (Rows.pagerFullRow.named.getLastD default) (by kernel_rfl) (laid_tail (show laidMet Tryz.prog Rows.pagerFullRow.laid W from h))
end Go.Proofs.YtjmlgjbojmlibaaGreatDoor
