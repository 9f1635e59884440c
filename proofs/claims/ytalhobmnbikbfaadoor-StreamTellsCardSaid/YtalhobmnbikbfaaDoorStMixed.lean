/- The contract of mixed: eighty quarter rounds. -/
import Derived.Test.YtalhobmnbikbfaaDoorStFns
import Derived.Test.YtalhobmnbikbfaaDoorAnyC
namespace Go.Proofs.YtalhobmnbikbfaaDoor
open Go Go.RowKit

def QTab (w : World) : Prop := ∀ j, j < 32 → w.cell? ⟨0, j, none⟩ = some (.int .i64 (qFlat.getD j 0))
theorem QTab.lt {w : World} (h : QTab w) : 0 < w.heap.size := block_lt_of_cell (h 0 (by omega))
theorem QTab.mem {w0 w : World} {S : List Nat} {rows : List (Nat × List Value × TypeId)} (h : QTab w0) (hm : Mem w0 S w rows) (hS : 0 ∉ S) : QTab w := by
  intro j hj
  rw [hm.old (p := ⟨0, j, none⟩) h.lt hS]
  exact h j hj
theorem QTab.cells {w : World} (h : QTab w) : ∀ j v, (i64s qFlat)[j]? = some v → w.cell? ⟨0, 0 + j, none⟩ = some v := by
  intro j v hv
  have hj : j < 32 := by
    rcases Nat.lt_or_ge j 32 with h' | h'
    · exact h'
    · rw [List.getElem?_eq_none (by rw [i64s_length]; exact h')] at hv; cases hv
  rw [i64s_get qFlat j hj] at hv
  rw [Nat.zero_add, h j hj, hv]
theorem quarter_at (a b c d ya yb yc yd : Int) (hq : quart a b c d = (ya, yb, yc, yd)) (w : World) :
    Calls Tryd.prog 9 #[.int .u32 a, .int .u32 b, .int .u32 c, .int .u32 d] w fun e w' => e = .returned (.tuple #[.int .u32 ya, .int .u32 yb, .int .u32 yc, .int .u32 yd]) ∧ w' = w := by
  have h := quarter_any a b c d w
  unfold quartV at h
  rw [hq] at h
  exact h
theorem qFlat_part : ∀ k : Fin 8, (qFlat.drop (k.val * 4)).take 4 = [((qAt k.val 0 : Nat) : Int), ((qAt k.val 1 : Nat) : Int), ((qAt k.val 2 : Nat) : Int), ((qAt k.val 3 : Nat) : Int)] := by decide +kernel
theorem qround_step (ws : List Int) (n k : Nat) (hk : n % 8 = k) (ya yb yc yd : Int) (hq : quart ((qrounds ws n).getD (qAt k 0) 0) ((qrounds ws n).getD (qAt k 1) 0) ((qrounds ws n).getD (qAt k 2) 0) ((qrounds ws n).getD (qAt k 3) 0) = (ya, yb, yc, yd)) :
    ((((u32s (qrounds ws n)).set (qAt k 0) (.int .u32 ya)).set (qAt k 1) (.int .u32 yb)).set (qAt k 2) (.int .u32 yc)).set (qAt k 3) (.int .u32 yd) = u32s (qrounds ws (n + 1)) := by
  rw [u32s_set, u32s_set, u32s_set, u32s_set, qrounds, hk, qset, hq]
set_option maxHeartbeats 4000000 in
set_option maxRecDepth 100000 in
theorem mixed16_any (ws : List Int) (hws : ws.length = 16) (w : World) (ht : QTab w) :
    Calls Tryd.prog 19 #[.agg (u32s ws).toArray] w fun e w' => e = .returned (.agg (u32s (qrounds ws 80)).toArray) ∧ Below w.heap.size w w' := by
  have hm := Mem.start w
  have HT : Hid _ := ht
  have HW : Hid _ := hws
  clear ht hws
  go_enter Tryd.func19, Tryd.ntmps19
  go_wp2_with (first
    | ((with_reducible refine at_op (some 1) (.box 42 (.tmp 0)) ?_); refine wpl_box (u32s ws) rfl hm ?_; clear hm; intro w1 g1 hm)
    | ((with_reducible refine at_op (some 2) (.alloc 42) ?_); refine wpl_alloc _ zero_w16 hm ?_; clear hm; intro w2 g2 hm))

  go_loopw [9] (fun vi wr => ∃ r : Nat, r ≤ 10 ∧ vi = .int .i64 r ∧ Mem w [] wr [(g2, u32s (List.replicate 16 0), 42), (g1, u32s (qrounds ws (8 * r)), 42)]) (fun vi _ => 10 - (intOf vi).toNat)
  case atStart => exact ⟨0, by omega, rfl, hm⟩
  case round =>
    clear hm
    obtain ⟨r, hr, rfl, hm⟩ := hrel
    by_cases hlt : r < 10
    · have hri : (r : Int) < 10 := by omega
      go_wp2_with (first
        | ((with_reducible refine at_op (some 11) (.load 48 (.global 0)) ?_); refine wpl_ldg (i64s qFlat) 0 rfl (QTab.cells (QTab.mem HT.out hm (by simp))) _ un_i84 rfl 32 sz_i84 rfl ?_))

      go_loopw [12] (fun vi wr => ∃ k : Nat, k ≤ 8 ∧ vi = .int .i64 k ∧ Mem w [] wr [(g2, u32s (List.replicate 16 0), 42), (g1, u32s (qrounds ws (8 * r + k)), 42)]) (fun vi _ => 8 - (intOf vi).toNat)
      case atStart => exact ⟨0, by omega, rfl, hm⟩
      case round =>
        clear hm
        obtain ⟨k, hk, rfl, hm⟩ := hrel
        by_cases hk8 : k < 8
        · have hki : (k : Int) < 8 := by omega
          have hpart := qFlat_part ⟨k, hk8⟩
          have hlt4 := qAt_lt ⟨k, hk8⟩
          have hq0 := hlt4 0
          have hq1 := hlt4 1
          have hq2 := hlt4 2
          have hq3 := hlt4 3
          obtain ⟨Y, hY⟩ : ∃ Y, Y = quart ((qrounds ws (8 * r + k)).getD (qAt k 0) 0) ((qrounds ws (8 * r + k)).getD (qAt k 1) 0) ((qrounds ws (8 * r + k)).getD (qAt k 2) 0) ((qrounds ws (8 * r + k)).getD (qAt k 3) 0) := ⟨_, rfl⟩
          obtain ⟨ya, yb, yc, yd⟩ := Y
          have hstep := qround_step ws (8 * r + k) k (by omega) ya yb yc yd hY.symm
          have HLN : Hid ((u32s (qrounds ws (8 * r + k))).length = 16) := by show _ = _; rw [u32s_length, qrounds_length, HW.out]
          obtain ⟨ia, hia⟩ : ∃ i, i = qAt k 0 := ⟨_, rfl⟩
          obtain ⟨ib, hib⟩ : ∃ i, i = qAt k 1 := ⟨_, rfl⟩
          obtain ⟨ic, hic⟩ : ∃ i, i = qAt k 2 := ⟨_, rfl⟩
          obtain ⟨id, hid⟩ : ∃ i, i = qAt k 3 := ⟨_, rfl⟩
          have ha : ia < 16 := by rw [hia]; exact hq0
          have hb : ib < 16 := by rw [hib]; exact hq1
          have hc : ic < 16 := by rw [hic]; exact hq2
          have hd : id < 16 := by rw [hid]; exact hq3
          simp only at hpart
          rw [← hia, ← hib, ← hic, ← hid] at hY hstep hpart
          obtain ⟨xa, hxa⟩ : ∃ x, x = (qrounds ws (8 * r + k)).getD ia 0 := ⟨_, rfl⟩
          obtain ⟨xb, hxb⟩ : ∃ x, x = (qrounds ws (8 * r + k)).getD ib 0 := ⟨_, rfl⟩
          obtain ⟨xc, hxc⟩ : ∃ x, x = (qrounds ws (8 * r + k)).getD ic 0 := ⟨_, rfl⟩
          obtain ⟨xd, hxd⟩ : ∃ x, x = (qrounds ws (8 * r + k)).getD id 0 := ⟨_, rfl⟩
          rw [← hxa, ← hxb, ← hxc, ← hxd] at hY
          have hlq : (qrounds ws (8 * r + k)).length = 16 := by rw [qrounds_length, HW.out]
          have HA : Hid ((u32s (qrounds ws (8 * r + k)))[ia]? = some (.int .u32 xa)) := by rw [hxa]; exact u32s_get _ _ (by omega)
          have HB : Hid ((u32s (qrounds ws (8 * r + k)))[ib]? = some (.int .u32 xb)) := by rw [hxb]; exact u32s_get _ _ (by omega)
          have HC : Hid ((u32s (qrounds ws (8 * r + k)))[ic]? = some (.int .u32 xc)) := by rw [hxc]; exact u32s_get _ _ (by omega)
          have HD : Hid ((u32s (qrounds ws (8 * r + k)))[id]? = some (.int .u32 xd)) := by rw [hxd]; exact u32s_get _ _ (by omega)
          have HY : Hid (quart xa xb xc xd = (ya, yb, yc, yd)) := hY.symm
          have HST : Hid (((((u32s (qrounds ws (8 * r + k))).set ia (.int .u32 ya)).set ib (.int .u32 yb)).set ic (.int .u32 yc)).set id (.int .u32 yd) = u32s (qrounds ws (8 * r + (k + 1)))) := hstep
          have HPT : Hid (((i64s qFlat).drop (k * 4)).take 4 = i64s [(ia : Int), (ib : Int), (ic : Int), (id : Int)]) := by
            show _ = _
            rw [← hpart]
            simp [i64s, List.map_take, List.map_drop]
          have hai : (ia : Int) < 16 := by omega
          have hbi : (ib : Int) < 16 := by omega
          have hci : (ic : Int) < 16 := by omega
          have hdi : (id : Int) < 16 := by omega
          clear hpart hlt4 hq0 hq1 hq2 hq3 hY hstep hia hib hic hid hxa hxb hxc hxd hlq
          go_wp2_with (first
            | ((with_reducible refine at_op (some 14) (.index 48 (.tmp 11) (.tmp 12)) ?_); go_must (refine wpl_ixp 8 un_i84 4 sz_i4 ag_i4 (i64s qFlat) (i64s [(ia : Int), (ib : Int), (ic : Int), (id : Int)]) k hk8 rfl rfl rfl HPT.out ?_))
            | ((with_reducible refine at_op (some 4) (.alloc 47) ?_); refine wpl_alloc _ zero_i4 hm ?_; clear hm; intro w5 g4 hm)
            | ((with_reducible refine at_op none (.store 47 (.tmp 4) (.tmp 14)) ?_); refine wpl_stw 0 (i64s [(ia : Int), (ib : Int), (ic : Int), (id : Int)]) hm rfl rfl rfl 4 sz_i4 (by simp [i64s_length]) (rfl) (i64s_one _) ?_; clear hm; intro w6 hm))

          have c0 : w6.cell? ⟨g4, 0, none⟩ = some (.int .i64 ia) := hm.cell 0 rfl 0
          have c1 : w6.cell? ⟨g4, 1, none⟩ = some (.int .i64 ib) := hm.cell 0 rfl 1
          have c2 : w6.cell? ⟨g4, 2, none⟩ = some (.int .i64 ic) := hm.cell 0 rfl 2
          have c3 : w6.cell? ⟨g4, 3, none⟩ = some (.int .i64 id) := hm.cell 0 rfl 3
          have HM : Hid _ := hm
          clear hm
          go_quiet (fail)
          go_wp2_with fail
          clear c0 c1 c2 c3
          have hm := HM.out.drewN 1
          refine wp_ends0 ?_
          refine anyC_start (T := fun W => Mem w [] W [(g4, i64s [(ia : Int), (ib : Int), (ic : Int), (id : Int)], 47), (g2, u32s (List.replicate 16 0), 42), (g1, u32s (qrounds ws (8 * r + k)), 42)]) (T2 := fun _ => True) 16 (by kernel_rfl) (HM.out.drewN _) ?_
          clear hm
          intro w7 hm
          refine anyC_pure 0 (v := .int .i64 (ia : Int)) rfl (by kernel_rfl) (by kernel_rfl) (by kernel_rfl) rfl rfl (fun W _ => by go_simp) hm ?_
          go_simp
          refine anyC_pure 1 (v := .int .i64 (ib : Int)) rfl (by kernel_rfl) (by kernel_rfl) (by kernel_rfl) rfl rfl (fun W _ => by go_simp) hm ?_
          go_simp
          refine anyC_pure 2 (v := .int .i64 (ic : Int)) rfl (by kernel_rfl) (by kernel_rfl) (by kernel_rfl) rfl rfl (fun W _ => by go_simp) hm ?_
          go_simp
          refine anyC_pure 3 (v := .int .i64 (id : Int)) rfl (by kernel_rfl) (by kernel_rfl) (by kernel_rfl) rfl rfl (fun W _ => by go_simp) hm ?_
          go_simp
          refine anyC_pure 4 (v := .int .i64 (ia : Int)) rfl (by kernel_rfl) (by kernel_rfl) (by kernel_rfl) rfl rfl (fun W _ => by go_simp) hm ?_
          go_simp
          refine anyC_pure 5 (v := .pointer (some ⟨g1, ia, none⟩)) rfl (by kernel_rfl) (by kernel_rfl) (by kernel_rfl) rfl rfl (fun W _ => by go_simp) hm ?_
          go_simp
          refine anyC_load 6 (v := .int .u32 xa) rfl (by kernel_rfl) (by kernel_rfl) (by kernel_rfl) rfl rfl (by kernel_rfl) rfl (fun W hW => exec_ldr ia (.int .u32 xa) (Mem.get hW 2 rfl) rfl ag_u32 HA.out) hm ?_
          go_simp
          refine anyC_pure 7 (v := .int .i64 (ib : Int)) rfl (by kernel_rfl) (by kernel_rfl) (by kernel_rfl) rfl rfl (fun W _ => by go_simp) hm ?_
          go_simp
          refine anyC_pure 8 (v := .pointer (some ⟨g1, ib, none⟩)) rfl (by kernel_rfl) (by kernel_rfl) (by kernel_rfl) rfl rfl (fun W _ => by go_simp) hm ?_
          go_simp
          refine anyC_load 9 (v := .int .u32 xb) rfl (by kernel_rfl) (by kernel_rfl) (by kernel_rfl) rfl rfl (by kernel_rfl) rfl (fun W hW => exec_ldr ib (.int .u32 xb) (Mem.get hW 2 rfl) rfl ag_u32 HB.out) hm ?_
          go_simp
          refine anyC_pure 10 (v := .int .i64 (ic : Int)) rfl (by kernel_rfl) (by kernel_rfl) (by kernel_rfl) rfl rfl (fun W _ => by go_simp) hm ?_
          go_simp
          refine anyC_pure 11 (v := .pointer (some ⟨g1, ic, none⟩)) rfl (by kernel_rfl) (by kernel_rfl) (by kernel_rfl) rfl rfl (fun W _ => by go_simp) hm ?_
          go_simp
          refine anyC_load 12 (v := .int .u32 xc) rfl (by kernel_rfl) (by kernel_rfl) (by kernel_rfl) rfl rfl (by kernel_rfl) rfl (fun W hW => exec_ldr ic (.int .u32 xc) (Mem.get hW 2 rfl) rfl ag_u32 HC.out) hm ?_
          go_simp
          refine anyC_pure 13 (v := .int .i64 (id : Int)) rfl (by kernel_rfl) (by kernel_rfl) (by kernel_rfl) rfl rfl (fun W _ => by go_simp) hm ?_
          go_simp
          refine anyC_pure 14 (v := .pointer (some ⟨g1, id, none⟩)) rfl (by kernel_rfl) (by kernel_rfl) (by kernel_rfl) rfl rfl (fun W _ => by go_simp) hm ?_
          go_simp
          refine anyC_load 15 (v := .int .u32 xd) rfl (by kernel_rfl) (by kernel_rfl) (by kernel_rfl) rfl rfl (by kernel_rfl) rfl (fun W hW => exec_ldr id (.int .u32 xd) (Mem.get hW 2 rfl) rfl ag_u32 HD.out) hm ?_
          go_simp
          refine anyC_turn (by kernel_rfl) rfl rfl ?_
          intro K hK
          go_wp2_with (go_at_call 9; refine (quarter_at _ _ _ _ ya yb yc yd HY.out _).mono ?_; rintro e w8 ⟨rfl, rfl⟩)
          refine hK _ _ trivial ?_
          clear hK K
          refine anyH_take 17 (v := .tuple #[.int .u32 ya, .int .u32 yb, .int .u32 yc, .int .u32 yd]) rfl (by kernel_rfl) (by kernel_rfl) (by kernel_rfl) rfl (fun W _ => by go_simp) trivial ?_
          go_simp
          refine anyH_take 18 (v := .int .u32 ya) rfl (by kernel_rfl) (by kernel_rfl) (by kernel_rfl) rfl (fun W _ => by go_simp) trivial ?_
          go_simp
          refine anyH_take 19 (v := .int .u32 yb) rfl (by kernel_rfl) (by kernel_rfl) (by kernel_rfl) rfl (fun W _ => by go_simp) trivial ?_
          go_simp
          refine anyH_take 20 (v := .int .u32 yc) rfl (by kernel_rfl) (by kernel_rfl) (by kernel_rfl) rfl (fun W _ => by go_simp) trivial ?_
          go_simp
          refine anyH_take 21 (v := .int .u32 yd) rfl (by kernel_rfl) (by kernel_rfl) (by kernel_rfl) rfl (fun W _ => by go_simp) trivial ?_
          go_simp
          refine anyH_take 22 (v := .pointer (some ⟨g1, ia, none⟩)) rfl (by kernel_rfl) (by kernel_rfl) (by kernel_rfl) rfl (fun W _ => by go_simp) trivial ?_
          go_simp
          refine wpAnyH_all (rs := [23]) (by kernel_rfl) (by simp) ?_
          intro i hi
          simp only [List.mem_cons, List.not_mem_nil, or_false] at hi
          subst hi
          refine anyH_op 23 rfl rfl ?_
          intro K hK
          refine wpl_stc 2 ia (.int .u32 ya) hm rfl rfl rfl sz_u32 (by rw [HLN.out]; exact ha) rfl rfl ?_
          clear hm
          intro v0 hm
          refine wpList_nil ?_
          refine hK _ _ trivial ?_
          clear hK K
          refine anyH_take 24 (v := .pointer (some ⟨g1, ib, none⟩)) rfl (by kernel_rfl) (by kernel_rfl) (by kernel_rfl) rfl (fun W _ => by go_simp) trivial ?_
          go_simp
          refine wpAnyH_all (rs := [25]) (by kernel_rfl) (by simp) ?_
          intro i hi
          simp only [List.mem_cons, List.not_mem_nil, or_false] at hi
          subst hi
          refine anyH_op 25 rfl rfl ?_
          intro K hK
          refine wpl_stc 2 ib (.int .u32 yb) hm rfl rfl rfl sz_u32 (by rw [List.length_set, HLN.out]; exact hb) rfl rfl ?_
          clear hm
          intro v1 hm
          refine wpList_nil ?_
          refine hK _ _ trivial ?_
          clear hK K
          refine anyH_take 26 (v := .pointer (some ⟨g1, ic, none⟩)) rfl (by kernel_rfl) (by kernel_rfl) (by kernel_rfl) rfl (fun W _ => by go_simp) trivial ?_
          go_simp
          refine wpAnyH_all (rs := [27]) (by kernel_rfl) (by simp) ?_
          intro i hi
          simp only [List.mem_cons, List.not_mem_nil, or_false] at hi
          subst hi
          refine anyH_op 27 rfl rfl ?_
          intro K hK
          refine wpl_stc 2 ic (.int .u32 yc) hm rfl rfl rfl sz_u32 (by rw [List.length_set, List.length_set, HLN.out]; exact hc) rfl rfl ?_
          clear hm
          intro v2 hm
          refine wpList_nil ?_
          refine hK _ _ trivial ?_
          clear hK K
          refine anyH_take 28 (v := .pointer (some ⟨g1, id, none⟩)) rfl (by kernel_rfl) (by kernel_rfl) (by kernel_rfl) rfl (fun W _ => by go_simp) trivial ?_
          go_simp
          refine wpAnyH_all (rs := [29]) (by kernel_rfl) (by simp) ?_
          intro i hi
          simp only [List.mem_cons, List.not_mem_nil, or_false] at hi
          subst hi
          refine anyH_op 29 rfl rfl ?_
          intro K hK
          refine wpl_stc 2 id (.int .u32 yd) hm rfl rfl rfl sz_u32 (by rw [List.length_set, List.length_set, List.length_set, HLN.out]; exact hd) rfl rfl ?_
          clear hm
          intro v3 hm
          refine wpList_nil ?_
          refine hK _ _ trivial ?_
          clear hK K
          refine wpAnyH_done (by kernel_rfl) ?_ _
          simp only [endsIn]
          have hn : Mem w [] v3 [(g2, u32s (List.replicate 16 0), 42), (g1, u32s (qrounds ws (8 * r + (k + 1))), 42)] := by
            have h2 := hm.tail
            simp only [List.set_cons_succ, List.set_cons_zero, HST.out] at h2
            exact h2
          clear hm
          go_wp2_with fail
          go_roundw
          case rel => exact ⟨k + 1, by omega, by go_num, hn⟩
          case measure => simp [intOf]; omega
        · have hk8' : k = 8 := by omega
          subst hk8'
          go_wp2_with fail
          go_roundw
          case rel => exact ⟨r + 1, by omega, by go_num, hm⟩
          case measure => simp [intOf]; omega
    · have hr10 : r = 10 := by omega
      subst hr10
      have HLN : Hid ((u32s (qrounds ws 80)).length = 16) := by show _ = _; rw [u32s_length, qrounds_length, HW.out]
      replace hm : Mem w [] wr [(g2, u32s (List.replicate 16 0), 42), (g1, u32s (qrounds ws (80)), 42)] := hm
      go_wp2_with (first
        | ((with_reducible refine at_op (some 51) (.load 42 (.tmp 1)) ?_); refine wpl_ldw 1 hm rfl rfl _ un_w16 rfl 16 sz_w16 (HLN.out) ?_)
        | ((with_reducible refine at_op none (.store 42 (.tmp 2) (.tmp 51)) ?_); refine wpl_stw 0 (u32s (qrounds ws 80)) hm rfl rfl rfl 16 sz_w16 (by simp [u32s_length]) (HLN.out) (u32s_one _) ?_; clear hm; intro w8 hm))
      exact ret_cell 0 hm rfl Tryd.results19 rfl _ un_w16 rfl 16 sz_w16 HLN.out rfl ⟨rfl, hm.below⟩
end Go.Proofs.YtalhobmnbikbfaaDoor
