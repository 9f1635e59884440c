/- The document's Wrap and Unwrap. -/
import Derived.Test.YtbfccepddfinoaaDoorSealRefB
namespace Go.Proofs.YtbfccepddfinoaaDoor
open Go Go.RowKit
set_option maxHeartbeats 4000000 in
set_option maxRecDepth 100000 in
theorem wrapRef_any (ks ms : List Int) (p n : Int) (hkl : ks.length = 32) (hml : ms.length = 32) (hkb : Bytes ks) (hmb : Bytes ms) (hp : 0 ≤ p ∧ p < 4294967296) (w : World) :
    Calls Tryd.prog 21 #[.agg (u8s ks).toArray, .int .u32 p, .int .u64 n, .agg (u8s ms).toArray] w fun e w' => e = .returned (.agg (u8s (sealOf ks (nonceOf p n) labWrap ms)).toArray) ∧ Below w.heap.size w w' := by
  have hm := Mem.start w
  have HKL : Hid _ := hkl
  have HKB : Hid _ := hkb
  have HP : Hid (0 ≤ p ∧ p < 4294967296) := hp
  have HKU : Hid ((u8s ks).length = 32) := by show _ = _; rw [u8s_length]; exact hkl
  obtain ⟨ns, hns⟩ : ∃ ns, ns = nonceOf p n := ⟨_, rfl⟩
  have HNN : Hid (∀ _ : Unit, nonceOf p n = ns) := fun _ => hns.symm
  have HNL : Hid (ns.length = 12) := by show _ = _; rw [hns, nonceOf_length]
  have HNB : Hid (Bytes ns) := by rw [hns]; exact nonceOf_bytes _ _
  have HML : Hid _ := hml
  have HMB : Hid _ := hmb
  obtain ⟨X, hX⟩ : ∃ X, X = sealOf ks ns labWrap ms := ⟨_, rfl⟩
  have HSS : Hid (∀ _ : Unit, sealOf ks ns labWrap ms = X) := fun _ => hX.symm
  have HXX : Hid (∀ _ : Unit, sealOf ks (nonceOf p n) labWrap ms = X) := fun _ => by rw [hX, hns]
  have HXL : Hid (X.length = 48) := by show _ = _; rw [hX, sealOf_length, hml]
  have HXU : Hid ((u8s X).length = 48) := by show _ = _; rw [u8s_length]; exact HXL.out
  have hty : ∀ (a b c : Nat), ∀ r ∈ [(a, u8s (List.replicate 48 0), (27 : TypeId)), (b, u8s ms, (23 : TypeId)), (c, u8s ks, (23 : TypeId))], r.2.2 ≠ 5 := by
    intro a b c r hr
    simp only [List.mem_cons, List.not_mem_nil, or_false] at hr
    rcases hr with rfl | rfl | rfl <;> simp
  have HTY : Hid _ := hty
  clear hty
  clear hkl hml hkb hmb hp hns hX
  go_enter Tryd.func21, Tryd.ntmps21
  go_wp2_with (first
    | ((with_reducible refine at_op (some 4) (.box 23 (.tmp 0)) ?_); refine wpl_box (u8s ks) rfl hm ?_; clear hm; intro w1 g4 hm)
    | ((with_reducible refine at_op (some 7) (.box 23 (.tmp 3)) ?_); refine wpl_box (u8s ms) rfl hm ?_; clear hm; intro w2 g7 hm)
    | ((with_reducible refine at_op (some 8) (.alloc 27) ?_); refine wpl_alloc _ zero_b48 hm ?_; clear hm; intro w3 g8 hm))
  refine wp_ends0 ?_
  refine anyH_start (T := fun W => Mem w [] W [(g8, u8s (List.replicate 48 0), 27), (g7, u8s ms, 23), (g4, u8s ks, 23)]) (by kernel_rfl) hm ?_
  clear hm
  intro w4 hm
  refine anyH_takeG 0 (v := .agg (u8s ks).toArray) rfl (by kernel_rfl) (by kernel_rfl) (by kernel_rfl) rfl (fun W hW => exec_ldsG 0 _ (Mem.get hW 2 rfl) rfl _ un_key rfl 32 sz_key (by rw [HKU.out]; omega) (by rw [List.drop_zero, List.take_of_length_le (Nat.le_of_eq HKU.out)])) hm ?_
  go_simp
  refine anyH_takeG 1 (v := .int .u32 p) rfl (by kernel_rfl) (by kernel_rfl) (by kernel_rfl) rfl (fun W _ => by go_simp) hm ?_
  go_simp
  refine anyH_takeG 2 (v := .int .u64 n) rfl (by kernel_rfl) (by kernel_rfl) (by kernel_rfl) rfl (fun W _ => by go_simp) hm ?_
  go_simp
  refine anyH_takeG 6 (v := .slice (some ⟨g7, 0, none⟩) 32 32) rfl (by kernel_rfl) (by kernel_rfl) (by kernel_rfl) rfl (fun W _ => by go_simp) hm ?_
  go_simp
  refine wpAnyH_all (rs := [3, 4]) (by kernel_rfl) (by simp) ?_
  intro i hi
  simp only [List.mem_cons, List.not_mem_nil, or_false] at hi
  rcases hi with rfl | rfl
  · refine anyH_op 3 rfl rfl ?_
    intro K hK
    go_wp2_with (go_at_call 15; refine (nonceRef_any p n HP.out _).mono ?_; rintro e wn ⟨he, hb⟩; rw [HNN.out ()] at he; subst he; replace hm := hm.call hb; clear hb)
    refine hK _ _ hm ?_
    clear hK K
    refine wpAnyH_all (rs := [4]) (by kernel_rfl) (by simp) ?_
    intro i hi
    simp only [List.mem_cons, List.not_mem_nil, or_false] at hi
    subst hi
    refine anyH_op 4 rfl rfl ?_
    intro K hK
    refine wpl_litW un_bs info_u8 hm ?_
    clear hm
    intro wl gl hm hb
    clear hb
    refine wpList_nil ?_
    refine hK _ _ hm.tail ?_
    clear hK K
    refine wpAnyH_all (rs := [5]) (by kernel_rfl) (by simp) ?_
    intro i hi
    simp only [List.mem_cons, List.not_mem_nil, or_false] at hi
    subst hi
    refine anyH_op 5 rfl rfl ?_
    intro K hK
    refine wpl_cvl labWrap rfl un_bs un_u8 rfl rfl hm ?_
    clear hm
    intro wv hm hs
    have HW : Hid (SlOld wv (.slice (some ⟨gl, 0, none⟩) 4 4) labWrap) := hs
    clear hs
    refine wpList_nil ?_
    refine hK _ _ hm ?_
    clear hK K
    refine wpAnyH_all (rs := [7]) (by kernel_rfl) (by simp) ?_
    intro i hi
    simp only [List.mem_cons, List.not_mem_nil, or_false] at hi
    subst hi
    refine anyH_op 7 rfl rfl ?_
    intro K hK
    go_wp2_with (go_at_call 19; refine (sealRef_any ks ns labWrap ms _ _ HKL.out HNL.out HKB.out HNB.out labWrap_bytes HMB.out (by decide) (by rw [HML.out]; omega) _ HW.out (old_all (hm.get 1 rfl) HML.out (Nat.le_refl _))).mono ?_; rintro e wx ⟨v9, he, ho, hb⟩; subst he; rw [HSS.out ()] at ho; have hmT := hm.call hb; obtain ⟨gs, cap, l, hv, hc, hm2⟩ := Mem.adoptO hmT (OwnB.mono ho hm.size) (HTY.out _ _ _) (by rw [HXL.out]; omega); rw [HXL.out] at hv hc; subst hv; clear ho hb hm)
    refine hK _ _ hmT ?_
    clear hK K
    refine anyH_takeG 8 (v := .slice (some ⟨gs, 0, none⟩) 48 cap) rfl (by kernel_rfl) (by kernel_rfl) (by kernel_rfl) rfl (fun W _ => by go_simp) hmT ?_
    go_simp
    refine wpAnyH_done (by kernel_rfl) ?_ _
    simp only [endsIn]
    clear hmT
    have hm := hm2
    clear hm2
    go_wp2_with (first
      | ((with_reducible refine at_op (some 10) (.alloc 27) ?_); refine wpl_alloc _ zero_b48 hm ?_; clear hm; intro w5 g10 hm))
    go_loopw [11] (fun vi wr => ∃ i : Nat, i ≤ 48 ∧ vi = .int .i64 i ∧ Mem w [] wr ((g10, u8s (cpTo 48 X i), 27) :: [(gs, u8s X ++ l, 5), (g8, u8s (List.replicate 48 0), 27), (g7, u8s ms, 23), (g4, u8s ks, 23)])) (fun vi _ => 48 - (intOf vi).toNat)
    case atStart => exact ⟨0, by omega, rfl, by rw [cpTo_zero]; exact hm⟩
    case round =>
      clear hm
      obtain ⟨i, hi, rfl, hm⟩ := hrel
      by_cases hlt : i < 48
      · have hii : (i : Int) < 48 := by omega
        obtain ⟨x, hx⟩ : ∃ x, x = X.getD i 0 := ⟨_, rfl⟩
        have HVX : Hid ((u8s X ++ l)[i]? = some (.int .u8 x)) := by show _ = _; rw [List.getElem?_append_left (by rw [HXU.out]; omega), u8s_get _ _ (by rw [HXL.out]; omega), hx]
        have HST : Hid ((u8s (cpTo 48 X i)).set i (.int .u8 x) = u8s (cpTo 48 X (i + 1))) := by show _ = _; rw [u8s_set, hx, cpTo_set 48 X HXL.out i hlt]
        have HLN : Hid (i < (u8s (cpTo 48 X i)).length) := by show _ < _; rw [u8s_length, cpTo_length 48 X HXL.out i hi]; exact hlt
        clear hx
        go_wp2_with (first
          | ((with_reducible refine at_op (some 28) (.load 5 (.tmp 27)) ?_); refine wpl_ldc 1 i (.int .u8 x) hm rfl rfl ag_u8 (HVX.out) ?_)
          | ((with_reducible refine at_op none (.store 5 (.tmp 29) (.tmp 28)) ?_); go_must (refine wpl_stc 0 i (.int .u8 x) hm rfl rfl (rfl) sz_u8 (HLN.out) rfl rfl ?_); clear hm; intro wq hm))
        rw [List.set_cons_zero, HST.out] at hm
        go_roundw
        case rel => exact ⟨i + 1, by omega, by go_num, hm⟩
        case measure => simp [intOf]; omega
      · have hin : i = 48 := by omega
        subst hin
        rw [cpTo_full 48 X HXL.out] at hm
        go_wp2_with (first
          | ((with_reducible refine at_op (some 30) (.load 27 (.tmp 10)) ?_); refine wpl_ldw 0 hm rfl rfl _ un_b48 rfl 48 sz_b48 (HXU.out) ?_)
          | ((with_reducible refine at_op none (.store 27 (.tmp 8) (.tmp 30)) ?_); refine wpl_stw 2 (u8s X) hm rfl rfl rfl 48 sz_b48 (by simp [u8s_length]) (HXU.out) (u8s_one _) ?_; clear hm; intro wr2 hm))
        exact ret_cell 2 hm rfl Tryd.results21 rfl _ un_b48 rfl 48 sz_b48 HXU.out rfl ⟨by rw [HXX.out ()], hm.below⟩
  · refine anyH_op 4 rfl rfl ?_
    intro K hK
    refine wpl_litW un_bs info_u8 hm ?_
    clear hm
    intro wl gl hm hb
    clear hb
    refine wpList_nil ?_
    refine hK _ _ hm.tail ?_
    clear hK K
    refine wpAnyH_all (rs := [3, 5]) (by kernel_rfl) (by simp) ?_
    intro i hi
    simp only [List.mem_cons, List.not_mem_nil, or_false] at hi
    rcases hi with rfl | rfl
    · refine anyH_op 3 rfl rfl ?_
      intro K hK
      go_wp2_with (go_at_call 15; refine (nonceRef_any p n HP.out _).mono ?_; rintro e wn ⟨he, hb⟩; rw [HNN.out ()] at he; subst he; replace hm := hm.call hb; clear hb)
      refine hK _ _ hm.tail ?_
      clear hK K
      refine wpAnyH_all (rs := [5]) (by kernel_rfl) (by simp) ?_
      intro i hi
      simp only [List.mem_cons, List.not_mem_nil, or_false] at hi
      subst hi
      refine anyH_op 5 rfl rfl ?_
      intro K hK
      refine wpl_cvl labWrap rfl un_bs un_u8 rfl rfl hm ?_
      clear hm
      intro wv hm hs
      have HW : Hid (SlOld wv (.slice (some ⟨gl, 0, none⟩) 4 4) labWrap) := hs
      clear hs
      refine wpList_nil ?_
      refine hK _ _ hm ?_
      clear hK K
      refine wpAnyH_all (rs := [7]) (by kernel_rfl) (by simp) ?_
      intro i hi
      simp only [List.mem_cons, List.not_mem_nil, or_false] at hi
      subst hi
      refine anyH_op 7 rfl rfl ?_
      intro K hK
      go_wp2_with (go_at_call 19; refine (sealRef_any ks ns labWrap ms _ _ HKL.out HNL.out HKB.out HNB.out labWrap_bytes HMB.out (by decide) (by rw [HML.out]; omega) _ HW.out (old_all (hm.get 1 rfl) HML.out (Nat.le_refl _))).mono ?_; rintro e wx ⟨v9, he, ho, hb⟩; subst he; rw [HSS.out ()] at ho; have hmT := hm.call hb; obtain ⟨gs, cap, l, hv, hc, hm2⟩ := Mem.adoptO hmT (OwnB.mono ho hm.size) (HTY.out _ _ _) (by rw [HXL.out]; omega); rw [HXL.out] at hv hc; subst hv; clear ho hb hm)
      refine hK _ _ hmT ?_
      clear hK K
      refine anyH_takeG 8 (v := .slice (some ⟨gs, 0, none⟩) 48 cap) rfl (by kernel_rfl) (by kernel_rfl) (by kernel_rfl) rfl (fun W _ => by go_simp) hmT ?_
      go_simp
      refine wpAnyH_done (by kernel_rfl) ?_ _
      simp only [endsIn]
      clear hmT
      have hm := hm2
      clear hm2
      go_wp2_with (first
        | ((with_reducible refine at_op (some 10) (.alloc 27) ?_); refine wpl_alloc _ zero_b48 hm ?_; clear hm; intro w5 g10 hm))
      go_loopw [11] (fun vi wr => ∃ i : Nat, i ≤ 48 ∧ vi = .int .i64 i ∧ Mem w [] wr ((g10, u8s (cpTo 48 X i), 27) :: [(gs, u8s X ++ l, 5), (g8, u8s (List.replicate 48 0), 27), (g7, u8s ms, 23), (g4, u8s ks, 23)])) (fun vi _ => 48 - (intOf vi).toNat)
      case atStart => exact ⟨0, by omega, rfl, by rw [cpTo_zero]; exact hm⟩
      case round =>
        clear hm
        obtain ⟨i, hi, rfl, hm⟩ := hrel
        by_cases hlt : i < 48
        · have hii : (i : Int) < 48 := by omega
          obtain ⟨x, hx⟩ : ∃ x, x = X.getD i 0 := ⟨_, rfl⟩
          have HVX : Hid ((u8s X ++ l)[i]? = some (.int .u8 x)) := by show _ = _; rw [List.getElem?_append_left (by rw [HXU.out]; omega), u8s_get _ _ (by rw [HXL.out]; omega), hx]
          have HST : Hid ((u8s (cpTo 48 X i)).set i (.int .u8 x) = u8s (cpTo 48 X (i + 1))) := by show _ = _; rw [u8s_set, hx, cpTo_set 48 X HXL.out i hlt]
          have HLN : Hid (i < (u8s (cpTo 48 X i)).length) := by show _ < _; rw [u8s_length, cpTo_length 48 X HXL.out i hi]; exact hlt
          clear hx
          go_wp2_with (first
            | ((with_reducible refine at_op (some 28) (.load 5 (.tmp 27)) ?_); refine wpl_ldc 1 i (.int .u8 x) hm rfl rfl ag_u8 (HVX.out) ?_)
            | ((with_reducible refine at_op none (.store 5 (.tmp 29) (.tmp 28)) ?_); go_must (refine wpl_stc 0 i (.int .u8 x) hm rfl rfl (rfl) sz_u8 (HLN.out) rfl rfl ?_); clear hm; intro wq hm))
          rw [List.set_cons_zero, HST.out] at hm
          go_roundw
          case rel => exact ⟨i + 1, by omega, by go_num, hm⟩
          case measure => simp [intOf]; omega
        · have hin : i = 48 := by omega
          subst hin
          rw [cpTo_full 48 X HXL.out] at hm
          go_wp2_with (first
            | ((with_reducible refine at_op (some 30) (.load 27 (.tmp 10)) ?_); refine wpl_ldw 0 hm rfl rfl _ un_b48 rfl 48 sz_b48 (HXU.out) ?_)
            | ((with_reducible refine at_op none (.store 27 (.tmp 8) (.tmp 30)) ?_); refine wpl_stw 2 (u8s X) hm rfl rfl rfl 48 sz_b48 (by simp [u8s_length]) (HXU.out) (u8s_one _) ?_; clear hm; intro wr2 hm))
          exact ret_cell 2 hm rfl Tryd.results21 rfl _ un_b48 rfl 48 sz_b48 HXU.out rfl ⟨by rw [HXX.out ()], hm.below⟩
    · refine anyH_op 5 rfl rfl ?_
      intro K hK
      refine wpl_cvl labWrap rfl un_bs un_u8 rfl rfl hm ?_
      clear hm
      intro wv hm hs
      have HW : Hid (SlOld wv (.slice (some ⟨gl, 0, none⟩) 4 4) labWrap) := hs
      clear hs
      refine wpList_nil ?_
      refine hK _ _ hm ?_
      clear hK K
      refine wpAnyH_all (rs := [3]) (by kernel_rfl) (by simp) ?_
      intro i hi
      simp only [List.mem_cons, List.not_mem_nil, or_false] at hi
      subst hi
      refine anyH_op 3 rfl rfl ?_
      intro K hK
      go_wp2_with (go_at_call 15; refine (nonceRef_any p n HP.out _).mono ?_; rintro e wn ⟨he, hb⟩; rw [HNN.out ()] at he; subst he; have HW' : Hid (SlOld wn (.slice (some ⟨gl, 0, none⟩) 4 4) labWrap) := SlOld.below HW.out hb; clear HW; have HW := HW'; replace hm := hm.call hb; clear hb)
      refine hK _ _ hm ?_
      clear hK K
      refine wpAnyH_all (rs := [7]) (by kernel_rfl) (by simp) ?_
      intro i hi
      simp only [List.mem_cons, List.not_mem_nil, or_false] at hi
      subst hi
      refine anyH_op 7 rfl rfl ?_
      intro K hK
      go_wp2_with (go_at_call 19; refine (sealRef_any ks ns labWrap ms _ _ HKL.out HNL.out HKB.out HNB.out labWrap_bytes HMB.out (by decide) (by rw [HML.out]; omega) _ HW.out (old_all (hm.get 1 rfl) HML.out (Nat.le_refl _))).mono ?_; rintro e wx ⟨v9, he, ho, hb⟩; subst he; rw [HSS.out ()] at ho; have hmT := hm.call hb; obtain ⟨gs, cap, l, hv, hc, hm2⟩ := Mem.adoptO hmT (OwnB.mono ho hm.size) (HTY.out _ _ _) (by rw [HXL.out]; omega); rw [HXL.out] at hv hc; subst hv; clear ho hb hm)
      refine hK _ _ hmT ?_
      clear hK K
      refine anyH_takeG 8 (v := .slice (some ⟨gs, 0, none⟩) 48 cap) rfl (by kernel_rfl) (by kernel_rfl) (by kernel_rfl) rfl (fun W _ => by go_simp) hmT ?_
      go_simp
      refine wpAnyH_done (by kernel_rfl) ?_ _
      simp only [endsIn]
      clear hmT
      have hm := hm2
      clear hm2
      go_wp2_with (first
        | ((with_reducible refine at_op (some 10) (.alloc 27) ?_); refine wpl_alloc _ zero_b48 hm ?_; clear hm; intro w5 g10 hm))
      go_loopw [11] (fun vi wr => ∃ i : Nat, i ≤ 48 ∧ vi = .int .i64 i ∧ Mem w [] wr ((g10, u8s (cpTo 48 X i), 27) :: [(gs, u8s X ++ l, 5), (g8, u8s (List.replicate 48 0), 27), (g7, u8s ms, 23), (g4, u8s ks, 23)])) (fun vi _ => 48 - (intOf vi).toNat)
      case atStart => exact ⟨0, by omega, rfl, by rw [cpTo_zero]; exact hm⟩
      case round =>
        clear hm
        obtain ⟨i, hi, rfl, hm⟩ := hrel
        by_cases hlt : i < 48
        · have hii : (i : Int) < 48 := by omega
          obtain ⟨x, hx⟩ : ∃ x, x = X.getD i 0 := ⟨_, rfl⟩
          have HVX : Hid ((u8s X ++ l)[i]? = some (.int .u8 x)) := by show _ = _; rw [List.getElem?_append_left (by rw [HXU.out]; omega), u8s_get _ _ (by rw [HXL.out]; omega), hx]
          have HST : Hid ((u8s (cpTo 48 X i)).set i (.int .u8 x) = u8s (cpTo 48 X (i + 1))) := by show _ = _; rw [u8s_set, hx, cpTo_set 48 X HXL.out i hlt]
          have HLN : Hid (i < (u8s (cpTo 48 X i)).length) := by show _ < _; rw [u8s_length, cpTo_length 48 X HXL.out i hi]; exact hlt
          clear hx
          go_wp2_with (first
            | ((with_reducible refine at_op (some 28) (.load 5 (.tmp 27)) ?_); refine wpl_ldc 1 i (.int .u8 x) hm rfl rfl ag_u8 (HVX.out) ?_)
            | ((with_reducible refine at_op none (.store 5 (.tmp 29) (.tmp 28)) ?_); go_must (refine wpl_stc 0 i (.int .u8 x) hm rfl rfl (rfl) sz_u8 (HLN.out) rfl rfl ?_); clear hm; intro wq hm))
          rw [List.set_cons_zero, HST.out] at hm
          go_roundw
          case rel => exact ⟨i + 1, by omega, by go_num, hm⟩
          case measure => simp [intOf]; omega
        · have hin : i = 48 := by omega
          subst hin
          rw [cpTo_full 48 X HXL.out] at hm
          go_wp2_with (first
            | ((with_reducible refine at_op (some 30) (.load 27 (.tmp 10)) ?_); refine wpl_ldw 0 hm rfl rfl _ un_b48 rfl 48 sz_b48 (HXU.out) ?_)
            | ((with_reducible refine at_op none (.store 27 (.tmp 8) (.tmp 30)) ?_); refine wpl_stw 2 (u8s X) hm rfl rfl rfl 48 sz_b48 (by simp [u8s_length]) (HXU.out) (u8s_one _) ?_; clear hm; intro wr2 hm))
          exact ret_cell 2 hm rfl Tryd.results21 rfl _ un_b48 rfl 48 sz_b48 HXU.out rfl ⟨by rw [HXX.out ()], hm.below⟩
set_option maxHeartbeats 4000000 in
set_option maxRecDepth 100000 in
theorem unwrapRef_good (ks xs Z : List Int) (p n : Int) (hkl : ks.length = 32) (hxl : xs.length = 48) (hkb : Bytes ks) (hxb : Bytes xs) (hp : 0 ≤ p ∧ p < 4294967296) (hf : xs.drop 32 = tagOf ks (nonceOf p n) labWrap (xs.take 32)) (hz : Z = encOf ks (nonceOf p n) (xs.take 32)) (w : World) :
    Calls Tryd.prog 14 #[.agg (u8s ks).toArray, .int .u32 p, .int .u64 n, .agg (u8s xs).toArray] w fun e w' => e = .returned (.tuple #[.agg (u8s Z).toArray, .bool true]) ∧ Below w.heap.size w w' := by
  have hm := Mem.start w
  have HKL : Hid _ := hkl
  have HKB : Hid _ := hkb
  have HP : Hid (0 ≤ p ∧ p < 4294967296) := hp
  have HKU : Hid ((u8s ks).length = 32) := by show _ = _; rw [u8s_length]; exact hkl
  obtain ⟨ns, hns⟩ : ∃ ns, ns = nonceOf p n := ⟨_, rfl⟩
  have HNN : Hid (∀ _ : Unit, nonceOf p n = ns) := fun _ => hns.symm
  have HNL : Hid (ns.length = 12) := by show _ = _; rw [hns, nonceOf_length]
  have HNB : Hid (Bytes ns) := by rw [hns]; exact nonceOf_bytes _ _
  have HXL : Hid (xs.length = 48) := hxl
  have HXB : Hid _ := hxb
  rw [← hns] at hf hz
  have HF : Hid (∀ _ : Unit, _) := fun _ => hf
  have HZZ : Hid (∀ _ : Unit, encOf ks ns (xs.take 32) = Z) := fun _ => hz.symm
  have HZL : Hid (Z.length = 32) := by show _ = _; rw [hz, encOf_length, List.length_take, hxl]; rfl
  have HZU : Hid ((u8s Z).length = 32) := by show _ = _; rw [u8s_length]; exact HZL.out
  have hty : ∀ (a b c : Nat), ∀ r ∈ [(a, u8s (List.replicate 32 0), (23 : TypeId)), (b, u8s xs, (27 : TypeId)), (c, u8s ks, (23 : TypeId))], r.2.2 ≠ 5 := by
    intro a b c r hr
    simp only [List.mem_cons, List.not_mem_nil, or_false] at hr
    rcases hr with rfl | rfl | rfl <;> simp
  have HTY : Hid _ := hty
  clear hty
  clear hkl hxl hkb hxb hp hns hf hz
  go_enter Tryd.func14, Tryd.ntmps14
  go_wp2_with (first
    | ((with_reducible refine at_op (some 4) (.box 23 (.tmp 0)) ?_); refine wpl_box (u8s ks) rfl hm ?_; clear hm; intro w1 g4 hm)
    | ((with_reducible refine at_op (some 7) (.box 27 (.tmp 3)) ?_); refine wpl_box (u8s xs) rfl hm ?_; clear hm; intro w2 g7 hm)
    | ((with_reducible refine at_op (some 8) (.alloc 23) ?_); refine wpl_alloc _ zero_key hm ?_; clear hm; intro w3 g8 hm))
  refine wp_ends0 ?_
  refine anyH_start (T := fun W => Mem w [] W [(g8, u8s (List.replicate 32 0), 23), (g7, u8s xs, 27), (g4, u8s ks, 23)]) (by kernel_rfl) hm ?_
  clear hm
  intro w4 hm
  refine anyH_takeG 0 (v := .agg (u8s ks).toArray) rfl (by kernel_rfl) (by kernel_rfl) (by kernel_rfl) rfl (fun W hW => exec_ldsG 0 _ (Mem.get hW 2 rfl) rfl _ un_key rfl 32 sz_key (by rw [HKU.out]; omega) (by rw [List.drop_zero, List.take_of_length_le (Nat.le_of_eq HKU.out)])) hm ?_
  go_simp
  refine anyH_takeG 1 (v := .int .u32 p) rfl (by kernel_rfl) (by kernel_rfl) (by kernel_rfl) rfl (fun W _ => by go_simp) hm ?_
  go_simp
  refine anyH_takeG 2 (v := .int .u64 n) rfl (by kernel_rfl) (by kernel_rfl) (by kernel_rfl) rfl (fun W _ => by go_simp) hm ?_
  go_simp
  refine anyH_takeG 6 (v := .slice (some ⟨g7, 0, none⟩) 48 48) rfl (by kernel_rfl) (by kernel_rfl) (by kernel_rfl) rfl (fun W _ => by go_simp) hm ?_
  go_simp
  refine wpAnyH_all (rs := [3, 4]) (by kernel_rfl) (by simp) ?_
  intro i hi
  simp only [List.mem_cons, List.not_mem_nil, or_false] at hi
  rcases hi with rfl | rfl
  · refine anyH_op 3 rfl rfl ?_
    intro K hK
    go_wp2_with (go_at_call 15; refine (nonceRef_any p n HP.out _).mono ?_; rintro e wn ⟨he, hb⟩; rw [HNN.out ()] at he; subst he; replace hm := hm.call hb; clear hb)
    refine hK _ _ hm ?_
    clear hK K
    refine wpAnyH_all (rs := [4]) (by kernel_rfl) (by simp) ?_
    intro i hi
    simp only [List.mem_cons, List.not_mem_nil, or_false] at hi
    subst hi
    refine anyH_op 4 rfl rfl ?_
    intro K hK
    refine wpl_litW un_bs info_u8 hm ?_
    clear hm
    intro wl gl hm hb
    clear hb
    refine wpList_nil ?_
    refine hK _ _ hm.tail ?_
    clear hK K
    refine wpAnyH_all (rs := [5]) (by kernel_rfl) (by simp) ?_
    intro i hi
    simp only [List.mem_cons, List.not_mem_nil, or_false] at hi
    subst hi
    refine anyH_op 5 rfl rfl ?_
    intro K hK
    refine wpl_cvl labWrap rfl un_bs un_u8 rfl rfl hm ?_
    clear hm
    intro wv hm hs
    have HW : Hid (SlOld wv (.slice (some ⟨gl, 0, none⟩) 4 4) labWrap) := hs
    clear hs
    refine wpList_nil ?_
    refine hK _ _ hm ?_
    clear hK K
    refine wpAnyH_all (rs := [7]) (by kernel_rfl) (by simp) ?_
    intro i hi
    simp only [List.mem_cons, List.not_mem_nil, or_false] at hi
    subst hi
    refine anyH_op 7 rfl rfl ?_
    intro K hK
    go_wp2_with (go_at_call 12; refine (openRef_good ks ns labWrap xs _ _ 0 48 32 HXL.out (by omega) (HF.out ()) HKL.out HNL.out HKB.out HNB.out labWrap_bytes HXB.out (by decide) (by rw [HXL.out]; omega) _ HW.out (Seg.row (hm.get 1 rfl))).mono ?_; rintro e wx ⟨v9, he, ho, hb⟩; rw [HZZ.out ()] at ho; have hmT := hm.call hb; obtain ⟨gz, cap, l, hv, hc, hm2⟩ := Mem.adoptO hmT (OwnB.mono ho hm.size) (HTY.out _ _ _) (by rw [HZL.out]; omega); rw [HZL.out] at hv hc; subst hv; subst he; clear ho hb hm)
    refine hK _ _ hmT ?_
    clear hK K
    refine anyH_takeG 8 (v := .tuple #[.slice (some ⟨gz, 0, none⟩) 32 cap, .int .i64 0]) rfl (by kernel_rfl) (by kernel_rfl) (by kernel_rfl) rfl (fun W _ => by go_simp) hmT ?_
    go_simp
    refine anyH_takeG 9 (v := .slice (some ⟨gz, 0, none⟩) 32 cap) rfl (by kernel_rfl) (by kernel_rfl) (by kernel_rfl) rfl (fun W _ => by go_simp) hmT ?_
    go_simp
    refine anyH_takeG 10 (v := .int .i64 0) rfl (by kernel_rfl) (by kernel_rfl) (by kernel_rfl) rfl (fun W _ => by go_simp) hmT ?_
    go_simp
    refine anyH_takeG 11 (v := .slice (some ⟨gz, 0, none⟩) 32 cap) rfl (by kernel_rfl) (by kernel_rfl) (by kernel_rfl) rfl (fun W _ => by go_simp) hmT ?_
    go_simp
    refine anyH_takeG 12 (v := .int .i64 0) rfl (by kernel_rfl) (by kernel_rfl) (by kernel_rfl) rfl (fun W _ => by go_simp) hmT ?_
    go_simp
    refine wpAnyH_done (by kernel_rfl) ?_ _
    simp only [endsIn]
    clear hmT
    have hm := hm2
    clear hm2
    go_wp2_with (first
      | ((with_reducible refine at_op (some 12) (.alloc 23) ?_); refine wpl_alloc _ zero_key hm ?_; clear hm; intro w5 g12 hm))
    go_loopw [13] (fun vi wr => ∃ i : Nat, i ≤ 32 ∧ vi = .int .i64 i ∧ Mem w [] wr ((g12, u8s (cpTo 32 Z i), 23) :: [(gz, u8s Z ++ l, 5), (g8, u8s (List.replicate 32 0), 23), (g7, u8s xs, 27), (g4, u8s ks, 23)])) (fun vi _ => 32 - (intOf vi).toNat)
    case atStart => exact ⟨0, by omega, rfl, by rw [cpTo_zero]; exact hm⟩
    case round =>
      clear hm
      obtain ⟨i, hi, rfl, hm⟩ := hrel
      by_cases hlt : i < 32
      · have hii : (i : Int) < 32 := by omega
        obtain ⟨x, hx⟩ : ∃ x, x = Z.getD i 0 := ⟨_, rfl⟩
        have HVX : Hid ((u8s Z ++ l)[i]? = some (.int .u8 x)) := by show _ = _; rw [List.getElem?_append_left (by rw [HZU.out]; omega), u8s_get _ _ (by rw [HZL.out]; omega), hx]
        have HST : Hid ((u8s (cpTo 32 Z i)).set i (.int .u8 x) = u8s (cpTo 32 Z (i + 1))) := by show _ = _; rw [u8s_set, hx, cpTo_set 32 Z HZL.out i hlt]
        have HLN : Hid (i < (u8s (cpTo 32 Z i)).length) := by show _ < _; rw [u8s_length, cpTo_length 32 Z HZL.out i hi]; exact hlt
        clear hx
        go_wp2_with (first
          | ((with_reducible refine at_op (some 37) (.load 5 (.tmp 36)) ?_); refine wpl_ldc 1 i (.int .u8 x) hm rfl rfl ag_u8 (HVX.out) ?_)
          | ((with_reducible refine at_op none (.store 5 (.tmp 38) (.tmp 37)) ?_); go_must (refine wpl_stc 0 i (.int .u8 x) hm rfl rfl (rfl) sz_u8 (HLN.out) rfl rfl ?_); clear hm; intro wq hm))
        rw [List.set_cons_zero, HST.out] at hm
        go_roundw
        case rel => exact ⟨i + 1, by omega, by go_num, hm⟩
        case measure => simp [intOf]; omega
      · have hin : i = 32 := by omega
        subst hin
        rw [cpTo_full 32 Z HZL.out] at hm
        go_wp2_with (first
          | ((with_reducible refine at_op (some 39) (.load 23 (.tmp 12)) ?_); refine wpl_ldw 0 hm rfl rfl _ un_key rfl 32 sz_key (HZU.out) ?_)
          | ((with_reducible refine at_op none (.store 23 (.tmp 8) (.tmp 39)) ?_); refine wpl_stw 2 (u8s Z) hm rfl rfl rfl 32 sz_key (by simp [u8s_length]) (HZU.out) (u8s_one _) ?_; clear hm; intro wr2 hm))
        exact ret_ct 2 _ hm rfl Tryd.results14 rfl rfl _ un_key rfl 32 sz_key HZU.out rfl ⟨rfl, hm.below⟩
  · refine anyH_op 4 rfl rfl ?_
    intro K hK
    refine wpl_litW un_bs info_u8 hm ?_
    clear hm
    intro wl gl hm hb
    clear hb
    refine wpList_nil ?_
    refine hK _ _ hm.tail ?_
    clear hK K
    refine wpAnyH_all (rs := [3, 5]) (by kernel_rfl) (by simp) ?_
    intro i hi
    simp only [List.mem_cons, List.not_mem_nil, or_false] at hi
    rcases hi with rfl | rfl
    · refine anyH_op 3 rfl rfl ?_
      intro K hK
      go_wp2_with (go_at_call 15; refine (nonceRef_any p n HP.out _).mono ?_; rintro e wn ⟨he, hb⟩; rw [HNN.out ()] at he; subst he; replace hm := hm.call hb; clear hb)
      refine hK _ _ hm.tail ?_
      clear hK K
      refine wpAnyH_all (rs := [5]) (by kernel_rfl) (by simp) ?_
      intro i hi
      simp only [List.mem_cons, List.not_mem_nil, or_false] at hi
      subst hi
      refine anyH_op 5 rfl rfl ?_
      intro K hK
      refine wpl_cvl labWrap rfl un_bs un_u8 rfl rfl hm ?_
      clear hm
      intro wv hm hs
      have HW : Hid (SlOld wv (.slice (some ⟨gl, 0, none⟩) 4 4) labWrap) := hs
      clear hs
      refine wpList_nil ?_
      refine hK _ _ hm ?_
      clear hK K
      refine wpAnyH_all (rs := [7]) (by kernel_rfl) (by simp) ?_
      intro i hi
      simp only [List.mem_cons, List.not_mem_nil, or_false] at hi
      subst hi
      refine anyH_op 7 rfl rfl ?_
      intro K hK
      go_wp2_with (go_at_call 12; refine (openRef_good ks ns labWrap xs _ _ 0 48 32 HXL.out (by omega) (HF.out ()) HKL.out HNL.out HKB.out HNB.out labWrap_bytes HXB.out (by decide) (by rw [HXL.out]; omega) _ HW.out (Seg.row (hm.get 1 rfl))).mono ?_; rintro e wx ⟨v9, he, ho, hb⟩; rw [HZZ.out ()] at ho; have hmT := hm.call hb; obtain ⟨gz, cap, l, hv, hc, hm2⟩ := Mem.adoptO hmT (OwnB.mono ho hm.size) (HTY.out _ _ _) (by rw [HZL.out]; omega); rw [HZL.out] at hv hc; subst hv; subst he; clear ho hb hm)
      refine hK _ _ hmT ?_
      clear hK K
      refine anyH_takeG 8 (v := .tuple #[.slice (some ⟨gz, 0, none⟩) 32 cap, .int .i64 0]) rfl (by kernel_rfl) (by kernel_rfl) (by kernel_rfl) rfl (fun W _ => by go_simp) hmT ?_
      go_simp
      refine anyH_takeG 9 (v := .slice (some ⟨gz, 0, none⟩) 32 cap) rfl (by kernel_rfl) (by kernel_rfl) (by kernel_rfl) rfl (fun W _ => by go_simp) hmT ?_
      go_simp
      refine anyH_takeG 10 (v := .int .i64 0) rfl (by kernel_rfl) (by kernel_rfl) (by kernel_rfl) rfl (fun W _ => by go_simp) hmT ?_
      go_simp
      refine anyH_takeG 11 (v := .slice (some ⟨gz, 0, none⟩) 32 cap) rfl (by kernel_rfl) (by kernel_rfl) (by kernel_rfl) rfl (fun W _ => by go_simp) hmT ?_
      go_simp
      refine anyH_takeG 12 (v := .int .i64 0) rfl (by kernel_rfl) (by kernel_rfl) (by kernel_rfl) rfl (fun W _ => by go_simp) hmT ?_
      go_simp
      refine wpAnyH_done (by kernel_rfl) ?_ _
      simp only [endsIn]
      clear hmT
      have hm := hm2
      clear hm2
      go_wp2_with (first
        | ((with_reducible refine at_op (some 12) (.alloc 23) ?_); refine wpl_alloc _ zero_key hm ?_; clear hm; intro w5 g12 hm))
      go_loopw [13] (fun vi wr => ∃ i : Nat, i ≤ 32 ∧ vi = .int .i64 i ∧ Mem w [] wr ((g12, u8s (cpTo 32 Z i), 23) :: [(gz, u8s Z ++ l, 5), (g8, u8s (List.replicate 32 0), 23), (g7, u8s xs, 27), (g4, u8s ks, 23)])) (fun vi _ => 32 - (intOf vi).toNat)
      case atStart => exact ⟨0, by omega, rfl, by rw [cpTo_zero]; exact hm⟩
      case round =>
        clear hm
        obtain ⟨i, hi, rfl, hm⟩ := hrel
        by_cases hlt : i < 32
        · have hii : (i : Int) < 32 := by omega
          obtain ⟨x, hx⟩ : ∃ x, x = Z.getD i 0 := ⟨_, rfl⟩
          have HVX : Hid ((u8s Z ++ l)[i]? = some (.int .u8 x)) := by show _ = _; rw [List.getElem?_append_left (by rw [HZU.out]; omega), u8s_get _ _ (by rw [HZL.out]; omega), hx]
          have HST : Hid ((u8s (cpTo 32 Z i)).set i (.int .u8 x) = u8s (cpTo 32 Z (i + 1))) := by show _ = _; rw [u8s_set, hx, cpTo_set 32 Z HZL.out i hlt]
          have HLN : Hid (i < (u8s (cpTo 32 Z i)).length) := by show _ < _; rw [u8s_length, cpTo_length 32 Z HZL.out i hi]; exact hlt
          clear hx
          go_wp2_with (first
            | ((with_reducible refine at_op (some 37) (.load 5 (.tmp 36)) ?_); refine wpl_ldc 1 i (.int .u8 x) hm rfl rfl ag_u8 (HVX.out) ?_)
            | ((with_reducible refine at_op none (.store 5 (.tmp 38) (.tmp 37)) ?_); go_must (refine wpl_stc 0 i (.int .u8 x) hm rfl rfl (rfl) sz_u8 (HLN.out) rfl rfl ?_); clear hm; intro wq hm))
          rw [List.set_cons_zero, HST.out] at hm
          go_roundw
          case rel => exact ⟨i + 1, by omega, by go_num, hm⟩
          case measure => simp [intOf]; omega
        · have hin : i = 32 := by omega
          subst hin
          rw [cpTo_full 32 Z HZL.out] at hm
          go_wp2_with (first
            | ((with_reducible refine at_op (some 39) (.load 23 (.tmp 12)) ?_); refine wpl_ldw 0 hm rfl rfl _ un_key rfl 32 sz_key (HZU.out) ?_)
            | ((with_reducible refine at_op none (.store 23 (.tmp 8) (.tmp 39)) ?_); refine wpl_stw 2 (u8s Z) hm rfl rfl rfl 32 sz_key (by simp [u8s_length]) (HZU.out) (u8s_one _) ?_; clear hm; intro wr2 hm))
          exact ret_ct 2 _ hm rfl Tryd.results14 rfl rfl _ un_key rfl 32 sz_key HZU.out rfl ⟨rfl, hm.below⟩
    · refine anyH_op 5 rfl rfl ?_
      intro K hK
      refine wpl_cvl labWrap rfl un_bs un_u8 rfl rfl hm ?_
      clear hm
      intro wv hm hs
      have HW : Hid (SlOld wv (.slice (some ⟨gl, 0, none⟩) 4 4) labWrap) := hs
      clear hs
      refine wpList_nil ?_
      refine hK _ _ hm ?_
      clear hK K
      refine wpAnyH_all (rs := [3]) (by kernel_rfl) (by simp) ?_
      intro i hi
      simp only [List.mem_cons, List.not_mem_nil, or_false] at hi
      subst hi
      refine anyH_op 3 rfl rfl ?_
      intro K hK
      go_wp2_with (go_at_call 15; refine (nonceRef_any p n HP.out _).mono ?_; rintro e wn ⟨he, hb⟩; rw [HNN.out ()] at he; subst he; have HW' : Hid (SlOld wn (.slice (some ⟨gl, 0, none⟩) 4 4) labWrap) := SlOld.below HW.out hb; clear HW; have HW := HW'; replace hm := hm.call hb; clear hb)
      refine hK _ _ hm ?_
      clear hK K
      refine wpAnyH_all (rs := [7]) (by kernel_rfl) (by simp) ?_
      intro i hi
      simp only [List.mem_cons, List.not_mem_nil, or_false] at hi
      subst hi
      refine anyH_op 7 rfl rfl ?_
      intro K hK
      go_wp2_with (go_at_call 12; refine (openRef_good ks ns labWrap xs _ _ 0 48 32 HXL.out (by omega) (HF.out ()) HKL.out HNL.out HKB.out HNB.out labWrap_bytes HXB.out (by decide) (by rw [HXL.out]; omega) _ HW.out (Seg.row (hm.get 1 rfl))).mono ?_; rintro e wx ⟨v9, he, ho, hb⟩; rw [HZZ.out ()] at ho; have hmT := hm.call hb; obtain ⟨gz, cap, l, hv, hc, hm2⟩ := Mem.adoptO hmT (OwnB.mono ho hm.size) (HTY.out _ _ _) (by rw [HZL.out]; omega); rw [HZL.out] at hv hc; subst hv; subst he; clear ho hb hm)
      refine hK _ _ hmT ?_
      clear hK K
      refine anyH_takeG 8 (v := .tuple #[.slice (some ⟨gz, 0, none⟩) 32 cap, .int .i64 0]) rfl (by kernel_rfl) (by kernel_rfl) (by kernel_rfl) rfl (fun W _ => by go_simp) hmT ?_
      go_simp
      refine anyH_takeG 9 (v := .slice (some ⟨gz, 0, none⟩) 32 cap) rfl (by kernel_rfl) (by kernel_rfl) (by kernel_rfl) rfl (fun W _ => by go_simp) hmT ?_
      go_simp
      refine anyH_takeG 10 (v := .int .i64 0) rfl (by kernel_rfl) (by kernel_rfl) (by kernel_rfl) rfl (fun W _ => by go_simp) hmT ?_
      go_simp
      refine anyH_takeG 11 (v := .slice (some ⟨gz, 0, none⟩) 32 cap) rfl (by kernel_rfl) (by kernel_rfl) (by kernel_rfl) rfl (fun W _ => by go_simp) hmT ?_
      go_simp
      refine anyH_takeG 12 (v := .int .i64 0) rfl (by kernel_rfl) (by kernel_rfl) (by kernel_rfl) rfl (fun W _ => by go_simp) hmT ?_
      go_simp
      refine wpAnyH_done (by kernel_rfl) ?_ _
      simp only [endsIn]
      clear hmT
      have hm := hm2
      clear hm2
      go_wp2_with (first
        | ((with_reducible refine at_op (some 12) (.alloc 23) ?_); refine wpl_alloc _ zero_key hm ?_; clear hm; intro w5 g12 hm))
      go_loopw [13] (fun vi wr => ∃ i : Nat, i ≤ 32 ∧ vi = .int .i64 i ∧ Mem w [] wr ((g12, u8s (cpTo 32 Z i), 23) :: [(gz, u8s Z ++ l, 5), (g8, u8s (List.replicate 32 0), 23), (g7, u8s xs, 27), (g4, u8s ks, 23)])) (fun vi _ => 32 - (intOf vi).toNat)
      case atStart => exact ⟨0, by omega, rfl, by rw [cpTo_zero]; exact hm⟩
      case round =>
        clear hm
        obtain ⟨i, hi, rfl, hm⟩ := hrel
        by_cases hlt : i < 32
        · have hii : (i : Int) < 32 := by omega
          obtain ⟨x, hx⟩ : ∃ x, x = Z.getD i 0 := ⟨_, rfl⟩
          have HVX : Hid ((u8s Z ++ l)[i]? = some (.int .u8 x)) := by show _ = _; rw [List.getElem?_append_left (by rw [HZU.out]; omega), u8s_get _ _ (by rw [HZL.out]; omega), hx]
          have HST : Hid ((u8s (cpTo 32 Z i)).set i (.int .u8 x) = u8s (cpTo 32 Z (i + 1))) := by show _ = _; rw [u8s_set, hx, cpTo_set 32 Z HZL.out i hlt]
          have HLN : Hid (i < (u8s (cpTo 32 Z i)).length) := by show _ < _; rw [u8s_length, cpTo_length 32 Z HZL.out i hi]; exact hlt
          clear hx
          go_wp2_with (first
            | ((with_reducible refine at_op (some 37) (.load 5 (.tmp 36)) ?_); refine wpl_ldc 1 i (.int .u8 x) hm rfl rfl ag_u8 (HVX.out) ?_)
            | ((with_reducible refine at_op none (.store 5 (.tmp 38) (.tmp 37)) ?_); go_must (refine wpl_stc 0 i (.int .u8 x) hm rfl rfl (rfl) sz_u8 (HLN.out) rfl rfl ?_); clear hm; intro wq hm))
          rw [List.set_cons_zero, HST.out] at hm
          go_roundw
          case rel => exact ⟨i + 1, by omega, by go_num, hm⟩
          case measure => simp [intOf]; omega
        · have hin : i = 32 := by omega
          subst hin
          rw [cpTo_full 32 Z HZL.out] at hm
          go_wp2_with (first
            | ((with_reducible refine at_op (some 39) (.load 23 (.tmp 12)) ?_); refine wpl_ldw 0 hm rfl rfl _ un_key rfl 32 sz_key (HZU.out) ?_)
            | ((with_reducible refine at_op none (.store 23 (.tmp 8) (.tmp 39)) ?_); refine wpl_stw 2 (u8s Z) hm rfl rfl rfl 32 sz_key (by simp [u8s_length]) (HZU.out) (u8s_one _) ?_; clear hm; intro wr2 hm))
          exact ret_ct 2 _ hm rfl Tryd.results14 rfl rfl _ un_key rfl 32 sz_key HZU.out rfl ⟨rfl, hm.below⟩
set_option maxHeartbeats 4000000 in
set_option maxRecDepth 100000 in
theorem unwrapRef_bad (ks xs : List Int) (p n : Int) (hkl : ks.length = 32) (hxl : xs.length = 48) (hkb : Bytes ks) (hxb : Bytes xs) (hp : 0 ≤ p ∧ p < 4294967296) (hf : xs.drop 32 ≠ tagOf ks (nonceOf p n) labWrap (xs.take 32)) (w : World) :
    Calls Tryd.prog 14 #[.agg (u8s ks).toArray, .int .u32 p, .int .u64 n, .agg (u8s xs).toArray] w fun e w' => e = .returned (.tuple #[.agg (u8s (List.replicate 32 0)).toArray, .bool false]) ∧ Below w.heap.size w w' := by
  have hm := Mem.start w
  have HKL : Hid _ := hkl
  have HKB : Hid _ := hkb
  have HP : Hid (0 ≤ p ∧ p < 4294967296) := hp
  have HKU : Hid ((u8s ks).length = 32) := by show _ = _; rw [u8s_length]; exact hkl
  obtain ⟨ns, hns⟩ : ∃ ns, ns = nonceOf p n := ⟨_, rfl⟩
  have HNN : Hid (∀ _ : Unit, nonceOf p n = ns) := fun _ => hns.symm
  have HNL : Hid (ns.length = 12) := by show _ = _; rw [hns, nonceOf_length]
  have HNB : Hid (Bytes ns) := by rw [hns]; exact nonceOf_bytes _ _
  have HXL : Hid (xs.length = 48) := hxl
  have HXB : Hid _ := hxb
  rw [← hns] at hf
  have HF : Hid (∀ _ : Unit, _) := fun _ => hf
  clear hkl hxl hkb hxb hp hns hf
  go_enter Tryd.func14, Tryd.ntmps14
  go_wp2_with (first
    | ((with_reducible refine at_op (some 4) (.box 23 (.tmp 0)) ?_); refine wpl_box (u8s ks) rfl hm ?_; clear hm; intro w1 g4 hm)
    | ((with_reducible refine at_op (some 7) (.box 27 (.tmp 3)) ?_); refine wpl_box (u8s xs) rfl hm ?_; clear hm; intro w2 g7 hm)
    | ((with_reducible refine at_op (some 8) (.alloc 23) ?_); refine wpl_alloc _ zero_key hm ?_; clear hm; intro w3 g8 hm))
  refine wp_ends0 ?_
  refine anyH_start (T := fun W => Mem w [] W [(g8, u8s (List.replicate 32 0), 23), (g7, u8s xs, 27), (g4, u8s ks, 23)]) (by kernel_rfl) hm ?_
  clear hm
  intro w4 hm
  refine anyH_takeG 0 (v := .agg (u8s ks).toArray) rfl (by kernel_rfl) (by kernel_rfl) (by kernel_rfl) rfl (fun W hW => exec_ldsG 0 _ (Mem.get hW 2 rfl) rfl _ un_key rfl 32 sz_key (by rw [HKU.out]; omega) (by rw [List.drop_zero, List.take_of_length_le (Nat.le_of_eq HKU.out)])) hm ?_
  go_simp
  refine anyH_takeG 1 (v := .int .u32 p) rfl (by kernel_rfl) (by kernel_rfl) (by kernel_rfl) rfl (fun W _ => by go_simp) hm ?_
  go_simp
  refine anyH_takeG 2 (v := .int .u64 n) rfl (by kernel_rfl) (by kernel_rfl) (by kernel_rfl) rfl (fun W _ => by go_simp) hm ?_
  go_simp
  refine anyH_takeG 6 (v := .slice (some ⟨g7, 0, none⟩) 48 48) rfl (by kernel_rfl) (by kernel_rfl) (by kernel_rfl) rfl (fun W _ => by go_simp) hm ?_
  go_simp
  refine wpAnyH_all (rs := [3, 4]) (by kernel_rfl) (by simp) ?_
  intro i hi
  simp only [List.mem_cons, List.not_mem_nil, or_false] at hi
  rcases hi with rfl | rfl
  · refine anyH_op 3 rfl rfl ?_
    intro K hK
    go_wp2_with (go_at_call 15; refine (nonceRef_any p n HP.out _).mono ?_; rintro e wn ⟨he, hb⟩; rw [HNN.out ()] at he; subst he; replace hm := hm.call hb; clear hb)
    refine hK _ _ hm ?_
    clear hK K
    refine wpAnyH_all (rs := [4]) (by kernel_rfl) (by simp) ?_
    intro i hi
    simp only [List.mem_cons, List.not_mem_nil, or_false] at hi
    subst hi
    refine anyH_op 4 rfl rfl ?_
    intro K hK
    refine wpl_litW un_bs info_u8 hm ?_
    clear hm
    intro wl gl hm hb
    clear hb
    refine wpList_nil ?_
    refine hK _ _ hm.tail ?_
    clear hK K
    refine wpAnyH_all (rs := [5]) (by kernel_rfl) (by simp) ?_
    intro i hi
    simp only [List.mem_cons, List.not_mem_nil, or_false] at hi
    subst hi
    refine anyH_op 5 rfl rfl ?_
    intro K hK
    refine wpl_cvl labWrap rfl un_bs un_u8 rfl rfl hm ?_
    clear hm
    intro wv hm hs
    have HW : Hid (SlOld wv (.slice (some ⟨gl, 0, none⟩) 4 4) labWrap) := hs
    clear hs
    refine wpList_nil ?_
    refine hK _ _ hm ?_
    clear hK K
    refine wpAnyH_all (rs := [7]) (by kernel_rfl) (by simp) ?_
    intro i hi
    simp only [List.mem_cons, List.not_mem_nil, or_false] at hi
    subst hi
    refine anyH_op 7 rfl rfl ?_
    intro K hK
    go_wp2_with (go_at_call 12; refine (openRef_bad ks ns labWrap xs _ _ 0 48 32 HXL.out (by omega) (HF.out ()) HKL.out HNL.out HKB.out HNB.out labWrap_bytes HXB.out (by decide) (by rw [HXL.out]; omega) _ HW.out (Seg.row (hm.get 1 rfl))).mono ?_; rintro e wx ⟨he, hb⟩; subst he; replace hm := hm.call hb; clear hb)
    refine hK _ _ hm ?_
    clear hK K
    refine anyH_takeG 8 (v := .tuple #[.slice none 0 0, .int .i64 50]) rfl (by kernel_rfl) (by kernel_rfl) (by kernel_rfl) rfl (fun W _ => by go_simp) hm ?_
    go_simp
    refine anyH_takeG 9 (v := .slice none 0 0) rfl (by kernel_rfl) (by kernel_rfl) (by kernel_rfl) rfl (fun W _ => by go_simp) hm ?_
    go_simp
    refine anyH_takeG 10 (v := .int .i64 50) rfl (by kernel_rfl) (by kernel_rfl) (by kernel_rfl) rfl (fun W _ => by go_simp) hm ?_
    go_simp
    refine anyH_takeG 11 (v := .slice none 0 0) rfl (by kernel_rfl) (by kernel_rfl) (by kernel_rfl) rfl (fun W _ => by go_simp) hm ?_
    go_simp
    refine anyH_takeG 12 (v := .int .i64 50) rfl (by kernel_rfl) (by kernel_rfl) (by kernel_rfl) rfl (fun W _ => by go_simp) hm ?_
    go_simp
    refine wpAnyH_done (by kernel_rfl) ?_ _
    simp only [endsIn]
    go_wp2_with (first
      | ((with_reducible refine at_op (some 12) (.alloc 23) ?_); refine wpl_alloc _ zero_key hm ?_; clear hm; intro w5 g12 hm))
    refine wp_loop_rounds 1 ?_
    rw [rounds_succ]
    go_wp2_with (first
      | ((with_reducible refine at_op (some 39) (.load 23 (.tmp 12)) ?_); refine wpl_ldw 0 hm rfl rfl _ un_key rfl 32 sz_key (by simp [u8s_length]) ?_)
      | ((with_reducible refine at_op none (.store 23 (.tmp 8) (.tmp 39)) ?_); refine wpl_stw 1 (u8s (List.replicate 32 0)) hm rfl rfl rfl 32 sz_key (by simp [u8s_length]) (by simp [u8s_length]) (u8s_one _) ?_; clear hm; intro wr2 hm))
    exact ret_ct 1 _ hm rfl Tryd.results14 rfl rfl _ un_key rfl 32 sz_key (by simp [u8s_length]) rfl ⟨rfl, hm.below⟩
  · refine anyH_op 4 rfl rfl ?_
    intro K hK
    refine wpl_litW un_bs info_u8 hm ?_
    clear hm
    intro wl gl hm hb
    clear hb
    refine wpList_nil ?_
    refine hK _ _ hm.tail ?_
    clear hK K
    refine wpAnyH_all (rs := [3, 5]) (by kernel_rfl) (by simp) ?_
    intro i hi
    simp only [List.mem_cons, List.not_mem_nil, or_false] at hi
    rcases hi with rfl | rfl
    · refine anyH_op 3 rfl rfl ?_
      intro K hK
      go_wp2_with (go_at_call 15; refine (nonceRef_any p n HP.out _).mono ?_; rintro e wn ⟨he, hb⟩; rw [HNN.out ()] at he; subst he; replace hm := hm.call hb; clear hb)
      refine hK _ _ hm.tail ?_
      clear hK K
      refine wpAnyH_all (rs := [5]) (by kernel_rfl) (by simp) ?_
      intro i hi
      simp only [List.mem_cons, List.not_mem_nil, or_false] at hi
      subst hi
      refine anyH_op 5 rfl rfl ?_
      intro K hK
      refine wpl_cvl labWrap rfl un_bs un_u8 rfl rfl hm ?_
      clear hm
      intro wv hm hs
      have HW : Hid (SlOld wv (.slice (some ⟨gl, 0, none⟩) 4 4) labWrap) := hs
      clear hs
      refine wpList_nil ?_
      refine hK _ _ hm ?_
      clear hK K
      refine wpAnyH_all (rs := [7]) (by kernel_rfl) (by simp) ?_
      intro i hi
      simp only [List.mem_cons, List.not_mem_nil, or_false] at hi
      subst hi
      refine anyH_op 7 rfl rfl ?_
      intro K hK
      go_wp2_with (go_at_call 12; refine (openRef_bad ks ns labWrap xs _ _ 0 48 32 HXL.out (by omega) (HF.out ()) HKL.out HNL.out HKB.out HNB.out labWrap_bytes HXB.out (by decide) (by rw [HXL.out]; omega) _ HW.out (Seg.row (hm.get 1 rfl))).mono ?_; rintro e wx ⟨he, hb⟩; subst he; replace hm := hm.call hb; clear hb)
      refine hK _ _ hm ?_
      clear hK K
      refine anyH_takeG 8 (v := .tuple #[.slice none 0 0, .int .i64 50]) rfl (by kernel_rfl) (by kernel_rfl) (by kernel_rfl) rfl (fun W _ => by go_simp) hm ?_
      go_simp
      refine anyH_takeG 9 (v := .slice none 0 0) rfl (by kernel_rfl) (by kernel_rfl) (by kernel_rfl) rfl (fun W _ => by go_simp) hm ?_
      go_simp
      refine anyH_takeG 10 (v := .int .i64 50) rfl (by kernel_rfl) (by kernel_rfl) (by kernel_rfl) rfl (fun W _ => by go_simp) hm ?_
      go_simp
      refine anyH_takeG 11 (v := .slice none 0 0) rfl (by kernel_rfl) (by kernel_rfl) (by kernel_rfl) rfl (fun W _ => by go_simp) hm ?_
      go_simp
      refine anyH_takeG 12 (v := .int .i64 50) rfl (by kernel_rfl) (by kernel_rfl) (by kernel_rfl) rfl (fun W _ => by go_simp) hm ?_
      go_simp
      refine wpAnyH_done (by kernel_rfl) ?_ _
      simp only [endsIn]
      go_wp2_with (first
        | ((with_reducible refine at_op (some 12) (.alloc 23) ?_); refine wpl_alloc _ zero_key hm ?_; clear hm; intro w5 g12 hm))
      refine wp_loop_rounds 1 ?_
      rw [rounds_succ]
      go_wp2_with (first
        | ((with_reducible refine at_op (some 39) (.load 23 (.tmp 12)) ?_); refine wpl_ldw 0 hm rfl rfl _ un_key rfl 32 sz_key (by simp [u8s_length]) ?_)
        | ((with_reducible refine at_op none (.store 23 (.tmp 8) (.tmp 39)) ?_); refine wpl_stw 1 (u8s (List.replicate 32 0)) hm rfl rfl rfl 32 sz_key (by simp [u8s_length]) (by simp [u8s_length]) (u8s_one _) ?_; clear hm; intro wr2 hm))
      exact ret_ct 1 _ hm rfl Tryd.results14 rfl rfl _ un_key rfl 32 sz_key (by simp [u8s_length]) rfl ⟨rfl, hm.below⟩
    · refine anyH_op 5 rfl rfl ?_
      intro K hK
      refine wpl_cvl labWrap rfl un_bs un_u8 rfl rfl hm ?_
      clear hm
      intro wv hm hs
      have HW : Hid (SlOld wv (.slice (some ⟨gl, 0, none⟩) 4 4) labWrap) := hs
      clear hs
      refine wpList_nil ?_
      refine hK _ _ hm ?_
      clear hK K
      refine wpAnyH_all (rs := [3]) (by kernel_rfl) (by simp) ?_
      intro i hi
      simp only [List.mem_cons, List.not_mem_nil, or_false] at hi
      subst hi
      refine anyH_op 3 rfl rfl ?_
      intro K hK
      go_wp2_with (go_at_call 15; refine (nonceRef_any p n HP.out _).mono ?_; rintro e wn ⟨he, hb⟩; rw [HNN.out ()] at he; subst he; have HW' : Hid (SlOld wn (.slice (some ⟨gl, 0, none⟩) 4 4) labWrap) := SlOld.below HW.out hb; clear HW; have HW := HW'; replace hm := hm.call hb; clear hb)
      refine hK _ _ hm ?_
      clear hK K
      refine wpAnyH_all (rs := [7]) (by kernel_rfl) (by simp) ?_
      intro i hi
      simp only [List.mem_cons, List.not_mem_nil, or_false] at hi
      subst hi
      refine anyH_op 7 rfl rfl ?_
      intro K hK
      go_wp2_with (go_at_call 12; refine (openRef_bad ks ns labWrap xs _ _ 0 48 32 HXL.out (by omega) (HF.out ()) HKL.out HNL.out HKB.out HNB.out labWrap_bytes HXB.out (by decide) (by rw [HXL.out]; omega) _ HW.out (Seg.row (hm.get 1 rfl))).mono ?_; rintro e wx ⟨he, hb⟩; subst he; replace hm := hm.call hb; clear hb)
      refine hK _ _ hm ?_
      clear hK K
      refine anyH_takeG 8 (v := .tuple #[.slice none 0 0, .int .i64 50]) rfl (by kernel_rfl) (by kernel_rfl) (by kernel_rfl) rfl (fun W _ => by go_simp) hm ?_
      go_simp
      refine anyH_takeG 9 (v := .slice none 0 0) rfl (by kernel_rfl) (by kernel_rfl) (by kernel_rfl) rfl (fun W _ => by go_simp) hm ?_
      go_simp
      refine anyH_takeG 10 (v := .int .i64 50) rfl (by kernel_rfl) (by kernel_rfl) (by kernel_rfl) rfl (fun W _ => by go_simp) hm ?_
      go_simp
      refine anyH_takeG 11 (v := .slice none 0 0) rfl (by kernel_rfl) (by kernel_rfl) (by kernel_rfl) rfl (fun W _ => by go_simp) hm ?_
      go_simp
      refine anyH_takeG 12 (v := .int .i64 50) rfl (by kernel_rfl) (by kernel_rfl) (by kernel_rfl) rfl (fun W _ => by go_simp) hm ?_
      go_simp
      refine wpAnyH_done (by kernel_rfl) ?_ _
      simp only [endsIn]
      go_wp2_with (first
        | ((with_reducible refine at_op (some 12) (.alloc 23) ?_); refine wpl_alloc _ zero_key hm ?_; clear hm; intro w5 g12 hm))
      refine wp_loop_rounds 1 ?_
      rw [rounds_succ]
      go_wp2_with (first
        | ((with_reducible refine at_op (some 39) (.load 23 (.tmp 12)) ?_); refine wpl_ldw 0 hm rfl rfl _ un_key rfl 32 sz_key (by simp [u8s_length]) ?_)
        | ((with_reducible refine at_op none (.store 23 (.tmp 8) (.tmp 39)) ?_); refine wpl_stw 1 (u8s (List.replicate 32 0)) hm rfl rfl rfl 32 sz_key (by simp [u8s_length]) (by simp [u8s_length]) (u8s_one _) ?_; clear hm; intro wr2 hm))
      exact ret_ct 1 _ hm rfl Tryd.results14 rfl rfl _ un_key rfl 32 sz_key (by simp [u8s_length]) rfl ⟨rfl, hm.below⟩
end Go.Proofs.YtbfccepddfinoaaDoor
