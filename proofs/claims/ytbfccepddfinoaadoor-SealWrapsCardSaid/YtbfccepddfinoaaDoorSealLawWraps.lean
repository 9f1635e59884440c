/- The walk of the law SealWraps. -/
import Derived.Test.YtbfccepddfinoaaDoorSealKnown
namespace Go.Proofs.YtbfccepddfinoaaDoor
open Go Go.RowKit
set_option maxRecDepth 100000 in
theorem bytes_set {X : List Int} (h : Bytes X) (i : Nat) {x : Int} (hx : 0 ≤ x ∧ x < 256) : Bytes (X.set i x) := by
  intro y hy
  rcases List.mem_or_eq_of_mem_set hy with h1 | h1
  · exact h y h1
  · rw [h1]; exact hx
set_option maxHeartbeats 2000000 in
set_option maxRecDepth 100000 in
theorem sealWraps_turned (ks ms : List Int) (p n a b : Int) (hkl : ks.length = 32) (hml : ms.length = 32) (hkb : Bytes ks) (hmb : Bytes ms) (hp : 0 ≤ p ∧ p < 4294967296) (ha : 0 ≤ a ∧ a ≤ 255) (hb0 : 0 ≤ b ∧ b ≤ 255) (hb1 : ¬ b = 0) (w : World) (ht : Tab w) (hq : QTab w) :
    Calls Tryd.prog 6 #[.agg (u8s ks).toArray, .agg (u8s ms).toArray, .int .u32 p, .int .u64 n, .int .u8 a, .int .u8 b] w fun e w' => e = .returned (.bool true) ∧ Below w.heap.size w w' := by
  have hm := Mem.start w
  have HT : Hid _ := ht
  have HQ : Hid _ := hq
  have HKL : Hid _ := hkl
  have HKB : Hid _ := hkb
  have HP : Hid (0 ≤ p ∧ p < 4294967296) := hp
  have HKU : Hid ((u8s ks).length = 32) := by show _ = _; rw [u8s_length]; exact hkl
  obtain ⟨ns, hns⟩ : ∃ ns, ns = nonceOf p n := ⟨_, rfl⟩
  have HNN : Hid (∀ _ : Unit, nonceOf p n = ns) := fun _ => hns.symm
  have HNL : Hid (ns.length = 12) := by show _ = _; rw [hns, nonceOf_length]
  have HNB : Hid (Bytes ns) := by rw [hns]; exact nonceOf_bytes _ _
  have HML : Hid _ := hml
  have HMB : Hid _ := hmb
  have HMU : Hid ((u8s ms).length = 32) := by show _ = _; rw [u8s_length]; exact hml
  obtain ⟨X, hX⟩ : ∃ X, X = sealOf ks ns labWrap ms := ⟨_, rfl⟩
  have HSS : Hid (∀ _ : Unit, sealOf ks ns labWrap ms = X) := fun _ => hX.symm
  have HXX : Hid (∀ _ : Unit, sealOf ks (nonceOf p n) labWrap ms = X) := fun _ => by rw [hX, hns]
  have hxl : X.length = 48 := by rw [hX, sealOf_length, hml]
  have HXL : Hid (X.length = 48) := hxl
  have HXB : Hid (Bytes X) := by rw [hX]; exact sealOf_bytes _ _ _ hmb
  have HXU : Hid ((u8s X).length = 48) := by show _ = _; rw [u8s_length]; exact hxl
  have hxt : X.take 32 = encOf ks ns ms := by have h := sealOf_take ks ns labWrap ms; rw [hml, ← hX] at h; exact h
  have hxd : X.drop 32 = tagOf ks ns labWrap (encOf ks ns ms) := by have h := sealOf_drop ks ns labWrap ms; rw [hml, ← hX] at h; exact h
  have HF : Hid (∀ _ : Unit, X.drop 32 = tagOf ks (nonceOf p n) labWrap (X.take 32)) := fun _ => by rw [← hns, hxt, hxd]
  have HZ : Hid (∀ _ : Unit, ms = encOf ks (nonceOf p n) (X.take 32)) := fun _ => by rw [← hns, hxt]; exact (encOf_twice _ _ hmb).symm
  obtain ⟨j, hj, hja⟩ : ∃ j : Nat, j < 16 ∧ a % 16 = (j : Int) := ⟨(a % 16).toNat, by omega, by omega⟩
  have hat : a.tmod 16 = (j : Int) := by rw [Int.tmod_eq_emod_of_nonneg ha.1]; exact hja
  obtain ⟨x, hx⟩ : ∃ x, x = X.getD (32 + j) 0 := ⟨_, rfl⟩
  have HVX : Hid ((u8s X)[32 + j]? = some (.int .u8 x)) := by show _ = _; rw [u8s_get _ _ (by rw [hxl]; omega), hx]
  have hxb : 0 ≤ x ∧ x < 256 := by rw [hx]; exact HXB.out.get _
  obtain ⟨y, hy⟩ : ∃ y, y = bits .xor .u8 x b := ⟨_, rfl⟩
  have HXY : Hid (∀ _ : Unit, bits .xor .u8 x b = y) := fun _ => hy.symm
  have hyb : 0 ≤ y ∧ y < 256 := by rw [hy]; exact byte_xor hxb (by omega)
  have hbe : (b == 0) = false := by simpa using hb1
  have hyx : ¬ x = y := fun e => hb1 ((xor_same hxb (by omega)).1 (by rw [← hy, e]))
  obtain ⟨X2, hX2⟩ : ∃ X2, X2 = X.set (32 + j) y := ⟨_, rfl⟩
  have HST : Hid ((u8s X).set (32 + j) (.int .u8 y) = u8s X2) := by show _ = _; rw [u8s_set, hX2]
  have HX2L : Hid (X2.length = 48) := by show _ = _; rw [hX2, List.length_set, hxl]
  have HX2U : Hid ((u8s X2).length = 48) := by show _ = _; rw [u8s_length]; exact HX2L.out
  have HX2B : Hid (Bytes X2) := by rw [hX2]; exact bytes_set HXB.out _ hyb
  have HF2 : Hid (∀ _ : Unit, X2.drop 32 ≠ tagOf ks (nonceOf p n) labWrap (X2.take 32)) := fun _ => by
    have h := fits_turned ks ns labWrap ms j y hj
    rw [hml, ← hX, ← hX2, ← hx, decide_eq_false hyx] at h
    unfold fits at h
    rw [HX2L.out] at h
    rw [hns] at h
    exact of_decide_eq_false h
  have heqk : ∀ W, (Op.equalIn 10000 23 (.agg (u8s ms).toArray) (.agg (u8s ms).toArray)).run Tryd.prog W = .ok true W := by
    intro W
    rw [eq_keys ms ms hml hml W]
    simp
  have HEK : Hid _ := heqk
  obtain ⟨ha0, ha1⟩ := ha
  clear ht hq hkl hml hkb hmb hp hns hX hxl hxt hxd hja hx hxb hy hyx heqk hyb hX2 
  go_enter Tryd.func6, Tryd.ntmps6
  go_wp2_with (first
    | ((with_reducible refine at_op (some 6) (.box 23 (.tmp 0)) ?_); refine wpl_box (u8s ks) rfl hm ?_; clear hm; intro w1 g6 hm)
    | ((with_reducible refine at_op (some 7) (.box 23 (.tmp 1)) ?_); refine wpl_box (u8s ms) rfl hm ?_; clear hm; intro w2 g7 hm)
    | (go_at_call 9; refine (known5_any _ (Tab.mem HT.out hm (by simp)) (QTab.mem HQ.out hm (by simp))).mono ?_; rintro e wk ⟨rfl, hb⟩; replace hm := hm.call hb; clear hb)
    | ((with_reducible refine at_op (some 21) (.load 23 (.tmp 6)) ?_); refine wpl_ldw 1 hm rfl rfl _ un_key rfl 32 sz_key (HKU.out) ?_)
    | ((with_reducible refine at_op (some 24) (.load 23 (.tmp 7)) ?_); refine wpl_ldw 0 hm rfl rfl _ un_key rfl 32 sz_key (HMU.out) ?_)
    | (go_at_call 20; refine (wrap_any ks ms p n HKL.out HML.out HKB.out HMB.out HP.out _ (Tab.mem HT.out hm (by simp)) (QTab.mem HQ.out hm (by simp))).mono ?_; rintro e w3 ⟨he, hb⟩; rw [HXX.out ()] at he; subst he; replace hm := hm.call hb; clear hb)
    | ((with_reducible refine at_op (some 13) (.alloc 27) ?_); refine wpl_alloc _ zero_b48 hm ?_; clear hm; intro w4 g13 hm)
    | ((with_reducible refine at_op none (.store 27 (.tmp 13) (.tmp 25)) ?_); refine wpl_stw 0 (u8s X) hm rfl rfl rfl 48 sz_b48 (by simp [u8s_length]) (HXU.out) (u8s_one _) ?_; clear hm; intro w5 hm)
    | ((with_reducible refine at_op (some 27) (.load 23 (.tmp 6)) ?_); refine wpl_ldw 2 hm rfl rfl _ un_key rfl 32 sz_key (HKU.out) ?_)
    | ((with_reducible refine at_op (some 30) (.load 27 (.tmp 13)) ?_); refine wpl_ldw 0 hm rfl rfl _ un_b48 rfl 48 sz_b48 (HXU.out) ?_))
  refine (unwrap_good ks X ms p n HKL.out HXL.out HKB.out HXB.out HP.out (HF.out ()) (HZ.out ()) _ (Tab.mem HT.out hm (by simp)) (QTab.mem HQ.out hm (by simp))).mono ?_
  rintro e w6 ⟨he, hb⟩
  subst he
  replace hm := hm.call hb
  clear hb
  go_wp2_with (first
    | ((with_reducible refine at_op (some 14) (.alloc 23) ?_); refine wpl_alloc _ zero_key hm ?_; clear hm; intro w7 g14 hm)
    | ((with_reducible refine at_op none (.store 23 (.tmp 14) (.tmp 32)) ?_); refine wpl_stw 0 (u8s ms) hm rfl rfl rfl 32 sz_key (by simp [u8s_length]) (HMU.out) (u8s_one _) ?_; clear hm; intro w8 hm)
    | ((with_reducible refine at_op (some 39) (.load 5 (.tmp 38)) ?_); refine wpl_ldc 1 (32 + j) (.int .u8 x) hm rfl rfl ag_u8 (HVX.out) ?_)
    | ((with_reducible refine at_op none (.store 5 (.tmp 42) (.tmp 41)) ?_); go_must (refine wpl_stc 1 (32 + j) (.int .u8 y) hm rfl rfl (by rw [← HXY.out ()]; rfl) sz_u8 (by rw [HXU.out]; omega) rfl rfl ?_); clear hm; intro w9 hm; replace hm : Mem w [] w9 [(g14, u8s ms, 23), (g13, u8s X2, 27), (g7, u8s ms, 23), (g6, u8s ks, 23)] := (by rw [HST.out] at hm; exact hm))
    | ((with_reducible refine at_op (some 44) (.load 23 (.tmp 6)) ?_); refine wpl_ldw 3 hm rfl rfl _ un_key rfl 32 sz_key (HKU.out) ?_)
    | ((with_reducible refine at_op (some 47) (.load 27 (.tmp 13)) ?_); refine wpl_ldw 1 hm rfl rfl _ un_b48 rfl 48 sz_b48 (HX2U.out) ?_))
  refine (unwrap_bad ks X2 p n HKL.out HX2L.out HKB.out HX2B.out HP.out (HF2.out ()) _ (Tab.mem HT.out hm (by simp)) (QTab.mem HQ.out hm (by simp))).mono ?_
  rintro e w10 ⟨he, hb⟩
  subst he
  replace hm := hm.call hb
  clear hb
  go_wp2_with (first
    | ((with_reducible refine at_op (some 16) (.alloc 23) ?_); refine wpl_alloc _ zero_key hm ?_; clear hm; intro w11 g16 hm)
    | ((with_reducible refine at_op none (.store 23 (.tmp 16) (.tmp 49)) ?_); refine wpl_stw 0 (u8s (List.replicate 32 0)) hm rfl rfl rfl 32 sz_key (by simp [u8s_length]) (by simp [u8s_length]) (u8s_one _) ?_; clear hm; intro w12 hm))
  refine wp_ends0 ?_
  refine anyH_start (T := fun W => Mem w [] W [(g16, u8s (List.replicate 32 0), 23), (g14, u8s ms, 23), (g13, u8s X2, 27), (g7, u8s ms, 23), (g6, u8s ks, 23)]) (by kernel_rfl) hm ?_
  clear hm
  intro w13 hm
  refine anyH_takeG 0 (v := .agg (u8s ks).toArray) rfl (by kernel_rfl) (by kernel_rfl) (by kernel_rfl) rfl (fun W hW => exec_ldsG 0 _ (Mem.get hW 4 rfl) rfl _ un_key rfl 32 sz_key (by rw [HKU.out]; omega) (by rw [List.drop_zero, List.take_of_length_le (Nat.le_of_eq HKU.out)])) hm ?_
  go_simp
  refine anyH_takeG 1 (v := .int .u32 p) rfl (by kernel_rfl) (by kernel_rfl) (by kernel_rfl) rfl (fun W _ => by go_simp) hm ?_
  go_simp
  refine anyH_takeG 2 (v := .int .u64 n) rfl (by kernel_rfl) (by kernel_rfl) (by kernel_rfl) rfl (fun W _ => by go_simp) hm ?_
  go_simp
  refine anyH_takeG 6 (v := .slice (some ⟨g7, 0, none⟩) 32 32) rfl (by kernel_rfl) (by kernel_rfl) (by kernel_rfl) rfl (fun W _ => by go_simp) hm ?_
  go_simp
  refine wpAnyH_all (rs := [3, 4]) (by kernel_rfl) (by simp) ?_
  intro i hi
  simp only [List.mem_cons, List.not_mem_nil, or_false] at hi
  rcases hi with rfl | rfl
  · refine anyH_op 3 rfl rfl ?_
    intro K hK
    go_wp2_with (go_at_call 10; refine (nonce_any p n HP.out _).mono ?_; rintro e wn ⟨he, hb⟩; rw [HNN.out ()] at he; subst he; replace hm := hm.call hb; clear hb)
    refine hK _ _ hm ?_
    clear hK K
    refine wpAnyH_all (rs := [4]) (by kernel_rfl) (by simp) ?_
    intro i hi
    simp only [List.mem_cons, List.not_mem_nil, or_false] at hi
    subst hi
    refine anyH_op 4 rfl rfl ?_
    intro K hK
    refine wpl_litW un_bs info_u8 hm ?_
    clear hm
    intro wl gl hm hb
    clear hb
    refine wpList_nil ?_
    refine hK _ _ hm.tail ?_
    clear hK K
    refine wpAnyH_all (rs := [5]) (by kernel_rfl) (by simp) ?_
    intro i hi
    simp only [List.mem_cons, List.not_mem_nil, or_false] at hi
    subst hi
    refine anyH_op 5 rfl rfl ?_
    intro K hK
    refine wpl_cvl labWrap rfl un_bs un_u8 rfl rfl hm ?_
    clear hm
    intro wv hm hs
    have HW : Hid (SlOld wv (.slice (some ⟨gl, 0, none⟩) 4 4) labWrap) := hs
    clear hs
    refine wpList_nil ?_
    refine hK _ _ hm ?_
    clear hK K
    refine wpAnyH_all (rs := [7]) (by kernel_rfl) (by simp) ?_
    intro i hi
    simp only [List.mem_cons, List.not_mem_nil, or_false] at hi
    subst hi
    refine anyH_op 7 rfl rfl ?_
    intro K hK
    go_wp2_with (go_at_call 18; refine (seal_any ks ns labWrap ms _ _ HKL.out HNL.out HKB.out HNB.out labWrap_bytes HMB.out (by decide) (by rw [HML.out]; omega) _ (Tab.mem HT.out hm (by simp)) (QTab.mem HQ.out hm (by simp)) HW.out (old_all (hm.get 3 rfl) HML.out (Nat.le_refl _))).mono ?_; rintro e wx ⟨gs, cap, l, he, hcap, hge, hr, hb⟩; rw [HML.out] at he hcap; subst he; replace hm := hm.call hb; clear hb hr hge)
    refine hK _ _ hm ?_
    clear hK K
    refine anyH_takeG 8 (v := .slice (some ⟨gs, 0, none⟩) 48 cap) rfl (by kernel_rfl) (by kernel_rfl) (by kernel_rfl) rfl (fun W _ => by go_simp) hm ?_
    go_simp
    refine wpAnyH_done (by kernel_rfl) ?_ _
    simp only [endsIn]
    have heqk := HEK.out
    go_wp2_with (first
      | ((with_reducible refine at_opG (some 62) (.load 23 (.tmp 14)) (some (2, true)) ?_); go_must (refine wpl_execG (.agg (u8s ms).toArray) rfl (exec_ldsG 0 _ (hm.get 1 rfl) rfl _ un_key rfl 32 sz_key (by rw [HMU.out]; omega) (by rw [List.drop_zero, List.take_of_length_le (Nat.le_of_eq HMU.out)])) ?_))
      | ((with_reducible refine at_opG (some 63) (.load 23 (.tmp 7)) (some (2, true)) ?_); go_must (refine wpl_execG (.agg (u8s ms).toArray) rfl (exec_ldsG 0 _ (hm.get 3 rfl) rfl _ un_key rfl 32 sz_key (by rw [HMU.out]; omega) (by rw [List.drop_zero, List.take_of_length_le (Nat.le_of_eq HMU.out)])) ?_)))
    go_ret
    exact ⟨rfl, hm.below⟩
  · refine anyH_op 4 rfl rfl ?_
    intro K hK
    refine wpl_litW un_bs info_u8 hm ?_
    clear hm
    intro wl gl hm hb
    clear hb
    refine wpList_nil ?_
    refine hK _ _ hm.tail ?_
    clear hK K
    refine wpAnyH_all (rs := [3, 5]) (by kernel_rfl) (by simp) ?_
    intro i hi
    simp only [List.mem_cons, List.not_mem_nil, or_false] at hi
    rcases hi with rfl | rfl
    · refine anyH_op 3 rfl rfl ?_
      intro K hK
      go_wp2_with (go_at_call 10; refine (nonce_any p n HP.out _).mono ?_; rintro e wn ⟨he, hb⟩; rw [HNN.out ()] at he; subst he; replace hm := hm.call hb; clear hb)
      refine hK _ _ hm.tail ?_
      clear hK K
      refine wpAnyH_all (rs := [5]) (by kernel_rfl) (by simp) ?_
      intro i hi
      simp only [List.mem_cons, List.not_mem_nil, or_false] at hi
      subst hi
      refine anyH_op 5 rfl rfl ?_
      intro K hK
      refine wpl_cvl labWrap rfl un_bs un_u8 rfl rfl hm ?_
      clear hm
      intro wv hm hs
      have HW : Hid (SlOld wv (.slice (some ⟨gl, 0, none⟩) 4 4) labWrap) := hs
      clear hs
      refine wpList_nil ?_
      refine hK _ _ hm ?_
      clear hK K
      refine wpAnyH_all (rs := [7]) (by kernel_rfl) (by simp) ?_
      intro i hi
      simp only [List.mem_cons, List.not_mem_nil, or_false] at hi
      subst hi
      refine anyH_op 7 rfl rfl ?_
      intro K hK
      go_wp2_with (go_at_call 18; refine (seal_any ks ns labWrap ms _ _ HKL.out HNL.out HKB.out HNB.out labWrap_bytes HMB.out (by decide) (by rw [HML.out]; omega) _ (Tab.mem HT.out hm (by simp)) (QTab.mem HQ.out hm (by simp)) HW.out (old_all (hm.get 3 rfl) HML.out (Nat.le_refl _))).mono ?_; rintro e wx ⟨gs, cap, l, he, hcap, hge, hr, hb⟩; rw [HML.out] at he hcap; subst he; replace hm := hm.call hb; clear hb hr hge)
      refine hK _ _ hm ?_
      clear hK K
      refine anyH_takeG 8 (v := .slice (some ⟨gs, 0, none⟩) 48 cap) rfl (by kernel_rfl) (by kernel_rfl) (by kernel_rfl) rfl (fun W _ => by go_simp) hm ?_
      go_simp
      refine wpAnyH_done (by kernel_rfl) ?_ _
      simp only [endsIn]
      have heqk := HEK.out
      go_wp2_with (first
        | ((with_reducible refine at_opG (some 62) (.load 23 (.tmp 14)) (some (2, true)) ?_); go_must (refine wpl_execG (.agg (u8s ms).toArray) rfl (exec_ldsG 0 _ (hm.get 1 rfl) rfl _ un_key rfl 32 sz_key (by rw [HMU.out]; omega) (by rw [List.drop_zero, List.take_of_length_le (Nat.le_of_eq HMU.out)])) ?_))
        | ((with_reducible refine at_opG (some 63) (.load 23 (.tmp 7)) (some (2, true)) ?_); go_must (refine wpl_execG (.agg (u8s ms).toArray) rfl (exec_ldsG 0 _ (hm.get 3 rfl) rfl _ un_key rfl 32 sz_key (by rw [HMU.out]; omega) (by rw [List.drop_zero, List.take_of_length_le (Nat.le_of_eq HMU.out)])) ?_)))
      go_ret
      exact ⟨rfl, hm.below⟩
    · refine anyH_op 5 rfl rfl ?_
      intro K hK
      refine wpl_cvl labWrap rfl un_bs un_u8 rfl rfl hm ?_
      clear hm
      intro wv hm hs
      have HW : Hid (SlOld wv (.slice (some ⟨gl, 0, none⟩) 4 4) labWrap) := hs
      clear hs
      refine wpList_nil ?_
      refine hK _ _ hm ?_
      clear hK K
      refine wpAnyH_all (rs := [3]) (by kernel_rfl) (by simp) ?_
      intro i hi
      simp only [List.mem_cons, List.not_mem_nil, or_false] at hi
      subst hi
      refine anyH_op 3 rfl rfl ?_
      intro K hK
      go_wp2_with (go_at_call 10; refine (nonce_any p n HP.out _).mono ?_; rintro e wn ⟨he, hb⟩; rw [HNN.out ()] at he; subst he; have HW' : Hid (SlOld wn (.slice (some ⟨gl, 0, none⟩) 4 4) labWrap) := SlOld.below HW.out hb; clear HW; have HW := HW'; replace hm := hm.call hb; clear hb)
      refine hK _ _ hm ?_
      clear hK K
      refine wpAnyH_all (rs := [7]) (by kernel_rfl) (by simp) ?_
      intro i hi
      simp only [List.mem_cons, List.not_mem_nil, or_false] at hi
      subst hi
      refine anyH_op 7 rfl rfl ?_
      intro K hK
      go_wp2_with (go_at_call 18; refine (seal_any ks ns labWrap ms _ _ HKL.out HNL.out HKB.out HNB.out labWrap_bytes HMB.out (by decide) (by rw [HML.out]; omega) _ (Tab.mem HT.out hm (by simp)) (QTab.mem HQ.out hm (by simp)) HW.out (old_all (hm.get 3 rfl) HML.out (Nat.le_refl _))).mono ?_; rintro e wx ⟨gs, cap, l, he, hcap, hge, hr, hb⟩; rw [HML.out] at he hcap; subst he; replace hm := hm.call hb; clear hb hr hge)
      refine hK _ _ hm ?_
      clear hK K
      refine anyH_takeG 8 (v := .slice (some ⟨gs, 0, none⟩) 48 cap) rfl (by kernel_rfl) (by kernel_rfl) (by kernel_rfl) rfl (fun W _ => by go_simp) hm ?_
      go_simp
      refine wpAnyH_done (by kernel_rfl) ?_ _
      simp only [endsIn]
      have heqk := HEK.out
      go_wp2_with (first
        | ((with_reducible refine at_opG (some 62) (.load 23 (.tmp 14)) (some (2, true)) ?_); go_must (refine wpl_execG (.agg (u8s ms).toArray) rfl (exec_ldsG 0 _ (hm.get 1 rfl) rfl _ un_key rfl 32 sz_key (by rw [HMU.out]; omega) (by rw [List.drop_zero, List.take_of_length_le (Nat.le_of_eq HMU.out)])) ?_))
        | ((with_reducible refine at_opG (some 63) (.load 23 (.tmp 7)) (some (2, true)) ?_); go_must (refine wpl_execG (.agg (u8s ms).toArray) rfl (exec_ldsG 0 _ (hm.get 3 rfl) rfl _ un_key rfl 32 sz_key (by rw [HMU.out]; omega) (by rw [List.drop_zero, List.take_of_length_le (Nat.le_of_eq HMU.out)])) ?_)))
      go_ret
      exact ⟨rfl, hm.below⟩
set_option maxHeartbeats 2000000 in
set_option maxRecDepth 100000 in
theorem sealWraps_same (ks ms : List Int) (p n a : Int) (hkl : ks.length = 32) (hml : ms.length = 32) (hkb : Bytes ks) (hmb : Bytes ms) (hp : 0 ≤ p ∧ p < 4294967296) (ha : 0 ≤ a ∧ a ≤ 255) (w : World) (ht : Tab w) (hq : QTab w) :
    Calls Tryd.prog 6 #[.agg (u8s ks).toArray, .agg (u8s ms).toArray, .int .u32 p, .int .u64 n, .int .u8 a, .int .u8 0] w fun e w' => e = .returned (.bool true) ∧ Below w.heap.size w w' := by
  have hm := Mem.start w
  have HT : Hid _ := ht
  have HQ : Hid _ := hq
  have HKL : Hid _ := hkl
  have HKB : Hid _ := hkb
  have HP : Hid (0 ≤ p ∧ p < 4294967296) := hp
  have HKU : Hid ((u8s ks).length = 32) := by show _ = _; rw [u8s_length]; exact hkl
  obtain ⟨ns, hns⟩ : ∃ ns, ns = nonceOf p n := ⟨_, rfl⟩
  have HNN : Hid (∀ _ : Unit, nonceOf p n = ns) := fun _ => hns.symm
  have HNL : Hid (ns.length = 12) := by show _ = _; rw [hns, nonceOf_length]
  have HNB : Hid (Bytes ns) := by rw [hns]; exact nonceOf_bytes _ _
  have HML : Hid _ := hml
  have HMB : Hid _ := hmb
  have HMU : Hid ((u8s ms).length = 32) := by show _ = _; rw [u8s_length]; exact hml
  obtain ⟨X, hX⟩ : ∃ X, X = sealOf ks ns labWrap ms := ⟨_, rfl⟩
  have HSS : Hid (∀ _ : Unit, sealOf ks ns labWrap ms = X) := fun _ => hX.symm
  have HXX : Hid (∀ _ : Unit, sealOf ks (nonceOf p n) labWrap ms = X) := fun _ => by rw [hX, hns]
  have hxl : X.length = 48 := by rw [hX, sealOf_length, hml]
  have HXL : Hid (X.length = 48) := hxl
  have HXB : Hid (Bytes X) := by rw [hX]; exact sealOf_bytes _ _ _ hmb
  have HXU : Hid ((u8s X).length = 48) := by show _ = _; rw [u8s_length]; exact hxl
  have hxt : X.take 32 = encOf ks ns ms := by have h := sealOf_take ks ns labWrap ms; rw [hml, ← hX] at h; exact h
  have hxd : X.drop 32 = tagOf ks ns labWrap (encOf ks ns ms) := by have h := sealOf_drop ks ns labWrap ms; rw [hml, ← hX] at h; exact h
  have HF : Hid (∀ _ : Unit, X.drop 32 = tagOf ks (nonceOf p n) labWrap (X.take 32)) := fun _ => by rw [← hns, hxt, hxd]
  have HZ : Hid (∀ _ : Unit, ms = encOf ks (nonceOf p n) (X.take 32)) := fun _ => by rw [← hns, hxt]; exact (encOf_twice _ _ hmb).symm
  obtain ⟨j, hj, hja⟩ : ∃ j : Nat, j < 16 ∧ a % 16 = (j : Int) := ⟨(a % 16).toNat, by omega, by omega⟩
  have hat : a.tmod 16 = (j : Int) := by rw [Int.tmod_eq_emod_of_nonneg ha.1]; exact hja
  obtain ⟨x, hx⟩ : ∃ x, x = X.getD (32 + j) 0 := ⟨_, rfl⟩
  have HVX : Hid ((u8s X)[32 + j]? = some (.int .u8 x)) := by show _ = _; rw [u8s_get _ _ (by rw [hxl]; omega), hx]
  have hxb : 0 ≤ x ∧ x < 256 := by rw [hx]; exact HXB.out.get _
  obtain ⟨y, hy⟩ : ∃ y, y = bits .xor .u8 x 0 := ⟨_, rfl⟩
  have HXY : Hid (∀ _ : Unit, bits .xor .u8 x 0 = y) := fun _ => hy.symm
  have hyx : y = x := by rw [hy]; exact (xor_same hxb (by omega)).2 rfl
  have HST : Hid ((u8s X).set (32 + j) (.int .u8 y) = u8s X) := by
    show _ = _
    rw [u8s_set]
    exact congrArg u8s ((set_same_iff X (32 + j) y (by rw [hxl]; omega)).2 (by rw [hyx, hx])).symm
  have heqk : ∀ W, (Op.equalIn 10000 23 (.agg (u8s ms).toArray) (.agg (u8s ms).toArray)).run Tryd.prog W = .ok true W := by
    intro W
    rw [eq_keys ms ms hml hml W]
    simp
  have HEK : Hid _ := heqk
  obtain ⟨ha0, ha1⟩ := ha
  clear ht hq hkl hml hkb hmb hp hns hX hxl hxt hxd hja hx hxb hy hyx heqk 
  go_enter Tryd.func6, Tryd.ntmps6
  go_wp2_with (first
    | ((with_reducible refine at_op (some 6) (.box 23 (.tmp 0)) ?_); refine wpl_box (u8s ks) rfl hm ?_; clear hm; intro w1 g6 hm)
    | ((with_reducible refine at_op (some 7) (.box 23 (.tmp 1)) ?_); refine wpl_box (u8s ms) rfl hm ?_; clear hm; intro w2 g7 hm)
    | (go_at_call 9; refine (known5_any _ (Tab.mem HT.out hm (by simp)) (QTab.mem HQ.out hm (by simp))).mono ?_; rintro e wk ⟨rfl, hb⟩; replace hm := hm.call hb; clear hb)
    | ((with_reducible refine at_op (some 21) (.load 23 (.tmp 6)) ?_); refine wpl_ldw 1 hm rfl rfl _ un_key rfl 32 sz_key (HKU.out) ?_)
    | ((with_reducible refine at_op (some 24) (.load 23 (.tmp 7)) ?_); refine wpl_ldw 0 hm rfl rfl _ un_key rfl 32 sz_key (HMU.out) ?_)
    | (go_at_call 20; refine (wrap_any ks ms p n HKL.out HML.out HKB.out HMB.out HP.out _ (Tab.mem HT.out hm (by simp)) (QTab.mem HQ.out hm (by simp))).mono ?_; rintro e w3 ⟨he, hb⟩; rw [HXX.out ()] at he; subst he; replace hm := hm.call hb; clear hb)
    | ((with_reducible refine at_op (some 13) (.alloc 27) ?_); refine wpl_alloc _ zero_b48 hm ?_; clear hm; intro w4 g13 hm)
    | ((with_reducible refine at_op none (.store 27 (.tmp 13) (.tmp 25)) ?_); refine wpl_stw 0 (u8s X) hm rfl rfl rfl 48 sz_b48 (by simp [u8s_length]) (HXU.out) (u8s_one _) ?_; clear hm; intro w5 hm)
    | ((with_reducible refine at_op (some 27) (.load 23 (.tmp 6)) ?_); refine wpl_ldw 2 hm rfl rfl _ un_key rfl 32 sz_key (HKU.out) ?_)
    | ((with_reducible refine at_op (some 30) (.load 27 (.tmp 13)) ?_); refine wpl_ldw 0 hm rfl rfl _ un_b48 rfl 48 sz_b48 (HXU.out) ?_))
  refine (unwrap_good ks X ms p n HKL.out HXL.out HKB.out HXB.out HP.out (HF.out ()) (HZ.out ()) _ (Tab.mem HT.out hm (by simp)) (QTab.mem HQ.out hm (by simp))).mono ?_
  rintro e w6 ⟨he, hb⟩
  subst he
  replace hm := hm.call hb
  clear hb
  go_wp2_with (first
    | ((with_reducible refine at_op (some 14) (.alloc 23) ?_); refine wpl_alloc _ zero_key hm ?_; clear hm; intro w7 g14 hm)
    | ((with_reducible refine at_op none (.store 23 (.tmp 14) (.tmp 32)) ?_); refine wpl_stw 0 (u8s ms) hm rfl rfl rfl 32 sz_key (by simp [u8s_length]) (HMU.out) (u8s_one _) ?_; clear hm; intro w8 hm)
    | ((with_reducible refine at_op (some 39) (.load 5 (.tmp 38)) ?_); refine wpl_ldc 1 (32 + j) (.int .u8 x) hm rfl rfl ag_u8 (HVX.out) ?_)
    | ((with_reducible refine at_op none (.store 5 (.tmp 42) (.tmp 41)) ?_); go_must (refine wpl_stc 1 (32 + j) (.int .u8 y) hm rfl rfl (by rw [← HXY.out ()]; rfl) sz_u8 (by rw [HXU.out]; omega) rfl rfl ?_); clear hm; intro w9 hm; replace hm : Mem w [] w9 [(g14, u8s ms, 23), (g13, u8s X, 27), (g7, u8s ms, 23), (g6, u8s ks, 23)] := (by rw [HST.out] at hm; exact hm))
    | ((with_reducible refine at_op (some 44) (.load 23 (.tmp 6)) ?_); refine wpl_ldw 3 hm rfl rfl _ un_key rfl 32 sz_key (HKU.out) ?_)
    | ((with_reducible refine at_op (some 47) (.load 27 (.tmp 13)) ?_); refine wpl_ldw 1 hm rfl rfl _ un_b48 rfl 48 sz_b48 (HXU.out) ?_))
  refine (unwrap_good ks X ms p n HKL.out HXL.out HKB.out HXB.out HP.out (HF.out ()) (HZ.out ()) _ (Tab.mem HT.out hm (by simp)) (QTab.mem HQ.out hm (by simp))).mono ?_
  rintro e w10 ⟨he, hb⟩
  subst he
  replace hm := hm.call hb
  clear hb
  go_wp2_with (first
    | ((with_reducible refine at_op (some 16) (.alloc 23) ?_); refine wpl_alloc _ zero_key hm ?_; clear hm; intro w11 g16 hm)
    | ((with_reducible refine at_op none (.store 23 (.tmp 16) (.tmp 49)) ?_); refine wpl_stw 0 (u8s ms) hm rfl rfl rfl 32 sz_key (by simp [u8s_length]) (HMU.out) (u8s_one _) ?_; clear hm; intro w12 hm))
  refine wp_ends0 ?_
  refine anyH_start (T := fun W => Mem w [] W [(g16, u8s ms, 23), (g14, u8s ms, 23), (g13, u8s X, 27), (g7, u8s ms, 23), (g6, u8s ks, 23)]) (by kernel_rfl) hm ?_
  clear hm
  intro w13 hm
  refine anyH_takeG 0 (v := .agg (u8s ks).toArray) rfl (by kernel_rfl) (by kernel_rfl) (by kernel_rfl) rfl (fun W hW => exec_ldsG 0 _ (Mem.get hW 4 rfl) rfl _ un_key rfl 32 sz_key (by rw [HKU.out]; omega) (by rw [List.drop_zero, List.take_of_length_le (Nat.le_of_eq HKU.out)])) hm ?_
  go_simp
  refine anyH_takeG 1 (v := .int .u32 p) rfl (by kernel_rfl) (by kernel_rfl) (by kernel_rfl) rfl (fun W _ => by go_simp) hm ?_
  go_simp
  refine anyH_takeG 2 (v := .int .u64 n) rfl (by kernel_rfl) (by kernel_rfl) (by kernel_rfl) rfl (fun W _ => by go_simp) hm ?_
  go_simp
  refine anyH_takeG 6 (v := .slice (some ⟨g7, 0, none⟩) 32 32) rfl (by kernel_rfl) (by kernel_rfl) (by kernel_rfl) rfl (fun W _ => by go_simp) hm ?_
  go_simp
  refine wpAnyH_all (rs := [3, 4]) (by kernel_rfl) (by simp) ?_
  intro i hi
  simp only [List.mem_cons, List.not_mem_nil, or_false] at hi
  rcases hi with rfl | rfl
  · refine anyH_op 3 rfl rfl ?_
    intro K hK
    go_wp2_with (go_at_call 10; refine (nonce_any p n HP.out _).mono ?_; rintro e wn ⟨he, hb⟩; rw [HNN.out ()] at he; subst he; replace hm := hm.call hb; clear hb)
    refine hK _ _ hm ?_
    clear hK K
    refine wpAnyH_all (rs := [4]) (by kernel_rfl) (by simp) ?_
    intro i hi
    simp only [List.mem_cons, List.not_mem_nil, or_false] at hi
    subst hi
    refine anyH_op 4 rfl rfl ?_
    intro K hK
    refine wpl_litW un_bs info_u8 hm ?_
    clear hm
    intro wl gl hm hb
    clear hb
    refine wpList_nil ?_
    refine hK _ _ hm.tail ?_
    clear hK K
    refine wpAnyH_all (rs := [5]) (by kernel_rfl) (by simp) ?_
    intro i hi
    simp only [List.mem_cons, List.not_mem_nil, or_false] at hi
    subst hi
    refine anyH_op 5 rfl rfl ?_
    intro K hK
    refine wpl_cvl labWrap rfl un_bs un_u8 rfl rfl hm ?_
    clear hm
    intro wv hm hs
    have HW : Hid (SlOld wv (.slice (some ⟨gl, 0, none⟩) 4 4) labWrap) := hs
    clear hs
    refine wpList_nil ?_
    refine hK _ _ hm ?_
    clear hK K
    refine wpAnyH_all (rs := [7]) (by kernel_rfl) (by simp) ?_
    intro i hi
    simp only [List.mem_cons, List.not_mem_nil, or_false] at hi
    subst hi
    refine anyH_op 7 rfl rfl ?_
    intro K hK
    go_wp2_with (go_at_call 18; refine (seal_any ks ns labWrap ms _ _ HKL.out HNL.out HKB.out HNB.out labWrap_bytes HMB.out (by decide) (by rw [HML.out]; omega) _ (Tab.mem HT.out hm (by simp)) (QTab.mem HQ.out hm (by simp)) HW.out (old_all (hm.get 3 rfl) HML.out (Nat.le_refl _))).mono ?_; rintro e wx ⟨gs, cap, l, he, hcap, hge, hr, hb⟩; rw [HML.out] at he hcap; subst he; replace hm := hm.call hb; clear hb hr hge)
    refine hK _ _ hm ?_
    clear hK K
    refine anyH_takeG 8 (v := .slice (some ⟨gs, 0, none⟩) 48 cap) rfl (by kernel_rfl) (by kernel_rfl) (by kernel_rfl) rfl (fun W _ => by go_simp) hm ?_
    go_simp
    refine wpAnyH_done (by kernel_rfl) ?_ _
    simp only [endsIn]
    have heqk := HEK.out
    go_wp2_with (first
      | ((with_reducible refine at_opG (some 62) (.load 23 (.tmp 14)) (some (2, true)) ?_); go_must (refine wpl_execG (.agg (u8s ms).toArray) rfl (exec_ldsG 0 _ (hm.get 1 rfl) rfl _ un_key rfl 32 sz_key (by rw [HMU.out]; omega) (by rw [List.drop_zero, List.take_of_length_le (Nat.le_of_eq HMU.out)])) ?_))
      | ((with_reducible refine at_opG (some 63) (.load 23 (.tmp 7)) (some (2, true)) ?_); go_must (refine wpl_execG (.agg (u8s ms).toArray) rfl (exec_ldsG 0 _ (hm.get 3 rfl) rfl _ un_key rfl 32 sz_key (by rw [HMU.out]; omega) (by rw [List.drop_zero, List.take_of_length_le (Nat.le_of_eq HMU.out)])) ?_)))
    go_ret
    exact ⟨rfl, hm.below⟩
  · refine anyH_op 4 rfl rfl ?_
    intro K hK
    refine wpl_litW un_bs info_u8 hm ?_
    clear hm
    intro wl gl hm hb
    clear hb
    refine wpList_nil ?_
    refine hK _ _ hm.tail ?_
    clear hK K
    refine wpAnyH_all (rs := [3, 5]) (by kernel_rfl) (by simp) ?_
    intro i hi
    simp only [List.mem_cons, List.not_mem_nil, or_false] at hi
    rcases hi with rfl | rfl
    · refine anyH_op 3 rfl rfl ?_
      intro K hK
      go_wp2_with (go_at_call 10; refine (nonce_any p n HP.out _).mono ?_; rintro e wn ⟨he, hb⟩; rw [HNN.out ()] at he; subst he; replace hm := hm.call hb; clear hb)
      refine hK _ _ hm.tail ?_
      clear hK K
      refine wpAnyH_all (rs := [5]) (by kernel_rfl) (by simp) ?_
      intro i hi
      simp only [List.mem_cons, List.not_mem_nil, or_false] at hi
      subst hi
      refine anyH_op 5 rfl rfl ?_
      intro K hK
      refine wpl_cvl labWrap rfl un_bs un_u8 rfl rfl hm ?_
      clear hm
      intro wv hm hs
      have HW : Hid (SlOld wv (.slice (some ⟨gl, 0, none⟩) 4 4) labWrap) := hs
      clear hs
      refine wpList_nil ?_
      refine hK _ _ hm ?_
      clear hK K
      refine wpAnyH_all (rs := [7]) (by kernel_rfl) (by simp) ?_
      intro i hi
      simp only [List.mem_cons, List.not_mem_nil, or_false] at hi
      subst hi
      refine anyH_op 7 rfl rfl ?_
      intro K hK
      go_wp2_with (go_at_call 18; refine (seal_any ks ns labWrap ms _ _ HKL.out HNL.out HKB.out HNB.out labWrap_bytes HMB.out (by decide) (by rw [HML.out]; omega) _ (Tab.mem HT.out hm (by simp)) (QTab.mem HQ.out hm (by simp)) HW.out (old_all (hm.get 3 rfl) HML.out (Nat.le_refl _))).mono ?_; rintro e wx ⟨gs, cap, l, he, hcap, hge, hr, hb⟩; rw [HML.out] at he hcap; subst he; replace hm := hm.call hb; clear hb hr hge)
      refine hK _ _ hm ?_
      clear hK K
      refine anyH_takeG 8 (v := .slice (some ⟨gs, 0, none⟩) 48 cap) rfl (by kernel_rfl) (by kernel_rfl) (by kernel_rfl) rfl (fun W _ => by go_simp) hm ?_
      go_simp
      refine wpAnyH_done (by kernel_rfl) ?_ _
      simp only [endsIn]
      have heqk := HEK.out
      go_wp2_with (first
        | ((with_reducible refine at_opG (some 62) (.load 23 (.tmp 14)) (some (2, true)) ?_); go_must (refine wpl_execG (.agg (u8s ms).toArray) rfl (exec_ldsG 0 _ (hm.get 1 rfl) rfl _ un_key rfl 32 sz_key (by rw [HMU.out]; omega) (by rw [List.drop_zero, List.take_of_length_le (Nat.le_of_eq HMU.out)])) ?_))
        | ((with_reducible refine at_opG (some 63) (.load 23 (.tmp 7)) (some (2, true)) ?_); go_must (refine wpl_execG (.agg (u8s ms).toArray) rfl (exec_ldsG 0 _ (hm.get 3 rfl) rfl _ un_key rfl 32 sz_key (by rw [HMU.out]; omega) (by rw [List.drop_zero, List.take_of_length_le (Nat.le_of_eq HMU.out)])) ?_)))
      go_ret
      exact ⟨rfl, hm.below⟩
    · refine anyH_op 5 rfl rfl ?_
      intro K hK
      refine wpl_cvl labWrap rfl un_bs un_u8 rfl rfl hm ?_
      clear hm
      intro wv hm hs
      have HW : Hid (SlOld wv (.slice (some ⟨gl, 0, none⟩) 4 4) labWrap) := hs
      clear hs
      refine wpList_nil ?_
      refine hK _ _ hm ?_
      clear hK K
      refine wpAnyH_all (rs := [3]) (by kernel_rfl) (by simp) ?_
      intro i hi
      simp only [List.mem_cons, List.not_mem_nil, or_false] at hi
      subst hi
      refine anyH_op 3 rfl rfl ?_
      intro K hK
      go_wp2_with (go_at_call 10; refine (nonce_any p n HP.out _).mono ?_; rintro e wn ⟨he, hb⟩; rw [HNN.out ()] at he; subst he; have HW' : Hid (SlOld wn (.slice (some ⟨gl, 0, none⟩) 4 4) labWrap) := SlOld.below HW.out hb; clear HW; have HW := HW'; replace hm := hm.call hb; clear hb)
      refine hK _ _ hm ?_
      clear hK K
      refine wpAnyH_all (rs := [7]) (by kernel_rfl) (by simp) ?_
      intro i hi
      simp only [List.mem_cons, List.not_mem_nil, or_false] at hi
      subst hi
      refine anyH_op 7 rfl rfl ?_
      intro K hK
      go_wp2_with (go_at_call 18; refine (seal_any ks ns labWrap ms _ _ HKL.out HNL.out HKB.out HNB.out labWrap_bytes HMB.out (by decide) (by rw [HML.out]; omega) _ (Tab.mem HT.out hm (by simp)) (QTab.mem HQ.out hm (by simp)) HW.out (old_all (hm.get 3 rfl) HML.out (Nat.le_refl _))).mono ?_; rintro e wx ⟨gs, cap, l, he, hcap, hge, hr, hb⟩; rw [HML.out] at he hcap; subst he; replace hm := hm.call hb; clear hb hr hge)
      refine hK _ _ hm ?_
      clear hK K
      refine anyH_takeG 8 (v := .slice (some ⟨gs, 0, none⟩) 48 cap) rfl (by kernel_rfl) (by kernel_rfl) (by kernel_rfl) rfl (fun W _ => by go_simp) hm ?_
      go_simp
      refine wpAnyH_done (by kernel_rfl) ?_ _
      simp only [endsIn]
      have heqk := HEK.out
      go_wp2_with (first
        | ((with_reducible refine at_opG (some 62) (.load 23 (.tmp 14)) (some (2, true)) ?_); go_must (refine wpl_execG (.agg (u8s ms).toArray) rfl (exec_ldsG 0 _ (hm.get 1 rfl) rfl _ un_key rfl 32 sz_key (by rw [HMU.out]; omega) (by rw [List.drop_zero, List.take_of_length_le (Nat.le_of_eq HMU.out)])) ?_))
        | ((with_reducible refine at_opG (some 63) (.load 23 (.tmp 7)) (some (2, true)) ?_); go_must (refine wpl_execG (.agg (u8s ms).toArray) rfl (exec_ldsG 0 _ (hm.get 3 rfl) rfl _ un_key rfl 32 sz_key (by rw [HMU.out]; omega) (by rw [List.drop_zero, List.take_of_length_le (Nat.le_of_eq HMU.out)])) ?_)))
      go_ret
      exact ⟨rfl, hm.below⟩
set_option maxRecDepth 100000 in
theorem sealWraps_walk (ks ms : List Int) (p n a b : Int) (hkl : ks.length = 32) (hml : ms.length = 32) (hkb : Bytes ks) (hmb : Bytes ms) (hp : 0 ≤ p ∧ p < 4294967296) (ha : 0 ≤ a ∧ a ≤ 255) (hb0 : 0 ≤ b ∧ b ≤ 255) (w : World) (ht : Tab w) (hq : QTab w) :
    Calls Tryd.prog 6 #[.agg (u8s ks).toArray, .agg (u8s ms).toArray, .int .u32 p, .int .u64 n, .int .u8 a, .int .u8 b] w fun e w' => e = .returned (.bool true) ∧ Below w.heap.size w w' := by
  by_cases h : b = 0
  · subst h
    exact sealWraps_same ks ms p n a hkl hml hkb hmb hp ha w ht hq
  · exact sealWraps_turned ks ms p n a b hkl hml hkb hmb hp ha hb0 h w ht hq
end Go.Proofs.YtbfccepddfinoaaDoor
