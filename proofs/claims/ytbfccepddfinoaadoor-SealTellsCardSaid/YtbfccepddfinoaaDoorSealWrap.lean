/- The contracts of Wrap and of Unwrap. -/
import Derived.Test.YtbfccepddfinoaaDoorSealOpen
namespace Go.Proofs.YtbfccepddfinoaaDoor
open Go Go.RowKit
set_option maxRecDepth 100000 in
theorem built_zero : Tryd.prog.built 23 [] = some (u8s (List.replicate 32 0)).toArray := by kernel_rfl
set_option maxHeartbeats 2000000 in
set_option maxRecDepth 100000 in
theorem wrap_any (ks ms : List Int) (p n : Int) (hkl : ks.length = 32) (hml : ms.length = 32) (hkb : Bytes ks) (hmb : Bytes ms) (hp : 0 ≤ p ∧ p < 4294967296) (w : World) (ht : Tab w) (hq : QTab w) :
    Calls Tryd.prog 20 #[.agg (u8s ks).toArray, .int .u32 p, .int .u64 n, .agg (u8s ms).toArray] w fun e w' => e = .returned (.agg (u8s (sealOf ks (nonceOf p n) labWrap ms)).toArray) ∧ Below w.heap.size w w' := by
  have hm := Mem.start w
  have HT : Hid _ := ht
  have HQ : Hid _ := hq
  have HKL : Hid _ := hkl
  have HKB : Hid _ := hkb
  have HP : Hid (0 ≤ p ∧ p < 4294967296) := hp
  have HKU : Hid ((u8s ks).length = 32) := by show _ = _; rw [u8s_length]; exact hkl
  obtain ⟨ns, hns⟩ : ∃ ns, ns = nonceOf p n := ⟨_, rfl⟩
  have HNN : Hid (∀ _ : Unit, nonceOf p n = ns) := fun _ => hns.symm
  have HNL : Hid (ns.length = 12) := by show _ = _; rw [hns, nonceOf_length]
  have HNB : Hid (Bytes ns) := by rw [hns]; exact nonceOf_bytes _ _
  have HML : Hid _ := hml
  have HMB : Hid _ := hmb
  obtain ⟨X, hX⟩ : ∃ X, X = sealOf ks ns labWrap ms := ⟨_, rfl⟩
  have HSS : Hid (∀ _ : Unit, sealOf ks ns labWrap ms = X) := fun _ => hX.symm
  have HXX : Hid (∀ _ : Unit, sealOf ks (nonceOf p n) labWrap ms = X) := fun _ => by rw [hX, hns]
  have HXU : Hid ((u8s X).length = 48) := by show _ = _; rw [u8s_length, hX, sealOf_length, hml]
  clear ht hq hkl hml hkb hmb hp hns hX
  go_enter Tryd.func20, Tryd.ntmps20
  go_wp2_with (first
    | ((with_reducible refine at_op (some 4) (.box 23 (.tmp 0)) ?_); refine wpl_box (u8s ks) rfl hm ?_; clear hm; intro w1 g4 hm)
    | ((with_reducible refine at_op (some 7) (.box 23 (.tmp 3)) ?_); refine wpl_box (u8s ms) rfl hm ?_; clear hm; intro w2 g7 hm)
    | ((with_reducible refine at_op (some 8) (.alloc 27) ?_); refine wpl_alloc _ zero_b48 hm ?_; clear hm; intro w3 g8 hm))
  refine wp_ends0 ?_
  refine anyH_start (T := fun W => Mem w [] W [(g7, u8s ms, 23), (g4, u8s ks, 23)]) (by kernel_rfl) hm ?_
  clear hm
  intro w4 hm
  refine anyH_takeG 0 (v := .agg (u8s ks).toArray) rfl (by kernel_rfl) (by kernel_rfl) (by kernel_rfl) rfl (fun W hW => exec_ldsG 0 _ (Mem.get hW 1 rfl) rfl _ un_key rfl 32 sz_key (by rw [HKU.out]; omega) (by rw [List.drop_zero, List.take_of_length_le (Nat.le_of_eq HKU.out)])) hm.tail ?_
  go_simp
  refine anyH_takeG 1 (v := .int .u32 p) rfl (by kernel_rfl) (by kernel_rfl) (by kernel_rfl) rfl (fun W _ => by go_simp) hm.tail ?_
  go_simp
  refine anyH_takeG 2 (v := .int .u64 n) rfl (by kernel_rfl) (by kernel_rfl) (by kernel_rfl) rfl (fun W _ => by go_simp) hm.tail ?_
  go_simp
  refine anyH_takeG 6 (v := .slice (some ⟨g7, 0, none⟩) 32 32) rfl (by kernel_rfl) (by kernel_rfl) (by kernel_rfl) rfl (fun W _ => by go_simp) hm.tail ?_
  go_simp
  refine wpAnyH_all (rs := [3, 4]) (by kernel_rfl) (by simp) ?_
  intro i hi
  simp only [List.mem_cons, List.not_mem_nil, or_false] at hi
  rcases hi with rfl | rfl
  · refine anyH_op 3 rfl rfl ?_
    intro K hK
    go_wp2_with (go_at_call 10; refine (nonce_any p n HP.out _).mono ?_; rintro e wn ⟨he, hb⟩; rw [HNN.out ()] at he; subst he; replace hm := hm.call hb; clear hb)
    refine hK _ _ hm.tail ?_
    clear hK K
    refine wpAnyH_all (rs := [4]) (by kernel_rfl) (by simp) ?_
    intro i hi
    simp only [List.mem_cons, List.not_mem_nil, or_false] at hi
    subst hi
    refine anyH_op 4 rfl rfl ?_
    intro K hK
    refine wpl_litW un_bs info_u8 hm ?_
    clear hm
    intro wl gl hm hb
    clear hb
    refine wpList_nil ?_
    refine hK _ _ hm.tail.tail ?_
    clear hK K
    refine wpAnyH_all (rs := [5]) (by kernel_rfl) (by simp) ?_
    intro i hi
    simp only [List.mem_cons, List.not_mem_nil, or_false] at hi
    subst hi
    refine anyH_op 5 rfl rfl ?_
    intro K hK
    refine wpl_cvl labWrap rfl un_bs un_u8 rfl rfl hm ?_
    clear hm
    intro wv hm hs
    have HW : Hid (SlOld wv (.slice (some ⟨gl, 0, none⟩) 4 4) labWrap) := hs
    clear hs
    refine wpList_nil ?_
    refine hK _ _ hm.tail ?_
    clear hK K
    refine wpAnyH_all (rs := [7]) (by kernel_rfl) (by simp) ?_
    intro i hi
    simp only [List.mem_cons, List.not_mem_nil, or_false] at hi
    subst hi
    refine anyH_op 7 rfl rfl ?_
    intro K hK
    go_wp2_with (go_at_call 18; refine (seal_any ks ns labWrap ms _ _ HKL.out HNL.out HKB.out HNB.out labWrap_bytes HMB.out (by decide) (by rw [HML.out]; omega) _ (Tab.mem HT.out hm (by simp)) (QTab.mem HQ.out hm (by simp)) HW.out (old_all (hm.get 1 rfl) HML.out (Nat.le_refl _))).mono ?_; rintro e wx ⟨gs, cap, l, he, hcap, hge, hr, hb⟩; rw [HML.out] at he hcap; subst he; rw [HSS.out ()] at hr; replace hm := hm.callNew hb hr hge; clear hb hr hge)
    refine hK _ _ hm.tail.tail ?_
    clear hK K
    refine anyH_takeG 8 (v := .pointer (some ⟨gs, 0, none⟩)) rfl (by kernel_rfl) (by kernel_rfl) (by kernel_rfl) rfl (fun W _ => exec_s2a 48 un_b48 (by omega) rfl) hm.tail.tail ?_
    go_simp
    refine wpAnyH_all (rs := [9]) (by kernel_rfl) (by simp) ?_
    intro i hi
    simp only [List.mem_cons, List.not_mem_nil, or_false] at hi
    subst hi
    refine anyH_op 9 rfl rfl ?_
    intro K hK
    refine wpl_execG (.agg (u8s X).toArray) rfl (exec_lds 0 _ (hm.get 0 rfl) rfl _ un_b48 rfl 48 sz_b48 (by rw [List.length_append, HXU.out]; omega) (by rw [List.drop_zero, List.take_append_of_le_length (by rw [HXU.out]; omega), List.take_of_length_le (Nat.le_of_eq HXU.out)])) ?_
    refine wpList_nil ?_
    refine hK _ _ hm.tail.tail ?_
    clear hK K
    refine wpAnyH_all (rs := [10]) (by kernel_rfl) (by simp) ?_
    intro i hi
    simp only [List.mem_cons, List.not_mem_nil, or_false] at hi
    subst hi
    refine anyH_op 10 rfl rfl ?_
    intro K hK
    refine wpl_stw 1 (u8s X) hm rfl rfl rfl 48 sz_b48 (by simp [u8s_length]) HXU.out (u8s_one _) ?_
    clear hm
    intro wy hm
    refine wpList_nil ?_
    refine hK _ _ hm.tail.tail ?_
    clear hK K
    refine wpAnyH_done (by kernel_rfl) ?_ _
    simp only [endsIn]
    go_wp2_with fail
    exact ret_cell 1 hm rfl Tryd.results20 rfl _ un_b48 rfl 48 sz_b48 HXU.out rfl ⟨by rw [HXX.out ()], hm.below⟩
  · refine anyH_op 4 rfl rfl ?_
    intro K hK
    refine wpl_litW un_bs info_u8 hm ?_
    clear hm
    intro wl gl hm hb
    clear hb
    refine wpList_nil ?_
    refine hK _ _ hm.tail.tail ?_
    clear hK K
    refine wpAnyH_all (rs := [3, 5]) (by kernel_rfl) (by simp) ?_
    intro i hi
    simp only [List.mem_cons, List.not_mem_nil, or_false] at hi
    rcases hi with rfl | rfl
    · refine anyH_op 3 rfl rfl ?_
      intro K hK
      go_wp2_with (go_at_call 10; refine (nonce_any p n HP.out _).mono ?_; rintro e wn ⟨he, hb⟩; rw [HNN.out ()] at he; subst he; replace hm := hm.call hb; clear hb)
      refine hK _ _ hm.tail.tail ?_
      clear hK K
      refine wpAnyH_all (rs := [5]) (by kernel_rfl) (by simp) ?_
      intro i hi
      simp only [List.mem_cons, List.not_mem_nil, or_false] at hi
      subst hi
      refine anyH_op 5 rfl rfl ?_
      intro K hK
      refine wpl_cvl labWrap rfl un_bs un_u8 rfl rfl hm ?_
      clear hm
      intro wv hm hs
      have HW : Hid (SlOld wv (.slice (some ⟨gl, 0, none⟩) 4 4) labWrap) := hs
      clear hs
      refine wpList_nil ?_
      refine hK _ _ hm.tail ?_
      clear hK K
      refine wpAnyH_all (rs := [7]) (by kernel_rfl) (by simp) ?_
      intro i hi
      simp only [List.mem_cons, List.not_mem_nil, or_false] at hi
      subst hi
      refine anyH_op 7 rfl rfl ?_
      intro K hK
      go_wp2_with (go_at_call 18; refine (seal_any ks ns labWrap ms _ _ HKL.out HNL.out HKB.out HNB.out labWrap_bytes HMB.out (by decide) (by rw [HML.out]; omega) _ (Tab.mem HT.out hm (by simp)) (QTab.mem HQ.out hm (by simp)) HW.out (old_all (hm.get 1 rfl) HML.out (Nat.le_refl _))).mono ?_; rintro e wx ⟨gs, cap, l, he, hcap, hge, hr, hb⟩; rw [HML.out] at he hcap; subst he; rw [HSS.out ()] at hr; replace hm := hm.callNew hb hr hge; clear hb hr hge)
      refine hK _ _ hm.tail.tail ?_
      clear hK K
      refine anyH_takeG 8 (v := .pointer (some ⟨gs, 0, none⟩)) rfl (by kernel_rfl) (by kernel_rfl) (by kernel_rfl) rfl (fun W _ => exec_s2a 48 un_b48 (by omega) rfl) hm.tail.tail ?_
      go_simp
      refine wpAnyH_all (rs := [9]) (by kernel_rfl) (by simp) ?_
      intro i hi
      simp only [List.mem_cons, List.not_mem_nil, or_false] at hi
      subst hi
      refine anyH_op 9 rfl rfl ?_
      intro K hK
      refine wpl_execG (.agg (u8s X).toArray) rfl (exec_lds 0 _ (hm.get 0 rfl) rfl _ un_b48 rfl 48 sz_b48 (by rw [List.length_append, HXU.out]; omega) (by rw [List.drop_zero, List.take_append_of_le_length (by rw [HXU.out]; omega), List.take_of_length_le (Nat.le_of_eq HXU.out)])) ?_
      refine wpList_nil ?_
      refine hK _ _ hm.tail.tail ?_
      clear hK K
      refine wpAnyH_all (rs := [10]) (by kernel_rfl) (by simp) ?_
      intro i hi
      simp only [List.mem_cons, List.not_mem_nil, or_false] at hi
      subst hi
      refine anyH_op 10 rfl rfl ?_
      intro K hK
      refine wpl_stw 1 (u8s X) hm rfl rfl rfl 48 sz_b48 (by simp [u8s_length]) HXU.out (u8s_one _) ?_
      clear hm
      intro wy hm
      refine wpList_nil ?_
      refine hK _ _ hm.tail.tail ?_
      clear hK K
      refine wpAnyH_done (by kernel_rfl) ?_ _
      simp only [endsIn]
      go_wp2_with fail
      exact ret_cell 1 hm rfl Tryd.results20 rfl _ un_b48 rfl 48 sz_b48 HXU.out rfl ⟨by rw [HXX.out ()], hm.below⟩
    · refine anyH_op 5 rfl rfl ?_
      intro K hK
      refine wpl_cvl labWrap rfl un_bs un_u8 rfl rfl hm ?_
      clear hm
      intro wv hm hs
      have HW : Hid (SlOld wv (.slice (some ⟨gl, 0, none⟩) 4 4) labWrap) := hs
      clear hs
      refine wpList_nil ?_
      refine hK _ _ hm.tail ?_
      clear hK K
      refine wpAnyH_all (rs := [3]) (by kernel_rfl) (by simp) ?_
      intro i hi
      simp only [List.mem_cons, List.not_mem_nil, or_false] at hi
      subst hi
      refine anyH_op 3 rfl rfl ?_
      intro K hK
      go_wp2_with (go_at_call 10; refine (nonce_any p n HP.out _).mono ?_; rintro e wn ⟨he, hb⟩; rw [HNN.out ()] at he; subst he; have HW' : Hid (SlOld wn (.slice (some ⟨gl, 0, none⟩) 4 4) labWrap) := SlOld.below HW.out hb; clear HW; have HW := HW'; replace hm := hm.call hb; clear hb)
      refine hK _ _ hm.tail ?_
      clear hK K
      refine wpAnyH_all (rs := [7]) (by kernel_rfl) (by simp) ?_
      intro i hi
      simp only [List.mem_cons, List.not_mem_nil, or_false] at hi
      subst hi
      refine anyH_op 7 rfl rfl ?_
      intro K hK
      go_wp2_with (go_at_call 18; refine (seal_any ks ns labWrap ms _ _ HKL.out HNL.out HKB.out HNB.out labWrap_bytes HMB.out (by decide) (by rw [HML.out]; omega) _ (Tab.mem HT.out hm (by simp)) (QTab.mem HQ.out hm (by simp)) HW.out (old_all (hm.get 1 rfl) HML.out (Nat.le_refl _))).mono ?_; rintro e wx ⟨gs, cap, l, he, hcap, hge, hr, hb⟩; rw [HML.out] at he hcap; subst he; rw [HSS.out ()] at hr; replace hm := hm.callNew hb hr hge; clear hb hr hge)
      refine hK _ _ hm.tail.tail ?_
      clear hK K
      refine anyH_takeG 8 (v := .pointer (some ⟨gs, 0, none⟩)) rfl (by kernel_rfl) (by kernel_rfl) (by kernel_rfl) rfl (fun W _ => exec_s2a 48 un_b48 (by omega) rfl) hm.tail.tail ?_
      go_simp
      refine wpAnyH_all (rs := [9]) (by kernel_rfl) (by simp) ?_
      intro i hi
      simp only [List.mem_cons, List.not_mem_nil, or_false] at hi
      subst hi
      refine anyH_op 9 rfl rfl ?_
      intro K hK
      refine wpl_execG (.agg (u8s X).toArray) rfl (exec_lds 0 _ (hm.get 0 rfl) rfl _ un_b48 rfl 48 sz_b48 (by rw [List.length_append, HXU.out]; omega) (by rw [List.drop_zero, List.take_append_of_le_length (by rw [HXU.out]; omega), List.take_of_length_le (Nat.le_of_eq HXU.out)])) ?_
      refine wpList_nil ?_
      refine hK _ _ hm.tail.tail ?_
      clear hK K
      refine wpAnyH_all (rs := [10]) (by kernel_rfl) (by simp) ?_
      intro i hi
      simp only [List.mem_cons, List.not_mem_nil, or_false] at hi
      subst hi
      refine anyH_op 10 rfl rfl ?_
      intro K hK
      refine wpl_stw 1 (u8s X) hm rfl rfl rfl 48 sz_b48 (by simp [u8s_length]) HXU.out (u8s_one _) ?_
      clear hm
      intro wy hm
      refine wpList_nil ?_
      refine hK _ _ hm.tail.tail ?_
      clear hK K
      refine wpAnyH_done (by kernel_rfl) ?_ _
      simp only [endsIn]
      go_wp2_with fail
      exact ret_cell 1 hm rfl Tryd.results20 rfl _ un_b48 rfl 48 sz_b48 HXU.out rfl ⟨by rw [HXX.out ()], hm.below⟩
set_option maxHeartbeats 2000000 in
set_option maxRecDepth 100000 in
theorem unwrap_good (ks xs Z : List Int) (p n : Int) (hkl : ks.length = 32) (hxl : xs.length = 48) (hkb : Bytes ks) (hxb : Bytes xs) (hp : 0 ≤ p ∧ p < 4294967296) (hf : xs.drop 32 = tagOf ks (nonceOf p n) labWrap (xs.take 32)) (hz : Z = encOf ks (nonceOf p n) (xs.take 32)) (w : World) (ht : Tab w) (hq : QTab w) :
    Calls Tryd.prog 13 #[.agg (u8s ks).toArray, .int .u32 p, .int .u64 n, .agg (u8s xs).toArray] w fun e w' => e = .returned (.tuple #[.agg (u8s Z).toArray, .int .i64 0]) ∧ Below w.heap.size w w' := by
  have hm := Mem.start w
  have HT : Hid _ := ht
  have HQ : Hid _ := hq
  have HKL : Hid _ := hkl
  have HKB : Hid _ := hkb
  have HP : Hid (0 ≤ p ∧ p < 4294967296) := hp
  have HKU : Hid ((u8s ks).length = 32) := by show _ = _; rw [u8s_length]; exact hkl
  obtain ⟨ns, hns⟩ : ∃ ns, ns = nonceOf p n := ⟨_, rfl⟩
  have HNN : Hid (∀ _ : Unit, nonceOf p n = ns) := fun _ => hns.symm
  have HNL : Hid (ns.length = 12) := by show _ = _; rw [hns, nonceOf_length]
  have HNB : Hid (Bytes ns) := by rw [hns]; exact nonceOf_bytes _ _
  have HXL : Hid (xs.length = 48) := hxl
  have HXB : Hid _ := hxb
  rw [← hns] at hf hz
  have HF : Hid _ := hf
  have HZZ : Hid (∀ _ : Unit, encOf ks ns (xs.take 32) = Z) := fun _ => hz.symm
  have HZU : Hid ((u8s Z).length = 32) := by show _ = _; rw [u8s_length, hz, encOf_length, List.length_take, hxl]; rfl
  clear ht hq hkl hxl hkb hxb hp hns hf hz
  go_enter Tryd.func13, Tryd.ntmps13
  go_wp2_with (first
    | ((with_reducible refine at_op (some 4) (.box 23 (.tmp 0)) ?_); refine wpl_box (u8s ks) rfl hm ?_; clear hm; intro w1 g4 hm)
    | ((with_reducible refine at_op (some 7) (.box 27 (.tmp 3)) ?_); refine wpl_box (u8s xs) rfl hm ?_; clear hm; intro w2 g7 hm)
    | ((with_reducible refine at_op (some 8) (.alloc 23) ?_); refine wpl_alloc _ zero_key hm ?_; clear hm; intro w3 g8 hm))
  refine wp_ends0 ?_
  refine anyH_start (T := fun W => Mem w [] W [(g8, u8s (List.replicate 32 0), 23), (g7, u8s xs, 27), (g4, u8s ks, 23)]) (by kernel_rfl) hm ?_
  clear hm
  intro w4 hm
  refine anyH_takeG 0 (v := .agg (u8s ks).toArray) rfl (by kernel_rfl) (by kernel_rfl) (by kernel_rfl) rfl (fun W hW => exec_ldsG 0 _ (Mem.get hW 2 rfl) rfl _ un_key rfl 32 sz_key (by rw [HKU.out]; omega) (by rw [List.drop_zero, List.take_of_length_le (Nat.le_of_eq HKU.out)])) hm ?_
  go_simp
  refine anyH_takeG 1 (v := .int .u32 p) rfl (by kernel_rfl) (by kernel_rfl) (by kernel_rfl) rfl (fun W _ => by go_simp) hm ?_
  go_simp
  refine anyH_takeG 2 (v := .int .u64 n) rfl (by kernel_rfl) (by kernel_rfl) (by kernel_rfl) rfl (fun W _ => by go_simp) hm ?_
  go_simp
  refine anyH_takeG 6 (v := .slice (some ⟨g7, 0, none⟩) 48 48) rfl (by kernel_rfl) (by kernel_rfl) (by kernel_rfl) rfl (fun W _ => by go_simp) hm ?_
  go_simp
  refine wpAnyH_all (rs := [3, 4]) (by kernel_rfl) (by simp) ?_
  intro i hi
  simp only [List.mem_cons, List.not_mem_nil, or_false] at hi
  rcases hi with rfl | rfl
  · refine anyH_op 3 rfl rfl ?_
    intro K hK
    go_wp2_with (go_at_call 10; refine (nonce_any p n HP.out _).mono ?_; rintro e wn ⟨he, hb⟩; rw [HNN.out ()] at he; subst he; replace hm := hm.call hb; clear hb)
    refine hK _ _ hm ?_
    clear hK K
    refine wpAnyH_all (rs := [4]) (by kernel_rfl) (by simp) ?_
    intro i hi
    simp only [List.mem_cons, List.not_mem_nil, or_false] at hi
    subst hi
    refine anyH_op 4 rfl rfl ?_
    intro K hK
    refine wpl_litW un_bs info_u8 hm ?_
    clear hm
    intro wl gl hm hb
    clear hb
    refine wpList_nil ?_
    refine hK _ _ hm.tail ?_
    clear hK K
    refine wpAnyH_all (rs := [5]) (by kernel_rfl) (by simp) ?_
    intro i hi
    simp only [List.mem_cons, List.not_mem_nil, or_false] at hi
    subst hi
    refine anyH_op 5 rfl rfl ?_
    intro K hK
    refine wpl_cvl labWrap rfl un_bs un_u8 rfl rfl hm ?_
    clear hm
    intro wv hm hs
    have HW : Hid (SlOld wv (.slice (some ⟨gl, 0, none⟩) 4 4) labWrap) := hs
    clear hs
    refine wpList_nil ?_
    refine hK _ _ hm ?_
    clear hK K
    refine wpAnyH_all (rs := [7]) (by kernel_rfl) (by simp) ?_
    intro i hi
    simp only [List.mem_cons, List.not_mem_nil, or_false] at hi
    subst hi
    refine anyH_op 7 rfl rfl ?_
    intro K hK
    go_wp2_with (go_at_call 11; refine (open_good ks ns labWrap xs _ _ 0 48 32 HXL.out (by omega) HF.out HKL.out HNL.out HKB.out HNB.out labWrap_bytes HXB.out (by decide) (by rw [HXL.out]; omega) _ (Tab.mem HT.out hm (by simp)) (QTab.mem HQ.out hm (by simp)) HW.out (Seg.row (hm.get 1 rfl))).mono ?_; rintro e wx ⟨g, he, hge, hr, hb⟩; subst he; rw [HZZ.out ()] at hr; replace hm := hm.callNew hb hr hge; clear hb hr hge)
    refine hK _ _ hm.tail ?_
    clear hK K
    refine anyH_takeG 8 (v := .tuple #[.slice (some ⟨g, 0, none⟩) 32 32, .int .i64 0]) rfl (by kernel_rfl) (by kernel_rfl) (by kernel_rfl) rfl (fun W _ => by go_simp) hm.tail ?_
    go_simp
    refine anyH_takeG 9 (v := .slice (some ⟨g, 0, none⟩) 32 32) rfl (by kernel_rfl) (by kernel_rfl) (by kernel_rfl) rfl (fun W _ => by go_simp) hm.tail ?_
    go_simp
    refine anyH_takeG 10 (v := .int .i64 0) rfl (by kernel_rfl) (by kernel_rfl) (by kernel_rfl) rfl (fun W _ => by go_simp) hm.tail ?_
    go_simp
    refine anyH_takeG 11 (v := .slice (some ⟨g, 0, none⟩) 32 32) rfl (by kernel_rfl) (by kernel_rfl) (by kernel_rfl) rfl (fun W _ => by go_simp) hm.tail ?_
    go_simp
    refine anyH_takeG 12 (v := .int .i64 0) rfl (by kernel_rfl) (by kernel_rfl) (by kernel_rfl) rfl (fun W _ => by go_simp) hm.tail ?_
    go_simp
    refine wpAnyH_done (by kernel_rfl) ?_ _
    simp only [endsIn]
    go_wp2_with (first
      | ((with_reducible refine at_op (some 28) (.sliceToArrayPointer 23 (.tmp 27)) ?_); go_must (refine wpl_s2a 32 un_key (by omega) rfl ?_))
      | ((with_reducible refine at_op (some 29) (.load 23 (.tmp 28)) ?_); refine wpl_ldw 0 hm rfl rfl _ un_key rfl 32 sz_key (HZU.out) ?_)
      | ((with_reducible refine at_op none (.store 23 (.tmp 8) (.tmp 29)) ?_); refine wpl_stw 1 (u8s Z) hm rfl rfl rfl 32 sz_key (by simp [u8s_length]) (HZU.out) (u8s_one _) ?_; clear hm; intro wy hm))
    exact ret_ct 1 _ hm rfl Tryd.results13 rfl rfl _ un_key rfl 32 sz_key HZU.out rfl ⟨rfl, hm.below⟩
  · refine anyH_op 4 rfl rfl ?_
    intro K hK
    refine wpl_litW un_bs info_u8 hm ?_
    clear hm
    intro wl gl hm hb
    clear hb
    refine wpList_nil ?_
    refine hK _ _ hm.tail ?_
    clear hK K
    refine wpAnyH_all (rs := [3, 5]) (by kernel_rfl) (by simp) ?_
    intro i hi
    simp only [List.mem_cons, List.not_mem_nil, or_false] at hi
    rcases hi with rfl | rfl
    · refine anyH_op 3 rfl rfl ?_
      intro K hK
      go_wp2_with (go_at_call 10; refine (nonce_any p n HP.out _).mono ?_; rintro e wn ⟨he, hb⟩; rw [HNN.out ()] at he; subst he; replace hm := hm.call hb; clear hb)
      refine hK _ _ hm.tail ?_
      clear hK K
      refine wpAnyH_all (rs := [5]) (by kernel_rfl) (by simp) ?_
      intro i hi
      simp only [List.mem_cons, List.not_mem_nil, or_false] at hi
      subst hi
      refine anyH_op 5 rfl rfl ?_
      intro K hK
      refine wpl_cvl labWrap rfl un_bs un_u8 rfl rfl hm ?_
      clear hm
      intro wv hm hs
      have HW : Hid (SlOld wv (.slice (some ⟨gl, 0, none⟩) 4 4) labWrap) := hs
      clear hs
      refine wpList_nil ?_
      refine hK _ _ hm ?_
      clear hK K
      refine wpAnyH_all (rs := [7]) (by kernel_rfl) (by simp) ?_
      intro i hi
      simp only [List.mem_cons, List.not_mem_nil, or_false] at hi
      subst hi
      refine anyH_op 7 rfl rfl ?_
      intro K hK
      go_wp2_with (go_at_call 11; refine (open_good ks ns labWrap xs _ _ 0 48 32 HXL.out (by omega) HF.out HKL.out HNL.out HKB.out HNB.out labWrap_bytes HXB.out (by decide) (by rw [HXL.out]; omega) _ (Tab.mem HT.out hm (by simp)) (QTab.mem HQ.out hm (by simp)) HW.out (Seg.row (hm.get 1 rfl))).mono ?_; rintro e wx ⟨g, he, hge, hr, hb⟩; subst he; rw [HZZ.out ()] at hr; replace hm := hm.callNew hb hr hge; clear hb hr hge)
      refine hK _ _ hm.tail ?_
      clear hK K
      refine anyH_takeG 8 (v := .tuple #[.slice (some ⟨g, 0, none⟩) 32 32, .int .i64 0]) rfl (by kernel_rfl) (by kernel_rfl) (by kernel_rfl) rfl (fun W _ => by go_simp) hm.tail ?_
      go_simp
      refine anyH_takeG 9 (v := .slice (some ⟨g, 0, none⟩) 32 32) rfl (by kernel_rfl) (by kernel_rfl) (by kernel_rfl) rfl (fun W _ => by go_simp) hm.tail ?_
      go_simp
      refine anyH_takeG 10 (v := .int .i64 0) rfl (by kernel_rfl) (by kernel_rfl) (by kernel_rfl) rfl (fun W _ => by go_simp) hm.tail ?_
      go_simp
      refine anyH_takeG 11 (v := .slice (some ⟨g, 0, none⟩) 32 32) rfl (by kernel_rfl) (by kernel_rfl) (by kernel_rfl) rfl (fun W _ => by go_simp) hm.tail ?_
      go_simp
      refine anyH_takeG 12 (v := .int .i64 0) rfl (by kernel_rfl) (by kernel_rfl) (by kernel_rfl) rfl (fun W _ => by go_simp) hm.tail ?_
      go_simp
      refine wpAnyH_done (by kernel_rfl) ?_ _
      simp only [endsIn]
      go_wp2_with (first
        | ((with_reducible refine at_op (some 28) (.sliceToArrayPointer 23 (.tmp 27)) ?_); go_must (refine wpl_s2a 32 un_key (by omega) rfl ?_))
        | ((with_reducible refine at_op (some 29) (.load 23 (.tmp 28)) ?_); refine wpl_ldw 0 hm rfl rfl _ un_key rfl 32 sz_key (HZU.out) ?_)
        | ((with_reducible refine at_op none (.store 23 (.tmp 8) (.tmp 29)) ?_); refine wpl_stw 1 (u8s Z) hm rfl rfl rfl 32 sz_key (by simp [u8s_length]) (HZU.out) (u8s_one _) ?_; clear hm; intro wy hm))
      exact ret_ct 1 _ hm rfl Tryd.results13 rfl rfl _ un_key rfl 32 sz_key HZU.out rfl ⟨rfl, hm.below⟩
    · refine anyH_op 5 rfl rfl ?_
      intro K hK
      refine wpl_cvl labWrap rfl un_bs un_u8 rfl rfl hm ?_
      clear hm
      intro wv hm hs
      have HW : Hid (SlOld wv (.slice (some ⟨gl, 0, none⟩) 4 4) labWrap) := hs
      clear hs
      refine wpList_nil ?_
      refine hK _ _ hm ?_
      clear hK K
      refine wpAnyH_all (rs := [3]) (by kernel_rfl) (by simp) ?_
      intro i hi
      simp only [List.mem_cons, List.not_mem_nil, or_false] at hi
      subst hi
      refine anyH_op 3 rfl rfl ?_
      intro K hK
      go_wp2_with (go_at_call 10; refine (nonce_any p n HP.out _).mono ?_; rintro e wn ⟨he, hb⟩; rw [HNN.out ()] at he; subst he; have HW' : Hid (SlOld wn (.slice (some ⟨gl, 0, none⟩) 4 4) labWrap) := SlOld.below HW.out hb; clear HW; have HW := HW'; replace hm := hm.call hb; clear hb)
      refine hK _ _ hm ?_
      clear hK K
      refine wpAnyH_all (rs := [7]) (by kernel_rfl) (by simp) ?_
      intro i hi
      simp only [List.mem_cons, List.not_mem_nil, or_false] at hi
      subst hi
      refine anyH_op 7 rfl rfl ?_
      intro K hK
      go_wp2_with (go_at_call 11; refine (open_good ks ns labWrap xs _ _ 0 48 32 HXL.out (by omega) HF.out HKL.out HNL.out HKB.out HNB.out labWrap_bytes HXB.out (by decide) (by rw [HXL.out]; omega) _ (Tab.mem HT.out hm (by simp)) (QTab.mem HQ.out hm (by simp)) HW.out (Seg.row (hm.get 1 rfl))).mono ?_; rintro e wx ⟨g, he, hge, hr, hb⟩; subst he; rw [HZZ.out ()] at hr; replace hm := hm.callNew hb hr hge; clear hb hr hge)
      refine hK _ _ hm.tail ?_
      clear hK K
      refine anyH_takeG 8 (v := .tuple #[.slice (some ⟨g, 0, none⟩) 32 32, .int .i64 0]) rfl (by kernel_rfl) (by kernel_rfl) (by kernel_rfl) rfl (fun W _ => by go_simp) hm.tail ?_
      go_simp
      refine anyH_takeG 9 (v := .slice (some ⟨g, 0, none⟩) 32 32) rfl (by kernel_rfl) (by kernel_rfl) (by kernel_rfl) rfl (fun W _ => by go_simp) hm.tail ?_
      go_simp
      refine anyH_takeG 10 (v := .int .i64 0) rfl (by kernel_rfl) (by kernel_rfl) (by kernel_rfl) rfl (fun W _ => by go_simp) hm.tail ?_
      go_simp
      refine anyH_takeG 11 (v := .slice (some ⟨g, 0, none⟩) 32 32) rfl (by kernel_rfl) (by kernel_rfl) (by kernel_rfl) rfl (fun W _ => by go_simp) hm.tail ?_
      go_simp
      refine anyH_takeG 12 (v := .int .i64 0) rfl (by kernel_rfl) (by kernel_rfl) (by kernel_rfl) rfl (fun W _ => by go_simp) hm.tail ?_
      go_simp
      refine wpAnyH_done (by kernel_rfl) ?_ _
      simp only [endsIn]
      go_wp2_with (first
        | ((with_reducible refine at_op (some 28) (.sliceToArrayPointer 23 (.tmp 27)) ?_); go_must (refine wpl_s2a 32 un_key (by omega) rfl ?_))
        | ((with_reducible refine at_op (some 29) (.load 23 (.tmp 28)) ?_); refine wpl_ldw 0 hm rfl rfl _ un_key rfl 32 sz_key (HZU.out) ?_)
        | ((with_reducible refine at_op none (.store 23 (.tmp 8) (.tmp 29)) ?_); refine wpl_stw 1 (u8s Z) hm rfl rfl rfl 32 sz_key (by simp [u8s_length]) (HZU.out) (u8s_one _) ?_; clear hm; intro wy hm))
      exact ret_ct 1 _ hm rfl Tryd.results13 rfl rfl _ un_key rfl 32 sz_key HZU.out rfl ⟨rfl, hm.below⟩
set_option maxHeartbeats 2000000 in
set_option maxRecDepth 100000 in
theorem unwrap_bad (ks xs : List Int) (p n : Int) (hkl : ks.length = 32) (hxl : xs.length = 48) (hkb : Bytes ks) (hxb : Bytes xs) (hp : 0 ≤ p ∧ p < 4294967296) (hf : xs.drop 32 ≠ tagOf ks (nonceOf p n) labWrap (xs.take 32)) (w : World) (ht : Tab w) (hq : QTab w) :
    Calls Tryd.prog 13 #[.agg (u8s ks).toArray, .int .u32 p, .int .u64 n, .agg (u8s xs).toArray] w fun e w' => e = .returned (.tuple #[.agg (u8s (List.replicate 32 0)).toArray, .int .i64 50]) ∧ Below w.heap.size w w' := by
  have hm := Mem.start w
  have HT : Hid _ := ht
  have HQ : Hid _ := hq
  have HKL : Hid _ := hkl
  have HKB : Hid _ := hkb
  have HP : Hid (0 ≤ p ∧ p < 4294967296) := hp
  have HKU : Hid ((u8s ks).length = 32) := by show _ = _; rw [u8s_length]; exact hkl
  obtain ⟨ns, hns⟩ : ∃ ns, ns = nonceOf p n := ⟨_, rfl⟩
  have HNN : Hid (∀ _ : Unit, nonceOf p n = ns) := fun _ => hns.symm
  have HNL : Hid (ns.length = 12) := by show _ = _; rw [hns, nonceOf_length]
  have HNB : Hid (Bytes ns) := by rw [hns]; exact nonceOf_bytes _ _
  have HXL : Hid (xs.length = 48) := hxl
  have HXB : Hid _ := hxb
  rw [← hns] at hf
  have HF : Hid _ := hf
  clear ht hq hkl hxl hkb hxb hp hns hf
  go_enter Tryd.func13, Tryd.ntmps13
  go_wp2_with (first
    | ((with_reducible refine at_op (some 4) (.box 23 (.tmp 0)) ?_); refine wpl_box (u8s ks) rfl hm ?_; clear hm; intro w1 g4 hm)
    | ((with_reducible refine at_op (some 7) (.box 27 (.tmp 3)) ?_); refine wpl_box (u8s xs) rfl hm ?_; clear hm; intro w2 g7 hm)
    | ((with_reducible refine at_op (some 8) (.alloc 23) ?_); refine wpl_alloc _ zero_key hm ?_; clear hm; intro w3 g8 hm))
  refine wp_ends0 ?_
  refine anyH_start (T := fun W => Mem w [] W [(g8, u8s (List.replicate 32 0), 23), (g7, u8s xs, 27), (g4, u8s ks, 23)]) (by kernel_rfl) hm ?_
  clear hm
  intro w4 hm
  refine anyH_takeG 0 (v := .agg (u8s ks).toArray) rfl (by kernel_rfl) (by kernel_rfl) (by kernel_rfl) rfl (fun W hW => exec_ldsG 0 _ (Mem.get hW 2 rfl) rfl _ un_key rfl 32 sz_key (by rw [HKU.out]; omega) (by rw [List.drop_zero, List.take_of_length_le (Nat.le_of_eq HKU.out)])) hm ?_
  go_simp
  refine anyH_takeG 1 (v := .int .u32 p) rfl (by kernel_rfl) (by kernel_rfl) (by kernel_rfl) rfl (fun W _ => by go_simp) hm ?_
  go_simp
  refine anyH_takeG 2 (v := .int .u64 n) rfl (by kernel_rfl) (by kernel_rfl) (by kernel_rfl) rfl (fun W _ => by go_simp) hm ?_
  go_simp
  refine anyH_takeG 6 (v := .slice (some ⟨g7, 0, none⟩) 48 48) rfl (by kernel_rfl) (by kernel_rfl) (by kernel_rfl) rfl (fun W _ => by go_simp) hm ?_
  go_simp
  refine wpAnyH_all (rs := [3, 4]) (by kernel_rfl) (by simp) ?_
  intro i hi
  simp only [List.mem_cons, List.not_mem_nil, or_false] at hi
  rcases hi with rfl | rfl
  · refine anyH_op 3 rfl rfl ?_
    intro K hK
    go_wp2_with (go_at_call 10; refine (nonce_any p n HP.out _).mono ?_; rintro e wn ⟨he, hb⟩; rw [HNN.out ()] at he; subst he; replace hm := hm.call hb; clear hb)
    refine hK _ _ hm ?_
    clear hK K
    refine wpAnyH_all (rs := [4]) (by kernel_rfl) (by simp) ?_
    intro i hi
    simp only [List.mem_cons, List.not_mem_nil, or_false] at hi
    subst hi
    refine anyH_op 4 rfl rfl ?_
    intro K hK
    refine wpl_litW un_bs info_u8 hm ?_
    clear hm
    intro wl gl hm hb
    clear hb
    refine wpList_nil ?_
    refine hK _ _ hm.tail ?_
    clear hK K
    refine wpAnyH_all (rs := [5]) (by kernel_rfl) (by simp) ?_
    intro i hi
    simp only [List.mem_cons, List.not_mem_nil, or_false] at hi
    subst hi
    refine anyH_op 5 rfl rfl ?_
    intro K hK
    refine wpl_cvl labWrap rfl un_bs un_u8 rfl rfl hm ?_
    clear hm
    intro wv hm hs
    have HW : Hid (SlOld wv (.slice (some ⟨gl, 0, none⟩) 4 4) labWrap) := hs
    clear hs
    refine wpList_nil ?_
    refine hK _ _ hm ?_
    clear hK K
    refine wpAnyH_all (rs := [7]) (by kernel_rfl) (by simp) ?_
    intro i hi
    simp only [List.mem_cons, List.not_mem_nil, or_false] at hi
    subst hi
    refine anyH_op 7 rfl rfl ?_
    intro K hK
    go_wp2_with (go_at_call 11; refine (open_bad ks ns labWrap xs _ _ 0 48 32 HXL.out (by omega) HF.out HKL.out HNL.out HKB.out HNB.out labWrap_bytes HXB.out (by decide) (by rw [HXL.out]; omega) _ (Tab.mem HT.out hm (by simp)) (QTab.mem HQ.out hm (by simp)) HW.out (Seg.row (hm.get 1 rfl))).mono ?_; rintro e wx ⟨he, hb⟩; subst he; replace hm := hm.call hb; clear hb)
    refine hK _ _ hm ?_
    clear hK K
    refine anyH_takeG 8 (v := .tuple #[.slice none 0 0, .int .i64 50]) rfl (by kernel_rfl) (by kernel_rfl) (by kernel_rfl) rfl (fun W _ => by go_simp) hm ?_
    go_simp
    refine anyH_takeG 9 (v := .slice none 0 0) rfl (by kernel_rfl) (by kernel_rfl) (by kernel_rfl) rfl (fun W _ => by go_simp) hm ?_
    go_simp
    refine anyH_takeG 10 (v := .int .i64 50) rfl (by kernel_rfl) (by kernel_rfl) (by kernel_rfl) rfl (fun W _ => by go_simp) hm ?_
    go_simp
    refine anyH_takeG 11 (v := .slice none 0 0) rfl (by kernel_rfl) (by kernel_rfl) (by kernel_rfl) rfl (fun W _ => by go_simp) hm ?_
    go_simp
    refine anyH_takeG 12 (v := .int .i64 50) rfl (by kernel_rfl) (by kernel_rfl) (by kernel_rfl) rfl (fun W _ => by go_simp) hm ?_
    go_simp
    refine wpAnyH_done (by kernel_rfl) ?_ _
    simp only [endsIn]
    go_wp2_with (first
      | ((with_reducible refine at_op (some 25) (.build 23 #[]) ?_); go_must (refine wpl_build (u8s (List.replicate 32 0)) _ rfl built_zero ?_))
      | ((with_reducible refine at_op none (.store 23 (.tmp 8) (.tmp 25)) ?_); refine wpl_stw 0 (u8s (List.replicate 32 0)) hm rfl rfl rfl 32 sz_key (by simp [u8s_length]) (by simp [u8s_length]) (u8s_one _) ?_; clear hm; intro wy hm))
    exact ret_ct 0 _ hm rfl Tryd.results13 rfl rfl _ un_key rfl 32 sz_key (by simp [u8s_length]) rfl ⟨rfl, hm.below⟩
  · refine anyH_op 4 rfl rfl ?_
    intro K hK
    refine wpl_litW un_bs info_u8 hm ?_
    clear hm
    intro wl gl hm hb
    clear hb
    refine wpList_nil ?_
    refine hK _ _ hm.tail ?_
    clear hK K
    refine wpAnyH_all (rs := [3, 5]) (by kernel_rfl) (by simp) ?_
    intro i hi
    simp only [List.mem_cons, List.not_mem_nil, or_false] at hi
    rcases hi with rfl | rfl
    · refine anyH_op 3 rfl rfl ?_
      intro K hK
      go_wp2_with (go_at_call 10; refine (nonce_any p n HP.out _).mono ?_; rintro e wn ⟨he, hb⟩; rw [HNN.out ()] at he; subst he; replace hm := hm.call hb; clear hb)
      refine hK _ _ hm.tail ?_
      clear hK K
      refine wpAnyH_all (rs := [5]) (by kernel_rfl) (by simp) ?_
      intro i hi
      simp only [List.mem_cons, List.not_mem_nil, or_false] at hi
      subst hi
      refine anyH_op 5 rfl rfl ?_
      intro K hK
      refine wpl_cvl labWrap rfl un_bs un_u8 rfl rfl hm ?_
      clear hm
      intro wv hm hs
      have HW : Hid (SlOld wv (.slice (some ⟨gl, 0, none⟩) 4 4) labWrap) := hs
      clear hs
      refine wpList_nil ?_
      refine hK _ _ hm ?_
      clear hK K
      refine wpAnyH_all (rs := [7]) (by kernel_rfl) (by simp) ?_
      intro i hi
      simp only [List.mem_cons, List.not_mem_nil, or_false] at hi
      subst hi
      refine anyH_op 7 rfl rfl ?_
      intro K hK
      go_wp2_with (go_at_call 11; refine (open_bad ks ns labWrap xs _ _ 0 48 32 HXL.out (by omega) HF.out HKL.out HNL.out HKB.out HNB.out labWrap_bytes HXB.out (by decide) (by rw [HXL.out]; omega) _ (Tab.mem HT.out hm (by simp)) (QTab.mem HQ.out hm (by simp)) HW.out (Seg.row (hm.get 1 rfl))).mono ?_; rintro e wx ⟨he, hb⟩; subst he; replace hm := hm.call hb; clear hb)
      refine hK _ _ hm ?_
      clear hK K
      refine anyH_takeG 8 (v := .tuple #[.slice none 0 0, .int .i64 50]) rfl (by kernel_rfl) (by kernel_rfl) (by kernel_rfl) rfl (fun W _ => by go_simp) hm ?_
      go_simp
      refine anyH_takeG 9 (v := .slice none 0 0) rfl (by kernel_rfl) (by kernel_rfl) (by kernel_rfl) rfl (fun W _ => by go_simp) hm ?_
      go_simp
      refine anyH_takeG 10 (v := .int .i64 50) rfl (by kernel_rfl) (by kernel_rfl) (by kernel_rfl) rfl (fun W _ => by go_simp) hm ?_
      go_simp
      refine anyH_takeG 11 (v := .slice none 0 0) rfl (by kernel_rfl) (by kernel_rfl) (by kernel_rfl) rfl (fun W _ => by go_simp) hm ?_
      go_simp
      refine anyH_takeG 12 (v := .int .i64 50) rfl (by kernel_rfl) (by kernel_rfl) (by kernel_rfl) rfl (fun W _ => by go_simp) hm ?_
      go_simp
      refine wpAnyH_done (by kernel_rfl) ?_ _
      simp only [endsIn]
      go_wp2_with (first
        | ((with_reducible refine at_op (some 25) (.build 23 #[]) ?_); go_must (refine wpl_build (u8s (List.replicate 32 0)) _ rfl built_zero ?_))
        | ((with_reducible refine at_op none (.store 23 (.tmp 8) (.tmp 25)) ?_); refine wpl_stw 0 (u8s (List.replicate 32 0)) hm rfl rfl rfl 32 sz_key (by simp [u8s_length]) (by simp [u8s_length]) (u8s_one _) ?_; clear hm; intro wy hm))
      exact ret_ct 0 _ hm rfl Tryd.results13 rfl rfl _ un_key rfl 32 sz_key (by simp [u8s_length]) rfl ⟨rfl, hm.below⟩
    · refine anyH_op 5 rfl rfl ?_
      intro K hK
      refine wpl_cvl labWrap rfl un_bs un_u8 rfl rfl hm ?_
      clear hm
      intro wv hm hs
      have HW : Hid (SlOld wv (.slice (some ⟨gl, 0, none⟩) 4 4) labWrap) := hs
      clear hs
      refine wpList_nil ?_
      refine hK _ _ hm ?_
      clear hK K
      refine wpAnyH_all (rs := [3]) (by kernel_rfl) (by simp) ?_
      intro i hi
      simp only [List.mem_cons, List.not_mem_nil, or_false] at hi
      subst hi
      refine anyH_op 3 rfl rfl ?_
      intro K hK
      go_wp2_with (go_at_call 10; refine (nonce_any p n HP.out _).mono ?_; rintro e wn ⟨he, hb⟩; rw [HNN.out ()] at he; subst he; have HW' : Hid (SlOld wn (.slice (some ⟨gl, 0, none⟩) 4 4) labWrap) := SlOld.below HW.out hb; clear HW; have HW := HW'; replace hm := hm.call hb; clear hb)
      refine hK _ _ hm ?_
      clear hK K
      refine wpAnyH_all (rs := [7]) (by kernel_rfl) (by simp) ?_
      intro i hi
      simp only [List.mem_cons, List.not_mem_nil, or_false] at hi
      subst hi
      refine anyH_op 7 rfl rfl ?_
      intro K hK
      go_wp2_with (go_at_call 11; refine (open_bad ks ns labWrap xs _ _ 0 48 32 HXL.out (by omega) HF.out HKL.out HNL.out HKB.out HNB.out labWrap_bytes HXB.out (by decide) (by rw [HXL.out]; omega) _ (Tab.mem HT.out hm (by simp)) (QTab.mem HQ.out hm (by simp)) HW.out (Seg.row (hm.get 1 rfl))).mono ?_; rintro e wx ⟨he, hb⟩; subst he; replace hm := hm.call hb; clear hb)
      refine hK _ _ hm ?_
      clear hK K
      refine anyH_takeG 8 (v := .tuple #[.slice none 0 0, .int .i64 50]) rfl (by kernel_rfl) (by kernel_rfl) (by kernel_rfl) rfl (fun W _ => by go_simp) hm ?_
      go_simp
      refine anyH_takeG 9 (v := .slice none 0 0) rfl (by kernel_rfl) (by kernel_rfl) (by kernel_rfl) rfl (fun W _ => by go_simp) hm ?_
      go_simp
      refine anyH_takeG 10 (v := .int .i64 50) rfl (by kernel_rfl) (by kernel_rfl) (by kernel_rfl) rfl (fun W _ => by go_simp) hm ?_
      go_simp
      refine anyH_takeG 11 (v := .slice none 0 0) rfl (by kernel_rfl) (by kernel_rfl) (by kernel_rfl) rfl (fun W _ => by go_simp) hm ?_
      go_simp
      refine anyH_takeG 12 (v := .int .i64 50) rfl (by kernel_rfl) (by kernel_rfl) (by kernel_rfl) rfl (fun W _ => by go_simp) hm ?_
      go_simp
      refine wpAnyH_done (by kernel_rfl) ?_ _
      simp only [endsIn]
      go_wp2_with (first
        | ((with_reducible refine at_op (some 25) (.build 23 #[]) ?_); go_must (refine wpl_build (u8s (List.replicate 32 0)) _ rfl built_zero ?_))
        | ((with_reducible refine at_op none (.store 23 (.tmp 8) (.tmp 25)) ?_); refine wpl_stw 0 (u8s (List.replicate 32 0)) hm rfl rfl rfl 32 sz_key (by simp [u8s_length]) (by simp [u8s_length]) (u8s_one _) ?_; clear hm; intro wy hm))
      exact ret_ct 0 _ hm rfl Tryd.results13 rfl rfl _ un_key rfl 32 sz_key (by simp [u8s_length]) rfl ⟨rfl, hm.below⟩
end Go.Proofs.YtbfccepddfinoaaDoor
