/- The contracts of turned, message, TagOf and Seal. -/
import Derived.Test.YtbfccepddfinoaaDoorSealLaws
namespace Go.Proofs.YtbfccepddfinoaaDoor
open Go Go.RowKit

set_option maxRecDepth 100000 in
theorem strB_enc : strB { data := #[101, 110, 99] } = labEnc := rfl
set_option maxRecDepth 100000 in
theorem strB_mac : strB { data := #[109, 97, 99] } = labMac := rfl
set_option maxHeartbeats 1000000 in
set_option maxRecDepth 100000 in
theorem turned_any (ks ns ms : List Int) (v : Value) (hkl : ks.length = 32) (hnl : ns.length = 12) (hkb : Bytes ks) (hnb : Bytes ns) (hml : ms.length ≤ 60000) (w : World) (ht : Tab w) (hq : QTab w) (hv : SlOld w v ms) :
    Calls Tryd.prog 24 #[.agg (u8s ks).toArray, .agg (u8s ns).toArray, v] w fun e w' => ∃ g, e = .returned (.slice (some ⟨g, 0, none⟩) ms.length ms.length) ∧ w.heap.size ≤ g ∧ Row w' g (u8s (encOf ks ns ms)) 5 ∧ Below w.heap.size w w' := by
  obtain ⟨p, cap, rfl, hcap⟩ := hv.len
  have hm := Mem.start w
  have HT : Hid _ := ht
  have HKL : Hid _ := hkl
  have HNL : Hid _ := hnl
  have HKB : Hid _ := hkb
  have HNB : Hid _ := hnb
  have HKU : Hid ((u8s ks).length = 32) := by show _ = _; rw [u8s_length]; exact hkl
  have HNU : Hid ((u8s ns).length = 12) := by show _ = _; rw [u8s_length]; exact hnl
  have HQ : Hid _ := hq
  have HV : Hid (SlOld w (.slice p ms.length cap) ms) := hv
  obtain ⟨E, hE⟩ : ∃ E, E = encKey ks := ⟨_, rfl⟩
  have HEE : Hid (∀ _ : Unit, deriveOf ks (strB { data := #[101, 110, 99] }) 0 = E) := fun _ => hE.symm
  have HEL : Hid (E.length = 32) := by show _ = _; rw [hE, encKey, deriveOf_length]
  have HEB : Hid (Bytes E) := by rw [hE]; exact deriveOf_bytes _ _ _
  have HXE : Hid (∀ _ : Unit, xorOf E ns 1 ms = encOf ks ns ms) := fun _ => by rw [hE]; rfl
  clear ht hq hkl hnl hkb hnb hv hE
  go_enter Tryd.func24, Tryd.ntmps24
  go_wp2_with (first
    | ((with_reducible refine at_op (some 3) (.box 23 (.tmp 0)) ?_); refine wpl_box (u8s ks) rfl hm ?_; clear hm; intro w1 g3 hm)
    | ((with_reducible refine at_op (some 4) (.box 30 (.tmp 1)) ?_); refine wpl_box (u8s ns) rfl hm ?_; clear hm; intro w2 g4 hm))
  refine wp_ends0 ?_
  refine anyH_start (T := fun W => Mem w [] W [(g4, u8s ns, 30), (g3, u8s ks, 23)]) (by kernel_rfl) hm ?_
  clear hm
  intro w3 hm
  refine anyH_takeG 0 (v := .agg (u8s ks).toArray) rfl (by kernel_rfl) (by kernel_rfl) (by kernel_rfl) rfl (fun W hW => exec_ldsG 0 _ (Mem.get hW 1 rfl) rfl _ un_key rfl 32 sz_key (by rw [HKU.out]; omega) (by rw [List.drop_zero, List.take_of_length_le (Nat.le_of_eq HKU.out)])) hm ?_
  go_simp
  refine anyH_takeG 2 (v := .agg (u8s ns).toArray) rfl (by kernel_rfl) (by kernel_rfl) (by kernel_rfl) rfl (fun W hW => exec_ldsG 0 _ (Mem.get hW 0 rfl) rfl _ un_nce rfl 12 sz_nce (by rw [HNU.out]; omega) (by rw [List.drop_zero, List.take_of_length_le (Nat.le_of_eq HNU.out)])) hm ?_
  go_simp
  refine anyH_takeG 3 (v := .slice p ms.length cap) rfl (by kernel_rfl) (by kernel_rfl) (by kernel_rfl) rfl (fun W _ => by go_simp) hm ?_
  go_simp
  refine wpAnyH_all (rs := [1]) (by kernel_rfl) (by simp) ?_
  intro i hi
  simp only [List.mem_cons, List.not_mem_nil, or_false] at hi
  subst hi
  refine anyH_op 1 rfl rfl ?_
  intro K hK
  go_wp2_with (go_at_call 28; refine (derive_any ks _ 0 HKL.out HKB.out (by decide) (by omega) _ (Tab.mem HT.out hm (by simp))).mono ?_; rintro e w4 ⟨he, hb⟩; rw [HEE.out ()] at he; subst he; replace hm := hm.call hb; clear hb)
  refine hK _ _ hm ?_
  clear hK K
  refine wpAnyH_all (rs := [4]) (by kernel_rfl) (by simp) ?_
  intro i hi
  simp only [List.mem_cons, List.not_mem_nil, or_false] at hi
  subst hi
  refine anyH_op 4 rfl rfl ?_
  intro K hK
  go_wp2_with (go_at_call 35; refine (xor_any E ns ms 1 _ HEL.out HNL.out HEB.out HNB.out ⟨by omega, by omega⟩ hml _ (QTab.mem HQ.out hm (by simp)) (SlOld.mem HV.out hm)).mono ?_; rintro e w5 ⟨g, he, hge, hr, hb⟩; subst he; rw [HXE.out ()] at hr; replace hm := hm.callNew hb hr hge; clear hb hr hge)
  refine hK _ _ hm.tail ?_
  clear hK K
  refine anyH_takeG 5 (v := .slice (some ⟨g, 0, none⟩) ms.length ms.length) rfl (by kernel_rfl) (by kernel_rfl) (by kernel_rfl) rfl (fun W _ => by go_simp) hm.tail ?_
  go_simp
  refine wpAnyH_done (by kernel_rfl) ?_ _
  simp only [endsIn]
  go_wp2_with fail
  go_ret
  have hf := hm.fresh _ (List.mem_cons_self ..)
  exact ⟨g, rfl, by simpa using hf, hm.get 0 rfl, hm.below⟩
set_option maxHeartbeats 1000000 in
set_option maxRecDepth 100000 in
theorem message_any (ns ds cs : List Int) (va vc : Value) (hnl : ns.length = 12) (hal : ds.length ≤ 20000) (hcl : cs.length ≤ 20000) (w : World) (hva : SlOld w va ds) (hvc : SlOld w vc cs) :
    Calls Tryd.prog 30 #[.agg (u8s ns).toArray, va, vc] w fun e w' => ∃ v', e = .returned v' ∧ SlOld w' v' (msgOf ns ds cs) ∧ Below w.heap.size w w' := by
  obtain ⟨pa, ca, rfl, _⟩ := hva.len
  obtain ⟨pc, cc, rfl, _⟩ := hvc.len
  have hm := Mem.start w
  have HNL : Hid _ := hnl
  have HA : Hid (SlOld w (.slice pa ds.length ca) ds) := hva
  have HC : Hid (SlOld w (.slice pc cs.length cc) cs) := hvc
  have HWR : Hid (IntKind.u64.wrap (ds.length : Int) = (ds.length : Int)) := wrapu_int _ (by omega) (by omega)
  have hty : ∀ (g : Nat), ∀ r ∈ [(g, u8s ns, (30 : TypeId))], r.2.2 ≠ 5 := by
    intro g r hr
    simp only [List.mem_cons, List.not_mem_nil, or_false] at hr
    subst hr
    simp
  have HTY : Hid _ := hty
  clear hva hvc hnl hty
  go_enter Tryd.func30, Tryd.ntmps30
  go_wp2_with (first
    | ((with_reducible refine at_op (some 3) (.box 30 (.tmp 0)) ?_); refine wpl_box (u8s ns) rfl hm ?_; clear hm; intro w1 g3 hm)
    | ((with_reducible refine at_op (some 15) (.makeSlice 26 (.const (.int .i64 0)) (.tmp 14)) ?_); go_must (refine wpl_makeE _ un_bs _ made_u8 rfl (8 + ds.length + 12 + cs.length) rfl rfl (by first | rfl | omega | go_num) (by omega) hm ?_); clear hm; intro w2 g15 hm; have HO0 : Hid (OwnB 5 w2 w.heap.size (.slice (some ⟨g15, 0, none⟩) 0 (8 + ds.length + 12 + cs.length)) []) := own_empty (hm.get 0 rfl) (by have hf := hm.fresh _ (List.mem_cons_self ..); simpa using hf) (by omega); replace hm := hm.tail)
    | (go_at_call 22; refine (put_eight _ _).mono ?_; rintro e w3 ⟨g20, rfl, hge, hr, hb⟩; have HO1 : Hid (OwnB 5 w3 w.heap.size (.slice (some ⟨g15, 0, none⟩) 0 (8 + ds.length + 12 + cs.length)) []) := OwnB.below HO0.out hb; have HR : Hid _ := hr; replace hm := hm.call hb; clear hge hr hb HO0)
    | ((with_reducible refine at_op (some 21) (.call { callee := .builtin .append, args := #[.tmp 16, .tmp 20], argTypes := #[26, 26] }) ?_); go_must (refine wpl_app rfl un_bs made_u8 (be8 (ds.length : Int)) hm HO1.out (HTY.out _) rfl rfl rfl (fun _ => ⟨g20, 0, rfl, Seg.row HR.out⟩) (by simp [be8_length]) ?_); clear hm; intro v21 w4 ho hm; have HO2 : Hid (OwnB 5 w4 w.heap.size v21 ([] ++ be8 (ds.length : Int))) := ho; clear ho HO1 HR)
    | ((with_reducible refine at_op (some 24) (.call { callee := .builtin .append, args := #[.tmp 22, .tmp 23], argTypes := #[26, 26] }) ?_); go_must (refine wpl_app rfl un_bs made_u8 ds hm HO2.out (HTY.out _) rfl rfl rfl (SlOld.mem HA.out hm).src0.2.2 (by simp [be8_length]; omega) ?_); clear hm; intro v24 w5 ho hm; have HO3 : Hid (OwnB 5 w5 w.heap.size v24 ([] ++ be8 (ds.length : Int) ++ ds)) := ho; clear ho HO2)
    | ((with_reducible refine at_op (some 27) (.call { callee := .builtin .append, args := #[.tmp 25, .tmp 26], argTypes := #[26, 26] }) ?_); go_must (refine wpl_app rfl un_bs made_u8 ns hm HO3.out (HTY.out _) rfl rfl HNL.out.symm (fun _ => ⟨g3, 0, rfl, Seg.row (hm.get 0 rfl)⟩) (by simp [be8_length, HNL.out]; omega) ?_); clear hm; intro v27 w6 ho hm; have HO4 : Hid (OwnB 5 w6 w.heap.size v27 ([] ++ be8 (ds.length : Int) ++ ds ++ ns)) := ho; clear ho HO3)
    | ((with_reducible refine at_op (some 30) (.call { callee := .builtin .append, args := #[.tmp 28, .tmp 29], argTypes := #[26, 26] }) ?_); go_must (refine wpl_app rfl un_bs made_u8 cs hm HO4.out (HTY.out _) rfl rfl rfl (SlOld.mem HC.out hm).src0.2.2 (by simp [be8_length, HNL.out]; omega) ?_); clear hm; intro v30 w7 ho hm; have HO5 : Hid (OwnB 5 w7 w.heap.size v30 ([] ++ be8 (ds.length : Int) ++ ds ++ ns ++ cs)) := ho; clear ho HO4))
  go_ret
  exact ⟨v30, rfl, OwnB.old HO5.out, hm.below⟩
set_option maxHeartbeats 2000000 in
set_option maxRecDepth 100000 in
theorem tag_any (ks ns ds cs : List Int) (va vc : Value) (hkl : ks.length = 32) (hnl : ns.length = 12) (hkb : Bytes ks) (hnb : Bytes ns) (hdb : Bytes ds) (hcb : Bytes cs) (hal : ds.length ≤ 20000) (hcl : cs.length ≤ 20000) (w : World) (ht : Tab w) (hva : SlOld w va ds) (hvc : SlOld w vc cs) :
    Calls Tryd.prog 16 #[.agg (u8s ks).toArray, .agg (u8s ns).toArray, va, vc] w fun e w' => e = .returned (.agg (u8s (tagOf ks ns ds cs)).toArray) ∧ Below w.heap.size w w' := by
  obtain ⟨pa, ca, rfl, _⟩ := hva.len
  obtain ⟨pc, cc, rfl, _⟩ := hvc.len
  have hm := Mem.start w
  have HT : Hid _ := ht
  have HKL : Hid _ := hkl
  have HNL : Hid _ := hnl
  have HKB : Hid _ := hkb
  have HNB : Hid _ := hnb
  have HKU : Hid ((u8s ks).length = 32) := by show _ = _; rw [u8s_length]; exact hkl
  have HNU : Hid ((u8s ns).length = 12) := by show _ = _; rw [u8s_length]; exact hnl
  have HA : Hid (SlOld w (.slice pa ds.length ca) ds) := hva
  have HC : Hid (SlOld w (.slice pc cs.length cc) cs) := hvc
  obtain ⟨E, hE⟩ : ∃ E, E = macKey ks := ⟨_, rfl⟩
  have HEE : Hid (∀ _ : Unit, deriveOf ks (strB { data := #[109, 97, 99] }) 0 = E) := fun _ => hE.symm
  have HEL : Hid (E.length = 32) := by show _ = _; rw [hE, macKey, deriveOf_length]
  have HEU : Hid ((u8s E).length = 32) := by show _ = _; rw [u8s_length]; exact HEL.out
  have HEB : Hid (Bytes E) := by rw [hE]; exact deriveOf_bytes _ _ _
  obtain ⟨M, hM⟩ : ∃ M, M = msgOf ns ds cs := ⟨_, rfl⟩
  have HMM : Hid (∀ _ : Unit, msgOf ns ds cs = M) := fun _ => hM.symm
  have HMB : Hid (Bytes M) := by rw [hM]; exact msgOf_bytes hnb hdb hcb
  have HML : Hid (M.length ≤ 500000) := by show _ ≤ _; rw [hM, msgOf_length]; omega
  obtain ⟨X, hX⟩ : ∃ X, X = macOf E M := ⟨_, rfl⟩
  have HXX : Hid (∀ _ : Unit, macOf E M = X) := fun _ => hX.symm
  have HXL : Hid ((u8s X).length = 32) := by show _ = _; rw [u8s_length, hX, macOf_length]
  obtain ⟨G, hG⟩ : ∃ G, G = tagOf ks ns ds cs := ⟨_, rfl⟩
  have HGG : Hid (∀ _ : Unit, tagOf ks ns ds cs = G) := fun _ => hG.symm
  have HGL : Hid ((u8s G).length = 16) := by show _ = _; rw [u8s_length, hG, tagOf_length]
  have HXG : Hid (((u8s X).drop 0).take 16 = u8s G) := by show _ = _; rw [hG, hX, hE, hM, List.drop_zero]; simp [tagOf, u8s, List.map_take]
  clear ht hkl hnl hkb hnb hva hvc hE hM hX hG
  go_enter Tryd.func16, Tryd.ntmps16
  go_wp2_with (first
    | ((with_reducible refine at_op (some 4) (.box 23 (.tmp 0)) ?_); refine wpl_box (u8s ks) rfl hm ?_; clear hm; intro w1 g4 hm)
    | ((with_reducible refine at_op (some 5) (.box 30 (.tmp 1)) ?_); refine wpl_box (u8s ns) rfl hm ?_; clear hm; intro w2 g5 hm)
    | ((with_reducible refine at_op (some 8) (.alloc 42) ?_); refine wpl_alloc _ zero_tag hm ?_; clear hm; intro w3 g8 hm)
    | ((with_reducible refine at_op (some 11) (.load 23 (.tmp 4)) ?_); refine wpl_ldw 2 hm rfl rfl _ un_key rfl 32 sz_key (HKU.out) ?_)
    | (go_at_call 28; refine (derive_any ks _ 0 HKL.out HKB.out (by decide) (by omega) _ (Tab.mem HT.out hm (by simp))).mono ?_; rintro e w4 ⟨he, hb⟩; rw [HEE.out ()] at he; subst he; replace hm := hm.call hb; clear hb)
    | ((with_reducible refine at_op (some 9) (.alloc 23) ?_); refine wpl_alloc _ zero_key hm ?_; clear hm; intro w5 g9 hm)
    | ((with_reducible refine at_op none (.store 23 (.tmp 9) (.tmp 12)) ?_); refine wpl_stw 0 (u8s E) hm rfl rfl rfl 32 sz_key (by simp [u8s_length]) (HEU.out) (u8s_one _) ?_; clear hm; intro w6 hm))
  refine wp_ends0 ?_
  refine anyH_start (T := fun W => Mem w [] W [(g9, u8s E, 23), (g8, u8s (List.replicate 16 0), 42), (g5, u8s ns, 30), (g4, u8s ks, 23)]) (by kernel_rfl) hm ?_
  clear hm
  intro w7 hm
  refine anyH_takeG 0 (v := .slice (some ⟨g9, 0, none⟩) 32 32) rfl (by kernel_rfl) (by kernel_rfl) (by kernel_rfl) rfl (fun W _ => by go_simp) hm ?_
  go_simp
  refine anyH_takeG 1 (v := .agg (u8s ns).toArray) rfl (by kernel_rfl) (by kernel_rfl) (by kernel_rfl) rfl (fun W hW => exec_ldsG 0 _ (Mem.get hW 2 rfl) rfl _ un_nce rfl 12 sz_nce (by rw [HNU.out]; omega) (by rw [List.drop_zero, List.take_of_length_le (Nat.le_of_eq HNU.out)])) hm ?_
  go_simp
  refine anyH_takeG 2 (v := .slice pa ds.length ca) rfl (by kernel_rfl) (by kernel_rfl) (by kernel_rfl) rfl (fun W _ => by go_simp) hm ?_
  go_simp
  refine anyH_takeG 3 (v := .slice pc cs.length cc) rfl (by kernel_rfl) (by kernel_rfl) (by kernel_rfl) rfl (fun W _ => by go_simp) hm ?_
  go_simp
  refine wpAnyH_all (rs := [4, 6]) (by kernel_rfl) (by simp) ?_
  intro i hi
  simp only [List.mem_cons, List.not_mem_nil, or_false] at hi
  rcases hi with rfl | rfl
  · refine anyH_op 4 rfl rfl ?_
    intro K hK
    go_wp2_with (go_at_call 30; refine (message_any ns ds cs _ _ HNL.out hal hcl _ (SlOld.mem HA.out hm) (SlOld.mem HC.out hm)).mono ?_; rintro e wm ⟨vm, he, hs, hb⟩; subst he; rw [HMM.out ()] at hs; have HS : Hid (SlOld wm vm M) := hs; replace hm := hm.call hb; clear hb hs)
    refine hK _ _ hm ?_
    clear hK K
    refine wpAnyH_all (rs := [5, 6]) (by kernel_rfl) (by simp) ?_
    intro i hi
    simp only [List.mem_cons, List.not_mem_nil, or_false] at hi
    rcases hi with rfl | rfl
    · refine anyH_op 5 rfl rfl ?_
      intro K hK
      obtain ⟨pm, cm, hvm, _⟩ := HS.out.len
      subst hvm
      go_wp2_with (go_at_call 29; refine (mac_any E M _ _ HEB.out HMB.out (by rw [HEL.out]; omega) HML.out _ (Tab.mem HT.out hm (by simp)) (old_all (hm.get 0 rfl) HEL.out (Nat.le_refl _)) HS.out).mono ?_; rintro e wx ⟨he, hb⟩; rw [HXX.out ()] at he; subst he; replace hm := hm.call hb; clear hb)
      refine hK _ _ hm ?_
      clear hK K
      refine wpAnyH_all (rs := [6]) (by kernel_rfl) (by simp) ?_
      intro i hi
      simp only [List.mem_cons, List.not_mem_nil, or_false] at hi
      subst hi
      refine anyH_op 6 rfl rfl ?_
      intro K hK
      refine wpl_allocB _ zero_b32 hm ?_
      clear hm
      intro wa g10 hb hm
      clear hb
      refine wpList_nil ?_
      refine hK _ _ hm.tail ?_
      clear hK K
      refine wpAnyH_all (rs := [7]) (by kernel_rfl) (by simp) ?_
      intro i hi
      simp only [List.mem_cons, List.not_mem_nil, or_false] at hi
      subst hi
      refine anyH_op 7 rfl rfl ?_
      intro K hK
      refine wpl_stw 0 (u8s X) hm rfl rfl rfl 32 sz_b32 (by simp [u8s_length]) HXL.out (u8s_one _) ?_
      clear hm
      intro wz hm
      refine wpList_nil ?_
      refine hK _ _ hm.tail ?_
      clear hK K
      refine wpAnyH_done (by kernel_rfl) ?_ _
      simp only [endsIn]
      go_wp2_with (first
        | ((with_reducible refine at_op (some 20) (.sliceToArrayPointer 42 (.tmp 19)) ?_); go_must (refine wpl_s2a 16 un_tag (by omega) rfl ?_))
        | ((with_reducible refine at_op (some 21) (.load 42 (.tmp 20)) ?_); refine wpl_lds 0 0 (u8s G) hm rfl rfl _ un_tag rfl 16 sz_tag (by rw [HXL.out]; omega) (HXG.out) ?_)
        | ((with_reducible refine at_op none (.store 42 (.tmp 8) (.tmp 21)) ?_); refine wpl_stw 2 (u8s G) hm rfl rfl rfl 16 sz_tag (by simp [u8s_length]) (HGL.out) (u8s_one _) ?_; clear hm; intro wy hm))
      exact ret_cell 2 hm rfl Tryd.results16 rfl _ un_tag rfl 16 sz_tag HGL.out rfl ⟨by rw [HGG.out ()], hm.below⟩
    · refine anyH_op 6 rfl rfl ?_
      intro K hK
      refine wpl_allocB _ zero_b32 hm ?_
      clear hm
      intro wa g10 hb hm
      have HS' : Hid (SlOld wa vm M) := SlOld.below HS.out hb
      clear HS hb
      have HS := HS'
      refine wpList_nil ?_
      refine hK _ _ hm.tail ?_
      clear hK K
      refine wpAnyH_all (rs := [5]) (by kernel_rfl) (by simp) ?_
      intro i hi
      simp only [List.mem_cons, List.not_mem_nil, or_false] at hi
      subst hi
      refine anyH_op 5 rfl rfl ?_
      intro K hK
      obtain ⟨pm, cm, hvm, _⟩ := HS.out.len
      subst hvm
      go_wp2_with (go_at_call 29; refine (mac_any E M _ _ HEB.out HMB.out (by rw [HEL.out]; omega) HML.out _ (Tab.mem HT.out hm (by simp)) (old_all (hm.get 1 rfl) HEL.out (Nat.le_refl _)) HS.out).mono ?_; rintro e wx ⟨he, hb⟩; rw [HXX.out ()] at he; subst he; replace hm := hm.call hb; clear hb)
      refine hK _ _ hm.tail ?_
      clear hK K
      refine wpAnyH_all (rs := [7]) (by kernel_rfl) (by simp) ?_
      intro i hi
      simp only [List.mem_cons, List.not_mem_nil, or_false] at hi
      subst hi
      refine anyH_op 7 rfl rfl ?_
      intro K hK
      refine wpl_stw 0 (u8s X) hm rfl rfl rfl 32 sz_b32 (by simp [u8s_length]) HXL.out (u8s_one _) ?_
      clear hm
      intro wz hm
      refine wpList_nil ?_
      refine hK _ _ hm.tail ?_
      clear hK K
      refine wpAnyH_done (by kernel_rfl) ?_ _
      simp only [endsIn]
      go_wp2_with (first
        | ((with_reducible refine at_op (some 20) (.sliceToArrayPointer 42 (.tmp 19)) ?_); go_must (refine wpl_s2a 16 un_tag (by omega) rfl ?_))
        | ((with_reducible refine at_op (some 21) (.load 42 (.tmp 20)) ?_); refine wpl_lds 0 0 (u8s G) hm rfl rfl _ un_tag rfl 16 sz_tag (by rw [HXL.out]; omega) (HXG.out) ?_)
        | ((with_reducible refine at_op none (.store 42 (.tmp 8) (.tmp 21)) ?_); refine wpl_stw 2 (u8s G) hm rfl rfl rfl 16 sz_tag (by simp [u8s_length]) (HGL.out) (u8s_one _) ?_; clear hm; intro wy hm))
      exact ret_cell 2 hm rfl Tryd.results16 rfl _ un_tag rfl 16 sz_tag HGL.out rfl ⟨by rw [HGG.out ()], hm.below⟩
  · refine anyH_op 6 rfl rfl ?_
    intro K hK
    refine wpl_allocB _ zero_b32 hm ?_
    clear hm
    intro wa g10 hb hm
    clear hb
    refine wpList_nil ?_
    refine hK _ _ hm.tail ?_
    clear hK K
    refine wpAnyH_all (rs := [4]) (by kernel_rfl) (by simp) ?_
    intro i hi
    simp only [List.mem_cons, List.not_mem_nil, or_false] at hi
    subst hi
    refine anyH_op 4 rfl rfl ?_
    intro K hK
    go_wp2_with (go_at_call 30; refine (message_any ns ds cs _ _ HNL.out hal hcl _ (SlOld.mem HA.out hm) (SlOld.mem HC.out hm)).mono ?_; rintro e wm ⟨vm, he, hs, hb⟩; subst he; rw [HMM.out ()] at hs; have HS : Hid (SlOld wm vm M) := hs; replace hm := hm.call hb; clear hb hs)
    refine hK _ _ hm.tail ?_
    clear hK K
    refine wpAnyH_all (rs := [5]) (by kernel_rfl) (by simp) ?_
    intro i hi
    simp only [List.mem_cons, List.not_mem_nil, or_false] at hi
    subst hi
    refine anyH_op 5 rfl rfl ?_
    intro K hK
    obtain ⟨pm, cm, hvm, _⟩ := HS.out.len
    subst hvm
    go_wp2_with (go_at_call 29; refine (mac_any E M _ _ HEB.out HMB.out (by rw [HEL.out]; omega) HML.out _ (Tab.mem HT.out hm (by simp)) (old_all (hm.get 1 rfl) HEL.out (Nat.le_refl _)) HS.out).mono ?_; rintro e wx ⟨he, hb⟩; rw [HXX.out ()] at he; subst he; replace hm := hm.call hb; clear hb)
    refine hK _ _ hm.tail ?_
    clear hK K
    refine wpAnyH_all (rs := [7]) (by kernel_rfl) (by simp) ?_
    intro i hi
    simp only [List.mem_cons, List.not_mem_nil, or_false] at hi
    subst hi
    refine anyH_op 7 rfl rfl ?_
    intro K hK
    refine wpl_stw 0 (u8s X) hm rfl rfl rfl 32 sz_b32 (by simp [u8s_length]) HXL.out (u8s_one _) ?_
    clear hm
    intro wz hm
    refine wpList_nil ?_
    refine hK _ _ hm.tail ?_
    clear hK K
    refine wpAnyH_done (by kernel_rfl) ?_ _
    simp only [endsIn]
    go_wp2_with (first
      | ((with_reducible refine at_op (some 20) (.sliceToArrayPointer 42 (.tmp 19)) ?_); go_must (refine wpl_s2a 16 un_tag (by omega) rfl ?_))
      | ((with_reducible refine at_op (some 21) (.load 42 (.tmp 20)) ?_); refine wpl_lds 0 0 (u8s G) hm rfl rfl _ un_tag rfl 16 sz_tag (by rw [HXL.out]; omega) (HXG.out) ?_)
      | ((with_reducible refine at_op none (.store 42 (.tmp 8) (.tmp 21)) ?_); refine wpl_stw 2 (u8s G) hm rfl rfl rfl 16 sz_tag (by simp [u8s_length]) (HGL.out) (u8s_one _) ?_; clear hm; intro wy hm))
    exact ret_cell 2 hm rfl Tryd.results16 rfl _ un_tag rfl 16 sz_tag HGL.out rfl ⟨by rw [HGG.out ()], hm.below⟩
set_option maxHeartbeats 1000000 in
set_option maxRecDepth 100000 in
theorem seal_any (ks ns ds ms : List Int) (va vp : Value) (hkl : ks.length = 32) (hnl : ns.length = 12) (hkb : Bytes ks) (hnb : Bytes ns) (hdb : Bytes ds) (hmb : Bytes ms) (hal : ds.length ≤ 20000) (hml : ms.length ≤ 20000) (w : World) (ht : Tab w) (hq : QTab w) (hva : SlOld w va ds) (hvp : SlOld w vp ms) :
    Calls Tryd.prog 18 #[.agg (u8s ks).toArray, .agg (u8s ns).toArray, va, vp] w fun e w' => ∃ g cap l, e = .returned (.slice (some ⟨g, 0, none⟩) (ms.length + 16) cap) ∧ ms.length + 16 ≤ cap ∧ w.heap.size ≤ g ∧ Row w' g (u8s (sealOf ks ns ds ms) ++ l) 5 ∧ Below w.heap.size w w' := by
  obtain ⟨pa, ca, rfl, _⟩ := hva.len
  obtain ⟨pp, cp, rfl, _⟩ := hvp.len
  have hm := Mem.start w
  have HT : Hid _ := ht
  have HKL : Hid _ := hkl
  have HNL : Hid _ := hnl
  have HKB : Hid _ := hkb
  have HNB : Hid _ := hnb
  have HKU : Hid ((u8s ks).length = 32) := by show _ = _; rw [u8s_length]; exact hkl
  have HNU : Hid ((u8s ns).length = 12) := by show _ = _; rw [u8s_length]; exact hnl
  have HQ : Hid _ := hq
  have HDB : Hid _ := hdb
  have HA : Hid (SlOld w (.slice pa ds.length ca) ds) := hva
  have HP : Hid (SlOld w (.slice pp ms.length cp) ms) := hvp
  obtain ⟨C, hC⟩ : ∃ C, C = encOf ks ns ms := ⟨_, rfl⟩
  have HCC : Hid (∀ _ : Unit, encOf ks ns ms = C) := fun _ => hC.symm
  have HCB : Hid (Bytes C) := by rw [hC]; exact encOf_bytes _ _ hmb
  have HCL : Hid (C.length = ms.length) := by show _ = _; rw [hC, encOf_length]
  obtain ⟨G, hG⟩ : ∃ G, G = tagOf ks ns ds C := ⟨_, rfl⟩
  have HGG : Hid (∀ _ : Unit, tagOf ks ns ds C = G) := fun _ => hG.symm
  have HGL : Hid (G.length = 16) := by show _ = _; rw [hG, tagOf_length]
  have HGU : Hid ((u8s G).length = 16) := by show _ = _; rw [u8s_length]; exact HGL.out
  have HSL : Hid (∀ _ : Unit, sealOf ks ns ds ms = C ++ G) := fun _ => by rw [hG, hC]; rfl
  have hty : ∀ (a b c : Nat), ∀ r ∈ [(a, u8s G, (42 : TypeId)), (b, u8s ns, (30 : TypeId)), (c, u8s ks, (23 : TypeId))], r.2.2 ≠ 5 := by
    intro a b c r hr
    simp only [List.mem_cons, List.not_mem_nil, or_false] at hr
    rcases hr with rfl | rfl | rfl <;> simp
  have HTY : Hid _ := hty
  clear ht hq hkl hnl hkb hnb hdb hmb hva hvp hC hG hty
  go_enter Tryd.func18, Tryd.ntmps18
  go_wp2_with (first
    | ((with_reducible refine at_op (some 4) (.box 23 (.tmp 0)) ?_); refine wpl_box (u8s ks) rfl hm ?_; clear hm; intro w1 g4 hm)
    | ((with_reducible refine at_op (some 5) (.box 30 (.tmp 1)) ?_); refine wpl_box (u8s ns) rfl hm ?_; clear hm; intro w2 g5 hm)
    | ((with_reducible refine at_op (some 11) (.load 23 (.tmp 4)) ?_); refine wpl_ldw 1 hm rfl rfl _ un_key rfl 32 sz_key (HKU.out) ?_)
    | ((with_reducible refine at_op (some 12) (.load 30 (.tmp 5)) ?_); refine wpl_ldw 0 hm rfl rfl _ un_nce rfl 12 sz_nce (HNU.out) ?_)
    | (go_at_call 24; refine (turned_any ks ns ms _ HKL.out HNL.out HKB.out HNB.out (by omega) _ (Tab.mem HT.out hm (by simp)) (QTab.mem HQ.out hm (by simp)) (SlOld.mem HP.out hm)).mono ?_; rintro e w3 ⟨gc, he, hge, hr, hb⟩; subst he; rw [HCC.out ()] at hr; replace hm := hm.callNew hb hr hge; clear hb hr hge)
    | ((with_reducible refine at_op (some 15) (.load 23 (.tmp 4)) ?_); refine wpl_ldw 2 hm rfl rfl _ un_key rfl 32 sz_key (HKU.out) ?_)
    | ((with_reducible refine at_op (some 16) (.load 30 (.tmp 5)) ?_); refine wpl_ldw 1 hm rfl rfl _ un_nce rfl 12 sz_nce (HNU.out) ?_)
    | (go_at_call 16; refine (tag_any ks ns ds C _ _ HKL.out HNL.out HKB.out HNB.out HDB.out HCB.out hal (by rw [HCL.out]; exact hml) _ (Tab.mem HT.out hm (by simp)) (SlOld.mem HA.out hm) (old_all (hm.get 0 rfl) HCL.out (Nat.le_refl _))).mono ?_; rintro e w4 ⟨he, hb⟩; rw [HGG.out ()] at he; subst he; replace hm := hm.call hb; clear hb)
    | ((with_reducible refine at_op (some 10) (.alloc 42) ?_); refine wpl_alloc _ zero_tag hm ?_; clear hm; intro w5 g10 hm)
    | ((with_reducible refine at_op none (.store 42 (.tmp 10) (.tmp 19)) ?_); refine wpl_stw 0 (u8s G) hm rfl rfl rfl 16 sz_tag (by simp [u8s_length]) (HGU.out) (u8s_one _) ?_; clear hm; intro w6 hm; have HOW : Hid (OwnB 5 w6 w.heap.size (.slice (some ⟨gc, 0, none⟩) ms.length ms.length) C) := (by rw [← HCL.out]; exact own_row (hm.get 1 rfl) (by have hf := hm.fresh _ (List.mem_cons_of_mem _ (List.mem_cons_self ..)); simpa using hf) (by rw [HCL.out]; omega)); replace hm := hm.two')
    | ((with_reducible refine at_op (some 22) (.call { callee := .builtin .append, args := #[.tmp 20, .tmp 21], argTypes := #[26, 26] }) ?_); go_must (refine wpl_app rfl un_bs made_u8 G hm HOW.out (HTY.out _ _ _) rfl rfl HGL.out.symm (fun _ => ⟨g10, 0, rfl, Seg.row (hm.get 0 rfl)⟩) (by rw [HCL.out, HGL.out]; omega) ?_); clear hm; intro v22 w7 ho hm; have HO : Hid (OwnB 5 w7 w.heap.size v22 (C ++ G)) := ho; clear ho HOW))
  go_ret
  obtain ⟨g, cap, l, hv, hge, hr, hc⟩ := OwnB.row HO.out (by rw [List.length_append, HGL.out]; omega)
  rw [List.length_append, HGL.out, HCL.out] at hv hc
  exact ⟨g, cap, l, by rw [hv]; rfl, hc, hge, by rw [HSL.out ()]; exact hr, hm.below⟩
end Go.Proofs.YtbfccepddfinoaaDoor
