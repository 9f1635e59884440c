/- The walk of the law MacLong. -/
import Derived.Test.YtaalpmlmogfooaaDoorMacLaw
namespace Go.Proofs.YtaalpmlmogfooaaDoor
open Go Go.RowKit

set_option maxHeartbeats 1000000 in
set_option maxRecDepth 100000 in
theorem macLong_walk (vk vm : Value) (ks ms : List Int) (n : Int) (hn : 0 ≤ n ∧ n ≤ 255) (w : World) (ht : Tab w) (hbk : Bytes ks) (hbm : Bytes ms) (hsk : SlOld w vk ks) (hsm : SlOld w vm ms) :
    Calls Tryd.prog 4 #[vk, vm, .int .u8 n] w fun e w' => e = .returned (.bool true) ∧ Below w.heap.size w w' := by
  obtain ⟨pk, ck, rfl, _⟩ := hsk.len
  obtain ⟨pm, cm, rfl, _⟩ := hsm.len
  obtain ⟨hn0, hn1⟩ := hn
  have hm := Mem.start w
  have HT : Hid _ := ht
  have HBK : Hid _ := hbk
  have HBM : Hid _ := hbm
  have HV : Hid (SlOld w (.slice pk ks.length ck) ks) := hsk
  have HVM : Hid (SlOld w (.slice pm ms.length cm) ms) := hsm
  clear ht hbk hbm hsk hsm
  by_cases h150 : 150 < ks.length
  · have h1i : (150 : Int) < (ks.length : Int) := by omega
    go_enter Tryd.func4, Tryd.ntmps4
    go_wp2_with (first
      | (go_at_call 9; refine (known_any _ (Tab.mem HT.out hm (by simp))).mono ?_; rintro e w3 ⟨rfl, hb⟩; replace hm := hm.call hb; clear hb))
    go_ret
    exact ⟨rfl, hm.below⟩
  have h1i : ¬ (150 : Int) < (ks.length : Int) := by omega
  by_cases h100 : 100 < ms.length
  · have h2i : (100 : Int) < (ms.length : Int) := by omega
    go_enter Tryd.func4, Tryd.ntmps4
    go_wp2_with (first
      | (go_at_call 9; refine (known_any _ (Tab.mem HT.out hm (by simp))).mono ?_; rintro e w3 ⟨rfl, hb⟩; replace hm := hm.call hb; clear hb))
    go_ret
    exact ⟨rfl, hm.below⟩
  have h2i : ¬ (100 : Int) < (ms.length : Int) := by omega
  obtain ⟨M, hM⟩ : ∃ M, M = macOf ks ms := ⟨_, rfl⟩
  have HM : Hid (macOf ks ms = M) := hM.symm
  have HML : Hid ((u8s M).length = 32) := by show _ = _; rw [u8s_length, hM, macOf_length]
  have heq := eq_self32 M (by rw [hM, macOf_length])
  clear hM
  by_cases h64 : 64 < ks.length
  · have h3i : (64 : Int) < (ks.length : Int) := by omega
    have HSL : Hid ((shaOf ks).length = 32) := shaOf_length _
    have HSB : Hid (Bytes (shaOf ks)) := shaOf_bytes _
    have HM2 : Hid (macOf (shaOf ks) ms = M) := (macOf_long ks ms h64).trans HM.out
    go_enter Tryd.func4, Tryd.ntmps4
    go_wp2_with (first
      | (go_at_call 9; refine (known_any _ (Tab.mem HT.out hm (by simp))).mono ?_; rintro e w3 ⟨rfl, hb⟩; replace hm := hm.call hb; clear hb)
      | (go_at_call 11; refine (mac_any ks ms _ _ HBK.out HBM.out (by omega) (by omega) _ (Tab.mem HT.out hm (by simp)) (SlOld.mem HV.out hm) (SlOld.mem HVM.out hm)).mono ?_; rintro e w4 ⟨he, hb⟩; rw [HM.out] at he; subst he; replace hm := hm.call hb; clear hb)
      | ((with_reducible refine at_op (some 7) (.alloc 23) ?_); refine wpl_alloc _ zero_b32 hm ?_; clear hm; intro w5 g7 hm)
      | ((with_reducible refine at_op none (.store 23 (.tmp 7) (.tmp 23)) ?_); refine wpl_stw 0 (u8s M) hm rfl rfl rfl 32 sz_b32 (by simp [u8s_length]) (HML.out) (u8s_one _) ?_; clear hm; intro w6 hm)
      | (go_at_call 18; refine (sum_any ks _ HBK.out (by omega) _ (Tab.mem HT.out hm (by simp)) (SlOld.mem HV.out hm)).mono ?_; rintro e w7 ⟨rfl, hb⟩; replace hm := hm.call hb; clear hb)
      | ((with_reducible refine at_op (some 8) (.alloc 23) ?_); refine wpl_alloc _ zero_b32 hm ?_; clear hm; intro w8 g8 hm)
      | ((with_reducible refine at_op none (.store 23 (.tmp 8) (.tmp 28)) ?_); refine wpl_stw 0 (u8s (shaOf ks)) hm rfl rfl rfl 32 sz_b32 (by simp [u8s_length]) (by rw [u8s_length]; exact HSL.out) (u8s_one _) ?_; clear hm; intro w9 hm))

    refine wp_ends0 ?_
    refine anyH_start (T := fun W => Mem w [] W [(g7, u8s M, 23)]) (by kernel_rfl) hm ?_
    clear hm
    intro w10 hm
    refine anyH_take 0 (v := .agg (u8s M).toArray) rfl (by kernel_rfl) (by kernel_rfl) (by kernel_rfl) rfl (fun W hW => exec_lds 0 _ (Mem.get hW 0 rfl) rfl _ un_b32 rfl 32 sz_b32 (by rw [HML.out]; omega) (by rw [List.drop_zero, List.take_of_length_le (Nat.le_of_eq HML.out)])) hm.tail ?_
    go_simp
    refine anyH_take 1 (v := .slice (some ⟨g8, 0, none⟩) 32 32) rfl (by kernel_rfl) (by kernel_rfl) (by kernel_rfl) rfl (fun W _ => by go_simp) hm.tail ?_
    go_simp
    refine anyH_take 2 (v := .slice pm ms.length cm) rfl (by kernel_rfl) (by kernel_rfl) (by kernel_rfl) rfl (fun W _ => by go_simp) hm.tail ?_
    go_simp
    refine wpAnyH_all (rs := [3]) (by kernel_rfl) (by simp) ?_
    intro i hi
    simp only [List.mem_cons, List.not_mem_nil, or_false] at hi
    subst hi
    refine anyH_op 3 rfl rfl ?_
    intro K hK
    go_wp2_with (go_at_call 11; refine (mac_any (shaOf ks) ms _ _ HSB.out HBM.out (by rw [HSL.out]; omega) (by omega) _ (Tab.mem HT.out hm (by simp)) (old_all (hm.get 0 rfl) HSL.out (Nat.le_refl _)) (SlOld.mem HVM.out hm)).mono ?_; rintro e w11 ⟨he, hb⟩; rw [HM2.out] at he; subst he; replace hm := hm.call hb; clear hb)
    refine hK _ _ hm.tail ?_
    clear hK K
    refine anyH_take 4 (v := .bool true) rfl (by kernel_rfl) (by kernel_rfl) (by kernel_rfl) rfl (fun W _ => by go_simp) hm.tail ?_
    go_simp
    refine wpAnyH_all (rs := [5]) (by kernel_rfl) (by simp) ?_
    intro i hi
    simp only [List.mem_cons, List.not_mem_nil, or_false] at hi
    subst hi
    refine anyH_op 5 rfl rfl ?_
    intro K hK
    go_wp2_with fail
    refine hK _ _ hm.tail ?_
    clear hK K
    refine wpAnyH_done (by kernel_rfl) ?_ _
    simp only [endsIn]
    go_wp2_with fail
    go_ret
    exact ⟨rfl, hm.below⟩
  have h3i : ¬ (64 : Int) < (ks.length : Int) := by omega
  have HTY : Hid (∀ g l, ∀ r ∈ [((g, l, 23) : Nat × List Value × TypeId)], r.2.2 ≠ 5) := by
    intro g l r hr
    have : r = (g, l, 23) := by simpa using hr
    rw [this]
    show (23 : Nat) ≠ 5
    decide
  go_enter Tryd.func4, Tryd.ntmps4
  go_wp2_with (first
    | (go_at_call 9; refine (known_any _ (Tab.mem HT.out hm (by simp))).mono ?_; rintro e w3 ⟨rfl, hb⟩; replace hm := hm.call hb; clear hb)
    | (go_at_call 11; refine (mac_any ks ms _ _ HBK.out HBM.out (by omega) (by omega) _ (Tab.mem HT.out hm (by simp)) (SlOld.mem HV.out hm) (SlOld.mem HVM.out hm)).mono ?_; rintro e w4 ⟨he, hb⟩; rw [HM.out] at he; subst he; replace hm := hm.call hb; clear hb)
    | ((with_reducible refine at_op (some 7) (.alloc 23) ?_); refine wpl_alloc _ zero_b32 hm ?_; clear hm; intro w5 g7 hm)
    | ((with_reducible refine at_op none (.store 23 (.tmp 7) (.tmp 23)) ?_); refine wpl_stw 0 (u8s M) hm rfl rfl rfl 32 sz_b32 (by simp [u8s_length]) (HML.out) (u8s_one _) ?_; clear hm; intro w6 hm)
    | ((with_reducible refine at_op (some 35) (.call { callee := .builtin .append, args := #[.const (.slice none 0 0), .tmp 34], argTypes := #[22, 22] }) ?_); refine wpl_app rfl un_bs made_u8 ks hm (OwnB.nil _ _ _) (HTY.out _ _) rfl rfl rfl (SlOld.mem HV.out hm).src0.2.2 (by simp; omega) ?_; clear hm; intro v1 w7 hown hm; replace hown : OwnB 5 w7 w.heap.size v1 ks := hown))

  replace hm : Mem w [] w7 [(g7, u8s M, 23)] := hm
  rw [show (decide ((150 : Int) < (ks.length : Int)) || decide ((100 : Int) < (ms.length : Int))) = false from by rw [decide_eq_false (show ¬ (150 : Int) < (ks.length : Int) by omega), decide_eq_false (show ¬ (100 : Int) < (ms.length : Int) by omega)]; rfl, show decide ((64 : Int) < (ks.length : Int)) = false from decide_eq_false (by omega), show decide ((150 : Int) < (ks.length : Int)) = false from decide_eq_false (by omega), show decide ((100 : Int) < (ms.length : Int)) = false from decide_eq_false (by omega)]
  go_loopw [9, 10] (fun vs vi wr => ∃ i : Nat, (i : Int) ≤ n ∧ ks.length + i ≤ 64 ∧ vi = .int .i64 i ∧ OwnB 5 wr w.heap.size vs (ks ++ List.replicate i 0) ∧ Mem w [] wr [(g7, u8s M, 23)]) (fun _ vi _ => (n - intOf vi).toNat)
  case atStart => exact ⟨0, by omega, by omega, rfl, by rw [List.replicate_zero, List.append_nil]; exact hown, hm⟩
  case round =>
    clear hm hown
    obtain ⟨i, hi, hki, rfl, hown, hm⟩ := hrel
    obtain ⟨q, c, hq, hqc, hqs⟩ := hown.old
    clear hqs
    have hL : (ks ++ List.replicate i (0 : Int)).length = ks.length + i := by simp
    rw [hL] at hq hqc
    subst hq
    by_cases hin : (i : Int) < n
    · by_cases hl6 : ks.length + i < 64
      · have hli : ((ks.length + i : Nat) : Int) < 64 := by omega
        have HLN : Hid ((ks ++ List.replicate i (0 : Int)).length + [(0 : Int)].length ≤ 1099511627776) := by show _ ≤ _; rw [hL]; simp; omega
        have HN2 : Hid (∀ v' w', OwnB 5 w' w.heap.size v' (ks ++ List.replicate i 0 ++ [0]) → OwnB 5 w' w.heap.size v' (ks ++ List.replicate (i + 1) 0)) := by
          intro v' w' h
          rw [List.replicate_succ', ← List.append_assoc]
          exact h
        clear hL
        go_wp2_with (first
          | ((with_reducible refine at_op (some 49) (.call { callee := .builtin .append, args := #[.tmp 47, .tmp 48], argTypes := #[22, 22] }) ?_); refine wpl_app rfl un_bs made_u8 [0] (hm.allocO _) (hown.alloc _) (HTY.out _ _) rfl rfl rfl (fun _ => ⟨_, _, rfl, Seg.newO wr [0] 5 (0, 0)⟩) HLN.out ?_; clear hm hown; intro v3 w8 hown hm; replace hown := HN2.out _ _ hown))

        go_roundw
        case rel => exact ⟨i + 1, by omega, by omega, by go_num, hown, hm⟩
        case measure => simp [intOf]; omega
      · have hli : ¬ ((ks.length + i : Nat) : Int) < 64 := by omega
        have HLK : Hid ((ks ++ List.replicate i (0 : Int)).length ≤ 500000) := by show _ ≤ _; rw [hL]; omega
        have HBK2 : Hid (Bytes (ks ++ List.replicate i 0)) := Bytes.append HBK.out (Bytes.zeros _)
        have HM2 : Hid (macOf (ks ++ List.replicate i 0) ms = M) := (macOf_noughts ks ms i hki).trans HM.out
        clear hL
        go_wp2_with fail
        refine wp_ends0 ?_
        refine anyH_startO (T := fun W => Mem w [] W [(g7, u8s M, 23)]) (by kernel_rfl) hm hown ?_
        clear hm hown
        intro w10 hm hown
        refine anyH_take 0 (v := .agg (u8s M).toArray) rfl (by kernel_rfl) (by kernel_rfl) (by kernel_rfl) rfl (fun W hW => exec_lds 0 _ (Mem.get hW 0 rfl) rfl _ un_b32 rfl 32 sz_b32 (by rw [HML.out]; omega) (by rw [List.drop_zero, List.take_of_length_le (Nat.le_of_eq HML.out)])) hm ?_
        go_simp
        refine anyH_take 1 (v := .slice q (ks.length + i) c) rfl (by kernel_rfl) (by kernel_rfl) (by kernel_rfl) rfl (fun W _ => by go_simp) hm ?_
        go_simp
        refine anyH_take 2 (v := .slice pm ms.length cm) rfl (by kernel_rfl) (by kernel_rfl) (by kernel_rfl) rfl (fun W _ => by go_simp) hm ?_
        go_simp
        refine wpAnyH_all (rs := [3]) (by kernel_rfl) (by simp) ?_
        intro i hi
        simp only [List.mem_cons, List.not_mem_nil, or_false] at hi
        subst hi
        refine anyH_op 3 rfl rfl ?_
        intro K hK
        go_wp2_with (go_at_call 11; refine (mac_any (ks ++ List.replicate i 0) ms _ _ HBK2.out HBM.out HLK.out (by omega) _ (Tab.mem HT.out hm (by simp)) hown.old (SlOld.mem HVM.out hm)).mono ?_; rintro e w11 ⟨he, hb⟩; rw [HM2.out] at he; subst he; replace hm := hm.call hb; clear hb)
        refine hK _ _ hm ?_
        clear hK K
        refine anyH_take 4 (v := .bool true) rfl (by kernel_rfl) (by kernel_rfl) (by kernel_rfl) rfl (fun W _ => by go_simp) hm ?_
        go_simp
        refine wpAnyH_all (rs := [5]) (by kernel_rfl) (by simp) ?_
        intro i hi
        simp only [List.mem_cons, List.not_mem_nil, or_false] at hi
        subst hi
        refine anyH_op 5 rfl rfl ?_
        intro K hK
        go_wp2_with fail
        refine hK _ _ hm ?_
        clear hK K
        refine wpAnyH_done (by kernel_rfl) ?_ _
        simp only [endsIn]
        go_wp2_with fail
        go_ret
        exact ⟨rfl, hm.below⟩
    · have HLK : Hid ((ks ++ List.replicate i (0 : Int)).length ≤ 500000) := by show _ ≤ _; rw [hL]; omega
      have HBK2 : Hid (Bytes (ks ++ List.replicate i 0)) := Bytes.append HBK.out (Bytes.zeros _)
      have HM2 : Hid (macOf (ks ++ List.replicate i 0) ms = M) := (macOf_noughts ks ms i hki).trans HM.out
      clear hL
      go_wp2_with fail
      refine wp_ends0 ?_
      refine anyH_startO (T := fun W => Mem w [] W [(g7, u8s M, 23)]) (by kernel_rfl) hm hown ?_
      clear hm hown
      intro w10 hm hown
      refine anyH_take 0 (v := .agg (u8s M).toArray) rfl (by kernel_rfl) (by kernel_rfl) (by kernel_rfl) rfl (fun W hW => exec_lds 0 _ (Mem.get hW 0 rfl) rfl _ un_b32 rfl 32 sz_b32 (by rw [HML.out]; omega) (by rw [List.drop_zero, List.take_of_length_le (Nat.le_of_eq HML.out)])) hm ?_
      go_simp
      refine anyH_take 1 (v := .slice q (ks.length + i) c) rfl (by kernel_rfl) (by kernel_rfl) (by kernel_rfl) rfl (fun W _ => by go_simp) hm ?_
      go_simp
      refine anyH_take 2 (v := .slice pm ms.length cm) rfl (by kernel_rfl) (by kernel_rfl) (by kernel_rfl) rfl (fun W _ => by go_simp) hm ?_
      go_simp
      refine wpAnyH_all (rs := [3]) (by kernel_rfl) (by simp) ?_
      intro i hi
      simp only [List.mem_cons, List.not_mem_nil, or_false] at hi
      subst hi
      refine anyH_op 3 rfl rfl ?_
      intro K hK
      go_wp2_with (go_at_call 11; refine (mac_any (ks ++ List.replicate i 0) ms _ _ HBK2.out HBM.out HLK.out (by omega) _ (Tab.mem HT.out hm (by simp)) hown.old (SlOld.mem HVM.out hm)).mono ?_; rintro e w11 ⟨he, hb⟩; rw [HM2.out] at he; subst he; replace hm := hm.call hb; clear hb)
      refine hK _ _ hm ?_
      clear hK K
      refine anyH_take 4 (v := .bool true) rfl (by kernel_rfl) (by kernel_rfl) (by kernel_rfl) rfl (fun W _ => by go_simp) hm ?_
      go_simp
      refine wpAnyH_all (rs := [5]) (by kernel_rfl) (by simp) ?_
      intro i hi
      simp only [List.mem_cons, List.not_mem_nil, or_false] at hi
      subst hi
      refine anyH_op 5 rfl rfl ?_
      intro K hK
      go_wp2_with fail
      refine hK _ _ hm ?_
      clear hK K
      refine wpAnyH_done (by kernel_rfl) ?_ _
      simp only [endsIn]
      go_wp2_with fail
      go_ret
      exact ⟨rfl, hm.below⟩
end Go.Proofs.YtaalpmlmogfooaaDoor
