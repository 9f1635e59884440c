/- The walk of the law StreamTwice. -/
import Derived.Test.YtalhobmnbikbfaaDoorStKnown
import Derived.Test.YtalhobmnbikbfaaDoorAnyG
namespace Go.Proofs.YtalhobmnbikbfaaDoor
open Go Go.RowKit
set_option maxHeartbeats 2000000 in
set_option maxRecDepth 100000 in
theorem streamTwice_A (ks ns ms : List Int) (c at_ : Int) (v : Value) (J : Nat) (hJ : at_ % 6 = (J : Int)) (hcase : 64 * J ≤ ms.length) (h300 : ms.length ≤ 300) (hkl : ks.length = 32) (hnl : ns.length = 12) (hkb : Bytes ks) (hnb : Bytes ns) (hc : Word c) (hbm : Bytes ms) (hat : 0 ≤ at_ ∧ at_ ≤ 255) (w : World) (ht : QTab w) (hv : SlOld w v ms) :
    Calls Tryd.prog 4 #[.agg (u8s ks).toArray, .agg (u8s ns).toArray, .int .u32 c, v, .int .u8 at_] w fun e w' => e = .returned (.bool true) ∧ Below w.heap.size w w' := by
  obtain ⟨p, cap, rfl, hcap⟩ := hv.len
  obtain ⟨hat0, hat1⟩ := hat
  have hm := Mem.start w
  have HT : Hid _ := ht
  have HKB : Hid _ := hkb
  have HNB : Hid _ := hnb
  have HKL : Hid _ := hkl
  have HNL : Hid _ := hnl
  have HC : Hid _ := hc
  have HKU : Hid ((u8s ks).length = 32) := by show _ = _; rw [u8s_length]; exact hkl
  have HNU : Hid ((u8s ns).length = 12) := by show _ = _; rw [u8s_length]; exact hnl
  obtain ⟨hc0, hc1⟩ := hc
  clear ht hkb hnb hkl hnl
  have HV : Hid (SlOld w (.slice p ms.length cap) ms) := hv
  have HBM : Hid _ := hbm
  have hJ6 : J < 6 := by omega
  have hJi : (J : Int) < 6 := by omega
  have hmi : ¬ (300 : Int) < (ms.length : Int) := by omega
  have hcs : ¬ (ms.length : Int) < 64 * (J : Int) := by omega
  obtain ⟨X, hX⟩ : ∃ X, X = xorOf ks ns c ms := ⟨_, rfl⟩
  have HXE : Hid (xorOf ks ns c ms = X) := hX.symm
  have HXL : Hid (X.length = ms.length) := by show _ = _; rw [hX, xorOf_length]
  have HXB : Hid (Bytes X) := by rw [hX]; exact xorOf_bytes _ _ _ hbm
  have HTW : Hid (xorOf ks ns c X = ms) := by show _ = _; rw [hX]; exact xorOf_twice _ _ _ hbm
  obtain ⟨Hd, hHd⟩ : ∃ H, H = xorOf ks ns c (ms.take (64 * J)) := ⟨_, rfl⟩
  obtain ⟨Tl, hTl⟩ : ∃ H, H = xorOf ks ns ((c + (J : Int)) % 4294967296) (ms.drop (64 * J)) := ⟨_, rfl⟩
  have HHE : Hid (xorOf ks ns c (ms.take (64 * J)) = Hd) := hHd.symm
  have HTE : Hid (xorOf ks ns ((c + (J : Int)) % 4294967296) (ms.drop (64 * J)) = Tl) := hTl.symm
  have HHL : Hid (Hd.length = (64 * J)) := by show _ = _; rw [hHd, xorOf_length, List.length_take]; omega
  have HTL : Hid (Tl.length = (ms.length - (64 * J))) := by show _ = _; rw [hTl, xorOf_length, List.length_drop]; try omega
  have HTN : Hid ((ms.take (64 * J)).length = (64 * J)) := by show _ = _; rw [List.length_take]; omega
  have HDN : Hid ((ms.drop (64 * J)).length = (ms.length - (64 * J))) := by show _ = _; rw [List.length_drop]; try omega
  have HSP : Hid (Hd ++ Tl = X) := by show _ = _; rw [hHd, hTl, hX]; exact xorOf_split ks ns c ms J hcase
  obtain ⟨B, hB⟩ : ∃ B, B = blockOf ks ns c := ⟨_, rfl⟩
  have HBE : Hid (∀ _ : Unit, blockOf ks ns c = B) := fun _ => hB.symm
  have HBL : Hid (B.length = 64) := by show _ = _; rw [hB, blockOf_length]
  obtain ⟨Z0, hZ0⟩ : ∃ Z : List Int, Z = List.replicate 64 0 := ⟨_, rfl⟩
  have HZE : Hid (xorOf ks ns c Z0 = B) := by show _ = _; rw [hB, hZ0]; exact xorOf_zeros ks ns c HC.out
  have HZL : Hid (Z0.length = 64) := by show _ = _; rw [hZ0, List.length_replicate]
  have HZR : Hid (List.replicate 64 (Value.int .u8 0) = u8s Z0) := by show _ = _; rw [hZ0]; simp [u8s]
  obtain ⟨q1, hq1⟩ : ∃ q, q = cutHi p cap := ⟨_, rfl⟩
  obtain ⟨q2, hq2⟩ : ∃ q, q = cutLo p cap (64 * J) := ⟨_, rfl⟩
  have HQ1 : Hid (∀ W, SlOld W (.slice p ms.length cap) ms → SlOld W (.slice q1 (64 * J) cap) (ms.take (64 * J))) := by intro W h; rw [hq1]; exact old_hi h (64 * J) (by omega)
  have HQ2 : Hid (∀ W, SlOld W (.slice p ms.length cap) ms → SlOld W (.slice q2 (ms.length - (64 * J)) (cap - (64 * J))) (ms.drop (64 * J))) := by intro W h; rw [hq2, show (ms.length - (64 * J)) = ms.length - (64 * J) by omega]; exact old_lo h (64 * J) (by omega)
  have HC1 : Hid (q1 = cutHi p cap) := hq1
  have HC2 : Hid (q2 = cutLo p cap (64 * J)) := hq2
  clear hv hbm hX hHd hTl hB hq1 hq2 hZ0
  go_enter Tryd.func4, Tryd.ntmps4
  go_wp2_with (first
    | ((with_reducible refine at_op (some 5) (.box 24 (.tmp 0)) ?_); refine wpl_box (u8s ks) rfl hm ?_; clear hm; intro w1 g5 hm)
    | ((with_reducible refine at_op (some 6) (.box 26 (.tmp 1)) ?_); refine wpl_box (u8s ns) rfl hm ?_; clear hm; intro w2 g6 hm)
    | (go_at_call 8; refine (known4_any _ (QTab.mem HT.out hm (by simp))).mono ?_; rintro e w3 ⟨rfl, hb⟩; replace hm := hm.call hb; clear hb)
    | ((with_reducible refine at_op (some 23) (.load 24 (.tmp 5)) ?_); refine wpl_ldw 1 hm rfl rfl _ un_key rfl 32 sz_key (HKU.out) ?_)
    | ((with_reducible refine at_op (some 24) (.load 26 (.tmp 6)) ?_); refine wpl_ldw 0 hm rfl rfl _ un_nce rfl 12 sz_nce (HNU.out) ?_)
    | (go_at_call 13; refine (xor_any ks ns ms c _ HKL.out HNL.out HKB.out HNB.out HC.out (by omega) _ (QTab.mem HT.out hm (by simp)) (SlOld.mem HV.out hm)).mono ?_; rintro e w4 ⟨gx, rfl, hge, hr, hb⟩; rw [HXE.out] at hr; replace hm := hm.callNew hb hr hge; clear hb hr hge))

  refine wp_ends0 ?_
  refine anyH_start (T := fun W => Mem w [] W [(gx, u8s X, 5), (g6, u8s ns, 26), (g5, u8s ks, 24)]) (by kernel_rfl) hm ?_
  clear hm
  intro w5 hm
  refine anyH_take 0 (v := .slice (some ⟨gx, 0, none⟩) ms.length ms.length) rfl (by kernel_rfl) (by kernel_rfl) (by kernel_rfl) rfl (fun W _ => by go_simp) hm ?_
  go_simp
  refine anyH_take 1 (v := .int .i64 (ms.length : Int)) rfl (by kernel_rfl) (by kernel_rfl) (by kernel_rfl) rfl (fun W _ => by go_simp) hm ?_
  go_simp
  refine anyH_take 2 (v := .slice p ms.length cap) rfl (by kernel_rfl) (by kernel_rfl) (by kernel_rfl) rfl (fun W _ => by go_simp) hm ?_
  go_simp
  refine anyH_take 3 (v := .int .i64 (ms.length : Int)) rfl (by kernel_rfl) (by kernel_rfl) (by kernel_rfl) rfl (fun W _ => by go_simp) hm ?_
  go_simp
  refine anyH_take 4 (v := .bool false) rfl (by kernel_rfl) (by kernel_rfl) (by kernel_rfl) rfl (fun W _ => by go_simp) hm ?_
  go_simp
  refine anyH_take 5 (v := .bool false) rfl (by kernel_rfl) (by kernel_rfl) (by kernel_rfl) rfl (fun W _ => by go_simp) hm ?_
  go_simp
  refine anyH_takeG 6 (v := .agg (u8s ks).toArray) rfl (by kernel_rfl) (by kernel_rfl) (by kernel_rfl) rfl (fun W hW => exec_ldsG 0 _ (Mem.get hW 2 rfl) rfl _ un_key rfl 32 sz_key (by rw [HKU.out]; omega) (by rw [List.drop_zero, List.take_of_length_le (Nat.le_of_eq HKU.out)])) hm ?_
  go_simp
  refine anyH_takeG 7 (v := .agg (u8s ns).toArray) rfl (by kernel_rfl) (by kernel_rfl) (by kernel_rfl) rfl (fun W hW => exec_ldsG 0 _ (Mem.get hW 1 rfl) rfl _ un_nce rfl 12 sz_nce (by rw [HNU.out]; omega) (by rw [List.drop_zero, List.take_of_length_le (Nat.le_of_eq HNU.out)])) hm ?_
  go_simp
  refine anyH_takeG 8 (v := .int .u32 c) rfl (by kernel_rfl) (by kernel_rfl) (by kernel_rfl) rfl (fun W _ => by go_simp) hm ?_
  go_simp
  refine anyH_takeG 9 (v := .slice (some ⟨gx, 0, none⟩) ms.length ms.length) rfl (by kernel_rfl) (by kernel_rfl) (by kernel_rfl) rfl (fun W _ => by go_simp) hm ?_
  go_simp
  refine anyH_takeG 12 (v := .slice p ms.length cap) rfl (by kernel_rfl) (by kernel_rfl) (by kernel_rfl) rfl (fun W _ => by go_simp) hm ?_
  go_simp
  refine anyH_takeG 13 (v := .string (strOf ms)) rfl (by kernel_rfl) (by kernel_rfl) (by kernel_rfl) rfl (fun W hW => exec_tostr un_bs un_u8 un_strT _ rfl (SlOld.mem HV.out hW)) hm ?_
  go_simp
  refine wpAnyH_all (rs := [10]) (by kernel_rfl) (by simp) ?_
  intro i hi
  simp only [List.mem_cons, List.not_mem_nil, or_false] at hi
  subst hi
  refine anyH_opW 10 rfl rfl ?_
  intro K hK
  go_wp2_with (go_at_call 13; refine (xor_any ks ns X c _ HKL.out HNL.out HKB.out HNB.out HC.out (by rw [HXL.out]; omega) _ (QTab.mem HT.out hm (by simp)) (old_all (hm.get 0 rfl) HXL.out (Nat.le_refl _))).mono ?_; rintro e w6 ⟨g38, he, hge, hr, hb⟩; rw [HXL.out] at he; subst he; rw [HTW.out] at hr; replace hm := hm.callNew hb hr hge; clear hb hr hge)
  refine hK _ _ hm.tail ?_
  clear hK K
  refine wpAnyH_all (rs := [11]) (by kernel_rfl) (by simp) ?_
  intro i hi
  simp only [List.mem_cons, List.not_mem_nil, or_false] at hi
  subst hi
  refine anyH_opW 11 rfl rfl ?_
  intro K hK
  refine wpl_execG (.string (strOf ms)) rfl (exec_tostr un_bs un_u8 un_strT _ rfl (old_all (hm.get 0 rfl) rfl (Nat.le_refl _))) ?_
  refine wpList_nil ?_
  refine hK _ _ hm.tail ?_
  clear hK K
  refine anyH_takeG 14 (v := .bool false) rfl (by kernel_rfl) (by kernel_rfl) (by kernel_rfl) rfl (fun W _ => exec_nes (strOf ms) (strOf ms) true rfl rfl (beq_self_str _)) hm.tail ?_
  go_simp
  refine anyH_take 15 (v := .bool false) rfl (by kernel_rfl) (by kernel_rfl) (by kernel_rfl) rfl (fun W _ => by go_simp) hm.tail ?_
  go_simp
  refine wpAnyH_done (by kernel_rfl) ?_ _
  simp only [endsIn]
  replace hm := hm.tail
  go_wp2_with fail
  refine wp_ends0 ?_
  refine anyH_start (T := fun W => Mem w [] W [(gx, u8s X, 5), (g6, u8s ns, 26), (g5, u8s ks, 24)]) (by kernel_rfl) hm ?_
  clear hm
  intro w7 hm
  refine anyH_take 0 (v := .agg (u8s ks).toArray) rfl (by kernel_rfl) (by kernel_rfl) (by kernel_rfl) rfl (fun W hW => exec_lds 0 _ (Mem.get hW 2 rfl) rfl _ un_key rfl 32 sz_key (by rw [HKU.out]; omega) (by rw [List.drop_zero, List.take_of_length_le (Nat.le_of_eq HKU.out)])) hm ?_
  go_simp
  refine anyH_take 1 (v := .agg (u8s ns).toArray) rfl (by kernel_rfl) (by kernel_rfl) (by kernel_rfl) rfl (fun W hW => exec_lds 0 _ (Mem.get hW 1 rfl) rfl _ un_nce rfl 12 sz_nce (by rw [HNU.out]; omega) (by rw [List.drop_zero, List.take_of_length_le (Nat.le_of_eq HNU.out)])) hm ?_
  go_simp
  refine anyH_take 2 (v := .int .u32 c) rfl (by kernel_rfl) (by kernel_rfl) (by kernel_rfl) rfl (fun W _ => by go_simp) hm ?_
  go_simp
  refine anyH_take 3 (v := .slice p ms.length cap) rfl (by kernel_rfl) (by kernel_rfl) (by kernel_rfl) rfl (fun W _ => by go_simp) hm ?_
  go_simp
  refine anyH_take 4 (v := .int .i64 (64 * (J : Int))) rfl (by kernel_rfl) (by kernel_rfl) (by kernel_rfl) rfl (fun W _ => by go_simp) hm ?_
  go_simp
  refine anyH_take 5 (v := .slice q1 (64 * J) cap) rfl (by kernel_rfl) (by kernel_rfl) (by kernel_rfl) rfl (fun W _ => by rw [HC1.out]; exact exec_sHi un_bs sz_u8 (64 * J) (by omega) rfl rfl (by omega)) hm ?_
  go_simp
  refine anyH_take 7 (v := .agg (u8s ks).toArray) rfl (by kernel_rfl) (by kernel_rfl) (by kernel_rfl) rfl (fun W hW => exec_lds 0 _ (Mem.get hW 2 rfl) rfl _ un_key rfl 32 sz_key (by rw [HKU.out]; omega) (by rw [List.drop_zero, List.take_of_length_le (Nat.le_of_eq HKU.out)])) hm ?_
  go_simp
  refine anyH_take 8 (v := .agg (u8s ns).toArray) rfl (by kernel_rfl) (by kernel_rfl) (by kernel_rfl) rfl (fun W hW => exec_lds 0 _ (Mem.get hW 1 rfl) rfl _ un_nce rfl 12 sz_nce (by rw [HNU.out]; omega) (by rw [List.drop_zero, List.take_of_length_le (Nat.le_of_eq HNU.out)])) hm ?_
  go_simp
  refine anyH_take 9 (v := .int .u32 c) rfl (by kernel_rfl) (by kernel_rfl) (by kernel_rfl) rfl (fun W _ => by go_simp) hm ?_
  go_simp
  refine anyH_take 10 (v := .int .i64 (J : Int)) rfl (by kernel_rfl) (by kernel_rfl) (by kernel_rfl) rfl (fun W _ => by go_simp) hm ?_
  go_simp
  refine anyH_take 11 (v := .int .u32 (J : Int)) rfl (by kernel_rfl) (by kernel_rfl) (by kernel_rfl) rfl (fun W _ => by go_simp; exact wrapw _ (by omega) (by omega)) hm ?_
  go_simp
  refine anyH_take 12 (v := .int .u32 ((c + (J : Int)) % 4294967296)) rfl (by kernel_rfl) (by kernel_rfl) (by kernel_rfl) rfl (fun W _ => by go_simp; exact wrapm _) hm ?_
  go_simp
  refine anyH_take 13 (v := .slice p ms.length cap) rfl (by kernel_rfl) (by kernel_rfl) (by kernel_rfl) rfl (fun W _ => by go_simp) hm ?_
  go_simp
  refine anyH_take 14 (v := .int .i64 (64 * (J : Int))) rfl (by kernel_rfl) (by kernel_rfl) (by kernel_rfl) rfl (fun W _ => by go_simp) hm ?_
  go_simp
  refine anyH_take 15 (v := .slice q2 (ms.length - (64 * J)) (cap - (64 * J))) rfl (by kernel_rfl) (by kernel_rfl) (by kernel_rfl) rfl (fun W _ => by rw [HC2.out, show (ms.length - (64 * J)) = ms.length - (64 * J) by omega]; exact exec_sLo un_bs sz_u8 (64 * J) (by omega) rfl rfl (by omega)) hm ?_
  go_simp
  refine wpAnyH_all (rs := [6]) (by kernel_rfl) (by simp) ?_
  intro i hi
  simp only [List.mem_cons, List.not_mem_nil, or_false] at hi
  subst hi
  refine anyH_op 6 rfl rfl ?_
  intro K hK
  go_wp2_with (go_at_call 13; refine (xor_any ks ns (ms.take (64 * J)) c _ HKL.out HNL.out HKB.out HNB.out HC.out (by rw [HTN.out]; omega) _ (QTab.mem HT.out hm (by simp)) (HQ1.out _ (SlOld.mem HV.out hm))).mono ?_; rintro e w8 ⟨gh, he, hge, hr, hb⟩; rw [HTN.out] at he; subst he; rw [HHE.out] at hr; replace hm := hm.callNew hb hr hge; clear hb hr hge)
  refine hK _ _ hm.tail ?_
  clear hK K
  refine wpAnyH_all (rs := [16]) (by kernel_rfl) (by simp) ?_
  intro i hi
  simp only [List.mem_cons, List.not_mem_nil, or_false] at hi
  subst hi
  refine anyH_op 16 rfl rfl ?_
  intro K hK
  go_wp2_with (go_at_call 13; refine (xor_any ks ns (ms.drop (64 * J)) ((c + (J : Int)) % 4294967296) _ HKL.out HNL.out HKB.out HNB.out (mod_word _) (by rw [HDN.out]; omega) _ (QTab.mem HT.out hm (by simp)) (HQ2.out _ (SlOld.mem HV.out hm))).mono ?_; rintro e w9 ⟨gt, he, hge, hr, hb⟩; rw [HDN.out] at he; subst he; rw [HTE.out] at hr; replace hm := hm.callNew hb hr hge; clear hb hr hge)
  refine hK _ _ hm.tail.tail ?_
  clear hK K
  refine anyH_take 17 (v := .slice (some ⟨gh, 0, none⟩) (64 * J) (64 * J)) rfl (by kernel_rfl) (by kernel_rfl) (by kernel_rfl) rfl (fun W _ => by go_simp) hm.tail.tail ?_
  go_simp
  refine anyH_take 18 (v := .slice (some ⟨gt, 0, none⟩) (ms.length - (64 * J)) (ms.length - (64 * J))) rfl (by kernel_rfl) (by kernel_rfl) (by kernel_rfl) rfl (fun W _ => by go_simp) hm.tail.tail ?_
  go_simp
  refine wpAnyH_done (by kernel_rfl) ?_ _
  simp only [endsIn]
  go_wp2_with fail
  refine wp_ends0 ?_
  refine anyH_start (T := fun W => Mem w [] W [(gt, u8s Tl, 5), (gh, u8s Hd, 5), (gx, u8s X, 5), (g6, u8s ns, 26), (g5, u8s ks, 24)]) (by kernel_rfl) hm ?_
  clear hm
  intro w10 hm
  refine anyH_take 0 (v := .agg (u8s ks).toArray) rfl (by kernel_rfl) (by kernel_rfl) (by kernel_rfl) rfl (fun W hW => exec_lds 0 _ (Mem.get hW 4 rfl) rfl _ un_key rfl 32 sz_key (by rw [HKU.out]; omega) (by rw [List.drop_zero, List.take_of_length_le (Nat.le_of_eq HKU.out)])) hm ?_
  go_simp
  refine anyH_take 1 (v := .agg (u8s ns).toArray) rfl (by kernel_rfl) (by kernel_rfl) (by kernel_rfl) rfl (fun W hW => exec_lds 0 _ (Mem.get hW 3 rfl) rfl _ un_nce rfl 12 sz_nce (by rw [HNU.out]; omega) (by rw [List.drop_zero, List.take_of_length_le (Nat.le_of_eq HNU.out)])) hm ?_
  go_simp
  refine anyH_take 2 (v := .int .u32 c) rfl (by kernel_rfl) (by kernel_rfl) (by kernel_rfl) rfl (fun W _ => by go_simp) hm ?_
  go_simp
  refine wpAnyH_all (rs := [3]) (by kernel_rfl) (by simp) ?_
  intro i hi
  simp only [List.mem_cons, List.not_mem_nil, or_false] at hi
  subst hi
  refine anyH_op 3 rfl rfl ?_
  intro K hK
  refine wpl_make _ un_bs _ made_u8 rfl 64 rfl rfl rfl rfl (by omega) hm ?_
  clear hm
  intro w11 g0 hm
  rw [HZR.out] at hm
  refine wpList_nil ?_
  refine hK _ _ hm.tail ?_
  clear hK K
  refine wpAnyH_all (rs := [4]) (by kernel_rfl) (by simp) ?_
  intro i hi
  simp only [List.mem_cons, List.not_mem_nil, or_false] at hi
  subst hi
  refine anyH_op 4 rfl rfl ?_
  intro K hK
  go_wp2_with (go_at_call 13; refine (xor_any ks ns Z0 c _ HKL.out HNL.out HKB.out HNB.out HC.out (by rw [HZL.out]; omega) _ (QTab.mem HT.out hm (by simp)) (old_all (hm.get 0 rfl) HZL.out (Nat.le_refl _))).mono ?_; rintro e w12 ⟨gz, he, hge, hr, hb⟩; rw [HZL.out] at he; subst he; rw [HZE.out] at hr; replace hm := hm.tail.callNew hb hr hge; clear hb hr hge)
  refine hK _ _ hm.tail ?_
  clear hK K
  refine anyH_take 5 (v := .slice (some ⟨gz, 0, none⟩) 64 64) rfl (by kernel_rfl) (by kernel_rfl) (by kernel_rfl) rfl (fun W _ => by go_simp) hm.tail ?_
  go_simp
  refine wpAnyH_done (by kernel_rfl) ?_ _
  simp only [endsIn]
  go_wp2_with (first
    | ((with_reducible refine at_op (some 74) (.load 24 (.tmp 5)) ?_); refine wpl_ldw 5 hm rfl rfl _ un_key rfl 32 sz_key (HKU.out) ?_)
    | ((with_reducible refine at_op (some 75) (.load 26 (.tmp 6)) ?_); refine wpl_ldw 4 hm rfl rfl _ un_nce rfl 12 sz_nce (HNU.out) ?_)
    | (go_at_call 11; refine (block_any ks ns c HKL.out HNL.out HKB.out HNB.out _ (QTab.mem HT.out hm (by simp))).mono ?_; rintro e w13 ⟨he, hb⟩; rw [HBE.out ()] at he; subst he; replace hm := hm.call hb; clear hb)
    | ((with_reducible refine at_op (some 17) (.alloc 31) ?_); refine wpl_alloc _ zero_b64 hm ?_; clear hm; intro w14 g17 hm)
    | ((with_reducible refine at_op none (.store 31 (.tmp 17) (.tmp 77)) ?_); refine wpl_stw 0 (u8s B) hm rfl rfl rfl 64 sz_b64 (by simp [u8s_length]) (by rw [u8s_length]; exact HBL.out) (u8s_one _) ?_; clear hm; intro w15 hm))

  refine wp_ends0 ?_
  refine anyH_start (T := fun W => Mem w [] W [(g17, u8s B, 31), (gz, u8s B, 5), (gt, u8s Tl, 5), (gh, u8s Hd, 5), (gx, u8s X, 5), (g6, u8s ns, 26), (g5, u8s ks, 24)]) (by kernel_rfl) hm ?_
  clear hm
  intro w16 hm
  refine anyH_take 0 (v := .int .i64 (64 * (J : Int))) rfl (by kernel_rfl) (by kernel_rfl) (by kernel_rfl) rfl (fun W _ => by go_simp) hm ?_
  go_simp
  refine anyH_take 1 (v := .int .i64 (J : Int)) rfl (by kernel_rfl) (by kernel_rfl) (by kernel_rfl) rfl (fun W _ => by go_simp) hm ?_
  go_simp
  refine anyH_take 2 (v := .int .i64 (64 * (J : Int))) rfl (by kernel_rfl) (by kernel_rfl) (by kernel_rfl) rfl (fun W _ => by go_simp; try exact wrapi _ (by omega) (by omega)) hm ?_
  go_simp
  refine anyH_take 3 (v := .bool false) rfl (by kernel_rfl) (by kernel_rfl) (by kernel_rfl) rfl (fun W _ => by go_simp) hm ?_
  go_simp
  refine anyH_take 4 (v := .bool false) rfl (by kernel_rfl) (by kernel_rfl) (by kernel_rfl) rfl (fun W _ => by go_simp) hm ?_
  go_simp
  refine anyH_takeG 5 (v := .slice (some ⟨gh, 0, none⟩) (64 * J) (64 * J)) rfl (by kernel_rfl) (by kernel_rfl) (by kernel_rfl) rfl (fun W _ => by go_simp) hm ?_
  go_simp
  refine anyH_takeG 6 (v := .string (strOf Hd)) rfl (by kernel_rfl) (by kernel_rfl) (by kernel_rfl) rfl (fun W hW => exec_tostr un_bs un_u8 un_strT _ rfl (old_all (Mem.get hW 3 rfl) HHL.out (Nat.le_refl _))) hm ?_
  go_simp
  refine anyH_takeG 7 (v := .slice (some ⟨gt, 0, none⟩) (ms.length - (64 * J)) (ms.length - (64 * J))) rfl (by kernel_rfl) (by kernel_rfl) (by kernel_rfl) rfl (fun W _ => by go_simp) hm ?_
  go_simp
  refine anyH_takeG 8 (v := .string (strOf Tl)) rfl (by kernel_rfl) (by kernel_rfl) (by kernel_rfl) rfl (fun W hW => exec_tostr un_bs un_u8 un_strT _ rfl (old_all (Mem.get hW 2 rfl) HTL.out (Nat.le_refl _))) hm ?_
  go_simp
  refine anyH_takeG 9 (v := .string (strOf X)) rfl (by kernel_rfl) (by kernel_rfl) (by kernel_rfl) rfl (fun W _ => by rw [← HSP.out]; exact exec_adds Hd Tl rfl rfl (by rw [HHL.out, HTL.out]; omega)) hm ?_
  go_simp
  refine anyH_takeG 10 (v := .slice (some ⟨gx, 0, none⟩) ms.length ms.length) rfl (by kernel_rfl) (by kernel_rfl) (by kernel_rfl) rfl (fun W _ => by go_simp) hm ?_
  go_simp
  refine anyH_takeG 11 (v := .string (strOf X)) rfl (by kernel_rfl) (by kernel_rfl) (by kernel_rfl) rfl (fun W hW => exec_tostr un_bs un_u8 un_strT _ rfl (old_all (Mem.get hW 4 rfl) HXL.out (Nat.le_refl _))) hm ?_
  go_simp
  refine anyH_takeG 12 (v := .bool true) rfl (by kernel_rfl) (by kernel_rfl) (by kernel_rfl) rfl (fun W _ => exec_eqsB (strOf X) (strOf X) true rfl rfl (beq_self_str _)) hm ?_
  go_simp
  refine anyH_take 13 (v := .bool true) rfl (by kernel_rfl) (by kernel_rfl) (by kernel_rfl) rfl (fun W _ => by go_simp) hm ?_
  go_simp
  refine anyH_take 14 (v := .bool true) rfl (by kernel_rfl) (by kernel_rfl) (by kernel_rfl) rfl (fun W _ => by go_simp) hm ?_
  go_simp
  refine anyH_takeG 15 (v := .slice (some ⟨gz, 0, none⟩) 64 64) rfl (by kernel_rfl) (by kernel_rfl) (by kernel_rfl) rfl (fun W _ => by go_simp) hm ?_
  go_simp
  refine anyH_takeG 16 (v := .string (strOf B)) rfl (by kernel_rfl) (by kernel_rfl) (by kernel_rfl) rfl (fun W hW => exec_tostr un_bs un_u8 un_strT _ rfl (old_all (Mem.get hW 1 rfl) HBL.out (Nat.le_refl _))) hm ?_
  go_simp
  refine anyH_takeG 17 (v := .slice (some ⟨g17, 0, none⟩) 64 64) rfl (by kernel_rfl) (by kernel_rfl) (by kernel_rfl) rfl (fun W _ => by go_simp) hm ?_
  go_simp
  refine anyH_takeG 18 (v := .string (strOf B)) rfl (by kernel_rfl) (by kernel_rfl) (by kernel_rfl) rfl (fun W hW => exec_tostr un_bs un_u8 un_strT _ rfl (old_all (Mem.get hW 0 rfl) HBL.out (Nat.le_refl _))) hm ?_
  go_simp
  refine anyH_takeG 19 (v := .bool true) rfl (by kernel_rfl) (by kernel_rfl) (by kernel_rfl) rfl (fun W _ => exec_eqsB (strOf B) (strOf B) true rfl rfl (beq_self_str _)) hm ?_
  go_simp
  refine anyH_take 20 (v := .bool true) rfl (by kernel_rfl) (by kernel_rfl) (by kernel_rfl) rfl (fun W _ => by go_simp) hm ?_
  go_simp
  refine anyH_take 21 (v := .bool true) rfl (by kernel_rfl) (by kernel_rfl) (by kernel_rfl) rfl (fun W _ => by go_simp) hm ?_
  go_simp
  refine wpAnyH_done (by kernel_rfl) ?_ _
  simp only [endsIn]
  go_wp2_with fail
  go_ret
  exact ⟨rfl, hm.below⟩
set_option maxHeartbeats 2000000 in
set_option maxRecDepth 100000 in
theorem streamTwice_B (ks ns ms : List Int) (c at_ : Int) (v : Value) (J : Nat) (hJ : at_ % 6 = (J : Int)) (hcase : ms.length < 64 * J) (h300 : ms.length ≤ 300) (hkl : ks.length = 32) (hnl : ns.length = 12) (hkb : Bytes ks) (hnb : Bytes ns) (hc : Word c) (hbm : Bytes ms) (hat : 0 ≤ at_ ∧ at_ ≤ 255) (w : World) (ht : QTab w) (hv : SlOld w v ms) :
    Calls Tryd.prog 4 #[.agg (u8s ks).toArray, .agg (u8s ns).toArray, .int .u32 c, v, .int .u8 at_] w fun e w' => e = .returned (.bool true) ∧ Below w.heap.size w w' := by
  obtain ⟨p, cap, rfl, hcap⟩ := hv.len
  obtain ⟨hat0, hat1⟩ := hat
  have hm := Mem.start w
  have HT : Hid _ := ht
  have HKB : Hid _ := hkb
  have HNB : Hid _ := hnb
  have HKL : Hid _ := hkl
  have HNL : Hid _ := hnl
  have HC : Hid _ := hc
  have HKU : Hid ((u8s ks).length = 32) := by show _ = _; rw [u8s_length]; exact hkl
  have HNU : Hid ((u8s ns).length = 12) := by show _ = _; rw [u8s_length]; exact hnl
  obtain ⟨hc0, hc1⟩ := hc
  clear ht hkb hnb hkl hnl
  have HV : Hid (SlOld w (.slice p ms.length cap) ms) := hv
  have HBM : Hid _ := hbm
  have hJ6 : J < 6 := by omega
  have hJi : (J : Int) < 6 := by omega
  have hmi : ¬ (300 : Int) < (ms.length : Int) := by omega
  have hcs : (ms.length : Int) < 64 * (J : Int) := by omega
  obtain ⟨X, hX⟩ : ∃ X, X = xorOf ks ns c ms := ⟨_, rfl⟩
  have HXE : Hid (xorOf ks ns c ms = X) := hX.symm
  have HXL : Hid (X.length = ms.length) := by show _ = _; rw [hX, xorOf_length]
  have HXB : Hid (Bytes X) := by rw [hX]; exact xorOf_bytes _ _ _ hbm
  have HTW : Hid (xorOf ks ns c X = ms) := by show _ = _; rw [hX]; exact xorOf_twice _ _ _ hbm
  obtain ⟨Hd, hHd⟩ : ∃ H, H = xorOf ks ns c (ms.take ms.length) := ⟨_, rfl⟩
  obtain ⟨Tl, hTl⟩ : ∃ H, H = xorOf ks ns ((c + (J : Int)) % 4294967296) (ms.drop ms.length) := ⟨_, rfl⟩
  have HHE : Hid (xorOf ks ns c (ms.take ms.length) = Hd) := hHd.symm
  have HTE : Hid (xorOf ks ns ((c + (J : Int)) % 4294967296) (ms.drop ms.length) = Tl) := hTl.symm
  have HHL : Hid (Hd.length = ms.length) := by show _ = _; rw [hHd, xorOf_length, List.length_take]; omega
  have HTL : Hid (Tl.length = 0) := by show _ = _; rw [hTl, xorOf_length, List.length_drop]; try omega
  have HTN : Hid ((ms.take ms.length).length = ms.length) := by show _ = _; rw [List.length_take]; omega
  have HDN : Hid ((ms.drop ms.length).length = 0) := by show _ = _; rw [List.length_drop]; try omega
  obtain ⟨B, hB⟩ : ∃ B, B = blockOf ks ns c := ⟨_, rfl⟩
  have HBE : Hid (∀ _ : Unit, blockOf ks ns c = B) := fun _ => hB.symm
  have HBL : Hid (B.length = 64) := by show _ = _; rw [hB, blockOf_length]
  obtain ⟨Z0, hZ0⟩ : ∃ Z : List Int, Z = List.replicate 64 0 := ⟨_, rfl⟩
  have HZE : Hid (xorOf ks ns c Z0 = B) := by show _ = _; rw [hB, hZ0]; exact xorOf_zeros ks ns c HC.out
  have HZL : Hid (Z0.length = 64) := by show _ = _; rw [hZ0, List.length_replicate]
  have HZR : Hid (List.replicate 64 (Value.int .u8 0) = u8s Z0) := by show _ = _; rw [hZ0]; simp [u8s]
  obtain ⟨q1, hq1⟩ : ∃ q, q = cutHi p cap := ⟨_, rfl⟩
  obtain ⟨q2, hq2⟩ : ∃ q, q = cutLo p cap ms.length := ⟨_, rfl⟩
  have HQ1 : Hid (∀ W, SlOld W (.slice p ms.length cap) ms → SlOld W (.slice q1 ms.length cap) (ms.take ms.length)) := by intro W h; rw [hq1]; exact old_hi h ms.length (by omega)
  have HQ2 : Hid (∀ W, SlOld W (.slice p ms.length cap) ms → SlOld W (.slice q2 0 (cap - ms.length)) (ms.drop ms.length)) := by intro W h; rw [hq2, show 0 = ms.length - ms.length by omega]; exact old_lo h ms.length (by omega)
  have HC1 : Hid (q1 = cutHi p cap) := hq1
  have HC2 : Hid (q2 = cutLo p cap ms.length) := hq2
  clear hv hbm hX hHd hTl hB hq1 hq2 hZ0
  go_enter Tryd.func4, Tryd.ntmps4
  go_wp2_with (first
    | ((with_reducible refine at_op (some 5) (.box 24 (.tmp 0)) ?_); refine wpl_box (u8s ks) rfl hm ?_; clear hm; intro w1 g5 hm)
    | ((with_reducible refine at_op (some 6) (.box 26 (.tmp 1)) ?_); refine wpl_box (u8s ns) rfl hm ?_; clear hm; intro w2 g6 hm)
    | (go_at_call 8; refine (known4_any _ (QTab.mem HT.out hm (by simp))).mono ?_; rintro e w3 ⟨rfl, hb⟩; replace hm := hm.call hb; clear hb)
    | ((with_reducible refine at_op (some 23) (.load 24 (.tmp 5)) ?_); refine wpl_ldw 1 hm rfl rfl _ un_key rfl 32 sz_key (HKU.out) ?_)
    | ((with_reducible refine at_op (some 24) (.load 26 (.tmp 6)) ?_); refine wpl_ldw 0 hm rfl rfl _ un_nce rfl 12 sz_nce (HNU.out) ?_)
    | (go_at_call 13; refine (xor_any ks ns ms c _ HKL.out HNL.out HKB.out HNB.out HC.out (by omega) _ (QTab.mem HT.out hm (by simp)) (SlOld.mem HV.out hm)).mono ?_; rintro e w4 ⟨gx, rfl, hge, hr, hb⟩; rw [HXE.out] at hr; replace hm := hm.callNew hb hr hge; clear hb hr hge))

  refine wp_ends0 ?_
  refine anyH_start (T := fun W => Mem w [] W [(gx, u8s X, 5), (g6, u8s ns, 26), (g5, u8s ks, 24)]) (by kernel_rfl) hm ?_
  clear hm
  intro w5 hm
  refine anyH_take 0 (v := .slice (some ⟨gx, 0, none⟩) ms.length ms.length) rfl (by kernel_rfl) (by kernel_rfl) (by kernel_rfl) rfl (fun W _ => by go_simp) hm ?_
  go_simp
  refine anyH_take 1 (v := .int .i64 (ms.length : Int)) rfl (by kernel_rfl) (by kernel_rfl) (by kernel_rfl) rfl (fun W _ => by go_simp) hm ?_
  go_simp
  refine anyH_take 2 (v := .slice p ms.length cap) rfl (by kernel_rfl) (by kernel_rfl) (by kernel_rfl) rfl (fun W _ => by go_simp) hm ?_
  go_simp
  refine anyH_take 3 (v := .int .i64 (ms.length : Int)) rfl (by kernel_rfl) (by kernel_rfl) (by kernel_rfl) rfl (fun W _ => by go_simp) hm ?_
  go_simp
  refine anyH_take 4 (v := .bool false) rfl (by kernel_rfl) (by kernel_rfl) (by kernel_rfl) rfl (fun W _ => by go_simp) hm ?_
  go_simp
  refine anyH_take 5 (v := .bool false) rfl (by kernel_rfl) (by kernel_rfl) (by kernel_rfl) rfl (fun W _ => by go_simp) hm ?_
  go_simp
  refine anyH_takeG 6 (v := .agg (u8s ks).toArray) rfl (by kernel_rfl) (by kernel_rfl) (by kernel_rfl) rfl (fun W hW => exec_ldsG 0 _ (Mem.get hW 2 rfl) rfl _ un_key rfl 32 sz_key (by rw [HKU.out]; omega) (by rw [List.drop_zero, List.take_of_length_le (Nat.le_of_eq HKU.out)])) hm ?_
  go_simp
  refine anyH_takeG 7 (v := .agg (u8s ns).toArray) rfl (by kernel_rfl) (by kernel_rfl) (by kernel_rfl) rfl (fun W hW => exec_ldsG 0 _ (Mem.get hW 1 rfl) rfl _ un_nce rfl 12 sz_nce (by rw [HNU.out]; omega) (by rw [List.drop_zero, List.take_of_length_le (Nat.le_of_eq HNU.out)])) hm ?_
  go_simp
  refine anyH_takeG 8 (v := .int .u32 c) rfl (by kernel_rfl) (by kernel_rfl) (by kernel_rfl) rfl (fun W _ => by go_simp) hm ?_
  go_simp
  refine anyH_takeG 9 (v := .slice (some ⟨gx, 0, none⟩) ms.length ms.length) rfl (by kernel_rfl) (by kernel_rfl) (by kernel_rfl) rfl (fun W _ => by go_simp) hm ?_
  go_simp
  refine anyH_takeG 12 (v := .slice p ms.length cap) rfl (by kernel_rfl) (by kernel_rfl) (by kernel_rfl) rfl (fun W _ => by go_simp) hm ?_
  go_simp
  refine anyH_takeG 13 (v := .string (strOf ms)) rfl (by kernel_rfl) (by kernel_rfl) (by kernel_rfl) rfl (fun W hW => exec_tostr un_bs un_u8 un_strT _ rfl (SlOld.mem HV.out hW)) hm ?_
  go_simp
  refine wpAnyH_all (rs := [10]) (by kernel_rfl) (by simp) ?_
  intro i hi
  simp only [List.mem_cons, List.not_mem_nil, or_false] at hi
  subst hi
  refine anyH_opW 10 rfl rfl ?_
  intro K hK
  go_wp2_with (go_at_call 13; refine (xor_any ks ns X c _ HKL.out HNL.out HKB.out HNB.out HC.out (by rw [HXL.out]; omega) _ (QTab.mem HT.out hm (by simp)) (old_all (hm.get 0 rfl) HXL.out (Nat.le_refl _))).mono ?_; rintro e w6 ⟨g38, he, hge, hr, hb⟩; rw [HXL.out] at he; subst he; rw [HTW.out] at hr; replace hm := hm.callNew hb hr hge; clear hb hr hge)
  refine hK _ _ hm.tail ?_
  clear hK K
  refine wpAnyH_all (rs := [11]) (by kernel_rfl) (by simp) ?_
  intro i hi
  simp only [List.mem_cons, List.not_mem_nil, or_false] at hi
  subst hi
  refine anyH_opW 11 rfl rfl ?_
  intro K hK
  refine wpl_execG (.string (strOf ms)) rfl (exec_tostr un_bs un_u8 un_strT _ rfl (old_all (hm.get 0 rfl) rfl (Nat.le_refl _))) ?_
  refine wpList_nil ?_
  refine hK _ _ hm.tail ?_
  clear hK K
  refine anyH_takeG 14 (v := .bool false) rfl (by kernel_rfl) (by kernel_rfl) (by kernel_rfl) rfl (fun W _ => exec_nes (strOf ms) (strOf ms) true rfl rfl (beq_self_str _)) hm.tail ?_
  go_simp
  refine anyH_take 15 (v := .bool false) rfl (by kernel_rfl) (by kernel_rfl) (by kernel_rfl) rfl (fun W _ => by go_simp) hm.tail ?_
  go_simp
  refine wpAnyH_done (by kernel_rfl) ?_ _
  simp only [endsIn]
  replace hm := hm.tail
  go_wp2_with fail
  refine wp_ends0 ?_
  refine anyH_start (T := fun W => Mem w [] W [(gx, u8s X, 5), (g6, u8s ns, 26), (g5, u8s ks, 24)]) (by kernel_rfl) hm ?_
  clear hm
  intro w7 hm
  refine anyH_take 0 (v := .agg (u8s ks).toArray) rfl (by kernel_rfl) (by kernel_rfl) (by kernel_rfl) rfl (fun W hW => exec_lds 0 _ (Mem.get hW 2 rfl) rfl _ un_key rfl 32 sz_key (by rw [HKU.out]; omega) (by rw [List.drop_zero, List.take_of_length_le (Nat.le_of_eq HKU.out)])) hm ?_
  go_simp
  refine anyH_take 1 (v := .agg (u8s ns).toArray) rfl (by kernel_rfl) (by kernel_rfl) (by kernel_rfl) rfl (fun W hW => exec_lds 0 _ (Mem.get hW 1 rfl) rfl _ un_nce rfl 12 sz_nce (by rw [HNU.out]; omega) (by rw [List.drop_zero, List.take_of_length_le (Nat.le_of_eq HNU.out)])) hm ?_
  go_simp
  refine anyH_take 2 (v := .int .u32 c) rfl (by kernel_rfl) (by kernel_rfl) (by kernel_rfl) rfl (fun W _ => by go_simp) hm ?_
  go_simp
  refine anyH_take 3 (v := .slice p ms.length cap) rfl (by kernel_rfl) (by kernel_rfl) (by kernel_rfl) rfl (fun W _ => by go_simp) hm ?_
  go_simp
  refine anyH_take 4 (v := .int .i64 (ms.length : Int)) rfl (by kernel_rfl) (by kernel_rfl) (by kernel_rfl) rfl (fun W _ => by go_simp) hm ?_
  go_simp
  refine anyH_take 5 (v := .slice q1 ms.length cap) rfl (by kernel_rfl) (by kernel_rfl) (by kernel_rfl) rfl (fun W _ => by rw [HC1.out]; exact exec_sHi un_bs sz_u8 ms.length (by omega) rfl rfl (by omega)) hm ?_
  go_simp
  refine anyH_take 7 (v := .agg (u8s ks).toArray) rfl (by kernel_rfl) (by kernel_rfl) (by kernel_rfl) rfl (fun W hW => exec_lds 0 _ (Mem.get hW 2 rfl) rfl _ un_key rfl 32 sz_key (by rw [HKU.out]; omega) (by rw [List.drop_zero, List.take_of_length_le (Nat.le_of_eq HKU.out)])) hm ?_
  go_simp
  refine anyH_take 8 (v := .agg (u8s ns).toArray) rfl (by kernel_rfl) (by kernel_rfl) (by kernel_rfl) rfl (fun W hW => exec_lds 0 _ (Mem.get hW 1 rfl) rfl _ un_nce rfl 12 sz_nce (by rw [HNU.out]; omega) (by rw [List.drop_zero, List.take_of_length_le (Nat.le_of_eq HNU.out)])) hm ?_
  go_simp
  refine anyH_take 9 (v := .int .u32 c) rfl (by kernel_rfl) (by kernel_rfl) (by kernel_rfl) rfl (fun W _ => by go_simp) hm ?_
  go_simp
  refine anyH_take 10 (v := .int .i64 (J : Int)) rfl (by kernel_rfl) (by kernel_rfl) (by kernel_rfl) rfl (fun W _ => by go_simp) hm ?_
  go_simp
  refine anyH_take 11 (v := .int .u32 (J : Int)) rfl (by kernel_rfl) (by kernel_rfl) (by kernel_rfl) rfl (fun W _ => by go_simp; exact wrapw _ (by omega) (by omega)) hm ?_
  go_simp
  refine anyH_take 12 (v := .int .u32 ((c + (J : Int)) % 4294967296)) rfl (by kernel_rfl) (by kernel_rfl) (by kernel_rfl) rfl (fun W _ => by go_simp; exact wrapm _) hm ?_
  go_simp
  refine anyH_take 13 (v := .slice p ms.length cap) rfl (by kernel_rfl) (by kernel_rfl) (by kernel_rfl) rfl (fun W _ => by go_simp) hm ?_
  go_simp
  refine anyH_take 14 (v := .int .i64 (ms.length : Int)) rfl (by kernel_rfl) (by kernel_rfl) (by kernel_rfl) rfl (fun W _ => by go_simp) hm ?_
  go_simp
  refine anyH_take 15 (v := .slice q2 0 (cap - ms.length)) rfl (by kernel_rfl) (by kernel_rfl) (by kernel_rfl) rfl (fun W _ => by rw [HC2.out, show 0 = ms.length - ms.length by omega]; exact exec_sLo un_bs sz_u8 ms.length (by omega) rfl rfl (by omega)) hm ?_
  go_simp
  refine wpAnyH_all (rs := [6]) (by kernel_rfl) (by simp) ?_
  intro i hi
  simp only [List.mem_cons, List.not_mem_nil, or_false] at hi
  subst hi
  refine anyH_op 6 rfl rfl ?_
  intro K hK
  go_wp2_with (go_at_call 13; refine (xor_any ks ns (ms.take ms.length) c _ HKL.out HNL.out HKB.out HNB.out HC.out (by rw [HTN.out]; omega) _ (QTab.mem HT.out hm (by simp)) (HQ1.out _ (SlOld.mem HV.out hm))).mono ?_; rintro e w8 ⟨gh, he, hge, hr, hb⟩; rw [HTN.out] at he; subst he; rw [HHE.out] at hr; replace hm := hm.callNew hb hr hge; clear hb hr hge)
  refine hK _ _ hm.tail ?_
  clear hK K
  refine wpAnyH_all (rs := [16]) (by kernel_rfl) (by simp) ?_
  intro i hi
  simp only [List.mem_cons, List.not_mem_nil, or_false] at hi
  subst hi
  refine anyH_op 16 rfl rfl ?_
  intro K hK
  go_wp2_with (go_at_call 13; refine (xor_any ks ns (ms.drop ms.length) ((c + (J : Int)) % 4294967296) _ HKL.out HNL.out HKB.out HNB.out (mod_word _) (by rw [HDN.out]; omega) _ (QTab.mem HT.out hm (by simp)) (HQ2.out _ (SlOld.mem HV.out hm))).mono ?_; rintro e w9 ⟨gt, he, hge, hr, hb⟩; rw [HDN.out] at he; subst he; rw [HTE.out] at hr; replace hm := hm.callNew hb hr hge; clear hb hr hge)
  refine hK _ _ hm.tail.tail ?_
  clear hK K
  refine anyH_take 17 (v := .slice (some ⟨gh, 0, none⟩) ms.length ms.length) rfl (by kernel_rfl) (by kernel_rfl) (by kernel_rfl) rfl (fun W _ => by go_simp) hm.tail.tail ?_
  go_simp
  refine anyH_take 18 (v := .slice (some ⟨gt, 0, none⟩) 0 0) rfl (by kernel_rfl) (by kernel_rfl) (by kernel_rfl) rfl (fun W _ => by go_simp) hm.tail.tail ?_
  go_simp
  refine wpAnyH_done (by kernel_rfl) ?_ _
  simp only [endsIn]
  go_wp2_with fail
  refine wp_ends0 ?_
  refine anyH_start (T := fun W => Mem w [] W [(gt, u8s Tl, 5), (gh, u8s Hd, 5), (gx, u8s X, 5), (g6, u8s ns, 26), (g5, u8s ks, 24)]) (by kernel_rfl) hm ?_
  clear hm
  intro w10 hm
  refine anyH_take 0 (v := .agg (u8s ks).toArray) rfl (by kernel_rfl) (by kernel_rfl) (by kernel_rfl) rfl (fun W hW => exec_lds 0 _ (Mem.get hW 4 rfl) rfl _ un_key rfl 32 sz_key (by rw [HKU.out]; omega) (by rw [List.drop_zero, List.take_of_length_le (Nat.le_of_eq HKU.out)])) hm ?_
  go_simp
  refine anyH_take 1 (v := .agg (u8s ns).toArray) rfl (by kernel_rfl) (by kernel_rfl) (by kernel_rfl) rfl (fun W hW => exec_lds 0 _ (Mem.get hW 3 rfl) rfl _ un_nce rfl 12 sz_nce (by rw [HNU.out]; omega) (by rw [List.drop_zero, List.take_of_length_le (Nat.le_of_eq HNU.out)])) hm ?_
  go_simp
  refine anyH_take 2 (v := .int .u32 c) rfl (by kernel_rfl) (by kernel_rfl) (by kernel_rfl) rfl (fun W _ => by go_simp) hm ?_
  go_simp
  refine wpAnyH_all (rs := [3]) (by kernel_rfl) (by simp) ?_
  intro i hi
  simp only [List.mem_cons, List.not_mem_nil, or_false] at hi
  subst hi
  refine anyH_op 3 rfl rfl ?_
  intro K hK
  refine wpl_make _ un_bs _ made_u8 rfl 64 rfl rfl rfl rfl (by omega) hm ?_
  clear hm
  intro w11 g0 hm
  rw [HZR.out] at hm
  refine wpList_nil ?_
  refine hK _ _ hm.tail ?_
  clear hK K
  refine wpAnyH_all (rs := [4]) (by kernel_rfl) (by simp) ?_
  intro i hi
  simp only [List.mem_cons, List.not_mem_nil, or_false] at hi
  subst hi
  refine anyH_op 4 rfl rfl ?_
  intro K hK
  go_wp2_with (go_at_call 13; refine (xor_any ks ns Z0 c _ HKL.out HNL.out HKB.out HNB.out HC.out (by rw [HZL.out]; omega) _ (QTab.mem HT.out hm (by simp)) (old_all (hm.get 0 rfl) HZL.out (Nat.le_refl _))).mono ?_; rintro e w12 ⟨gz, he, hge, hr, hb⟩; rw [HZL.out] at he; subst he; rw [HZE.out] at hr; replace hm := hm.tail.callNew hb hr hge; clear hb hr hge)
  refine hK _ _ hm.tail ?_
  clear hK K
  refine anyH_take 5 (v := .slice (some ⟨gz, 0, none⟩) 64 64) rfl (by kernel_rfl) (by kernel_rfl) (by kernel_rfl) rfl (fun W _ => by go_simp) hm.tail ?_
  go_simp
  refine wpAnyH_done (by kernel_rfl) ?_ _
  simp only [endsIn]
  go_wp2_with (first
    | ((with_reducible refine at_op (some 74) (.load 24 (.tmp 5)) ?_); refine wpl_ldw 5 hm rfl rfl _ un_key rfl 32 sz_key (HKU.out) ?_)
    | ((with_reducible refine at_op (some 75) (.load 26 (.tmp 6)) ?_); refine wpl_ldw 4 hm rfl rfl _ un_nce rfl 12 sz_nce (HNU.out) ?_)
    | (go_at_call 11; refine (block_any ks ns c HKL.out HNL.out HKB.out HNB.out _ (QTab.mem HT.out hm (by simp))).mono ?_; rintro e w13 ⟨he, hb⟩; rw [HBE.out ()] at he; subst he; replace hm := hm.call hb; clear hb)
    | ((with_reducible refine at_op (some 17) (.alloc 31) ?_); refine wpl_alloc _ zero_b64 hm ?_; clear hm; intro w14 g17 hm)
    | ((with_reducible refine at_op none (.store 31 (.tmp 17) (.tmp 77)) ?_); refine wpl_stw 0 (u8s B) hm rfl rfl rfl 64 sz_b64 (by simp [u8s_length]) (by rw [u8s_length]; exact HBL.out) (u8s_one _) ?_; clear hm; intro w15 hm))

  refine wp_ends0 ?_
  refine anyH_start (T := fun W => Mem w [] W [(g17, u8s B, 31), (gz, u8s B, 5), (gt, u8s Tl, 5), (gh, u8s Hd, 5), (gx, u8s X, 5), (g6, u8s ns, 26), (g5, u8s ks, 24)]) (by kernel_rfl) hm ?_
  clear hm
  intro w16 hm
  refine anyH_take 0 (v := .int .i64 (ms.length : Int)) rfl (by kernel_rfl) (by kernel_rfl) (by kernel_rfl) rfl (fun W _ => by go_simp) hm ?_
  go_simp
  refine anyH_take 1 (v := .int .i64 (J : Int)) rfl (by kernel_rfl) (by kernel_rfl) (by kernel_rfl) rfl (fun W _ => by go_simp) hm ?_
  go_simp
  refine anyH_take 2 (v := .int .i64 (64 * (J : Int))) rfl (by kernel_rfl) (by kernel_rfl) (by kernel_rfl) rfl (fun W _ => by go_simp; try exact wrapi _ (by omega) (by omega)) hm ?_
  go_simp
  refine anyH_take 3 (v := .bool true) rfl (by kernel_rfl) (by kernel_rfl) (by kernel_rfl) rfl (fun W _ => by go_simp) hm ?_
  go_simp
  refine anyH_take 4 (v := .bool true) rfl (by kernel_rfl) (by kernel_rfl) (by kernel_rfl) rfl (fun W _ => by go_simp) hm ?_
  go_simp
  refine anyH_skip 5 rfl (by kernel_rfl) (by kernel_rfl) (by kernel_rfl) rfl hm ?_
  go_simp
  refine anyH_skip 6 rfl (by kernel_rfl) (by kernel_rfl) (by kernel_rfl) rfl hm ?_
  go_simp
  refine anyH_skip 7 rfl (by kernel_rfl) (by kernel_rfl) (by kernel_rfl) rfl hm ?_
  go_simp
  refine anyH_skip 8 rfl (by kernel_rfl) (by kernel_rfl) (by kernel_rfl) rfl hm ?_
  go_simp
  refine anyH_skip 9 rfl (by kernel_rfl) (by kernel_rfl) (by kernel_rfl) rfl hm ?_
  go_simp
  refine anyH_skip 10 rfl (by kernel_rfl) (by kernel_rfl) (by kernel_rfl) rfl hm ?_
  go_simp
  refine anyH_skip 11 rfl (by kernel_rfl) (by kernel_rfl) (by kernel_rfl) rfl hm ?_
  go_simp
  refine anyH_skip 12 rfl (by kernel_rfl) (by kernel_rfl) (by kernel_rfl) rfl hm ?_
  go_simp
  refine anyH_take 13 (v := .bool true) rfl (by kernel_rfl) (by kernel_rfl) (by kernel_rfl) rfl (fun W _ => by go_simp) hm ?_
  go_simp
  refine anyH_take 14 (v := .bool true) rfl (by kernel_rfl) (by kernel_rfl) (by kernel_rfl) rfl (fun W _ => by go_simp) hm ?_
  go_simp
  refine anyH_takeG 15 (v := .slice (some ⟨gz, 0, none⟩) 64 64) rfl (by kernel_rfl) (by kernel_rfl) (by kernel_rfl) rfl (fun W _ => by go_simp) hm ?_
  go_simp
  refine anyH_takeG 16 (v := .string (strOf B)) rfl (by kernel_rfl) (by kernel_rfl) (by kernel_rfl) rfl (fun W hW => exec_tostr un_bs un_u8 un_strT _ rfl (old_all (Mem.get hW 1 rfl) HBL.out (Nat.le_refl _))) hm ?_
  go_simp
  refine anyH_takeG 17 (v := .slice (some ⟨g17, 0, none⟩) 64 64) rfl (by kernel_rfl) (by kernel_rfl) (by kernel_rfl) rfl (fun W _ => by go_simp) hm ?_
  go_simp
  refine anyH_takeG 18 (v := .string (strOf B)) rfl (by kernel_rfl) (by kernel_rfl) (by kernel_rfl) rfl (fun W hW => exec_tostr un_bs un_u8 un_strT _ rfl (old_all (Mem.get hW 0 rfl) HBL.out (Nat.le_refl _))) hm ?_
  go_simp
  refine anyH_takeG 19 (v := .bool true) rfl (by kernel_rfl) (by kernel_rfl) (by kernel_rfl) rfl (fun W _ => exec_eqsB (strOf B) (strOf B) true rfl rfl (beq_self_str _)) hm ?_
  go_simp
  refine anyH_take 20 (v := .bool true) rfl (by kernel_rfl) (by kernel_rfl) (by kernel_rfl) rfl (fun W _ => by go_simp) hm ?_
  go_simp
  refine anyH_take 21 (v := .bool true) rfl (by kernel_rfl) (by kernel_rfl) (by kernel_rfl) rfl (fun W _ => by go_simp) hm ?_
  go_simp
  refine wpAnyH_done (by kernel_rfl) ?_ _
  simp only [endsIn]
  go_wp2_with fail
  go_ret
  exact ⟨rfl, hm.below⟩
set_option maxHeartbeats 1000000 in
theorem streamTwice_walk (ks ns ms : List Int) (c at_ : Int) (v : Value) (hkl : ks.length = 32) (hnl : ns.length = 12) (hkb : Bytes ks) (hnb : Bytes ns) (hc : Word c) (hbm : Bytes ms) (hat : 0 ≤ at_ ∧ at_ ≤ 255) (w : World) (ht : QTab w) (hv : SlOld w v ms) :
    Calls Tryd.prog 4 #[.agg (u8s ks).toArray, .agg (u8s ns).toArray, .int .u32 c, v, .int .u8 at_] w fun e w' => e = .returned (.bool true) ∧ Below w.heap.size w w' := by
  by_cases h300 : ms.length ≤ 300
  · have hJ : at_ % 6 = (((at_ % 6).toNat : Nat) : Int) := by omega
    by_cases hcase : 64 * (at_ % 6).toNat ≤ ms.length
    · exact streamTwice_A ks ns ms c at_ v _ hJ hcase h300 hkl hnl hkb hnb hc hbm hat w ht hv
    · exact streamTwice_B ks ns ms c at_ v _ hJ (by omega) h300 hkl hnl hkb hnb hc hbm hat w ht hv
  · obtain ⟨p, cap, rfl, hcap⟩ := hv.len
    have hm := Mem.start w
    have HT : Hid _ := ht
    have hmi : (300 : Int) < (ms.length : Int) := by omega
    clear ht hkb hnb hbm hv
    go_enter Tryd.func4, Tryd.ntmps4
    go_wp2_with (first
      | ((with_reducible refine at_op (some 5) (.box 24 (.tmp 0)) ?_); refine wpl_box (u8s ks) rfl hm ?_; clear hm; intro w1 g5 hm)
      | ((with_reducible refine at_op (some 6) (.box 26 (.tmp 1)) ?_); refine wpl_box (u8s ns) rfl hm ?_; clear hm; intro w2 g6 hm)
      | (go_at_call 8; refine (known4_any _ (QTab.mem HT.out hm (by simp))).mono ?_; rintro e w3 ⟨rfl, hb⟩; replace hm := hm.call hb; clear hb))
    go_ret
    exact ⟨rfl, hm.below⟩
end Go.Proofs.YtalhobmnbikbfaaDoor
