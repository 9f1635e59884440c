/- The walk of the law SealTells. -/
import Derived.Test.YtbfccepddfinoaaDoorSealRefC
namespace Go.Proofs.YtbfccepddfinoaaDoor
open Go Go.RowKit
set_option maxRecDepth 100000 in
/-- What is held may become more on the way. -/
theorem anyH_more {P : Program} {md : Region.Mode} {ops : Array Oper} {Q : Exit → Act → World → Prop} {S : World → Prop} (S' : World → Prop) (hS : ∀ w, S' w → S w) : ∀ (fuel : Nat) (listed : Array Bool) (a : Act) (w : World), wpAnyH P md ops Q S' fuel listed a w → wpAnyH P md ops Q S fuel listed a w
  | 0, _, _, _, h => h
  | fuel + 1, _, _, _, h => ⟨h.1, fun i hi => wpOp_mono (fun a' w' h' => ⟨hS _ h'.1, anyH_more S' hS fuel _ a' w' h'.2⟩) (h.2 i hi)⟩
set_option maxRecDepth 100000 in
/-- Both unwrap alike. -/
theorem unwrap_pair (ks xs : List Int) (p n : Int) (hkl : ks.length = 32) (hxl : xs.length = 48) (hkb : Bytes ks) (hxb : Bytes xs) (hp : 0 ≤ p ∧ p < 4294967296) : ∃ (Z : List Int) (uc : Int) (ub : Bool), Z.length = 32 ∧ (uc == 0) = ub ∧ (uc == 50) = !ub ∧
    (∀ W : World, Tab W → QTab W → Calls Tryd.prog 13 #[.agg (u8s ks).toArray, .int .u32 p, .int .u64 n, .agg (u8s xs).toArray] W fun e w' => e = .returned (.tuple #[.agg (u8s Z).toArray, .int .i64 uc]) ∧ Below W.heap.size W w') ∧
    (∀ W : World, Calls Tryd.prog 14 #[.agg (u8s ks).toArray, .int .u32 p, .int .u64 n, .agg (u8s xs).toArray] W fun e w' => e = .returned (.tuple #[.agg (u8s Z).toArray, .bool ub]) ∧ Below W.heap.size W w') := by
  by_cases hf : xs.drop 32 = tagOf ks (nonceOf p n) labWrap (xs.take 32)
  · refine ⟨encOf ks (nonceOf p n) (xs.take 32), 0, true, ?_, rfl, rfl, fun W ht hq => unwrap_good ks xs _ p n hkl hxl hkb hxb hp hf rfl W ht hq, fun W => unwrapRef_good ks xs _ p n hkl hxl hkb hxb hp hf rfl W⟩
    rw [encOf_length, List.length_take, hxl]
    rfl
  · exact ⟨List.replicate 32 0, 50, false, by simp, rfl, rfl, fun W ht hq => unwrap_bad ks xs p n hkl hxl hkb hxb hp hf W ht hq, fun W => unwrapRef_bad ks xs p n hkl hxl hkb hxb hp hf W⟩
set_option maxHeartbeats 8000000 in
set_option maxRecDepth 100000 in
theorem sealTells_walk (ks ds ms bs kk xs : List Int) (va vp vb : Value) (p n : Int) (hkl : ks.length = 32) (hkkl : kk.length = 32) (hxl : xs.length = 48) (hkb : Bytes ks) (hdb : Bytes ds) (hmb : Bytes ms) (hbb : Bytes bs) (hkkb : Bytes kk) (hxb : Bytes xs) (hp : 0 ≤ p ∧ p < 4294967296) (w : World) (ht : Tab w) (hq : QTab w) (hva : SlOld w va ds) (hvp : SlOld w vp ms) (hvb : SlOld w vb bs) :
    Calls Tryd.prog 3 #[.agg (u8s ks).toArray, .int .u32 p, .int .u64 n, va, vp, vb, .agg (u8s kk).toArray, .agg (u8s xs).toArray] w fun e w' => e = .returned (.bool true) ∧ Below w.heap.size w w' := by
  have hm := Mem.start w
  have HT : Hid _ := ht
  have HQ : Hid _ := hq
  have HKL : Hid _ := hkl
  have HKB : Hid _ := hkb
  have HP : Hid (0 ≤ p ∧ p < 4294967296) := hp
  have HKU : Hid ((u8s ks).length = 32) := by show _ = _; rw [u8s_length]; exact hkl
  obtain ⟨ns, hns⟩ : ∃ ns, ns = nonceOf p n := ⟨_, rfl⟩
  have HNN : Hid (∀ _ : Unit, nonceOf p n = ns) := fun _ => hns.symm
  have HNL : Hid (ns.length = 12) := by show _ = _; rw [hns, nonceOf_length]
  have HNB : Hid (Bytes ns) := by rw [hns]; exact nonceOf_bytes _ _
  have HNU : Hid ((u8s ns).length = 12) := by show _ = _; rw [u8s_length]; exact HNL.out
  have HDB : Hid _ := hdb
  have HMB : Hid _ := hmb
  have HBB : Hid _ := hbb
  have HKKL : Hid _ := hkkl
  have HKKB : Hid _ := hkkb
  have HKKU : Hid ((u8s kk).length = 32) := by show _ = _; rw [u8s_length]; exact hkkl
  have HXSU : Hid ((u8s xs).length = 48) := by show _ = _; rw [u8s_length]; exact hxl
  obtain ⟨m, hml⟩ : ∃ m, ms.length = m := ⟨_, rfl⟩
  obtain ⟨dl, hdl⟩ : ∃ dl, ds.length = dl := ⟨_, rfl⟩
  obtain ⟨bl, hbl⟩ : ∃ bl, bs.length = bl := ⟨_, rfl⟩
  obtain ⟨pa, ca, hva1, _⟩ := hva.len
  obtain ⟨pp, cp, hvp1, _⟩ := hvp.len
  obtain ⟨pb, cb, hvb1, _⟩ := hvb.len
  rw [hdl] at hva1
  rw [hml] at hvp1
  rw [hbl] at hvb1
  subst hva1 hvp1 hvb1
  have HA : Hid (SlOld w (.slice pa dl ca) ds) := hva
  have HPM : Hid (SlOld w (.slice pp m cp) ms) := hvp
  have HB : Hid (SlOld w (.slice pb bl cb) bs) := hvb
  have HML : Hid (ms.length = m) := hml
  have HDL : Hid (ds.length = dl) := hdl
  have HBL : Hid (bs.length = bl) := hbl
  by_cases h0x : 100 < dl
  · have h0i : (100 : Int) < (dl : Int) := by omega
    clear ht hq hkl hkb hdb hmb hva hvp hvb hns hkkl hxl hbb hkkb hxb hp
    go_enter Tryd.func3, Tryd.ntmps3
    go_wp2_with (first
      | ((with_reducible refine at_op (some 8) (.box 23 (.tmp 0)) ?_); refine wpl_box (u8s ks) rfl hm ?_; clear hm; intro w1 g8 hm)
      | ((with_reducible refine at_op (some 14) (.box 23 (.tmp 6)) ?_); refine wpl_box (u8s kk) rfl hm ?_; clear hm; intro w2 g14 hm)
      | ((with_reducible refine at_op (some 15) (.box 27 (.tmp 7)) ?_); refine wpl_box (u8s xs) rfl hm ?_; clear hm; intro w3 g15 hm)
      | (go_at_call 9; refine (known5_any _ (Tab.mem HT.out hm (by simp)) (QTab.mem HQ.out hm (by simp))).mono ?_; rintro e wk ⟨rfl, hb⟩; replace hm := hm.call hb; clear hb))
    go_ret
    exact ⟨rfl, hm.below⟩
  have h0i : ¬ (100 : Int) < (dl : Int) := by omega
  by_cases h1x : 200 < m
  · have h1i : (200 : Int) < (m : Int) := by omega
    clear ht hq hkl hkb hdb hmb hva hvp hvb hns hkkl hxl hbb hkkb hxb hp
    go_enter Tryd.func3, Tryd.ntmps3
    go_wp2_with (first
      | ((with_reducible refine at_op (some 8) (.box 23 (.tmp 0)) ?_); refine wpl_box (u8s ks) rfl hm ?_; clear hm; intro w1 g8 hm)
      | ((with_reducible refine at_op (some 14) (.box 23 (.tmp 6)) ?_); refine wpl_box (u8s kk) rfl hm ?_; clear hm; intro w2 g14 hm)
      | ((with_reducible refine at_op (some 15) (.box 27 (.tmp 7)) ?_); refine wpl_box (u8s xs) rfl hm ?_; clear hm; intro w3 g15 hm)
      | (go_at_call 9; refine (known5_any _ (Tab.mem HT.out hm (by simp)) (QTab.mem HQ.out hm (by simp))).mono ?_; rintro e wk ⟨rfl, hb⟩; replace hm := hm.call hb; clear hb))
    go_ret
    exact ⟨rfl, hm.below⟩
  have h1i : ¬ (200 : Int) < (m : Int) := by omega
  by_cases h2x : 200 < bl
  · have h2i : (200 : Int) < (bl : Int) := by omega
    clear ht hq hkl hkb hdb hmb hva hvp hvb hns hkkl hxl hbb hkkb hxb hp
    go_enter Tryd.func3, Tryd.ntmps3
    go_wp2_with (first
      | ((with_reducible refine at_op (some 8) (.box 23 (.tmp 0)) ?_); refine wpl_box (u8s ks) rfl hm ?_; clear hm; intro w1 g8 hm)
      | ((with_reducible refine at_op (some 14) (.box 23 (.tmp 6)) ?_); refine wpl_box (u8s kk) rfl hm ?_; clear hm; intro w2 g14 hm)
      | ((with_reducible refine at_op (some 15) (.box 27 (.tmp 7)) ?_); refine wpl_box (u8s xs) rfl hm ?_; clear hm; intro w3 g15 hm)
      | (go_at_call 9; refine (known5_any _ (Tab.mem HT.out hm (by simp)) (QTab.mem HQ.out hm (by simp))).mono ?_; rintro e wk ⟨rfl, hb⟩; replace hm := hm.call hb; clear hb))
    go_ret
    exact ⟨rfl, hm.below⟩
  have h2i : ¬ (200 : Int) < (bl : Int) := by omega
  obtain ⟨Z, uc, ub, hzl, hu0, hu5, hu1, hu2⟩ := unwrap_pair ks xs p n hkl hxl hkb hxb hp
  have HZL : Hid (Z.length = 32) := hzl
  have HZU : Hid ((u8s Z).length = 32) := by show _ = _; rw [u8s_length]; exact hzl
  have HU0 : Hid ((uc == 0) = ub) := hu0
  have HU5 : Hid ((uc == 50) = !ub) := hu5
  have HU1 : Hid _ := hu1
  have HU2 : Hid _ := hu2
  obtain ⟨c, hc⟩ : ∃ c, c = openCode ks ns ds bs := ⟨_, rfl⟩
  have HCO : Hid (∀ _ : Unit, openCode ks ns ds bs = c) := fun _ => hc.symm
  obtain ⟨O, hO⟩ : ∃ O, O = openOf ks ns ds bs := ⟨_, rfl⟩
  have HOO : Hid (∀ _ : Unit, openOf ks ns ds bs = O) := fun _ => hO.symm
  obtain ⟨ol, hol⟩ : ∃ ol, O.length = ol := ⟨_, rfl⟩
  have HOL : Hid (O.length = ol) := hol
  obtain ⟨G, hG⟩ : ∃ G, G = tagOf ks ns ds ms := ⟨_, rfl⟩
  have HGG : Hid (∀ _ : Unit, tagOf ks ns ds ms = G) := fun _ => hG.symm
  have HGL : Hid (G.length = 16) := by show _ = _; rw [hG, tagOf_length]
  obtain ⟨X, hX⟩ : ∃ X, X = sealOf ks ns ds ms := ⟨_, rfl⟩
  have HXX : Hid (∀ _ : Unit, sealOf ks ns ds ms = X) := fun _ => hX.symm
  have HXL : Hid (X.length = m + 16) := by show _ = _; rw [hX, sealOf_length, hml]
  obtain ⟨Y, hY⟩ : ∃ Y, Y = sealOf ks (nonceOf p n) labWrap kk := ⟨_, rfl⟩
  have HYY : Hid (∀ _ : Unit, sealOf ks (nonceOf p n) labWrap kk = Y) := fun _ => hY.symm
  have HYL : Hid (Y.length = 48) := by show _ = _; rw [hY, sealOf_length, hkkl]
  have hty : ∀ (a b c d : Nat), ∀ r ∈ [(a, u8s ns, (30 : TypeId)), (b, u8s xs, (27 : TypeId)), (c, u8s kk, (23 : TypeId)), (d, u8s ks, (23 : TypeId))], r.2.2 ≠ 5 := by
    intro a b c d r hr
    simp only [List.mem_cons, List.not_mem_nil, or_false] at hr
    rcases hr with rfl | rfl | rfl | rfl <;> simp
  have HTY : Hid _ := hty
  clear hty
  clear ht hq hkl hkb hp hns hdb hmb hbb hkkl hkkb hxl hxb hva hvp hvb hml hdl hbl hzl hu0 hu5 hu1 hu2 hc hO hol hG hX hY
  go_enter Tryd.func3, Tryd.ntmps3
  go_wp2_with (first
    | ((with_reducible refine at_op (some 8) (.box 23 (.tmp 0)) ?_); refine wpl_box (u8s ks) rfl hm ?_; clear hm; intro w1 g8 hm)
    | ((with_reducible refine at_op (some 14) (.box 23 (.tmp 6)) ?_); refine wpl_box (u8s kk) rfl hm ?_; clear hm; intro w2 g14 hm)
    | ((with_reducible refine at_op (some 15) (.box 27 (.tmp 7)) ?_); refine wpl_box (u8s xs) rfl hm ?_; clear hm; intro w3 g15 hm)
    | (go_at_call 9; refine (known5_any _ (Tab.mem HT.out hm (by simp)) (QTab.mem HQ.out hm (by simp))).mono ?_; rintro e wk ⟨rfl, hb⟩; replace hm := hm.call hb; clear hb)
    | (go_at_call 10; refine (nonce_any p n HP.out _).mono ?_; rintro e w4 ⟨he, hb⟩; rw [HNN.out ()] at he; subst he; replace hm := hm.call hb; clear hb)
    | ((with_reducible refine at_op (some 17) (.alloc 30) ?_); refine wpl_alloc _ zero_nce hm ?_; clear hm; intro w5 g17 hm)
    | ((with_reducible refine at_op none (.store 30 (.tmp 17) (.tmp 43)) ?_); refine wpl_stw 0 (u8s ns) hm rfl rfl rfl 12 sz_nce (by simp [u8s_length]) (HNU.out) (u8s_one _) ?_; clear hm; intro w6 hm))
  refine wp_ends0 ?_
  refine anyH_start (T := fun W => Mem w [] W ((g17, u8s ns, 30) :: (g15, u8s xs, 27) :: (g14, u8s kk, 23) :: (g8, u8s ks, 23) :: [])) (by kernel_rfl) hm ?_
  clear hm
  intro w7 hm
  refine anyH_takeG 0 (v := .agg (u8s ks).toArray) rfl (by kernel_rfl) (by kernel_rfl) (by kernel_rfl) rfl (fun W hW => exec_ldsG 0 _ (Mem.get hW 3 rfl) rfl _ un_key rfl 32 sz_key (by rw [HKU.out]; omega) (by rw [List.drop_zero, List.take_of_length_le (Nat.le_of_eq HKU.out)])) hm ?_
  go_simp
  refine anyH_takeG 1 (v := .agg (u8s ns).toArray) rfl (by kernel_rfl) (by kernel_rfl) (by kernel_rfl) rfl (fun W hW => exec_ldsG 0 _ (Mem.get hW 0 rfl) rfl _ un_nce rfl 12 sz_nce (by rw [HNU.out]; omega) (by rw [List.drop_zero, List.take_of_length_le (Nat.le_of_eq HNU.out)])) hm ?_
  go_simp
  refine anyH_takeG 2 (v := .slice pa dl ca) rfl (by kernel_rfl) (by kernel_rfl) (by kernel_rfl) rfl (fun W _ => by go_simp) hm ?_
  go_simp
  refine anyH_takeG 3 (v := .slice pb bl cb) rfl (by kernel_rfl) (by kernel_rfl) (by kernel_rfl) rfl (fun W _ => by go_simp) hm ?_
  go_simp
  refine wpAnyH_all (rs := [4]) (by kernel_rfl) (by simp) ?_
  intro i hi
  simp only [List.mem_cons, List.not_mem_nil, or_false] at hi
  subst hi
  refine anyH_op 4 rfl rfl ?_
  intro K hK
  refine wpl_app rfl un_bs made_u8 bs hm (OwnB.nil _ _ _) (HTY.out _ _ _ _) rfl rfl HBL.out.symm (SlOld.mem HB.out hm).src0.2.2 (by rw [HBL.out]; simp; omega) ?_
  clear hm
  intro v49 w8 ho hm
  have hs49 : SlOld w8 v49 bs := by have h := OwnB.old ho; rw [List.nil_append] at h; exact h
  obtain ⟨p49, c49, hv49, _⟩ := hs49.len
  rw [HBL.out] at hv49
  subst hv49
  have HS49 : Hid (SlOld w8 (.slice p49 bl c49) bs) := hs49
  clear ho hs49
  refine wpList_nil ?_
  refine hK _ _ hm ?_
  clear hK K
  refine wpAnyH_all (rs := [5]) (by kernel_rfl) (by simp) ?_
  intro i hi
  simp only [List.mem_cons, List.not_mem_nil, or_false] at hi
  subst hi
  refine anyH_op 5 rfl rfl ?_
  intro K hK
  go_wp2_with (go_at_call 11; refine (open_own ks ns ds bs _ _ HKL.out HNL.out HKB.out HNB.out HDB.out HBB.out (by rw [HDL.out]; omega) (by rw [HBL.out]; omega) _ (Tab.mem HT.out hm (by simp)) (QTab.mem HQ.out hm (by simp)) (SlOld.mem HA.out hm) HS49.out).mono ?_; rintro e w9 ⟨v18, he, ho, hb⟩; rw [HCO.out ()] at he; rw [HOO.out ()] at ho; have hmT := hm.call hb; obtain ⟨rs1, hm2, hso⟩ := Mem.callOwn hm hb ho; obtain ⟨px, cx, hvx, _⟩ := OwnB.old ho; rw [HOL.out] at hvx; subst hvx; subst he; have HSX : Hid (∀ W, Mem w [] W rs1 → SlOld W (.slice px ol cx) O) := hso; clear hso ho hb)
  refine hK _ _ hmT ?_
  clear hK K
  refine anyH_takeG 6 (v := .tuple #[.slice px ol cx, .int .i64 c]) rfl (by kernel_rfl) (by kernel_rfl) (by kernel_rfl) rfl (fun W _ => by go_simp) hmT ?_
  go_simp
  refine anyH_takeG 7 (v := .slice px ol cx) rfl (by kernel_rfl) (by kernel_rfl) (by kernel_rfl) rfl (fun W _ => by go_simp) hmT ?_
  go_simp
  refine anyH_takeG 8 (v := .int .i64 c) rfl (by kernel_rfl) (by kernel_rfl) (by kernel_rfl) rfl (fun W _ => by go_simp) hmT ?_
  go_simp
  refine anyH_takeG 9 (v := .slice px ol cx) rfl (by kernel_rfl) (by kernel_rfl) (by kernel_rfl) rfl (fun W _ => by go_simp) hmT ?_
  go_simp
  refine anyH_takeG 10 (v := .int .i64 c) rfl (by kernel_rfl) (by kernel_rfl) (by kernel_rfl) rfl (fun W _ => by go_simp) hmT ?_
  go_simp
  refine wpAnyH_done (by kernel_rfl) ?_ _
  simp only [endsIn]
  clear hm hmT HS49
  have hm : Mem w [] w9 ((g17, u8s ns, 30) :: (g15, u8s xs, 27) :: (g14, u8s kk, 23) :: (g8, u8s ks, 23) :: rs1) := hm2
  clear hm2
  go_wp2_with (first
    | ((with_reducible refine at_op (some 54) (.load 23 (.tmp 8)) ?_); refine wpl_ldw 3 hm rfl rfl _ un_key rfl 32 sz_key (HKU.out) ?_)
    | ((with_reducible refine at_op (some 55) (.load 30 (.tmp 17)) ?_); refine wpl_ldw 0 hm rfl rfl _ un_nce rfl 12 sz_nce (HNU.out) ?_))
  refine (openRef_any ks ns ds bs _ _ HKL.out HNL.out HKB.out HNB.out HDB.out HBB.out (by rw [HDL.out]; omega) (by rw [HBL.out]; omega) _ (SlOld.mem HA.out hm) (SlOld.mem HB.out hm)).mono ?_
  rintro e w10 ⟨v20, he, ho, hb⟩
  rw [HCO.out ()] at he
  rw [HOO.out ()] at ho
  obtain ⟨rs2, hm2, hso⟩ := Mem.callOwn hm hb ho
  obtain ⟨py, cy, hvy, _⟩ := OwnB.old ho
  rw [HOL.out] at hvy
  subst hvy
  subst he
  have HSY : Hid (∀ W, Mem w [] W (rs1 ++ rs2) → SlOld W (.slice py ol cy) O) := fun W h => hso W (h.sub (List.sublist_append_right rs1 rs2))
  have HSX2 : Hid (∀ W, Mem w [] W (rs1 ++ rs2) → SlOld W (.slice px ol cx) O) := fun W h => HSX.out W (h.sub (List.sublist_append_left rs1 rs2))
  clear hm hso ho hb HSX
  have hm : Mem w [] w10 ((g17, u8s ns, 30) :: (g15, u8s xs, 27) :: (g14, u8s kk, 23) :: (g8, u8s ks, 23) :: (rs1 ++ rs2)) := hm2
  clear hm2
  generalize rs1 ++ rs2 = rs at hm HSY HSX2
  go_wp2_with (first
    | ((with_reducible refine at_op (some 62) (.load 23 (.tmp 8)) ?_); refine wpl_ldw 3 hm rfl rfl _ un_key rfl 32 sz_key (HKU.out) ?_)
    | ((with_reducible refine at_op (some 65) (.load 27 (.tmp 15)) ?_); refine wpl_ldw 1 hm rfl rfl _ un_b48 rfl 48 sz_b48 (HXSU.out) ?_)
    | (go_at_call 13; refine (HU1.out _ (Tab.mem HT.out hm (by simp)) (QTab.mem HQ.out hm (by simp))).mono ?_; rintro e w11 ⟨he, hb⟩; subst he; replace hm := hm.call hb; clear hb)
    | ((with_reducible refine at_op (some 22) (.alloc 23) ?_); refine wpl_alloc _ zero_key hm ?_; clear hm; intro w12 g22 hm)
    | ((with_reducible refine at_op none (.store 23 (.tmp 22) (.tmp 67)) ?_); refine wpl_stw 0 (u8s Z) hm rfl rfl rfl 32 sz_key (by simp [u8s_length]) (HZU.out) (u8s_one _) ?_; clear hm; intro w13 hm)
    | ((with_reducible refine at_op (some 70) (.load 23 (.tmp 8)) ?_); refine wpl_ldw 4 hm rfl rfl _ un_key rfl 32 sz_key (HKU.out) ?_)
    | ((with_reducible refine at_op (some 73) (.load 27 (.tmp 15)) ?_); refine wpl_ldw 2 hm rfl rfl _ un_b48 rfl 48 sz_b48 (HXSU.out) ?_)
    | (go_at_call 14; refine (HU2.out _).mono ?_; rintro e w14 ⟨he, hb⟩; subst he; replace hm := hm.call hb; clear hb)
    | ((with_reducible refine at_op (some 24) (.alloc 23) ?_); refine wpl_alloc _ zero_key hm ?_; clear hm; intro w15 g24 hm)
    | ((with_reducible refine at_op none (.store 23 (.tmp 24) (.tmp 75)) ?_); refine wpl_stw 0 (u8s Z) hm rfl rfl rfl 32 sz_key (by simp [u8s_length]) (HZU.out) (u8s_one _) ?_; clear hm; intro w16 hm))
  refine wp_ends0 ?_
  refine anyH_start (T := fun W => Mem w [] W ((g24, u8s Z, 23) :: (g22, u8s Z, 23) :: (g17, u8s ns, 30) :: (g15, u8s xs, 27) :: (g14, u8s kk, 23) :: (g8, u8s ks, 23) :: rs)) (by kernel_rfl) hm ?_
  clear hm
  intro w17 hm
  refine anyH_takeG 0 (v := .agg (u8s ns).toArray) rfl (by kernel_rfl) (by kernel_rfl) (by kernel_rfl) rfl (fun W hW => exec_ldsG 0 _ (Mem.get hW 2 rfl) rfl _ un_nce rfl 12 sz_nce (by rw [HNU.out]; omega) (by rw [List.drop_zero, List.take_of_length_le (Nat.le_of_eq HNU.out)])) hm ?_
  go_simp
  refine anyH_takeG 1 (v := .int .u32 p) rfl (by kernel_rfl) (by kernel_rfl) (by kernel_rfl) rfl (fun W _ => by go_simp) hm ?_
  go_simp
  refine anyH_takeG 2 (v := .int .u64 n) rfl (by kernel_rfl) (by kernel_rfl) (by kernel_rfl) rfl (fun W _ => by go_simp) hm ?_
  go_simp
  refine wpAnyH_all (rs := [3]) (by kernel_rfl) (by simp) ?_
  intro i hi
  simp only [List.mem_cons, List.not_mem_nil, or_false] at hi
  subst hi
  refine anyH_op 3 rfl rfl ?_
  intro K hK
  go_wp2_with (go_at_call 15; refine (nonceRef_any p n HP.out _).mono ?_; rintro e w18 ⟨he, hb⟩; rw [HNN.out ()] at he; subst he; replace hm := hm.call hb; clear hb)
  refine hK _ _ hm ?_
  clear hK K
  refine anyH_takeG 4 (v := .bool true) rfl (by kernel_rfl) (by kernel_rfl) (by kernel_rfl) rfl (fun W _ => exec_eqK _ 12 .u8 ns ns true (decide_eq_true rfl) rfl rfl un_nce un_u8 sz_u8 eg_nce HNL.out HNL.out) hm ?_
  go_simp
  refine anyH_takeG 5 (v := .bool true) rfl (by kernel_rfl) (by kernel_rfl) (by kernel_rfl) rfl (fun W _ => by go_simp) hm ?_
  go_simp
  refine anyH_takeG 6 (v := .agg (u8s ks).toArray) rfl (by kernel_rfl) (by kernel_rfl) (by kernel_rfl) rfl (fun W hW => exec_ldsG 0 _ (Mem.get hW 5 rfl) rfl _ un_key rfl 32 sz_key (by rw [HKU.out]; omega) (by rw [List.drop_zero, List.take_of_length_le (Nat.le_of_eq HKU.out)])) hm ?_
  go_simp
  refine anyH_takeG 7 (v := .agg (u8s ns).toArray) rfl (by kernel_rfl) (by kernel_rfl) (by kernel_rfl) rfl (fun W hW => exec_ldsG 0 _ (Mem.get hW 2 rfl) rfl _ un_nce rfl 12 sz_nce (by rw [HNU.out]; omega) (by rw [List.drop_zero, List.take_of_length_le (Nat.le_of_eq HNU.out)])) hm ?_
  go_simp
  refine anyH_takeG 8 (v := .slice pa dl ca) rfl (by kernel_rfl) (by kernel_rfl) (by kernel_rfl) rfl (fun W _ => by go_simp) hm ?_
  go_simp
  refine anyH_takeG 9 (v := .slice pp m cp) rfl (by kernel_rfl) (by kernel_rfl) (by kernel_rfl) rfl (fun W _ => by go_simp) hm ?_
  go_simp
  refine anyH_takeG 11 (v := .agg (u8s ks).toArray) rfl (by kernel_rfl) (by kernel_rfl) (by kernel_rfl) rfl (fun W hW => exec_ldsG 0 _ (Mem.get hW 5 rfl) rfl _ un_key rfl 32 sz_key (by rw [HKU.out]; omega) (by rw [List.drop_zero, List.take_of_length_le (Nat.le_of_eq HKU.out)])) hm ?_
  go_simp
  refine anyH_takeG 12 (v := .agg (u8s ns).toArray) rfl (by kernel_rfl) (by kernel_rfl) (by kernel_rfl) rfl (fun W hW => exec_ldsG 0 _ (Mem.get hW 2 rfl) rfl _ un_nce rfl 12 sz_nce (by rw [HNU.out]; omega) (by rw [List.drop_zero, List.take_of_length_le (Nat.le_of_eq HNU.out)])) hm ?_
  go_simp
  refine anyH_takeG 13 (v := .slice pa dl ca) rfl (by kernel_rfl) (by kernel_rfl) (by kernel_rfl) rfl (fun W _ => by go_simp) hm ?_
  go_simp
  refine anyH_takeG 14 (v := .slice pp m cp) rfl (by kernel_rfl) (by kernel_rfl) (by kernel_rfl) rfl (fun W _ => by go_simp) hm ?_
  go_simp
  refine wpAnyH_all (rs := [10]) (by kernel_rfl) (by simp) ?_
  intro i hi
  simp only [List.mem_cons, List.not_mem_nil, or_false] at hi
  subst hi
  refine anyH_opW 10 rfl rfl ?_
  intro K hK
  go_wp2_with (go_at_call 16; refine (tag_any ks ns ds ms _ _ HKL.out HNL.out HKB.out HNB.out HDB.out HMB.out (by rw [HDL.out]; omega) (by rw [HML.out]; omega) _ (Tab.mem HT.out hm (by simp)) (SlOld.mem HA.out hm) (SlOld.mem HPM.out hm)).mono ?_; rintro e w19 ⟨he, hb⟩; rw [HGG.out ()] at he; subst he; replace hm := hm.call hb; clear hb)
  refine hK _ _ hm ?_
  clear hK K
  refine wpAnyH_all (rs := [15]) (by kernel_rfl) (by simp) ?_
  intro i hi
  simp only [List.mem_cons, List.not_mem_nil, or_false] at hi
  subst hi
  refine anyH_opW 15 rfl rfl ?_
  intro K hK
  go_wp2_with (go_at_call 17; refine (tagRef_any ks ns ds ms _ _ HKL.out HNL.out HKB.out HNB.out HDB.out HMB.out (by rw [HDL.out]; omega) (by rw [HML.out]; omega) _ (SlOld.mem HA.out hm) (SlOld.mem HPM.out hm)).mono ?_; rintro e w20 ⟨he, hb⟩; rw [HGG.out ()] at he; subst he; replace hm := hm.call hb; clear hb)
  refine hK _ _ hm ?_
  clear hK K
  refine anyH_takeG 16 (v := .bool true) rfl (by kernel_rfl) (by kernel_rfl) (by kernel_rfl) rfl (fun W _ => exec_eqK _ 16 .u8 G G true (decide_eq_true rfl) rfl rfl un_tag un_u8 sz_u8 eg_tag HGL.out HGL.out) hm ?_
  go_simp
  refine anyH_takeG 17 (v := .bool true) rfl (by kernel_rfl) (by kernel_rfl) (by kernel_rfl) rfl (fun W _ => by go_simp) hm ?_
  go_simp
  refine anyH_takeG 18 (v := .bool true) rfl (by kernel_rfl) (by kernel_rfl) (by kernel_rfl) rfl (fun W _ => by go_simp) hm ?_
  go_simp
  refine anyH_takeG 19 (v := .agg (u8s ks).toArray) rfl (by kernel_rfl) (by kernel_rfl) (by kernel_rfl) rfl (fun W hW => exec_ldsG 0 _ (Mem.get hW 5 rfl) rfl _ un_key rfl 32 sz_key (by rw [HKU.out]; omega) (by rw [List.drop_zero, List.take_of_length_le (Nat.le_of_eq HKU.out)])) hm ?_
  go_simp
  refine anyH_takeG 20 (v := .agg (u8s ns).toArray) rfl (by kernel_rfl) (by kernel_rfl) (by kernel_rfl) rfl (fun W hW => exec_ldsG 0 _ (Mem.get hW 2 rfl) rfl _ un_nce rfl 12 sz_nce (by rw [HNU.out]; omega) (by rw [List.drop_zero, List.take_of_length_le (Nat.le_of_eq HNU.out)])) hm ?_
  go_simp
  refine anyH_takeG 21 (v := .slice pa dl ca) rfl (by kernel_rfl) (by kernel_rfl) (by kernel_rfl) rfl (fun W _ => by go_simp) hm ?_
  go_simp
  refine anyH_takeG 22 (v := .slice pp m cp) rfl (by kernel_rfl) (by kernel_rfl) (by kernel_rfl) rfl (fun W _ => by go_simp) hm ?_
  go_simp
  refine anyH_takeG 25 (v := .agg (u8s ks).toArray) rfl (by kernel_rfl) (by kernel_rfl) (by kernel_rfl) rfl (fun W hW => exec_ldsG 0 _ (Mem.get hW 5 rfl) rfl _ un_key rfl 32 sz_key (by rw [HKU.out]; omega) (by rw [List.drop_zero, List.take_of_length_le (Nat.le_of_eq HKU.out)])) hm ?_
  go_simp
  refine anyH_takeG 26 (v := .agg (u8s ns).toArray) rfl (by kernel_rfl) (by kernel_rfl) (by kernel_rfl) rfl (fun W hW => exec_ldsG 0 _ (Mem.get hW 2 rfl) rfl _ un_nce rfl 12 sz_nce (by rw [HNU.out]; omega) (by rw [List.drop_zero, List.take_of_length_le (Nat.le_of_eq HNU.out)])) hm ?_
  go_simp
  refine anyH_takeG 27 (v := .slice pa dl ca) rfl (by kernel_rfl) (by kernel_rfl) (by kernel_rfl) rfl (fun W _ => by go_simp) hm ?_
  go_simp
  refine anyH_takeG 28 (v := .slice pp m cp) rfl (by kernel_rfl) (by kernel_rfl) (by kernel_rfl) rfl (fun W _ => by go_simp) hm ?_
  go_simp
  refine wpAnyH_all (rs := [23]) (by kernel_rfl) (by simp) ?_
  intro i hi
  simp only [List.mem_cons, List.not_mem_nil, or_false] at hi
  subst hi
  refine anyH_opW 23 rfl rfl ?_
  intro K hK
  go_wp2_with (go_at_call 18; refine (seal_any ks ns ds ms _ _ HKL.out HNL.out HKB.out HNB.out HDB.out HMB.out (by rw [HDL.out]; omega) (by rw [HML.out]; omega) _ (Tab.mem HT.out hm (by simp)) (QTab.mem HQ.out hm (by simp)) (SlOld.mem HA.out hm) (SlOld.mem HPM.out hm)).mono ?_; rintro e w21 ⟨gs, cap, l, he, hcap, hge, hr, hb⟩; rw [HML.out] at he hcap; subst he; rw [HXX.out ()] at hr; replace hm := hm.callNew hb hr hge; clear hb hr hge)
  refine hK _ _ hm.tail ?_
  clear hK K
  refine anyH_more (fun W => Mem w [] W ((gs, u8s X ++ l, 5) :: (g24, u8s Z, 23) :: (g22, u8s Z, 23) :: (g17, u8s ns, 30) :: (g15, u8s xs, 27) :: (g14, u8s kk, 23) :: (g8, u8s ks, 23) :: rs)) (fun W h => h.tail) _ _ _ _ ?_
  refine anyH_takeG 24 (v := .string (strOf X)) rfl (by kernel_rfl) (by kernel_rfl) (by kernel_rfl) rfl (fun W hW => exec_tostr un_bs un_u8 un_strT _ rfl (old_head (Mem.get hW 0 rfl) HXL.out hcap)) hm ?_
  go_simp
  refine wpAnyH_all (rs := [29]) (by kernel_rfl) (by simp) ?_
  intro i hi
  simp only [List.mem_cons, List.not_mem_nil, or_false] at hi
  subst hi
  refine anyH_opW 29 rfl rfl ?_
  intro K hK
  go_wp2_with (go_at_call 19; refine (sealRef_any ks ns ds ms _ _ HKL.out HNL.out HKB.out HNB.out HDB.out HMB.out (by rw [HDL.out]; omega) (by rw [HML.out]; omega) _ (SlOld.mem HA.out hm) (SlOld.mem HPM.out hm)).mono ?_; rintro e w22 ⟨v29, he, ho, hb⟩; rw [HXX.out ()] at ho; obtain ⟨g29, c29, l29, hv29, hge, hr, hc29⟩ := OwnB.row ho (by rw [HXL.out]; omega); rw [HXL.out] at hv29 hc29; subst hv29; subst he; replace hm := hm.callNew hb hr hge; clear ho hb hr hge)
  refine hK _ _ hm.tail ?_
  clear hK K
  refine anyH_more (fun W => Mem w [] W ((g29, u8s X ++ l29, 5) :: (gs, u8s X ++ l, 5) :: (g24, u8s Z, 23) :: (g22, u8s Z, 23) :: (g17, u8s ns, 30) :: (g15, u8s xs, 27) :: (g14, u8s kk, 23) :: (g8, u8s ks, 23) :: rs)) (fun W h => h.tail) _ _ _ _ ?_
  refine anyH_takeG 30 (v := .string (strOf X)) rfl (by kernel_rfl) (by kernel_rfl) (by kernel_rfl) rfl (fun W hW => exec_tostr un_bs un_u8 un_strT _ rfl (old_head (Mem.get hW 0 rfl) HXL.out hc29)) hm ?_
  go_simp
  refine anyH_takeG 31 (v := .bool true) rfl (by kernel_rfl) (by kernel_rfl) (by kernel_rfl) rfl (fun W _ => exec_eqsB (strOf X) (strOf X) true rfl rfl (beq_self_str _)) hm ?_
  go_simp
  refine anyH_takeG 32 (v := .bool true) rfl (by kernel_rfl) (by kernel_rfl) (by kernel_rfl) rfl (fun W _ => by go_simp) hm ?_
  go_simp
  refine anyH_takeG 33 (v := .bool true) rfl (by kernel_rfl) (by kernel_rfl) (by kernel_rfl) rfl (fun W _ => by go_simp) hm ?_
  go_simp
  refine anyH_takeG 34 (v := .slice px ol cx) rfl (by kernel_rfl) (by kernel_rfl) (by kernel_rfl) rfl (fun W _ => by go_simp) hm ?_
  go_simp
  refine anyH_takeG 35 (v := .string (strOf O)) rfl (by kernel_rfl) (by kernel_rfl) (by kernel_rfl) rfl (fun W hW => exec_tostr un_bs un_u8 un_strT _ rfl (HSX2.out _ hW.tail.tail.tail.tail.tail.tail.tail.tail)) hm ?_
  go_simp
  refine anyH_takeG 36 (v := .slice py ol cy) rfl (by kernel_rfl) (by kernel_rfl) (by kernel_rfl) rfl (fun W _ => by go_simp) hm ?_
  go_simp
  refine anyH_takeG 37 (v := .string (strOf O)) rfl (by kernel_rfl) (by kernel_rfl) (by kernel_rfl) rfl (fun W hW => exec_tostr un_bs un_u8 un_strT _ rfl (HSY.out _ hW.tail.tail.tail.tail.tail.tail.tail.tail)) hm ?_
  go_simp
  refine anyH_takeG 38 (v := .bool true) rfl (by kernel_rfl) (by kernel_rfl) (by kernel_rfl) rfl (fun W _ => exec_eqsB (strOf O) (strOf O) true rfl rfl (beq_self_str _)) hm ?_
  go_simp
  refine anyH_takeG 39 (v := .bool true) rfl (by kernel_rfl) (by kernel_rfl) (by kernel_rfl) rfl (fun W _ => by go_simp) hm ?_
  go_simp
  refine anyH_takeG 40 (v := .bool true) rfl (by kernel_rfl) (by kernel_rfl) (by kernel_rfl) rfl (fun W _ => by go_simp) hm ?_
  go_simp
  refine anyH_takeG 41 (v := .int .i64 c) rfl (by kernel_rfl) (by kernel_rfl) (by kernel_rfl) rfl (fun W _ => by go_simp) hm ?_
  go_simp
  refine anyH_takeG 42 (v := .int .i64 c) rfl (by kernel_rfl) (by kernel_rfl) (by kernel_rfl) rfl (fun W _ => by go_simp) hm ?_
  go_simp
  refine anyH_takeG 43 (v := .bool true) rfl (by kernel_rfl) (by kernel_rfl) (by kernel_rfl) rfl (fun W _ => by go_simp) hm ?_
  go_simp
  refine anyH_takeG 44 (v := .bool true) rfl (by kernel_rfl) (by kernel_rfl) (by kernel_rfl) rfl (fun W _ => by go_simp) hm ?_
  go_simp
  refine anyH_takeG 45 (v := .bool true) rfl (by kernel_rfl) (by kernel_rfl) (by kernel_rfl) rfl (fun W _ => by go_simp) hm ?_
  go_simp
  refine anyH_takeG 46 (v := .agg (u8s ks).toArray) rfl (by kernel_rfl) (by kernel_rfl) (by kernel_rfl) rfl (fun W hW => exec_ldsG 0 _ (Mem.get hW 7 rfl) rfl _ un_key rfl 32 sz_key (by rw [HKU.out]; omega) (by rw [List.drop_zero, List.take_of_length_le (Nat.le_of_eq HKU.out)])) hm ?_
  go_simp
  refine anyH_takeG 47 (v := .int .u32 p) rfl (by kernel_rfl) (by kernel_rfl) (by kernel_rfl) rfl (fun W _ => by go_simp) hm ?_
  go_simp
  refine anyH_takeG 48 (v := .int .u64 n) rfl (by kernel_rfl) (by kernel_rfl) (by kernel_rfl) rfl (fun W _ => by go_simp) hm ?_
  go_simp
  refine anyH_takeG 49 (v := .agg (u8s kk).toArray) rfl (by kernel_rfl) (by kernel_rfl) (by kernel_rfl) rfl (fun W hW => exec_ldsG 0 _ (Mem.get hW 6 rfl) rfl _ un_key rfl 32 sz_key (by rw [HKKU.out]; omega) (by rw [List.drop_zero, List.take_of_length_le (Nat.le_of_eq HKKU.out)])) hm ?_
  go_simp
  refine anyH_takeG 51 (v := .agg (u8s ks).toArray) rfl (by kernel_rfl) (by kernel_rfl) (by kernel_rfl) rfl (fun W hW => exec_ldsG 0 _ (Mem.get hW 7 rfl) rfl _ un_key rfl 32 sz_key (by rw [HKU.out]; omega) (by rw [List.drop_zero, List.take_of_length_le (Nat.le_of_eq HKU.out)])) hm ?_
  go_simp
  refine anyH_takeG 52 (v := .int .u32 p) rfl (by kernel_rfl) (by kernel_rfl) (by kernel_rfl) rfl (fun W _ => by go_simp) hm ?_
  go_simp
  refine anyH_takeG 53 (v := .int .u64 n) rfl (by kernel_rfl) (by kernel_rfl) (by kernel_rfl) rfl (fun W _ => by go_simp) hm ?_
  go_simp
  refine anyH_takeG 54 (v := .agg (u8s kk).toArray) rfl (by kernel_rfl) (by kernel_rfl) (by kernel_rfl) rfl (fun W hW => exec_ldsG 0 _ (Mem.get hW 6 rfl) rfl _ un_key rfl 32 sz_key (by rw [HKKU.out]; omega) (by rw [List.drop_zero, List.take_of_length_le (Nat.le_of_eq HKKU.out)])) hm ?_
  go_simp
  refine wpAnyH_all (rs := [50]) (by kernel_rfl) (by simp) ?_
  intro i hi
  simp only [List.mem_cons, List.not_mem_nil, or_false] at hi
  subst hi
  refine anyH_opW 50 rfl rfl ?_
  intro K hK
  go_wp2_with (go_at_call 20; refine (wrap_any ks kk p n HKL.out HKKL.out HKB.out HKKB.out HP.out _ (Tab.mem HT.out hm (by simp)) (QTab.mem HQ.out hm (by simp))).mono ?_; rintro e w23 ⟨he, hb⟩; rw [HYY.out ()] at he; subst he; replace hm := hm.call hb; clear hb)
  refine hK _ _ hm ?_
  clear hK K
  refine wpAnyH_all (rs := [55]) (by kernel_rfl) (by simp) ?_
  intro i hi
  simp only [List.mem_cons, List.not_mem_nil, or_false] at hi
  subst hi
  refine anyH_opW 55 rfl rfl ?_
  intro K hK
  go_wp2_with (go_at_call 21; refine (wrapRef_any ks kk p n HKL.out HKKL.out HKB.out HKKB.out HP.out _).mono ?_; rintro e w24 ⟨he, hb⟩; rw [HYY.out ()] at he; subst he; replace hm := hm.call hb; clear hb)
  refine hK _ _ hm ?_
  clear hK K
  refine anyH_takeG 56 (v := .bool true) rfl (by kernel_rfl) (by kernel_rfl) (by kernel_rfl) rfl (fun W _ => exec_eqK _ 48 .u8 Y Y true (decide_eq_true rfl) rfl rfl un_b48 un_u8 sz_u8 eg_b48 HYL.out HYL.out) hm ?_
  go_simp
  refine anyH_takeG 57 (v := .bool true) rfl (by kernel_rfl) (by kernel_rfl) (by kernel_rfl) rfl (fun W _ => by go_simp) hm ?_
  go_simp
  refine anyH_takeG 58 (v := .bool true) rfl (by kernel_rfl) (by kernel_rfl) (by kernel_rfl) rfl (fun W _ => by go_simp) hm ?_
  go_simp
  refine anyH_takeG 59 (v := .agg (u8s Z).toArray) rfl (by kernel_rfl) (by kernel_rfl) (by kernel_rfl) rfl (fun W hW => exec_ldsG 0 _ (Mem.get hW 3 rfl) rfl _ un_key rfl 32 sz_key (by rw [HZU.out]; omega) (by rw [List.drop_zero, List.take_of_length_le (Nat.le_of_eq HZU.out)])) hm ?_
  go_simp
  refine anyH_takeG 60 (v := .agg (u8s Z).toArray) rfl (by kernel_rfl) (by kernel_rfl) (by kernel_rfl) rfl (fun W hW => exec_ldsG 0 _ (Mem.get hW 2 rfl) rfl _ un_key rfl 32 sz_key (by rw [HZU.out]; omega) (by rw [List.drop_zero, List.take_of_length_le (Nat.le_of_eq HZU.out)])) hm ?_
  go_simp
  refine anyH_takeG 61 (v := .bool true) rfl (by kernel_rfl) (by kernel_rfl) (by kernel_rfl) rfl (fun W _ => exec_eqK _ 32 .u8 Z Z true (decide_eq_true rfl) rfl rfl un_key un_u8 sz_u8 eg_key HZL.out HZL.out) hm ?_
  go_simp
  refine anyH_takeG 62 (v := .bool true) rfl (by kernel_rfl) (by kernel_rfl) (by kernel_rfl) rfl (fun W _ => by go_simp) hm ?_
  go_simp
  refine anyH_takeG 63 (v := .bool true) rfl (by kernel_rfl) (by kernel_rfl) (by kernel_rfl) rfl (fun W _ => by go_simp) hm ?_
  go_simp
  refine anyH_takeG 64 (v := .int .i64 uc) rfl (by kernel_rfl) (by kernel_rfl) (by kernel_rfl) rfl (fun W _ => by go_simp) hm ?_
  go_simp
  refine anyH_takeG 65 (v := .bool ub) rfl (by kernel_rfl) (by kernel_rfl) (by kernel_rfl) rfl (fun W _ => by go_simp; exact HU0.out) hm ?_
  go_simp
  refine anyH_takeG 66 (v := .bool ub) rfl (by kernel_rfl) (by kernel_rfl) (by kernel_rfl) rfl (fun W _ => by go_simp) hm ?_
  go_simp
  refine anyH_takeG 67 (v := .bool true) rfl (by kernel_rfl) (by kernel_rfl) (by kernel_rfl) rfl (fun W _ => by go_simp) hm ?_
  go_simp
  refine anyH_takeG 68 (v := .bool true) rfl (by kernel_rfl) (by kernel_rfl) (by kernel_rfl) rfl (fun W _ => by go_simp) hm ?_
  go_simp
  refine anyH_takeG 69 (v := .bool true) rfl (by kernel_rfl) (by kernel_rfl) (by kernel_rfl) rfl (fun W _ => by go_simp) hm ?_
  go_simp
  refine anyH_takeG 70 (v := .int .i64 uc) rfl (by kernel_rfl) (by kernel_rfl) (by kernel_rfl) rfl (fun W _ => by go_simp) hm ?_
  go_simp
  refine anyH_takeG 71 (v := .bool ub) rfl (by kernel_rfl) (by kernel_rfl) (by kernel_rfl) rfl (fun W _ => by go_simp; exact HU0.out) hm ?_
  go_simp
  refine anyH_takeG 72 (v := .bool ub) rfl (by kernel_rfl) (by kernel_rfl) (by kernel_rfl) rfl (fun W _ => by go_simp) hm ?_
  go_simp
  cases ub with
  | true =>
    refine anyH_skip 73 rfl (by kernel_rfl) (by kernel_rfl) (by kernel_rfl) rfl hm ?_
    go_simp
    refine anyH_skip 74 rfl (by kernel_rfl) (by kernel_rfl) (by kernel_rfl) rfl hm ?_
    go_simp
    refine anyH_takeG 75 (v := .bool true) rfl (by kernel_rfl) (by kernel_rfl) (by kernel_rfl) rfl (fun W _ => by go_simp) hm ?_
    go_simp
    refine anyH_takeG 76 (v := .bool true) rfl (by kernel_rfl) (by kernel_rfl) (by kernel_rfl) rfl (fun W _ => by go_simp) hm ?_
    go_simp
    refine anyH_takeG 77 (v := .bool true) rfl (by kernel_rfl) (by kernel_rfl) (by kernel_rfl) rfl (fun W _ => by go_simp) hm ?_
    go_simp
    refine wpAnyH_done (by kernel_rfl) ?_ _
    simp only [endsIn]
    go_wp2_with fail
    go_ret
    exact ⟨rfl, hm.below⟩
  | false =>
    refine anyH_takeG 73 (v := .int .i64 uc) rfl (by kernel_rfl) (by kernel_rfl) (by kernel_rfl) rfl (fun W _ => by go_simp) hm ?_
    go_simp
    refine anyH_takeG 74 (v := .bool true) rfl (by kernel_rfl) (by kernel_rfl) (by kernel_rfl) rfl (fun W _ => by go_simp; exact eq_of_beq HU5.out) hm ?_
    go_simp
    refine anyH_takeG 75 (v := .bool true) rfl (by kernel_rfl) (by kernel_rfl) (by kernel_rfl) rfl (fun W _ => by go_simp) hm ?_
    go_simp
    refine anyH_takeG 76 (v := .bool true) rfl (by kernel_rfl) (by kernel_rfl) (by kernel_rfl) rfl (fun W _ => by go_simp) hm ?_
    go_simp
    refine anyH_takeG 77 (v := .bool true) rfl (by kernel_rfl) (by kernel_rfl) (by kernel_rfl) rfl (fun W _ => by go_simp) hm ?_
    go_simp
    refine wpAnyH_done (by kernel_rfl) ?_ _
    simp only [endsIn]
    go_wp2_with fail
    go_ret
    exact ⟨rfl, hm.below⟩
end Go.Proofs.YtbfccepddfinoaaDoor
