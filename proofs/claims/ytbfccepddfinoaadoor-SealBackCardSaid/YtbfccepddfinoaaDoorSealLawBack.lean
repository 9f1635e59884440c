/- The walk of the law SealBack. -/
import Derived.Test.YtbfccepddfinoaaDoorSealKnown
namespace Go.Proofs.YtbfccepddfinoaaDoor
open Go Go.RowKit
set_option maxRecDepth 100000 in
theorem old_tail {w : World} {g c : Nat} {X : List Int} {r : List Value} {t : TypeId} (hr : Row w g (u8s X ++ r) t) (m k : Nat) (hX : X.length = m + k) (hc : k ≤ c) : SlOld w (.slice (some ⟨g, m, none⟩) k c) (X.drop m) := by
  have hl : (X.drop m).length = k := by rw [List.length_drop]; omega
  refine ⟨_, c, by rw [hl], by rw [hl]; exact hc, fun _ => ⟨g, m, rfl, ?_⟩⟩
  have := (seg_head hr).drop m
  rw [Nat.zero_add] at this
  exact this
set_option maxHeartbeats 2000000 in
set_option maxRecDepth 100000 in
theorem sealBack_walk (ks ns ds ms : List Int) (va vp : Value) (a : Int) (hkl : ks.length = 32) (hnl : ns.length = 12) (hkb : Bytes ks) (hnb : Bytes ns) (hdb : Bytes ds) (hmb : Bytes ms) (ha : 0 ≤ a ∧ a ≤ 255) (w : World) (ht : Tab w) (hq : QTab w) (hva : SlOld w va ds) (hvp : SlOld w vp ms) :
    Calls Tryd.prog 4 #[.agg (u8s ks).toArray, .agg (u8s ns).toArray, va, vp, .int .u8 a] w fun e w' => e = .returned (.bool true) ∧ Below w.heap.size w w' := by
  have hm := Mem.start w
  have HT : Hid _ := ht
  have HQ : Hid _ := hq
  have HKL : Hid _ := hkl
  have HNL : Hid _ := hnl
  have HKB : Hid _ := hkb
  have HNB : Hid _ := hnb
  have HDB : Hid _ := hdb
  have HMB : Hid _ := hmb
  have HKU : Hid ((u8s ks).length = 32) := by show _ = _; rw [u8s_length]; exact hkl
  have HNU : Hid ((u8s ns).length = 12) := by show _ = _; rw [u8s_length]; exact hnl
  obtain ⟨m, hml⟩ : ∃ m, ms.length = m := ⟨_, rfl⟩
  obtain ⟨dl, hdl⟩ : ∃ dl, ds.length = dl := ⟨_, rfl⟩
  obtain ⟨pa, ca, hva1, _⟩ := hva.len
  obtain ⟨pp, cp, hvp1, _⟩ := hvp.len
  rw [hdl] at hva1
  rw [hml] at hvp1
  subst hva1 hvp1
  have HA : Hid (SlOld w (.slice pa dl ca) ds) := hva
  have HP : Hid (SlOld w (.slice pp m cp) ms) := hvp
  have HML : Hid (ms.length = m) := hml
  have HDL : Hid (ds.length = dl) := hdl
  by_cases h0x : 100 < dl
  · have h0i : (100 : Int) < (dl : Int) := by omega
    clear ht hq hkl hnl hkb hnb hdb hmb hva hvp
    go_enter Tryd.func4, Tryd.ntmps4
    go_wp2_with (first
      | ((with_reducible refine at_op (some 5) (.box 23 (.tmp 0)) ?_); refine wpl_box (u8s ks) rfl hm ?_; clear hm; intro w1 g5 hm)
      | ((with_reducible refine at_op (some 6) (.box 30 (.tmp 1)) ?_); refine wpl_box (u8s ns) rfl hm ?_; clear hm; intro w2 g6 hm)
      | (go_at_call 9; refine (known5_any _ (Tab.mem HT.out hm (by simp)) (QTab.mem HQ.out hm (by simp))).mono ?_; rintro e wk ⟨rfl, hb⟩; replace hm := hm.call hb; clear hb))
    go_ret
    exact ⟨rfl, hm.below⟩
  have h0i : ¬ (100 : Int) < (dl : Int) := by omega
  by_cases h1x : 200 < m
  · have h1i : (200 : Int) < (m : Int) := by omega
    clear ht hq hkl hnl hkb hnb hdb hmb hva hvp
    go_enter Tryd.func4, Tryd.ntmps4
    go_wp2_with (first
      | ((with_reducible refine at_op (some 5) (.box 23 (.tmp 0)) ?_); refine wpl_box (u8s ks) rfl hm ?_; clear hm; intro w1 g5 hm)
      | ((with_reducible refine at_op (some 6) (.box 30 (.tmp 1)) ?_); refine wpl_box (u8s ns) rfl hm ?_; clear hm; intro w2 g6 hm)
      | (go_at_call 9; refine (known5_any _ (Tab.mem HT.out hm (by simp)) (QTab.mem HQ.out hm (by simp))).mono ?_; rintro e wk ⟨rfl, hb⟩; replace hm := hm.call hb; clear hb))
    go_ret
    exact ⟨rfl, hm.below⟩
  have h1i : ¬ (200 : Int) < (m : Int) := by omega
  obtain ⟨X, hX⟩ : ∃ X, X = sealOf ks ns ds ms := ⟨_, rfl⟩
  have HXX : Hid (∀ _ : Unit, sealOf ks ns ds ms = X) := fun _ => hX.symm
  have hxl : X.length = m + 16 := by rw [hX, sealOf_length, hml]
  have HXL : Hid (X.length = m + 16) := hxl
  have HXU : Hid ((u8s X).length = m + 16) := by show _ = _; rw [u8s_length]; exact hxl
  have HXB : Hid (Bytes X) := by rw [hX]; exact sealOf_bytes _ _ _ hmb
  have hxt : X.take m = encOf ks ns ms := by have h := sealOf_take ks ns ds ms; rw [hml, ← hX] at h; exact h
  have hxd : X.drop m = tagOf ks ns ds (encOf ks ns ms) := by have h := sealOf_drop ks ns ds ms; rw [hml, ← hX] at h; exact h
  have HF : Hid (∀ _ : Unit, X.drop m = tagOf ks ns ds (X.take m)) := fun _ => by rw [hxt, hxd]
  have HPL : Hid (∀ _ : Unit, encOf ks ns (X.take m) = ms) := fun _ => by rw [hxt]; exact encOf_twice _ _ hmb
  obtain ⟨G, hG⟩ : ∃ G, G = X.drop m := ⟨_, rfl⟩
  have HGD : Hid (∀ _ : Unit, X.drop m = G) := fun _ => hG.symm
  have HGG : Hid (∀ _ : Unit, tagOf ks ns ds (X.take m) = G) := fun _ => by rw [hG, hxt, hxd]
  have HGL : Hid (G.length = 16) := by show _ = _; rw [hG, List.length_drop]; omega
  have HGU : Hid ((u8s G).length = 16) := by show _ = _; rw [u8s_length]; exact HGL.out
  have HTB : Hid (Bytes (X.take m)) := HXB.out.take _
  have HTL : Hid ((X.take m).length ≤ 20000) := by show _ ≤ _; rw [List.length_take]; omega
  obtain ⟨j, hj, hja⟩ : ∃ j : Nat, j < 16 ∧ a % 16 = (j : Int) := ⟨(a % 16).toNat, by omega, by omega⟩
  have hat : a.tmod 16 = (j : Int) := by rw [Int.tmod_eq_emod_of_nonneg ha.1]; exact hja
  obtain ⟨ha0, ha1⟩ := ha
  clear ht hq hkl hnl hkb hnb hdb hmb hva hvp hX hxl hxt hxd hG hja hml hdl
  go_enter Tryd.func4, Tryd.ntmps4
  go_wp2_with (first
    | ((with_reducible refine at_op (some 5) (.box 23 (.tmp 0)) ?_); refine wpl_box (u8s ks) rfl hm ?_; clear hm; intro w1 g5 hm)
    | ((with_reducible refine at_op (some 6) (.box 30 (.tmp 1)) ?_); refine wpl_box (u8s ns) rfl hm ?_; clear hm; intro w2 g6 hm)
    | (go_at_call 9; refine (known5_any _ (Tab.mem HT.out hm (by simp)) (QTab.mem HQ.out hm (by simp))).mono ?_; rintro e wk ⟨rfl, hb⟩; replace hm := hm.call hb; clear hb)
    | ((with_reducible refine at_op (some 27) (.load 23 (.tmp 5)) ?_); refine wpl_ldw 1 hm rfl rfl _ un_key rfl 32 sz_key (HKU.out) ?_)
    | ((with_reducible refine at_op (some 28) (.load 30 (.tmp 6)) ?_); refine wpl_ldw 0 hm rfl rfl _ un_nce rfl 12 sz_nce (HNU.out) ?_)
    | (go_at_call 18; refine (seal_any ks ns ds ms _ _ HKL.out HNL.out HKB.out HNB.out HDB.out HMB.out (by rw [HDL.out]; omega) (by rw [HML.out]; omega) _ (Tab.mem HT.out hm (by simp)) (QTab.mem HQ.out hm (by simp)) (SlOld.mem HA.out hm) (SlOld.mem HP.out hm)).mono ?_; rintro e w3 ⟨gb, cap, l, he, hcap, hge, hr, hb⟩; rw [HML.out] at he hcap; subst he; rw [HXX.out ()] at hr; replace hm := hm.callNew hb hr hge; clear hb hr hge)
    | ((with_reducible refine at_op (some 33) (.load 23 (.tmp 5)) ?_); refine wpl_ldw 2 hm rfl rfl _ un_key rfl 32 sz_key (HKU.out) ?_)
    | ((with_reducible refine at_op (some 34) (.load 30 (.tmp 6)) ?_); refine wpl_ldw 1 hm rfl rfl _ un_nce rfl 12 sz_nce (HNU.out) ?_)
    | (go_at_call 11; refine (open_good ks ns ds X _ gb 0 cap m HXL.out hcap (HF.out ()) HKL.out HNL.out HKB.out HNB.out HDB.out HXB.out (by rw [HDL.out]; omega) (by rw [HXL.out]; omega) _ (Tab.mem HT.out hm (by simp)) (QTab.mem HQ.out hm (by simp)) (SlOld.mem HA.out hm) (seg_head (hm.get 0 rfl))).mono ?_; rintro e w4 ⟨gp, he, hge, hr, hb⟩; subst he; rw [HPL.out ()] at hr; replace hm := hm.callNew hb hr hge; clear hb hr hge))
  refine wp_ends0 ?_
  refine anyH_start (T := fun W => Mem w [] W [(gp, u8s ms, 5), (gb, u8s X ++ l, 5), (g6, u8s ns, 30), (g5, u8s ks, 23)]) (by kernel_rfl) hm ?_
  clear hm
  intro w5 hm
  refine anyH_takeG 0 (v := .agg (u8s ks).toArray) rfl (by kernel_rfl) (by kernel_rfl) (by kernel_rfl) rfl (fun W hW => exec_ldsG 0 _ (Mem.get hW 3 rfl) rfl _ un_key rfl 32 sz_key (by rw [HKU.out]; omega) (by rw [List.drop_zero, List.take_of_length_le (Nat.le_of_eq HKU.out)])) hm ?_
  go_simp
  refine anyH_takeG 1 (v := .agg (u8s ns).toArray) rfl (by kernel_rfl) (by kernel_rfl) (by kernel_rfl) rfl (fun W hW => exec_ldsG 0 _ (Mem.get hW 2 rfl) rfl _ un_nce rfl 12 sz_nce (by rw [HNU.out]; omega) (by rw [List.drop_zero, List.take_of_length_le (Nat.le_of_eq HNU.out)])) hm ?_
  go_simp
  refine anyH_takeG 2 (v := .slice pa dl ca) rfl (by kernel_rfl) (by kernel_rfl) (by kernel_rfl) rfl (fun W _ => by go_simp) hm ?_
  go_simp
  refine anyH_takeG 3 (v := .slice (some ⟨gb, 0, none⟩) (m + 16) cap) rfl (by kernel_rfl) (by kernel_rfl) (by kernel_rfl) rfl (fun W _ => by go_simp) hm ?_
  go_simp
  refine anyH_takeG 4 (v := .slice pp m cp) rfl (by kernel_rfl) (by kernel_rfl) (by kernel_rfl) rfl (fun W _ => by go_simp) hm ?_
  go_simp
  refine anyH_takeG 5 (v := .int .i64 (m : Int)) rfl (by kernel_rfl) (by kernel_rfl) (by kernel_rfl) rfl (fun W _ => by go_simp) hm ?_
  go_simp
  refine anyH_takeG 6 (v := .slice (some ⟨gb, 0, none⟩) m cap) rfl (by kernel_rfl) (by kernel_rfl) (by kernel_rfl) rfl (fun W _ => exec_hiS un_bs sz_u8 m (by omega) rfl rfl rfl) hm ?_
  go_simp
  refine wpAnyH_all (rs := [7, 8]) (by kernel_rfl) (by simp) ?_
  intro i hi
  simp only [List.mem_cons, List.not_mem_nil, or_false] at hi
  rcases hi with rfl | rfl
  · refine anyH_op 7 rfl rfl ?_
    intro K hK
    go_wp2_with (go_at_call 16; refine (tag_any ks ns ds (X.take m) _ _ HKL.out HNL.out HKB.out HNB.out HDB.out HTB.out (by rw [HDL.out]; omega) HTL.out _ (Tab.mem HT.out hm (by simp)) (SlOld.mem HA.out hm) (old_part (hm.get 1 rfl) m (by rw [HXL.out]; omega) (by omega))).mono ?_; rintro e wt ⟨he, hb⟩; rw [HGG.out ()] at he; subst he; replace hm := hm.call hb; clear hb)
    refine hK _ _ hm ?_
    clear hK K
    refine wpAnyH_all (rs := [8]) (by kernel_rfl) (by simp) ?_
    intro i hi
    simp only [List.mem_cons, List.not_mem_nil, or_false] at hi
    subst hi
    refine anyH_op 8 rfl rfl ?_
    intro K hK
    refine wpl_alloc _ zero_tag hm ?_
    clear hm
    intro wa g14 hm
    refine wpList_nil ?_
    refine hK _ _ hm.tail ?_
    clear hK K
    refine wpAnyH_all (rs := [9]) (by kernel_rfl) (by simp) ?_
    intro i hi
    simp only [List.mem_cons, List.not_mem_nil, or_false] at hi
    subst hi
    refine anyH_op 9 rfl rfl ?_
    intro K hK
    refine wpl_stw 0 (u8s G) hm rfl rfl rfl 16 sz_tag (by simp [u8s_length]) HGU.out (u8s_one _) ?_
    clear hm
    intro wz hm
    refine wpList_nil ?_
    refine hK _ _ hm.tail ?_
    clear hK K
    refine wpAnyH_done (by kernel_rfl) ?_ _
    simp only [endsIn]
    go_wp2_with fail
    refine wp_ends0 ?_
    refine anyH_start (T := fun W => Mem w [] W [(g14, u8s G, 42), (gp, u8s ms, 5), (gb, u8s X ++ l, 5), (g6, u8s ns, 30), (g5, u8s ks, 23)]) (by kernel_rfl) hm ?_
    clear hm
    intro w6 hm
    refine anyH_takeG 0 (v := .agg (u8s ks).toArray) rfl (by kernel_rfl) (by kernel_rfl) (by kernel_rfl) rfl (fun W hW => exec_ldsG 0 _ (Mem.get hW 4 rfl) rfl _ un_key rfl 32 sz_key (by rw [HKU.out]; omega) (by rw [List.drop_zero, List.take_of_length_le (Nat.le_of_eq HKU.out)])) hm ?_
    go_simp
    refine anyH_takeG 1 (v := .agg (u8s ns).toArray) rfl (by kernel_rfl) (by kernel_rfl) (by kernel_rfl) rfl (fun W hW => exec_ldsG 0 _ (Mem.get hW 3 rfl) rfl _ un_nce rfl 12 sz_nce (by rw [HNU.out]; omega) (by rw [List.drop_zero, List.take_of_length_le (Nat.le_of_eq HNU.out)])) hm ?_
    go_simp
    refine anyH_takeG 2 (v := .slice pa dl ca) rfl (by kernel_rfl) (by kernel_rfl) (by kernel_rfl) rfl (fun W _ => by go_simp) hm ?_
    go_simp
    refine anyH_takeG 3 (v := .slice (some ⟨gb, 0, none⟩) (m + 16) cap) rfl (by kernel_rfl) (by kernel_rfl) (by kernel_rfl) rfl (fun W _ => by go_simp) hm ?_
    go_simp
    refine anyH_takeG 4 (v := .int .u8 a) rfl (by kernel_rfl) (by kernel_rfl) (by kernel_rfl) rfl (fun W _ => by go_simp) hm ?_
    go_simp
    refine anyH_takeG 5 (v := .int .i64 a) rfl (by kernel_rfl) (by kernel_rfl) (by kernel_rfl) rfl (fun W _ => by go_simp; exact wrapi _ (by omega) (by omega)) hm ?_
    go_simp
    refine anyH_takeG 6 (v := .int .i64 (j : Int)) rfl (by kernel_rfl) (by kernel_rfl) (by kernel_rfl) rfl (fun W _ => by go_simp) hm ?_
    go_simp
    refine anyH_takeG 7 (v := .slice (some ⟨gb, 0, none⟩) j cap) rfl (by kernel_rfl) (by kernel_rfl) (by kernel_rfl) rfl (fun W _ => exec_hiS un_bs sz_u8 j (by omega) rfl rfl rfl) hm ?_
    go_simp
    refine wpAnyH_all (rs := [8]) (by kernel_rfl) (by simp) ?_
    intro i hi
    simp only [List.mem_cons, List.not_mem_nil, or_false] at hi
    subst hi
    refine anyH_op 8 rfl rfl ?_
    intro K hK
    go_wp2_with (go_at_call 11; refine (open_short ks ns (X.take j) _ _ (by rw [List.length_take]; omega) _ (old_part (hm.get 2 rfl) j (by rw [HXL.out]; omega) (by omega))).mono ?_; rintro e wo ⟨he, hb⟩; subst he; replace hm := hm.call hb; clear hb)
    refine hK _ _ hm ?_
    clear hK K
    refine anyH_takeG 9 (v := .tuple #[.slice none 0 0, .int .i64 10]) rfl (by kernel_rfl) (by kernel_rfl) (by kernel_rfl) rfl (fun W _ => by go_simp) hm ?_
    go_simp
    refine anyH_takeG 10 (v := .slice none 0 0) rfl (by kernel_rfl) (by kernel_rfl) (by kernel_rfl) rfl (fun W _ => by go_simp) hm ?_
    go_simp
    refine anyH_takeG 11 (v := .int .i64 10) rfl (by kernel_rfl) (by kernel_rfl) (by kernel_rfl) rfl (fun W _ => by go_simp) hm ?_
    go_simp
    refine anyH_takeG 12 (v := .slice none 0 0) rfl (by kernel_rfl) (by kernel_rfl) (by kernel_rfl) rfl (fun W _ => by go_simp) hm ?_
    go_simp
    refine anyH_takeG 13 (v := .int .i64 10) rfl (by kernel_rfl) (by kernel_rfl) (by kernel_rfl) rfl (fun W _ => by go_simp) hm ?_
    go_simp
    refine wpAnyH_done (by kernel_rfl) ?_ _
    simp only [endsIn]
    go_wp2_with fail
    refine wp_ends0 ?_
    refine anyH_start (T := fun W => Mem w [] W [(g14, u8s G, 42), (gp, u8s ms, 5), (gb, u8s X ++ l, 5), (g6, u8s ns, 30), (g5, u8s ks, 23)]) (by kernel_rfl) hm ?_
    clear hm
    intro w7 hm
    refine anyH_takeG 0 (v := .slice (some ⟨gb, 0, none⟩) (m + 16) cap) rfl (by kernel_rfl) (by kernel_rfl) (by kernel_rfl) rfl (fun W _ => by go_simp) hm ?_
    go_simp
    refine anyH_takeG 1 (v := .int .i64 ((m : Int) + 16)) rfl (by kernel_rfl) (by kernel_rfl) (by kernel_rfl) rfl (fun W _ => by go_simp) hm ?_
    go_simp
    refine anyH_takeG 2 (v := .slice pp m cp) rfl (by kernel_rfl) (by kernel_rfl) (by kernel_rfl) rfl (fun W _ => by go_simp) hm ?_
    go_simp
    refine anyH_takeG 3 (v := .int .i64 (m : Int)) rfl (by kernel_rfl) (by kernel_rfl) (by kernel_rfl) rfl (fun W _ => by go_simp) hm ?_
    go_simp
    refine anyH_takeG 4 (v := .int .i64 ((m : Int) + 16)) rfl (by kernel_rfl) (by kernel_rfl) (by kernel_rfl) rfl (fun W _ => by go_simp; exact wrapi _ (by omega) (by omega)) hm ?_
    go_simp
    refine anyH_takeG 5 (v := .bool true) rfl (by kernel_rfl) (by kernel_rfl) (by kernel_rfl) rfl (fun W _ => by go_simp) hm ?_
    go_simp
    refine anyH_takeG 6 (v := .bool true) rfl (by kernel_rfl) (by kernel_rfl) (by kernel_rfl) rfl (fun W _ => by go_simp) hm ?_
    go_simp
    refine anyH_takeG 7 (v := .int .i64 0) rfl (by kernel_rfl) (by kernel_rfl) (by kernel_rfl) rfl (fun W _ => by go_simp) hm ?_
    go_simp
    refine anyH_takeG 8 (v := .bool true) rfl (by kernel_rfl) (by kernel_rfl) (by kernel_rfl) rfl (fun W _ => by go_simp) hm ?_
    go_simp
    refine anyH_takeG 9 (v := .bool true) rfl (by kernel_rfl) (by kernel_rfl) (by kernel_rfl) rfl (fun W _ => by go_simp) hm ?_
    go_simp
    refine anyH_takeG 10 (v := .bool true) rfl (by kernel_rfl) (by kernel_rfl) (by kernel_rfl) rfl (fun W _ => by go_simp) hm ?_
    go_simp
    refine anyH_takeG 11 (v := .slice (some ⟨gp, 0, none⟩) m m) rfl (by kernel_rfl) (by kernel_rfl) (by kernel_rfl) rfl (fun W _ => by go_simp) hm ?_
    go_simp
    refine anyH_takeG 12 (v := .string (strOf ms)) rfl (by kernel_rfl) (by kernel_rfl) (by kernel_rfl) rfl (fun W hW => exec_tostr un_bs un_u8 un_strT _ rfl (old_all (Mem.get hW 1 rfl) HML.out (Nat.le_refl _))) hm ?_
    go_simp
    refine anyH_takeG 13 (v := .slice pp m cp) rfl (by kernel_rfl) (by kernel_rfl) (by kernel_rfl) rfl (fun W _ => by go_simp) hm ?_
    go_simp
    refine anyH_takeG 14 (v := .string (strOf ms)) rfl (by kernel_rfl) (by kernel_rfl) (by kernel_rfl) rfl (fun W hW => exec_tostr un_bs un_u8 un_strT _ rfl (SlOld.mem HP.out hW)) hm ?_
    go_simp
    refine anyH_takeG 15 (v := .bool true) rfl (by kernel_rfl) (by kernel_rfl) (by kernel_rfl) rfl (fun W _ => exec_eqsB (strOf ms) (strOf ms) true rfl rfl (beq_self_str _)) hm ?_
    go_simp
    refine anyH_takeG 16 (v := .bool true) rfl (by kernel_rfl) (by kernel_rfl) (by kernel_rfl) rfl (fun W _ => by go_simp) hm ?_
    go_simp
    refine anyH_takeG 17 (v := .bool true) rfl (by kernel_rfl) (by kernel_rfl) (by kernel_rfl) rfl (fun W _ => by go_simp) hm ?_
    go_simp
    refine anyH_takeG 18 (v := .slice (some ⟨g14, 0, none⟩) 16 16) rfl (by kernel_rfl) (by kernel_rfl) (by kernel_rfl) rfl (fun W _ => by go_simp) hm ?_
    go_simp
    refine anyH_takeG 19 (v := .string (strOf G)) rfl (by kernel_rfl) (by kernel_rfl) (by kernel_rfl) rfl (fun W hW => exec_tostr un_bs un_u8 un_strT _ rfl (old_all (Mem.get hW 0 rfl) HGL.out (Nat.le_refl _))) hm ?_
    go_simp
    refine anyH_takeG 20 (v := .slice (some ⟨gb, 0, none⟩) (m + 16) cap) rfl (by kernel_rfl) (by kernel_rfl) (by kernel_rfl) rfl (fun W _ => by go_simp) hm ?_
    go_simp
    refine anyH_takeG 21 (v := .slice pp m cp) rfl (by kernel_rfl) (by kernel_rfl) (by kernel_rfl) rfl (fun W _ => by go_simp) hm ?_
    go_simp
    refine anyH_takeG 22 (v := .int .i64 (m : Int)) rfl (by kernel_rfl) (by kernel_rfl) (by kernel_rfl) rfl (fun W _ => by go_simp) hm ?_
    go_simp
    refine anyH_takeG 23 (v := .slice (some ⟨gb, 0 + m, none⟩) 16 (cap - m)) rfl (by kernel_rfl) (by kernel_rfl) (by kernel_rfl) rfl (fun W _ => exec_loS un_bs sz_u8 m 16 (by omega) (by omega) (by omega) rfl rfl rfl) hm ?_
    go_simp
    refine anyH_takeG 24 (v := .string (strOf G)) rfl (by kernel_rfl) (by kernel_rfl) (by kernel_rfl) rfl (fun W hW => exec_tostr un_bs un_u8 un_strT _ rfl (by rw [← HGD.out ()]; exact old_tail (Mem.get hW 2 rfl) m 16 HXL.out (by omega))) hm ?_
    go_simp
    refine anyH_takeG 25 (v := .bool true) rfl (by kernel_rfl) (by kernel_rfl) (by kernel_rfl) rfl (fun W _ => exec_eqsB (strOf G) (strOf G) true rfl rfl (beq_self_str _)) hm ?_
    go_simp
    refine anyH_takeG 26 (v := .bool true) rfl (by kernel_rfl) (by kernel_rfl) (by kernel_rfl) rfl (fun W _ => by go_simp) hm ?_
    go_simp
    refine anyH_takeG 27 (v := .bool true) rfl (by kernel_rfl) (by kernel_rfl) (by kernel_rfl) rfl (fun W _ => by go_simp) hm ?_
    go_simp
    refine anyH_takeG 28 (v := .int .i64 10) rfl (by kernel_rfl) (by kernel_rfl) (by kernel_rfl) rfl (fun W _ => by go_simp) hm ?_
    go_simp
    refine anyH_takeG 29 (v := .bool true) rfl (by kernel_rfl) (by kernel_rfl) (by kernel_rfl) rfl (fun W _ => by go_simp) hm ?_
    go_simp
    refine anyH_takeG 30 (v := .bool true) rfl (by kernel_rfl) (by kernel_rfl) (by kernel_rfl) rfl (fun W _ => by go_simp) hm ?_
    go_simp
    refine anyH_takeG 31 (v := .bool true) rfl (by kernel_rfl) (by kernel_rfl) (by kernel_rfl) rfl (fun W _ => by go_simp) hm ?_
    go_simp
    refine wpAnyH_done (by kernel_rfl) ?_ _
    simp only [endsIn]
    go_wp2_with fail
    go_ret
    exact ⟨rfl, hm.below⟩
  · refine anyH_op 8 rfl rfl ?_
    intro K hK
    refine wpl_alloc _ zero_tag hm ?_
    clear hm
    intro wa g14 hm
    refine wpList_nil ?_
    refine hK _ _ hm.tail ?_
    clear hK K
    refine wpAnyH_all (rs := [7]) (by kernel_rfl) (by simp) ?_
    intro i hi
    simp only [List.mem_cons, List.not_mem_nil, or_false] at hi
    subst hi
    refine anyH_op 7 rfl rfl ?_
    intro K hK
    go_wp2_with (go_at_call 16; refine (tag_any ks ns ds (X.take m) _ _ HKL.out HNL.out HKB.out HNB.out HDB.out HTB.out (by rw [HDL.out]; omega) HTL.out _ (Tab.mem HT.out hm (by simp)) (SlOld.mem HA.out hm) (old_part (hm.get 2 rfl) m (by rw [HXL.out]; omega) (by omega))).mono ?_; rintro e wt ⟨he, hb⟩; rw [HGG.out ()] at he; subst he; replace hm := hm.call hb; clear hb)
    refine hK _ _ hm.tail ?_
    clear hK K
    refine wpAnyH_all (rs := [9]) (by kernel_rfl) (by simp) ?_
    intro i hi
    simp only [List.mem_cons, List.not_mem_nil, or_false] at hi
    subst hi
    refine anyH_op 9 rfl rfl ?_
    intro K hK
    refine wpl_stw 0 (u8s G) hm rfl rfl rfl 16 sz_tag (by simp [u8s_length]) HGU.out (u8s_one _) ?_
    clear hm
    intro wz hm
    refine wpList_nil ?_
    refine hK _ _ hm.tail ?_
    clear hK K
    refine wpAnyH_done (by kernel_rfl) ?_ _
    simp only [endsIn]
    go_wp2_with fail
    refine wp_ends0 ?_
    refine anyH_start (T := fun W => Mem w [] W [(g14, u8s G, 42), (gp, u8s ms, 5), (gb, u8s X ++ l, 5), (g6, u8s ns, 30), (g5, u8s ks, 23)]) (by kernel_rfl) hm ?_
    clear hm
    intro w6 hm
    refine anyH_takeG 0 (v := .agg (u8s ks).toArray) rfl (by kernel_rfl) (by kernel_rfl) (by kernel_rfl) rfl (fun W hW => exec_ldsG 0 _ (Mem.get hW 4 rfl) rfl _ un_key rfl 32 sz_key (by rw [HKU.out]; omega) (by rw [List.drop_zero, List.take_of_length_le (Nat.le_of_eq HKU.out)])) hm ?_
    go_simp
    refine anyH_takeG 1 (v := .agg (u8s ns).toArray) rfl (by kernel_rfl) (by kernel_rfl) (by kernel_rfl) rfl (fun W hW => exec_ldsG 0 _ (Mem.get hW 3 rfl) rfl _ un_nce rfl 12 sz_nce (by rw [HNU.out]; omega) (by rw [List.drop_zero, List.take_of_length_le (Nat.le_of_eq HNU.out)])) hm ?_
    go_simp
    refine anyH_takeG 2 (v := .slice pa dl ca) rfl (by kernel_rfl) (by kernel_rfl) (by kernel_rfl) rfl (fun W _ => by go_simp) hm ?_
    go_simp
    refine anyH_takeG 3 (v := .slice (some ⟨gb, 0, none⟩) (m + 16) cap) rfl (by kernel_rfl) (by kernel_rfl) (by kernel_rfl) rfl (fun W _ => by go_simp) hm ?_
    go_simp
    refine anyH_takeG 4 (v := .int .u8 a) rfl (by kernel_rfl) (by kernel_rfl) (by kernel_rfl) rfl (fun W _ => by go_simp) hm ?_
    go_simp
    refine anyH_takeG 5 (v := .int .i64 a) rfl (by kernel_rfl) (by kernel_rfl) (by kernel_rfl) rfl (fun W _ => by go_simp; exact wrapi _ (by omega) (by omega)) hm ?_
    go_simp
    refine anyH_takeG 6 (v := .int .i64 (j : Int)) rfl (by kernel_rfl) (by kernel_rfl) (by kernel_rfl) rfl (fun W _ => by go_simp) hm ?_
    go_simp
    refine anyH_takeG 7 (v := .slice (some ⟨gb, 0, none⟩) j cap) rfl (by kernel_rfl) (by kernel_rfl) (by kernel_rfl) rfl (fun W _ => exec_hiS un_bs sz_u8 j (by omega) rfl rfl rfl) hm ?_
    go_simp
    refine wpAnyH_all (rs := [8]) (by kernel_rfl) (by simp) ?_
    intro i hi
    simp only [List.mem_cons, List.not_mem_nil, or_false] at hi
    subst hi
    refine anyH_op 8 rfl rfl ?_
    intro K hK
    go_wp2_with (go_at_call 11; refine (open_short ks ns (X.take j) _ _ (by rw [List.length_take]; omega) _ (old_part (hm.get 2 rfl) j (by rw [HXL.out]; omega) (by omega))).mono ?_; rintro e wo ⟨he, hb⟩; subst he; replace hm := hm.call hb; clear hb)
    refine hK _ _ hm ?_
    clear hK K
    refine anyH_takeG 9 (v := .tuple #[.slice none 0 0, .int .i64 10]) rfl (by kernel_rfl) (by kernel_rfl) (by kernel_rfl) rfl (fun W _ => by go_simp) hm ?_
    go_simp
    refine anyH_takeG 10 (v := .slice none 0 0) rfl (by kernel_rfl) (by kernel_rfl) (by kernel_rfl) rfl (fun W _ => by go_simp) hm ?_
    go_simp
    refine anyH_takeG 11 (v := .int .i64 10) rfl (by kernel_rfl) (by kernel_rfl) (by kernel_rfl) rfl (fun W _ => by go_simp) hm ?_
    go_simp
    refine anyH_takeG 12 (v := .slice none 0 0) rfl (by kernel_rfl) (by kernel_rfl) (by kernel_rfl) rfl (fun W _ => by go_simp) hm ?_
    go_simp
    refine anyH_takeG 13 (v := .int .i64 10) rfl (by kernel_rfl) (by kernel_rfl) (by kernel_rfl) rfl (fun W _ => by go_simp) hm ?_
    go_simp
    refine wpAnyH_done (by kernel_rfl) ?_ _
    simp only [endsIn]
    go_wp2_with fail
    refine wp_ends0 ?_
    refine anyH_start (T := fun W => Mem w [] W [(g14, u8s G, 42), (gp, u8s ms, 5), (gb, u8s X ++ l, 5), (g6, u8s ns, 30), (g5, u8s ks, 23)]) (by kernel_rfl) hm ?_
    clear hm
    intro w7 hm
    refine anyH_takeG 0 (v := .slice (some ⟨gb, 0, none⟩) (m + 16) cap) rfl (by kernel_rfl) (by kernel_rfl) (by kernel_rfl) rfl (fun W _ => by go_simp) hm ?_
    go_simp
    refine anyH_takeG 1 (v := .int .i64 ((m : Int) + 16)) rfl (by kernel_rfl) (by kernel_rfl) (by kernel_rfl) rfl (fun W _ => by go_simp) hm ?_
    go_simp
    refine anyH_takeG 2 (v := .slice pp m cp) rfl (by kernel_rfl) (by kernel_rfl) (by kernel_rfl) rfl (fun W _ => by go_simp) hm ?_
    go_simp
    refine anyH_takeG 3 (v := .int .i64 (m : Int)) rfl (by kernel_rfl) (by kernel_rfl) (by kernel_rfl) rfl (fun W _ => by go_simp) hm ?_
    go_simp
    refine anyH_takeG 4 (v := .int .i64 ((m : Int) + 16)) rfl (by kernel_rfl) (by kernel_rfl) (by kernel_rfl) rfl (fun W _ => by go_simp; exact wrapi _ (by omega) (by omega)) hm ?_
    go_simp
    refine anyH_takeG 5 (v := .bool true) rfl (by kernel_rfl) (by kernel_rfl) (by kernel_rfl) rfl (fun W _ => by go_simp) hm ?_
    go_simp
    refine anyH_takeG 6 (v := .bool true) rfl (by kernel_rfl) (by kernel_rfl) (by kernel_rfl) rfl (fun W _ => by go_simp) hm ?_
    go_simp
    refine anyH_takeG 7 (v := .int .i64 0) rfl (by kernel_rfl) (by kernel_rfl) (by kernel_rfl) rfl (fun W _ => by go_simp) hm ?_
    go_simp
    refine anyH_takeG 8 (v := .bool true) rfl (by kernel_rfl) (by kernel_rfl) (by kernel_rfl) rfl (fun W _ => by go_simp) hm ?_
    go_simp
    refine anyH_takeG 9 (v := .bool true) rfl (by kernel_rfl) (by kernel_rfl) (by kernel_rfl) rfl (fun W _ => by go_simp) hm ?_
    go_simp
    refine anyH_takeG 10 (v := .bool true) rfl (by kernel_rfl) (by kernel_rfl) (by kernel_rfl) rfl (fun W _ => by go_simp) hm ?_
    go_simp
    refine anyH_takeG 11 (v := .slice (some ⟨gp, 0, none⟩) m m) rfl (by kernel_rfl) (by kernel_rfl) (by kernel_rfl) rfl (fun W _ => by go_simp) hm ?_
    go_simp
    refine anyH_takeG 12 (v := .string (strOf ms)) rfl (by kernel_rfl) (by kernel_rfl) (by kernel_rfl) rfl (fun W hW => exec_tostr un_bs un_u8 un_strT _ rfl (old_all (Mem.get hW 1 rfl) HML.out (Nat.le_refl _))) hm ?_
    go_simp
    refine anyH_takeG 13 (v := .slice pp m cp) rfl (by kernel_rfl) (by kernel_rfl) (by kernel_rfl) rfl (fun W _ => by go_simp) hm ?_
    go_simp
    refine anyH_takeG 14 (v := .string (strOf ms)) rfl (by kernel_rfl) (by kernel_rfl) (by kernel_rfl) rfl (fun W hW => exec_tostr un_bs un_u8 un_strT _ rfl (SlOld.mem HP.out hW)) hm ?_
    go_simp
    refine anyH_takeG 15 (v := .bool true) rfl (by kernel_rfl) (by kernel_rfl) (by kernel_rfl) rfl (fun W _ => exec_eqsB (strOf ms) (strOf ms) true rfl rfl (beq_self_str _)) hm ?_
    go_simp
    refine anyH_takeG 16 (v := .bool true) rfl (by kernel_rfl) (by kernel_rfl) (by kernel_rfl) rfl (fun W _ => by go_simp) hm ?_
    go_simp
    refine anyH_takeG 17 (v := .bool true) rfl (by kernel_rfl) (by kernel_rfl) (by kernel_rfl) rfl (fun W _ => by go_simp) hm ?_
    go_simp
    refine anyH_takeG 18 (v := .slice (some ⟨g14, 0, none⟩) 16 16) rfl (by kernel_rfl) (by kernel_rfl) (by kernel_rfl) rfl (fun W _ => by go_simp) hm ?_
    go_simp
    refine anyH_takeG 19 (v := .string (strOf G)) rfl (by kernel_rfl) (by kernel_rfl) (by kernel_rfl) rfl (fun W hW => exec_tostr un_bs un_u8 un_strT _ rfl (old_all (Mem.get hW 0 rfl) HGL.out (Nat.le_refl _))) hm ?_
    go_simp
    refine anyH_takeG 20 (v := .slice (some ⟨gb, 0, none⟩) (m + 16) cap) rfl (by kernel_rfl) (by kernel_rfl) (by kernel_rfl) rfl (fun W _ => by go_simp) hm ?_
    go_simp
    refine anyH_takeG 21 (v := .slice pp m cp) rfl (by kernel_rfl) (by kernel_rfl) (by kernel_rfl) rfl (fun W _ => by go_simp) hm ?_
    go_simp
    refine anyH_takeG 22 (v := .int .i64 (m : Int)) rfl (by kernel_rfl) (by kernel_rfl) (by kernel_rfl) rfl (fun W _ => by go_simp) hm ?_
    go_simp
    refine anyH_takeG 23 (v := .slice (some ⟨gb, 0 + m, none⟩) 16 (cap - m)) rfl (by kernel_rfl) (by kernel_rfl) (by kernel_rfl) rfl (fun W _ => exec_loS un_bs sz_u8 m 16 (by omega) (by omega) (by omega) rfl rfl rfl) hm ?_
    go_simp
    refine anyH_takeG 24 (v := .string (strOf G)) rfl (by kernel_rfl) (by kernel_rfl) (by kernel_rfl) rfl (fun W hW => exec_tostr un_bs un_u8 un_strT _ rfl (by rw [← HGD.out ()]; exact old_tail (Mem.get hW 2 rfl) m 16 HXL.out (by omega))) hm ?_
    go_simp
    refine anyH_takeG 25 (v := .bool true) rfl (by kernel_rfl) (by kernel_rfl) (by kernel_rfl) rfl (fun W _ => exec_eqsB (strOf G) (strOf G) true rfl rfl (beq_self_str _)) hm ?_
    go_simp
    refine anyH_takeG 26 (v := .bool true) rfl (by kernel_rfl) (by kernel_rfl) (by kernel_rfl) rfl (fun W _ => by go_simp) hm ?_
    go_simp
    refine anyH_takeG 27 (v := .bool true) rfl (by kernel_rfl) (by kernel_rfl) (by kernel_rfl) rfl (fun W _ => by go_simp) hm ?_
    go_simp
    refine anyH_takeG 28 (v := .int .i64 10) rfl (by kernel_rfl) (by kernel_rfl) (by kernel_rfl) rfl (fun W _ => by go_simp) hm ?_
    go_simp
    refine anyH_takeG 29 (v := .bool true) rfl (by kernel_rfl) (by kernel_rfl) (by kernel_rfl) rfl (fun W _ => by go_simp) hm ?_
    go_simp
    refine anyH_takeG 30 (v := .bool true) rfl (by kernel_rfl) (by kernel_rfl) (by kernel_rfl) rfl (fun W _ => by go_simp) hm ?_
    go_simp
    refine anyH_takeG 31 (v := .bool true) rfl (by kernel_rfl) (by kernel_rfl) (by kernel_rfl) rfl (fun W _ => by go_simp) hm ?_
    go_simp
    refine wpAnyH_done (by kernel_rfl) ?_ _
    simp only [endsIn]
    go_wp2_with fail
    go_ret
    exact ⟨rfl, hm.below⟩
end Go.Proofs.YtbfccepddfinoaaDoor
