/- The walk of the law MacBegins (L). -/
import Derived.Test.YtonbfbcbmdnelaaDoorMacBegAux
import Derived.Test.YtonbfbcbmdnelaaDoorAnyG
namespace Go.Proofs.YtonbfbcbmdnelaaDoor
open Go Go.RowKit
set_option maxHeartbeats 4000000 in
set_option maxRecDepth 100000 in
theorem macBegins_L (ks info : List Int) (v : Value) (NA NB : Nat) (hNA : NA ≤ 255) (hNB : NB ≤ 255) (hcase : NA < NB) (h50 : info.length ≤ 50) (hkl : ks.length = 32) (hkb : Bytes ks) (hib : Bytes info) (w : World) (ht : Tab w) (hv : SlOld w v info) :
    Calls Tryd.prog 4 #[.agg (u8s ks).toArray, v, .int .u8 (NA : Int), .int .u8 (NB : Int)] w fun e w' => e = .returned (.bool true) ∧ Below w.heap.size w w' := by
  obtain ⟨pi, ci, rfl, _⟩ := hv.len
  have hm := Mem.start w
  have HT : Hid _ := ht
  have HKL : Hid _ := hkl
  have HKB : Hid _ := hkb
  have HIB : Hid _ := hib
  have HV : Hid (SlOld w (.slice pi info.length ci) info) := hv
  have HU : Hid ((u8s ks).length = 32) := by show _ = _; rw [u8s_length]; exact hkl
  have hA255 : (NA : Int) ≤ 255 := by omega
  have hB255 : (NB : Int) ≤ 255 := by omega
  have h1 : (NA : Int) < (NB : Int) := by omega
  have h2 : ¬ (NB : Int) < (NA : Int) := by omega
  have h3 : (NA : Int) ≤ (NB : Int) := by omega
  have h4 : ¬ (NB : Int) ≤ (NA : Int) := by omega
  have h5i : ¬ (50 : Int) < (info.length : Int) := by omega
  obtain ⟨X, hX⟩ : ∃ X, X = expandOf ks info NA := ⟨_, rfl⟩
  obtain ⟨Y, hY⟩ : ∃ X, X = expandOf ks info NB := ⟨_, rfl⟩
  obtain ⟨D, hD⟩ : ∃ X, X = deriveOf ks info 7 := ⟨_, rfl⟩
  have HXE : Hid (∀ _ : Unit, expandOf ks info NA = X) := fun _ => hX.symm
  have HYE : Hid (∀ _ : Unit, expandOf ks info NB = Y) := fun _ => hY.symm
  have HXL : Hid (X.length = NA) := by show _ = _; rw [hX, expandOf_length]
  have HYL : Hid (Y.length = NB) := by show _ = _; rw [hY, expandOf_length]
  have HYX : Hid (∀ _ : Unit, Y.take NA = X) := by intro _; rw [hX, hY]; exact expandOf_less ks info NA NB (by omega)
  have HDE : Hid (∀ _ : Unit, deriveOf ks (strB (strOf info)) 7 = D) := by intro _; rw [hD, strB_strOf hib]
  have HDL : Hid (D.length = 32) := by show _ = _; rw [hD, deriveOf_length]
  have HDZ : Hid (∀ _ : Unit, expandOf ks (info ++ [0, 0, 0, 7]) 32 = D) := by intro _; rw [hD]; exact deriveOf_eq ks info 7
  have HIN : Hid (Bytes (info ++ [0, 0, 0, 7])) := hib.append (be4_bytes 7)
  clear ht hkl hkb hib hv hX hY hD
  go_enter Tryd.func4, Tryd.ntmps4
  go_wp2_with (first
    | ((with_reducible refine at_op (some 4) (.box 24 (.tmp 0)) ?_); refine wpl_box (u8s ks) rfl hm ?_; clear hm; intro w1 g4 hm)
    | (go_at_call 6; refine (known_any _ (Tab.mem HT.out hm (by simp))).mono ?_; rintro e w3 ⟨rfl, hb⟩; replace hm := hm.call hb; clear hb))

  refine wp_ends0 ?_
  refine anyH_start (T := fun W => Mem w [] W [(g4, u8s ks, 24)]) (by kernel_rfl) hm ?_
  clear hm
  intro w4 hm
  refine anyH_take 0 (v := .agg (u8s ks).toArray) rfl (by kernel_rfl) (by kernel_rfl) (by kernel_rfl) rfl (fun W hW => exec_lds 0 _ (Mem.get hW 0 rfl) rfl _ un_key rfl 32 sz_key (by rw [HU.out]; omega) (by rw [List.drop_zero, List.take_of_length_le (Nat.le_of_eq HU.out)])) hm ?_
  go_simp
  refine anyH_take 1 (v := .slice pi info.length ci) rfl (by kernel_rfl) (by kernel_rfl) (by kernel_rfl) rfl (fun W _ => by go_simp) hm ?_
  go_simp
  refine anyH_take 2 (v := .int .i64 (NA : Int)) rfl (by kernel_rfl) (by kernel_rfl) (by kernel_rfl) rfl (fun W _ => by go_simp) hm ?_
  go_simp
  refine anyH_take 4 (v := .agg (u8s ks).toArray) rfl (by kernel_rfl) (by kernel_rfl) (by kernel_rfl) rfl (fun W hW => exec_lds 0 _ (Mem.get hW 0 rfl) rfl _ un_key rfl 32 sz_key (by rw [HU.out]; omega) (by rw [List.drop_zero, List.take_of_length_le (Nat.le_of_eq HU.out)])) hm ?_
  go_simp
  refine anyH_take 5 (v := .slice pi info.length ci) rfl (by kernel_rfl) (by kernel_rfl) (by kernel_rfl) rfl (fun W _ => by go_simp) hm ?_
  go_simp
  refine anyH_take 6 (v := .int .i64 (NB : Int)) rfl (by kernel_rfl) (by kernel_rfl) (by kernel_rfl) rfl (fun W _ => by go_simp) hm ?_
  go_simp
  refine wpAnyH_all (rs := [3]) (by kernel_rfl) (by simp) ?_
  intro i hi
  simp only [List.mem_cons, List.not_mem_nil, or_false] at hi
  subst hi
  refine anyH_op 3 rfl rfl ?_
  intro K hK
  go_wp2_with (go_at_call 10; refine (expand_any ks info _ NA HKL.out HKB.out HIB.out (by omega) (by omega) _ (Tab.mem HT.out hm (by simp)) (SlOld.mem HV.out hm)).mono ?_; rintro e w5 ⟨gx, rfl, hge, hr, hb⟩; rw [HXE.out ()] at hr; replace hm := hm.callNew hb hr hge; clear hb hr hge)
  refine hK _ _ hm.tail ?_
  clear hK K
  refine wpAnyH_all (rs := [7]) (by kernel_rfl) (by simp) ?_
  intro i hi
  simp only [List.mem_cons, List.not_mem_nil, or_false] at hi
  subst hi
  refine anyH_op 7 rfl rfl ?_
  intro K hK
  go_wp2_with (go_at_call 10; refine (expand_any ks info _ NB HKL.out HKB.out HIB.out (by omega) (by omega) _ (Tab.mem HT.out hm (by simp)) (SlOld.mem HV.out hm)).mono ?_; rintro e w6 ⟨gy, rfl, hge, hr, hb⟩; rw [HYE.out ()] at hr; replace hm := hm.callNew hb hr hge; clear hb hr hge)
  refine hK _ _ hm.tail.tail ?_
  clear hK K
  refine anyH_take 8 (v := .slice (some ⟨gx, 0, none⟩) NA NA) rfl (by kernel_rfl) (by kernel_rfl) (by kernel_rfl) rfl (fun W _ => by go_simp) hm.tail.tail ?_
  go_simp
  refine anyH_take 9 (v := .slice (some ⟨gy, 0, none⟩) NB NB) rfl (by kernel_rfl) (by kernel_rfl) (by kernel_rfl) rfl (fun W _ => by go_simp) hm.tail.tail ?_
  go_simp
  refine wpAnyH_done (by kernel_rfl) ?_ _
  simp only [endsIn]
  go_wp2_with (first
    | ((with_reducible refine at_op (some 36) (.load 24 (.tmp 4)) ?_); refine wpl_ldw 2 hm rfl rfl _ un_key rfl 32 sz_key (HU.out) ?_)
    | ((with_reducible refine at_op (some 38) (.convert 22 9 (.tmp 37)) ?_); go_must (refine wpl_execG (.string (strOf info)) rfl (exec_tostr un_bs un_u8 un_strT _ rfl (SlOld.mem HV.out hm)) ?_))
    | (go_at_call 12; refine (derive_any ks (strOf info) 7 HKL.out HKB.out (by rw [strOf_size]; omega) (by omega) _ (Tab.mem HT.out hm (by simp))).mono ?_; rintro e w7 ⟨he, hb⟩; rw [HDE.out ()] at he; subst he; replace hm := hm.call hb; clear hb)
    | ((with_reducible refine at_op (some 13) (.alloc 24) ?_); refine wpl_alloc _ zero_key hm ?_; clear hm; intro w8a g13 hm)
    | ((with_reducible refine at_op none (.store 24 (.tmp 13) (.tmp 39)) ?_); refine wpl_stw 0 (u8s D) hm rfl rfl rfl 32 sz_key (by simp [u8s_length]) (by rw [u8s_length]; exact HDL.out) (u8s_one _) ?_; clear hm; intro w8b hm))

  refine wp_ends0 ?_
  refine anyH_start (T := fun W => Mem w [] W [(g13, u8s D, 24), (gy, u8s Y, 5), (gx, u8s X, 5), (g4, u8s ks, 24)]) (by kernel_rfl) hm ?_
  clear hm
  intro w8 hm
  refine anyH_take 0 (v := .agg (u8s ks).toArray) rfl (by kernel_rfl) (by kernel_rfl) (by kernel_rfl) rfl (fun W hW => exec_lds 0 _ (Mem.get hW 3 rfl) rfl _ un_key rfl 32 sz_key (by rw [HU.out]; omega) (by rw [List.drop_zero, List.take_of_length_le (Nat.le_of_eq HU.out)])) hm ?_
  go_simp
  refine anyH_take 1 (v := .slice pi info.length ci) rfl (by kernel_rfl) (by kernel_rfl) (by kernel_rfl) rfl (fun W _ => by go_simp) hm ?_
  go_simp
  have HM8 : Hid (Mem w [] w8 [(g13, u8s D, 24), (gy, u8s Y, 5), (gx, u8s X, 5), (g4, u8s ks, 24)]) := hm
  have HV8 : Hid (SlOld w8 (.slice pi info.length ci) info) := SlOld.mem HV.out hm
  have HT8 : Hid (Tab w8) := Tab.mem HT.out hm (by simp)
  have st := St.start w8
  clear hm
  refine wpAnyH_all (rs := [2, 3]) (by kernel_rfl) (by simp) ?_
  intro i hi
  simp only [List.mem_cons, List.not_mem_nil, or_false] at hi
  rcases hi with rfl | rfl
  · refine anyH_op 2 rfl rfl ?_
    intro K hK
    refine wpl_stApp info st rfl rfl (SlOld.mem HV8.out st.mem) (by simp; omega) ?_
    clear st
    intro va wa st
    replace st := (show St _ _ _ info _ _ from st)
    refine wpList_nil ?_
    refine hK _ _ (HM8.out.call st.mem.below) ?_
    clear hK K
    refine wpAnyH_all (rs := [3]) (by kernel_rfl) (by simp) ?_
    intro i hi
    simp only [List.mem_cons, List.not_mem_nil, or_false] at hi
    subst hi
    refine anyH_op 3 rfl rfl ?_
    intro K hK
    refine wpl_stFour st ?_
    clear st
    intro wc gc st
    refine wpList_nil ?_
    refine hK _ _ (HM8.out.call st.mem.below) ?_
    clear hK K
    refine wpAnyH_all (rs := [4]) (by kernel_rfl) (by simp) ?_
    intro i hi
    simp only [List.mem_cons, List.not_mem_nil, or_false] at hi
    subst hi
    refine anyH_op 4 rfl rfl ?_
    intro K hK
    refine wpl_stApp [0, 0, 0, 7] st rfl rfl (old_all (st.bld _ rfl).1 rfl (Nat.le_refl _)) (by simp; omega) ?_
    clear st
    intro vd wd st
    refine wpList_nil ?_
    refine hK _ _ (HM8.out.call st.mem.below) ?_
    clear hK K
    refine wpAnyH_all (rs := [5]) (by kernel_rfl) (by simp) ?_
    intro i hi
    simp only [List.mem_cons, List.not_mem_nil, or_false] at hi
    subst hi
    refine anyH_op 5 rfl rfl ?_
    intro K hK
    go_wp2_with (go_at_call 10; refine (expand_any ks (info ++ [0, 0, 0, 7]) _ 32 HKL.out HKB.out HIN.out (by simp; omega) (by omega) _ (Tab.mem HT8.out st.mem (by simp)) st.own.old).mono ?_; rintro e we ⟨gz, rfl, hge, hr, hb⟩; rw [HDZ.out ()] at hr; have hmz := (HM8.out.call st.mem.below).callNew hb hr hge; clear hb hr hge st)
    refine hK _ _ hmz.tail ?_
    clear hK K
    refine anyH_take 6 (v := .slice (some ⟨gz, 0, none⟩) 32 32) rfl (by kernel_rfl) (by kernel_rfl) (by kernel_rfl) rfl (fun W _ => by go_simp) hmz.tail ?_
    go_simp
    refine wpAnyH_done (by kernel_rfl) ?_ _
    simp only [endsIn]
    go_wp2_with fail
    refine wp_ends0 ?_
    refine anyH_start (T := fun W => Mem w [] W [(gz, u8s D, 5), (g13, u8s D, 24), (gy, u8s Y, 5), (gx, u8s X, 5), (g4, u8s ks, 24)]) (by kernel_rfl) hmz ?_
    clear hmz
    intro w16 hm
    refine anyH_take 0 (v := .slice (some ⟨gx, 0, none⟩) NA NA) rfl (by kernel_rfl) (by kernel_rfl) (by kernel_rfl) rfl (fun W _ => by go_simp) hm ?_
    go_simp
    refine anyH_take 1 (v := .int .i64 (NA : Int)) rfl (by kernel_rfl) (by kernel_rfl) (by kernel_rfl) rfl (fun W _ => by go_simp) hm ?_
    go_simp
    refine anyH_take 2 (v := .int .i64 (NA : Int)) rfl (by kernel_rfl) (by kernel_rfl) (by kernel_rfl) rfl (fun W _ => by go_simp) hm ?_
    go_simp
    refine anyH_take 3 (v := .bool true) rfl (by kernel_rfl) (by kernel_rfl) (by kernel_rfl) rfl (fun W _ => by go_simp) hm ?_
    go_simp
    refine anyH_take 4 (v := .bool true) rfl (by kernel_rfl) (by kernel_rfl) (by kernel_rfl) rfl (fun W _ => by go_simp) hm ?_
    go_simp
    refine anyH_takeG 5 (v := .slice (some ⟨gy, 0, none⟩) NB NB) rfl (by kernel_rfl) (by kernel_rfl) (by kernel_rfl) rfl (fun W _ => by go_simp) hm ?_
    go_simp
    refine anyH_takeG 6 (v := .int .i64 (NB : Int)) rfl (by kernel_rfl) (by kernel_rfl) (by kernel_rfl) rfl (fun W _ => by go_simp) hm ?_
    go_simp
    refine anyH_takeG 7 (v := .int .i64 (NB : Int)) rfl (by kernel_rfl) (by kernel_rfl) (by kernel_rfl) rfl (fun W _ => by go_simp) hm ?_
    go_simp
    refine anyH_takeG 8 (v := .bool true) rfl (by kernel_rfl) (by kernel_rfl) (by kernel_rfl) rfl (fun W _ => by go_simp) hm ?_
    go_simp
    refine anyH_take 9 (v := .bool true) rfl (by kernel_rfl) (by kernel_rfl) (by kernel_rfl) rfl (fun W _ => by go_simp) hm ?_
    go_simp
    refine anyH_take 10 (v := .bool true) rfl (by kernel_rfl) (by kernel_rfl) (by kernel_rfl) rfl (fun W _ => by go_simp) hm ?_
    go_simp
    refine anyH_takeG 11 (v := .slice (some ⟨gy, 0, none⟩) NB NB) rfl (by kernel_rfl) (by kernel_rfl) (by kernel_rfl) rfl (fun W _ => by go_simp) hm ?_
    go_simp
    refine anyH_takeG 12 (v := .int .i64 (NA : Int)) rfl (by kernel_rfl) (by kernel_rfl) (by kernel_rfl) rfl (fun W _ => by go_simp) hm ?_
    go_simp
    refine anyH_takeG 13 (v := .slice (cutHi (some ⟨gy, 0, none⟩) NB) NA NB) rfl (by kernel_rfl) (by kernel_rfl) (by kernel_rfl) rfl (fun W _ => exec_sHi un_bs sz_u8 NA (by omega) rfl rfl rfl) hm ?_
    go_simp
    refine anyH_takeG 14 (v := .string (strOf X)) rfl (by kernel_rfl) (by kernel_rfl) (by kernel_rfl) rfl (fun W hW => by rw [← HYX.out ()]; exact exec_tostr un_bs un_u8 un_strT _ rfl (old_hi (old_all (Mem.get hW 2 rfl) HYL.out (Nat.le_refl _)) NA (by omega))) hm ?_
    go_simp
    refine anyH_takeG 15 (v := .slice (some ⟨gx, 0, none⟩) NA NA) rfl (by kernel_rfl) (by kernel_rfl) (by kernel_rfl) rfl (fun W _ => by go_simp) hm ?_
    go_simp
    refine anyH_takeG 16 (v := .string (strOf X)) rfl (by kernel_rfl) (by kernel_rfl) (by kernel_rfl) rfl (fun W hW => exec_tostr un_bs un_u8 un_strT _ rfl (old_all (Mem.get hW 3 rfl) HXL.out (Nat.le_refl _))) hm ?_
    go_simp
    refine anyH_takeG 17 (v := .bool true) rfl (by kernel_rfl) (by kernel_rfl) (by kernel_rfl) rfl (fun W _ => exec_eqsB (strOf X) (strOf X) true rfl rfl (beq_self_str _)) hm ?_
    go_simp
    refine anyH_take 18 (v := .bool true) rfl (by kernel_rfl) (by kernel_rfl) (by kernel_rfl) rfl (fun W _ => by go_simp) hm ?_
    go_simp
    refine anyH_take 19 (v := .bool true) rfl (by kernel_rfl) (by kernel_rfl) (by kernel_rfl) rfl (fun W _ => by go_simp) hm ?_
    go_simp
    refine anyH_takeG 20 (v := .slice (some ⟨g13, 0, none⟩) 32 32) rfl (by kernel_rfl) (by kernel_rfl) (by kernel_rfl) rfl (fun W _ => by go_simp) hm ?_
    go_simp
    refine anyH_takeG 21 (v := .string (strOf D)) rfl (by kernel_rfl) (by kernel_rfl) (by kernel_rfl) rfl (fun W hW => exec_tostr un_bs un_u8 un_strT _ rfl (old_all (Mem.get hW 1 rfl) HDL.out (Nat.le_refl _))) hm ?_
    go_simp
    refine anyH_takeG 22 (v := .slice (some ⟨gz, 0, none⟩) 32 32) rfl (by kernel_rfl) (by kernel_rfl) (by kernel_rfl) rfl (fun W _ => by go_simp) hm ?_
    go_simp
    refine anyH_takeG 23 (v := .string (strOf D)) rfl (by kernel_rfl) (by kernel_rfl) (by kernel_rfl) rfl (fun W hW => exec_tostr un_bs un_u8 un_strT _ rfl (old_all (Mem.get hW 0 rfl) HDL.out (Nat.le_refl _))) hm ?_
    go_simp
    refine anyH_takeG 24 (v := .bool true) rfl (by kernel_rfl) (by kernel_rfl) (by kernel_rfl) rfl (fun W _ => exec_eqsB (strOf D) (strOf D) true rfl rfl (beq_self_str _)) hm ?_
    go_simp
    refine anyH_take 25 (v := .bool true) rfl (by kernel_rfl) (by kernel_rfl) (by kernel_rfl) rfl (fun W _ => by go_simp) hm ?_
    go_simp
    refine anyH_take 26 (v := .bool true) rfl (by kernel_rfl) (by kernel_rfl) (by kernel_rfl) rfl (fun W _ => by go_simp) hm ?_
    go_simp
    refine anyH_takeG 27 (v := .agg (u8s ks).toArray) rfl (by kernel_rfl) (by kernel_rfl) (by kernel_rfl) rfl (fun W hW => exec_ldsG 0 _ (Mem.get hW 4 rfl) rfl _ un_key rfl 32 sz_key (by rw [HU.out]; omega) (by rw [List.drop_zero, List.take_of_length_le (Nat.le_of_eq HU.out)])) hm ?_
    go_simp
    refine anyH_takeG 28 (v := .slice pi info.length ci) rfl (by kernel_rfl) (by kernel_rfl) (by kernel_rfl) rfl (fun W _ => by go_simp) hm ?_
    go_simp
    refine anyH_takeG 29 (v := .int .i64 (NA : Int)) rfl (by kernel_rfl) (by kernel_rfl) (by kernel_rfl) rfl (fun W _ => by go_simp) hm ?_
    go_simp
    refine anyH_takeG 30 (v := .int .i64 (-1 - (NA : Int))) rfl (by kernel_rfl) (by kernel_rfl) (by kernel_rfl) rfl (fun W _ => by go_simp; exact wrapz _ (by omega) (by omega)) hm ?_
    go_simp
    refine wpAnyH_all (rs := [31]) (by kernel_rfl) (by simp) ?_
    intro i hi
    simp only [List.mem_cons, List.not_mem_nil, or_false] at hi
    subst hi
    refine anyH_opW 31 rfl rfl ?_
    intro K hK
    go_wp2_with (go_at_call 10; refine (expand_neg ks info _ _ (by omega) _ (SlOld.mem HV.out hm)).mono ?_; rintro e w17 ⟨g77, rfl, hge, hr, hb⟩; replace hm := hm.call hb; clear hb hr hge)
    refine hK _ _ hm ?_
    clear hK K
    refine anyH_takeG 32 (v := .int .i64 0) rfl (by kernel_rfl) (by kernel_rfl) (by kernel_rfl) rfl (fun W _ => by go_simp) hm ?_
    go_simp
    refine anyH_takeG 33 (v := .bool true) rfl (by kernel_rfl) (by kernel_rfl) (by kernel_rfl) rfl (fun W _ => by go_simp) hm ?_
    go_simp
    refine anyH_take 34 (v := .bool true) rfl (by kernel_rfl) (by kernel_rfl) (by kernel_rfl) rfl (fun W _ => by go_simp) hm ?_
    go_simp
    refine anyH_take 35 (v := .bool true) rfl (by kernel_rfl) (by kernel_rfl) (by kernel_rfl) rfl (fun W _ => by go_simp) hm ?_
    go_simp
    refine wpAnyH_done (by kernel_rfl) ?_ _
    simp only [endsIn]
    go_wp2_with fail
    go_ret
    exact ⟨rfl, hm.below⟩
  · refine anyH_op 3 rfl rfl ?_
    intro K hK
    refine wpl_stFour st ?_
    clear st
    intro wc gc st
    refine wpList_nil ?_
    refine hK _ _ (HM8.out.call st.mem.below) ?_
    clear hK K
    refine wpAnyH_all (rs := [2]) (by kernel_rfl) (by simp) ?_
    intro i hi
    simp only [List.mem_cons, List.not_mem_nil, or_false] at hi
    subst hi
    refine anyH_op 2 rfl rfl ?_
    intro K hK
    refine wpl_stApp info st rfl rfl (SlOld.mem HV8.out st.mem) (by simp; omega) ?_
    clear st
    intro va wa st
    replace st := (show St _ _ _ info _ _ from st)
    refine wpList_nil ?_
    refine hK _ _ (HM8.out.call st.mem.below) ?_
    clear hK K
    refine wpAnyH_all (rs := [4]) (by kernel_rfl) (by simp) ?_
    intro i hi
    simp only [List.mem_cons, List.not_mem_nil, or_false] at hi
    subst hi
    refine anyH_op 4 rfl rfl ?_
    intro K hK
    refine wpl_stApp [0, 0, 0, 7] st rfl rfl (old_all (st.bld _ rfl).1 rfl (Nat.le_refl _)) (by simp; omega) ?_
    clear st
    intro vd wd st
    refine wpList_nil ?_
    refine hK _ _ (HM8.out.call st.mem.below) ?_
    clear hK K
    refine wpAnyH_all (rs := [5]) (by kernel_rfl) (by simp) ?_
    intro i hi
    simp only [List.mem_cons, List.not_mem_nil, or_false] at hi
    subst hi
    refine anyH_op 5 rfl rfl ?_
    intro K hK
    go_wp2_with (go_at_call 10; refine (expand_any ks (info ++ [0, 0, 0, 7]) _ 32 HKL.out HKB.out HIN.out (by simp; omega) (by omega) _ (Tab.mem HT8.out st.mem (by simp)) st.own.old).mono ?_; rintro e we ⟨gz, rfl, hge, hr, hb⟩; rw [HDZ.out ()] at hr; have hmz := (HM8.out.call st.mem.below).callNew hb hr hge; clear hb hr hge st)
    refine hK _ _ hmz.tail ?_
    clear hK K
    refine anyH_take 6 (v := .slice (some ⟨gz, 0, none⟩) 32 32) rfl (by kernel_rfl) (by kernel_rfl) (by kernel_rfl) rfl (fun W _ => by go_simp) hmz.tail ?_
    go_simp
    refine wpAnyH_done (by kernel_rfl) ?_ _
    simp only [endsIn]
    go_wp2_with fail
    refine wp_ends0 ?_
    refine anyH_start (T := fun W => Mem w [] W [(gz, u8s D, 5), (g13, u8s D, 24), (gy, u8s Y, 5), (gx, u8s X, 5), (g4, u8s ks, 24)]) (by kernel_rfl) hmz ?_
    clear hmz
    intro w16 hm
    refine anyH_take 0 (v := .slice (some ⟨gx, 0, none⟩) NA NA) rfl (by kernel_rfl) (by kernel_rfl) (by kernel_rfl) rfl (fun W _ => by go_simp) hm ?_
    go_simp
    refine anyH_take 1 (v := .int .i64 (NA : Int)) rfl (by kernel_rfl) (by kernel_rfl) (by kernel_rfl) rfl (fun W _ => by go_simp) hm ?_
    go_simp
    refine anyH_take 2 (v := .int .i64 (NA : Int)) rfl (by kernel_rfl) (by kernel_rfl) (by kernel_rfl) rfl (fun W _ => by go_simp) hm ?_
    go_simp
    refine anyH_take 3 (v := .bool true) rfl (by kernel_rfl) (by kernel_rfl) (by kernel_rfl) rfl (fun W _ => by go_simp) hm ?_
    go_simp
    refine anyH_take 4 (v := .bool true) rfl (by kernel_rfl) (by kernel_rfl) (by kernel_rfl) rfl (fun W _ => by go_simp) hm ?_
    go_simp
    refine anyH_takeG 5 (v := .slice (some ⟨gy, 0, none⟩) NB NB) rfl (by kernel_rfl) (by kernel_rfl) (by kernel_rfl) rfl (fun W _ => by go_simp) hm ?_
    go_simp
    refine anyH_takeG 6 (v := .int .i64 (NB : Int)) rfl (by kernel_rfl) (by kernel_rfl) (by kernel_rfl) rfl (fun W _ => by go_simp) hm ?_
    go_simp
    refine anyH_takeG 7 (v := .int .i64 (NB : Int)) rfl (by kernel_rfl) (by kernel_rfl) (by kernel_rfl) rfl (fun W _ => by go_simp) hm ?_
    go_simp
    refine anyH_takeG 8 (v := .bool true) rfl (by kernel_rfl) (by kernel_rfl) (by kernel_rfl) rfl (fun W _ => by go_simp) hm ?_
    go_simp
    refine anyH_take 9 (v := .bool true) rfl (by kernel_rfl) (by kernel_rfl) (by kernel_rfl) rfl (fun W _ => by go_simp) hm ?_
    go_simp
    refine anyH_take 10 (v := .bool true) rfl (by kernel_rfl) (by kernel_rfl) (by kernel_rfl) rfl (fun W _ => by go_simp) hm ?_
    go_simp
    refine anyH_takeG 11 (v := .slice (some ⟨gy, 0, none⟩) NB NB) rfl (by kernel_rfl) (by kernel_rfl) (by kernel_rfl) rfl (fun W _ => by go_simp) hm ?_
    go_simp
    refine anyH_takeG 12 (v := .int .i64 (NA : Int)) rfl (by kernel_rfl) (by kernel_rfl) (by kernel_rfl) rfl (fun W _ => by go_simp) hm ?_
    go_simp
    refine anyH_takeG 13 (v := .slice (cutHi (some ⟨gy, 0, none⟩) NB) NA NB) rfl (by kernel_rfl) (by kernel_rfl) (by kernel_rfl) rfl (fun W _ => exec_sHi un_bs sz_u8 NA (by omega) rfl rfl rfl) hm ?_
    go_simp
    refine anyH_takeG 14 (v := .string (strOf X)) rfl (by kernel_rfl) (by kernel_rfl) (by kernel_rfl) rfl (fun W hW => by rw [← HYX.out ()]; exact exec_tostr un_bs un_u8 un_strT _ rfl (old_hi (old_all (Mem.get hW 2 rfl) HYL.out (Nat.le_refl _)) NA (by omega))) hm ?_
    go_simp
    refine anyH_takeG 15 (v := .slice (some ⟨gx, 0, none⟩) NA NA) rfl (by kernel_rfl) (by kernel_rfl) (by kernel_rfl) rfl (fun W _ => by go_simp) hm ?_
    go_simp
    refine anyH_takeG 16 (v := .string (strOf X)) rfl (by kernel_rfl) (by kernel_rfl) (by kernel_rfl) rfl (fun W hW => exec_tostr un_bs un_u8 un_strT _ rfl (old_all (Mem.get hW 3 rfl) HXL.out (Nat.le_refl _))) hm ?_
    go_simp
    refine anyH_takeG 17 (v := .bool true) rfl (by kernel_rfl) (by kernel_rfl) (by kernel_rfl) rfl (fun W _ => exec_eqsB (strOf X) (strOf X) true rfl rfl (beq_self_str _)) hm ?_
    go_simp
    refine anyH_take 18 (v := .bool true) rfl (by kernel_rfl) (by kernel_rfl) (by kernel_rfl) rfl (fun W _ => by go_simp) hm ?_
    go_simp
    refine anyH_take 19 (v := .bool true) rfl (by kernel_rfl) (by kernel_rfl) (by kernel_rfl) rfl (fun W _ => by go_simp) hm ?_
    go_simp
    refine anyH_takeG 20 (v := .slice (some ⟨g13, 0, none⟩) 32 32) rfl (by kernel_rfl) (by kernel_rfl) (by kernel_rfl) rfl (fun W _ => by go_simp) hm ?_
    go_simp
    refine anyH_takeG 21 (v := .string (strOf D)) rfl (by kernel_rfl) (by kernel_rfl) (by kernel_rfl) rfl (fun W hW => exec_tostr un_bs un_u8 un_strT _ rfl (old_all (Mem.get hW 1 rfl) HDL.out (Nat.le_refl _))) hm ?_
    go_simp
    refine anyH_takeG 22 (v := .slice (some ⟨gz, 0, none⟩) 32 32) rfl (by kernel_rfl) (by kernel_rfl) (by kernel_rfl) rfl (fun W _ => by go_simp) hm ?_
    go_simp
    refine anyH_takeG 23 (v := .string (strOf D)) rfl (by kernel_rfl) (by kernel_rfl) (by kernel_rfl) rfl (fun W hW => exec_tostr un_bs un_u8 un_strT _ rfl (old_all (Mem.get hW 0 rfl) HDL.out (Nat.le_refl _))) hm ?_
    go_simp
    refine anyH_takeG 24 (v := .bool true) rfl (by kernel_rfl) (by kernel_rfl) (by kernel_rfl) rfl (fun W _ => exec_eqsB (strOf D) (strOf D) true rfl rfl (beq_self_str _)) hm ?_
    go_simp
    refine anyH_take 25 (v := .bool true) rfl (by kernel_rfl) (by kernel_rfl) (by kernel_rfl) rfl (fun W _ => by go_simp) hm ?_
    go_simp
    refine anyH_take 26 (v := .bool true) rfl (by kernel_rfl) (by kernel_rfl) (by kernel_rfl) rfl (fun W _ => by go_simp) hm ?_
    go_simp
    refine anyH_takeG 27 (v := .agg (u8s ks).toArray) rfl (by kernel_rfl) (by kernel_rfl) (by kernel_rfl) rfl (fun W hW => exec_ldsG 0 _ (Mem.get hW 4 rfl) rfl _ un_key rfl 32 sz_key (by rw [HU.out]; omega) (by rw [List.drop_zero, List.take_of_length_le (Nat.le_of_eq HU.out)])) hm ?_
    go_simp
    refine anyH_takeG 28 (v := .slice pi info.length ci) rfl (by kernel_rfl) (by kernel_rfl) (by kernel_rfl) rfl (fun W _ => by go_simp) hm ?_
    go_simp
    refine anyH_takeG 29 (v := .int .i64 (NA : Int)) rfl (by kernel_rfl) (by kernel_rfl) (by kernel_rfl) rfl (fun W _ => by go_simp) hm ?_
    go_simp
    refine anyH_takeG 30 (v := .int .i64 (-1 - (NA : Int))) rfl (by kernel_rfl) (by kernel_rfl) (by kernel_rfl) rfl (fun W _ => by go_simp; exact wrapz _ (by omega) (by omega)) hm ?_
    go_simp
    refine wpAnyH_all (rs := [31]) (by kernel_rfl) (by simp) ?_
    intro i hi
    simp only [List.mem_cons, List.not_mem_nil, or_false] at hi
    subst hi
    refine anyH_opW 31 rfl rfl ?_
    intro K hK
    go_wp2_with (go_at_call 10; refine (expand_neg ks info _ _ (by omega) _ (SlOld.mem HV.out hm)).mono ?_; rintro e w17 ⟨g77, rfl, hge, hr, hb⟩; replace hm := hm.call hb; clear hb hr hge)
    refine hK _ _ hm ?_
    clear hK K
    refine anyH_takeG 32 (v := .int .i64 0) rfl (by kernel_rfl) (by kernel_rfl) (by kernel_rfl) rfl (fun W _ => by go_simp) hm ?_
    go_simp
    refine anyH_takeG 33 (v := .bool true) rfl (by kernel_rfl) (by kernel_rfl) (by kernel_rfl) rfl (fun W _ => by go_simp) hm ?_
    go_simp
    refine anyH_take 34 (v := .bool true) rfl (by kernel_rfl) (by kernel_rfl) (by kernel_rfl) rfl (fun W _ => by go_simp) hm ?_
    go_simp
    refine anyH_take 35 (v := .bool true) rfl (by kernel_rfl) (by kernel_rfl) (by kernel_rfl) rfl (fun W _ => by go_simp) hm ?_
    go_simp
    refine wpAnyH_done (by kernel_rfl) ?_ _
    simp only [endsIn]
    go_wp2_with fail
    go_ret
    exact ⟨rfl, hm.below⟩
end Go.Proofs.YtonbfbcbmdnelaaDoor
